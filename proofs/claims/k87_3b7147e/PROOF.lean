import PyProof.Rows.All
import Wide.All
import OpenK.AllK
import Wide.FinOn
import Lean
import PyProof.EqAt
import PyProof.EqKinds
import PyProof.TupleCall
import PySem.Challenge.RW_lath_k87_papers_as_lines
set_option Elab.async false
set_option linter.all false
set_option maxRecDepth 100000
theorem au0_ (h:1=1:=by rfl):1=1:=h
theorem au1_ (h:1=1:=by decide):1=1:=h
theorem au2_ (h:1=1:=by intro _;rfl):1=1:=h

namespace PySem.W.Fast
def tw81315858884632714 := ()
def tw11948699285328755449 := ()
def tw12970878750499756352 := ()
def tw10924117056968736096 := ()
def tw13650967000881502592 := ()
def tw5102476640368321952 := ()
def tw4829429633211492960 := ()
def tw3981841266177345376 := ()
def tw14636560285391628224 := ()
def tw17895989063659809793 := ()
def tw14983029941034512481 := ()
def tw17085490119636888929 := ()
def tw12332451071066865185 := ()
def tw11078678257152105281 := ()
def tw7516410461610794817 := ()
def tw3726431416112020353 := ()
def tw12141667654036567042 := ()
def tw2840462892488620418 := ()
def tw1820553184991762946 := ()
def tw5081216178983918114 := ()
def tw13756207716415451810 := ()
def tw17016621738027387586 := ()
def tw3631590879881943746 := ()
def tw4646444497638315842 := ()
def tw3526825826232085346 := ()
def tw1798692771857675202 := ()
def tw997514316368602499 := ()
def tw4713268507884887491 := ()
def tw1514197404126182979 := ()
def tw16873696471544871811 := ()
def tw15535666136840661028 := ()
def tw9215495159721024772 := ()
def tw3269546436589398372 := ()
def tw4301215584051779972 := ()
def tw324965695507917284 := ()
def tw13951825753069857284 := ()
def tw10819202881502538468 := ()
def tw5408978801906760580 := ()
def tw12728352484605695940 := ()
def tw12967300940452482149 := ()
def tw14868626386117056773 := ()
def tw18237695570190853413 := ()
def tw6182388108861703493 := ()
def tw7455164970627533157 := ()
def tw18172158772557520325 := ()
def tw7595669509390935493 := ()
def tw5211147710084906597 := ()
def tw8740570801785814661 := ()
def tw16955522637973011077 := ()
def tw229708635265445509 := ()
def tw10050437459569408805 := ()
def tw17653392776066870374 := ()
def tw16867475812361733286 := ()
def tw11821032755255127430 := ()
def tw18408457839931133798 := ()
def tw10866773529477853223 := ()
def tw5982388343637695783 := ()
def tw970852239676008775 := ()
def tw18284109347887187367 := ()
def tw2350169485808729543 := ()
def tw171542322917625671 := ()
def tw13781429846218039111 := ()
def tw2412139819620896840 := ()
def tw14271618844588815432 := ()
def tw12708121834700031080 := ()
def tw16118013588154571912 := ()
def tw949811715787743432 := ()
def tw3237562742204826088 := ()
def tw15367343743215625736 := ()
def tw6671423973231605352 := ()
def tw16895257106527967848 := ()
def tw10638967482120213577 := ()
def tw9818284521475785833 := ()
def tw5303453979978214761 := ()
def tw3107948046639651273 := ()
def tw14929895351887369769 := ()
def tw2274030645042029994 := ()
def tw18216077381342395050 := ()
def tw17539760626062980107 := ()
def tw15713018798709383787 := ()
def tw7121157561432214251 := ()
def tw14309365838927066955 := ()
def tw376031321936220043 := ()
def tw7951508078768960491 := ()
def tw11991448074924251148 := ()
def tw7844761537205049452 := ()
def tw18130140975475822892 := ()
def tw13993228062967350604 := ()
def tw5480001862786316684 := ()
def tw4288721836974342028 := ()
def tw13680091843078077420 := ()
def tw6716841307495161965 := ()
def tw3898530418870104237 := ()
def tw8432988099439445613 := ()
def tw4391851813190762477 := ()
def tw6356974322270225518 := ()
def tw209138774550442126 := ()
def tw444686687892609390 := ()
def tw3702198905212973454 := ()
def tw5014233841160357614 := ()
def tw13952665764511089486 := ()
def tw8644022473297581038 := ()
def tw12466020358631510095 := ()
def tw14550695031784297551 := ()
def tw2321457615894060399 := ()
def tw9734902089751841199 := ()
def tw8892367136543650319 := ()
def tw7626029451339310703 := ()
def tw6532807993301344015 := ()
def tw12833392611867976880 := ()
def tw16439527432373754128 := ()
def tw5403926632162899248 := ()
def tw14672128988730772048 := ()
def tw15549049118490778224 := ()
def tw1508946702086425296 := ()
def tw2677377753315050256 := ()
def tw12779885886315624240 := ()
def tw10156152074385564881 := ()
def tw6357475193489816081 := ()
def tw164897858584328721 := ()
def tw2888396148740149873 := ()
def tw180454477381285681 := ()
def tw12556224322250845073 := ()
def tw4014619675988075441 := ()
def tw3949820667976465361 := ()
def tw17585997775493583890 := ()
def tw6562245450803554514 := ()
def tw1036105505287458162 := ()
def tw12761947635667673522 := ()
def tw14541347498207857234 := ()
def tw12913113689839907091 := ()
def tw2114678472955032883 := ()
def tw2888028813079448019 := ()
def tw14770049405390994067 := ()
def tw18402353525745132339 := ()
def tw16809769775149639571 := ()
def tw6612257001057856499 := ()
def tw8934904922967834644 := ()
def tw8377543799443868692 := ()
def tw18443262083771694100 := ()
def tw15161749303502109940 := ()
def tw4427014364347053396 := ()
def tw15765942423051011604 := ()
def tw9327157856641004180 := ()
def tw4577676077509197492 := ()
def tw8002033957178028852 := ()
def tw2416686843954123700 := ()
def tw2010912255277274068 := ()
def tw6119512385486834644 := ()
def tw4485618150956826933 := ()
def tw9613083419836089717 := ()
def tw6197070265118309749 := ()
def tw16314546701583635061 := ()
def tw16678832294392689365 := ()
def tw8725951229226394870 := ()
def tw10951370770109604118 := ()
def tw8007347878985245046 := ()
def tw15949438200126464374 := ()
def tw1060130068443097718 := ()
def tw13087723178786726678 := ()
def tw3671147034000548183 := ()
def tw3339824601087711799 := ()
def tw10286977883945009751 := ()
def tw4932108327436827319 := ()
def tw12201353459602722840 := ()
def tw2208135894540604504 := ()
def tw12714054820145832120 := ()
def tw9094005403499305240 := ()
def tw8691119085915769176 := ()
def tw9142329093970125272 := ()
def tw11787439631063369240 := ()
def tw5051258334538601240 := ()
def tw17397201515143851832 := ()
def tw1675290300705219448 := ()
def tw9880581375349560345 := ()
def tw10427502381365737689 := ()
def tw5486483191666716953 := ()
def tw17917387460194428217 := ()
def tw4611660870317403449 := ()
def tw15504991380898335129 := ()
def tw5785108004105729433 := ()
def tw6240638483392774585 := ()
def tw16645449045456952889 := ()
def tw5355965257024317049 := ()
def tw2080803222483224185 := ()
def tw6326736312677389113 := ()
def tw9078690493937800057 := ()
def tw17765836280258878522 := ()
def tw11686201418388722778 := ()
def tw11530684925750910234 := ()
def tw16560797850428554618 := ()
def tw13263082990719393178 := ()
def tw7032524190532986266 := ()
def tw12789405686941535706 := ()
def tw993901658734408218 := ()
def tw2854952033347618522 := ()
def tw1387717558248343322 := ()
def tw11177037666552345402 := ()
def tw12402437390620636058 := ()
def tw3554179864511235066 := ()
def tw3538887493978269851 := ()
def tw1150489814736457051 := ()
def tw10959923284293770587 := ()
def tw14626024976974728571 := ()
def tw2139454339644367227 := ()
def tw9914935389786526139 := ()
def tw5901552196540601819 := ()
def tw7360893996051324443 := ()
def tw13781192380617274075 := ()
def tw5210433609360962363 := ()
def tw9965474738628263004 := ()
def tw17847631282942275868 := ()
def tw9917838994466695580 := ()
def tw9446351167620331964 := ()
def tw15195152440493394620 := ()
def tw9798473525287876380 := ()
def tw7546104169167856829 := ()
def tw6631444682684053853 := ()
def tw15993923371874522589 := ()
def tw11684854727283492509 := ()
def tw17540174419874445342 := ()
def tw1164603054095972382 := ()
def tw15633007303812025694 := ()
def tw6631970351594583550 := ()
def tw9166971153176947262 := ()
def tw13139445913950196382 := ()
def tw12804063420085490366 := ()
def tw1185976656279711486 := ()
def tw3430764336887900191 := ()
def tw11302964282912020703 := ()
def tw480114424328922399 := ()
def tw4551640930792148319 := ()
def tw731615876893315487 := ()
def tw6238270227242014143 := ()
def tw1286717159273055903 := ()
def tw6243932770602580703 := ()
def tw1689914751128505151 := ()
def tw1458221167064997727 := ()
end PySem.W.Fast

namespace L2
open PySem PySem.Spec PyProof.Rows

noncomputable abbrev Key:=Sum Int Str
noncomputable def keyIs:Key→Value→Bool
  | .inl k,v=>Value.isInt k v
  | .inr x,v=>Value.isStrOf x v
noncomputable def keyH (w:World):Key→Int
  | .inl k=>hashInt k
  | .inr x=>hashStr w x
theorem keyIs_shape:∀{k:Key} {v:Value},keyIs k v=true→(∃i t,k=Sum.inl i∧v=Value.int i t)∨(∃x t,k=Sum.inr x∧v=Value.str x t)
  | .inl i,v,h=>by
    obtain ⟨t,e⟩:=Value.isInt_shape (k:=i) (v:=v) h
    exact .inl ⟨i,t,rfl,e⟩
  | .inr x,v,h=>by
    obtain ⟨t,e⟩:=Value.isStrOf_shape (x:=x) (v:=v) h
    exact .inr ⟨x,t,rfl,e⟩
theorem key_ll (a b:Int):decide ((Sum.inl a:Key)=Sum.inl b)=(a==b):=by
  by_cases e:a=b
  · subst e;simp
  · have h:¬(Sum.inl a:Key)=Sum.inl b:=fun q=>e (Sum.inl.inj q)
    rw [decide_eq_false h]
    exact (beq_eq_false_iff_ne.mpr e).symm
theorem key_rr (a b:Str):decide ((Sum.inr a:Key)=Sum.inr b)=decide (a=b):=by
  by_cases e:a=b
  · subst e;simp
  · have h:¬(Sum.inr a:Key)=Sum.inr b:=fun q=>e (Sum.inr.inj q)
    rw [decide_eq_false h,decide_eq_false e]
theorem key_lr (a:Int) (b:Str):decide ((Sum.inl a:Key)=Sum.inr b)=false:=decide_eq_false (fun q=>nomatch q)
theorem key_rl (a:Str) (b:Int):decide ((Sum.inr a:Key)=Sum.inl b)=false:=decide_eq_false (fun q=>nomatch q)

noncomputable def mixKind (prog:Program) (w:World):PySem.KeyKind prog w Key where
  is:=keyIs
  hash:=keyH w
  inj:=fun v a b ha hb=>by
    rcases keyIs_shape ha with ⟨i,t,rfl,rfl⟩ | ⟨x,t,rfl,rfl⟩
    · rcases keyIs_shape hb with ⟨j,u,rfl,e⟩ | ⟨y,u,rfl,e⟩
      · injection e with e1 _;rw [e1]
      · exact nomatch e
    · rcases keyIs_shape hb with ⟨j,u,rfl,e⟩ | ⟨y,u,rfl,e⟩
      · exact nomatch e
      · injection e with e1 _;rw [e1]
  byValue:=fun k v h=>by
    rcases keyIs_shape h with ⟨i,t,rfl,rfl⟩ | ⟨x,t,rfl,rfl⟩ <;> rfl
  pyHash:=fun hv h=>by
    rcases keyIs_shape hv with ⟨i,t,rfl,rfl⟩ | ⟨x,t,rfl,rfl⟩
    · exact wpAny_pyHash_int h
    · exact wpAny_pyHash_str h
  eqBool:=fun hu hv h=>by
    rcases keyIs_shape hu with ⟨i,t,rfl,rfl⟩ | ⟨x,t,rfl,rfl⟩
    · rcases keyIs_shape hv with ⟨j,u,rfl,rfl⟩ | ⟨y,u,rfl,rfl⟩
      · rw [key_ll] at h;exact wpAny_eqBool_int h
      · rw [key_lr] at h;exact SeqAt.EqAt.int_str i t y u _ _ _ _ h
    · rcases keyIs_shape hv with ⟨j,u,rfl,rfl⟩ | ⟨y,u,rfl,rfl⟩
      · rw [key_rl] at h;exact SeqAt.EqAt.str_int x t j u _ _ _ _ h
      · rw [key_rr] at h;exact wpAny_eqBool_str h
  «strs»:=fun k x t v h=>by
    rcases keyIs_shape h with ⟨i,u,rfl,e⟩ | ⟨y,u,rfl,e⟩
    · exact nomatch e
    · injection e with e1 _
      subst e1
      cases v <;> rfl

end L2

namespace L2
open PySem PySem.Spec PyProof.Rows

inductive V where
  | non | bl (b:Bool) | int (i:Int) | str (x:Str) | byt (b:Array UInt8) | flt (b:UInt64) | ref (a:Addr) | ty (n:String)
  deriving DecidableEq

noncomputable def RelV:V→Value→Prop
  | .non,u=>u=Value.none
  | .bl b,u=>u=Value.bool b
  | .int i,u=>∃t,u=Value.int i t
  | .str x,u=>∃t,u=Value.str x t
  | .byt b,u=>∃t,u=Value.bytes b t
  | .flt b,u=>∃t,u=Value.float b t
  | .ref a,u=>u=Value.ref a
  | .ty n,u=>u=Value.type n

noncomputable abbrev Vals:List V→List Value→Prop:=Paired RelV
theorem Vals.length {xs:List V} {us:List Value} (r:Vals xs us):xs.length=us.length:=Paired.length r
theorem Vals.get:∀{xs:List V} {us:List Value} {i:Nat} {x:V},Vals xs us→xs[i]?=some x→∃u,us[i]?=some u∧RelV x u
  | _,_,_,_,.nil,e=>by simp at e
  | _,_,0,_,.cons r _,e=>by simp at e;subst e;exact ⟨_,rfl,r⟩
  | _,_,i+1,x,.cons _ t,e=>by
    obtain ⟨u,h1,h2⟩:=Vals.get (i:=i) (x:=x) t (by simpa using e)
    exact ⟨u,by simpa using h1,h2⟩
theorem Vals.set {x:V} {u:Value} (r:RelV x u):∀{xs:List V} {us:List Value} (i:Nat),Vals xs us→Vals (xs.set i x) (us.set i u)
  | _,_,_,.nil=>.nil
  | _,_,0,.cons _ t=>.cons r t
  | _,_,i+1,.cons q t=>.cons q (Vals.set r i t)
theorem Vals.append:∀{xs ys:List V} {us ws:List Value},Vals xs us→Vals ys ws→Vals (xs++ys) (us++ws)
  | _,_,_,_,.nil,s=>s
  | _,_,_,_,.cons r t,s=>.cons r (Vals.append t s)
theorem Vals.take:∀{xs:List V} {us:List Value} (n:Nat),Vals xs us→Vals (xs.take n) (us.take n)
  | _,_,0,_=>.nil
  | _,_,_+1,.nil=>.nil
  | _,_,n+1,.cons r t=>.cons r (Vals.take n t)
theorem Vals.drop:∀{xs:List V} {us:List Value} (n:Nat),Vals xs us→Vals (xs.drop n) (us.drop n)
  | _,_,0,r=>r
  | _,_,_+1,.nil=>.nil
  | _,_,n+1,.cons _ t=>Vals.drop n t
noncomputable def RelO:Option V→Option Value→Prop
  | some v,some u=>RelV v u
  | none,none=>True
  | _,_=>False
noncomputable def KV {κ:Type}:List (κ×V)→List (κ×Value)→Prop:=Paired fun (p:κ×V) (q:κ×Value)=>p.1=q.1∧RelV p.2 q.2

noncomputable def kV:Key→V
  | .inl i=>.int i
  | .inr x=>.str x

inductive HO where
  /-- a list -/
  | lst (xs:List V)
  /-- a tuple (never changes) -/
  | tup (xs:List V)
  /-- a dict whose keys are ints and texts;one whose keys are tuples of ints and texts (the empty one is both) -/
  | dK (kvs:List (Key×V)) | dT (kvs:List (List Key×V))
  /-- a set of ints: its members,its size -/
  | set (S:Int→Bool) (n:Nat)
  /-- an instance of the class at C,its dict at dx,its attributes -/
  | ins (C dx:Addr) (fs:List (Str×V))
  /-- the dict of the instance at x -/
  | own (x:Addr)
  /-- the dict of an exception -/
  | xd (fs:List (Str×V))
  /-- a bound method,f of x -/
  | met (f x:Addr)
  /-- a range object lo,lo+1,.. below hi -/
  | rng (lo hi:Int)
  /-- a thing that is known to the object (the script;a dict while a loop walks it): read,never written while it is so -/
  | frz (o:Obj) (u:HO)
  /-- a code object's table -/
  | tbl (ps:Array Value)
  /-- any other thing,by what is true of its one object (a def of one's own: SetO a S n:=HO.ext fun h=>..) -/
  | ext (φ:Heap→Prop)

noncomputable abbrev Hp:=Addr→Option HO
noncomputable def upd (H:Hp) (a:Addr) (o:HO):Hp:=fun b=>if b=a then some o else H b
theorem upd_same {H:Hp} {a:Addr} {o:HO}:upd H a o a=some o:=by unfold upd;rw [if_pos rfl]
theorem upd_ne {H:Hp} {a b:Addr} {o:HO} (h:b≠a):upd H a o b=H b:=by unfold upd;rw [if_neg h]
theorem ne_of_none {H:Hp} {a b:Addr} {o:HO} (h:H a=some o) (h':H b=none):a≠b:=by
  intro e;subst e;rw [h] at h';cases h'

section
variable (P:Program) (w:World)
noncomputable def ObjOk (H:Hp) (h:Heap) (a:Addr):HO→Prop
  | .lst xs=>xs.length≤sizeLine∧∃(its:List Value) (n:Nat),Vals xs its∧h.get? a=some { cls:=.type "list",data:=.seq its.toArray n }
  | .tup xs=>xs.length≤sizeLine∧∃its:List Value,Vals xs its∧IsTup h a its.toArray
  | .dK kvs=>kvs.length≤sizeLine∧(a==sysModules)=false∧∃vs,KV kvs vs∧h.DictOf (mixKind P w) a vs
  | .dT kvs=>kvs.length≤sizeLine∧(a==sysModules)=false∧∃xs:List (List Key×Addr×Value),
      Paired (fun (p:List Key×V) (q:List Key×Addr×Value)=>p.1=q.1∧H q.2.1=some (.tup (p.1.map kV))∧RelV p.2 q.2.2) kvs xs ∧
      ∃o es ep,h.get? a=some o∧o.ExactDict∧o.data=.dict es ep∧es.toList=xs.map (entryOfKey (tupleKind (mixKind P w)))∧(xs.map (·.1)).Nodup
  | .set S n=>h.SetOf (intKind P w) a S n
  | .ins C dx fs=>H dx=some (.own a)∧fs.length≤1000∧dx≠a∧h.get? a=some (PySem.W.instObj C dx) ∧
      ∃mA,h.Ns1 dx mA∧(∀f,RelO (fs.lookup f) (mA f))∧PySem.Within mA (fs.map (·.1))
  | .own _=>∃o,h.get? a=some o
  | .xd fs=>∃mA,h.Ns1 a mA∧∀f,RelO (fs.lookup f) (mA f)
  | .rng lo hi=>∃t u v,h.get? a=some { cls:=.type "range",data:=.fields #[.int lo t,.int hi u,.int 1 v] }
  | .frz o u=>h.get? a=some o∧ObjOk H h a u
  | .tbl ps=>h.get? a=some { cls:=.none,data:=.fields ps }
  | .met f x=>h.get? a=some (PySem.W.methodObj (.ref f) (.ref x))
  | .ext φ=>φ h∧(∃o,h.get? a=some o)∧∀h1 h2:Heap,φ h1→(∀o,h1.get? a=some o→h2.get? a=some o)→φ h2
noncomputable def HOk (H:Hp) (h:Heap):Prop:=∀a o,H a=some o→ObjOk P w H h a o
end

section
variable {P:Program} {w:World} {H H':Hp} {h h':Heap} {a:Addr} {o:HO}
theorem ObjOk.lt (x:ObjOk P w H h a o):a<h.objs.size:=by
  cases o with
  | lst xs=>obtain ⟨_,_,_,_,e⟩:=x;exact Heap.lt_size e
  | tup xs=>obtain ⟨_,_,_,p⟩:=x;exact p.lt
  | dK kvs=>obtain ⟨_,_,_,_,o,_,_,e,_⟩:=x;exact Heap.lt_size e
  | dT kvs=>obtain ⟨_,_,_,_,o,_,_,e,_⟩:=x;exact Heap.lt_size e
  | set S n=>obtain ⟨o,_,_,_,e,_⟩:=x;exact Heap.lt_size e
  | ins C dx fs=>obtain ⟨_,_,_,e,_⟩:=x;exact Heap.lt_size e
  | own y=>obtain ⟨_,e⟩:=x;exact Heap.lt_size e
  | xd fs=>obtain ⟨_,⟨_,_,_,e,_⟩,_⟩:=x;exact Heap.lt_size e
  | rng lo hi=>obtain ⟨_,_,_,e⟩:=x;exact Heap.lt_size e
  | frz ob u=>obtain ⟨e,_⟩:=x;exact Heap.lt_size e
  | tbl ps=>exact Heap.lt_size (show h.get? a=some _ from x)
  | met f y=>exact Heap.lt_size (show h.get? a=some _ from x)
  | ext φ=>obtain ⟨_,⟨_,e⟩,_⟩:=x;exact Heap.lt_size e
theorem Paired.mapP {α β:Type} {F G:α→β→Prop}:∀{l₁:List α} {l₂:List β},Paired F l₁ l₂→(∀a b,F a b→G a b)→Paired G l₁ l₂
  | _,_,.nil,_=>.nil
  | _,_,.cons r t,f=>.cons (f _ _ r) (Paired.mapP t f)
theorem ObjOk.stay (x:ObjOk P w H h a o) (k:∀b u,(b=a∨H b=some (.own a))→h.get? b=some u→h'.get? b=some u)
    (ho:∀b,H b=some (.own a)→H' b=some (.own a)) (ht:∀b xs,H b=some (.tup xs)→H' b=some (.tup xs)):ObjOk P w H' h' a o:=by
  induction o with
  | lst xs=>obtain ⟨z,its,n,r,e⟩:=x;exact ⟨z,its,n,r,k _ _ (.inl rfl) e⟩
  | tup xs=>obtain ⟨z,its,r,ob,e,c⟩:=x;exact ⟨z,its,r,ob,k _ _ (.inl rfl) e,c⟩
  | dK kvs=>obtain ⟨z,y,vs,r,ob,es,ep,e,c⟩:=x;exact ⟨z,y,vs,r,ob,es,ep,k _ _ (.inl rfl) e,c⟩
  | dT kvs=>
    obtain ⟨z,y,xs,r,ob,es,ep,e,c⟩:=x
    exact ⟨z,y,xs,Paired.mapP r fun p q z=>⟨z.1,ht _ _ z.2.1,z.2.2⟩,ob,es,ep,k _ _ (.inl rfl) e,c⟩
  | set S n=>obtain ⟨ob,es,ep,t,e,c⟩:=x;exact ⟨ob,es,ep,t,k _ _ (.inl rfl) e,c⟩
  | ins C dx fs=>
    obtain ⟨d,z,ne,e,mA,⟨od,es,ep,e2,c⟩,r⟩:=x
    exact ⟨ho _ d,z,ne,k _ _ (.inl rfl) e,mA,⟨od,es,ep,k _ _ (.inr d) e2,c⟩,r⟩
  | own y=>obtain ⟨ob,e⟩:=x;exact ⟨ob,k _ _ (.inl rfl) e⟩
  | xd fs=>obtain ⟨mA,⟨od,es,ep,e,c⟩,r⟩:=x;exact ⟨mA,⟨od,es,ep,k _ _ (.inl rfl) e,c⟩,r⟩
  | rng lo hi=>obtain ⟨t,u,v,e⟩:=x;exact ⟨t,u,v,k _ _ (.inl rfl) e⟩
  | frz ob u ih=>obtain ⟨e,q⟩:=x;exact ⟨k _ _ (.inl rfl) e,ih q⟩
  | tbl ps=>
    have e:h.get? a=some { cls:=.none,data:=.fields ps }:=x
    show h'.get? a=some { cls:=.none,data:=.fields ps }
    exact k a _ (.inl rfl) e
  | met f y=>
    have e:h.get? a=some (PySem.W.methodObj (.ref f) (.ref y)):=x
    show h'.get? a=some (PySem.W.methodObj (.ref f) (.ref y))
    exact k a _ (.inl rfl) e
  | ext φ=>obtain ⟨p,⟨o,e⟩,st⟩:=x;exact ⟨st _ _ p fun o q=>k _ _ (.inl rfl) q,⟨o,k _ _ (.inl rfl) e⟩,st⟩
theorem HOk.lt (x:HOk P w H h) (e:H a=some o):a<h.objs.size:=(x a o e).lt
theorem HOk.fresh (x:HOk P w H h) (e:h.objs.size≤a):H a=none:=by
  cases q:H a with
  | none=>rfl
  | some u=>exact absurd (Nat.lt_of_lt_of_le (x.lt q) e) (Nat.lt_irrefl _)
theorem HOk.kept (x:HOk P w H h) (k:∀b u,h.get? b=some u→h'.get? b=some u):HOk P w H h':=fun a o e=>
  (x a o e).stay (fun b u _ q=>k b u q) (fun _ q=>q) fun _ _ q=>q
theorem HOk.laid (x:HOk P w H h) (k:∀b u,h.get? b=some u→h'.get? b=some u) (hp:h.objs.size≤a) (new:ObjOk P w (upd H a o) h' a o):HOk P w (upd H a o) h':=fun b u e=>by
  have hn:=x.fresh hp
  by_cases hb:b=a
  · subst hb;rw [upd_same] at e;cases e;exact new
  · rw [upd_ne hb] at e
    exact (x b u e).stay (fun c v _ q=>k c v q) (fun c q=>by rw [upd_ne (ne_of_none q hn)];exact q) fun c xs q=>by rw [upd_ne (ne_of_none q hn)];exact q
end

noncomputable def Rd (H:Hp) (a:Addr) (u:HO):Prop:=H a=some u∨∃o,H a=some (.frz o u)
theorem Rd.ok {P:Program} {w:World} {H:Hp} {h:Heap} {a:Addr} {u:HO} (r:Rd H a u) (x:HOk P w H h):ObjOk P w H h a u:=by
  rcases r with r | ⟨o,r⟩
  · exact x a u r
  · obtain ⟨_,q⟩:=x a _ r
    exact q
noncomputable def Mut:Option HO→Prop
  | some (.lst _)=>True
  | some (.dK _)=>True
  | some (.dT _)=>True
  | some (.set _ _)=>True
  | some (.ins _ _ _)=>True
  | some (.ext _)=>True
  | _=>False
section
variable {P:Program} {w:World} {H:Hp} {h h':Heap} {x e:Addr} {o':HO}
theorem HOk.write (ok:HOk P w H h) (mu:Mut (H x)) (he:e=x∨H e=some (.own x)) (k:∀b u,b≠e→h.get? b=some u→h'.get? b=some u) (heo:∃u,h'.get? e=some u)
    (new:ObjOk P w (upd H x o') h' x o'):HOk P w (upd H x o') h':=fun b u q=>by
  have nown:∀c y,H c=some (.own y)→c≠x:=fun c y r z=>by subst z;rw [r] at mu;exact mu
  have ntup:∀c xs,H c=some (.tup xs)→c≠x:=fun c xs r z=>by subst z;rw [r] at mu;exact mu
  by_cases hb:b=x
  · subst hb;rw [upd_same] at q;cases q;exact new
  · rw [upd_ne hb] at q
    by_cases hbe:b=e
    · have q':H b=some (.own x):=by
        rcases he with z | z
        · exact absurd (hbe.trans z) hb
        · rw [hbe];exact z
      rw [q] at q';cases q'
      obtain ⟨v,hv⟩:=heo
      exact ⟨v,by rw [hbe];exact hv⟩
    · refine (ok b u q).stay (fun c v hc r=>k c v ?_ r) (fun c r=>by rw [upd_ne (nown c b r)];exact r) fun c xs r=>by rw [upd_ne (ntup c xs r)];exact r
      rcases hc with rfl | hc
      · exact hbe
      · rintro rfl
        rcases he with z | z
        · exact nown c b hc z
        · rw [hc] at z;cases z;exact hb rfl
end

structure Un (fs ex:List Addr) (H H':Hp) (h h':Heap):Prop where
  keep:∀b o,h.get? b=some o→H b=none→b∉fs→b∉ex→h'.get? b=some o
  slot:∀b o,h.get? b=some o→H b=none→b∈fs→b∉ex→∃sl,h'.get? b=some { o with slots:=sl }
  free:∀b o,h.get? b=some o→H b=none→b∉ex→H' b=none
  there:∀b o,h.get? b=some o→b∉ex→∃o',h'.get? b=some o'
  tups:∀b xs,H b=some (.tup xs)→H' b=some (.tup xs)
  frzs:∀b o u,H b=some (.frz o u)→H' b=some (.frz o u)
  tbls:∀b ps,H b=some (.tbl ps)→∃more,H' b=some (.tbl (ps++more))
section
variable {fs fs' ex ex':List Addr} {H H1 H2:Hp} {h h1 h2 h':Heap} {a x e:Addr} {o:HO}
theorem Un.any (u:Un fs ex H H1 h h1) {b:Addr} {ob:Obj} (q:h.get? b=some ob) (n:H b=none) (hx:b∉ex):∃sl,h1.get? b=some { ob with slots:=sl }:=by
  by_cases hb:b∈fs
  · exact u.slot b ob q n hb hx
  · exact ⟨ob.slots,u.keep b ob q n hb hx⟩
theorem Un.trans (a:Un fs ex H H1 h h1) (b:Un fs ex H1 H2 h1 h2):Un fs ex H H2 h h2 where
  keep:=fun c ob q n hc hx=>b.keep c ob (a.keep c ob q n hc hx) (a.free c ob q n hx) hc hx
  slot:=fun c ob q n hc hx=>by
    obtain ⟨sl,e1⟩:=a.slot c ob q n hc hx
    obtain ⟨sl',e2⟩:=b.slot c _ e1 (a.free c ob q n hx) hc hx
    exact ⟨sl',e2⟩
  free:=fun c ob q n hx=>by
    obtain ⟨o',e1⟩:=a.there c ob q hx
    exact b.free c o' e1 (a.free c ob q n hx) hx
  there:=fun c ob q hx=>by
    obtain ⟨o',e1⟩:=a.there c ob q hx
    exact b.there c o' e1 hx
  tups:=fun c xs q=>b.tups c xs (a.tups c xs q)
  frzs:=fun c ob xs q=>b.frzs c ob xs (a.frzs c ob xs q)
  tbls:=fun c ps q=>by
    obtain ⟨m1,e1⟩:=a.tbls c ps q
    obtain ⟨m2,e2⟩:=b.tbls c _ e1
    exact ⟨m1++m2,by rw [e2,Array.append_assoc]⟩
theorem Un.kept (k:∀b u,h.get? b=some u→h'.get? b=some u):Un fs ex H H h h':=
  ⟨fun b ob q _ _ _=>k b ob q,fun b ob q _ _ _=>⟨ob.slots,k b ob q⟩,fun _ _ _ n _=>n,fun b ob q _=>⟨ob,k b ob q⟩,fun _ _ q=>q,fun _ _ _ q=>q,fun _ ps q=>⟨#[],by rw [q];simp⟩⟩
theorem Un.refl:Un fs ex H H h h:=Un.kept fun _ _ q=>q
theorem Un.laid (k:∀b u,h.get? b=some u→h'.get? b=some u) (hp:h.objs.size≤a) (hn:H a=none):Un fs ex H (upd H a o) h h' where
  keep:=fun b u q _ _ _=>k b u q
  slot:=fun b u q _ _ _=>⟨u.slots,k b u q⟩
  free:=fun b u q n _=>by rw [upd_ne (Nat.ne_of_lt (Nat.lt_of_lt_of_le (Heap.lt_size q) hp))];exact n
  there:=fun b u q _=>⟨u,k b u q⟩
  tups:=fun b xs q=>by rw [upd_ne (ne_of_none q hn)];exact q
  frzs:=fun b u xs q=>by rw [upd_ne (ne_of_none q hn)];exact q
  tbls:=fun b ps q=>⟨#[],by rw [upd_ne (ne_of_none q hn),q];simp⟩
theorem Un.write (mu:Mut (H x)) (he:e=x∨H e=some (.own x)) (k:∀b u,b≠e→h.get? b=some u→h'.get? b=some u) (heo:∃u,h'.get? e=some u):Un fs ex H (upd H x o) h h':=by
  have hx:∀b,H b=none→b≠x:=fun b n z=>by subst z;rw [n] at mu;exact mu
  have hb:∀b,H b=none→b≠e:=fun b n z=>by
    subst z
    rcases he with r | r
    · exact hx b n r
    · rw [n] at r;cases r
  have hm:∀b u,H b=some u→¬Mut (some u)→b≠x:=fun b u q nm z=>by subst z;rw [q] at mu;exact nm mu
  refine ⟨fun b u q n _ _=>k b u (hb b n) q,fun b u q n _ _=>⟨u.slots,k b u (hb b n) q⟩,fun b u q n _=>by rw [upd_ne (hx b n)];exact n,fun b u q _=>?_,
    fun b xs q=>by rw [upd_ne (hm b _ q fun z=>z)];exact q,fun b u xs q=>by rw [upd_ne (hm b _ q fun z=>z)];exact q,fun b ps q=>⟨#[],by rw [upd_ne (hm b _ q fun z=>z),q];simp⟩⟩
  by_cases hbe:b=e
  · subst hbe;exact heo
  · exact ⟨u,k b u hbe q⟩
end

noncomputable def trk (h:Heap) (H:Hp):List Addr:=(List.range h.objs.size).filter fun a=>(H a).isSome
noncomputable def hidT (h:Heap) (H:Hp):Heap:=PySem.W.hideAll h (trk h H)
theorem hidT_size (h:Heap) (H:Hp):(hidT h H).objs.size=h.objs.size:=PySem.W.hideAll_size _ _
theorem hidT_get {h:Heap} {H:Hp} {b:Addr} {o:Obj} (e:h.get? b=some o) (n:H b=none):(hidT h H).get? b=some o:=
  PySem.W.hideAll_get _ e fun hm=>by
    have q:(H b).isSome=true:=(List.mem_filter.mp hm).2
    rw [n] at q;simp at q
theorem of_hidT {h:Heap} {H:Hp} {b:Addr} {o:Obj} (e:(hidT h H).get? b=some o):h.get? b=some o∧H b=none:=by
  have e':h.get? b=some o:=PySem.W.of_hideAll (trk h H) e
  refine ⟨e',?_⟩
  cases q:H b with
  | none=>rfl
  | some x=>
    have hm:b∈trk h H:=List.mem_filter.mpr ⟨List.mem_range.mpr (Heap.lt_size e'),by simp [q]⟩
    have z:(hidT h H).get? b=none:=PySem.W.hideAll_none (trk h H) hm
    rw [z] at e;cases e

end L2

namespace L2
open PySem PySem.Spec PyProof.Rows

structure Mod (K:PySem.W.Frag) (mg:Str→Option Value) (base:Heap):Prop where
  kin:K.In base
  glob:base.Ns mainGlobals mg
  blt:∃mb,base.Ns builtinsNs mb∧∀x:Str,x ≠ "__name__"→mb x=bootBuiltins x
  nolimit:base.NoLimit

structure Cx where
  prog:Program
  w:World
  K:PySem.W.Frag
  mg:Str→Option Value
  base:Heap
  A:Around
  N:List Str
  s₀:Shared
  H₀:Hp
  env:Env
  outer:List Env
  stack:List Env
  ex:List Addr
  fn:Str→Bool
  calm:Bool
  pn:List (Addr×Obj)
  xe:Value→Shared→Prop
noncomputable def frs (l:List Env):List Addr:=l.filterMap (·.frame)
noncomputable abbrev Cx.fs (X:Cx):List Addr:=frs X.outer

noncomputable def Vis (sc:Scope) (x:Str):Prop:=sc.names.lookup x=some .local∨sc.names.lookup x=some .cell∨sc.names.lookup x=some .free
noncomputable def Loc (sc:Scope) (x:Str):Prop:=sc.names.lookup x=some .local∨sc.names.lookup x=some .cell
noncomputable def Look (env:Env) (h:Heap) (m:Str→Option Value) (x:Str) (u:Value):Prop:=
  (env.kindOf x=some .local∧m x=some u)∨((env.kindOf x=some .cell∨env.kindOf x=some .free)∧∃c,env.cells.lookup x=some c∧h.IsCell c (some u))

structure Cx.Ok (X:Cx):Prop where
  mod:Mod X.K X.mg X.base
  kind:X.env.scope.kind=.function
  glob:X.env.globals=mainGlobals
  blt:X.env.builtins=builtinsNs
  above:X.s₀.heap.objs.size≤X.env.locals
  inj:∀x y c,X.env.cells.lookup x=some c→X.env.cells.lookup y=some c→x=y
  has:∀x,(X.env.kindOf x=some .cell∨X.env.kindOf x=some .free)→∃c,X.env.cells.lookup x=some c
  cab:∀x c,X.fn x=true→X.env.cells.lookup x=some c→X.s₀.heap.objs.size≤c
  hd:X.calm=true→X.A.handled=none
  frames:X.A.frames=some X.stack
  stk:X.stack=X.outer∨(X.stack=X.env::X.outer∧X.env.frame=some X.env.locals)
  exf:∀b∈X.ex,b≠X.env.locals∧∀x c,X.env.cells.lookup x=some c→c≠b
  bs:∀b o,X.base.get? b=some o→X.s₀.heap.get? b=some o∧X.H₀ b=none
  bsz:X.base.objs.size≤X.s₀.heap.objs.size
  noex:∀b o,X.base.get? b=some o→b∉X.ex
  exfs:∀b∈X.ex,b∉X.fs
  funs:X.s₀.heap.FunFrames X.base X.outer
  frf:∀b∈X.fs,X.H₀ b=none

structure Inv (X:Cx) (pins:List (Addr×Obj)) (σ:List (Option V)) (H:Hp) (s:Shared):Prop where
  ok:X.Ok
  os:s.os=X.s₀.os
  bare:AllBare s.gens
  base:Un X.fs X.ex X.H₀ H X.s₀.heap s.heap
  loc:∃m,s.heap.Ns X.env.locals m∧∀(i:Nat) (x:Str) (v:V),X.N[i]?=some x→σ[i]?=some (some v)→Vis X.env.scope x→∃u,RelV v u∧Look X.env s.heap m x u
  cell:∀x c,X.env.cells.lookup x=some c→∃v,s.heap.IsCell c v
  free:H X.env.locals=none
  freeC:∀x c,X.env.cells.lookup x=some c→H c=none
  pin:∀p∈X.pn++pins,s.heap.get? p.1=some p.2∧H p.1=none∧p.1≠X.env.locals∧p.1∉X.fs∧∀v,p.2.data≠.cell v
  hok:HOk X.prog X.w H s.heap
  len:σ.length=X.N.length

section
variable {X:Cx} {pins:List (Addr×Obj)} {σ:List (Option V)} {H H':Hp} {s:Shared} {h':Heap}

theorem Cx.Ok.nofr (ok:X.Ok) {b:Addr} {o:Obj} (e:X.base.get? b=some o):b∉X.fs:=fun hb=>by
  have:=(ok.funs.mem hb).1
  rw [e] at this;cases this
theorem Inv.bs (I:Inv X pins σ H s):∀b o,X.base.get? b=some o→s.heap.get? b=some o∧H b=none:=fun b o e=>
  ⟨I.base.keep b o (I.ok.bs b o e).1 (I.ok.bs b o e).2 (I.ok.nofr e) (I.ok.noex b o e),I.base.free b o (I.ok.bs b o e).1 (I.ok.bs b o e).2 (I.ok.noex b o e)⟩
theorem Inv.bk (I:Inv X pins σ H s):∀b o,X.base.get? b=some o→s.heap.get? b=some o:=fun b o e=>(I.bs b o e).1
theorem Inv.mod (I:Inv X pins σ H s):Mod X.K X.mg X.base:=I.ok.mod
theorem Inv.kIn (I:Inv X pins σ H s):X.K.In s.heap:=I.ok.mod.kin.keeps I.bk
theorem Inv.lt (I:Inv X pins σ H s):X.env.locals<s.heap.objs.size:=let ⟨_,hn,_⟩:=I.loc;hn.lt
theorem Inv.sz (I:Inv X pins σ H s):X.s₀.heap.objs.size≤s.heap.objs.size:=Nat.le_trans I.ok.above (Nat.le_of_lt I.lt)
theorem Inv.nofs (I:Inv X pins σ H s) {a:Addr} (h:s.heap.objs.size≤a):a∉X.fs:=fun hb=>by
  obtain ⟨_,o,ho,_⟩:=I.ok.funs.mem hb
  exact absurd (Nat.lt_of_lt_of_le (Heap.lt_size ho) (Nat.le_trans I.sz h)) (Nat.lt_irrefl _)
theorem Inv.cne (I:Inv X pins σ H s):∀x c,X.env.cells.lookup x=some c→c≠X.env.locals:=fun x c e z=>by
  obtain ⟨v,o,ho,hd⟩:=I.cell x c e
  obtain ⟨m,⟨o',es,ep,ho',hd',_⟩,_⟩:=I.loc
  rw [z,ho'] at ho;cases ho;rw [hd'] at hd;cases hd
theorem Inv.funs (I:Inv X pins σ H s):s.heap.FunFrames X.base X.outer:=by
  have all:∀(l:List Env),(∀b∈frs l,b∈X.fs)→X.s₀.heap.FunFrames X.base l→s.heap.FunFrames X.base l:=by
    intro l
    induction l with
    | nil=>intro _ _;trivial
    | cons env r ih=>
      intro hs hl
      obtain ⟨hk,⟨L,o,hf,hn,ho,hd⟩,hr⟩:=hl
      have hL:L∈X.fs:=hs L (by unfold frs;rw [List.filterMap_cons,hf];exact List.mem_cons_self)
      obtain ⟨sl,e⟩:=I.base.slot L o ho (I.ok.frf L hL) hL fun z=>I.ok.exfs L z hL
      exact ⟨hk,⟨L,_,hf,hn,e,hd⟩,ih (fun b hb=>hs b (by unfold frs;rw [List.filterMap_cons,hf];exact List.mem_cons_of_mem _ hb)) hr⟩
  exact all X.outer (fun _ hb=>hb) I.ok.funs

theorem Inv.stack (I:Inv X pins σ H s):s.heap.FunFrames X.base X.stack:=by
  rcases I.ok.stk with e | ⟨e,hf⟩
  · rw [e];exact I.funs
  · rw [e]
    obtain ⟨m,hn,_⟩:=I.loc
    refine .cons (by rw [I.ok.kind];decide) hf hn ?_ I.funs
    exact Heap.get?_none_of_le (Nat.le_trans I.ok.bsz I.ok.above)
theorem Inv.stkSub (I:Inv X pins σ H s):∀b∈frs X.stack,b∈X.env.locals::X.fs:=fun b hb=>by
  rcases I.ok.stk with e | ⟨e,hf⟩
  · rw [e] at hb;exact List.mem_cons_of_mem _ hb
  · rw [e] at hb
    unfold frs at hb
    rw [List.filterMap_cons,hf] at hb
    exact hb
theorem Inv.stkFree (I:Inv X pins σ H s):∀b∈frs X.stack,H b=none:=fun b hb=>by
  rcases List.mem_cons.mp (I.stkSub b hb) with e | hb
  · rw [e];exact I.free
  · obtain ⟨_,o,ho,_⟩:=I.ok.funs.mem hb
    exact I.base.free b o ho (I.ok.frf b hb) fun z=>I.ok.exfs b z hb

theorem Inv.step {g':Array GenState} {t':Nat} {d':Drawn} {ch:List Addr} (I:Inv X pins σ H s)
    (hch:∀b∈ch,(b∈X.ex∨X.s₀.heap.objs.size≤b)∧b≠X.env.locals∧(∀x c,X.env.cells.lookup x=some c→c≠b)∧∀p∈X.pn++pins,p.1≠b)
    (keep:∀b o,b≠X.env.locals→b∉X.fs→b∉ch→s.heap.get? b=some o→H b=none→h'.get? b=some o)
    (slot:∀b o,b≠X.env.locals→b∈X.fs→b∉ch→s.heap.get? b=some o→H b=none→∃sl,h'.get? b=some { o with slots:=sl }) (free:∀b o,b∉ch→s.heap.get? b=some o→H b=none→H' b=none)
    (there:∀b o,b∉ch→s.heap.get? b=some o→∃o',h'.get? b=some o')
    (tups:∀b xs,H b=some (.tup xs)→H' b=some (.tup xs)) (frzs:∀b o u,H b=some (.frz o u)→H' b=some (.frz o u)) (tbls:∀b ps,H b=some (.tbl ps)→∃more,H' b=some (.tbl (ps++more)))
    (ns:∀m,s.heap.Ns X.env.locals m→h'.Ns X.env.locals m) (hok:HOk X.prog X.w H' h') (hg:AllBare g') :
    Inv X pins σ H' { s with heap:=h',gens:=g',drawn:=d',toks:=t' }:=by
  have neL:∀b o,X.s₀.heap.get? b=some o→b≠X.env.locals:=fun b o e=>Nat.ne_of_lt (Nat.lt_of_lt_of_le (Heap.lt_size e) I.ok.above)
  have neC:∀b o,X.s₀.heap.get? b=some o→b∉X.ex→b∉ch:=fun b o e hx hb=>by
    rcases (hch b hb).1 with z | z
    · exact hx z
    · exact absurd (Nat.lt_of_lt_of_le (Heap.lt_size e) z) (Nat.lt_irrefl _)
  have cellK:∀x c,X.env.cells.lookup x=some c→∀v,s.heap.IsCell c v→h'.IsCell c v:=fun x c e v ⟨o,ho,hd⟩=>by
    have nch:c∉ch:=fun z=>(hch c z).2.2.1 x c e rfl
    by_cases hc:c∈X.fs
    · obtain ⟨sl,q⟩:=slot c o (I.cne x c e) hc nch ho (I.freeC x c e)
      exact ⟨_,q,hd⟩
    · exact ⟨o,keep c o (I.cne x c e) hc nch ho (I.freeC x c e),hd⟩
  refine ⟨I.ok,I.os,hg,⟨fun b o e n hb hx=>?_,fun b o e n hb hx=>?_,fun b o e n hx=>?_,fun b o e hx=>?_,fun b xs e=>tups b xs (I.base.tups b xs e),fun b o xs e=>frzs b o xs (I.base.frzs b o xs e),fun b ps e=>?_⟩,?_,fun x c e=>?_,?_,fun x c e=>?_,fun p hp=>?_,hok,I.len⟩
  · exact keep b o (neL b o e) hb (neC b o e hx) (I.base.keep b o e n hb hx) (I.base.free b o e n hx)
  · obtain ⟨sl,e1⟩:=I.base.slot b o e n hb hx
    obtain ⟨sl',e2⟩:=slot b _ (neL b o e) hb (neC b o e hx) e1 (I.base.free b o e n hx)
    exact ⟨sl',e2⟩
  · obtain ⟨o',e1⟩:=I.base.there b o e hx
    exact free b o' (neC b o e hx) e1 (I.base.free b o e n hx)
  · obtain ⟨o',e1⟩:=I.base.there b o e hx
    exact there b o' (neC b o e hx) e1
  · obtain ⟨m1,e1⟩:=I.base.tbls b ps e
    obtain ⟨m2,e2⟩:=tbls b _ e1
    exact ⟨m1++m2,by rw [e2,Array.append_assoc]⟩
  · obtain ⟨m,hn,hl⟩:=I.loc
    refine ⟨m,ns m hn,fun i x v e1 e2 e3=>?_⟩
    obtain ⟨u,r,l⟩:=hl i x v e1 e2 e3
    refine ⟨u,r,?_⟩
    rcases l with l | ⟨k,c,e,z⟩
    · exact .inl l
    · exact .inr ⟨k,c,e,cellK x c e _ z⟩
  · obtain ⟨v,z⟩:=I.cell x c e
    exact ⟨v,cellK x c e v z⟩
  · obtain ⟨m,⟨o,_,_,ho,_⟩,_⟩:=I.loc
    exact free _ o (fun z=>(hch _ z).2.1 rfl) ho I.free
  · obtain ⟨v,o,ho,hd⟩:=I.cell x c e
    exact free c o (fun z=>(hch c z).2.2.1 x c e rfl) ho (I.freeC x c e)
  · obtain ⟨e,n,ne,nf,d⟩:=I.pin p hp
    have nch:p.1∉ch:=fun z=>(hch p.1 z).2.2.2 p hp rfl
    exact ⟨keep p.1 p.2 ne nf nch e n,free p.1 p.2 nch e n,ne,nf,d⟩
theorem Inv.un {t':Nat} (I:Inv X pins σ H s) (u:Un X.fs [] H H' s.heap h') (hok:HOk X.prog X.w H' h'):Inv X pins σ H' { s with heap:=h',toks:=t' }:=by
  obtain ⟨m,⟨o,es,ep,ho,r⟩,_⟩:=id I.loc
  obtain ⟨sl,hL⟩:=u.any ho I.free (by simp)
  exact I.step (g':=s.gens) (d':=s.drawn) (ch:=[]) (fun _ z=>nomatch z) (fun b o _ hb _ e n=>u.keep b o e n hb (by simp)) (fun b o _ hb _ e n=>u.slot b o e n hb (by simp)) (fun b o _ e n=>u.free b o e n (by simp)) (fun b o _ e=>u.there b o e (by simp)) u.tups u.frzs u.tbls (fun m' hm=>by
    obtain ⟨o',es',ep',ho',r'⟩:=hm
    rw [ho] at ho';cases ho'
    exact ⟨_,es',ep',hL,r'⟩) hok I.bare
theorem Inv.call {g':Array GenState} {t':Nat} {d':Drawn} {ch:List Addr} (I:Inv X pins σ H s) (u:Un (frs X.stack) ch H H' s.heap h') (hok:HOk X.prog X.w H' h') (hg:AllBare g')
    (hch:∀b∈ch,(b∈X.ex∨X.s₀.heap.objs.size≤b)∧b≠X.env.locals∧(∀x c,X.env.cells.lookup x=some c→c≠b)∧∀p∈X.pn++pins,p.1≠b) :
    Inv X pins σ H' { s with heap:=h',gens:=g',drawn:=d',toks:=t' }:=by
  obtain ⟨m,⟨o,es,ep,ho,r⟩,_⟩:=id I.loc
  obtain ⟨sl,hL⟩:=u.any ho I.free fun z=>(hch _ z).2.1 rfl
  exact I.step (ch:=ch) hch (fun b o hL hb hc e n=>u.keep b o e n (fun z=>(List.mem_cons.mp (I.stkSub b z)).elim hL hb) hc) (fun b o _ _ hc e n=>u.any e n hc) (fun b o hc e n=>u.free b o e n hc) (fun b o hc e=>u.there b o e hc) u.tups u.frzs u.tbls (fun m' hm=>by
    obtain ⟨o',es',ep',ho',r'⟩:=hm
    rw [ho] at ho';cases ho'
    exact ⟨_,es',ep',hL,r'⟩) hok hg
theorem Inv.turned {t':Nat} {it:Addr} (I:Inv X pins σ H s) (k:∀b o,b≠it→s.heap.get? b=some o→h'.get? b=some o) (hn:H it=none) (hL:it≠X.env.locals)
    (h1:it∈X.ex∨X.s₀.heap.objs.size≤it) (h2:∀x c,X.env.cells.lookup x=some c→c≠it) (h3:∀p∈X.pn++pins,p.1≠it):Inv X pins σ H { s with heap:=h',toks:=t' }:=by
  have nit:∀b u,H b=some u→b≠it:=fun b u e z=>by rw [z,hn] at e;cases e
  refine I.step (g':=s.gens) (d':=s.drawn) (ch:=[it]) (fun b hb=>?_) (fun b o _ _ hc e _=>k b o (fun z=>hc (by simp [z])) e) (fun b o _ _ hc e _=>⟨o.slots,k b o (fun z=>hc (by simp [z])) e⟩) (fun _ _ _ _ n=>n)
    (fun b o hc e=>⟨o,k b o (fun z=>hc (by simp [z])) e⟩) (fun _ _ e=>e) (fun _ _ _ e=>e) (fun b ps e=>⟨#[],by rw [e];simp⟩) (fun m hm=>?_) (fun b u e=>?_) I.bare
  · have e:b=it:=by simpa using hb
    subst e
    exact ⟨h1,hL,h2,h3⟩
  · obtain ⟨o,es,ep,ho,r⟩:=hm
    exact ⟨o,es,ep,k _ o (Ne.symm hL) ho,r⟩
  · refine (I.hok b u e).stay (fun c v hc q=>k c v ?_ q) (fun _ q=>q) fun _ _ q=>q
    rcases hc with z | z
    · rw [z];exact nit b u e
    · exact nit c _ z
theorem Inv.tok (I:Inv X pins σ H s) (t:Nat):Inv X pins σ H { s with toks:=t }:=I.un (h':=s.heap) (t':=t) Un.refl I.hok
theorem Inv.kept {t':Nat} (I:Inv X pins σ H s) (k:∀b u,s.heap.get? b=some u→h'.get? b=some u):Inv X pins σ H { s with heap:=h',toks:=t' }:=I.un (Un.kept k) (I.hok.kept k)
theorem Inv.laid {a:Addr} {o:HO} {t':Nat} (I:Inv X pins σ H s) (k:∀b u,s.heap.get? b=some u→h'.get? b=some u) (hp:s.heap.objs.size≤a) (new:ObjOk X.prog X.w (upd H a o) h' a o) :
    Inv X pins σ (upd H a o) { s with heap:=h',toks:=t' }:=I.un (Un.laid k hp (I.hok.fresh hp)) (I.hok.laid k hp new)
theorem Inv.write {x e:Addr} {o:HO} {t':Nat} (I:Inv X pins σ H s) (mu:Mut (H x)) (he:e=x∨H e=some (.own x)) (k:∀b u,b≠e→s.heap.get? b=some u→h'.get? b=some u) (heo:∃u,h'.get? e=some u)
    (new:ObjOk X.prog X.w (upd H x o) h' x o):Inv X pins σ (upd H x o) { s with heap:=h',toks:=t' }:=I.un (Un.write mu he k heo) (I.hok.write mu he k heo new)
theorem Inv.pins_of {pins':List (Addr×Obj)} (I:Inv X pins σ H s) (h:∀p∈pins',s.heap.get? p.1=some p.2∧H p.1=none∧p.1≠X.env.locals∧p.1∉X.fs∧∀v,p.2.data≠.cell v):Inv X pins' σ H s:=
  ⟨I.ok,I.os,I.bare,I.base,I.loc,I.cell,I.free,I.freeC,fun p hp=>(List.mem_append.mp hp).elim (fun z=>I.pin p (List.mem_append_left _ z)) (h p),I.hok,I.len⟩

theorem nodup_ix {N:List Str} (hN:N.Nodup) {i j:Nat} {x:Str} (a:N[i]?=some x) (b:N[j]?=some x):i=j:=by
  obtain ⟨h1,e1⟩:=List.getElem?_eq_some_iff.mp a
  obtain ⟨h2,e2⟩:=List.getElem?_eq_some_iff.mp b
  exact (List.getElem_inj hN).mp (e1.trans e2.symm)

theorem store_ok2 {M:Model} {A:Around} {E:Value→Shared→Prop} {i:Nat} {x:Str} {v:V} {u:Value} {Q:Unit→Shared→Prop} (I:Inv X pins σ H s) (hN:X.N.Nodup) (hi:X.N[i]?=some x) (hx:Loc X.env.scope x) (r:RelV v u)
    (h:∀s',Inv X pins (σ.set i (some v)) H s'→(∃a,Heap.SameBut a s.heap s'.heap∧(a=X.env.locals∨X.env.cells.lookup x=some a))→Q () s') (hf:X.fn x=true∨X.env.scope.names.lookup x=some .local:=by first | exact .inl rfl | exact .inr rfl | assumption):wpAny M A (storeName X.env x u) Q E s:=by
  obtain ⟨m,hn,hl⟩:=id I.loc
  have hcls:(X.env.scope.kind==.class||(X.env.scope.kind==.module&&X.env.locals != X.env.globals))=false:=by rw [I.ok.kind];rfl
  have hiσ:i<σ.length:=by rw [I.len];exact (List.getElem?_eq_some_iff.mp hi).1
  have cne:=I.cne
  have tracked:∀{a:Addr} {h':Heap},(∃o,s.heap.get? a=some o∧H a=none)→Heap.SameBut a s.heap h'→HOk X.prog X.w H h':=fun {a h'} ha hs b ob e=>by
    obtain ⟨_,_,hfree⟩:=ha
    refine (I.hok b ob e).stay (fun c w' hc q=>(hs.2 c ?_).trans q) (fun _ q=>q) fun _ _ q=>q
    rintro rfl
    rcases hc with rfl | hc
    · rw [hfree] at e;cases e
    · rw [hfree] at hc;cases hc
  rcases hx with hk | hk
  · refine wpAny_storeName_local hk hn (fun h' hn' hs=>?_) hcls
    obtain ⟨oL,_,_,hoL,_⟩:=id hn
    refine h _ ⟨I.ok,I.os,I.bare,⟨fun b o e n hb hx=>?_,fun b o e n hb hx=>?_,I.base.free,fun b o e hx=>?_,I.base.tups,I.base.frzs,I.base.tbls⟩,⟨_,hn',fun j y v' e1 e2 e3=>?_⟩,fun y c e=>?_,I.free,I.freeC,fun p hp=>?_,tracked ⟨oL,hoL,I.free⟩ hs,by simpa using I.len⟩ ⟨_,hs,.inl rfl⟩
    · exact (hs.2 b (Nat.ne_of_lt (Nat.lt_of_lt_of_le (Heap.lt_size e) I.ok.above))).trans (I.base.keep b o e n hb hx)
    · obtain ⟨sl,e1⟩:=I.base.slot b o e n hb hx
      exact ⟨sl,(hs.2 b (Nat.ne_of_lt (Nat.lt_of_lt_of_le (Heap.lt_size e) I.ok.above))).trans e1⟩
    · obtain ⟨o',e1⟩:=I.base.there b o e hx
      exact ⟨o',(hs.2 b (Nat.ne_of_lt (Nat.lt_of_lt_of_le (Heap.lt_size e) I.ok.above))).trans e1⟩
    · by_cases hj:j=i
      · subst hj
        rw [hi] at e1;cases e1
        rw [List.getElem?_set_self hiσ] at e2
        cases e2
        exact ⟨u,r,.inl ⟨hk,by simp⟩⟩
      · rw [List.getElem?_set_ne (Ne.symm hj)] at e2
        obtain ⟨u',r',q⟩:=hl j y v' e1 e2 e3
        refine ⟨u',r',?_⟩
        rcases q with ⟨k,e⟩ | ⟨k,c,e,z⟩
        · refine .inl ⟨k,?_⟩
          have:y≠x:=fun e=>hj (nodup_ix hN e1 (e▸hi))
          simp [this,e]
        · exact .inr ⟨k,c,e,z.sameBut hs (cne y c e)⟩
    · obtain ⟨w',z⟩:=I.cell y c e
      exact ⟨w',z.sameBut hs (cne y c e)⟩
    · obtain ⟨e,n,ne,nf,d⟩:=I.pin p hp
      exact ⟨(hs.2 p.1 ne).trans e,n,ne,nf,d⟩
  · have hfn:X.fn x=true:=by
      rcases hf with z | z
      · exact z
      · rw [z] at hk;cases hk
    obtain ⟨c,hc⟩:=I.ok.has x (.inl hk)
    obtain ⟨w',z⟩:=I.cell x c hc
    refine wpAny_storeName_cell I.ok.kind hk hc z (fun h' hc' hs=>?_)
    obtain ⟨oc,hoc,hocd⟩:=id z
    refine h { s with heap:=h' } ⟨I.ok,I.os,I.bare,⟨fun b o e n hb hx=>?_,fun b o e n hb hx=>?_,I.base.free,fun b o e hx=>?_,I.base.tups,I.base.frzs,I.base.tbls⟩,⟨m,hn.sameBut hs (Ne.symm (cne x c hc)),fun j y v' e1 e2 e3=>?_⟩,fun y c' e=>?_,I.free,I.freeC,fun p hp=>?_,tracked ⟨oc,hoc,I.freeC x c hc⟩ hs,by simpa using I.len⟩ ⟨c,hs,.inr hc⟩
    · exact (hs.2 b (Nat.ne_of_lt (Nat.lt_of_lt_of_le (Heap.lt_size e) (I.ok.cab x c hfn hc)))).trans (I.base.keep b o e n hb hx)
    · obtain ⟨sl,e1⟩:=I.base.slot b o e n hb hx
      exact ⟨sl,(hs.2 b (Nat.ne_of_lt (Nat.lt_of_lt_of_le (Heap.lt_size e) (I.ok.cab x c hfn hc)))).trans e1⟩
    · obtain ⟨o',e1⟩:=I.base.there b o e hx
      exact ⟨o',(hs.2 b (Nat.ne_of_lt (Nat.lt_of_lt_of_le (Heap.lt_size e) (I.ok.cab x c hfn hc)))).trans e1⟩
    · by_cases hj:j=i
      · subst hj
        rw [hi] at e1;cases e1
        rw [List.getElem?_set_self hiσ] at e2
        cases e2
        exact ⟨u,r,.inr ⟨.inl hk,c,hc,hc'⟩⟩
      · rw [List.getElem?_set_ne (Ne.symm hj)] at e2
        obtain ⟨u',r',q⟩:=hl j y v' e1 e2 e3
        refine ⟨u',r',?_⟩
        rcases q with q | ⟨k,c',e,z'⟩
        · exact .inl q
        · refine .inr ⟨k,c',e,z'.sameBut hs ?_⟩
          rintro rfl
          exact hj (nodup_ix hN e1 (I.ok.inj _ _ _ e hc▸hi))
    · by_cases hcc:c'=c
      · subst hcc;exact ⟨_,hc'⟩
      · obtain ⟨w2,z2⟩:=I.cell y c' e
        exact ⟨w2,z2.sameBut hs hcc⟩
    · obtain ⟨e,n,ne,nf,d⟩:=I.pin p hp
      refine ⟨(hs.2 p.1 ?_).trans e,n,ne,nf,d⟩
      intro q
      rw [q,hoc] at e
      have q':oc=p.2:=Option.some.inj e
      exact d w' (by rw [← q'];exact hocd)
theorem store_ok {M:Model} {A:Around} {E:Value→Shared→Prop} {i:Nat} {x:Str} {v:V} {u:Value} {Q:Unit→Shared→Prop} (I:Inv X pins σ H s) (hN:X.N.Nodup) (hi:X.N[i]?=some x) (hx:Loc X.env.scope x) (r:RelV v u)
    (h:∀s',Inv X pins (σ.set i (some v)) H s'→Q () s') (hf:X.fn x=true∨X.env.scope.names.lookup x=some .local:=by first | exact .inl rfl | exact .inr rfl | assumption):wpAny M A (storeName X.env x u) Q E s:=
  store_ok2 I hN hi hx r (fun s' I' _=>h s' I') hf
theorem Inv.call' {s':Shared} {ch:List Addr} (I:Inv X pins σ H s) (ho:s'.os=s.os) (u:Un (frs X.stack) ch H H' s.heap s'.heap) (hok:HOk X.prog X.w H' s'.heap) (hg:AllBare s'.gens)
    (hch:∀b∈ch,(b∈X.ex∨X.s₀.heap.objs.size≤b)∧b≠X.env.locals∧(∀x c,X.env.cells.lookup x=some c→c≠b)∧∀p∈X.pn++pins,p.1≠b):Inv X pins σ H' s':=by
  obtain ⟨h',g',d',t',o'⟩:=s'
  have e:o'=s.os:=ho
  subst e
  exact I.call (g':=g') (t':=t') (d':=d') u hok hg hch
end

noncomputable abbrev XK:=Value→Option Addr→Hp→Prop
noncomputable abbrev St:=List (Option V)
noncomputable abbrev VK:=V→Hp→Prop
noncomputable abbrev TE:=St→Hp→VK→Prop
noncomputable abbrev TT:=St→Hp→(Bool→Hp→Prop)→Prop
noncomputable abbrev TA:=St→Hp→(List V→Hp→Prop)→Prop
structure Ends where
  nx:St→Hp→Prop
  rt:VK
  bk:St→Hp→Prop:=fun _ _=>False
  ct:St→Hp→Prop:=fun _ _=>False
noncomputable abbrev TS:=Ends→St→Hp→Prop

noncomputable def EP (X:Cx) (pins:List (Addr×Obj)) (σ:St) (Q:VK) (u:Value) (s':Shared):Prop:=∃v H',Inv X pins σ H' s'∧RelV v u∧Q v H'
noncomputable def TP (X:Cx) (pins:List (Addr×Obj)) (σ:St) (Q:Bool→Hp→Prop) (b:Bool) (s':Shared):Prop:=∃H',Inv X pins σ H' s'∧Q b H'
noncomputable def AP (X:Cx) (pins:List (Addr×Obj)) (σ:St) (Q:List V→Hp→Prop) (us:List Value) (s':Shared):Prop:=∃vs H',Inv X pins σ H' s'∧Vals vs us∧Q vs H'
noncomputable def SP (X:Cx) (pins:List (Addr×Obj)) (D:Ends) (f:Flow) (s':Shared):Prop:=
  match f with
  | .next=>∃σ' H',Inv X pins σ' H' s'∧D.nx σ' H'
  | .brk=>∃σ' H',Inv X pins σ' H' s'∧D.bk σ' H'
  | .cont=>∃σ' H',Inv X pins σ' H' s'∧D.ct σ' H'
  | .ret u=>∃v σ' H',Inv X pins σ' H' s'∧RelV v u∧D.rt v H'

noncomputable def PE (X:Cx) (e:Expr) (t:TE):Prop:=
  ∀(pins:List (Addr×Obj)) (s:Shared) (σ:St) (H:Hp) (Q:VK),Inv X pins σ H s→t σ H Q→wpAny (model X.prog X.w) X.A (eval e X.env) (EP X pins σ Q) X.xe s
noncomputable def PT (X:Cx) (e:Expr) (t:TT):Prop:=
  ∀(pins:List (Addr×Obj)) (s:Shared) (σ:St) (H:Hp) (Q:Bool→Hp→Prop),Inv X pins σ H s→t σ H Q→wpAny (model X.prog X.w) X.A (isTrue e X.env (eval e X.env)) (TP X pins σ Q) X.xe s
noncomputable def PW (X:Cx) (e:Expr) (t:TT):Prop:=
  ∀(whole:Sem Value) (pins:List (Addr×Obj)) (s:Shared) (σ:St) (H:Hp) (Q:Bool→Hp→Prop),Inv X pins σ H s→t σ H Q→wpAny (model X.prog X.w) X.A (isTrue e X.env whole) (TP X pins σ Q) X.xe s
theorem PW.pt {X:Cx} {e:Expr} {t:TT} (h:PW X e t):PT X e t:=h _
noncomputable def PA (X:Cx) (es:List Expr) (t:TA):Prop:=
  ∀(pos:Pos) (pins:List (Addr×Obj)) (s:Shared) (σ:St) (H:Hp) (Q:List V→Hp→Prop),Inv X pins σ H s→t σ H Q→wpAny (model X.prog X.w) X.A (spliced (backTo pos (starEach es X.env))) (AP X pins σ Q) X.xe s
noncomputable def PS (X:Cx) (st:Stmt) (t:TS):Prop:=
  ∀(pins:List (Addr×Obj)) (s:Shared) (σ:St) (H:Hp) (D:Ends),Inv X pins σ H s→t D σ H→wpAny (model X.prog X.w) X.A (exec st X.env) (SP X pins D) X.xe s
noncomputable def PSs (X:Cx) (st:List Stmt) (t:TS):Prop:=
  ∀(pins:List (Addr×Obj)) (s:Shared) (σ:St) (H:Hp) (D:Ends),Inv X pins σ H s→t D σ H→wpAny (model X.prog X.w) X.A (execs st X.env) (SP X pins D) X.xe s
theorem thn {α:Type} {t:Sem α} {Q Q':α→Shared→Prop} {M:Model} {A:Around} {E:Value→Shared→Prop} {s:Shared} (h:wpAny M A t Q E s) (hQ:∀a s,Q a s→Q' a s):wpAny M A t Q' E s:=wpAny_mono h hQ fun _ _ x=>x
end L2

namespace L2
open PySem PySem.Spec PyProof.Rows
section
variable {X:Cx}

noncomputable def tVar (i:Nat):TE:=fun σ H Q=>∃v,σ[i]?=some (some v)∧Q v H
noncomputable def tC (v:V):TE:=fun _ H Q=>Q v H
theorem pe_var {i:Nat} {x:Str} {pos:Pos} (hN:X.N[i]?=some x) (hv:Vis X.env.scope x) (hd:autoParam ((x==("__debug__":Str))=false) au1_._auto_1) (hcd:autoParam ((x==("__classdict__":Str))=false) au1_._auto_1):PE X (.Name x pos) (tVar i):=by
  intro pins s σ H Q I h
  obtain ⟨v,e,h⟩:=h
  obtain ⟨m,hn,hl⟩:=I.loc
  obtain ⟨u,r,l⟩:=hl i x v hN e hv
  have fin:EP X pins σ Q u s:=⟨v,H,I,r,h⟩
  rcases l with ⟨hk,hm⟩ | ⟨hk,c,hc,hcell⟩
  · exact wpAny_Name (wpAny_loadName_local I.ok.kind hk hn hm fin) hd
  · rcases hk with hk | hk
    · exact wpAny_Name (wpAny_loadName_cell I.ok.kind hk hc hcell fin) hd
    · exact wpAny_Name (wpAny_loadName_free I.ok.kind hk hc hcell fin hcd) hd
theorem pe_int {i j pos}:PE X (.Constant (.int i) j pos) (tC (.int i)):=fun _ _ _ H _ I h=>wpAny_Constant_int ⟨.int i,H,I.tok _,⟨_,rfl⟩,h⟩
theorem pe_bl {b j pos}:PE X (.Constant (.bool b) j pos) (tC (.bl b)):=fun _ _ _ H _ I h=>Constant_bool ⟨.bl b,H,I,rfl,h⟩
theorem pe_non {j pos}:PE X (.Constant .none j pos) (tC .non):=fun _ _ _ H _ I h=>Constant_none ⟨.non,H,I,rfl,h⟩
theorem pe_str {x j pos}:PE X (.Constant (.str x) j pos) (tC (.str x)):=fun _ _ _ H _ I h=>Calls.Constant_str ⟨.str x,H,I.tok _,⟨_,rfl⟩,h⟩

noncomputable def Gl (X:Cx) (x:Str):Prop:=X.env.kindOf x=some .globalImplicit
theorem ld_glob {E:Value→Shared→Prop} {pins:List (Addr×Obj)} {s:Shared} {σ:St} {H:Hp} {x:Str} {u:Value} {pos:Pos} {Q:Value→Shared→Prop} (I:Inv X pins σ H s) (hg:Gl X x) (hm:X.mg x=some u) (h:Q u s)
    (hd:autoParam ((x==("__debug__":Str))=false) au1_._auto_1):wpAny (model X.prog X.w) X.A (eval (.Name x pos) X.env) Q E s:=
  Calls.Name_function_global I.ok.kind hg (Calls.loadGlobal_global (by rw [I.ok.glob];exact I.mod.glob.keeps I.bk) hm h) hd
theorem ld_blt {E:Value→Shared→Prop} {pins:List (Addr×Obj)} {s:Shared} {σ:St} {H:Hp} {x:Str} {u:Value} {pos:Pos} {Q:Value→Shared→Prop} (I:Inv X pins σ H s) (hg:Gl X x) (hm:X.mg x=none) (hv:bootBuiltins x=some u) (h:Q u s)
    (hn:autoParam (x ≠ "__name__") au1_._auto_1) (hd:autoParam ((x==("__debug__":Str))=false) au1_._auto_1):wpAny (model X.prog X.w) X.A (eval (.Name x pos) X.env) Q E s:=by
  obtain ⟨mb,h1,h2⟩:=I.mod.blt
  exact Calls.Name_function_global I.ok.kind hg (Calls.loadGlobal_builtin (by rw [I.ok.glob];exact I.mod.glob.keeps I.bk) hm (by rw [I.ok.blt];exact h1.keeps I.bk) ((h2 x hn).trans hv) h) hd
theorem pe_glob {x:Str} {v:V} {u:Value} {pos:Pos} (hg:Gl X x) (hm:X.mg x=some u) (r:RelV v u) (hd:autoParam ((x==("__debug__":Str))=false) au1_._auto_1):PE X (.Name x pos) (tC v):=
  fun _ _ _ H _ I h=>ld_glob I hg hm ⟨v,H,I,r,h⟩ hd
theorem pe_bltn {x:Str} {v:V} {u:Value} {pos:Pos} (hg:Gl X x) (hm:X.mg x=none) (hv:bootBuiltins x=some u) (r:RelV v u) (hn:autoParam (x ≠ "__name__") au1_._auto_1) (hd:autoParam ((x==("__debug__":Str))=false) au1_._auto_1):PE X (.Name x pos) (tC v):=
  fun _ _ _ H _ I h=>ld_blt I hg hm hv ⟨v,H,I,r,h⟩ hn hd

variable {a b:Expr} {ta tb:TE} {pos:Pos}
noncomputable def tB (t:TE):TT:=fun σ H Q=>t σ H fun x H1=>∃c,x=.bl c∧Q c H1
theorem pt_val {e:Expr} {t:TE} (h:PE X e t) (he:autoParam (∀whole,isTrue e X.env whole=(do let v ← whole;standAt e.pos;holding [v] (truthy v))) au2_._auto_1):PT X e (tB t):=by
  intro pins s σ H Q I hw
  refine isTrue_plain (thn (h pins s σ H _ I hw) fun v s1 ⟨x,H1,I1,r1,q1⟩=>?_) (he _)
  obtain ⟨d,rfl,q⟩:=q1
  cases r1
  exact wpAny_truthy_bool ⟨H1,I1,q⟩

variable {tA tB':TT} {rest:List Expr}
noncomputable def tAnd (t u:TT):TT:=fun σ H Q=>t σ H fun c H1=>if c=true then u σ H1 Q else Q false H1
noncomputable def tOr (t u:TT):TT:=fun σ H Q=>t σ H fun c H1=>if c=true then Q true H1 else u σ H1 Q
noncomputable def tNot (t:TT):TT:=fun σ H Q=>t σ H fun c H1=>Q (!c) H1
theorem pw_and1 (ha:PT X a tA):PW X (.BoolOp .And [a] pos) tA:=by
  intro wh pins s σ H Q I h
  refine isTrue_and (thn (ha pins s σ H Q I h) fun c s1 e=>?_)
  cases c with
  | true=>exact isTrue_and_nil e
  | false=>exact e
theorem pw_or1 (ha:PT X a tA):PW X (.BoolOp .Or [a] pos) tA:=by
  intro wh pins s σ H Q I h
  refine isTrue_or (thn (ha pins s σ H Q I h) fun c s1 e=>?_)
  cases c with
  | false=>exact isTrue_or_nil e
  | true=>exact e
theorem pw_and (ha:PT X a tA) (hb:PW X (.BoolOp .And (b::rest) pos) tB'):PW X (.BoolOp .And (a::b::rest) pos) (tAnd tA tB'):=by
  intro wh pins s σ H Q I h
  refine isTrue_and (thn (ha pins s σ H _ I h) fun c s1 ⟨H1,I1,q1⟩=>?_)
  cases c with
  | true=>exact hb wh pins s1 σ H1 Q I1 q1
  | false=>exact ⟨H1,I1,q1⟩
theorem pw_or (ha:PT X a tA) (hb:PW X (.BoolOp .Or (b::rest) pos) tB'):PW X (.BoolOp .Or (a::b::rest) pos) (tOr tA tB'):=by
  intro wh pins s σ H Q I h
  refine isTrue_or (thn (ha pins s σ H _ I h) fun c s1 ⟨H1,I1,q1⟩=>?_)
  cases c with
  | true=>exact ⟨H1,I1,q1⟩
  | false=>exact hb wh pins s1 σ H1 Q I1 q1
theorem pt_not (ha:PT X a tA):PT X (.UnaryOp .Not a pos) (tNot tA):=by
  intro pins s σ H Q I h
  exact isTrue_not (ha pins s σ H (fun c H1=>Q (!c) H1) I h)
noncomputable def tAndV (ta tb:TE):TE:=fun σ H Q=>ta σ H fun x H1=>∃c,x=.bl c∧if c=true then tb σ H1 Q else Q (.bl false) H1
noncomputable def tOrV (ta tb:TE):TE:=fun σ H Q=>ta σ H fun x H1=>∃c,x=.bl c∧if c=true then Q (.bl true) H1 else tb σ H1 Q
noncomputable def tNotV (ta:TE):TE:=fun σ H Q=>ta σ H fun x H1=>∃c,x=.bl c∧Q (.bl (!c)) H1
theorem pe_one {op} {t:TE} (h:PE X a t):PE X (.BoolOp op [a] pos) t:=fun pins s σ H Q I hw=>BoolOp_one (h pins s σ H Q I hw)
theorem pe_and (ha:PE X a ta) (hb:PE X (.BoolOp .And (b::rest) pos) tb):PE X (.BoolOp .And (a::b::rest) pos) (tAndV ta tb):=by
  intro pins s σ H Q I h
  refine BoolOp_and (thn (ha pins s σ H _ I h) fun v s1 ⟨x,H1,I1,r1,q1⟩=>?_)
  obtain ⟨c,rfl,q1⟩:=q1
  cases r1
  refine wpAny_truthy_bool ?_
  cases c with
  | true=>exact hb pins s1 σ H1 Q I1 q1
  | false=>exact ⟨.bl false,H1,I1,rfl,q1⟩
theorem pe_or (ha:PE X a ta) (hb:PE X (.BoolOp .Or (b::rest) pos) tb):PE X (.BoolOp .Or (a::b::rest) pos) (tOrV ta tb):=by
  intro pins s σ H Q I h
  refine BoolOp_or (thn (ha pins s σ H _ I h) fun v s1 ⟨x,H1,I1,r1,q1⟩=>?_)
  obtain ⟨c,rfl,q1⟩:=q1
  cases r1
  refine wpAny_truthy_bool ?_
  cases c with
  | false=>exact hb pins s1 σ H1 Q I1 q1
  | true=>exact ⟨.bl true,H1,I1,rfl,q1⟩
theorem pe_not (ha:PE X a ta):PE X (.UnaryOp .Not a pos) (tNotV ta):=by
  intro pins s σ H Q I h
  refine UnaryOp_ (thn (ha pins s σ H _ I h) fun v s1 ⟨x,H1,I1,r1,q1⟩=>?_)
  obtain ⟨c,rfl,q1⟩:=q1
  cases r1
  exact not_of (wpAny_truthy_bool ⟨.bl (!c),H1,I1,rfl,q1⟩)
noncomputable def tIf (t:TT) (ta tb:TE):TE:=fun σ H Q=>t σ H fun c H1=>if c=true then ta σ H1 Q else tb σ H1 Q
theorem pe_ifExp {c:Expr} (hc:PT X c tA) (ha:PE X a ta) (hb:PE X b tb):PE X (.IfExp c a b pos) (tIf tA ta tb):=by
  intro pins s σ H Q I h
  refine wpAny_IfExp (thn (hc pins s σ H _ I h) fun d s1 ⟨H1,I1,q1⟩=>?_)
  cases d with
  | true=>exact ha pins s1 σ H1 Q I1 q1
  | false=>exact hb pins s1 σ H1 Q I1 q1
end
end L2

namespace L2
open PySem PySem.Spec PyProof.Rows

noncomputable def SqL (K:PySem.W.Frag) (H:Hp) (a:Addr) (xs:List V):Prop:=
  Rd H a (.lst xs) ∨
    ∃(o:Obj) (its:Array Value) (n:Nat),K.lookup a=some o∧o.cls=.type "list"∧o.dict=none∧o.data=.seq its n∧its.size≤sizeLine∧Vals xs its.toList
noncomputable def SqT (K:PySem.W.Frag) (H:Hp) (a:Addr) (xs:List V):Prop:=
  Rd H a (.tup xs) ∨
    ∃(o:Obj) (its:Array Value) (n:Nat),K.lookup a=some o∧o.cls=.type "tuple"∧o.data=.seq its n∧its.size≤sizeLine∧Vals xs its.toList
noncomputable def absV:Value→Option V
  | .none=>some .non
  | .bool b=>some (.bl b)
  | .int i _=>some (.int i)
  | .str x _=>some (.str x)
  | .bytes b _=>some (.byt b)
  | .float b _=>some (.flt b)
  | .ref a=>some (.ref a)
  | .type n=>some (.ty n)
  | _=>none
theorem RelV.abs {x:V} {u:Value} (r:RelV x u):absV u=some x:=by
  cases x with
  | non=>cases r;rfl
  | bl _=>cases r;rfl
  | int _=>obtain ⟨t,rfl⟩:=r;rfl
  | str _=>obtain ⟨t,rfl⟩:=r;rfl
  | byt _=>obtain ⟨t,rfl⟩:=r;rfl
  | flt _=>obtain ⟨t,rfl⟩:=r;rfl
  | ref _=>cases r;rfl
  | ty _=>cases r;rfl
theorem RelV.inj {x y:V} {u:Value} (r:RelV x u) (q:RelV y u):x=y:=Option.some.inj (r.abs.symm.trans q.abs)
theorem Vals.inj:∀{xs ys:List V} {us:List Value},Vals xs us→Vals ys us→xs=ys
  | _,_,_,.nil,.nil=>rfl
  | _,_,_,.cons r t,.cons r' t'=>by rw [r.inj r',Vals.inj t t']
section
variable {X:Cx} {pins:List (Addr×Obj)} {σ:St} {H:Hp} {s:Shared} {a:Addr} {xs ys:List V}
theorem SqL.of {K:PySem.W.Frag} (h:H a=some (.lst xs)):SqL K H a xs:=.inl (.inl h)
theorem SqT.of {K:PySem.W.Frag} (h:H a=some (.tup xs)):SqT K H a xs:=.inl (.inl h)
theorem Inv.list (I:Inv X pins σ H s) (h:SqL X.K H a xs):∃its:List Value,Vals xs its∧PlainL s.heap a its.toArray∧xs.length≤sizeLine:=by
  rcases h with h | ⟨o,its,n,hk,hc,hd,hs,hz,r⟩
  · obtain ⟨z,its,n,r,e⟩:=h.ok I.hok
    exact ⟨its,r,⟨_,n,e,rfl,rfl,rfl⟩,z⟩
  · refine ⟨its.toList,r,⟨o,n,I.kIn a o hk,hc,hd,by simpa using hs⟩,?_⟩
    have e:=r.length
    simp only [Array.length_toList] at e
    omega
theorem Inv.tuple (I:Inv X pins σ H s) (h:SqT X.K H a xs):∃its:List Value,Vals xs its∧IsTup s.heap a its.toArray∧xs.length≤sizeLine:=by
  rcases h with h | ⟨o,its,n,hk,hc,hs,hz,r⟩
  · obtain ⟨z,its,r,p⟩:=h.ok I.hok
    exact ⟨its,r,p,z⟩
  · refine ⟨its.toList,r,⟨o,I.kIn a o hk,hc,n,by simpa using hs⟩,?_⟩
    have e:=r.length
    simp only [Array.length_toList] at e
    omega
theorem Inv.list_inj (I:Inv X pins σ H s) (h:SqL X.K H a xs) (h':SqL X.K H a ys):xs=ys:=by
  obtain ⟨its,r,⟨o,n,e,_,_,d⟩,_⟩:=I.list h
  obtain ⟨its',r',⟨o',n',e',_,_,d'⟩,_⟩:=I.list h'
  rw [e] at e';cases e'
  rw [d] at d'
  injection d' with d1 _
  have:its=its':=by simpa using congrArg Array.toList d1
  subst this
  exact r.inj r'
theorem Inv.tuple_inj (I:Inv X pins σ H s) (h:SqT X.K H a xs) (h':SqT X.K H a ys):xs=ys:=by
  obtain ⟨its,r,⟨o,e,_,n,d⟩,_⟩:=I.tuple h
  obtain ⟨its',r',⟨o',e',_,n',d'⟩,_⟩:=I.tuple h'
  rw [e] at e';cases e'
  rw [d] at d'
  injection d' with d1 _
  have:its=its':=by simpa using congrArg Array.toList d1
  subst this
  exact r.inj r'
end

noncomputable abbrev Cx.wish (X:Cx) (E:Value→Shared→Prop):Cx:={ X with xe:=E }
noncomputable abbrev Cx.nox (X:Cx):Cx:=X.wish fun _ _=>False
theorem Cx.Ok.wish {X:Cx} (ok:X.Ok) (E:Value→Shared→Prop):(X.wish E).Ok:=
  ⟨ok.mod,ok.kind,ok.glob,ok.blt,ok.above,ok.inj,ok.has,ok.cab,ok.hd,ok.frames,ok.stk,ok.exf,ok.bs,ok.bsz,ok.noex,ok.exfs,ok.funs,ok.frf⟩
theorem Cx.Ok.unwish {X:Cx} {E:Value→Shared→Prop} (ok:(X.wish E).Ok):X.Ok:=
  ⟨ok.mod,ok.kind,ok.glob,ok.blt,ok.above,ok.inj,ok.has,ok.cab,ok.hd,ok.frames,ok.stk,ok.exf,ok.bs,ok.bsz,ok.noex,ok.exfs,ok.funs,ok.frf⟩
section
variable {X:Cx} {pins:List (Addr×Obj)} {σ:St} {H:Hp} {s:Shared} {E:Value→Shared→Prop}
theorem Inv.wish (I:Inv X pins σ H s) (E:Value→Shared→Prop):Inv (X.wish E) pins σ H s:=⟨I.ok.wish E,I.os,I.bare,I.base,I.loc,I.cell,I.free,I.freeC,I.pin,I.hok,I.len⟩
theorem Inv.unwish (I:Inv (X.wish E) pins σ H s):Inv X pins σ H s:=⟨I.ok.unwish,I.os,I.bare,I.base,I.loc,I.cell,I.free,I.freeC,I.pin,I.hok,I.len⟩
theorem SP.unwish {D:Ends} {f:Flow} {s':Shared} (h:SP (X.wish E) pins D f s'):SP X pins D f s':=by
  cases f with
  | next=>obtain ⟨σ',H',I,q⟩:=h;exact ⟨σ',H',I.unwish,q⟩
  | brk=>obtain ⟨σ',H',I,q⟩:=h;exact ⟨σ',H',I.unwish,q⟩
  | cont=>obtain ⟨σ',H',I,q⟩:=h;exact ⟨σ',H',I.unwish,q⟩
  | ret u=>obtain ⟨v,σ',H',I,r,q⟩:=h;exact ⟨v,σ',H',I.unwish,r,q⟩
theorem PSs.nox {st:List Stmt} {t:TS} (h:PSs X.nox st t):PSs X st t:=fun pins s σ H D I hw=>
  wpAny_mono (h pins s σ H D (I.wish _) hw) (fun _ _ q=>q.unwish) fun _ _ z=>False.elim z
end

section
variable {X:Cx} {st:Stmt} {rest:List Stmt} {t u:TS} {e:Expr} {te:TE} {pos:Pos}
noncomputable def tNext:TS:=fun D σ H=>D.nx σ H
noncomputable def tSeq (t u:TS):TS:=fun D σ H=>t { D with nx:=u D } σ H
theorem pss_nil:PSs X [] tNext:=fun _ _ σ H _ I h=>wpAny_execs_nil ⟨σ,H,I,h⟩
theorem pss_cons (h1:PS X st t) (h2:PSs X rest u):PSs X (st::rest) (tSeq t u):=by
  intro pins s σ H D I h
  refine wpAny_execs_cons (thn (h1 pins s σ H { D with nx:=u D } I h) fun f s1 q=>?_)
  cases f with
  | next=>
    obtain ⟨σ',H',I',q⟩:=q
    exact h2 pins s1 σ' H' D I' q
  | ret v=>exact q
  | brk=>exact q
  | cont=>exact q
theorem pss_one (h1:PS X st t):PSs X [st] t:=by
  intro pins s σ H D I h
  refine wpAny_execs_cons (thn (h1 pins s σ H D I h) fun f s1 q=>?_)
  cases f with
  | next=>exact wpAny_execs_nil q
  | ret v=>exact q
  | brk=>exact q
  | cont=>exact q
theorem Inv.quiet {pins:List (Addr×Obj)} {σ:St} {H:Hp} {s:Shared} (I:Inv X pins σ H s):interactive X.env=false:=by simp [interactive,I.ok.kind]
noncomputable def tDrop (te:TE):TS:=fun D σ H=>te σ H fun _ H1=>D.nx σ H1
theorem ps_expr (he:PE X e te) (hs:autoParam (swapsWith e none pos.line X.env=pure false) au0_._auto_1):PS X (.Expr e pos) (tDrop te):=by
  intro pins s σ H D I h
  exact wpAny_Expr_any (thn (he pins s σ H _ I h) fun v s1 ⟨x,H1,I1,r1,q1⟩=>⟨σ,H1,I1,q1⟩) I.quiet hs
noncomputable def tRet (te:TE):TS:=fun D σ H=>te σ H D.rt
theorem ps_ret (he:PE X e te):PS X (.Return (some e) pos) (tRet te):=by
  intro pins s σ H D I h
  exact wpAny_Return_some (thn (he pins s σ H _ I h) fun v s1 ⟨x,H1,I1,r1,q1⟩=>⟨x,σ,H1,I1,r1,q1⟩)
noncomputable def tIfS (c:TT) (t u:TS):TS:=fun D σ H=>c σ H fun b H1=>if b=true then t D σ H1 else u D σ H1
theorem ps_if {c:Expr} {a b:List Stmt} {tc:TT} (hc:PT X c tc) (ha:PSs X a t) (hb:PSs X b u):PS X (.If c a b pos) (tIfS tc t u):=by
  intro pins s σ H D I h
  refine wpAny_If (thn (hc pins s σ H _ I h) fun d s1 ⟨H1,I1,q1⟩=>?_)
  cases d with
  | true=>exact ha pins s1 σ H1 D I1 q1
  | false=>exact hb pins s1 σ H1 D I1 q1
noncomputable def tNever:TS:=fun _ _ _=>False
theorem ps_never:PS X st tNever:=fun _ _ _ _ _ _ h=>h.elim
end

noncomputable abbrev TG:=V→St→Hp→(St→Hp→Prop)→Prop
noncomputable abbrev TGs:=List V→St→Hp→(St→Hp→Prop)→Prop
noncomputable def PG (X:Cx) (target:Expr) (t:TG):Prop:=
  ∀(pins:List (Addr×Obj)) (s:Shared) (σ:St) (H:Hp) (v:V) (u:Value) (Q:St→Hp→Prop),Inv X pins σ H s→RelV v u→t v σ H Q →
    wpAny (model X.prog X.w) X.A (assign target X.env u) (fun _ s'=>∃σ' H',Inv X pins σ' H' s'∧Q σ' H') X.xe s
noncomputable def PGs (X:Cx) (ts:List Expr) (t:TGs):Prop:=
  ∀(pins:List (Addr×Obj)) (s:Shared) (σ:St) (H:Hp) (vs:List V) (us:List Value) (Q:St→Hp→Prop),Inv X pins σ H s→Vals vs us→t vs σ H Q →
    wpAny (model X.prog X.w) X.A (assignInOrder ((assignEach ts X.env).map (·.2)) us) (fun _ s'=>∃σ' H',Inv X pins σ' H' s'∧Q σ' H') X.xe s
noncomputable abbrev TSet:=V→V→V→Hp→(Hp→Prop)→Prop
noncomputable def PSet (X:Cx) (t:TSet):Prop:=
  ∀(pins:List (Addr×Obj)) (s:Shared) (σ:St) (H:Hp) (o i v:V) (ov iv u:Value) (Q:Hp→Prop),Inv X pins σ H s→RelV o ov→RelV i iv→RelV v u→t o i v H Q →
    wpAny (model X.prog X.w) X.A (setItem ov iv u) (fun _ s'=>∃H',Inv X pins σ H' s'∧Q H') X.xe s
section
variable {X:Cx} {pos:Pos}
noncomputable def gName (i:Nat):TG:=fun v σ H Q=>Q (σ.set i (some v)) H
theorem pg_name {i:Nat} {x:Str} (hN:X.N.Nodup) (hi:X.N[i]?=some x) (hx:Loc X.env.scope x) (hf:X.fn x=true∨X.env.scope.names.lookup x=some .local:=by first | exact .inl rfl | exact .inr rfl | assumption):PG X (.Name x pos) (gName i):=by
  intro pins s σ H v u Q I r h
  exact wpAny_assign_Name (store_ok I hN hi hx r (fun s' I'=>⟨_,H,I',h⟩) hf)
noncomputable def gNil:TGs:=fun vs σ H Q=>vs=[]∧Q σ H
noncomputable def gCons (t:TG) (u:TGs):TGs:=fun vs σ H Q=>∃v r,vs=v::r∧t v σ H fun σ' H'=>u r σ' H' Q
theorem pgs_nil:PGs X [] gNil:=by
  intro pins s σ H vs us Q I r h
  obtain ⟨e,h⟩:=h
  subst e
  cases r
  exact assignInOrder_nil ⟨σ,H,I,h⟩
theorem pgs_cons {e:Expr} {es:List Expr} {t:TG} {u:TGs} (h1:PG X e t) (h2:PGs X es u)
    (hs:autoParam ((assignEach (e::es) X.env).map (·.2)=assign e X.env::(assignEach es X.env).map (·.2)) au0_._auto_1):PGs X (e::es) (gCons t u):=by
  intro pins s σ H vs us Q I r h
  obtain ⟨v,vr,e1,h⟩:=h
  subst e1
  cases r with
  | cons r rr=>
    rw [hs]
    refine assignInOrder_cons (thn (h1 pins s σ H _ _ _ I r h) fun _ s1 ⟨σ1,H1,I1,q1⟩=>?_)
    exact h2 pins s1 σ1 H1 _ _ Q I1 rr q1
noncomputable def gTup (K:PySem.W.Frag) (n:Nat) (t:TGs):TG:=fun v σ H Q=>∃a xs,v=.ref a∧SqT K H a xs∧xs.length=n∧t xs σ H Q
theorem pg_tup {es:List Expr} {k:Nat} {t:TGs} {n:Nat} (hc:X.calm=true) (h:PGs X es t)
    (hn:autoParam ((assignEach es X.env).length=n) au0_._auto_1) (hst:autoParam ((assignEach es X.env).findIdx? (·.1)=none) au0_._auto_1):PG X (.Tuple es k pos) (gTup X.K n t):=by
  intro pins s σ H v u Q I r hw
  obtain ⟨a,xs,e1,hq,hl,hw⟩:=hw
  subst e1
  cases r
  obtain ⟨its,rv,ht,hz⟩:=I.tuple hq
  refine assign_Tuple_tuple (I.ok.hd hc) ht (by simp [hn,← hl,rv.length]) hst fun h' hx=>?_
  have I1:Inv X pins σ H { s with heap:=h' }:=I.kept (t':=s.toks) fun b o e=>hx b o (Nat.ne_of_lt (Heap.lt_size e)) e
  exact h pins _ σ H xs _ Q I1 (by simpa using rv) hw
noncomputable def gSub (to ti:TE) (t:TSet):TG:=fun v σ H Q=>to σ H fun o H1=>ti σ H1 fun i H2=>t o i v H2 fun H3=>Q σ H3
theorem pg_sub {o i:Expr} {to ti:TE} {t:TSet} (ho:PE X o to) (hi:PE X i ti) (hs:PSet X t)
    (ha:autoParam (∀v,assign (.Subscript o i pos) X.env v=(do
      let ov ← holding [v] (eval o X.env)
      let iv ← holding [v,ov] (eval i X.env)
      standAt pos
      holding [v,ov,iv] (setItem ov iv v)
      release [v,ov,iv] [])) au2_._auto_1):PG X (.Subscript o i pos) (gSub to ti t):=by
  intro pins s σ H v u Q I r h
  rw [ha]
  refine wpAny_bind (wpAny_holding (thn (ho pins s σ H _ I h) fun ov s1 ⟨x,H1,I1,r1,q1⟩=>?_))
  refine wpAny_bind (wpAny_holding (thn (hi pins s1 σ H1 _ I1 q1) fun iv s2 ⟨y,H2,I2,r2,q2⟩=>?_))
  refine wpAny_bind (wpAny_standAt (wpAny_bind (wpAny_holding (thn (hs pins s2 σ H2 x y v ov iv u _ I2 r1 r2 r q2) fun _ s3 ⟨H3,I3,q3⟩=>?_))))
  exact wpAny_release ⟨σ,H3,I3,q3⟩
noncomputable def tAsg (te:TE) (g:TG):TS:=fun D σ H=>te σ H fun x H1=>g x σ H1 D.nx
theorem ps_asg {tg e:Expr} {te:TE} {g:TG} (he:PE X e te) (hg:PG X tg g) (hs:autoParam (swapsWithSole [tg] e pos.line X.env=pure false) au0_._auto_1) (hw:autoParam (swappedStores [tg] e X.env=pure none) au0_._auto_1)
    (h1:autoParam ((assignEach [tg] X.env).map (·.2)=[assign tg X.env]) au0_._auto_1):PS X (.Assign [tg] e pos) (tAsg te g):=by
  intro pins s σ H D I h
  refine wpAny_Assign_stores (thn (he pins s σ H _ I h) fun v s1 ⟨x,H1,I1,r1,q1⟩=>?_) hs hw
  rw [h1]
  exact thn (hg pins s1 σ H1 x v _ I1 r1 q1) fun _ s2 q=>q
theorem ps_set {i:Nat} {x:Str} {e:Expr} {te:TE} {pos':Pos} (hN:X.N.Nodup) (hi:X.N[i]?=some x) (hx:Loc X.env.scope x) (he:PE X e te) (hs:autoParam (swapsWith e (some (.Name x pos')) pos.line X.env=pure false) au0_._auto_1) (hf:X.fn x=true∨X.env.scope.names.lookup x=some .local:=by first | exact .inl rfl | exact .inr rfl | assumption) :
    PS X (.Assign [.Name x pos'] e pos) (tAsg te (gName i)):=by
  intro pins s σ H D I h
  refine wpAny_Assign_Name (thn (he pins s σ H _ I h) fun v s1 ⟨y,H1,I1,r1,q1⟩=>?_) hs
  exact store_ok I1 hN hi hx r1 (fun s2 I2=>⟨_,H1,I2,q1⟩) hf
end

section
variable {X:Cx} {pos:Pos}
noncomputable def tWhile (c:TT) (tb:TS):TS:=fun D σ H=>∃W:Nat→St→Hp→Prop,(∃m,W m σ H)∧∀m σ H,W m σ H →
  c σ H fun b H1=>if b=true then ∃N:St→Hp→Prop,(∀σ' H',N σ' H'→∃m',m'<m∧W m' σ' H')∧tb { D with nx:=N,ct:=N,bk:=D.nx } σ H1 else D.nx σ H1
theorem ps_while {c:Expr} {body:List Stmt} {tc:TT} {tb:TS} (hp:PassesOwn (model X.prog X.w) X.A X.env X.xe) (hc:PT X c tc) (hb:PSs X body tb):PS X (.While c body [] pos) (tWhile tc tb):=by
  intro pins s σ H D I h
  obtain ⟨W,⟨m0,w0⟩,turn⟩:=h
  refine wpAny_While (codeAny_whileLoop (fun n s'=>∃σ' H',Inv X pins σ' H' s'∧W n σ' H') ?_ m0 ⟨σ,H,I,w0⟩)
  rintro n s1 ⟨σ1,H1,I1,w1⟩
  refine wpAny_passesOwn hp (thn (hc pins s1 σ1 H1 _ I1 (turn n σ1 H1 w1)) fun b s2 ⟨H2,I2,q2⟩=>?_)
  cases b with
  | true=>
    obtain ⟨N,hN,q2⟩:=q2
    rw [if_pos rfl]
    refine wpAny_passesOwn hp (thn (hb pins s2 σ1 H2 _ I2 q2) fun f s3 q3=>?_)
    cases f with
    | next=>
      obtain ⟨σ3,H3,I3,n3⟩:=q3
      obtain ⟨m',hm,w3⟩:=hN σ3 H3 n3
      exact ⟨m',hm,σ3,H3,I3,w3⟩
    | cont=>
      obtain ⟨σ3,H3,I3,n3⟩:=q3
      obtain ⟨m',hm,w3⟩:=hN σ3 H3 n3
      exact ⟨m',hm,σ3,H3,I3,w3⟩
    | brk=>exact q3
    | ret v=>exact q3
  | false=>
    rw [if_neg Bool.false_ne_true]
    exact wpAny_execs_nil ⟨σ1,H2,I2,q2⟩
end

structure It where
  go:Nat→Hp→Prop
  yld:Nat→Hp→V→Hp→Prop
  stop:Nat→Hp→Prop
noncomputable def FpOk (X:Cx) (pins:List (Addr×Obj)) (H:Hp) (b:Addr):Prop:=
  H b=none∧b≠X.env.locals∧b∉X.fs∧(b∈X.ex∨X.s₀.heap.objs.size≤b)∧(∀x c,X.env.cells.lookup x=some c→c≠b)∧∀p∈X.pn++pins,p.1≠b
theorem Inv.fpOk {X:Cx} {pins:List (Addr×Obj)} {σ:St} {H H':Hp} {s:Shared} {b:Addr} (I:Inv X pins σ H s) (hb:s.heap.objs.size≤b) (hn:H' b=none):FpOk X pins H' b:=by
  refine ⟨hn,Nat.ne_of_gt (Nat.lt_of_lt_of_le I.lt hb),I.nofs hb,.inr (Nat.le_trans I.sz hb),fun x c e z=>?_,fun p hp z=>?_⟩
  · obtain ⟨v,q⟩:=I.cell x c e
    exact absurd (Nat.lt_of_lt_of_le q.lt (by rw [z];exact hb)) (Nat.lt_irrefl _)
  · exact absurd (Nat.lt_of_lt_of_le (Heap.lt_size (I.pin p hp).1) (by rw [z];exact hb)) (Nat.lt_irrefl _)
structure Turn (P:Program) (w:World) (K:PySem.W.Frag) (tg:Expr) (J:It) (fp:List Addr) (it:Addr) (tn:Nat→Heap→Prop):Prop where
  mem:it∈fp
  obj:∀i h,tn i h→∀b∈fp,∃o,h.get? b=some o∧∀v,o.data≠.cell v
  keep:∀i h h',tn i h→(∀b∈fp,∀o,h.get? b=some o→h'.get? b=some o)→tn i h'
  item:∀(X:Cx),X.prog=P→X.w=w→X.K=K→X.calm=true→∀(i:Nat) (pins:List (Addr×Obj)) (s:Shared) (σ:St) (H:Hp) (E:Value→Shared→Prop),Inv X pins σ H s→(∀b∈fp,FpOk X pins H b)→tn i s.heap→J.go i H →
    wpAny (model P w) X.A (pyNext (.ref it)) (fun r s1=>∃u,r=some u ∧
      wpAny (model P w) X.A (letOwnedTupleGo tg (.ref it) u) (fun _ s2=>∃x H',Inv X pins σ H' s2∧RelV x u∧J.yld i H x H'∧tn (i+1) s2.heap∧∀b∈fp,H' b=none) E s1) E s
  done:∀(X:Cx),X.prog=P→X.w=w→X.K=K→X.calm=true→∀(i:Nat) (pins:List (Addr×Obj)) (s:Shared) (σ:St) (H:Hp) (E:Value→Shared→Prop),Inv X pins σ H s→(∀b∈fp,FpOk X pins H b)→tn i s.heap→J.stop i H →
    wpAny (model P w) X.A (pyNext (.ref it)) (fun r s1=>r=none∧Inv X pins σ H s1) E s
  self:∀(A:Around) (i:Nat) (s:Shared) (Q:Value→Shared→Prop) (E:Value→Shared→Prop),tn i s.heap→Q (.ref it) s→wpAny (model P w) A (pyIter (.ref it)) Q E s
noncomputable abbrev TI:=St→Hp→(It→Hp→Prop)→Prop
noncomputable def PIE (X:Cx) (pins:List (Addr×Obj)) (σ:St) (tg:Expr) (R:It→Hp→Prop) (itv:Value) (s2:Shared):Prop:=
  ∃(it:Addr) (fp:List Addr) (tn:Nat→Heap→Prop) (J:It) (H':Hp),itv=.ref it∧Inv X pins σ H' s2∧Turn X.prog X.w X.K tg J fp it tn∧tn 0 s2.heap∧(∀b∈fp,FpOk X pins H' b)∧R J H'
noncomputable def PI (X:Cx) (tg iter:Expr) (wi:TI):Prop:=
  ∀(pins:List (Addr×Obj)) (s:Shared) (σ:St) (H:Hp) (R:It→Hp→Prop),Inv X pins σ H s→wi σ H R →
    wpAny (model X.prog X.w) X.A (eval iter X.env) (fun v s1=>wpAny (model X.prog X.w) X.A (pyIter v) (PIE X pins σ tg R) X.xe s1) X.xe s

theorem go_of {M:Model} {A:Around} {E:Value→Shared→Prop} {s:Shared} {tg:Expr} {it:Addr} {u:Value} {o:Obj} {n:String} {vs:Array Value} {Q:Unit→Shared→Prop} (ho:s.heap.get? it=some o) (hc:o.cls=.type n) (hd:o.data=.fields vs)
    (hn:["enumerate","zip","dict_itemiterator","dict_reverseitemiterator","odict_iterator","itertools.zip_longest","itertools.pairwise"].contains n=false) (hQ:Q () s):wpAny M A (letOwnedTupleGo tg (.ref it) u) Q E s:=by
  unfold letOwnedTupleGo
  cases tg <;> first
    | exact wpAny_pure hQ
    | (cases u <;> first
        | exact wpAny_pure hQ
        | (refine wpAny_bind (wpAny_load ho ?_)
           rw [hc,hd]
           show wpAny M A (if (["enumerate","zip","dict_itemiterator","dict_reverseitemiterator","odict_iterator","itertools.zip_longest","itertools.pairwise"].contains n&&vs[0]?==some (rawInt _))=true then _ else _) Q E s
           rw [if_neg (by intro h;rw [hn,Bool.false_and] at h;cases h)]
           exact wpAny_pure hQ))

noncomputable def Itl (K:PySem.W.Frag) (a:Addr):It:=
  ⟨fun i H=>∃xs x,SqL K H a xs∧xs[i]?=some x,fun i H x H'=>H'=H∧∀xs,SqL K H a xs→xs[i]?=some x,fun i H=>∃xs,SqL K H a xs∧xs.length≤i⟩
noncomputable def Itt (K:PySem.W.Frag) (a:Addr):It:=
  ⟨fun i H=>∃xs x,SqT K H a xs∧xs[i]?=some x,fun i H x H'=>H'=H∧∀xs,SqT K H a xs→xs[i]?=some x,fun i H=>∃xs,SqT K H a xs∧xs.length≤i⟩
noncomputable def Itr (lo:Int) (n:Nat):It:=⟨fun i _=>i<n,fun i H x H'=>H'=H∧x=.int (lo+i),fun i _=>n≤i⟩
theorem turn_list {P:Program} {w:World} {K:PySem.W.Frag} {tg:Expr} (a it:Addr):Turn P w K tg (Itl K a) [it] it (fun i h=>h.IsListIter it a i) where
  mem:=by simp
  obj:=fun i h st b hb=>by
    have e:b=it:=by simpa using hb
    subst e
    obtain ⟨o,e,c,d⟩:=st
    exact ⟨o,e,fun v z=>by rw [d] at z;cases z⟩
  keep:=fun i h h' st k=>st.at fun o e=>k it (by simp) o e
  item:=by
    intro X hP hw hK hc i pins s σ H E I hf st hg
    subst hP hw hK
    obtain ⟨xs,x,hq,hx⟩:=hg
    obtain ⟨its,rv,p,hz⟩:=I.list hq
    obtain ⟨u,hu,ru⟩:=rv.get hx
    obtain ⟨f0,f1,f2,f3,f4,f5⟩:=hf it (by simp)
    refine wpAny_pyNext_list_item st p.isList (x:=u) (by simpa using hu) fun h' st' sb=>?_
    have I1:Inv X pins σ H { s with heap:=h' }:=I.turned (t':=s.toks) (fun b o hb e=>(sb.2 b hb).trans e) f0 f1 f3 f4 f5
    obtain ⟨o,e,c,d⟩:=id st'
    exact ⟨u,rfl,go_of (s:={ s with heap:=h' }) e c d (by decide) ⟨x,H,I1,ru,⟨rfl,fun ys hy=>by rw [I.list_inj hy hq];exact hx⟩,st',fun b hb=>(hf b hb).1⟩⟩
  done:=by
    intro X hP hw hK hc i pins s σ H E I hf st hg
    subst hP hw hK
    obtain ⟨xs,hq,hx⟩:=hg
    obtain ⟨its,rv,p,hz⟩:=I.list hq
    obtain ⟨f0,f1,f2,f3,f4,f5⟩:=hf it (by simp)
    have hl:=rv.length
    exact wpAny_pyNext_list_end (I.ok.hd hc) st p.isList (by simp;omega) fun h' eb=>⟨rfl,I.turned (t':=s.toks) (fun b o hb e=>eb b o hb e) f0 f1 f3 f4 f5⟩
  self:=fun _ _ _ _ _ st h=>wpAny_pyIter_listiter st h
theorem turn_tuple {P:Program} {w:World} {K:PySem.W.Frag} {tg:Expr} (a it:Addr):Turn P w K tg (Itt K a) [it] it (fun i h=>h.IsTupleIter it a i) where
  mem:=by simp
  obj:=fun i h st b hb=>by
    have e:b=it:=by simpa using hb
    subst e
    obtain ⟨o,e,c,d⟩:=st
    exact ⟨o,e,fun v z=>by rw [d] at z;cases z⟩
  keep:=fun i h h' st k=>st.at fun o e=>k it (by simp) o e
  item:=by
    intro X hP hw hK hc i pins s σ H E I hf st hg
    subst hP hw hK
    obtain ⟨xs,x,hq,hx⟩:=hg
    obtain ⟨its,rv,p,hz⟩:=I.tuple hq
    obtain ⟨u,hu,ru⟩:=rv.get hx
    obtain ⟨f0,f1,f2,f3,f4,f5⟩:=hf it (by simp)
    refine wpAny_pyNext_tuple_item st (show s.heap.IsTuple a its.toArray from p) (x:=u) (by simpa using hu) fun h' st' sb=>?_
    have I1:Inv X pins σ H { s with heap:=h' }:=I.turned (t':=s.toks) (fun b o hb e=>(sb.2 b hb).trans e) f0 f1 f3 f4 f5
    obtain ⟨o,e,c,d⟩:=id st'
    exact ⟨u,rfl,go_of (s:={ s with heap:=h' }) e c d (by decide) ⟨x,H,I1,ru,⟨rfl,fun ys hy=>by rw [I.tuple_inj hy hq];exact hx⟩,st',fun b hb=>(hf b hb).1⟩⟩
  done:=by
    intro X hP hw hK hc i pins s σ H E I hf st hg
    subst hP hw hK
    obtain ⟨xs,hq,hx⟩:=hg
    obtain ⟨its,rv,p,hz⟩:=I.tuple hq
    obtain ⟨f0,f1,f2,f3,f4,f5⟩:=hf it (by simp)
    have hl:=rv.length
    exact wpAny_pyNext_tuple_end (I.ok.hd hc) st (show s.heap.IsTuple a its.toArray from p) (by simp;omega) fun h' eb=>⟨rfl,I.turned (t':=s.toks) (fun b o hb e=>eb b o hb e) f0 f1 f3 f4 f5⟩
  self:=fun _ _ _ _ _ st h=>wpAny_pyIter_tupleiter st h
theorem turn_range {P:Program} {w:World} {K:PySem.W.Frag} {tg:Expr} (it:Addr) (lo:Int) (n:Nat):Turn P w K tg (Itr lo n) [it] it (fun i h=>IsRangeIter h it (lo+(i:Nat)*1) ((n:Int)-(i:Nat)) 1) where
  mem:=by simp
  obj:=fun i h st b hb=>by
    have e:b=it:=by simpa using hb
    subst e
    exact ⟨_,st,fun v z=>by
      have z':Data.fields _=Data.cell v:=z
      cases z'⟩
  keep:=fun i h h' st k=>k it (by simp) _ st
  item:=by
    intro X hP hw hK hc i pins s σ H E I hf st hg
    subst hP hw hK
    obtain ⟨f0,f1,f2,f3,f4,f5⟩:=hf it (by simp)
    have W:=Walks.range (prog:=X.prog) (w:=X.w) (I.ok.hd hc) it lo 1 n
    refine W.item i s _ _ hg st fun v h' tk hv st' kk=>?_
    obtain ⟨t,rfl⟩:=hv
    have I1:Inv X pins σ H { s with heap:=h',toks:=tk }:=I.turned (fun b o hb e=>kk b o (by simpa using hb) e) f0 f1 f3 f4 f5
    refine ⟨_,rfl,go_of (s:={ s with heap:=h',toks:=tk }) (n := "range_iterator") st' rfl rfl (by decide) ⟨.int (lo+i),H,I1,⟨t,?_⟩,⟨rfl,rfl⟩,st',fun b hb=>(hf b hb).1⟩⟩
    rw [Int.mul_one]
  done:=by
    intro X hP hw hK hc i pins s σ H E I hf st hg
    subst hP hw hK
    obtain ⟨f0,f1,f2,f3,f4,f5⟩:=hf it (by simp)
    exact wpAny_pyNext_range_end (I.ok.hd hc) st (by have:n≤i:=hg;omega) fun h' eb=>⟨rfl,I.turned (t':=s.toks) (fun b o hb e=>eb b o hb e) f0 f1 f3 f4 f5⟩
  self:=fun _ _ _ _ _ st h=>wpAny_pyIter_rangeiter st h
end L2

namespace L2
open PySem PySem.Spec PyProof.Rows
section
variable {X:Cx} {tg:Expr}
noncomputable def iList (K:PySem.W.Frag) (tl:TE):TI:=fun σ H R=>tl σ H fun x H1=>∃a,x=.ref a∧(∃xs,SqL K H1 a xs)∧R (Itl K a) H1
noncomputable def iTup (K:PySem.W.Frag) (tl:TE):TI:=fun σ H R=>tl σ H fun x H1=>∃a,x=.ref a∧(∃xs,SqT K H1 a xs)∧R (Itt K a) H1
theorem pi_list {l:Expr} {tl:TE} (hl:PE X l tl):PI X tg l (iList X.K tl):=by
  intro pins s σ H R I h
  refine thn (hl pins s σ H _ I h) fun v s1 ⟨x,H1,I1,r1,q1⟩=>?_
  obtain ⟨a,e,⟨xs,hq⟩,q⟩:=q1
  subst e
  cases r1
  obtain ⟨its,rv,p,hz⟩:=I1.list hq
  refine wpAny_pyIter_list p.isList ?_
  refine ⟨s1.heap.objs.size,[s1.heap.objs.size],_,_,H1,rfl,I1.kept (t':=s1.toks) fun b o e=>Heap.get?_push_of_some _ e,turn_list a _,⟨_,Heap.get?_push_size _ rfl,rfl,rfl⟩,fun b hb=>?_,q⟩
  have e:b=s1.heap.objs.size:=by simpa using hb
  subst e
  exact I1.fpOk (Nat.le_refl _) (I1.hok.fresh (Nat.le_refl _))
theorem pi_tup {l:Expr} {tl:TE} (hl:PE X l tl):PI X tg l (iTup X.K tl):=by
  intro pins s σ H R I h
  refine thn (hl pins s σ H _ I h) fun v s1 ⟨x,H1,I1,r1,q1⟩=>?_
  obtain ⟨a,e,⟨xs,hq⟩,q⟩:=q1
  subst e
  cases r1
  obtain ⟨its,rv,p,hz⟩:=I1.tuple hq
  refine wpAny_pyIter_tuple (show s1.heap.IsTuple a its.toArray from p) ?_
  refine ⟨s1.heap.objs.size,[s1.heap.objs.size],_,_,H1,rfl,I1.kept (t':=s1.toks) fun b o e=>Heap.get?_push_of_some _ e,turn_tuple a _,⟨_,Heap.get?_push_size _ rfl,rfl,rfl⟩,fun b hb=>?_,q⟩
  have e:b=s1.heap.objs.size:=by simpa using hb
  subst e
  exact I1.fpOk (Nat.le_refl _) (I1.hok.fresh (Nat.le_refl _))
theorem range_it {pins:List (Addr×Obj)} {σ:St} {H:Hp} {s:Shared} {R:It→Hp→Prop} {E:Value→Shared→Prop} {lo hi:Int} {t u v:Tok} {tk:Nat} (I:Inv X pins σ H s) (h1:-(2 ^ 62)≤lo) (h2:lo<2 ^ 62) (h3:-(2 ^ 62)≤hi) (h4:hi<2 ^ 62)
    (q:R (Itr lo (hi-lo).toNat) H):wpAny (model X.prog X.w) X.A (pyIter (.ref s.heap.objs.size)) (PIE X pins σ tg R) E { s with heap:=s.heap.push { cls:=.type "range",data:=.fields #[.int lo t,.int hi u,.int 1 v] },toks:=tk }:=by
  refine wpAny_pyIter_range (IsRange.new ..) (small_one h1 h2 h3 h4) ?_
  have I1:Inv X pins σ H { s with heap:=s.heap.push { cls:=.type "range",data:=.fields #[.int lo t,.int hi u,.int 1 v] },toks:=tk }:=I.kept fun b o e=>Heap.get?_push_of_some _ e
  refine ⟨(s.heap.push { cls:=.type "range",data:=.fields #[.int lo t,.int hi u,.int 1 v] }).objs.size,[(s.heap.push { cls:=.type "range",data:=.fields #[.int lo t,.int hi u,.int 1 v] }).objs.size],_,_,H,rfl,
    I1.kept (t':=tk) fun b o e=>Heap.get?_push_of_some _ e,turn_range _ lo (hi-lo).toNat,?_,fun b hb=>?_,q⟩
  · have e1:lo+((0:Nat):Int)*1=lo:=by simp
    have e2:(((hi-lo).toNat:Nat):Int)-((0:Nat):Int)=Builtin.Range.rangeSize lo hi 1:=by rw [rangeSize_one];split <;> omega
    show IsRangeIter _ _ (lo+((0:Nat):Int)*1) ((((hi-lo).toNat:Nat):Int)-((0:Nat):Int)) 1
    rw [e1,e2]
    exact Heap.get?_push_size _ rfl
  · have e:b=(s.heap.push { cls:=.type "range",data:=.fields #[.int lo t,.int hi u,.int 1 v] }).objs.size:=by simpa using hb
    subst e
    exact I1.fpOk (Nat.le_refl _) (I1.hok.fresh (Nat.le_refl _))
noncomputable def iRng1 (ta:TA):TI:=fun σ H R=>ta σ H fun vs H1=>∃j:Int,vs=[.int j]∧-(2 ^ 62)≤j∧j<2 ^ 62∧R (Itr 0 j.toNat) H1
theorem pi_range1 {a:Expr} {ta:TA} {p pos:Pos} (hg:Gl X "range") (hm:X.mg "range"=none) (ha:PA X [a] ta) (hs:autoParam (starEach [a] X.env=[(false,eval a X.env)]) au0_._auto_1):PI X tg (.Call (.Name "range" p) [a] [] pos) (iRng1 ta):=by
  intro pins s σ H R I h
  refine Call_ (ld_blt I hg hm boot_range (PyProof.Rows.callWith_type1 (thn (ha pos pins s σ H _ I h) fun us s1 ⟨vs,H1,I1,r1,q1⟩=>?_) hs rfl))
  obtain ⟨j,e,q1,q2,q⟩:=q1
  subst e
  cases r1 with
  | cons r rr=>
    cases rr
    obtain ⟨t,rfl⟩:=r
    exact call_range_1 (range_it I1 (by omega) (by omega) q1 q2 (by simpa using q))
noncomputable def tFor (wi:TI) (g:TG) (tb:TS):TS:=fun D σ H=>wi σ H fun J H1=>∃W:Nat→Nat→St→Hp→Prop,(∃m,W 0 m σ H1)∧∀i m σ H,W i m σ H →
  (J.stop i H∧D.nx σ H)∨(J.go i H∧∃N:St→Hp→Prop,(∀σ' H',N σ' H'→∃m',m'<m∧W (i+1) m' σ' H')∧∀x H',J.yld i H x H'→g x σ H' fun σ2 H2=>tb { D with nx:=N,ct:=N,bk:=D.nx } σ2 H2)
noncomputable def pinsAt (fp:List Addr) (h:Heap):List (Addr×Obj):=fp.filterMap fun b=>(h.get? b).map fun o=>(b,o)
theorem mem_pinsAt {fp:List Addr} {h:Heap} {b:Addr} {o:Obj} (hb:b∈fp) (e:h.get? b=some o):(b,o)∈pinsAt fp h:=List.mem_filterMap.mpr ⟨b,hb,by rw [e];rfl⟩
theorem of_pinsAt {fp:List Addr} {h:Heap} {p:Addr×Obj} (hp:p∈pinsAt fp h):p.1∈fp∧h.get? p.1=some p.2:=by
  obtain ⟨b,hb,e⟩:=List.mem_filterMap.mp hp
  cases q:h.get? b with
  | none=>rw [q] at e;cases e
  | some o=>
    rw [q] at e
    have e':(b,o)=p:=Option.some.inj e
    subst e'
    exact ⟨hb,q⟩
theorem Inv.pinned {pins:List (Addr×Obj)} {σ:St} {H:Hp} {s:Shared} {fp:List Addr} (I:Inv X pins σ H s) (hf:∀b∈fp,FpOk X pins H b) (ho:∀b∈fp,∃o,s.heap.get? b=some o∧∀v,o.data≠.cell v):Inv X (pins++pinsAt fp s.heap) σ H s:=
  I.pins_of fun p hp=>(List.mem_append.mp hp).elim (fun z=>I.pin p (List.mem_append_right _ z)) fun z=>by
    obtain ⟨hb,e⟩:=of_pinsAt z
    obtain ⟨f0,f1,f2,_⟩:=hf p.1 hb
    obtain ⟨o,e',d⟩:=ho p.1 hb
    rw [e] at e';cases e'
    exact ⟨e,f0,f1,f2,d⟩
theorem Inv.unpinned {pins pl:List (Addr×Obj)} {σ:St} {H:Hp} {s:Shared} (I:Inv X (pins++pl) σ H s):Inv X pins σ H s:=I.pins_of fun p hp=>I.pin p (List.mem_append_right _ (List.mem_append_left _ hp))
theorem ps_for {iter:Expr} {body:List Stmt} {wi:TI} {g:TG} {tb:TS} {pos:Pos} (hp:PassesOwn (model X.prog X.w) X.A X.env X.xe) (hc:X.calm=true) (hi:PI X tg iter wi) (hg:PG X tg g) (hb:PSs X body tb)
    (hs:autoParam (∀x,foldedSetIterable iter X.env x=pure x) au2_._auto_1):PS X (.For tg iter body [] pos) (tFor wi g tb):=by
  intro pins s σ H D I h
  refine wpAny_For (thn (hi pins s σ H _ I h) fun v s1 h1=>thn h1 fun itv s2 h2=>?_) hs
  obtain ⟨it,fp,tn,J,H2,e,I2,T,st2,f2,W,⟨m0,w0⟩,turn⟩:=h2
  subst e
  -- what stays true of the iterator's objects through the loop
  have stat:∀{H':Hp},(∀b∈fp,H' b=none)→∀b∈fp,FpOk X pins H' b:=fun hn b hb=>⟨hn b hb,(f2 b hb).2⟩
  refine codeAny_forLoop_any (fun n s'=>∃i σ' H',Inv X pins σ' H' s'∧tn i s'.heap∧(∀b∈fp,H' b=none)∧W i n σ' H') ?_ m0 ⟨0,σ,H2,I2,st2,fun b hb=>(f2 b hb).1,w0⟩
  rintro n s3 ⟨i,σ3,H3,I3,st3,fr3,w3⟩
  rcases turn i n σ3 H3 w3 with ⟨stop,qn⟩ | ⟨go,N,hN,step⟩
  · refine wpAny_passesOwn hp (thn (T.done X rfl rfl rfl hc i pins s3 σ3 H3 X.xe I3 (stat fr3) st3 stop) fun r s4 ⟨hr,I4⟩=>?_)
    subst hr
    exact wpAny_execs_nil ⟨σ3,H3,I4,qn⟩
  · refine wpAny_passesOwn hp (thn (T.item X rfl rfl rfl hc i pins s3 σ3 H3 X.xe I3 (stat fr3) st3 go) fun r s4 ⟨u,hr,h4⟩=>?_)
    subst hr
    refine wpAny_passesOwn hp (thn h4 fun _ s5 ⟨x,H5,I5,r5,y5,st5,fr5⟩=>?_)
    have I5':=I5.pinned (stat fr5) (T.obj _ _ st5)
    refine wpAny_passesOwn hp (thn (hg _ s5 σ3 H5 x u _ I5' r5 (step x H5 y5)) fun _ s6 ⟨σ6,H6,I6,q6⟩=>?_)
    refine wpAny_passesOwn hp (thn (hb _ s6 σ6 H6 _ I6 q6) fun f s7 q7=>?_)
    have again:∀{σ7:St} {H7:Hp},Inv X (pins++pinsAt fp s5.heap) σ7 H7 s7→N σ7 H7→∃m,m<n∧∃i σ' H',Inv X pins σ' H' s7∧tn i s7.heap∧(∀b∈fp,H' b=none)∧W i m σ' H':=fun {σ7 H7} I7 n7=>by
      obtain ⟨m',hm,w7⟩:=hN σ7 H7 n7
      refine ⟨m',hm,i+1,σ7,H7,I7.unpinned,T.keep _ _ _ st5 fun b hb o e=>(I7.pin (b,o) (List.mem_append_right _ (List.mem_append_right _ (mem_pinsAt hb e)))).1,fun b hb=>?_,w7⟩
      obtain ⟨o,e,d⟩:=T.obj _ _ st5 b hb
      exact (I7.pin (b,o) (List.mem_append_right _ (List.mem_append_right _ (mem_pinsAt hb e)))).2.1
    cases f with
    | next=>obtain ⟨σ7,H7,I7,n7⟩:=q7;exact again I7 n7
    | cont=>obtain ⟨σ7,H7,I7,n7⟩:=q7;exact again I7 n7
    | brk=>obtain ⟨σ7,H7,I7,q7⟩:=q7;exact ⟨σ7,H7,I7.unpinned,q7⟩
    | ret v=>obtain ⟨x7,σ7,H7,I7,r7,q7⟩:=q7;exact ⟨x7,σ7,H7,I7.unpinned,r7,q7⟩
end

theorem for_list {K:PySem.W.Frag} {a:Addr} {xs:List V} {g:TG} {tb:TS} {D:Ends} {σ:St} {H:Hp} (Pv:Nat→St→Hp→Prop) (h0:Pv 0 σ H) (hl:∀i σ H,i≤xs.length→Pv i σ H→SqL K H a xs)
    (hs:∀i x σ H,xs[i]?=some x→Pv i σ H→g x σ H fun σ2 H2=>tb { D with nx:=Pv (i+1),ct:=Pv (i+1),bk:=D.nx } σ2 H2) (hd:∀σ H,Pv xs.length σ H→D.nx σ H) :
    ∃W:Nat→Nat→St→Hp→Prop,(∃m,W 0 m σ H)∧∀i m σ H,W i m σ H →
      ((Itl K a).stop i H∧D.nx σ H)∨((Itl K a).go i H∧∃N:St→Hp→Prop,(∀σ' H',N σ' H'→∃m',m'<m∧W (i+1) m' σ' H')∧∀x H',(Itl K a).yld i H x H'→g x σ H' fun σ2 H2=>tb { D with nx:=N,ct:=N,bk:=D.nx } σ2 H2):=by
  refine ⟨fun i m σ H=>m=xs.length-i∧i≤xs.length∧Pv i σ H,⟨xs.length,by simp,Nat.zero_le _,h0⟩,?_⟩
  rintro i m σ H ⟨rfl,hi,p⟩
  have q:=hl i σ H hi p
  by_cases hlt:i<xs.length
  · refine .inr ⟨⟨xs,xs[i],q,by simp [hlt]⟩,Pv (i+1),fun σ' H' p'=>⟨xs.length-(i+1),by omega,rfl,hlt,p'⟩,fun x H' y=>?_⟩
    obtain ⟨e,y⟩:=y
    subst e
    exact hs i x σ _ (y xs q) p
  · have e:i=xs.length:=by omega
    subst e
    exact .inl ⟨⟨xs,q,Nat.le_refl _⟩,hd σ H p⟩
theorem for_range {lo:Int} {n:Nat} {g:TG} {tb:TS} {D:Ends} {σ:St} {H:Hp} (Pv:Nat→St→Hp→Prop) (h0:Pv 0 σ H)
    (hs:∀i σ H,i<n→Pv i σ H→g (.int (lo+i)) σ H fun σ2 H2=>tb { D with nx:=Pv (i+1),ct:=Pv (i+1),bk:=D.nx } σ2 H2) (hd:∀σ H,Pv n σ H→D.nx σ H) :
    ∃W:Nat→Nat→St→Hp→Prop,(∃m,W 0 m σ H)∧∀i m σ H,W i m σ H →
      ((Itr lo n).stop i H∧D.nx σ H)∨((Itr lo n).go i H∧∃N:St→Hp→Prop,(∀σ' H',N σ' H'→∃m',m'<m∧W (i+1) m' σ' H')∧∀x H',(Itr lo n).yld i H x H'→g x σ H' fun σ2 H2=>tb { D with nx:=N,ct:=N,bk:=D.nx } σ2 H2):=by
  refine ⟨fun i m σ H=>m=n-i∧i≤n∧Pv i σ H,⟨n,by simp,Nat.zero_le _,h0⟩,?_⟩
  rintro i m σ H ⟨rfl,hi,p⟩
  by_cases hlt:i<n
  · refine .inr ⟨hlt,Pv (i+1),fun σ' H' p'=>⟨n-(i+1),by omega,rfl,hlt,p'⟩,fun x H' y=>?_⟩
    obtain ⟨e,y⟩:=y
    subst e y
    exact hs i σ _ hlt p
  · have e:i=n:=by omega
    subst e
    exact .inl ⟨Nat.le_refl _,hd σ H p⟩
end L2

namespace L2
open PySem PySem.Spec PyProof.Rows

noncomputable abbrev R2:=V→V→Hp→VK→Prop
noncomputable def OpR (X:Cx) (f:Value→Value→Sem Value) (r:R2):Prop:=
  ∀(pins:List (Addr×Obj)) (s:Shared) (σ:St) (H:Hp) (x y:V) (v u:Value) (Q:VK),Inv X pins σ H s→RelV x v→RelV y u→r x y H Q →
    wpAny (model X.prog X.w) X.A (f v u) (EP X pins σ Q) X.xe s
noncomputable def UnR (X:Cx) (f:Value→Sem Value) (r:V→Hp→VK→Prop):Prop:=
  ∀(pins:List (Addr×Obj)) (s:Shared) (σ:St) (H:Hp) (x:V) (v:Value) (Q:VK),Inv X pins σ H s→RelV x v→r x H Q →
    wpAny (model X.prog X.w) X.A (f v) (EP X pins σ Q) X.xe s
noncomputable def CallR (X:Cx) (f:Value) (r:List V→Hp→VK→Prop):Prop:=
  ∀(pins:List (Addr×Obj)) (s:Shared) (σ:St) (H:Hp) (xs:List V) (us:List Value) (Q:VK),Inv X pins σ H s→Vals xs us→r xs H Q →
    wpAny (model X.prog X.w) X.A (call f us) (EP X pins σ Q) X.xe s
noncomputable def tOp (r:R2) (ta tb:TE):TE:=fun σ H Q=>ta σ H fun x H1=>tb σ H1 fun y H2=>r x y H2 Q
noncomputable def tUn (r:V→Hp→VK→Prop) (ta:TE):TE:=fun σ H Q=>ta σ H fun x H1=>r x H1 Q
noncomputable def rI (C:Int→Int→Prop) (g:Int→Int→V):R2:=fun x y H Q=>∃i j,x=.int i∧y=.int j∧C i j∧Q (g i j) H
noncomputable def rI0 (g:Int→Int→V):R2:=fun x y H Q=>∃i j,x=.int i∧y=.int j∧Q (g i j) H
noncomputable def rU (g:Int→V):V→Hp→VK→Prop:=fun x H Q=>∃i,x=.int i∧Q (g i) H

section
variable {X:Cx} {a b c:Expr} {ta tb tc:TE} {pos:Pos}

theorem binT (ha:PE X a ta) (hb:PE X b tb) {pins:List (Addr×Obj)} {s:Shared} {σ:St} {H:Hp} {R:V→V→Hp→Prop} (I:Inv X pins σ H s)
    (h:ta σ H fun x H1=>tb σ H1 fun y H2=>R x y H2) {Q:Value→Shared→Prop} {f:Value→Value→Sem Value}
    (hf:∀v u s2 x y H2,Inv X pins σ H2 s2→RelV x v→RelV y u→R x y H2→wpAny (model X.prog X.w) X.A (f v u) Q X.xe s2) :
    wpAny (model X.prog X.w) X.A (eval a X.env) (fun v s₁=>wpAny (model X.prog X.w) X.A (eval b X.env) (fun u s₂=>wpAny (model X.prog X.w) X.A (f v u) Q X.xe s₂) X.xe s₁) X.xe s:=by
  refine thn (ha pins s σ H _ I h) fun v s1 ⟨x,H1,I1,r1,q1⟩=>?_
  refine thn (hb pins s1 σ H1 _ I1 q1) fun u s2 ⟨y,H2,I2,r2,q2⟩=>?_
  exact hf v u s2 x y H2 I2 r1 r2 q2

theorem pe_op {op:Operator} {r:R2} (ho:OpR X (binaryOp op) r) (ha:PE X a ta) (hb:PE X b tb):PE X (.BinOp a op b pos) (tOp r ta tb):=by
  intro pins s σ H Q I h
  exact wpAny_BinOp (binT ha hb I h fun v u s2 x y H2 I2 rx ry q=>ho pins s2 σ H2 x y v u Q I2 rx ry q)
theorem pe_un {op:UnaryOp} {r:V→Hp→VK→Prop} (ho:UnR X (unaryOp op) r) (ha:PE X a ta):PE X (.UnaryOp op a pos) (tUn r ta):=by
  intro pins s σ H Q I h
  exact UnaryOp_ (thn (ha pins s σ H _ I h) fun v s1 ⟨x,H1,I1,r1,q1⟩=>ho pins s1 σ H1 x v Q I1 r1 q1)
theorem opI {f:Value→Value→Sem Value} {C:Int→Int→Prop} {g:Int→Int→Int}
    (rule:∀(i j:Int) (t u:Tok) (s:Shared) (Q:Value→Shared→Prop) (E:Value→Shared→Prop),C i j→Q (.int (g i j) s.toks) { s with toks:=s.toks+1 }→wpAny (model X.prog X.w) X.A (f (.int i t) (.int j u)) Q E s) :
    OpR X f (rI C fun i j=>.int (g i j)):=by
  intro pins s σ H x y v u Q I rx ry h
  obtain ⟨i,j,rfl,rfl,hc,q⟩:=h
  obtain ⟨t,rfl⟩:=rx
  obtain ⟨t',rfl⟩:=ry
  exact rule i j t t' s _ _ hc ⟨.int (g i j),H,I.tok _,⟨_,rfl⟩,q⟩
theorem opI0 {f:Value→Value→Sem Value} {g:Int→Int→Int}
    (rule:∀(i j:Int) (t u:Tok) (s:Shared) (Q:Value→Shared→Prop) (E:Value→Shared→Prop),Q (.int (g i j) s.toks) { s with toks:=s.toks+1 }→wpAny (model X.prog X.w) X.A (f (.int i t) (.int j u)) Q E s) :
    OpR X f (rI0 fun i j=>.int (g i j)):=by
  intro pins s σ H x y v u Q I rx ry h
  obtain ⟨i,j,rfl,rfl,q⟩:=h
  obtain ⟨t,rfl⟩:=rx
  obtain ⟨t',rfl⟩:=ry
  exact rule i j t t' s _ _ ⟨.int (g i j),H,I.tok _,⟨_,rfl⟩,q⟩
theorem opB0 {f:Value→Value→Sem Value} {g:Int→Int→Bool}
    (rule:∀(i j:Int) (t u:Tok) (s:Shared) (Q:Value→Shared→Prop) (E:Value→Shared→Prop),Q (.bool (g i j)) s→wpAny (model X.prog X.w) X.A (f (.int i t) (.int j u)) Q E s) :
    OpR X f (rI0 fun i j=>.bl (g i j)):=by
  intro pins s σ H x y v u Q I rx ry h
  obtain ⟨i,j,rfl,rfl,q⟩:=h
  obtain ⟨t,rfl⟩:=rx
  obtain ⟨t',rfl⟩:=ry
  exact rule i j t t' s _ _ ⟨.bl (g i j),H,I,rfl,q⟩

noncomputable def CPow (i j:Int):Prop:=0≤j∧j≤1000000∧i.natAbs<2 ^ 64
noncomputable def CMul (i j:Int):Prop:=(-(2 ^ 64)<i∧i<2 ^ 64)∨(-(2 ^ 64)<j∧j<2 ^ 64)
theorem CMul.ok {i j:Int} (h:CMul i j):IntMulOk i j:=by
  rcases h with ⟨h1,h2⟩ | ⟨h1,h2⟩
  · exact .of_left (intBits_le_64 h1 h2)
  · exact .of_right (intBits_le_64 h1 h2)
theorem op_add:OpR X (binaryOp .Add) (rI0 fun i j=>.int (i+j)):=opI0 fun _ _ _ _ _ _ _ q=>add_int q
theorem op_sub:OpR X (binaryOp .Sub) (rI0 fun i j=>.int (i-j)):=opI0 fun _ _ _ _ _ _ _ q=>sub_int q
theorem op_mod:OpR X (binaryOp .Mod) (rI (fun _ j=>0<j) fun i j=>.int (i % j)):=opI fun i j _ _ _ _ _ hc q=>by
  have h1:(0:Int)<j:=hc
  exact mod_int' (by omega) (by rw [Int.fmod_eq_emod_of_nonneg i (by omega)];exact q)
theorem op_pow:OpR X (binaryOp .Pow) (rI CPow fun i j=>.int (i ^ j.toNat)):=opI fun _ _ _ _ _ _ _ hc q=>pow_int_small hc.1 hc.2.1 hc.2.2 q
theorem unI {f:Value→Sem Value} {g:Int→Int}
    (rule:∀(i:Int) (t:Tok) (s:Shared) (Q:Value→Shared→Prop) (E:Value→Shared→Prop),Q (.int (g i) s.toks) { s with toks:=s.toks+1 }→wpAny (model X.prog X.w) X.A (f (.int i t)) Q E s) :
    UnR X f (rU fun i=>.int (g i)):=by
  intro pins s σ H x v Q I rx h
  obtain ⟨i,rfl,q⟩:=h
  obtain ⟨t,rfl⟩:=rx
  exact rule i t s _ _ ⟨.int (g i),H,I.tok _,⟨_,rfl⟩,q⟩
theorem un_neg:UnR X (unaryOp .USub) (rU fun i=>.int (-i)):=unI fun _ _ _ _ _ q=>neg_int q
end

noncomputable def scal:V→V→Bool
  | .non,.non=>true | .non,.int _=>true | .int _,.non=>true | .non,.bl _=>true | .bl _,.non=>true | .non,.str _=>true | .str _,.non=>true
  | .int _,.int _=>true | .bl _,.bl _=>true | .str _,.str _=>true | .byt _,.byt _=>true
  | .int _,.str _=>true | .str _,.int _=>true | .bl _,.str _=>true | .str _,.bl _=>true
  | _,_=>false
noncomputable def rEq:R2:=fun x y H Q=>scal x y=true∧Q (.bl (decide (x=y))) H
noncomputable def rNe:R2:=fun x y H Q=>scal x y=true∧Q (.bl (!decide (x=y))) H

theorem dec_int {i j:Int}:decide (V.int i=V.int j)=(i==j):=by
  rw [Bool.eq_iff_iff]
  simp
theorem dec_bl {i j:Bool}:decide (V.bl i=V.bl j)=(i==j):=by
  rw [Bool.eq_iff_iff]
  simp
theorem dec_str {i j:Str}:decide (V.str i=V.str j)=(i==j):=by
  rw [Bool.eq_iff_iff]
  simp
theorem dec_byt {i j:Array UInt8}:decide (V.byt i=V.byt j)=(i.toList==j.toList):=by
  rw [Bool.eq_iff_iff]
  cases i
  cases j
  simp

section
variable {X:Cx} {a b c:Expr} {ta tb tc:TE} {pos:Pos}
theorem fin_bl {pins:List (Addr×Obj)} {σ:St} {H:Hp} {s:Shared} {Q:VK} {k k':Bool} (I:Inv X pins σ H s) (q:Q (.bl k) H) (e:k=k'):EP X pins σ Q (.bool k') s:=by
  subst e
  exact ⟨.bl k,H,I,rfl,q⟩
theorem op_eq:OpR X (compareOp .Eq) rEq:=by
  intro pins s σ H x y v u Q I rx ry h
  obtain ⟨hs,q⟩:=h
  cases x with
  | non=>
    cases rx
    cases y with
    | non=>cases ry;exact PySem.EqNone.eq_none_none (fin_bl I q (by simp))
    | bl j=>cases ry;exact PySem.EqNone.eq_none_bool (fin_bl I q (by simp))
    | int j=>obtain ⟨t',rfl⟩:=ry;exact PySem.EqNone.eq_none_int (fin_bl I q (by simp))
    | str j=>obtain ⟨t',rfl⟩:=ry;exact PySem.EqNone.eq_none_str (fin_bl I q (by simp))
    | _=>exact absurd (show false=true from hs) Bool.false_ne_true
  | bl i=>
    cases rx
    cases y with
    | non=>cases ry;exact PySem.EqNone.eq_bool_none (fin_bl I q (by simp))
    | bl j=>cases ry;exact eq_bool (fin_bl I q dec_bl)
    | str j=>obtain ⟨t',rfl⟩:=ry;exact PySem.EqMixed.eq_bool_str (fin_bl I q (by simp))
    | _=>exact absurd (show false=true from hs) Bool.false_ne_true
  | int i=>
    obtain ⟨t,rfl⟩:=rx
    cases y with
    | non=>cases ry;exact PySem.EqNone.eq_int_none (fin_bl I q (by simp))
    | int j=>obtain ⟨t',rfl⟩:=ry;exact eq_int (fin_bl I q dec_int)
    | str j=>obtain ⟨t',rfl⟩:=ry;exact PySem.EqMixed.eq_int_str (fin_bl I q (by simp))
    | _=>exact absurd (show false=true from hs) Bool.false_ne_true
  | str i=>
    obtain ⟨t,rfl⟩:=rx
    cases y with
    | non=>cases ry;exact PySem.EqNone.eq_str_none (fin_bl I q (by simp))
    | bl j=>cases ry;exact PySem.EqMixed.eq_str_bool (fin_bl I q (by simp))
    | int j=>obtain ⟨t',rfl⟩:=ry;exact PySem.EqMixed.eq_str_int (fin_bl I q (by simp))
    | str j=>obtain ⟨t',rfl⟩:=ry;exact eq_str (fin_bl I q dec_str)
    | _=>exact absurd (show false=true from hs) Bool.false_ne_true
  | byt i=>
    obtain ⟨t,rfl⟩:=rx
    cases y with
    | byt j=>obtain ⟨t',rfl⟩:=ry;exact PySem.W.eq_bytes (fin_bl I q dec_byt)
    | _=>exact absurd (show false=true from hs) Bool.false_ne_true
  | _=>cases y <;> exact absurd (show false=true from hs) Bool.false_ne_true
theorem op_ne:OpR X (compareOp .NotEq) rNe:=by
  intro pins s σ H x y v u Q I rx ry h
  obtain ⟨hs,q⟩:=h
  cases x with
  | non=>
    cases rx
    cases y with
    | non=>cases ry;exact PySem.EqNone.ne_none_none (fin_bl I q (by simp))
    | bl j=>cases ry;exact PySem.EqNone.ne_none_bool (fin_bl I q (by simp))
    | int j=>obtain ⟨t',rfl⟩:=ry;exact PySem.EqNone.ne_none_int (fin_bl I q (by simp))
    | str j=>obtain ⟨t',rfl⟩:=ry;exact PySem.EqNone.ne_none_str (fin_bl I q (by simp))
    | _=>exact absurd (show false=true from hs) Bool.false_ne_true
  | bl i=>
    cases rx
    cases y with
    | non=>cases ry;exact PySem.EqNone.ne_bool_none (fin_bl I q (by simp))
    | bl j=>cases ry;exact ne_bool (fin_bl I q (congrArg not dec_bl))
    | str j=>obtain ⟨t',rfl⟩:=ry;exact PySem.EqMixed.ne_bool_str (fin_bl I q (by simp))
    | _=>exact absurd (show false=true from hs) Bool.false_ne_true
  | int i=>
    obtain ⟨t,rfl⟩:=rx
    cases y with
    | non=>cases ry;exact PySem.EqNone.ne_int_none (fin_bl I q (by simp))
    | int j=>obtain ⟨t',rfl⟩:=ry;exact ne_int (fin_bl I q (congrArg not dec_int))
    | str j=>obtain ⟨t',rfl⟩:=ry;exact PySem.EqMixed.ne_int_str (fin_bl I q (by simp))
    | _=>exact absurd (show false=true from hs) Bool.false_ne_true
  | str i=>
    obtain ⟨t,rfl⟩:=rx
    cases y with
    | non=>cases ry;exact PySem.EqNone.ne_str_none (fin_bl I q (by simp))
    | bl j=>cases ry;exact PySem.EqMixed.ne_str_bool (fin_bl I q (by simp))
    | int j=>obtain ⟨t',rfl⟩:=ry;exact PySem.EqMixed.ne_str_int (fin_bl I q (by simp))
    | str j=>obtain ⟨t',rfl⟩:=ry;exact ne_str (fin_bl I q (congrArg not dec_str))
    | _=>exact absurd (show false=true from hs) Bool.false_ne_true
  | byt i=>
    obtain ⟨t,rfl⟩:=rx
    cases y with
    | byt j=>obtain ⟨t',rfl⟩:=ry;exact PySem.W.ne_bytes (fin_bl I q (congrArg not dec_byt))
    | _=>exact absurd (show false=true from hs) Bool.false_ne_true
  | _=>cases y <;> exact absurd (show false=true from hs) Bool.false_ne_true

theorem op_lt:OpR X (compareOp .Lt) (rI0 fun i j=>.bl (decide (i<j))):=opB0 fun _ _ _ _ _ _ _ q=>lt_int q
theorem op_gt:OpR X (compareOp .Gt) (rI0 fun i j=>.bl (decide (j<i))):=opB0 fun _ _ _ _ _ _ _ q=>gt_int q
theorem op_ge:OpR X (compareOp .GtE) (rI0 fun i j=>.bl (decide (j≤i))):=opB0 fun _ _ _ _ _ _ _ q=>ge_int q
theorem op_in_str:OpR X (compareOp .In) (fun x y H Q=>∃i j,x=.str i∧y=.str j∧Q (.bl (!(Builtin.Str.occurrences j i 0 j.length 1).isEmpty)) H):=by
  intro pins s σ H x y v u Q I rx ry h
  obtain ⟨i,j,rfl,rfl,q⟩:=h
  obtain ⟨t,rfl⟩:=rx
  obtain ⟨t',rfl⟩:=ry
  exact in_str (fin_bl I q rfl)

theorem op_isN:OpR X (compareOp .Is) (fun x y H Q=>y=.non∧Q (.bl (decide (x=.non))) H):=by
  intro pins s σ H x y v u Q I rx ry h
  obtain ⟨rfl,q⟩:=h
  cases ry
  refine is_none_gen (fin_bl I q ?_)
  cases x <;> first
    | (cases rx;rfl)
    | (obtain ⟨t,rfl⟩:=rx;rfl)
theorem op_notN:OpR X (compareOp .IsNot) (fun x y H Q=>y=.non∧Q (.bl (!decide (x=.non))) H):=by
  intro pins s σ H x y v u Q I rx ry h
  obtain ⟨rfl,q⟩:=h
  cases ry
  refine isnot_none_gen (fin_bl I q ?_)
  cases x <;> first
    | (cases rx;rfl)
    | (obtain ⟨t,rfl⟩:=rx;rfl)

theorem op_notin_str:OpR X (compareOp .NotIn) (fun x y H Q=>∃i j,x=.str i∧y=.str j∧Q (.bl (!(!(Builtin.Str.occurrences j i 0 j.length 1).isEmpty))) H):=by
  intro pins s σ H x y v u Q I rx ry h
  obtain ⟨i,j,rfl,rfl,q⟩:=h
  obtain ⟨t,rfl⟩:=rx
  obtain ⟨t',rfl⟩:=ry
  exact notIn_str (fin_bl I q rfl)
theorem nomark (b:Expr) {op:CmpOp} (h:autoParam (op≠.In) au1_._auto_1) (h2:autoParam (op≠.NotIn) au1_._auto_1):behindInMarks op b=false:=by
  have e1:(op==CmpOp.In)=false:=by cases op <;> first | rfl | exact absurd rfl h
  have e2:(op==CmpOp.NotIn)=false:=by cases op <;> first | rfl | exact absurd rfl h2
  cases b <;> simp [behindInMarks,e1,e2]
theorem pe_cmpR {op:CmpOp} {r:R2} (ho:OpR X (compareOp op) r) (ha:PE X a ta) (hb:PE X b tb) (hm:behindInMarks op b=false):PE X (.Compare a [op] [b] pos) (tOp r ta tb):=by
  intro pins s σ H Q I h
  exact wpAny_Compare1 (binT ha hb I h fun v u s2 x y H2 I2 rx ry q=>ho pins s2 σ H2 x y v u Q I2 rx ry q) hm
noncomputable def tTest (t:TE):TT:=fun σ H Q=>t σ H fun x H'=>∃k,x=.bl k∧Q k H'
theorem pt_cmpR {op:CmpOp} {r:R2} (ho:OpR X (compareOp op) r) (ha:PE X a ta) (hb:PE X b tb) (hm:behindInMarks op b=false):PT X (.Compare a [op] [b] pos) (tTest (tOp r ta tb)):=by
  intro pins s σ H Q I h
  refine wpAny_isTrue_Compare1 (thn (ha pins s σ H _ I h) fun v s1 ⟨x,H1,I1,r1,q1⟩=>thn (hb pins s1 σ H1 _ I1 q1) fun u s2 ⟨y,H2,I2,r2,q2⟩=>
    thn (ho pins s2 σ H2 x y v u _ I2 r1 r2 q2) fun c s3 ⟨z,H3,I3,r3,k,e,q3⟩=>?_) hm
  subst e
  cases r3
  exact wpAny_truthy_bool ⟨H3,I3,q3⟩
theorem line63:(sizeLine:Nat)<2 ^ 63:=by rw [sizeLine_eq];decide
theorem op_add_str:OpR X (binaryOp .Add) (fun x y H Q=>∃i j,x=.str i∧y=.str j∧i.length+j.length≤sizeLine∧Q (.str (i++j)) H):=by
  intro pins s σ H x y v u Q I rx ry h
  obtain ⟨i,j,rfl,rfl,hz,q⟩:=h
  obtain ⟨t,rfl⟩:=rx
  obtain ⟨t',rfl⟩:=ry
  exact add_str (fun t' tk=>⟨.str (i++j),H,I.tok _,⟨_,rfl⟩,q⟩) hz
theorem vals1 {x:V} {us:List Value} (r:Vals [x] us):∃u,us=[u]∧RelV x u:=by
  cases r with
  | cons r1 r2=>cases r2;exact ⟨_,rfl,r1⟩
theorem vals2 {x y:V} {us:List Value} (r:Vals [x,y] us):∃u w',us=[u,w']∧RelV x u∧RelV y w':=by
  cases r with
  | cons r1 r2=>
    cases r2 with
    | cons r3 r4=>cases r4;exact ⟨_,_,rfl,r1,r3⟩
theorem call_str_int:CallR X (.type "str") (fun xs H Q=>∃i,xs=[.int i]∧i.natAbs.log2<1920∧Q (.str (toString i)) H):=by
  intro pins s σ H xs us Q I r h
  obtain ⟨i,rfl,hz,q⟩:=h
  obtain ⟨u,rfl,t,rfl⟩:=vals1 r
  exact PySem.P.str_of_int hz ⟨.str _,H,I.tok _,⟨_,rfl⟩,q⟩
end
end L2

namespace L2
open PySem PySem.Spec PyProof.Rows

structure ObjM (h:Heap) (x dx C:Addr) (mA:Str→Option Value):Prop where
  obj:h.get? x=some (PySem.W.instObj C dx)
  ns:h.Ns1 dx mA
  ne:dx≠x

theorem lookIn_ns {h:Heap} {dx:Addr} {mA:Str→Option Value} (n:h.Ns1 dx mA):∃od,h.get? dx=some od∧∀name,PySem.W.lookIn name od=some (mA name):=by
  obtain ⟨o,es,ep,ho,hd,hk,_,hm⟩:=n
  refine ⟨o,ho,fun name=>?_⟩
  have e:=hm name
  unfold nsFind findBy at e
  rw [← Array.find?_toList] at e
  unfold PySem.W.lookIn
  rw [hd]
  dsimp only
  split
  · rename_i y q
    rw [q] at e
    exact congrArg some e
  · rename_i q
    rw [q] at e
    have a:es.toList.any (·.refKey)=false:=by
      rw [List.any_eq_false]
      intro y hy
      obtain ⟨z,t,hkey⟩:=hk y (Array.mem_toList_iff.mp hy)
      simp [DictEntry.refKey,hkey]
    have a':¬es.toList.any (·.refKey)=true:=by rw [a];exact Bool.false_ne_true
    rw [if_neg a']
    exact congrArg some e

theorem ObjM.look {h:Heap} {x dx C:Addr} {mA:Str→Option Value} (I:ObjM h x dx C mA):∃od,PySem.W.InstAt h x (PySem.W.instObj C dx) C (some od)∧∀name,PySem.W.lookIn name od=some (mA name):=
  let ⟨od,ho,hl⟩:=lookIn_ns I.ns
  ⟨od,⟨I.obj,rfl,rfl,ho⟩,hl⟩

section
variable {prog:Program} {w:World} {A:Around} {E:Value→Shared→Prop} {s:Shared} {K:PySem.W.Frag} {x dx C f:Addr} {mA:Str→Option Value} {name:Str} {v:Value}

end

theorem RelO.some_of {v:V} {o:Option Value} (r:RelO (some v) o):∃u,o=some u∧RelV v u:=by
  cases o with
  | none=>exact (show False from r).elim
  | some u=>exact ⟨u,rfl,r⟩
theorem handed_of {v:V} {u:Value} (r:RelV v u):PySem.W.handedIn u=true:=by
  cases v with
  | non=>cases (show u=Value.none from r);rfl
  | bl b=>cases (show u=Value.bool b from r);rfl
  | int i=>obtain ⟨t,e⟩:=(show ∃t,u=Value.int i t from r);cases e;rfl
  | str x=>obtain ⟨t,e⟩:=(show ∃t,u=Value.str x t from r);cases e;rfl
  | byt b=>obtain ⟨t,e⟩:=(show ∃t,u=Value.bytes b t from r);cases e;rfl
  | flt b=>obtain ⟨t,e⟩:=(show ∃t,u=Value.float b t from r);cases e;rfl
  | ref a=>cases (show u=Value.ref a from r);rfl
  | ty n=>cases (show u=Value.type n from r);rfl

section
variable {P:Program} {w:World} {H H':Hp} {h h':Heap} {a C dx:Addr} {fs fs':List (Str×V)}
theorem ins_get (hok:HOk P w H h) (e:H a=some (.ins C dx fs)):∃mA,ObjM h a dx C mA∧(∀f,RelO (fs.lookup f) (mA f))∧PySem.Within mA (fs.map (·.1))∧fs.length≤1000∧H dx=some (.own a):=by
  obtain ⟨d,z,ne,ob,mA,n,r,q⟩:=(show ObjOk P w H h a (.ins C dx fs) from hok a _ e)
  exact ⟨mA,⟨ob,n,ne⟩,r,q,z,d⟩
end

structure Cls (K:PySem.W.Frag) (C:Addr):Prop where
  pg:PySem.W.plainGet K C Str.empty=true
  hd:PySem.W.hasDictIn K C=true
  po:PySem.W.plainOver K C=true
  sa:PySem.W.findIn K (.ref C) "__setattr__"=some (some (.builtin "object.__setattr__"))
theorem Cls.get {K:PySem.W.Frag} {C:Addr} (c:Cls K C) (f:Str):PySem.W.plainGet K C f=true:=c.pg
section
variable {X:Cx} {pins:List (Addr×Obj)} {σ:St} {H:Hp} {s:Shared} {a C dx:Addr} {fs:List (Str×V)} {f:Str} {v:V} {A:Around} {E:Value→Shared→Prop}

theorem attr_of {prog:Program} {w:World} {env:Env} {e:Expr} {f:Str} {pos:Pos} {s:Shared} {Q:Value→Shared→Prop} (hb:attributeBase e f env (eval e env)=eval e env)
    (h:wpAny (model prog w) A (eval e env) (fun o s₁=>wpAny (model prog w) A (getAttr o f true) Q E s₁) E s):wpAny (model prog w) A (eval (.Attribute e f pos) env) Q E s:=
  Attribute_any_ h (by rw [arm_eval_Attribute,hb])
end

section
variable {X:Cx} {o e value:Expr} {f:Str} {pos pos' tpos:Pos} {ta tv:TE}
end

section
variable {X:Cx} {pins:List (Addr×Obj)} {σ:St} {H:Hp} {s:Shared} {A:Around} {E:Value→Shared→Prop} {Q:Value→Shared→Prop} {c:Value} {b:Bool}
inductive TyOf (K:PySem.W.Frag) (H:Hp):V→Value→Prop where
  | non:TyOf K H .non (.type "NoneType")
  | bl (x:Bool):TyOf K H (.bl x) (.type "bool")
  | int (i:Int):TyOf K H (.int i) (.type "int")
  | str (x:Str):TyOf K H (.str x) (.type "str")
  | flt (x:UInt64):TyOf K H (.flt x) (.type "float")
  | lst {a:Addr} {xs:List V} (e:H a=some (.lst xs)):TyOf K H (.ref a) (.type "list")
  | frz {a:Addr} {o:Obj} {xs:List V} (e:H a=some (.frz o (.lst xs))):TyOf K H (.ref a) (.type "list")
  | tup {a:Addr} {xs:List V} (e:H a=some (.tup xs)):TyOf K H (.ref a) (.type "tuple")
  | dK {a:Addr} {kvs:List (Key×V)} (e:H a=some (.dK kvs)):TyOf K H (.ref a) (.type "dict")
  | dT {a:Addr} {kvs:List (List Key×V)} (e:H a=some (.dT kvs)):TyOf K H (.ref a) (.type "dict")
  | ins {a C dx:Addr} {fs:List (Str×V)} (e:H a=some (.ins C dx fs)) (cl:Cls K C) (ha:PySem.W.findIn K (.ref C) "__class__"=some (some (.builtin "object.__class__")))
      (hn:PySem.W.specialIn K (.builtin "object.__class__") "__get__"=some (some (.builtin "getset_descriptor.__get__"))) (htk:PySem.W.takesIn K (.builtin "object.__class__")=some true)
      (hm:PySem.W.mroIn K C (.type "object")=some true):TyOf K H (.ref a) (.ref C)
theorem isinst_ok {x:V} {u t:Value} (I:Inv X pins σ H s) (rx:RelV x u) (ty:TyOf X.K H x t) (e:PySem.W.kitOne X.K t c=some b) (h:∀tk,Q (.bool b) { s with toks:=tk }) :
    wpAny (model X.prog X.w) A (call (.builtin "isinstance") [u,c]) Q E s:=by
  cases ty with
  | non=>cases (show u=Value.none from rx);exact PySem.W.kia_one PySem.W.kitx_none I.kIn True.intro e (fun z=>nomatch z) h
  | bl y=>cases (show u=Value.bool y from rx);exact PySem.W.kia_one PySem.W.kitx_bool I.kIn True.intro e (fun z=>nomatch z) h
  | int i=>obtain ⟨t,q⟩:=(show ∃t,u=Value.int i t from rx);cases q;exact PySem.W.kia_one PySem.W.kitx_int I.kIn True.intro e (fun z=>nomatch z) h
  | str y=>obtain ⟨t,q⟩:=(show ∃t,u=Value.str y t from rx);cases q;exact PySem.W.kia_one PySem.W.kitx_str I.kIn True.intro e (fun z=>nomatch z) h
  | flt y=>obtain ⟨t,q⟩:=(show ∃t,u=Value.float y t from rx);cases q;exact PySem.W.kia_one PySem.W.kitx_float I.kIn True.intro e (fun z=>nomatch z) h
  | @lst a xs ea=>
    cases (show u=Value.ref a from rx)
    obtain ⟨_,_,n,_,h1⟩:=(show ObjOk X.prog X.w H s.heap a (.lst xs) from I.hok a _ ea)
    exact PySem.W.kia_one PySem.W.kitx_list I.kIn ⟨_,h1,rfl⟩ e (fun z=>nomatch z) h
  | @frz a ob xs ea=>
    cases (show u=Value.ref a from rx)
    obtain ⟨_,_,_,n,_,h1⟩:=(show ObjOk X.prog X.w H s.heap a (.frz ob (.lst xs)) from I.hok a _ ea)
    exact PySem.W.kia_one PySem.W.kitx_list I.kIn ⟨_,h1,rfl⟩ e (fun z=>nomatch z) h
  | @tup a xs ea=>
    cases (show u=Value.ref a from rx)
    obtain ⟨_,_,_,p⟩:=(show ObjOk X.prog X.w H s.heap a (.tup xs) from I.hok a _ ea)
    obtain ⟨o,h1,h2,_⟩:=p
    exact PySem.W.kia_one PySem.W.kitx_tuple I.kIn ⟨o,h1,h2⟩ e (fun z=>nomatch z) h
  | @dK a kvs ea=>
    cases (show u=Value.ref a from rx)
    obtain ⟨_,_,vs,_,p⟩:=(show ObjOk X.prog X.w H s.heap a (.dK kvs) from I.hok a _ ea)
    obtain ⟨o,es,ep,h1,h2,_⟩:=p
    exact PySem.W.kia_one PySem.W.kitx_dict I.kIn ⟨o,h1,h2.1⟩ e (fun z=>nomatch z) h
  | @dT a kvs ea=>
    cases (show u=Value.ref a from rx)
    obtain ⟨_,_,xs,_,o,es,ep,h1,h2,_⟩:=(show ObjOk X.prog X.w H s.heap a (.dT kvs) from I.hok a _ ea)
    exact PySem.W.kia_one PySem.W.kitx_dict I.kIn ⟨o,h1,h2.1⟩ e (fun z=>nomatch z) h
  | @ins a C dx fs ea cl ha hn htk hm=>
    cases (show u=Value.ref a from rx)
    obtain ⟨mA,O,_⟩:=ins_get I.hok ea
    obtain ⟨od,J,_⟩:=O.look
    exact PySem.W.kia_one (PySem.W.kitx_own (cl.get _) cl.hd ha hn htk hm) I.kIn J e (fun z=>nomatch z) h
end
end L2

namespace L2
open PySem PySem.Spec PyProof.Rows

structure Room (k:Nat) (A:Around):Prop where
  hd:A.handled=none
  dp:A.depth+3*k+5<recursionLimit
  un:A.units+16*k+200<cLine
theorem Room.mono {j k:Nat} {A:Around} (r:Room k A) (h:j≤k):Room j A:=⟨r.hd,by have:=r.dp;omega,by have:=r.un;omega⟩
theorem Room.deeper {k:Nat} {A:Around} (r:Room (k+1) A) (env:Env):Room k (A.deeper env):=
  ⟨r.hd,by have:=r.dp;show A.depth+1+3*k+5<_;omega,by have:=r.un;show A.units+3+16*k+200<_;omega⟩
theorem make_depth {A:Around} {C:Addr} {us:List Value} {kw:List (Str×Value)}:(A.under (.builtin "type.__call__" ⟨.ref C::us,kw⟩)).depth=A.depth+1:=by
  first | rfl | simp [Around.under,Code.weight,Code.isCreation,Code.isGuard,Code.isCaller,Code.frames,Code.isFrame,guardIds]
theorem make_units {A:Around} {C:Addr} {us:List Value} {kw:List (Str×Value)}:(A.under (.builtin "type.__call__" ⟨.ref C::us,kw⟩)).units=A.units+1:=by
  first | rfl | simp [Around.under,Code.cUnits,Code.frames,Code.isFrame]
theorem Room.make {k:Nat} {A:Around} (r:Room (k+1) A) (C:Addr) (us:List Value) (kw:List (Str×Value)):Room k (A.under (.builtin "type.__call__" ⟨.ref C::us,kw⟩)):=
  ⟨r.hd,by have:=r.dp;rw [make_depth];omega,by have:=r.un;rw [make_units];omega⟩
theorem Room.depth {k:Nat} {A:Around} (r:Room k A):A.depth<recursionLimit:=by have:=r.dp;omega
theorem Room.units {k:Nat} {A:Around} (r:Room k A):A.units+64<cLine:=by have:=r.un;omega
noncomputable def tNil:TA:=fun _ H Q=>Q [] H
noncomputable def tCons (ta:TE) (tr:TA):TA:=fun σ H Q=>ta σ H fun x H1=>tr σ H1 fun xs H2=>Q (x::xs) H2
section
variable {X:Cx} {e:Expr} {es:List Expr} {te:TE} {t:TA} {pos:Pos}
theorem pa_nil:PA X [] tNil:=fun _ _ _ _ H Q I h=>Calls.spliced_nil ⟨[],H,I,.nil,h⟩
theorem pa_cons (ha:PE X e te) (hr:PA X es t) (hs:autoParam (starEach (e::es) X.env=(false,eval e X.env)::starEach es X.env) au0_._auto_1):PA X (e::es) (tCons te t):=by
  intro pos pins s σ H Q I h
  rw [hs]
  show wpAny _ _ (spliced ((false,eval e X.env)::backTo pos (starEach es X.env))) _ _ s
  refine Calls.spliced_cons (thn (ha pins s σ H _ I h) fun u s1 ⟨x,H1,I1,r1,q1⟩=>?_)
  exact thn (hr pos pins s1 σ H1 _ I1 q1) fun us s2 ⟨xs,H2,I2,r2,q2⟩=>⟨x::xs,H2,I2,.cons r1 r2,q2⟩

noncomputable def tTup (t:TA):TE:=fun σ H Q=>t σ H fun xs H1=>xs.length≤sizeLine∧∀p,H1 p=none→Q (.ref p) (upd H1 p (.tup xs))
noncomputable def tLst (t:TA):TE:=fun σ H Q=>t σ H fun xs H1=>xs.length≤sizeLine∧∀p,H1 p=none→Q (.ref p) (upd H1 p (.lst xs))
theorem pe_tup {x1} (h:PA X es t):PE X (.Tuple es x1 pos) (tTup t):=by
  intro pins s σ H Q I hq
  refine wpAny_Tuple_spliced (thn (h pos pins s σ H _ I hq) fun us s1 ⟨xs,H1,I1,r,z,q⟩=>⟨by rw [← r.length];exact z,?_⟩)
  have hf:H1 s1.heap.objs.size=none:=I1.hok.fresh (Nat.le_refl _)
  refine ⟨.ref s1.heap.objs.size,upd H1 s1.heap.objs.size (.tup xs),I1.laid (t':=s1.toks) (fun b u e=>Heap.get?_push_of_some _ e) (Nat.le_refl _) ?_,rfl,q _ hf⟩
  exact ⟨z,us,r,⟨_,Heap.get?_push_size _ rfl,rfl,_,rfl⟩⟩
theorem pe_lst (h:PA X es t):PE X (.List es pos) (tLst t):=by
  intro pins s σ H Q I hq
  refine wpAny_List_spliced (thn (h pos pins s σ H _ I hq) fun us s1 ⟨xs,H1,I1,r,z,q⟩=>⟨by rw [← r.length];exact z,?_⟩)
  have hf:H1 s1.heap.objs.size=none:=I1.hok.fresh (Nat.le_refl _)
  refine ⟨.ref s1.heap.objs.size,upd H1 s1.heap.objs.size (.lst xs),I1.laid (t':=s1.toks) (fun b u e=>Heap.get?_push_of_some _ e) (Nat.le_refl _) ?_,rfl,q _ hf⟩
  exact ⟨z,us,0,r,Heap.get?_push_size _ rfl⟩
end

noncomputable abbrev Sp:=List V→Hp→VK→XK→Prop
noncomputable abbrev CXT:=List Env→Hp→Shared→XK→Value→Shared→Prop

structure Env0 (P:Program) (w:World) (K:PySem.W.Frag) (mg:Str→Option Value) (base:Heap) (A:Around) (outer:List Env) (s:Shared) (H:Hp):Prop where
  frames:A.frames=some outer
  mod:Mod K mg base
  bs:∀b o,base.get? b=some o→s.heap.get? b=some o∧H b=none
  bsz:base.objs.size≤s.heap.objs.size
  funs:s.heap.FunFrames base outer
  frf:∀b∈frs outer,H b=none
  hok:HOk P w H s.heap
  bare:AllBare s.gens
noncomputable def CE (outer:List Env) (P:Program) (w:World) (H:Hp) (s:Shared) (Q:VK) (u:Value) (s':Shared):Prop:=
  ∃v H',s'.os=s.os∧AllBare s'.gens∧Un (frs outer) [] H H' s.heap s'.heap∧HOk P w H' s'.heap∧RelV v u∧Q v H'
noncomputable def CR (CX:CXT) (outer:List Env) (P:Program) (w:World) (H:Hp) (s:Shared) (Q:VK) (E:XK) (r:Result) (s':Shared):Prop:=
  match r with
  | .ok (.ret u)=>CE outer P w H s Q u s'
  | .ok _=>False
  | .error e=>CX outer H s E e s'
structure FnOk (P:Program) (w:World) (K:PySem.W.Frag) (mg:Str→Option Value) (base:Heap) (CX:CXT) (k:Nat) (f:Addr) (fd:FuncData) (ps:List Str) (sp:Sp):Prop where
  len:∀vs H Q E,sp vs H Q E→vs.length=ps.length
  run:∀(A:Around) (outer:List Env) (s:Shared) (H:Hp) (args:Args) (us:List Value) (vs:List V) (Q:VK) (E:XK),Room k A→Env0 P w K mg base A outer s H→BindsTo s fd args (ps.zip us)→Vals vs us→sp vs H Q E →
    codeAny (model P w) A (.call (.ref f) args) (CR CX outer P w H s Q E) s
theorem Env0.make {P:Program} {w:World} {K:PySem.W.Frag} {mg:Str→Option Value} {base:Heap} {A:Around} {outer:List Env} {s:Shared} {H:Hp} (e:Env0 P w K mg base A outer s H) (C:Addr) (us:List Value) (kw:List (Str×Value)) :
    Env0 P w K mg base (A.under (.builtin "type.__call__" ⟨.ref C::us,kw⟩)) outer s H:=⟨by first | exact e.frames | (simpa [Around.under,Code.envs,Code.isFrame,pushEnvs] using e.frames),e.mod,e.bs,e.bsz,e.funs,e.frf,e.hok,e.bare⟩
section
variable {X:Cx} {pins:List (Addr×Obj)} {σ:St} {H:Hp} {s s':Shared}
theorem Inv.env0 (I:Inv X pins σ H s):Env0 X.prog X.w X.K X.mg X.base X.A X.stack s H:=
  ⟨I.ok.frames,I.ok.mod,I.bs,Nat.le_trans I.ok.bsz I.sz,I.stack,I.stkFree,I.hok,I.bare⟩
theorem Inv.after {Q:VK} {u:Value} (I:Inv X pins σ H s) (h:CE X.stack X.prog X.w H s Q u s'):EP X pins σ Q u s':=by
  obtain ⟨v,H',os,bare,un,hok,r,q⟩:=h
  obtain ⟨hh,g,d,t,os'⟩:=s'
  obtain rfl:os'=s.os:=os
  exact ⟨v,H',I.call (h':=hh) (g':=g) (d':=d) (t':=t) (ch:=[]) un hok bare (fun b z=>absurd z (by simp)),r,q⟩
end

noncomputable def tCall (sp:Sp) (dvs:List V) (E:XK) (t:TA):TE:=fun σ H Q=>t σ H fun vs H1=>sp (vs++dvs) H1 Q E
noncomputable def Binds (K:PySem.W.Frag) (fd:FuncData) (ps:List Str) (ds:List Value):Prop:=
  ∀(s:Shared) (us:List Value),K.In s.heap→(us++ds).length=ps.length→BindsTo s fd ⟨us,[]⟩ (ps.zip (us++ds))
theorem Binds.all {K:PySem.W.Frag} {fd:FuncData} {ps:List Str} (h:∀us:List Value,us.length=ps.length→bindArgs fd ⟨us,[]⟩=pure (ps.zip us)):Binds K fd ps []:=fun s us _ hl=>by
  rw [List.append_nil] at hl ⊢
  exact .of_eq (h us hl)

noncomputable def Passes (CX:CXT) (X:Cx) (E:XK):Prop:=∀(pins:List (Addr×Obj)) (σ:St) (H:Hp) (s:Shared) (e:Value) (s':Shared),Inv X pins σ H s→CX X.stack H s E e s'→X.xe e s'

section
variable {X:Cx} {CX:CXT} {k:Nat} {f C:Addr} {fd:FuncData} {ps:List Str} {sp:Sp} {dvs:List V} {ds:List Value} {E:XK} {x m:Str} {p pos apos:Pos} {e o:Expr} {es:List Expr} {ta:TE} {t:TA}

theorem run_fn {pins:List (Addr×Obj)} {σ:St} {H:Hp} {s:Shared} {Q:VK} {us:List Value} {vs:List V} (F:FnOk X.prog X.w X.K X.mg X.base CX k f fd ps sp) (hr:Room k X.A) (hb:Binds X.K fd ps ds) (hd:Vals dvs ds) (hx:Passes CX X E)
    (I:Inv X pins σ H s) (r:Vals vs us) (h:sp (vs++dvs) H Q E):wpAny (model X.prog X.w) X.A (call (.ref f) us) (EP X pins σ Q) X.xe s:=by
  have r2:Vals (vs++dvs) (us++ds):=r.append hd
  have hl:(us++ds).length=ps.length:=by rw [← r2.length];exact F.len _ _ _ _ h
  refine wpAny_call (codeAny_mono (F.run X.A X.stack s H ⟨us,[]⟩ (us++ds) (vs++dvs) Q E hr I.env0 (hb s us I.kIn hl) r2 h) fun r s' hq=>?_)
  cases r with
  | error e=>exact hx pins σ H s e s' I hq
  | ok fl=>
    cases fl with
    | ret u=>exact I.after hq
    | next=>exact False.elim hq
    | brk=>exact False.elim hq
    | cont=>exact False.elim hq

theorem pe_call (F:FnOk X.prog X.w X.K X.mg X.base CX k f fd ps sp) (hr:Room k X.A) (hg:Gl X x) (hm:X.mg x=some (.ref f)) (hk:PySem.W.keepIn X.K (.ref f)=true) (hb:Binds X.K fd ps ds) (hd:Vals dvs ds) (hx:Passes CX X E)
    (ha:PA X (e::es) t) (hdb:autoParam ((x==("__debug__":Str))=false) au1_._auto_1) (he:autoParam (starEach (e::es) X.env=(false,eval e X.env)::starEach es X.env) au0_._auto_1) (hpl:autoParam ((backTo pos (starEach es X.env)).any (·.1)=false) au0_._auto_1) :
    PE X (.Call (.Name x p) (e::es) [] pos) (tCall sp dvs E t):=by
  intro pins s σ H Q I h
  refine wpAny_Call_Name_kw (ld_glob I hg hm ?_ hdb)
  refine PySem.W.callWith_K (h₀:=X.base) I.ok.mod.kin hk (thn (ha pos pins s σ H _ I h) fun us s1 ⟨vs,H1,I1,r,q⟩=>⟨I1.kIn,?_⟩) he hpl
  exact run_fn F hr hb hd hx I1 r q
end

section
variable {X:Cx} {CX:CXT} {k:Nat} {f C:Addr} {fd:FuncData} {ps ks:List Str} {sp:Sp} {E:XK} {x m:Str} {p pos apos kpos:Pos} {e o:Expr} {es:List Expr} {kws:List Keyword} {te ta:TE} {t tk:TA} {nm:Option Str}
variable {g:List Value→List Value→List Value} {gV:List V→List V→List V}
end

structure FnScope (N P:List Str) (sc:Scope):Prop where
  kind:sc.kind=.function
  co:sc.isCoroutine=false
  gen:sc.isGenerator=false
  nd:N.Nodup
  pre:N.take P.length=P
  par:∀x∈P,sc.names.lookup x=some .local∨sc.names.lookup x=some .cell
  nofree:∀y∈sc.names,y.2≠.free

theorem bindL_out {kindOf:Str→Option NameKind} {x:Str}:∀{binds:List (Str×Value)} {m:Str→Option Value},(∀v,(x,v)∉binds)→bindL kindOf binds m x=m x
  | [],_,_=>rfl
  | (n,v)::r,m,h=>by
    unfold bindL
    rw [bindL_out fun w hw=>h w (List.mem_cons_of_mem _ hw)]
    split
    · have:x≠n:=by rintro rfl;exact h v List.mem_cons_self
      simp [this]
    · rfl
theorem bindC_out {kindOf:Str→Option NameKind} {x:Str}:∀{binds:List (Str×Value)} {m:Str→Option Value},(∀v,(x,v)∉binds)→bindC kindOf binds m x=m x
  | [],_,_=>rfl
  | (n,v)::r,m,h=>by
    unfold bindC
    rw [bindC_out fun w hw=>h w (List.mem_cons_of_mem _ hw)]
    split
    · rfl
    · have:x≠n:=by rintro rfl;exact h v List.mem_cons_self
      simp [this]
theorem bindL_get {kindOf:Str→Option NameKind} {x:Str} {v:Value}:∀{P:List Str} {vs:List Value} {i:Nat} {m:Str→Option Value},P.Nodup→P[i]?=some x→vs[i]?=some v→kindOf x=some .local →
    bindL kindOf (P.zip vs) m x=some v
  | [],_,_,_,_,h,_,_=>by simp at h
  | _::_,[],_,_,_,_,h,_=>by simp at h
  | p::P,w::vs,0,m,nd,h1,h2,hk=>by
    simp at h1 h2;subst h1;subst h2
    show bindL kindOf ((p,w)::P.zip vs) m p=_
    unfold bindL
    rw [bindL_out fun v hv=>(List.nodup_cons.mp nd).1 (List.of_mem_zip hv).1,if_pos hk]
    simp
  | p::P,w::vs,i+1,m,nd,h1,h2,hk=>by
    show bindL kindOf ((p,w)::P.zip vs) m x=_
    unfold bindL
    exact bindL_get (i:=i) (List.nodup_cons.mp nd).2 (by simpa using h1) (by simpa using h2) hk
theorem bindC_get {kindOf:Str→Option NameKind} {x:Str} {v:Value}:∀{P:List Str} {vs:List Value} {i:Nat} {m:Str→Option Value},P.Nodup→P[i]?=some x→vs[i]?=some v→kindOf x≠some .local →
    bindC kindOf (P.zip vs) m x=some v
  | [],_,_,_,_,h,_,_=>by simp at h
  | _::_,[],_,_,_,_,h,_=>by simp at h
  | p::P,w::vs,0,m,nd,h1,h2,hk=>by
    simp at h1 h2;subst h1;subst h2
    show bindC kindOf ((p,w)::P.zip vs) m p=_
    unfold bindC
    rw [bindC_out fun v hv=>(List.nodup_cons.mp nd).1 (List.of_mem_zip hv).1,if_neg hk]
    simp
  | p::P,w::vs,i+1,m,nd,h1,h2,hk=>by
    show bindC kindOf ((p,w)::P.zip vs) m x=_
    unfold bindC
    exact bindC_get (i:=i) (List.nodup_cons.mp nd).2 (by simpa using h1) (by simpa using h2) hk

noncomputable def start (N:List Str) (vs:List V):St:=vs.map some++List.replicate (N.length-vs.length) none

noncomputable def cxOf (CX:CXT) (P:Program) (w:World) (K:PySem.W.Frag) (mg:Str→Option Value) (base:Heap) (N:List Str) (qual:Str) (scope:Scope) (f:Addr) (cd:Value) (A:Around) (outer:List Env) (s:Shared) (H:Hp) (E:XK):Cx where
  prog:=P
  w:=w
  K:=K
  mg:=mg
  base:=base
  A:=A.deeper (envOfC qual scope s.heap.objs.size f cd)
  N:=N
  s₀:=s
  H₀:=H
  env:=envOfC qual scope s.heap.objs.size f cd
  outer:=outer
  stack:=envOfC qual scope s.heap.objs.size f cd::outer
  ex:=[]
  calm:=true
  fn:=fun _=>true
  pn:=[]
  xe:=fun e s'=>wpAny (model P w) (A.deeper (envOfC qual scope s.heap.objs.size f cd)) (leaving (envOfC qual scope s.heap.objs.size f cd) e) (fun _ s''=>CX outer H s E e s'') (fun e' s''=>CX outer H s E e' s'') s'

theorem cell_has {sc:Scope} {n:Nat} {x:Str} (h:sc.names.lookup x=some .cell):∃c,(cellsFrom n sc.names []).lookup x=some c:=by
  have q:=PySem.W.cellsFrom_some sc.names n [] (.inl h)
  exact Option.isSome_iff_exists.mp q

theorem inv_start {CX:CXT} {P:Program} {w:World} {K:PySem.W.Frag} {mg:Str→Option Value} {base:Heap} {N ps:List Str} {qual:Str} {scope:Scope} {f:Addr} {cd:Value} {A:Around} {outer:List Env} {s s1:Shared} {H:Hp} {E:XK} {us:List Value} {vs:List V}
    (S:FnScope N ps scope) (hd:A.handled=none) (e0:Env0 P w K mg base A outer s H) (hl:vs.length=ps.length) (r:Vals vs us)
    (x:InCallC s s.heap.objs.size (bindL (envOfC qual scope s.heap.objs.size f cd).kindOf (ps.zip us) fun _=>none) (cellsFrom (s.heap.objs.size+1) scope.names []) (bindC (envOfC qual scope s.heap.objs.size f cd).kindOf (ps.zip us) fun _=>none) s1) :
    Inv (cxOf CX P w K mg base N qual scope f cd A outer s H E) [] (start N vs) H s1:=by
  have hpl:ps.length≤N.length:=by have:=congrArg List.length S.pre;rw [List.length_take] at this;omega
  obtain ⟨h1,tk,rfl,hk⟩:=x.done
  have noA:∀b:Addr,b∉(cxOf CX P w K mg base N qual scope f cd A outer s H E).ex:=fun b z=>absurd (show b∈([]:List Addr) from z) (by simp)
  refine ⟨⟨e0.mod,S.kind,rfl,rfl,Nat.le_refl _,fun y z c h1 h2=>?_,fun y hy=>?_,fun y c _ h=>?_,fun _=>hd,Around.frames_deeper e0.frames,.inr ⟨rfl,rfl⟩,fun b z=>absurd z (noA b),e0.bs,e0.bsz,fun b _ _=>noA b,fun b z=>absurd z (noA b),e0.funs,e0.frf⟩,
    rfl,e0.bare,Un.kept hk,⟨_,x.toInCall.ns,fun i y v h1 h2 h3=>?_⟩,fun y c h=>⟨_,x.cell y c h⟩,e0.hok.fresh (Nat.le_refl _),fun y c h=>?_,fun p hp=>absurd (show p∈([]:List (Addr×Obj)) from hp) (by simp),e0.hok.kept hk,?_⟩
  · exact name_of_addr x.apart (PySem.mem_of_lookup h1) (PySem.mem_of_lookup h2)
  · have hy:scope.names.lookup y=some .cell∨scope.names.lookup y=some .free:=hy
    rcases hy with hy | hy
    · exact cell_has hy
    · exact absurd rfl (S.nofree _ (PySem.mem_of_lookup hy))
  · exact Nat.le_of_lt (x.above y c (PySem.mem_of_lookup h))
  · have hi:i<vs.length:=by
      unfold start at h2
      by_cases hi:i<vs.length
      · exact hi
      · rw [List.getElem?_append_right (by simpa using hi)] at h2
        rw [List.getElem?_replicate] at h2
        split at h2 <;> cases h2
    have ha:vs[i]?=some v:=by
      unfold start at h2
      rw [List.getElem?_append_left (by simpa using hi),List.getElem?_map] at h2
      cases e:vs[i]? with
      | none=>rw [e] at h2;cases h2
      | some a=>rw [e] at h2;cases h2;rfl
    obtain ⟨u,hu,rv⟩:=r.get ha
    have hp:ps[i]?=some y:=by
      rw [← S.pre,List.getElem?_take_of_lt (by omega)];exact h1
    have ndP:ps.Nodup:=by rw [← S.pre];exact S.nd.sublist (List.take_sublist _ _)
    refine ⟨u,rv,?_⟩
    rcases S.par y (List.mem_of_getElem? hp) with k | k
    · exact .inl ⟨k,bindL_get ndP hp hu k⟩
    · obtain ⟨c,e⟩:=cell_has (n:=s.heap.objs.size+1) k
      refine .inr ⟨.inl k,c,e,?_⟩
      have q:=x.cell y c e
      rw [bindC_get ndP hp hu (by show scope.names.lookup y≠_;rw [k];decide)] at q
      exact q
  · exact e0.hok.fresh (Nat.le_of_lt (x.above y c (PySem.mem_of_lookup h)))
  · unfold start
    show _=N.length
    rw [List.length_append,List.length_map,List.length_replicate]
    omega

theorem fn_of {CX:CXT} {P:Program} {w:World} {K:PySem.W.Frag} {mg:Str→Option Value} {base:Heap} {k:Nat} {f:Addr} {name qual:Str} {params:Arguments} {body:List Stmt} {scope:Scope} {dV kV doc pm cdv ct oc:Value} {an od:Option Addr}
    {osl:Array (Option Value)} {N ps:List Str} {sp:Sp} (lk:K.lookup f=some ⟨oc,od,.func (PySem.W.fnOf name qual params body scope dV kV doc pm an cdv ct),osl⟩) (hcd:PySem.W.codeIn K cdv qual=true) (S:FnScope N ps scope)
    (len:∀vs H Q E,sp vs H Q E→vs.length=ps.length)
    (hbody:∀(A:Around) (outer:List Env) (s:Shared) (H:Hp) (vs:List V) (Q:VK) (E:XK),Room k (A.deeper (envOfC qual scope s.heap.objs.size f cdv))→sp vs H Q E →
      ∃t,PSs (cxOf CX P w K mg base N qual scope f cdv A outer s H E) body t∧t { nx:=fun _ H'=>Q .non H',rt:=Q } (start N vs) H) :
    FnOk P w K mg base CX (k+1) f (PySem.W.fnOf name qual params body scope dV kV doc pm an cdv ct) ps sp:=by
  refine ⟨len,fun A outer s H args us vs Q E hr e0 hb r hsp=>?_⟩
  have hl:=len _ _ _ _ hsp
  have KX:K.In s.heap:=e0.mod.kin.keeps fun b o e=>(e0.bs b o e).1
  have lim:s.heap.NoLimit:=e0.mod.nolimit.keeps fun b o e=>(e0.bs b o e).1
  have hkind:∀y∈ps.zip us,scope.names.lookup y.1=some .local∨(scope.names.lookup y.1=some .cell∧((cellsFrom (s.heap.objs.size+1) scope.names []).lookup y.1).isSome=true):=fun ⟨n,v⟩ hy=>by
    rcases S.par n (List.of_mem_zip hy).1 with q | q
    · exact .inl q
    · exact .inr ⟨q,PySem.W.cellsFrom_some _ _ _ (.inl q)⟩
  refine codeAny_call_function hr.depth (KX _ _ lk) rfl S.co S.gen rfl (PySem.W.codeRec_of KX hcd) (hb _ _ _ _ ?_)
  refine wpAny_newFunctionEnv_cells S.kind hkind fun env he s1 x=>?_
  subst he
  refine ⟨lim.keeps x.toInCall.keep,codeAny_func ?_⟩
  obtain ⟨t,ht,hq⟩:=hbody A outer s H vs Q E (hr.deeper _) hsp
  have I:Inv (cxOf CX P w K mg base N qual scope f cdv A outer s H E) [] (start N vs) H s1:=inv_start S hr.hd e0 hl r x
  refine wpAny_mono (ht [] s1 (start N vs) H _ I hq) (fun fl s' hs=>?_) fun e s' hs=>hs
  have fin:∀{σ':St} {H':Hp} {v:V} {u:Value},Inv (cxOf CX P w K mg base N qual scope f cdv A outer s H E) [] σ' H' s'→RelV v u→Q v H'→CE outer P w H s Q u s':=
    fun {σ' H' v u} J rv q=>⟨v,H',J.os,J.bare,J.base,J.hok,rv,q⟩
  cases fl with
  | ret u=>
    obtain ⟨v,σ',H',J,rv,q⟩:=hs
    exact fin J rv q
  | next=>
    obtain ⟨σ',H',J,q⟩:=hs
    exact fin (v:=V.non) (u:=Value.none) J rfl q
  | brk=>
    obtain ⟨_,_,_,q⟩:=hs
    exact False.elim q
  | cont=>
    obtain ⟨_,_,_,q⟩:=hs
    exact False.elim q
end L2

namespace L2
open PySem PySem.Spec PyProof.Rows
section
variable {X:Cx} {x:Str} {p pos:Pos} {e:Expr} {es:List Expr} {t:TA} {id T:String} {r:List V→Hp→VK→Prop}

noncomputable def tCB (r:List V→Hp→VK→Prop) (t:TA):TE:=fun σ H Q=>t σ H fun vs H1=>r vs H1 Q
theorem pe_callB (hc:CallR X (.builtin id) r) (hg:Gl X x) (hm:X.mg x=none) (hv:bootBuiltins x=some (.builtin id)) (ha:PA X (e::es) t) (hn:autoParam (x ≠ "__name__") au1_._auto_1) (hdb:autoParam ((x==("__debug__":Str))=false) au1_._auto_1)
    (he:autoParam (starEach (e::es) X.env=(false,eval e X.env)::starEach es X.env) au0_._auto_1) (hpl:autoParam ((backTo pos (starEach es X.env)).any (·.1)=false) au0_._auto_1):PE X (.Call (.Name x p) (e::es) [] pos) (tCB r t):=by
  intro pins s σ H Q I h
  refine wpAny_Call_Name_kw (ld_blt I hg hm hv ?_ hn hdb)
  exact PyProof.Rows.callWith_builtin1 (thn (ha pos pins s σ H _ I h) fun us s1 ⟨vs,H1,I1,r1,q1⟩=>hc pins s1 σ H1 vs us Q I1 r1 q1) he hpl
theorem pe_callTy (hc:CallR X (.type T) r) (hg:Gl X x) (hm:X.mg x=none) (hv:bootBuiltins x=some (.type T)) (ha:PA X (e::es) t) (hn:autoParam (x ≠ "__name__") au1_._auto_1) (hdb:autoParam ((x==("__debug__":Str))=false) au1_._auto_1)
    (he:autoParam (starEach (e::es) X.env=(false,eval e X.env)::starEach es X.env) au0_._auto_1) (hpl:autoParam ((backTo pos (starEach es X.env)).any (·.1)=false) au0_._auto_1):PE X (.Call (.Name x p) (e::es) [] pos) (tCB r t):=by
  intro pins s σ H Q I h
  refine wpAny_Call_Name_kw (ld_blt I hg hm hv ?_ hn hdb)
  exact PyProof.Rows.callWith_type1 (thn (ha pos pins s σ H _ I h) fun us s1 ⟨vs,H1,I1,r1,q1⟩=>hc pins s1 σ H1 vs us Q I1 r1 q1) he hpl
end
end L2

namespace HT
open PySem PyProof.Rows

section
open PySem.SeqAt
open PySem.AutoSeq1 (wpAny_loadPart')
open PySem.MeetsSeq PySem.MeetsSeq2 PySem.MeetsSeq3

end

section
variable {prog:Program} {w:World} {A:Around} {E:Value→Shared→Prop} {s:Shared}

noncomputable def sIx (n d:Nat):Option Int→Nat
  | none=>d
  | some v=>if v<0 then (v+(n:Int)).toNat else min v.toNat n
theorem sIx_nat (n d k:Nat):sIx n d (some (k:Int))=min k n:=by
  show (if (k:Int)<0 then ((k:Int)+(n:Int)).toNat else min (k:Int).toNat n)=min k n
  rw [if_neg (by omega),Int.toNat_natCast]
end
end HT

namespace L2
open PySem PySem.Spec PyProof.Rows

noncomputable abbrev TO:=St→Hp→(Option Int→Hp→Prop)→Prop
noncomputable def PO (X:Cx) (e:Option Expr) (t:TO):Prop:=
  ∀(pins:List (Addr×Obj)) (s:Shared) (σ:St) (H:Hp) (Q:Option Int→Hp→Prop),Inv X pins σ H s→t σ H Q →
    wpAny (model X.prog X.w) X.A (evalPart e X.env) (fun u s'=>∃o H',Inv X pins σ H' s'∧IsPart u o∧Q o H') X.xe s
noncomputable def tNoPart:TO:=fun _ H Q=>Q none H
noncomputable def tPart (t:TE):TO:=fun σ H Q=>t σ H fun x H1=>∃i,x=.int i∧Q (some i) H1

section
variable {X:Cx} {e:Expr} {te:TE} {lo hi:Option Expr} {tl th:TO} {pos p2:Pos}

theorem po_none:PO X none tNoPart:=by
  intro pins s σ H Q I h
  rw [evalPart_none]
  exact wpAny_pure ⟨none,H,I,.none,h⟩
theorem po_some (h:PE X e te):PO X (some e) (tPart te):=by
  intro pins s σ H Q I hw
  rw [evalPart_some]
  refine thn (h pins s σ H _ I hw) fun u s1 ⟨x,H1,I1,r1,q1⟩=>?_
  obtain ⟨i,rfl,q⟩:=q1
  obtain ⟨t,rfl⟩:=r1
  exact ⟨some i,H1,I1,.int i t,q⟩

noncomputable def SlR (X:Cx) (r:V→Option Int→Option Int→Hp→VK→Prop):Prop:=
  ∀(pins:List (Addr×Obj)) (s:Shared) (σ:St) (H:Hp) (x:V) (v vl vu:Value) (lo hi:Option Int) (sl:Addr) (Q:VK),Inv X pins σ H s→RelV x v→s.heap.IsSliceOf sl vl vu .none→IsPart vl lo→IsPart vu hi→r x lo hi H Q →
    ∃T id,typeLookup (.type T) "__getitem__"=pure (some (.builtin id))∧s.TypeIs v T∧wpAny (model X.prog X.w) X.A (getItem v (.ref sl)) (EP X pins σ Q) X.xe s
noncomputable def tSl (r:V→Option Int→Option Int→Hp→VK→Prop) (te:TE) (tl th:TO):TE:=fun σ H Q=>te σ H fun x H1=>tl σ H1 fun l H2=>th σ H2 fun u H3=>r x l u H3 Q
theorem pe_slice {r:V→Option Int→Option Int→Hp→VK→Prop} (hr:SlR X r) (he:PE X e te) (hl:PO X lo tl) (hu:PO X hi th):PE X (.Subscript e (.Slice lo hi none p2) pos) (tSl r te tl th):=by
  intro pins s σ H Q I h
  refine Subscript_ (thn (he pins s σ H _ I h) fun v s1 ⟨x,H1,I1,r1,q1⟩=>?_)
  refine wpAny_Slice (thn (hl pins s1 σ H1 _ I1 q1) fun vl s2 ⟨l,H2,I2,pl,q2⟩=>thn (hu pins s2 σ H2 _ I2 q2) fun vu s3 ⟨u,H3,I3,pu,q3⟩=>?_)
  rw [evalPart_none]
  refine wpAny_pure ?_
  have I4:Inv X pins σ H3 { s3 with heap:=s3.heap.push { cls:=.type "slice",data:=.fields #[vl,vu,.none] } }:=I3.kept (t':=s3.toks) fun b ob q=>Heap.get?_push_of_some _ q
  obtain ⟨T,id,hT,ht,hg⟩:=hr pins { s3 with heap:=s3.heap.push { cls:=.type "slice",data:=.fields #[vl,vu,.none] } } σ H3 x v vl vu l u s3.heap.objs.size Q I4 r1 (Heap.IsSliceOf.new ..) pl pu q3
  show wpAny (model X.prog X.w) X.A (subscriptTail e (.Slice lo hi none p2) v (.ref s3.heap.objs.size)) (EP X pins σ Q) X.xe { s3 with heap:=s3.heap.push { cls:=.type "slice",data:=.fields #[vl,vu,.none] } }
  exact tail_any (ops:=[.ref s3.heap.objs.size,v]) ht hT hg (by with_unfolding_all rfl)

noncomputable def cutV (xs:List V) (lo hi:Option Int):List V:=(xs.drop (HT.sIx xs.length 0 lo)).take (HT.sIx xs.length xs.length hi-HT.sIx xs.length 0 lo)
theorem cutV_length (xs:List V) (lo hi:Option Int):(cutV xs lo hi).length≤xs.length:=by
  unfold cutV
  rw [List.length_take,List.length_drop]
  omega
end
end L2

namespace L2
open PySem PySem.Spec PyProof.Rows

noncomputable def ixN (n:Nat) (i:Int):Option Nat:=if 0≤i then (if i<n then some i.toNat else none) else if -(n:Int)≤i then some (i+n).toNat else none
noncomputable def atI {α:Type} (xs:List α) (i:Int):Option α:=(ixN xs.length i).bind fun j=>xs[j]?
theorem ixN_seq {n:Nat} {i:Int} {j:Nat} (h:ixN n i=some j):seqIndex? i n=some j∧j<n∧-(n:Int)≤i∧i<n:=by
  unfold ixN at h
  by_cases h0:0≤i
  · rw [if_pos h0] at h
    by_cases h1:i<n
    · rw [if_pos h1] at h
      have e:i.toNat=j:=Option.some.inj h
      exact ⟨by rw [seqIndex_of h0 h1,e],by omega,by omega,h1⟩
    · rw [if_neg h1] at h;cases h
  · rw [if_neg h0] at h
    by_cases h1:-(n:Int)≤i
    · rw [if_pos h1] at h
      have e:(i+n).toNat=j:=Option.some.inj h
      exact ⟨by rw [seqIndex_neg (by omega) h1,e],by omega,h1,by omega⟩
    · rw [if_neg h1] at h;cases h
theorem atI_get {α:Type} {xs:List α} {i:Int} {v:α} (h:atI xs i=some v):∃j,seqIndex? i xs.length=some j∧xs[j]?=some v∧j<xs.length∧-(xs.length:Int)≤i∧i<xs.length:=by
  unfold atI at h
  cases e:ixN xs.length i with
  | none=>rw [e] at h;cases h
  | some j=>
    rw [e] at h
    obtain ⟨h1,h2,h3,h4⟩:=ixN_seq e
    exact ⟨j,h1,h,h2,h3,h4⟩
theorem atI_nat {α:Type} {xs:List α} {j:Nat} {v:α} (h:xs[j]?=some v):atI xs (j:Int)=some v:=by
  have hj:j<xs.length:=(List.getElem?_eq_some_iff.mp h).1
  have e:ixN xs.length (j:Int)=some j:=by
    unfold ixN
    rw [if_pos (by omega),if_pos (by omega)];simp
  unfold atI;rw [e];exact h
noncomputable def PlainIx (b:Expr):Prop:=∀o i,subscripted b false o i=operate [o,i] (getItem o i)
noncomputable def IxR (X:Cx) (r:R2):Prop:=
  ∀(value slice:Expr) (pins:List (Addr×Obj)) (s:Shared) (σ:St) (H:Hp) (x y:V) (v u:Value) (Q:VK),Inv X pins σ H s→RelV x v→RelV y u→r x y H Q →
    subscripted slice false v u=operate [v,u] (getItem v u)→wpAny (model X.prog X.w) X.A (subscriptTail value slice v u) (EP X pins σ Q) X.xe s
noncomputable def MtR (X:Cx) (id:String) (r:V→List V→Hp→VK→Prop):Prop:=
  ∀(pins:List (Addr×Obj)) (s:Shared) (σ:St) (H:Hp) (x:V) (xs:List V) (v:Value) (us:List Value) (Q:VK),Inv X pins σ H s→RelV x v→Vals xs us→r x xs H Q →
    wpAny (model X.prog X.w) X.A (call (.builtin id) (v::us)) (EP X pins σ Q) X.xe s
section
variable {X:Cx} {a b:Expr} {ta tb:TE} {pos:Pos}
theorem pe_ix {r:R2} (hr:IxR X r) (ha:PE X a ta) (hb:PE X b tb) (hs:PlainIx b):PE X (.Subscript a b pos) (tOp r ta tb):=by
  intro pins s σ H Q I h
  exact Subscript_ (binT ha hb I h fun v u s2 x y H2 I2 rx ry q=>hr a b pins s2 σ H2 x y v u Q I2 rx ry q (hs _ _))

noncomputable def rIxL (K:PySem.W.Frag):R2:=fun x y H Q=>∃p xs i v,x=.ref p∧y=.int i∧SqL K H p xs∧atI xs i=some v∧Q v H
noncomputable def rIxT (K:PySem.W.Frag):R2:=fun x y H Q=>∃p xs i v,x=.ref p∧y=.int i∧SqT K H p xs∧atI xs i=some v∧Q v H
noncomputable def rIxS:R2:=fun x y H Q=>∃z i c,x=.str z∧y=.int i∧z.length≤sizeLine∧atI z.cps.toList i=some c∧Q (.str ⟨#[c]⟩) H
theorem ix_list:IxR X (rIxL X.K):=by
  intro value slice pins s σ H x y v u Q I rx ry h hs
  obtain ⟨p,xs,i,z,rfl,rfl,hq,he,q⟩:=h
  cases rx
  obtain ⟨t,rfl⟩:=ry
  obtain ⟨its,r,pl,hz⟩:=I.list hq
  obtain ⟨j,h1,h2,h3,h4,h5⟩:=atI_get he
  obtain ⟨w,ew,rw'⟩:=r.get h2
  have hl:=r.length
  have hn:=line63
  have fin:EP X pins σ Q w s:=⟨z,H,I,rw',q⟩
  by_cases h0:0≤i
  · have hj:i.toNat=j:=by
      rw [seqIndex_of h0 h5] at h1
      exact Option.some.inj h1
    exact item_listR pl.isList h0 (by omega) (by rw [hj];simpa using ew) fin hs
  · have hj:(i+(its.toArray.size:Int)).toNat=j:=by
      rw [seqIndex_neg (by omega) h4] at h1
      rw [List.size_toArray,← hl]
      exact Option.some.inj h1
    exact subscriptTail_builtinR (x:=w) pl.isList.typeIs slot_list_getitem.lookup
      (wpAny_getItem_list_neg (Q:=fun r s'=>r=w∧EP X pins σ Q r s') pl.isList (by omega) (by rw [List.size_toArray] <;> omega) (by omega) (by rw [hj];simpa using ew) ⟨rfl,fin⟩) hs
theorem ix_tup:IxR X (rIxT X.K):=by
  intro value slice pins s σ H x y v u Q I rx ry h hs
  obtain ⟨p,xs,i,z,rfl,rfl,hq,he,q⟩:=h
  cases rx
  obtain ⟨t,rfl⟩:=ry
  obtain ⟨its,r,pl,hz⟩:=I.tuple hq
  obtain ⟨j,h1,h2,h3,h4,h5⟩:=atI_get he
  obtain ⟨w,ew,rw'⟩:=r.get h2
  have hl:=r.length
  have hn:=line63
  have fin:EP X pins σ Q w s:=⟨z,H,I,rw',q⟩
  exact subscriptTail_builtinR (x:=w) pl.typeIs slot_tuple_getitem.lookup
    (getItem_tuple (j:=j) (Q:=fun r s'=>r=w∧EP X pins σ Q r s') pl (by omega) (by omega) (by rw [List.size_toArray,← hl];exact h1) (by simpa using ew) ⟨rfl,fin⟩) hs
theorem ix_str:IxR X rIxS:=by
  intro value slice pins s σ H x y v u Q I rx ry h hs
  obtain ⟨z,i,c,rfl,rfl,hz,he,q⟩:=h
  obtain ⟨t,rfl⟩:=rx
  obtain ⟨t',rfl⟩:=ry
  obtain ⟨j,h1,h2,h3,h4,h5⟩:=atI_get he
  have hl:z.cps.toList.length=z.length:=by simp [Str.length]
  rw [hl] at h1 h4 h5
  have hn:=line63
  exact tail_any (typeIs_str s z t) slot_str_getitem.lookup (getItem_str (c:=c) (by
    have e1:decide (i < -(2 ^ 63:Int))=false:=decide_eq_false (by omega)
    have e2:decide (i≥2 ^ 63)=false:=decide_eq_false (by omega)
    rw [e1,e2,Bool.or_false]) (by rw [h1];simpa using h2) ⟨.str ⟨#[c]⟩,H,I.tok _,⟨_,rfl⟩,q⟩) hs
theorem mapSeq_set (its:List Value) (n j:Nat) (u:Value):Obj.mapSeq (·.setIfInBounds j u) { cls:=.type "list",data:=.seq its.toArray n }={ cls:=.type "list",data:=.seq (its.set j u).toArray n }:=by
  simp [Obj.mapSeq]
theorem Inv.lst {pins:List (Addr×Obj)} {σ:St} {H:Hp} {s:Shared} {p:Addr} {xs:List V} (I:Inv X pins σ H s) (h:H p=some (.lst xs)) :
    ∃(its:List Value) (n:Nat),Vals xs its∧s.heap.get? p=some { cls:=.type "list",data:=.seq its.toArray n }∧xs.length≤sizeLine:=by
  obtain ⟨z,its,n,r,e⟩:=I.hok p _ h
  exact ⟨its,n,r,e,z⟩
theorem Inv.lstUpd {pins:List (Addr×Obj)} {σ:St} {H:Hp} {s:Shared} {p:Addr} {xs ys:List V} {its its':List Value} {n n':Nat} {f:Obj→Obj} (I:Inv X pins σ H s) (h:H p=some (.lst xs))
    (ho:s.heap.get? p=some { cls:=.type "list",data:=.seq its.toArray n }) (hf:f { cls:=.type "list",data:=.seq its.toArray n }={ cls:=.type "list",data:=.seq its'.toArray n' }) (r:Vals ys its') (hz:ys.length≤sizeLine) (t:Nat) :
    Inv X pins σ (upd H p (.lst ys)) { s with heap:=s.heap.update p f,toks:=t }:=by
  have e:(s.heap.update p f).get? p=some { cls:=.type "list",data:=.seq its'.toArray n' }:=by
    rw [Heap.get?_update_self f ho (by rw [hf] <;> rfl),hf]
  refine I.write (x:=p) (e:=p) (by rw [h];trivial) (.inl rfl) (fun b u hb q=>(Heap.get?_update_other _ _ (Ne.symm hb)).trans q) ⟨_,e⟩ ?_
  exact ⟨hz,its',n',r,e⟩
noncomputable def rSetL:V→V→V→Hp→(Hp→Prop)→Prop:=fun o i v H Q=>∃p xs k j,o=.ref p∧i=.int k∧H p=some (.lst xs)∧ixN xs.length k=some j∧Q (upd H p (.lst (xs.set j v)))
theorem set_list:PSet X rSetL:=by
  intro pins s σ H o i v ov iv u Q I ro ri rv h
  obtain ⟨p,xs,k,j,rfl,rfl,hp,hj,q⟩:=h
  cases ro
  obtain ⟨t,rfl⟩:=ri
  obtain ⟨its,n,r,ho,hz⟩:=I.lst hp
  obtain ⟨h1,h2,h3,h4⟩:=ixN_seq hj
  have hl:=r.length
  have hn:=line63
  have I':Inv X pins σ (upd H p (.lst (xs.set j v))) { s with heap:=s.heap.update p (Obj.mapSeq (·.setIfInBounds j u)) }:=
    I.lstUpd hp ho (mapSeq_set its n j u) (r.set rv j) (by rw [List.length_set];exact hz) s.toks
  by_cases h0:0≤k
  · have hk:k.toNat=j:=by
      rw [seqIndex_of h0 h4] at h1
      exact Option.some.inj h1
    exact PySem.W.ki_setAt ho h0 (by omega) (by rw [List.size_toArray,← hl];exact h4) (by rw [hk];exact ⟨_,I',q⟩)
  · have hk:(k+(its.toArray.size:Int)).toNat=j:=by
      rw [seqIndex_neg (by omega) h3] at h1
      rw [List.size_toArray,← hl]
      exact Option.some.inj h1
    exact PySem.W.ki_setBack ho (by omega) (by rw [List.size_toArray,← hl];exact h3) (by omega) (by rw [hk];exact ⟨_,I',q⟩)

theorem slice_bounds (lo hi:Option Int) (n:Nat):(sliceBounds lo hi none n).1=((HT.sIx n 0 lo:Nat):Int)∧(sliceBounds lo hi none n).2.1=((HT.sIx n n hi:Nat):Int)∧(sliceBounds lo hi none n).2.2=1:=by
  refine ⟨?_,?_,rfl⟩
  · cases lo with
    | none=>simp [sliceBounds,HT.sIx]
    | some i=>
      simp only [sliceBounds,HT.sIx,Option.getD_none,show (1:Int)>0 by decide,if_true]
      by_cases h:i<0
      · simp only [h,if_true] <;> omega
      · simp only [h,if_false] <;> omega
  · cases hi with
    | none=>simp [sliceBounds,HT.sIx]
    | some i=>
      simp only [sliceBounds,HT.sIx,Option.getD_none,show (1:Int)>0 by decide,if_true]
      by_cases h:i<0
      · simp only [h,if_true] <;> omega
      · simp only [h,if_false] <;> omega
theorem slicePick_cut (its:List Value) (lo hi:Option Int):slicePick its.toArray lo hi none=((its.drop (HT.sIx its.length 0 lo)).take (HT.sIx its.length its.length hi-HT.sIx its.length 0 lo)).toArray:=by
  obtain ⟨h1,h2,h3⟩:=slice_bounds lo hi its.toArray.size
  unfold slicePick
  rw [h1,h2,h3]
  simp only [sliceRange_one,pick_run,List.size_toArray] <;> rfl
noncomputable def rSlL (K:PySem.W.Frag):V→Option Int→Option Int→Hp→VK→Prop:=fun x lo hi H Q=>∃a xs,x=.ref a∧SqL K H a xs∧∀p,H p=none→Q (.ref p) (upd H p (.lst (cutV xs lo hi)))
theorem sl_list:SlR X (rSlL X.K):=by
  intro pins s σ H x v vl vu lo hi sl Q I rx hs pl pu h
  obtain ⟨a,xs,rfl,hx,q⟩:=h
  cases rx
  obtain ⟨its,r,ht,hz⟩:=I.list hx
  have hlen:=r.length
  refine ⟨"list",_,slot_list_getitem.lookup,ht.isList.typeIs,?_⟩
  refine wpAny_getItem_list_slice ht.isList hs pl pu .none (by simp) ?_ (by rw [List.size_toArray] <;> omega)
  rw [slicePick_cut,← hlen]
  refine ⟨.ref s.heap.objs.size,_,I.laid (t':=s.toks) (o:=.lst (cutV xs lo hi)) (fun b ob q=>Heap.get?_push_of_some _ q) (Nat.le_refl _) ?_,rfl,q _ (I.hok.fresh (Nat.le_refl _))⟩
  exact ⟨Nat.le_trans (cutV_length xs lo hi) hz,_,0,(r.drop (HT.sIx xs.length 0 lo)).take (HT.sIx xs.length xs.length hi-HT.sIx xs.length 0 lo),Heap.get?_push_size _ rfl⟩

noncomputable def flatV:V→Bool
  | .non=>true
  | .bl _=>true
  | .int _=>true
  | .str _=>true
  | _=>false
noncomputable def eqV:V→V→Bool
  | .non,.non=>true
  | .bl a,.bl b=>a==b
  | .bl a,.int b=>(if a then 1 else 0)==b
  | .int a,.bl b=>a==(if b then 1 else 0)
  | .int a,.int b=>a==b
  | .str a,.str b=>a==b
  | _,_=>false
theorem eqAt_V {A:Around} {s:Shared} {y x:V} {u v:Value} (ry:RelV y u) (rx:RelV x v) (fy:flatV y=true) (fx:flatV x=true):SeqAt.EqAt A s u v (eqV y x):=by
  cases y with
  | non=>
    cases ry
    cases x with
    | non=>cases rx;exact SeqAt.EqAt.same _
    | bl b=>cases rx;exact SeqAt.EqAt.none_bool b
    | int b=>obtain ⟨t,rfl⟩:=rx;exact SeqAt.EqAt.none_int b t
    | str b=>obtain ⟨t,rfl⟩:=rx;exact SeqAt.EqAt.none_str b t
    | _=>exact absurd (show false=true from fx) Bool.false_ne_true
  | bl a=>
    cases ry
    cases x with
    | non=>cases rx;exact SeqAt.EqAt.bool_none a
    | bl b=>cases rx;exact SeqAt.EqAt.bool_bool a b
    | int b=>obtain ⟨t,rfl⟩:=rx;exact SeqAt.EqAt.bool_int a b t
    | str b=>obtain ⟨t,rfl⟩:=rx;exact SeqAt.EqAt.bool_str a b t
    | _=>exact absurd (show false=true from fx) Bool.false_ne_true
  | int a=>
    obtain ⟨t',rfl⟩:=ry
    cases x with
    | non=>cases rx;exact SeqAt.EqAt.int_none a t'
    | bl b=>cases rx;exact SeqAt.EqAt.int_bool a t' b
    | int b=>obtain ⟨t,rfl⟩:=rx;exact SeqAt.EqAt.int_int a t' b t
    | str b=>obtain ⟨t,rfl⟩:=rx;exact SeqAt.EqAt.int_str a t' b t
    | _=>exact absurd (show false=true from fx) Bool.false_ne_true
  | str a=>
    obtain ⟨t',rfl⟩:=ry
    cases x with
    | non=>cases rx;exact SeqAt.EqAt.str_none a t'
    | bl b=>cases rx;exact SeqAt.EqAt.str_bool a t' b
    | int b=>obtain ⟨t,rfl⟩:=rx;exact SeqAt.EqAt.str_int a t' b t
    | str b=>obtain ⟨t,rfl⟩:=rx;exact SeqAt.EqAt.str_str a t' b t
    | _=>exact absurd (show false=true from fx) Bool.false_ne_true
  | _=>exact absurd (show false=true from fy) Bool.false_ne_true
noncomputable def eqU (x:V) (u:Value):Bool:=match u with
  | .none=>eqV .non x
  | .bool b=>eqV (.bl b) x
  | .int i _=>eqV (.int i) x
  | .str z _=>eqV (.str z) x
  | _=>false
theorem eqU_of {x y:V} {u:Value} (r:RelV y u) (f:flatV y=true):eqU x u=eqV y x:=by
  cases y with
  | non=>cases r;rfl
  | bl b=>cases r;rfl
  | int i=>obtain ⟨t,rfl⟩:=r;rfl
  | str z=>obtain ⟨t,rfl⟩:=r;rfl
  | _=>exact absurd (show false=true from f) Bool.false_ne_true
theorem any_eqU {x:V}:∀{xs:List V} {us:List Value},Vals xs us→xs.all flatV=true→us.any (eqU x)=xs.any fun y=>eqV y x
  | _,_,.nil,_=>rfl
  | y::xs,u::us,.cons r t,f=>by
    rw [List.all_cons,Bool.and_eq_true] at f
    rw [List.any_cons,List.any_cons,eqU_of r f.1,any_eqU t f.2]
theorem mem_eqAt {A:Around} {s:Shared} {x:V} {v:Value} (rx:RelV x v) (fx:flatV x=true):∀{xs:List V} {us:List Value},Vals xs us→xs.all flatV=true→∀u∈us,SeqAt.EqAt A s u v (eqU x u)
  | _,_,.nil,_=>fun u hu=>by cases hu
  | y::xs,u::us,.cons r t,f=>fun u' hu=>by
    rw [List.all_cons,Bool.and_eq_true] at f
    rcases List.mem_cons.mp hu with rfl | hu
    · rw [eqU_of r f.1];exact eqAt_V r rx f.1 fx
    · exact mem_eqAt rx fx t f.2 u' hu
noncomputable def inV (x:V) (xs:List V):Bool:=xs.any fun y=>eqV y x
noncomputable def rIn (K:PySem.W.Frag) (neg:Bool):R2:=fun x y H Q=>∃p xs,y=.ref p∧(SqL K H p xs∨SqT K H p xs)∧flatV x=true∧xs.all flatV=true∧Q (.bl (if neg then !inV x xs else inV x xs)) H
theorem op_in_seq:OpR X (compareOp .In) (rIn X.K false):=by
  intro pins s σ H x y v u Q I rx ry h
  obtain ⟨p,xs,rfl,hq,fx,fs,q⟩:=h
  cases ry
  rcases hq with hq | hq
  · obtain ⟨its,r,pl,hz⟩:=I.list hq
    refine SeqAt.in_listAt (eqU x) pl.isList (fun w hw=>mem_eqAt rx fx r fs w (by simpa using hw)) ⟨.bl _,H,I,rfl,?_⟩
    rw [show its.toArray.any (eqU x)=its.any (eqU x) by simp,any_eqU r fs]
    exact q
  · obtain ⟨its,r,pl,hz⟩:=I.tuple hq
    refine SeqAt.in_tupleAt (eqU x) pl (fun w hw=>mem_eqAt rx fx r fs w (by simpa using hw)) ⟨.bl _,H,I,rfl,?_⟩
    rw [show its.toArray.any (eqU x)=its.any (eqU x) by simp,any_eqU r fs]
    exact q
theorem call_len_seq:CallR X (.builtin "len") (fun xs H Q=>∃p ys,xs=[.ref p]∧(SqL X.K H p ys∨SqT X.K H p ys)∧Q (.int ys.length) H):=by
  intro pins s σ H xs us Q I r h
  obtain ⟨p,ys,rfl,hq,q⟩:=h
  obtain ⟨u,rfl,rx⟩:=vals1 r
  cases rx
  have hn:=line63
  rcases hq with hq | hq
  · obtain ⟨its,r',pl,hz⟩:=I.list hq
    have hlen:=r'.length
    exact Calls.call_len_list pl.isList (by simp only [List.size_toArray] <;> omega) ⟨.int ys.length,H,I.tok _,⟨s.toks+1,by rw [List.size_toArray,hlen]⟩,q⟩
  · obtain ⟨its,r',pl,hz⟩:=I.tuple hq
    have hlen:=r'.length
    exact len_tuple pl (by simp only [List.size_toArray] <;> omega) ⟨.int ys.length,H,I.tok _,⟨s.toks+1,by rw [List.size_toArray,hlen]⟩,q⟩
theorem call_len_str:CallR X (.builtin "len") (fun xs H Q=>∃z,xs=[.str z]∧z.length≤sizeLine∧Q (.int z.length) H):=by
  intro pins s σ H xs us Q I r h
  obtain ⟨z,rfl,hz,q⟩:=h
  obtain ⟨u,rfl,t,rfl⟩:=vals1 r
  have hn:=line63
  exact len_str (by omega) ⟨.int z.length,H,I.tok _,⟨_,rfl⟩,q⟩
theorem call_list_of:CallR X (.type "list") (fun xs H Q=>∃p ys,xs=[.ref p]∧(SqL X.K H p ys∨SqT X.K H p ys)∧∀l,H l=none→Q (.ref l) (upd H l (.lst ys))):=by
  intro pins s σ H xs us Q I r h
  obtain ⟨p,ys,rfl,hq,q⟩:=h
  obtain ⟨u,rfl,rx⟩:=vals1 r
  cases rx
  have fin:∀(its:List Value),Vals ys its→ys.length≤sizeLine→∀(h':Heap) (c':Nat),(∀b o',s.heap.get? b=some o'→h'.get? b=some o') →
      h'.get? s.heap.objs.size=some { cls:=.type "list",dict:=none,data:=.seq its.toArray c',slots:=#[] }→EP X pins σ Q (.ref s.heap.objs.size) { s with heap:=h' }:=fun its r' hz h' c' kp e=>
    ⟨.ref s.heap.objs.size,_,I.laid (t':=s.toks) kp (Nat.le_refl _) (show ObjOk X.prog X.w _ h' _ (.lst ys) from ⟨hz,its,c',r',e⟩),rfl,q _ (I.hok.fresh (Nat.le_refl _))⟩
  rcases hq with hq | hq
  · obtain ⟨its,r',pl,hz⟩:=I.list hq
    have hlen:=r'.length
    obtain ⟨o,ho,hc,n,hd⟩:=pl.isList
    exact call_list_seq p (.inl rfl) ho hc hd (fun h' c' kp e=>fin its r' hz h' c' kp e) (by simp only [List.size_toArray] <;> omega)
  · obtain ⟨its,r',pl,hz⟩:=I.tuple hq
    have hlen:=r'.length
    obtain ⟨o,ho,hc,n,hd⟩:=pl
    exact call_list_seq p (.inr rfl) ho hc hd (fun h' c' kp e=>fin its r' hz h' c' kp e) (by simp only [List.size_toArray] <;> omega)
theorem call_tuple_of:CallR X (.type "tuple") (fun xs H Q=>∃p ys,xs=[.ref p]∧((SqL X.K H p ys∧∀l,H l=none→Q (.ref l) (upd H l (.tup ys)))∨(SqT X.K H p ys∧Q (.ref p) H))):=by
  intro pins s σ H xs us Q I r h
  obtain ⟨p,ys,rfl,h⟩:=h
  obtain ⟨u,rfl,rx⟩:=vals1 r
  cases rx
  rcases h with ⟨hq,q⟩ | ⟨hq,q⟩
  · obtain ⟨its,r',pl,hz⟩:=I.list hq
    have hlen:=r'.length
    refine call_tuple_list pl.isList (fun h' kp=>?_) (by simp only [List.size_toArray] <;> omega)
    have I1:Inv X pins σ H { s with heap:=h' }:=I.kept (t':=s.toks) kp
    have I2:Inv X pins σ (upd H h'.objs.size (.tup ys)) { s with heap:=h'.push { cls:=.type "tuple",data:=.seq its.toArray } }:=
      I1.laid (t':=s.toks) (fun b o e=>Heap.get?_push_of_some _ e) (Nat.le_refl _) (show ObjOk X.prog X.w _ _ _ (.tup ys) from ⟨hz,its,r',IsTup.new _ _⟩)
    exact ⟨.ref h'.objs.size,_,I2,rfl,q _ (I1.hok.fresh (Nat.le_refl _))⟩
  · obtain ⟨its,r',pl,hz⟩:=I.tuple hq
    exact call_tuple_same pl ⟨.ref p,H,I,rfl,q⟩

noncomputable def tyV (K:PySem.W.Frag) (T:String) (x:V) (H:Hp):Prop:=match x with
  | .str _=>T = "str"
  | .int _=>T = "int"
  | .ref p=>(T = "list"∧∃xs,SqL K H p xs)∨(T = "tuple"∧∃o,K.lookup p=some o∧o.cls=.type "tuple"∧o.dict=none) ∨
      (T = "dict"∧((∃kvs,H p=some (.dK kvs))∨∃kvs,H p=some (.dT kvs)))∨(T = "set"∧∃S n,H p=some (.set S n))
  | _=>False
theorem tyV_is {pins:List (Addr×Obj)} {σ:St} {H:Hp} {s:Shared} {T:String} {x:V} {v:Value} (I:Inv X pins σ H s) (r:RelV x v) (ty:tyV X.K T x H) :
    s.TypeIs v T∧∀a,v=.ref a→∃ob,s.heap.get? a=some ob∧ob.dict=none:=by
  cases x with
  | str z=>
    obtain ⟨t,rfl⟩:=r
    cases (show T = "str" from ty)
    exact ⟨typeIs_str s z t,fun _ e=>nomatch e⟩
  | int i=>
    obtain ⟨t,rfl⟩:=r
    cases (show T = "int" from ty)
    exact ⟨typeIs_int s i t,fun _ e=>nomatch e⟩
  | ref p=>
    cases r
    rcases ty with ⟨rfl,xs,hq⟩ | ⟨rfl,o,hk,hc,hd⟩ | ⟨rfl,hk⟩ | ⟨rfl,S,n,hk⟩
    · obtain ⟨its,_,pl,_⟩:=I.list hq
      refine ⟨pl.isList.typeIs,fun a e=>?_⟩
      cases e
      obtain ⟨o,n,e,c,hd,_⟩:=pl
      exact ⟨o,e,hd⟩
    · refine ⟨⟨o,I.kIn p o hk,hc⟩,fun a e=>?_⟩
      cases e
      exact ⟨o,I.kIn _ o hk,hd⟩
    · have z:∃o,s.heap.get? p=some o∧o.ExactDict:=by
        rcases hk with ⟨kvs,hk⟩ | ⟨kvs,hk⟩
        · obtain ⟨_,_,_,_,o,_,_,e,ex,_⟩:=I.hok p _ hk
          exact ⟨o,e,ex⟩
        · obtain ⟨_,_,_,_,o,_,_,e,ex,_⟩:=I.hok p _ hk
          exact ⟨o,e,ex⟩
      obtain ⟨o,e,ex⟩:=z
      refine ⟨⟨o,e,ex.1⟩,fun a e2=>?_⟩
      cases e2
      exact ⟨o,e,ex.2.1⟩
    · obtain ⟨o,_,_,_,e,ex,_⟩:=I.hok p _ hk
      refine ⟨⟨o,e,ex.1⟩,fun a e2=>?_⟩
      cases e2
      exact ⟨o,e,ex.2.1⟩
  | _=>exact False.elim ty
noncomputable def tBM0 (K:PySem.W.Frag) (T:String) (r:V→List V→Hp→VK→Prop) (to:TE):TE:=fun σ H Q=>to σ H fun x H1=>tyV K T x H1∧r x [] H1 Q
noncomputable def tBM (K:PySem.W.Frag) (T:String) (r:V→List V→Hp→VK→Prop) (to:TE) (t:TA):TE:=fun σ H Q=>to σ H fun x H1=>tyV K T x H1∧t σ H1 fun xs H2=>r x xs H2 Q
variable {o e:Expr} {es:List Expr} {to:TE} {t:TA} {name:Str} {apos cpos:Pos} {T id:String} {r:V→List V→Hp→VK→Prop}
theorem pe_bm0 (pa:PlainAttrs T) (slot:Slot T name id) (hty:typeOf (.builtin id)=pure (.type "method_descriptor")) (hm:MtR X id r) (ho:PE X o to)
    (hbase:autoParam (attributeBase o name X.env (eval o X.env)=eval o X.env) au0_._auto_1) (hline:autoParam ((apos.endLine==cpos.line)=true) au0_._auto_1):PE X (.Call (.Attribute o name apos) [] [] cpos) (tBM0 X.K T r to):=by
  intro pins s σ H Q I h
  refine wpAny_Call_method0_late hbase hline (thn (ho pins s σ H _ I h) fun v s1 ⟨x,H1,I1,r1,ty,q1⟩=>?_)
  obtain ⟨h1,h2⟩:=tyV_is I1 r1 ty
  exact ⟨T,id,pa,slot,hty,h1,h2,Calls.callWith_builtin rfl (PySem.evalArgs_none (hm pins s1 σ H1 x [] v [] Q I1 r1 .nil q1))⟩
theorem pe_bm (pa:PlainAttrs T) (slot:Slot T name id) (hty:typeOf (.builtin id)=pure (.type "method_descriptor")) (hm:MtR X id r) (ho:PE X o to) (ha:PA X (e::es) t)
    (hbase:autoParam (attributeBase o name X.env (eval o X.env)=eval o X.env) au0_._auto_1)
    (hfew:autoParam (((backTo cpos (starEach (e::es) X.env)).all (fun x=>!x.1)&&(backToKw cpos (keywordEach [] X.env)).all (fun x=>x.1.isSome)
      && decide ((e::es).length+([]:List Keyword).length+(if ([]:List Keyword).isEmpty then 0 else 1)<30))=true) au0_._auto_1)
    (hline:autoParam ((apos.endLine==cpos.line)=true) au0_._auto_1) (hs:autoParam (starEach (e::es) X.env=(false,eval e X.env)::starEach es X.env) au0_._auto_1) (hplain:autoParam ((backTo cpos (starEach es X.env)).any (·.1)=false) au0_._auto_1) :
    PE X (.Call (.Attribute o name apos) (e::es) [] cpos) (tBM X.K T r to t):=by
  intro pins s σ H Q I h
  refine wpAny_Call_method_late hbase hfew hline rfl (thn (ho pins s σ H _ I h) fun v s1 ⟨x,H1,I1,r1,ty,q1⟩=>?_)
  obtain ⟨h1,h2⟩:=tyV_is I1 r1 ty
  refine ⟨T,id,pa,slot,hty,h1,h2,?_⟩
  have hA:=ha cpos pins s1 σ H1 _ I1 q1
  rw [hs] at hA ⊢
  refine Calls.callWith_builtin (by show (false||(backTo cpos (starEach es X.env)).any (·.1))=false;rw [hplain] <;> rfl) (Calls.evalArgs_plain ?_)
  exact thn hA fun us s2 ⟨vs,H2,I2,r2,q2⟩=>hm pins s2 σ H2 x vs v us Q I2 r1 r2 q2
/- xs.append(e),list.index on a module's tuple .. are MtR facts of 06m -/
end
end L2

namespace L2
open PySem PySem.Spec PyProof.Rows

noncomputable def MtM (X:Cx) (id:String) (r:V→List V→Hp→VK→Prop):Prop:=
  ∀(pins:List (Addr×Obj)) (s:Shared) (σ:St) (H:Hp) (x:V) (xs:List V) (v:Value) (us:List Value) (Q:VK),Inv X pins σ H s→RelV x v→Vals xs us→r x xs H Q →
    wpAny (model X.prog X.w) X.A (call (.builtin id) (v::us)) (EP X pins σ Q) X.xe s

theorem Vals.one:∀{x:V} {us:List Value},Vals [x] us→∃u,us=[u]∧RelV x u
  | _,_,.cons r .nil=>⟨_,rfl,r⟩
theorem Vals.two:∀{x y:V} {us:List Value},Vals [x,y] us→∃u v,us=[u,v]∧RelV x u∧RelV y v
  | _,_,_,.cons r (.cons q .nil)=>⟨_,_,rfl,r,q⟩
theorem Vals.zero:∀{us:List Value},Vals [] us→us=[]
  | _,.nil=>rfl
theorem Vals.eraseIdx:∀{xs:List V} {us:List Value} (i:Nat),Vals xs us→Vals (xs.eraseIdx i) (us.eraseIdx i)
  | _,_,_,.nil=>.nil
  | _,_,0,.cons _ t=>t
  | _,_,i+1,.cons r t=>.cons r (Vals.eraseIdx i t)
theorem Vals.reverse {xs:List V} {us:List Value} (h:Vals xs us):Vals xs.reverse us.reverse:=by
  induction h with
  | nil=>exact .nil
  | cons r t ih=>rw [List.reverse_cons,List.reverse_cons];exact Vals.append ih (.cons r .nil)
theorem Vals.rep {xs:List V} {us:List Value} (h:Vals xs us):∀k:Nat,Vals (List.replicate k xs).flatten (List.replicate k us).flatten
  | 0=>.nil
  | k+1=>by
    rw [List.replicate_succ,List.replicate_succ,List.flatten_cons,List.flatten_cons]
    exact Vals.append h (Vals.rep h k)
theorem len_erase {α:Type}:∀(l:List α) (i:Nat),(l.eraseIdx i).length≤l.length
  | [],_=>Nat.le_refl _
  | _::_,0=>Nat.le_succ _
  | _::r,i+1=>Nat.succ_le_succ (len_erase r i)
theorem foldl_rep (its:List Value):∀(k:Nat) (acc:List Value),
    List.foldl (fun x1 x2=>x1++x2) acc.toArray (List.replicate k its.toArray)=(acc++(List.replicate k its).flatten).toArray
  | 0,acc=>by simp
  | k+1,acc=>by
    have e:acc.toArray++its.toArray=(acc++its).toArray:=by simp
    have e2:(acc++its)++(List.replicate k its).flatten=acc++(List.replicate (k+1) its).flatten:=by
      rw [List.replicate_succ,List.flatten_cons,List.append_assoc]
    rw [← e2,← foldl_rep its k (acc++its),← e,List.replicate_succ,List.foldl_cons]

section
variable {X:Cx} {pins:List (Addr×Obj)} {σ:St} {H:Hp} {s:Shared} {l b:Addr} {xs ys zs:List V}

theorem Inv.lset {its its':List Value} {n:Nat} {f:Array Value→Array Value} {t':Nat} (I:Inv X pins σ H s) (hH:H l=some (.lst xs))
    (e:s.heap.get? l=some { cls:=.type "list",data:=.seq its.toArray n }) (hf:f its.toArray=its'.toArray) (hv:Vals ys its') (hz:ys.length≤sizeLine) :
    Inv X pins σ (upd H l (.lst ys)) { s with heap:=s.heap.update l (Obj.mapSeq f),toks:=t' }:=by
  have q:=PySem.IsL.update e f
  rw [hf] at q
  refine I.write (x:=l) (e:=l) (by rw [hH];exact trivial) (.inl rfl) (fun b' u hb hu=>(Heap.get?_update_other s.heap (Obj.mapSeq f) (Ne.symm hb)).trans hu) ⟨_,q⟩ ?_
  exact ⟨hz,its',_,hv,q⟩
theorem Inv.lnew {its:List Value} {t':Nat} (I:Inv X pins σ H s) (hv:Vals ys its) (hz:ys.length≤sizeLine) :
    Inv X pins σ (upd H s.heap.objs.size (.lst ys)) { s with heap:=s.heap.push { cls:=.type "list",data:=.seq its.toArray },toks:=t' }:=
  I.laid (fun _ _ q=>Heap.get?_push_of_some _ q) (Nat.le_refl _) ⟨hz,its,0,hv,Heap.get?_push_size _ rfl⟩
theorem Inv.fresh (I:Inv X pins σ H s):H s.heap.objs.size=none:=I.hok.fresh (Nat.le_refl _)
theorem Inv.lstM (I:Inv X pins σ H s) (hH:H l=some (.lst xs)):xs.length≤sizeLine∧∃(its:List Value) (n:Nat),Vals xs its∧xs.length=its.length∧s.heap.get? l=some { cls:=.type "list",data:=.seq its.toArray n }:=by
  obtain ⟨z,its,n,r,e⟩:=I.hok l _ hH
  exact ⟨z,its,n,r,r.length,e⟩

theorem notLongL {n:Nat} (h:n≤sizeLine):Builtin.List.listTooLong n=false:=by
  unfold Builtin.List.listTooLong
  exact decide_eq_false (by omega)
end

section
variable {X:Cx}

noncomputable def rAppend:V→List V→Hp→VK→Prop:=fun x vs H Q=>∃l xs y,x=.ref l∧vs=[y]∧H l=some (.lst xs)∧xs.length<sizeLine∧Q .non (upd H l (.lst (xs++[y])))
theorem mt_append:MtM X "list.append" rAppend:=by
  intro pins s σ H x vs v us Q I rx rv h
  obtain ⟨l,xs,y,rfl,rfl,hH,hz,q⟩:=h
  cases rx
  obtain ⟨u,rfl,ru⟩:=rv.one
  obtain ⟨z,its,n,r,hl,e⟩:=I.lstM hH
  refine call_meets F.slot_list_append ⟨_,e,rfl⟩ F.entry_list_append (F.args_list_append_2 _ _) (PySem.list_append l its.toArray n u (by rw [List.size_toArray];omega)) ⟨e,?_⟩
  refine ⟨.non,_,I.lset (its':=its++[u]) hH e (by simp) (r.append (.cons ru .nil)) ?_,rfl,q⟩
  rw [List.length_append,List.length_singleton]
  omega

noncomputable def rExtend:V→List V→Hp→VK→Prop:=fun x vs H Q=>∃l b xs zs,x=.ref l∧vs=[.ref b]∧H l=some (.lst xs)∧H b=some (.lst zs)∧xs.length+zs.length≤sizeLine∧Q .non (upd H l (.lst (xs++zs)))
theorem mt_extend:MtM X "list.extend" rExtend:=by
  intro pins s σ H x vs v us Q I rx rv h
  obtain ⟨l,b,xs,zs,rfl,rfl,hH,hB,hz,q⟩:=h
  cases rx
  obtain ⟨u,rfl,ru⟩:=rv.one
  cases ru
  obtain ⟨z,its,n,r,hl,e⟩:=I.lstM hH
  obtain ⟨z2,its2,n2,r2,hl2,e2⟩:=I.lstM hB
  have hsz:its.toArray.size+its2.toArray.size≤sizeLine:=by rw [List.size_toArray,List.size_toArray];omega
  have hlong:¬(!its.toArray.isEmpty&&Builtin.List.listTooLong (its.toArray.size+its2.toArray.size))=true:=by
    rw [notLongL hsz,Bool.and_false]
    exact Bool.false_ne_true
  refine call_meets F.slot_list_extend ⟨_,e,rfl⟩ F.entry_list_extend (F.args_list_extend_2 _ _)
    (AutoSeq1.list_extend_list_list_0 l its.toArray n b its2.toArray n2 hlong (by rw [List.size_toArray];omega) (by omega)) ⟨e,e2,?_⟩
  refine ⟨.non,_,I.lset (its':=its++its2) hH e (by simp) (r.append r2) ?_,rfl,q⟩
  rw [List.length_append]
  omega

noncomputable def rPopAt:V→List V→Hp→VK→Prop:=fun x vs H Q=>∃l xs i k y,x=.ref l∧vs=[.int i]∧H l=some (.lst xs)∧-(2 ^ 63)≤i∧i<2 ^ 63∧seqIndex? i xs.length=some k∧xs[k]?=some y∧Q y (upd H l (.lst (xs.eraseIdx k)))
theorem mt_popAt:MtM X "list.pop" rPopAt:=by
  intro pins s σ H x vs v us Q I rx rv h
  obtain ⟨l,xs,i,k,y,rfl,rfl,hH,h1,h2,hk,hy,q⟩:=h
  cases rx
  obtain ⟨u,rfl,ru⟩:=rv.one
  obtain ⟨t,rfl⟩:=ru
  obtain ⟨z,its,n,r,hl,e⟩:=I.lstM hH
  obtain ⟨w,hw,rw'⟩:=r.get hy
  refine call_meets F.slot_list_pop ⟨_,e,rfl⟩ F.entry_list_pop (F.args_list_pop_2 _ _)
    (MeetsSeq.list_pop_at l its.toArray n i t k w (fitsIndex_both h1 h2) (by rw [List.size_toArray,← hl];exact hk) (by rw [← Array.getElem?_toList];exact hw) (by rw [List.size_toArray];omega)) ⟨e,?_⟩
  refine ⟨y,_,I.lset (its':=its.eraseIdx k) hH e ?_ (r.eraseIdx k) ?_,rw',q⟩
  · show its.toArray.eraseIdxIfInBounds k=(its.eraseIdx k).toArray
    rw [List.eraseIdxIfInBounds_toArray]
  · have:=len_erase xs k
    omega

noncomputable def rReverse:V→List V→Hp→VK→Prop:=fun x vs H Q=>∃l xs,x=.ref l∧vs=[]∧H l=some (.lst xs)∧Q .non (upd H l (.lst xs.reverse))
theorem mt_reverse:MtM X "list.reverse" rReverse:=by
  intro pins s σ H x vs v us Q I rx rv h
  obtain ⟨l,xs,rfl,rfl,hH,q⟩:=h
  cases rx
  have hus:=rv.zero
  subst hus
  obtain ⟨z,its,n,r,hl,e⟩:=I.lstM hH
  refine call_meets F.slot_list_reverse ⟨_,e,rfl⟩ F.entry_list_reverse (F.args_list_reverse_1 _) (AutoSeq1.list_reverse_list_0 l its.toArray n (by rw [List.size_toArray];omega)) ⟨e,?_⟩
  refine ⟨.non,_,I.lset (its':=its.reverse) hH e (by simp) r.reverse ?_,rfl,q⟩
  rw [List.length_reverse]
  omega

noncomputable def rCat:R2:=fun x y H Q=>∃l b xs zs,x=.ref l∧y=.ref b∧H l=some (.lst xs)∧H b=some (.lst zs)∧xs.length+zs.length≤sizeLine∧∀p,H p=none→Q (.ref p) (upd H p (.lst (xs++zs)))
theorem op_cat:OpR X (binaryOp .Add) rCat:=by
  intro pins s σ H x y v u Q I rx ry h
  obtain ⟨l,b,xs,zs,rfl,rfl,hH,hB,hz,q⟩:=h
  cases rx
  cases ry
  obtain ⟨z,its,n,r,hl,e⟩:=I.lstM hH
  obtain ⟨z2,its2,n2,r2,hl2,e2⟩:=I.lstM hB
  refine PySem.P.add_list e e2 ?_ (by rw [List.size_toArray,List.size_toArray];omega)
  have ea:its.toArray++its2.toArray=(its++its2).toArray:=by simp
  rw [ea]
  exact ⟨.ref _,_,I.lnew (t':=s.toks) (r.append r2) (by rw [List.length_append];omega),rfl,q _ I.fresh⟩
noncomputable def rRep:R2:=fun x y H Q=>∃l k xs,x=.ref l∧y=.int k∧H l=some (.lst xs)∧-(2 ^ 63)≤k∧k<2 ^ 63∧xs.length*k.toNat≤sizeLine ∧
  ∀p,H p=none→Q (.ref p) (upd H p (.lst (List.replicate k.toNat xs).flatten))
theorem len_rep {α:Type} (xs:List α) (k:Nat):(List.replicate k xs).flatten.length=k*xs.length:=by
  induction k with
  | zero=>simp
  | succ k ih=>rw [List.replicate_succ,List.flatten_cons,List.length_append,ih,Nat.succ_mul,Nat.add_comm]
theorem op_rep:OpR X (binaryOp .Mult) rRep:=by
  intro pins s σ H x y v u Q I rx ry h
  obtain ⟨l,k,xs,rfl,rfl,hH,h1,h2,hz,q⟩:=h
  cases rx
  obtain ⟨t,rfl⟩:=ry
  obtain ⟨z,its,n,r,hl,e⟩:=I.lstM hH
  have hlen:its.toArray.size*k.toNat≤sizeLine:=by rw [List.size_toArray,← hl];exact hz
  have hcap:¬its.toArray.size*k.toNat>(2 ^ 63-1)/8:=by
    have:(sizeLine:Nat)≤(2 ^ 63-1)/8:=by decide
    omega
  have hfit:¬(!Builtin.List.listFitsIndex k)=true:=by
    rw [fitsIndex_both h1 h2]
    exact Bool.false_ne_true
  have hlong:¬Builtin.List.listTooLong (its.toArray.size*k.toNat)=true:=by
    rw [notLongL hlen]
    exact Bool.false_ne_true
  have hnew:List.foldl (fun x1 x2=>x1++x2) #[] (List.replicate (if its.toArray.isEmpty=true then 0 else k.toNat) its.toArray)=(List.replicate k.toNat its).flatten.toArray:=by
    have f0:∀m:Nat,List.foldl (fun x1 x2=>x1++x2) #[] (List.replicate m its.toArray)=(List.replicate m its).flatten.toArray:=fun m=>by
      have:=foldl_rep its m []
      rw [List.nil_append] at this
      exact this
    rw [f0]
    cases its with
    | nil=>simp
    | cons a r'=>rw [if_neg (by simp)]
  refine wpAny_binaryOp_repeat_ref (T := "list") (U := "int") (by decide) ⟨_,e,rfl⟩ (fun s'=>typeIs_int s' k t) noFill_list_mul F.fills_int_mul F.slot_int_rmul repeat_list F.slot_int_index.lookup
    (call_meets F.slot_int_rmul (typeIs_int s k t) F.entry_int_rmul (F.args_int_rmul_2 _ _) (int___rmul___int_list k t l its.toArray n)
      ⟨e,rfl,⟨_,e,rfl⟩,call_meets F.slot_list_mul ⟨_,e,rfl⟩ F.entry_list_mul (F.args_list_mul_2 _ _) (AutoListH.list___mul___list_int_3 l its.toArray n k t hfit hcap hlong) ⟨e,?_⟩⟩)
  rw [hnew]
  exact ⟨.ref _,_,I.lnew (t':=s.toks) (r.rep k.toNat) (by rw [len_rep,Nat.mul_comm];exact hz),rfl,q _ I.fresh⟩

end

section
variable {prog:Program} {w:World} {A:Around} {E:Value→Shared→Prop} {s:Shared}
set_option maxRecDepth 100000 in
end

section
variable {X:Cx}
end
end L2

namespace Att
open PySem PySem.W PySem.Calls PyProof.Rows

theorem ints_of_wellAll {P:Params} {h:Heap}:∀(ns:List Int) (vs:List Value),WellAll P h vs (ns.map WData.int)→IntsAre vs ns:=by
  intro ns
  induction ns with
  | nil=>
    intro vs w
    rw [List.map_nil] at w
    cases w
    exact .nil
  | cons n ns ih=>
    intro vs w
    rw [List.map_cons] at w
    cases w with
    | cons a b=>
      cases a
      exact .cons _ _ (ih _ b)

theorem script_of {l:OpenLaw} {n:Nat} (hn:l.most=some n) {P:Params} {h:Heap} {args:List WData} {vals:List Value}
    (hpre:l.row.toRowW.claim.pre args=true) (hwl:WellAll P h vals args) :
    ∃a vs ns,vals=[Value.ref a]∧args=[WData.list (ns.map WData.int)]∧h.get? a=some { cls:=.type "list",data:=.seq vs.toArray }∧IntsAre vs ns∧ns.length≤n:=by
  have hsh:WShape.hasAll [] args [.list .int]=true:=(pre_splitW hpre).1
  have hc:l.pre.holds [] { args:=args }=true:=(pre_splitW hpre).2
  obtain ⟨d,r,rfl,h1,h2⟩:=hasAllW_cons hsh
  obtain rfl:=hasAllW_nil h2
  obtain ⟨xs,rfl,h3⟩:=hasW_list h1
  obtain ⟨ns,rfl⟩:=items_int h3
  have hlen:ns.length≤n:=by
    unfold OpenLaw.pre at hc
    have h4:(WTm.not (.lt (.lit (.int (n:Int))) (.len (.arg 0)))).holds [] { args:=[.list (ns.map .int)] }=true:=by
      have h4:=(holds_andW hc).1
      rw [hn] at h4
      exact h4
    have h5:=condW_of h4 (w_not (w_lt w_lit (w_len_list (w_arg rfl))))
    rw [List.length_map] at h5
    refine Nat.le_of_not_lt fun q=>?_
    have q':(n:Int)<((ns.length:Nat):Int):=by omega
    first
      | (rw [decide_eq_true q'] at h5;exact absurd h5 (by decide))
      | (simp at h5;omega)
  cases hwl with
  | cons w1 w2=>
    cases w2
    cases w1 with
    | list ho hall=>exact ⟨_,_,ns,rfl,rfl,ho,ints_of_wellAll ns _ hall,hlen⟩

theorem post_true (l:OpenLaw) (args:List WData):l.row.toRowW.claim.post args (.bool true) args=true:=
  postW_of (r:=l.row.toRowW) (X:=(true==true))
    (show WShape.has [] (.bool true) .bool=true by first | rfl | decide | simp [WShape.has,WShape.arms,WShape.armsAll])
    (show (WTm.eq .res (.lit (.bool true))).value [] { args:=args,res:=some (.bool true),after:=args }=some (.bool (true==true)) from w_eq_bool (w_res rfl) w_lit) rfl

theorem attach_call {l:OpenLaw} {n:Nat} {q:Program} {loose:List Str} {XP:(Str→Option Value)→Heap→Prop} {YP:World→Heap→Prop} {d:DefRec}
    (hn:l.most=some n) (hdf:d.params.defaults=[])
    (call:∀(w:World) (s₀ s₁:Shared) (mg mb:Str→Option Value) (fa:Addr) (o:Obj) (pm cd doc:Value) (a:Addr) (vs:List Value) (ns:List Int),
      Ground q loose [] XP w s₀ mg mb s₁.heap→YP w s₁.heap →
      s₁.heap.get? fa=some o→o.data=.func (docDef d.name d.params d.body d.scope pm cd doc)→s₁.heap.CodeRec cd d.name→mg d.name=some (.ref fa) →
      s₁.heap.get? a=some { cls:=.type "list",data:=.seq vs.toArray }→IntsAre vs ns→ns.length≤n→s₁.gens=#[] →
      codeAny (model l.prog w) callerA (.call (.ref fa) ⟨[.ref a],[]⟩) (fun r s'=>r=.ok (.ret (.bool true))∧OldK s₁.heap s'.heap∧s'.os=s₁.os∧AllBare s'.gens) s₁) :
    WalkO q loose XP YP l.row.toRowW d [] (fun f vs=>PySem.call f vs):=by
  intro w s₀ s₁ mg mb G Y fa o pm cd doc dV kV ho hd hcd hD hmg hg args vals as hpre hlay hrd hwl hlo
  obtain rfl:dV=.none:=Dflts.none hD hdf
  obtain rfl:kV=.none:=Dflts.noKw hD
  obtain ⟨a,vs,ns,rfl,rfl,hobj,hints,hlen⟩:=script_of hn hpre hwl
  refine enter_call (codeAny_mono (call w s₀ s₁ mg mb fa o pm cd doc a vs ns G Y ho (fd_plain hd) hcd hmg hobj hints hlen hg) fun r s' hq=>?_)
  obtain ⟨rfl,h2,h3,h4⟩:=hq
  exact ⟨.inl ⟨.bool true,.bool true,[],rfl,fun _=>rfl,.bool true,post_true l _,fun _=>⟨List.Pairwise.nil,fun _ hm=>(nomatch hm)⟩⟩,h2,h3,h4⟩

section
variable {prog:Program} {w:World} {A:Around} {E:Value→Shared→Prop} {s:Shared} {K:Frag}

end
end Att

namespace L2
open PySem PySem.Spec PyProof.Rows

theorem vals_ints:∀{vs:List Value} {ns:List Int},IntsAre vs ns→Vals (ns.map V.int) vs
  | _,_,.nil=>.nil
  | _,_,.cons n t h=>.cons ⟨t,rfl⟩ (vals_ints h)

noncomputable def Only (H:Hp):Prop:=∀b,H b=none∨∃o xs,H b=some (.frz o (.lst xs))

theorem law_call {P:Program} {w:World} {K:PySem.W.Frag} {mg mb:Str→Option Value} {CX:CXT} {k:Nat} {fa a:Addr} {fd:FuncData} {x:Str} {sp:Sp} {s₁:Shared} {vs:List Value} {ns:List Int}
    (KX:K.In s₁.heap) (hns:s₁.heap.Ns mainGlobals mg) (hb:s₁.heap.Ns builtinsNs mb) (hbb:∀x:Str,x ≠ "__name__"→mb x=bootBuiltins x) (hlim:s₁.heap.NoLimit) (hg:s₁.gens=#[])
    (ha:s₁.heap.get? a=some { cls:=.type "list",data:=.seq vs.toArray }) (hi:IntsAre vs ns) (hl:ns.length≤sizeLine) (hr:Room k callerA)
    (F:∀base:Heap,K.In base→base.Ns mainGlobals mg→FnOk P w K mg base CX k fa fd [x] sp) (hbind:∀(s:Shared) (u:Value),BindsTo s fd ⟨[u],[]⟩ [(x,u)])
    (hsp:∀H:Hp,Only H→SqL K H a (ns.map V.int)→sp [.ref a] H (fun v _=>v=.bl true) fun _ _ _=>False)
    (hCX:∀H e s',CX [] H s₁ (fun _ _ _=>False) e s'→False) :
    codeAny (model P w) callerA (.call (.ref fa) ⟨[.ref a],[]⟩) (fun r s'=>r=.ok (.ret (.bool true))∧OldK s₁.heap s'.heap∧s'.os=s₁.os∧AllBare s'.gens) s₁:=by
  have rv:=vals_ints hi
  have lenV:=hi.length
  -- from an abstract heap in which nothing but the script may be tracked
  have core:∀H:Hp,Only H→SqL K H a (ns.map V.int)→HOk P w H s₁.heap→(∀b,H b≠none→b=a)→(H a≠none→K.lookup a=none) →
      codeAny (model P w) callerA (.call (.ref fa) ⟨[.ref a],[]⟩) (fun r s'=>r=.ok (.ret (.bool true))∧OldK s₁.heap s'.heap∧s'.os=s₁.os∧AllBare s'.gens) s₁:=by
    intro H hO hS hok hA hK
    have base_of:∀{b:Addr} {o:Obj},s₁.heap.get? b=some o→H b=none→(hidT s₁.heap H).get? b=some o:=fun e n=>hidT_get e n
    have noA:∀{b:Addr} {o:Obj} {es:Array DictEntry} {ep:Nat},s₁.heap.get? b=some o→o.data=.dict es ep→H b=none:=fun {b o es ep} e d=>by
      cases q:H b with
      | none=>rfl
      | some u=>
        have e':b=a:=hA b (by rw [q];simp)
        subst e'
        rw [ha] at e;cases e
        have d':Data.seq vs.toArray _=Data.dict es ep:=d
        cases d'
    have nsK:∀{b:Addr} {m:Str→Option Value},s₁.heap.Ns b m→(hidT s₁.heap H).Ns b m:=fun {b m} ⟨o,es,ep,e,d,r⟩=>⟨o,es,ep,base_of e (noA e d),d,r⟩
    have hKb:K.In (hidT s₁.heap H):=fun b o e=>base_of (KX b o e) (by
      cases q:H b with
      | none=>rfl
      | some u=>
        have e':b=a:=hA b (by rw [q];simp)
        subst e'
        rw [hK (by rw [q];simp)] at e;cases e)
    have hM:Mod K mg (hidT s₁.heap H):=⟨hKb,nsK hns,⟨mb,nsK hb,hbb⟩,let ⟨mc,h1,h2⟩:=hlim;⟨mc,nsK h1,h2⟩⟩
    have e0:Env0 P w K mg (hidT s₁.heap H) callerA [] s₁ H:=⟨rfl,hM,fun b o e=>of_hidT e,Nat.le_of_eq (hidT_size _ _),trivial,fun b hb=>absurd (show b∈([]:List Addr) from hb) (by simp),hok,.of_eq hg⟩
    refine codeAny_mono ((F _ hKb (nsK hns)).run callerA [] s₁ H ⟨[.ref a],[]⟩ [.ref a] [.ref a] _ _ hr e0 (hbind s₁ (.ref a)) (.cons rfl .nil) (hsp H hO hS)) fun r s' h=>?_
    cases r with
    | error e=>exact (hCX H e s' h).elim
    | ok fl=>
      cases fl with
      | next=>exact False.elim h
      | brk=>exact False.elim h
      | cont=>exact False.elim h
      | ret u=>
        obtain ⟨v,H',os,bare,un,hok',r',q⟩:=h
        have q':v=.bl true:=q
        subst q'
        obtain rfl:u=Value.bool true:=r'
        refine ⟨rfl,OldK.of_keep fun b o e=>?_,os,bare⟩
        cases q:H b with
        | none=>exact un.keep b o e q (by intro z;exact absurd (show b∈([]:List Addr) from z) (by simp)) (by simp)
        | some u=>
          rcases hO b with z | ⟨ob,xs,z⟩
          · rw [q] at z;cases z
          · have z2:=un.frzs b ob _ z
            obtain ⟨e1,_⟩:=hok b _ z
            obtain ⟨e2,_⟩:=hok' b _ z2
            rw [e] at e1;cases e1
            exact e2
  cases hk:K.lookup a with
  | some o=>
    -- the script is one of the module's own objects
    have e:=KX a o hk
    rw [ha] at e
    cases e
    refine core (fun _=>none) (fun _=>.inl rfl) (.inr ⟨_,vs.toArray,_,hk,rfl,rfl,rfl,by rw [List.size_toArray,lenV];exact hl,by simpa using rv⟩) (fun b u z=>by have z':(none:Option HO)=some u:=z;cases z') (fun b z=>absurd rfl z) fun z=>absurd rfl z
  | none=>
    refine core (fun b=>if b=a then some (.frz { cls:=.type "list",data:=.seq vs.toArray } (.lst (ns.map V.int))) else none) (fun b=>?_) (.inl (.inr ⟨{ cls:=.type "list",data:=.seq vs.toArray },if_pos rfl⟩)) (fun b u z=>?_) (fun b z=>?_) fun _=>hk
    · by_cases hb:b=a
      · exact .inr ⟨_,_,if_pos hb⟩
      · exact .inl (if_neg hb)
    · by_cases hb:b=a
      · have z':=(if_pos hb).symm.trans z
        cases z'
        subst hb
        exact ⟨ha,by rw [List.length_map];exact hl,vs,_,rv,ha⟩
      · have z':=(if_neg hb).symm.trans z
        cases z'
    · by_cases hb:b=a
      · exact hb
      · exact absurd (if_neg hb) z
end L2

namespace L2
open PySem PySem.Spec PyProof.Rows

theorem walk_of {l:PySem.W.OpenLaw} {n k:Nat} {q:Program} {loose:List Str} {XP:(Str→Option Value)→Heap→Prop} {YP:World→Heap→Prop} {d:DefRec} {K:Params→PySem.W.Frag} {CX:World→CXT} {sp:World→Sp} {x:Str}
    (hn:l.most=some n) (hn2:n≤sizeLine) (hdf:d.params.defaults=[]) (hr:Room k callerA)
    (hY:∀(w:World) (h:Heap),YP w h→(K w.params).In h)
    (F:∀(w:World) (mg:Str→Option Value) (fa:Addr) (h:Heap),(K w.params).In h→h.Ns mainGlobals mg→mg d.name=some (.ref fa) →
      ∃fd:FuncData,(∀(s:Shared) (u:Value),BindsTo s fd ⟨[u],[]⟩ [(x,u)]) ∧
        ∀base:Heap,(K w.params).In base→base.Ns mainGlobals mg→FnOk l.prog w (K w.params) mg base (CX w) k fa fd [x] (sp w))
    (hsp:∀(w:World) (H:Hp) (a:Addr) (ns:List Int),ns.length≤n→Only H→SqL (K w.params) H a (ns.map V.int)→sp w [.ref a] H (fun v _=>v=.bl true) fun _ _ _=>False)
    (hCX:∀(w:World) (H:Hp) (s:Shared) (e:Value) (s':Shared),CX w [] H s (fun _ _ _=>False) e s'→False) :
    PySem.W.WalkO q loose XP YP l.row.toRowW d [] (fun f vs=>PySem.call f vs):=by
  refine Att.attach_call hn hdf fun w s₀ s₁ mg mb fa o pm cd doc a vs ns G Y ho hd hcd hmg hobj hints hlen hg=>?_
  have KX:=hY w _ Y
  obtain ⟨fd,hb,hF⟩:=F w mg fa _ KX G.T.g hmg
  exact law_call KX G.T.g G.T.b G.T.builtins G.T.nolimit hg hobj hints (Nat.le_trans hlen hn2) hr hF hb (fun H hO hS=>hsp w H a ns hlen hO hS) fun H e s'=>hCX w H s₁ e s'
end L2



namespace L2
open PySem PySem.Spec PyProof.Rows

noncomputable def inClass (s:Stmt) (j:Nat):Stmt:=match s with
  | .ClassDef _ _ _ body _ _ _ _ _ _ _=>body.getD j (.Pass ⟨0,0,0,0⟩)
  | _=>.Pass ⟨0,0,0,0⟩
noncomputable def defArgs (s:Stmt):Arguments:=match s with
  | .FunctionDef _ a _ _ _ _ _ _ _ _=>a
  | _=>{ posonlyargs:=[],args:=[],vararg:=none,kwonlyargs:=[],kw_defaults:=[],kwarg:=none,defaults:=[] }
noncomputable def defBody (s:Stmt):List Stmt:=match s with
  | .FunctionDef _ _ b _ _ _ _ _ _ _=>b
  | _=>[]
noncomputable def defScope (s:Stmt):Scope:=match s with
  | .FunctionDef _ _ _ _ _ _ sc _ _ _=>sc
  | _=>{ kind:=.function,names:=[],isGenerator:=false,isCoroutine:=false }

noncomputable abbrev CX0:CXT:=fun _ _ _ _ _ _=>False
noncomputable abbrev E0:XK:=fun _ _ _=>False
theorem pass0 {X:Cx}:Passes CX0 X E0:=fun _ _ _ _ _ _ _ h=>h.elim

structure Fun (K:PySem.W.Frag) (x qual:Str) (st:Stmt) (f:Addr) (fd:FuncData):Prop where
  ex:∃(oc:Value) (od:Option Addr) (kV doc pm:Value) (an:Option Addr) (cdv ct:Value) (osl:Array (Option Value)),
    fd=PySem.W.fnOf x qual (defArgs st) (defBody st) (defScope st) .none kV doc pm an cdv ct∧K.lookup f=some ⟨oc,od,.func fd,osl⟩∧PySem.W.codeIn K cdv qual=true
  kp:PySem.W.keepIn K (.ref f)=true
section
variable {P:Program} {w:World} {K:PySem.W.Frag} {mg:Str→Option Value} {base:Heap}
theorem Fun.ok {x qual:Str} {st:Stmt} {f:Addr} {fd:FuncData} {N ps:List Str} {k:Nat} {sp:Sp} (F:Fun K x qual st f fd) (S:FnScope N ps (defScope st)) (len:∀vs H Q E,sp vs H Q E→vs.length=ps.length)
    (hbody:∀(cdv:Value) (A:Around) (outer:List Env) (s:Shared) (H:Hp) (vs:List V) (Q:VK) (E:XK),Room k (A.deeper (envOfC qual (defScope st) s.heap.objs.size f cdv))→sp vs H Q E →
      ∃t,PSs (cxOf CX0 P w K mg base N qual (defScope st) f cdv A outer s H E).nox (defBody st) t∧t { nx:=fun _ H'=>Q .non H',rt:=Q } (start N vs) H):FnOk P w K mg base CX0 (k+1) f fd ps sp:=by
  obtain ⟨oc,od,kV,doc,pm,an,cdv,ct,osl,rfl,lk,hcd⟩:=F.ex
  refine fn_of lk hcd S len fun A outer s H vs Q E hr hsp=>?_
  obtain ⟨t,h,q⟩:=hbody cdv A outer s H vs Q E hr hsp
  exact ⟨t,h.nox,q⟩
theorem Fun.binds {x qual:Str} {st:Stmt} {f:Addr} {fd:FuncData} {ps:List Str} (F:Fun K x qual st f fd)
    (h:∀(kV doc pm:Value) (an:Option Addr) (cdv ct:Value) (us:List Value),us.length=ps.length→bindArgs (PySem.W.fnOf x qual (defArgs st) (defBody st) (defScope st) .none kV doc pm an cdv ct) ⟨us,[]⟩=pure (ps.zip us)):Binds K fd ps []:=by
  obtain ⟨oc,od,kV,doc,pm,an,cdv,ct,osl,rfl,lk,hcd⟩:=F.ex
  exact .all (h kV doc pm an cdv ct)
theorem fun_mk {x qual:Str} {st:Stmt} {f:Addr} {oc:Value} {od an:Option Addr} {osl:Array (Option Value)} {kV doc pm cdv ct:Value} (l:K.lookup f=some ⟨oc,od,.func (PySem.W.fnOf x qual (defArgs st) (defBody st) (defScope st) .none kV doc pm an cdv ct),osl⟩)
    (c:PySem.W.codeIn K cdv qual=true) (k:PySem.W.keepIn K (.ref f)=true):Fun K x qual st f (PySem.W.fnOf x qual (defArgs st) (defBody st) (defScope st) .none kV doc pm an cdv ct):=⟨⟨oc,od,kV,doc,pm,an,cdv,ct,osl,rfl,l,c⟩,k⟩
end
theorem small1000 {n:Nat} (h:n≤1000):n<sizeLine:=Nat.lt_of_le_of_lt h (by decide)

section
variable {X:Cx}
theorem pv (i:Nat) {x:Str} {pos:Pos} (hN:autoParam (X.N[i]?=some x) au0_._auto_1) (hv:Vis X.env.scope x:=by first | exact Or.inl rfl | exact Or.inr (Or.inl rfl) | exact Or.inr (Or.inr rfl)) (hd:autoParam ((x==("__debug__":Str))=false) au1_._auto_1)
    (hcd:autoParam ((x==("__classdict__":Str))=false) au1_._auto_1):PE X (.Name x pos) (tVar i):=pe_var hN hv hd hcd
end

theorem iteF {A B:Prop} (h:B):if false=true then A else B:=by
  rw [if_neg Bool.false_ne_true]
  exact h
theorem iteT {A B:Prop} (h:A):if true=true then A else B:=by
  rw [if_pos rfl]
  exact h
theorem ite2 {c A B:Prop} [Decidable c] (h1:c→A) (h2:¬c→B):if c then A else B:=by
  by_cases h:c
  · rw [if_pos h]
    exact h1 h
  · rw [if_neg h]
    exact h2 h
noncomputable def Same (H H':Hp):Prop:=∀b o,H b=some o→H' b=some o
theorem Same.refl (H:Hp):Same H H:=fun _ _ h=>h
theorem Same.trans {H H1 H2:Hp} (a:Same H H1) (b:Same H1 H2):Same H H2:=fun c o h=>b c o (a c o h)
theorem Same.free {H H':Hp} (e:Same H H') {l:Addr} (h:H' l=Option.none):H l=Option.none:=by
  cases q:H l with
  | none=>rfl
  | some o=>
    rw [e l o q] at h
    cases h
theorem Same.seq {K:PySem.W.Frag} {H H':Hp} {a:Addr} {xs:List V} (e:Same H H') (h:SqL K H a xs):SqL K H' a xs:=by
  rcases h with (h | ⟨o,h⟩) | h
  · exact .inl (.inl (e _ _ h))
  · exact .inl (.inr ⟨o,e _ _ h⟩)
  · exact .inr h

end L2

set_option maxHeartbeats 4000000
namespace Mth

noncomputable def Sz (n:Nat) (x:Int):Prop:=x.natAbs<2 ^ n
noncomputable instance {n:Nat} {x:Int}:Decidable (Sz n x):=inferInstanceAs (Decidable (x.natAbs<2 ^ n))
theorem Sz.of_le {m:Nat} {x y:Int} (hx:Sz m x) (h:y.natAbs≤x.natAbs):Sz m y:=Nat.lt_of_le_of_lt h hx
theorem Sz.log {m:Nat} {x:Int} (hx:Sz m x) (hm:m≤9000) (h0:0<m):x.natAbs.log2<9000:=by
  by_cases h:x.natAbs=0
  · rw [h];decide
  · have:=(Nat.log2_lt h).mpr hx
    (first | lia | omega)
theorem Sz.of_lt {m k:Nat} {x:Int} (h:x.natAbs<k) (hk:k≤2 ^ m):Sz m x:=Nat.lt_of_lt_of_le h hk

end Mth

namespace Mth
end Mth

namespace Mth
end Mth

namespace Mth
end Mth

namespace Mth
section
variable {α:Type} {s:α→Bool} {es:List α} {i:Nat} {e:α}
end
end Mth

namespace Mth
section
variable {s s':Nat→Rat} {i m k k':Nat} {c:Rat}
end
end Mth

namespace Mth
section
variable {L:Nat→Nat→Prop} {N f:Nat} {t u:Nat→Int}
end
end Mth

namespace Mth
section
variable {t v:Nat→Rat} {B s:Rat} {n i j k l:Nat}
end
end Mth

namespace My
open PySem PySem.Spec PyProof.Rows L2 Mth

theorem mulOk {m n:Nat} {x y:Int} (hx:Sz m x) (hy:Sz n y) (h:autoParam (m+n≤134217728) au1_._auto_1):IntMulOk x y:=
  IntMulOk.of_le (intBits_le_iff.mpr hx) (intBits_le_iff.mpr hy) h
theorem mulR {x y:Int} (h1:-(2 ^ 64)<y) (h2:y<2 ^ 64):IntMulOk x y:=CMul.ok (.inr ⟨h1,h2⟩)
theorem mulL {x y:Int} (h1:-(2 ^ 64)<x) (h2:x<2 ^ 64):IntMulOk x y:=CMul.ok (.inl ⟨h1,h2⟩)
noncomputable def CDivB (_ j:Int):Prop:=j≠0∧j.natAbs.log2<9000

section
variable {X:Cx}
theorem op_mulB:OpR X (binaryOp .Mult) (rI IntMulOk fun i j=>.int (i*j)):=opI fun _ _ _ _ _ _ _ hc q=>mul_int q hc
theorem op_fdivB:OpR X (binaryOp .FloorDiv) (rI CDivB fun i j=>.int (i.fdiv j)):=opI fun _ _ _ _ _ _ _ hc q=>floordiv_int hc.1 q (.inl (PyProof.noPylong_of_log2 hc.2))
end

mutual
inductive Den (H:Hp):V→PyData→Prop where
  | non:Den H .non .none
  | bl (b:Bool):Den H (.bl b) (.bool b)
  | int (i:Int):Den H (.int i) (.int i)
  | str (x:Str):Den H (.str x) (.str x)
  | tup {a:Addr} {xs:List V} {ds:List PyData}:H a=some (.tup xs)→Dens H xs ds→Den H (.ref a) (.tuple ds)
  | lst {a:Addr} {xs:List V} {ds:List PyData}:H a=some (.lst xs)→Dens H xs ds→Den H (.ref a) (.list ds)
inductive Dens (H:Hp):List V→List PyData→Prop where
  | nil:Dens H [] []
  | cons {x:V} {xs:List V} {d:PyData} {ds:List PyData}:Den H x d→Dens H xs ds→Dens H (x::xs) (d::ds)
end
section
variable {P:Program} {w:World} {H:Hp} {h:Heap}
mutual
theorem Den.reads (ok:HOk P w H h):∀{v:V} {d:PyData},Den H v d→∀{u:Value},RelV v u→∃as,Reads h u d as
  | _,_,.non,u,r=>by cases (show u=Value.none from r);exact ⟨_,Reads.none⟩
  | _,_,.bl b,u,r=>by cases (show u=Value.bool b from r);exact ⟨_,Reads.bool b⟩
  | _,_,.int i,u,r=>by obtain ⟨t,q⟩:=(show ∃t,u=Value.int i t from r);cases q;exact ⟨_,Reads.int i t⟩
  | _,_,.str x,u,r=>by obtain ⟨t,q⟩:=(show ∃t,u=Value.str x t from r);cases q;exact ⟨_,Reads.str x t⟩
  | _,_,@Den.tup _ a xs ds e dd,u,r=>by
    cases (show u=Value.ref a from r)
    obtain ⟨_,its,rv,o,h1,h2,n,h3⟩:=(show ObjOk P w H h a (.tup xs) from ok a _ e)
    obtain ⟨as,q⟩:=Dens.reads ok dd rv
    exact ⟨as,reads_tuple_at h1 h2 h3 (by simpa using q)⟩
  | _,_,@Den.lst _ a xs ds e dd,u,r=>by
    cases (show u=Value.ref a from r)
    obtain ⟨_,its,n,rv,h1⟩:=(show ObjOk P w H h a (.lst xs) from ok a _ e)
    obtain ⟨as,q⟩:=Dens.reads ok dd rv
    exact ⟨_,reads_list_at h1 rfl rfl (by simpa using q)⟩
theorem Dens.reads (ok:HOk P w H h):∀{vs:List V} {ds:List PyData},Dens H vs ds→∀{us:List Value},Vals vs us→∃as,ReadsAll h us ds as
  | _,_,.nil,_,.nil=>⟨_,ReadsAll.nil⟩
  | _,_,.cons d dd,_,.cons r rr=>by
    obtain ⟨as,q⟩:=Den.reads ok d r
    obtain ⟨bs,p⟩:=Dens.reads ok dd rr
    exact ⟨_,ReadsAll.cons q p⟩
end
end
noncomputable def rEqD:R2:=fun x y H Q=>∃d e,Den H x d∧Den H y e∧SeqAt.shaped d=true∧SeqAt.shaped e=true∧Q (.bl (PyData.eqv d e)) H
noncomputable def rNeD:R2:=fun x y H Q=>∃d e,Den H x d∧Den H y e∧SeqAt.shaped d=true∧SeqAt.shaped e=true∧Q (.bl (!PyData.eqv d e)) H
section
variable {X:Cx}
theorem op_eqD (hu:X.A.units+64<cLine):OpR X (compareOp .Eq) rEqD:=by
  intro pins s σ H x y v u Q I rx ry h
  obtain ⟨d,e,hd,he,s1,s2,q⟩:=h
  obtain ⟨as,r1⟩:=hd.reads I.hok rx
  obtain ⟨bs,r2⟩:=he.reads I.hok ry
  exact eq_dataH r1 r2 s1 s2 hu ⟨.bl _,H,I,rfl,q⟩
theorem op_neD (hu:X.A.units+64<cLine):OpR X (compareOp .NotEq) rNeD:=by
  intro pins s σ H x y v u Q I rx ry h
  obtain ⟨d,e,hd,he,s1,s2,q⟩:=h
  obtain ⟨as,r1⟩:=hd.reads I.hok rx
  obtain ⟨bs,r2⟩:=he.reads I.hok ry
  exact ne_dataH r1 r2 s1 s2 hu ⟨.bl _,H,I,rfl,q⟩
noncomputable def rIsi (K:PySem.W.Frag):List V→Hp→VK→Prop:=fun xs H Q=>∃x n t b,xs=[x,.ty n]∧TyOf K H x t∧PySem.W.kitOne K t (.type n)=some b∧Q (.bl b) H
theorem call_isi:CallR X (.builtin "isinstance") (rIsi X.K):=by
  intro pins s σ H xs us Q I r h
  obtain ⟨x,n,t,b,rfl,ty,e,q⟩:=h
  obtain ⟨u,u2,rfl,rx,rn⟩:=vals2 r
  cases (show u2=Value.type n from rn)
  exact isinst_ok I rx ty e fun tk=>⟨.bl b,H,I.tok tk,rfl,q⟩
end
section
variable {K:PySem.W.Frag}
theorem kit_ib:PySem.W.kitOne K (.type "int") (.type "bool")=some false:=by rfl
end

section
variable {es:List Expr} {env:Env} {pos:Pos}
theorem any0:(backTo pos (starEach [] env)).any (·.1)=false:=by rfl
theorem anyc {e:Expr} (h:starEach (e::es) env=(false,eval e env)::starEach es env) (k:(backTo pos (starEach es env)).any (·.1)=false):(backTo pos (starEach (e::es) env)).any (·.1)=false:=by
  rw [h]
  exact k
theorem st_C {c:Const} {k:Nat}:starEach (.Constant c k pos::es) env=(false,eval (.Constant c k pos) env)::starEach es env:=by rfl
theorem st_N {x:Str}:starEach (.Name x pos::es) env=(false,eval (.Name x pos) env)::starEach es env:=by rfl
theorem st_B {a b:Expr} {op:Operator}:starEach (.BinOp a op b pos::es) env=(false,eval (.BinOp a op b pos) env)::starEach es env:=by rfl
theorem st_S {a b:Expr}:starEach (.Subscript a b pos::es) env=(false,eval (.Subscript a b pos) env)::starEach es env:=by rfl
theorem st_K {f:Expr} {as:List Expr} {kw:List Keyword}:starEach (.Call f as kw pos::es) env=(false,eval (.Call f as kw pos) env)::starEach es env:=by rfl
theorem st_L {as:List Expr}:starEach (.List as pos::es) env=(false,eval (.List as pos) env)::starEach es env:=by rfl
theorem st_U {a:Expr} {op:UnaryOp}:starEach (.UnaryOp op a pos::es) env=(false,eval (.UnaryOp op a pos) env)::starEach es env:=by rfl
theorem st_G {e:Expr} {gs:List Comprehension} {sc:Scope}:starEach (.ListComp e gs sc pos::es) env=(false,eval (.ListComp e gs sc pos) env)::starEach es env:=by rfl
end

section
variable {tg:Option Expr} {l:Nat} {env:Env} {pos:Pos}
theorem sw_C {c:Const} {k:Nat}:swapsWith (.Constant c k pos) tg l env=pure false:=by rfl
theorem sw_N {x:Str}:swapsWith (.Name x pos) tg l env=pure false:=by rfl
theorem sw_B {a b:Expr} {op:Operator}:swapsWith (.BinOp a op b pos) tg l env=pure false:=by rfl
theorem sw_S {a b:Expr}:swapsWith (.Subscript a b pos) tg l env=pure false:=by rfl
theorem sw_K {f:Expr} {as:List Expr} {kw:List Keyword}:swapsWith (.Call f as kw pos) tg l env=pure false:=by rfl
theorem sw_L {as:List Expr}:swapsWith (.List as pos) tg l env=pure false:=by rfl
theorem sw_Q {a:Expr} {ops:List CmpOp} {bs:List Expr}:swapsWith (.Compare a ops bs pos) tg l env=pure false:=by rfl
theorem sw_I {a b c:Expr}:swapsWith (.IfExp a b c pos) tg l env=pure false:=by rfl
end
structure Dn (P:Program) (w:World) (K:PySem.W.Frag) (mg:Str→Option Value) (base:Heap) (k:Nat) (x:Str) (ps:List Str) (sp:Sp):Prop where
  ex:∃(f:Addr) (fd:FuncData),FnOk P w K mg base CX0 k f fd ps sp∧mg x=some (.ref f)∧PySem.W.keepIn K (.ref f)=true∧Binds K fd ps []
section
variable {X:Cx} {k:Nat} {x:Str} {ps:List Str} {sp:Sp} {p pos:Pos} {e:Expr} {es:List Expr} {t:TA}
theorem pe_dn (D:Dn X.prog X.w X.K X.mg X.base k x ps sp) (hr:Room k X.A) (hg:Gl X x) (ha:PA X (e::es) t) (hdb:autoParam ((x==("__debug__":Str))=false) au1_._auto_1)
    (he:autoParam (starEach (e::es) X.env=(false,eval e X.env)::starEach es X.env) au0_._auto_1) (hpl:autoParam ((backTo pos (starEach es X.env)).any (·.1)=false) au0_._auto_1):PE X (.Call (.Name x p) (e::es) [] pos) (tCall sp [] E0 t):=by
  obtain ⟨f,fd,ok,hm,hk,hb⟩:=D.ex
  exact pe_call ok hr hg hm hk hb .nil pass0 ha hdb he hpl
end
theorem dn_mk {P:Program} {w:World} {K:PySem.W.Frag} {mg:Str→Option Value} {base:Heap} {k:Nat} {x qual:Str} {ps:List Str} {sp:Sp} {st:Stmt} {f:Addr} {fd:FuncData} (F:Fun K x qual st f fd) (ok:FnOk P w K mg base CX0 k f fd ps sp)
    (hm:mg x=some (.ref f)) (hb:Binds K fd ps []):Dn P w K mg base k x ps sp:=⟨f,fd,ok,hm,F.kp,hb⟩

section
variable {σ:L2.St} {H:Hp} {Q:VK} {D:Ends} {te ta tb:TE} {t u:TS} {c:TT} {B:Bool→Hp→Prop} {i:Nat} {v:V} {m n:Int} {K:PySem.W.Frag}
theorem r_seq (h:t { D with nx:=u D } σ H):tSeq t u D σ H:=h
theorem r_set (h:te σ H fun x H1=>D.nx (σ.set i (some x)) H1):tAsg te (gName i) D σ H:=h
theorem r_ret (h:te σ H D.rt):tRet te D σ H:=h
theorem r_drop (h:te σ H fun _ H1=>D.nx σ H1):tDrop te D σ H:=h
theorem r_if (h:c σ H fun b H1=>if b=true then t D σ H1 else u D σ H1):tIfS c t u D σ H:=h
theorem r_next (h:D.nx σ H):tNext D σ H:=h
theorem r_var (e:σ[i]?=some (some v)) (q:Q v H):tVar i σ H Q:=⟨v,e,q⟩
theorem r_c (q:Q v H):tC v σ H Q:=q
theorem r_op {r:R2} (h:ta σ H fun x H1=>tb σ H1 fun y H2=>r x y H2 Q):tOp r ta tb σ H Q:=h
theorem r_un {r:V→Hp→VK→Prop} (h:ta σ H fun x H1=>r x H1 Q):tUn r ta σ H Q:=h
theorem r_I0 {g:Int→Int→V} (q:Q (g m n) H):rI0 g (.int m) (.int n) H Q:=⟨m,n,rfl,rfl,q⟩
theorem r_I {C:Int→Int→Prop} {g:Int→Int→V} (hc:C m n) (q:Q (g m n) H):rI C g (.int m) (.int n) H Q:=⟨m,n,rfl,rfl,hc,q⟩
theorem r_U {g:Int→V} (q:Q (g m) H):rU g (.int m) H Q:=⟨m,rfl,q⟩
theorem r_test (h:te σ H fun x H'=>∃k,x=.bl k∧B k H'):tTest te σ H B:=h
theorem r_B (h:te σ H fun x H'=>∃k,x=.bl k∧B k H'):tB te σ H B:=h
theorem r_bl {b:Bool} {R:Bool→Prop} (h:R b):∃k,V.bl b=.bl k∧R k:=⟨b,rfl,h⟩
theorem r_cb {r:List V→Hp→VK→Prop} {ts:TA} (h:ts σ H fun vs H1=>r vs H1 Q):tCB r ts σ H Q:=h
theorem r_cons {ts:TA} {R:List V→Hp→Prop} (h:te σ H fun x H1=>ts σ H1 fun xs H2=>R (x::xs) H2):tCons te ts σ H R:=h
theorem r_nil {R:List V→Hp→Prop} (h:R [] H):tNil σ H R:=h
noncomputable def Nw (mk:List V→HO) (xs:List V) (H:Hp) (Q:VK):Prop:=xs.length≤sizeLine∧∀p,H p=none→Q (.ref p) (upd H p (mk xs))
theorem r_tup {ts:TA} (h:ts σ H fun xs H1=>Nw .tup xs H1 Q):tTup ts σ H Q:=h
theorem r_lst {ts:TA} (h:ts σ H fun xs H1=>Nw .lst xs H1 Q):tLst ts σ H Q:=h
theorem r_call {sp:Sp} {ts:TA} (h:ts σ H fun vs H1=>sp (vs++[]) H1 Q E0):tCall sp [] E0 ts σ H Q:=h
theorem r_not (h:c σ H fun b H1=>B (!b) H1):tNot c σ H B:=h
theorem r_and {d:TT} (h:c σ H fun b H1=>if b=true then d σ H1 B else B false H1):tAnd c d σ H B:=h
theorem r_or {d:TT} (h:c σ H fun b H1=>if b=true then B true H1 else d σ H1 B):tOr c d σ H B:=h
theorem r_andV (h:ta σ H fun x H1=>∃k,x=.bl k∧if k=true then tb σ H1 Q else Q (.bl false) H1):tAndV ta tb σ H Q:=h
theorem r_orV (h:ta σ H fun x H1=>∃k,x=.bl k∧if k=true then Q (.bl true) H1 else tb σ H1 Q):tOrV ta tb σ H Q:=h
theorem r_notV (h:ta σ H fun x H1=>∃k,x=.bl k∧Q (.bl (!k)) H1):tNotV ta σ H Q:=h
theorem r_ife (h:c σ H fun b H1=>if b=true then ta σ H1 Q else tb σ H1 Q):tIf c ta tb σ H Q:=h
theorem r_eq (hs:scal (.int m) (.int n)=true) (q:Q (.bl (decide (m=n))) H):rEq (.int m) (.int n) H Q:=⟨hs,by
  have e:decide (V.int m=V.int n)=decide (m=n):=by simp
  rw [e];exact q⟩
theorem r_ne (hs:scal (.int m) (.int n)=true) (q:Q (.bl (!decide (m=n))) H):rNe (.int m) (.int n) H Q:=⟨hs,by
  have e:decide (V.int m=V.int n)=decide (m=n):=by simp
  rw [e];exact q⟩
theorem at0 {x:V} {xs:List V}:atI (x::xs) 0=some x:=atI_nat (j:=0) rfl
theorem at1 {x y:V} {xs:List V}:atI (x::y::xs) 1=some y:=atI_nat (j:=1) rfl
theorem r_t0 {p:Addr} {x:V} {xs:List V} (h:H p=some (.tup (x::xs))) (q:Q x H):rIxT K (.ref p) (.int 0) H Q:=⟨p,_,0,x,rfl,rfl,SqT.of h,at0,q⟩
theorem r_t1 {p:Addr} {x y:V} {xs:List V} (h:H p=some (.tup (x::y::xs))) (q:Q y H):rIxT K (.ref p) (.int 1) H Q:=⟨p,_,1,y,rfl,rfl,SqT.of h,at1,q⟩
noncomputable def rLen (K:PySem.W.Frag):List V→Hp→VK→Prop:=fun xs H Q=>∃p ys,xs=[.ref p]∧(SqL K H p ys∨SqT K H p ys)∧Q (.int ys.length) H
theorem r_len {p:Addr} {ys:List V} (h:SqL K H p ys∨SqT K H p ys) (q:Q (.int ys.length) H):rLen K [.ref p] H Q:=⟨p,ys,rfl,h,q⟩
section
variable {X:Cx} (K:PySem.W.Frag)
theorem ixL (h:autoParam (X.K=K) au0_._auto_1):IxR X (rIxL K):=h▸ix_list
theorem ixT (h:autoParam (X.K=K) au0_._auto_1):IxR X (rIxT K):=h▸ix_tup
theorem slL (h:autoParam (X.K=K) au0_._auto_1):SlR X (rSlL K):=h▸sl_list
theorem lenC (h:autoParam (X.K=K) au0_._auto_1):CallR X (.builtin "len") (rLen K):=h▸call_len_seq
theorem isiC (h:autoParam (X.K=K) au0_._auto_1):CallR X (.builtin "isinstance") (rIsi K):=h▸call_isi
theorem pe_ty {X:Cx} {x:Str} {n:String} {pos:Pos} (hg:Gl X x) (hm:X.mg x=none) (hv:bootBuiltins x=some (.type n)) (hn:autoParam (x ≠ "__name__") au1_._auto_1) (hd:autoParam ((x==("__debug__":Str))=false) au1_._auto_1):PE X (.Name x pos) (tC (.ty n)):=
  pe_bltn hg hm hv (show RelV (.ty n) (.type n) from rfl) hn hd
theorem piL {tg l:Expr} {tl:TE} (hl:PE X l tl) (h:autoParam (X.K=K) au0_._auto_1):PI X tg l (iList K tl):=h▸pi_list hl
theorem piT {tg l:Expr} {tl:TE} (hl:PE X l tl) (h:autoParam (X.K=K) au0_._auto_1):PI X tg l (iTup K tl):=h▸pi_tup hl
theorem pgT {es:List Expr} {k:Nat} {t:TGs} {n:Nat} {pos:Pos} (hc:X.calm=true) (g:PGs X es t)
    (hn:autoParam ((assignEach es X.env).length=n) au0_._auto_1) (hst:autoParam ((assignEach es X.env).findIdx? (·.1)=none) au0_._auto_1) (h:autoParam (X.K=K) au0_._auto_1):PG X (.Tuple es k pos) (gTup K n t):=h▸pg_tup hc g hn hst
theorem appC {o e:Expr} {to te:TE} {apos cpos:Pos} (ho:PE X o to) (he:PE X e te) (h:autoParam (X.K=K) au0_._auto_1)
    (hbase:autoParam (attributeBase o "append" X.env (eval o X.env)=eval o X.env) au0_._auto_1)
    (hfew:autoParam (((backTo cpos (starEach (e::[]) X.env)).all (fun x=>!x.1)&&(backToKw cpos (keywordEach [] X.env)).all (fun x=>x.1.isSome)
      && decide ((e::([]:List Expr)).length+([]:List Keyword).length+(if ([]:List Keyword).isEmpty then 0 else 1)<30))=true) au0_._auto_1)
    (hline:autoParam ((apos.endLine==cpos.line)=true) au0_._auto_1) (hs:autoParam (starEach (e::[]) X.env=(false,eval e X.env)::starEach [] X.env) au0_._auto_1) (hplain:autoParam ((backTo cpos (starEach [] X.env)).any (·.1)=false) au0_._auto_1) :
    PE X (.Call (.Attribute o "append" apos) [e] [] cpos) (tBM K "list" rAppend to (tCons te tNil)):=
  h▸pe_bm PySem.F.plainAttrs_list PySem.F.slot_list_append PySem.F.type_list_append mt_append ho (pa_cons he pa_nil hs) hbase hfew hline hs hplain
end
theorem same_new {p:Addr} (h:H p=none) (o:HO):Same H (upd H p o):=fun b u q=>by rw [upd_ne (ne_of_none q h)];exact q
theorem r_new {xs:List V} {mk:List V→HO} (hl:xs.length≤1000) (h:∀p H1,Same H H1→H p=none→H1 p=some (mk xs)→Q (.ref p) H1):Nw mk xs H Q:=
  ⟨Nat.le_of_lt (small1000 hl),fun p hp=>h p _ (same_new hp _) hp upd_same⟩
theorem r_g {R:L2.St→Hp→Prop} (h:R (σ.set i (some v)) H):gName i v σ H R:=h
theorem r_l {p:Addr} {xs:List V} {j:Int} (h:H p=some (.lst xs)) (e:atI xs j=some v) (q:Q v H):rIxL K (.ref p) (.int j) H Q:=⟨p,_,j,v,rfl,rfl,SqL.of h,e,q⟩
theorem r_bm {T:String} {r:V→List V→Hp→VK→Prop} {ts:TA} (h:te σ H fun x H1=>tyV K T x H1∧ts σ H1 fun xs H2=>r x xs H2 Q):tBM K T r te ts σ H Q:=h
theorem r_app {p:Addr} {xs:List V} (h:H p=some (.lst xs)) (hl:xs.length<sizeLine) (q:Q .non (upd H p (.lst (xs++[v])))):rAppend (.ref p) [v] H Q:=⟨p,xs,v,rfl,rfl,h,hl,q⟩
theorem same_at {H1 H2:Hp} {p:Addr} {o:HO} (s:Same H1 H2) (n:H1 p=none):Same H1 (upd H2 p o):=fun b x e=>by rw [upd_ne (ne_of_none e n)];exact s b x e
theorem at_ints {xs:List Int} {j:Nat} {x k:Int} (h:xs[j]?=some x) (hk:k=(j:Int)):atI (xs.map V.int) k=some (.int x):=by
  subst hk
  exact atI_nat (by rw [List.getElem?_map,h];rfl)
theorem r_for {wi:TI} {g:TG} {tb:TS} (h:wi σ H fun J H1=>∃W:Nat→Nat→L2.St→Hp→Prop,(∃m,W 0 m σ H1)∧∀i m σ H,W i m σ H →
  (J.stop i H∧D.nx σ H)∨(J.go i H∧∃N:L2.St→Hp→Prop,(∀σ' H',N σ' H'→∃m',m'<m∧W (i+1) m' σ' H')∧∀x H',J.yld i H x H'→g x σ H' fun σ2 H2=>tb { D with nx:=N,ct:=N,bk:=D.nx } σ2 H2)):tFor wi g tb D σ H:=h
theorem r_iL {R:It→Hp→Prop} (h:te σ H fun x H1=>∃a,x=.ref a∧(∃xs,SqL K H1 a xs)∧R (Itl K a) H1):iList K te σ H R:=h
theorem r_isi {x:V} {ty:String} {tv:Value} {b:Bool} (h:TyOf K H x tv) (e:PySem.W.kitOne K tv (.type ty)=some b) (q:Q (.bl b) H):rIsi K [x,.ty ty] H Q:=⟨x,ty,tv,b,rfl,h,e,q⟩
end
end My

namespace My
open PySem PySem.Spec PyProof.Rows L2 Mth
section
variable {prog:Program} {w:World} {A:Around} {E:Value→Shared→Prop} {s:Shared}
end
section
variable {X:Cx} {pos:Pos}
end
section
variable {σ:L2.St} {H:Hp} {Q:VK} {a b:Bool} {K:PySem.W.Frag}
end
end My

namespace My
open PySem PySem.Spec PyProof.Rows L2 Mth
noncomputable def cxComp (X:Cx) (N':List Str) (scope:Scope) (cl:List (Str×Addr)) (C:Addr) (s0:Shared) (H0:Hp) (ex':List Addr) (pn':List (Addr×Obj)):Cx:=
  { X with N:=N',s₀:=s0,H₀:=H0,env:=compEnvC scope cl C X.env,outer:=X.stack,ex:=ex',fn:=fun _=>false,pn:=pn',xe:=fun _ _=>False }
noncomputable def capV (cap:List Nat) (σ:L2.St):L2.St:=cap.map fun j=>(σ[j]?).getD none
theorem un_but {fs ex:List Addr} {H H':Hp} {h h1 h2:Heap} (u:Un fs ex H H' h h1) (k:∀b,b<h.objs.size→h2.get? b=h1.get? b):Un fs ex H H' h h2:=
  ⟨fun b o e n hb hx=>(k b (Heap.lt_size e)).trans (u.keep b o e n hb hx),fun b o e n hb hx=>let ⟨sl,q⟩:=u.slot b o e n hb hx;⟨sl,(k b (Heap.lt_size e)).trans q⟩,u.free,
    fun b o e hx=>let ⟨o',q⟩:=u.there b o e hx;⟨o',(k b (Heap.lt_size e)).trans q⟩,u.tups,u.frzs,u.tbls⟩
theorem hok_but {P:Program} {w:World} {H:Hp} {h h':Heap} {C:Addr} (x:HOk P w H h) (n:H C=none) (k:∀b o,b≠C→h.get? b=some o→h'.get? b=some o):HOk P w H h':=fun b u e=>
  (x b u e).stay (fun c v hc q=>k c v (by
    rcases hc with z | z
    · rw [z];exact ne_of_none e n
    · exact ne_of_none z n) q) (fun _ q=>q) fun _ _ q=>q
theorem compLoop_gen {prog:Program} {w:World} {A:Around} {R:Result→Shared→Prop} {s:Shared} {elt iter tg:Expr} {ifs:List Expr} {scope:Scope} {pos:Pos} {it acc:Value} {env:Env} (I:Nat→Shared→Prop)
    (turn:∀n s,I n s→wpAny (model prog w) A (pyNext it) (fun r s₁=>match r with
      | none=>R (.ok .next) s₁
      | some v=>wpAny (model prog w) A (letOwnedTupleGo tg it v) (fun _ s₁'=>wpAny (model prog w) A (assign tg env v) (fun _ s₂=>
          wpAny (model prog w) A (forIn ifs true fun c r=>if r=true then do let ok ← isTrue c env (eval c env);pure (ForInStep.yield ok) else pure (ForInStep.yield r)) (fun ok s₃=>
            if ok=true then wpAny (model prog w) A (eval elt env) (fun x s₄=>
              wpAny (model prog w) A (call (.builtin "list.append") [acc,x]) (fun _ s₅=>∃m,m<n∧I m s₅) (notedBy (model prog w) A env fun e s'=>R (.error e) s') s₄) (notedBy (model prog w) A env fun e s'=>R (.error e) s') s₃
            else ∃m,m<n∧I m s₃) (notedBy (model prog w) A env fun e s'=>R (.error e) s') s₂) (notedBy (model prog w) A env fun e s'=>R (.error e) s') s₁') (notedBy (model prog w) A env fun e s'=>R (.error e) s') s₁) (notedBy (model prog w) A env fun e s'=>R (.error e) s') s)
    (n:Nat) (h:I n s):codeAny (model prog w) A (.compLoop (.ListComp elt [⟨tg,iter,ifs,0⟩] scope pos) 0 it acc env) R s:=by
  refine codeAny_loop rfl I (fun n s hI=>?_) n h
  show wpAny _ A ((compTurn (.ListComp elt [⟨tg,iter,ifs,0⟩] scope pos) 0 it acc env).onRaise (fun x=>do noteFrame x env;theTreesLotGoes x)) _ _ s
  refine wpAny_noted ?_
  rw [compTurn_list]
  refine wpAny_bind (wpAny_standAt (wpAny_bind (wpAny_mono (turn n s hI) (fun r s₁ h₁=>?_) fun _ _ h'=>h')))
  cases r with
  | none=>exact wpAny_pure h₁
  | some v=>
    refine wpAny_bind (wpAny_mono h₁ (fun _ s₂ h₂=>wpAny_bind (wpAny_mono h₂ (fun _ s₃ h₃=>wpAny_bind (wpAny_mono h₃ (fun ok s₄ h₄=>?_) fun _ _ h'=>h')) fun _ _ h'=>h')) fun _ _ h'=>h')
    cases ok with
    | false=>exact wpAny_pure ⟨rfl,h₄⟩
    | true=>
      exact wpAny_bind (wpAny_bind (wpAny_mono h₄ (fun x s₄ h₄=>wpAny_bind (wpAny_mono h₄ (fun _ s₅ h₅=>wpAny_pure (wpAny_pure ⟨rfl,h₅⟩)) fun _ _ h'=>h')) fun _ _ h'=>h'))
noncomputable def PTs (X:Cx) (ifs:List Expr) (t:TT):Prop:=
  ∀(pins:List (Addr×Obj)) (s:Shared) (σ:L2.St) (H:Hp) (Q:Bool→Hp→Prop),Inv X pins σ H s→t σ H Q →
    wpAny (model X.prog X.w) X.A (forIn ifs true fun c r=>if r=true then do let ok ← isTrue c X.env (eval c X.env);pure (ForInStep.yield ok) else pure (ForInStep.yield r)) (TP X pins σ Q) X.xe s
noncomputable def tYes:TT:=fun _ H B=>B true H
theorem pts_nil {X:Cx}:PTs X [] tYes:=fun _ _ _ H _ I h=>wpAny_tests_nil ⟨H,I,h⟩
noncomputable def CapOk (X:Cx) (scope:Scope) (cl:List (Str×Addr)):List Str→List Nat→Prop
  | [],[]=>True
  | y::ys,j::js=>(X.N[j]?=some y∧X.env.kindOf y=some .cell∧(relabel scope X.env).names.lookup y=some .cell∧cl.lookup y=X.env.cells.lookup y)∧CapOk X scope cl ys js
  | _,_=>False
theorem CapOk.len {X:Cx} {scope:Scope} {cl:List (Str×Addr)}:∀{ys:List Str} {js:List Nat},CapOk X scope cl ys js→ys.length=js.length
  | [],[],_=>rfl
  | _::_,_::_,h=>congrArg (·+1) h.2.len
theorem CapOk.at {X:Cx} {scope:Scope} {cl:List (Str×Addr)}:∀{ys:List Str} {js:List Nat},CapOk X scope cl ys js→∀(i j:Nat) (y:Str),ys[i]?=some y→js[i]?=some j →
    X.N[j]?=some y∧X.env.kindOf y=some .cell∧(relabel scope X.env).names.lookup y=some .cell∧cl.lookup y=X.env.cells.lookup y
  | [],[],_,i,_,_,e,_=>by simp at e
  | _::_,_::_,h,0,j,y,e1,e2=>by
    simp at e1 e2
    subst e1 e2
    exact h.1
  | _::_,_::_,h,i+1,j,y,e1,e2=>h.2.at i j y (by simpa using e1) (by simpa using e2)
noncomputable def tComp (wi:TI) (n:Nat) (cap:List Nat) (g:TG) (tt:TT) (te:TE):TE:=fun σ H Q=>wi σ H fun J H1=>∀D,H1 D=none→∃W:Nat→Nat→List V→Hp→Prop,(∃m,W 0 m [] (upd H1 D (.lst []))) ∧
  ∀i m xs H2,W i m xs H2→H2 D=some (.lst xs)∧((J.stop i H2∧Q (.ref D) H2)∨(J.go i H2∧xs.length<sizeLine∧∀x H3 σ0,σ0.length=n→J.yld i H2 x H3 →
    g x (σ0++capV cap σ) H3 fun σ2 H4=>(∃σ1,σ1.length=n∧σ2=σ1++capV cap σ)∧tt σ2 H4 fun b H5=>if b=true then te σ2 H5 fun y H6=>H6 D=some (.lst xs)∧∃m',m'<m∧W (i+1) m' (xs++[y]) (upd H6 D (.lst (xs++[y])))
      else ∃m',m'<m∧W (i+1) m' xs H5))
section
variable {X:Cx} {elt iter tg:Expr} {ifs:List Expr} {pos:Pos} {scope:Scope} {cl:List (Str×Addr)} {wi:TI} {te:TE} {tt:TT} {g:TG} {O N':List Str} {cap:List Nat} {n:Nat}
theorem inv_but {pins:List (Addr×Obj)} {σ:L2.St} {H:Hp} {s:Shared} {C:Addr} {h':Heap} (I:L2.Inv X pins σ H s) (hC:FpOk X pins H C) (sb:Heap.SameBut C s.heap h'):L2.Inv X pins σ H { s with heap:=h' }:=by
  have k:∀b o,s.heap.get? b=some o→b∉[C]→h'.get? b=some o:=fun b o e hb=>(sb.2 b (fun z=>hb (by rw [z];exact List.mem_singleton.mpr rfl))).trans e
  refine I.call' (s':={ s with heap:=h' }) (ch:=[C]) rfl ⟨fun b o e _ _ hb=>k b o e hb,fun b o e _ _ hb=>⟨o.slots,k b o e hb⟩,fun b o _ n _=>n,fun b o e hb=>⟨o,k b o e hb⟩,fun _ _ q=>q,fun _ _ _ q=>q,fun _ ps q=>⟨#[],by simpa using q⟩⟩
    (hok_but I.hok hC.1 fun b o hb e=>(sb.2 b hb).trans e) I.bare fun b hb=>?_
  obtain rfl:b=C:=List.mem_singleton.mp hb
  exact ⟨hC.2.2.2.1,hC.2.1,hC.2.2.2.2.1,hC.2.2.2.2.2⟩
theorem comp_gen {pins:List (Addr×Obj)} {s:Shared} {σ:L2.St} {H:Hp} {Q:VK} {cpos:Pos} (use:Option (Value→Sem Unit)) (Q':Value→Shared→Prop) (hc:X.calm=true) (hi:PI X tg iter wi)
    (hg:∀(C:Addr) (s0:Shared) (H0:Hp) (ex':List Addr) (pn':List (Addr×Obj)),PG (cxComp X (O++N') scope cl C s0 H0 ex' pn') tg g)
    (htt:∀(C:Addr) (s0:Shared) (H0:Hp) (ex':List Addr) (pn':List (Addr×Obj)),PTs (cxComp X (O++N') scope cl C s0 H0 ex' pn') ifs tt)
    (helt:∀(C:Addr) (s0:Shared) (H0:Hp) (ex':List Addr) (pn':List (Addr×Obj)),PE (cxComp X (O++N') scope cl C s0 H0 ex' pn') elt te)
    (hO:O.length=n) (hcap:CapOk X scope cl N' cap)
    (hclos:closureFor scope X.env=pure cl) (hcell:∀y∈scope.names,y.2≠.cell) (hkind:scope.kind=.function) (hnames:∀y∈scope.names,y.2=.local→scope.names.lookup y.1=some .local)
    (hclx:∀y c,cl.lookup y=some c→X.env.cells.lookup y=some c) (hhas:∀y,((relabel scope X.env).names.lookup y=some .cell∨(relabel scope X.env).names.lookup y=some .free)→∃c,cl.lookup y=some c)
    (hs:∀z,foldedSetIterable iter X.env z=pure z)
    (I:L2.Inv X pins σ H s) (h:tComp wi n cap g tt te σ H Q)
    (fin:∀(D:Addr) (H5:Hp) (s6:Shared) (C:Addr),L2.Inv X pins σ H5 s6→FpOk X pins H5 C→(∃m,s6.heap.Ns C m)→Q (.ref D) H5→compPost (model X.prog X.w) X.A X.xe use Q' (.ref D) C (.ok .next) s6) :
    wpAny (model X.prog X.w) X.A (comprehension (.ListComp elt [⟨tg,iter,ifs,0⟩] scope pos) scope X.env cpos (newList []) false (eval iter X.env) use) Q' X.xe s:=by
  refine wpAny_comprehension_free (use:=use) rfl hs hclos hkind hnames (thn (hi pins s σ H _ I h) fun v s1 h1=>thn h1 fun itv s2 h2=>?_)
  obtain ⟨it,fp,tn,J,H2,e,I2,T,st2,f2,q2⟩:=h2
  subst e
  refine wpAny_newObj_type (wpAny_newFunctionEnv hcell (by intro y hy;simp at hy) (fun h₁ hns₁ hsb₁=>?_) hkind)
  dsimp only at hns₁ hsb₁ ⊢
  -- the list, then the block's own names
  have I3:Inv X pins σ (upd H2 s2.heap.objs.size (.lst [])) { s2 with heap:=s2.heap.push { cls:=.type "list",data:=.seq ([]:List Value).toArray },toks:=s2.toks }:=I2.lnew (its:=[]) (t':=s2.toks) .nil (Nat.zero_le _)
  generalize hH3:s2.heap.push { cls:=.type "list",dict:=none,data:=.seq ([]:List Value).toArray }=h3 at hns₁ hsb₁ I3 ⊢
  have q3:=q2 s2.heap.objs.size (I2.hok.fresh (Nat.le_refl _))
  generalize hD:s2.heap.objs.size=D at I3 q3 hns₁ hsb₁ ⊢
  obtain ⟨W,⟨m0,w0⟩,turn⟩:=q3
  have hC:∀b o,h3.get? b=some o→b≠h3.objs.size:=fun b o e=>Nat.ne_of_lt (Heap.lt_size e)
  have old:∀b o,h3.get? b=some o→h₁.get? b=some o:=fun b o e=>hsb₁.extBut b o (hC b o e) (Heap.get?_push_of_some _ e)
  have fpThere:∀b∈fp,∃o,h3.get? b=some o:=fun b hb=>by
    obtain ⟨o,e,_⟩:=T.obj _ _ st2 b hb
    exact ⟨o,by rw [← hH3];exact Heap.get?_push_of_some _ e⟩
  have fp3:∀b∈fp,upd H2 D (.lst []) b=none:=fun b hb=>by
    have n:=(f2 b hb).1
    obtain ⟨o,e,_⟩:=T.obj _ _ st2 b hb
    rw [upd_ne (by rw [← hD];exact Nat.ne_of_lt (Heap.lt_size e))]
    exact n
  have stk:∀b∈fp,b∉frs X.stack:=fun b hb z=>by
    rcases List.mem_cons.mp (I3.stkSub b z) with e | e
    · exact (f2 b hb).2.1 e
    · exact (f2 b hb).2.2.1 e
  have ok:(cxComp X (O++N') scope cl h3.objs.size { s2 with heap:=h3,toks:=s2.toks } (upd H2 D (.lst [])) fp (X.pn++pins)).Ok:=
    ⟨I.ok.mod,hkind,I.ok.glob,I.ok.blt,Nat.le_refl _,fun y z c a b=>I.ok.inj y z c (hclx y c a) (hclx z c b),hhas,fun _ _ z=>absurd z Bool.false_ne_true,I.ok.hd,I.ok.frames,.inl rfl,
      fun b hb=>⟨by obtain ⟨o,e⟩:=fpThere b hb;exact hC b o e,fun y c a=>(f2 b hb).2.2.2.2.1 y c (hclx y c a)⟩,I3.bs,Nat.le_trans I3.ok.bsz I3.sz,
      fun b o e hb=>by
        rcases (f2 b hb).2.2.2.1 with z | z
        · exact I.ok.noex b o e z
        · exact absurd (Nat.lt_of_lt_of_le (Heap.lt_size (I.ok.bs b o e).1) z) (Nat.lt_irrefl _),
      stk,I3.stack,I3.stkFree⟩
  have I4:Inv (cxComp X (O++N') scope cl h3.objs.size { s2 with heap:=h3,toks:=s2.toks } (upd H2 D (.lst [])) fp (X.pn++pins)) [] (List.replicate n none++capV cap σ) (upd H2 D (.lst [])) { s2 with heap:=h₁,toks:=s2.toks+([]:List (Str×Value)).length }:=by
    refine ⟨ok,rfl,I3.bare,Un.kept old,⟨_,hns₁,fun i y v e1 e2 e3=>?_⟩,fun y c a=>?_,I3.hok.fresh (Nat.le_refl _),fun y c a=>I3.freeC y c (hclx y c a),fun p hp=>?_,I3.hok.kept old,?_⟩
    · by_cases hin:i<n
      · rw [List.getElem?_append_left (by rw [List.length_replicate];exact hin),List.getElem?_replicate,if_pos hin] at e2
        cases e2
      · have e1':N'[i-n]?=some y:=by
          have z:(O++N')[i]?=some y:=e1
          rw [List.getElem?_append_right (by (first | lia | omega)),hO] at z
          exact z
        have hi':i-n<cap.length:=by rw [← hcap.len];exact (List.getElem?_eq_some_iff.mp e1').1
        obtain ⟨j,ej⟩:∃j,cap[i-n]?=some j:=⟨_,List.getElem?_eq_getElem hi'⟩
        obtain ⟨a1,a2,a3,a4⟩:=hcap.at (i-n) j y e1' ej
        have e2':σ[j]?=some (some v):=by
          have z:(capV cap σ)[i-n]?=some (some v):=by
            rw [List.getElem?_append_right (by rw [List.length_replicate];(first | lia | omega)),List.length_replicate] at e2
            exact e2
          unfold capV at z
          rw [List.getElem?_map,ej] at z
          have z2:(σ[j]?).getD none=some v:=by simpa using z
          cases q:σ[j]? with
          | none=>rw [q] at z2;cases z2
          | some o=>rw [q] at z2;exact congrArg some z2
        obtain ⟨m,hn,hl⟩:=I3.loc
        obtain ⟨u,r,l⟩:=hl j y v a1 e2' (.inr (.inl a2))
        refine ⟨u,r,.inr ⟨.inl a3,?_⟩⟩
        rcases l with ⟨k,_⟩ | ⟨_,c,ec,o,ho,hd⟩
        · rw [a2] at k;cases k
        · exact ⟨c,a4.trans ec,o,old c o ho,hd⟩
    · obtain ⟨v,o,ho,hd⟩:=I3.cell y c (hclx y c a)
      exact ⟨v,o,old c o ho,hd⟩
    · have hp':p∈X.pn++pins:=by simpa [cxComp] using hp
      obtain ⟨e,n,ne,nf,d⟩:=I3.pin p hp'
      refine ⟨old _ _ e,n,hC _ _ e,fun z=>?_,d⟩
      rcases List.mem_cons.mp (I3.stkSub p.1 z) with e | e
      · exact ne e
      · exact nf e
    · show (List.replicate n none++capV cap σ).length=(O++N').length
      unfold capV
      rw [List.length_append,List.length_append,List.length_replicate,List.length_map,hcap.len,hO]
  have loop:codeAny (model X.prog X.w) X.A (.compLoop (.ListComp elt [⟨tg,iter,ifs,0⟩] scope pos) 0 (.ref it) (.ref D) (compEnvC scope cl h3.objs.size X.env))
      (compPost (model X.prog X.w) X.A X.xe use Q' (.ref D) h3.objs.size) { s2 with heap:=h₁,toks:=s2.toks+([]:List (Str×Value)).length }:=by
    have fpk:∀{H':Hp},(∀b∈fp,H' b=none)→∀b∈fp,FpOk (cxComp X (O++N') scope cl h3.objs.size { s2 with heap:=h3,toks:=s2.toks } (upd H2 D (.lst [])) fp (X.pn++pins)) [] H' b:=fun hn b hb=>by
      obtain ⟨o,e⟩:=fpThere b hb
      refine ⟨hn b hb,hC b o e,stk b hb,.inl hb,fun y c a=>(f2 b hb).2.2.2.2.1 y c (hclx y c a),fun p hp=>?_⟩
      have hp':p∈X.pn++pins:=by simpa [cxComp] using hp
      exact (f2 b hb).2.2.2.2.2 p hp'
    refine compLoop_gen (fun mm s'=>∃(i:Nat) (xs:List V) (H':Hp) (σ0:L2.St),σ0.length=n∧Inv (cxComp X (O++N') scope cl h3.objs.size { s2 with heap:=h3,toks:=s2.toks } (upd H2 D (.lst [])) fp (X.pn++pins)) [] (σ0++capV cap σ) H' s'∧tn i s'.heap∧(∀b∈fp,H' b=none)∧W i mm xs H') ?_ m0
      ⟨0,[],_,List.replicate n none,List.length_replicate,I4,T.keep _ _ _ st2 fun b hb o e=>old b o (by rw [← hH3];exact Heap.get?_push_of_some _ e),fp3,w0⟩
    rintro mm s5 ⟨i,xs,H5,σ0,hσ0,I5,st5,fr5,w5⟩
    obtain ⟨e5,tw⟩:=turn i mm xs H5 w5
    rcases tw with ⟨stop,qn⟩ | ⟨go,hz,step⟩
    · refine thn (T.done (cxComp X (O++N') scope cl h3.objs.size { s2 with heap:=h3,toks:=s2.toks } (upd H2 D (.lst [])) fp (X.pn++pins)) rfl rfl rfl hc i [] s5 _ H5 _ I5 (fpk fr5) st5 stop) fun r s6 ⟨hr,I6⟩=>?_
      subst hr
      obtain ⟨m,hn,_⟩:=id I6.loc
      have J6:L2.Inv X pins σ H5 s6:=I3.call' (s':=s6) (ch:=fp) I6.os I6.base I6.hok I6.bare fun b hb=>by
        obtain ⟨_,g1,_,g3,g4,g5⟩:=f2 b hb
        exact ⟨g3,g1,g4,g5⟩
      exact fin D H5 s6 _ J6 (I3.fpOk (Nat.le_refl _) I6.free) ⟨m,hn⟩ qn
    · refine thn (T.item (cxComp X (O++N') scope cl h3.objs.size { s2 with heap:=h3,toks:=s2.toks } (upd H2 D (.lst [])) fp (X.pn++pins)) rfl rfl rfl hc i [] s5 _ H5 _ I5 (fpk fr5) st5 go) fun r s6 ⟨u,hr,h6⟩=>?_
      subst hr
      refine thn h6 fun _ s7 ⟨xv,H7,I7,r7,y7,st7,fr7⟩=>?_
      have I7':=I7.pinned (fpk fr7) (T.obj _ _ st7)
      refine wpAny_mono (hg _ _ _ _ _ _ s7 _ H7 xv u _ I7' r7 (step xv H7 σ0 hσ0 y7)) (fun _ s8 ⟨σ2,H8,I8,⟨σ1,hσ1,e2⟩,q8⟩=>?_) fun _ _ z=>z.elim
      refine wpAny_mono (htt _ _ _ _ _ _ s8 σ2 H8 _ I8 q8) (fun ok s9 ⟨H9,I9,q9⟩=>?_) fun _ _ z=>z.elim
      subst e2
      have keep:∀{s':Shared} {σ':L2.St} {H':Hp},Inv (cxComp X (O++N') scope cl h3.objs.size { s2 with heap:=h3,toks:=s2.toks } (upd H2 D (.lst [])) fp (X.pn++pins)) ([]++pinsAt fp s7.heap) σ' H' s'→tn (i+1) s'.heap∧∀b∈fp,H' b=none:=fun {s' σ' H'} J=>
        ⟨T.keep _ _ _ st7 fun b hb o e=>(J.pin (b,o) (List.mem_append_right _ (List.mem_append_right _ (mem_pinsAt hb e)))).1,fun b hb=>by
          obtain ⟨o,e,d⟩:=T.obj _ _ st7 b hb
          exact (J.pin (b,o) (List.mem_append_right _ (List.mem_append_right _ (mem_pinsAt hb e)))).2.1⟩
      cases ok with
      | false=>
        rw [if_neg Bool.false_ne_true] at q9 ⊢
        obtain ⟨m',hm,w9⟩:=q9
        exact ⟨m',hm,i+1,xs,H9,σ1,hσ1,I9.unpinned,(keep I9).1,(keep I9).2,w9⟩
      | true=>
        rw [if_pos rfl] at q9 ⊢
        refine wpAny_mono (helt _ _ _ _ _ _ s9 _ H9 _ I9 q9) (fun yv s10 ⟨y,H10,I10,r10,e10,m',hm,w10⟩=>?_) fun _ _ z=>z.elim
        refine wpAny_mono (mt_append (X:=cxComp X (O++N') scope cl h3.objs.size { s2 with heap:=h3,toks:=s2.toks } (upd H2 D (.lst [])) fp (X.pn++pins)) _ s10 _ H10 (.ref D) [y] (.ref D) [yv] (fun _ H'=>H'=upd H10 D (.lst (xs++[y]))) I10 rfl (.cons r10 .nil) ⟨D,xs,y,rfl,rfl,e10,hz,rfl⟩) (fun _ s11 ⟨_,H11,I11,_,e11⟩=>?_) fun _ _ z=>z.elim
        subst e11
        exact ⟨m',hm,i+1,xs++[y],_,σ1,hσ1,I11.unpinned,(keep I11).1,(keep I11).2,w10⟩
  exact codeAny_compStart_list loop (T.self _ 0 _ _ _ (T.keep _ _ _ st2 fun b hb o e=>old b o (by rw [← hH3];exact Heap.get?_push_of_some _ e)) loop)
theorem pe_comp (hc:X.calm=true) (hi:PI X tg iter wi)
    (hg:∀(C:Addr) (s0:Shared) (H0:Hp) (ex':List Addr) (pn':List (Addr×Obj)),PG (cxComp X (O++N') scope cl C s0 H0 ex' pn') tg g)
    (htt:∀(C:Addr) (s0:Shared) (H0:Hp) (ex':List Addr) (pn':List (Addr×Obj)),PTs (cxComp X (O++N') scope cl C s0 H0 ex' pn') ifs tt)
    (helt:∀(C:Addr) (s0:Shared) (H0:Hp) (ex':List Addr) (pn':List (Addr×Obj)),PE (cxComp X (O++N') scope cl C s0 H0 ex' pn') elt te)
    (hO:O.length=n) (hcap:CapOk X scope cl N' cap)
    (hclos:closureFor scope X.env=pure cl) (hcell:∀y∈scope.names,y.2≠.cell) (hkind:scope.kind=.function) (hnames:∀y∈scope.names,y.2=.local→scope.names.lookup y.1=some .local)
    (hclx:∀y c,cl.lookup y=some c→X.env.cells.lookup y=some c) (hhas:∀y,((relabel scope X.env).names.lookup y=some .cell∨(relabel scope X.env).names.lookup y=some .free)→∃c,cl.lookup y=some c)
    (hs:autoParam (∀z,foldedSetIterable iter X.env z=pure z) au2_._auto_1) :
    PE X (.ListComp elt [⟨tg,iter,ifs,0⟩] scope pos) (tComp wi n cap g tt te):=by
  intro pins s σ H Q I h
  rw [eval_ListComp]
  exact comp_gen none (EP X pins σ Q) hc hi hg htt helt hO hcap hclos hcell hkind hnames hclx hhas hs I h fun D H5 s6 C J fC ⟨m,hn⟩ q=>⟨m,hn,fun h' sb=>⟨.ref D,H5,inv_but J fC sb,rfl,q⟩⟩
theorem ps_comp {i:Nat} {x:Str} {pos' spos:Pos} (hN:X.N.Nodup) (hix:X.N[i]?=some x) (hx:Loc X.env.scope x) (hc:X.calm=true) (hi:PI X tg iter wi)
    (hg:∀(C:Addr) (s0:Shared) (H0:Hp) (ex':List Addr) (pn':List (Addr×Obj)),PG (cxComp X (O++N') scope cl C s0 H0 ex' pn') tg g)
    (htt:∀(C:Addr) (s0:Shared) (H0:Hp) (ex':List Addr) (pn':List (Addr×Obj)),PTs (cxComp X (O++N') scope cl C s0 H0 ex' pn') ifs tt)
    (helt:∀(C:Addr) (s0:Shared) (H0:Hp) (ex':List Addr) (pn':List (Addr×Obj)),PE (cxComp X (O++N') scope cl C s0 H0 ex' pn') elt te)
    (hO:O.length=n) (hcap:CapOk X scope cl N' cap)
    (hclos:closureFor scope X.env=pure cl) (hcell:∀y∈scope.names,y.2≠.cell) (hkind:scope.kind=.function) (hnames:∀y∈scope.names,y.2=.local→scope.names.lookup y.1=some .local)
    (hclx:∀y c,cl.lookup y=some c→X.env.cells.lookup y=some c) (hhas:∀y,((relabel scope X.env).names.lookup y=some .cell∨(relabel scope X.env).names.lookup y=some .free)→∃c,cl.lookup y=some c)
    (hsw:swapsWith (.ListComp elt [⟨tg,iter,ifs,0⟩] scope pos) (some (.Name x pos')) spos.line X.env=pure true)
    (hs:autoParam (∀z,foldedSetIterable iter X.env z=pure z) au2_._auto_1) (hf:X.fn x=true∨X.env.scope.names.lookup x=some .local:=by first | exact .inl rfl | exact .inr rfl | assumption) :
    PS X (.Assign [.Name x pos'] (.ListComp elt [⟨tg,iter,ifs,0⟩] scope pos) spos) (tAsg (tComp wi n cap g tt te) (gName i)):=by
  intro pins s σ H D I h
  rw [exec_Assign_Name_used _ _ _ _ hsw]
  refine wpAny_bind (wpAny_standAt (wpAny_bind ?_))
  show wpAny _ _ (comprehension (.ListComp elt [⟨tg,iter,ifs,0⟩] scope pos) scope X.env _ (newList []) false (eval iter X.env) (some (assign (.Name x pos') X.env)) >>= fun _=>pure ()) _ _ s
  refine wpAny_bind (comp_gen (some (assign (.Name x pos') X.env)) (fun _ s'=>wpAny _ _ (pure ()) _ _ s') hc hi hg htt helt hO hcap hclos hcell hkind hnames hclx hhas hs I h fun Dl H5 s6 C J fC ⟨m,hn⟩ q=>?_)
  refine wpAny_assign_Name (store_ok2 J hN hix hx (show RelV (.ref Dl) (.ref Dl) from rfl) (fun s7 I7 ⟨a,sb,ha⟩=>⟨m,hn.sameBut sb ?_,fun h' sb'=>wpAny_pure (wpAny_pure ⟨_,H5,inv_but I7 fC sb',q⟩)⟩) hf)
  rcases ha with rfl | e
  · exact fC.2.1
  · exact fun z=>fC.2.2.2.2.1 x a e z.symm
end
end My

namespace My
open PySem PySem.Spec PyProof.Rows L2 Mth
section
variable {X:Cx} {x:Str} {n:Int} {pos apos cpos:Pos} {o:Expr} {to:TE}
end
section
variable {σ:L2.St} {H:Hp} {Q:VK} {m n:Int} {K:PySem.W.Frag} {X:Cx}
theorem r_cat {p r:Addr} {xs ys:List V} (hp:H p=some (.lst xs)) (hr:H r=some (.lst ys)) (h:Nw .lst (xs++ys) H Q):rCat (.ref p) (.ref r) H Q:=⟨p,r,_,_,rfl,rfl,hp,hr,by have:=h.1;rw [List.length_append] at this;exact this,h.2⟩
theorem r_rep {p:Addr} {xs:List V} {k:Int} (hp:H p=some (.lst xs)) (h1:-(2 ^ 63)≤k) (h2:k<2 ^ 63) (h:Nw .lst (List.replicate k.toNat xs).flatten H Q):rRep (.ref p) (.int k) H Q:=
  ⟨p,k,xs,rfl,rfl,hp,h1,h2,by have:=h.1;rw [len_rep] at this;rw [Nat.mul_comm];exact this,h.2⟩
end
section
variable {σ:L2.St} {H:Hp} {to ti:TE} {ts:TSet} {R:L2.St→Hp→Prop} {v:V}
theorem r_asg {te:TE} {g:TG} {D:Ends} (h:te σ H fun x H1=>g x σ H1 D.nx):tAsg te g D σ H:=h
theorem r_gsub (h:to σ H fun o H1=>ti σ H1 fun i H2=>ts o i v H2 fun H3=>R σ H3):gSub to ti ts v σ H R:=h
theorem r_setL {p:Addr} {xs:List V} {k:Int} {j:Nat} {Q:Hp→Prop} (h:H p=some (.lst xs)) (e:ixN xs.length k=some j) (q:Q (upd H p (.lst (xs.set j v)))):rSetL (.ref p) (.int k) v H Q:=⟨p,xs,k,j,rfl,rfl,h,e,q⟩
end
end My

namespace Jd
open PySem PySem.Spec PyProof.Rows L2 My
structure QE (X:Cx) (e:Expr) (t:TE):Prop where
  h:PE X e t
structure QT (X:Cx) (e:Expr) (t:TT):Prop where
  h:PT X e t
structure QW (X:Cx) (e:Expr) (t:TT):Prop where
  h:PW X e t
structure QA (X:Cx) (es:List Expr) (t:TA):Prop where
  h:PA X es t
structure QS (X:Cx) (st:Stmt) (t:TS):Prop where
  h:PS X st t
structure QSs (X:Cx) (st:List Stmt) (t:TS):Prop where
  h:PSs X st t
structure QG (X:Cx) (e:Expr) (t:TG):Prop where
  h:PG X e t
structure QGs (X:Cx) (es:List Expr) (t:TGs):Prop where
  h:PGs X es t
structure QI (X:Cx) (tg e:Expr) (t:TI):Prop where
  h:PI X tg e t
structure QO (X:Cx) (e:Option Expr) (t:TO):Prop where
  h:PO X e t
section
variable {X:Cx} {e a b c o:Expr} {es:List Expr} {te ta tb tc to:TE} {t:TA} {pos p p2 apos cpos:Pos} {x:Str} {tA tB':TT} {st:Stmt} {sts rest:List Stmt} {s1 s2:TS} {K:PySem.W.Frag}
theorem go {body:List Stmt} {D:Ends} {σ:L2.St} {H:Hp} (h:∃t,QSs X body t∧t D σ H):∃t,PSs X body t∧t D σ H:=let ⟨t,h,k⟩:=h;⟨t,h.h,k⟩
theorem cut {body:List Stmt} {D:Ends} {σ:L2.St} {H:Hp} (n:Nat) (Pv:L2.St→Hp→Prop) (tail:∃t,QSs X (body.drop n) t∧∀σ H,Pv σ H→t D σ H)
    (main:∀u,QSs X (body.drop n) u→(∀σ H,Pv σ H→u D σ H)→∃t,QSs X body t∧t D σ H):∃t,QSs X body t∧t D σ H:=
  let ⟨u,h1,h2⟩:=tail
  main u h1 h2
theorem pv (i:Nat) (hN:autoParam (X.N[i]?=some x) au0_._auto_1) (hv:Vis X.env.scope x:=by first | exact Or.inl rfl | exact Or.inr (Or.inl rfl) | exact Or.inr (Or.inr rfl)) (hd:autoParam ((x==("__debug__":Str))=false) au1_._auto_1)
    (hcd:autoParam ((x==("__classdict__":Str))=false) au1_._auto_1):QE X (.Name x pos) (tVar i):=⟨L2.pv i hN hv hd hcd⟩
theorem pe_int {i j}:QE X (.Constant (.int i) j pos) (tC (.int i)):=⟨L2.pe_int⟩
theorem pe_bl {i j}:QE X (.Constant (.bool i) j pos) (tC (.bl i)):=⟨L2.pe_bl⟩
theorem pe_non {j}:QE X (.Constant .none j pos) (tC .non):=⟨L2.pe_non⟩
theorem pe_str {i j}:QE X (.Constant (.str i) j pos) (tC (.str i)):=⟨L2.pe_str⟩
theorem pe_ty {n:String} (hg:Gl X x) (hm:X.mg x=none) (hv:bootBuiltins x=some (.type n)) (hn:autoParam (x ≠ "__name__") au1_._auto_1) (hd:autoParam ((x==("__debug__":Str))=false) au1_._auto_1):QE X (.Name x pos) (tC (.ty n)):=⟨My.pe_ty hg hm hv hn hd⟩
theorem pe_op {op:Operator} {r:R2} (ho:OpR X (binaryOp op) r) (ha:QE X a ta) (hb:QE X b tb):QE X (.BinOp a op b pos) (tOp r ta tb):=⟨L2.pe_op ho ha.h hb.h⟩
theorem pe_un {op:UnaryOp} {r:V→Hp→VK→Prop} (ho:UnR X (unaryOp op) r) (ha:QE X a ta):QE X (.UnaryOp op a pos) (tUn r ta):=⟨L2.pe_un ho ha.h⟩
theorem pe_not (ha:QE X a ta):QE X (.UnaryOp .Not a pos) (tNotV ta):=⟨L2.pe_not ha.h⟩
theorem pe_cmpR {op:CmpOp} {r:R2} (ho:OpR X (compareOp op) r) (ha:QE X a ta) (hb:QE X b tb) (hm:behindInMarks op b=false):QE X (.Compare a [op] [b] pos) (tOp r ta tb):=⟨L2.pe_cmpR ho ha.h hb.h hm⟩
theorem pt_cmpR {op:CmpOp} {r:R2} (ho:OpR X (compareOp op) r) (ha:QE X a ta) (hb:QE X b tb) (hm:behindInMarks op b=false):QT X (.Compare a [op] [b] pos) (tTest (tOp r ta tb)):=⟨L2.pt_cmpR ho ha.h hb.h hm⟩
theorem pt_not (ha:QT X a tA):QT X (.UnaryOp .Not a pos) (tNot tA):=⟨L2.pt_not ha.h⟩
theorem pt_val (h:QE X e te) (he:autoParam (∀whole,isTrue e X.env whole=(do let v ← whole;standAt e.pos;holding [v] (truthy v))) au2_._auto_1):QT X e (tB te):=⟨L2.pt_val h.h he⟩
theorem PWpt (h:QW X e tA):QT X e tA:=⟨h.h.pt⟩
theorem pw_and1 (ha:QT X a tA):QW X (.BoolOp .And [a] pos) tA:=⟨L2.pw_and1 ha.h⟩
theorem pw_or1 (ha:QT X a tA):QW X (.BoolOp .Or [a] pos) tA:=⟨L2.pw_or1 ha.h⟩
theorem pw_and (ha:QT X a tA) (hb:QW X (.BoolOp .And (b::es) pos) tB'):QW X (.BoolOp .And (a::b::es) pos) (tAnd tA tB'):=⟨L2.pw_and ha.h hb.h⟩
theorem pw_or (ha:QT X a tA) (hb:QW X (.BoolOp .Or (b::es) pos) tB'):QW X (.BoolOp .Or (a::b::es) pos) (tOr tA tB'):=⟨L2.pw_or ha.h hb.h⟩
theorem pe_one {op} (h:QE X a te):QE X (.BoolOp op [a] pos) te:=⟨L2.pe_one h.h⟩
theorem pe_and (ha:QE X a ta) (hb:QE X (.BoolOp .And (b::es) pos) tb):QE X (.BoolOp .And (a::b::es) pos) (tAndV ta tb):=⟨L2.pe_and ha.h hb.h⟩
theorem pe_or (ha:QE X a ta) (hb:QE X (.BoolOp .Or (b::es) pos) tb):QE X (.BoolOp .Or (a::b::es) pos) (tOrV ta tb):=⟨L2.pe_or ha.h hb.h⟩
theorem pe_ifExp (hc:QT X c tA) (ha:QE X a ta) (hb:QE X b tb):QE X (.IfExp c a b pos) (tIf tA ta tb):=⟨L2.pe_ifExp hc.h ha.h hb.h⟩
theorem pa_nil:QA X [] tNil:=⟨L2.pa_nil⟩
theorem pa_cons (ha:QE X e te) (hr:QA X es t) (hs:autoParam (starEach (e::es) X.env=(false,eval e X.env)::starEach es X.env) au0_._auto_1):QA X (e::es) (tCons te t):=⟨L2.pa_cons ha.h hr.h hs⟩
theorem pe_tup {k:Nat} (h:QA X es t):QE X (.Tuple es k pos) (tTup t):=⟨L2.pe_tup h.h⟩
theorem pe_lst (h:QA X es t):QE X (.List es pos) (tLst t):=⟨L2.pe_lst h.h⟩
theorem po_none:QO X none tNoPart:=⟨L2.po_none⟩
theorem po_some (h:QE X e te):QO X (some e) (tPart te):=⟨L2.po_some h.h⟩
theorem pe_slice {r:V→Option Int→Option Int→Hp→VK→Prop} {lo hi:Option Expr} {tl th:TO} (hr:SlR X r) (he:QE X e te) (hl:QO X lo tl) (hu:QO X hi th):QE X (.Subscript e (.Slice lo hi none p2) pos) (tSl r te tl th):=⟨L2.pe_slice hr he.h hl.h hu.h⟩
theorem pe_ix {r:R2} (hr:IxR X r) (ha:QE X a ta) (hb:QE X b tb) (hs:PlainIx b):QE X (.Subscript a b pos) (tOp r ta tb):=⟨L2.pe_ix hr ha.h hb.h hs⟩
theorem pe_callB {id:String} {r:List V→Hp→VK→Prop} (hc:CallR X (.builtin id) r) (hg:Gl X x) (hm:X.mg x=none) (hv:bootBuiltins x=some (.builtin id)) (ha:QA X (e::es) t) (hn:autoParam (x ≠ "__name__") au1_._auto_1) (hdb:autoParam ((x==("__debug__":Str))=false) au1_._auto_1)
    (he:autoParam (starEach (e::es) X.env=(false,eval e X.env)::starEach es X.env) au0_._auto_1) (hpl:autoParam ((backTo pos (starEach es X.env)).any (·.1)=false) au0_._auto_1):QE X (.Call (.Name x p) (e::es) [] pos) (tCB r t):=⟨L2.pe_callB hc hg hm hv ha.h hn hdb he hpl⟩
theorem pe_callTy {T:String} {r:List V→Hp→VK→Prop} (hc:CallR X (.type T) r) (hg:Gl X x) (hm:X.mg x=none) (hv:bootBuiltins x=some (.type T)) (ha:QA X (e::es) t) (hn:autoParam (x ≠ "__name__") au1_._auto_1) (hdb:autoParam ((x==("__debug__":Str))=false) au1_._auto_1)
    (he:autoParam (starEach (e::es) X.env=(false,eval e X.env)::starEach es X.env) au0_._auto_1) (hpl:autoParam ((backTo pos (starEach es X.env)).any (·.1)=false) au0_._auto_1):QE X (.Call (.Name x p) (e::es) [] pos) (tCB r t):=⟨L2.pe_callTy hc hg hm hv ha.h hn hdb he hpl⟩
theorem pe_dn {k:Nat} {ps:List Str} {sp:Sp} (D:Dn X.prog X.w X.K X.mg X.base k x ps sp) (hr:Room k X.A) (hg:Gl X x) (ha:QA X (e::es) t) (hdb:autoParam ((x==("__debug__":Str))=false) au1_._auto_1)
    (he:autoParam (starEach (e::es) X.env=(false,eval e X.env)::starEach es X.env) au0_._auto_1) (hpl:autoParam ((backTo pos (starEach es X.env)).any (·.1)=false) au0_._auto_1):QE X (.Call (.Name x p) (e::es) [] pos) (tCall sp [] E0 t):=⟨My.pe_dn D hr hg ha.h hdb he hpl⟩
theorem appC (K:PySem.W.Frag) (ho:QE X o to) (he:QE X e te) (h:autoParam (X.K=K) au0_._auto_1)
    (hbase:autoParam (attributeBase o "append" X.env (eval o X.env)=eval o X.env) au0_._auto_1)
    (hfew:autoParam (((backTo cpos (starEach (e::[]) X.env)).all (fun x=>!x.1)&&(backToKw cpos (keywordEach [] X.env)).all (fun x=>x.1.isSome)
      && decide ((e::([]:List Expr)).length+([]:List Keyword).length+(if ([]:List Keyword).isEmpty then 0 else 1)<30))=true) au0_._auto_1)
    (hline:autoParam ((apos.endLine==cpos.line)=true) au0_._auto_1) (hs:autoParam (starEach (e::[]) X.env=(false,eval e X.env)::starEach [] X.env) au0_._auto_1) (hplain:autoParam ((backTo cpos (starEach [] X.env)).any (·.1)=false) au0_._auto_1) :
    QE X (.Call (.Attribute o "append" apos) [e] [] cpos) (tBM K "list" rAppend to (tCons te tNil)):=⟨My.appC K ho.h he.h h hbase hfew hline hs hplain⟩
theorem pss_nil:QSs X [] tNext:=⟨L2.pss_nil⟩
theorem pss_cons (h1:QS X st s1) (h2:QSs X rest s2):QSs X (st::rest) (tSeq s1 s2):=⟨L2.pss_cons h1.h h2.h⟩
theorem pss_one (h1:QS X st s1):QSs X [st] s1:=⟨L2.pss_one h1.h⟩
theorem ps_never:QS X st tNever:=⟨L2.ps_never⟩
theorem ps_ret (he:QE X e te):QS X (.Return (some e) pos) (tRet te):=⟨L2.ps_ret he.h⟩
theorem ps_expr (he:QE X e te) (hs:autoParam (swapsWith e none pos.line X.env=pure false) au0_._auto_1):QS X (.Expr e pos) (tDrop te):=⟨L2.ps_expr he.h hs⟩
theorem ps_set {i:Nat} {pos':Pos} (hN:X.N.Nodup) (hi:X.N[i]?=some x) (hx:Loc X.env.scope x) (he:QE X e te) (hs:autoParam (swapsWith e (some (.Name x pos')) pos.line X.env=pure false) au0_._auto_1) (hf:X.fn x=true∨X.env.scope.names.lookup x=some .local:=by first | exact .inl rfl | exact .inr rfl | assumption) :
    QS X (.Assign [.Name x pos'] e pos) (tAsg te (gName i)):=⟨L2.ps_set hN hi hx he.h hs hf⟩
theorem ps_asg {tg:Expr} {g:TG} (he:QE X e te) (hg:QG X tg g) (hs:autoParam (swapsWithSole [tg] e pos.line X.env=pure false) au0_._auto_1) (hw:autoParam (swappedStores [tg] e X.env=pure none) au0_._auto_1)
    (h1:autoParam ((assignEach [tg] X.env).map (·.2)=[assign tg X.env]) au0_._auto_1):QS X (.Assign [tg] e pos) (tAsg te g):=⟨L2.ps_asg he.h hg.h hs hw h1⟩
theorem ps_if {ss ss':List Stmt} {tc:TT} (hc:QT X c tc) (ha:QSs X ss s1) (hb:QSs X ss' s2):QS X (.If c ss ss' pos) (tIfS tc s1 s2):=⟨L2.ps_if hc.h ha.h hb.h⟩
theorem ps_while {tc:TT} (hp:PassesOwn (model X.prog X.w) X.A X.env X.xe) (hc:QT X c tc) (hb:QSs X sts s1):QS X (.While c sts [] pos) (tWhile tc s1):=⟨L2.ps_while hp hc.h hb.h⟩
theorem ps_for {tg:Expr} {wi:TI} {g:TG} (hp:PassesOwn (model X.prog X.w) X.A X.env X.xe) (hc:X.calm=true) (hi:QI X tg e wi) (hg:QG X tg g) (hb:QSs X sts s1)
    (hs:autoParam (∀x,foldedSetIterable e X.env x=pure x) au2_._auto_1):QS X (.For tg e sts [] pos) (tFor wi g s1):=⟨L2.ps_for hp hc hi.h hg.h hb.h hs⟩
theorem pg_name {i:Nat} (hN:X.N.Nodup) (hi:X.N[i]?=some x) (hx:Loc X.env.scope x) (hf:X.fn x=true∨X.env.scope.names.lookup x=some .local:=by first | exact .inl rfl | exact .inr rfl | assumption):QG X (.Name x pos) (gName i):=⟨L2.pg_name hN hi hx hf⟩
theorem pgs_nil:QGs X [] gNil:=⟨L2.pgs_nil⟩
theorem pgs_cons {g:TG} {u:TGs} (h1:QG X e g) (h2:QGs X es u) (hs:autoParam ((assignEach (e::es) X.env).map (·.2)=assign e X.env::(assignEach es X.env).map (·.2)) au0_._auto_1):QGs X (e::es) (gCons g u):=⟨L2.pgs_cons h1.h h2.h hs⟩
theorem pgT (K:PySem.W.Frag) {k:Nat} {g:TGs} {n:Nat} (hc:X.calm=true) (h2:QGs X es g) (hn:autoParam ((assignEach es X.env).length=n) au0_._auto_1) (hst:autoParam ((assignEach es X.env).findIdx? (·.1)=none) au0_._auto_1) (h:autoParam (X.K=K) au0_._auto_1):QG X (.Tuple es k pos) (gTup K n g):=⟨My.pgT K hc h2.h hn hst h⟩
theorem piL (K:PySem.W.Frag) {tg:Expr} (hl:QE X e te) (h:autoParam (X.K=K) au0_._auto_1):QI X tg e (iList K te):=⟨My.piL K hl.h h⟩
theorem piT (K:PySem.W.Frag) {tg:Expr} (hl:QE X e te) (h:autoParam (X.K=K) au0_._auto_1):QI X tg e (iTup K te):=⟨My.piT K hl.h h⟩
theorem pi_range1 {tg:Expr} (hg:Gl X "range") (hm:X.mg "range"=none) (ha:QA X [a] t) (hs:autoParam (starEach [a] X.env=[(false,eval a X.env)]) au0_._auto_1):QI X tg (.Call (.Name "range" p) [a] [] pos) (iRng1 t):=⟨L2.pi_range1 hg hm ha.h hs⟩
end
end Jd

namespace Jd
open PySem PySem.Spec PyProof.Rows L2 My
section
variable {X:Cx} {x:Str} {n:Int} {pos apos cpos:Pos} {o:Expr} {to:TE}
theorem pg_sub {i:Expr} {ti:TE} {ts:TSet} (ho:QE X o to) (hi:QE X i ti) (hs:PSet X ts)
    (ha:autoParam (∀v,assign (.Subscript o i pos) X.env v=(holding [v] (eval o X.env) >>= fun ov=>holding [v,ov] (eval i X.env) >>= fun iv=>standAt pos >>= fun _=>holding [v,ov,iv] (setItem ov iv v) >>= fun _=>release [v,ov,iv] [])) au2_._auto_1) :
    QG X (.Subscript o i pos) (gSub to ti ts):=⟨L2.pg_sub ho.h hi.h hs ha⟩
end
end Jd

namespace My
open PySem PySem.Spec PyProof.Rows L2 Mth
noncomputable def closL (cells:List (Str×Addr)):List (Str×NameKind)→List (Str×Addr)→List (Str×Addr)
  | [],cs=>cs
  | (y,k)::r,cs=>closL cells r (if k=.free then ((cells.lookup y).map fun c=>(y,c)).toList++cs else cs)
noncomputable def freeHas (cells:List (Str×Addr)) (names:List (Str×NameKind)):Bool:=names.all fun p=>!(p.2==NameKind.free)||(cells.lookup p.1).isSome
theorem closure_go {env:Env}:∀(names:List (Str×NameKind)) (cs:List (Str×Addr)),freeHas env.cells names=true →
    (forIn (m:=Sem) names cs fun x r=>match x with | (name,kind)=>if (kind==NameKind.free)=true then do let a ← cellOf env name;pure (ForInStep.yield ((name,a)::r)) else pure (ForInStep.yield r))=pure (closL env.cells names cs)
  | [],cs,_=>rfl
  | (y,k)::r,cs,h=>by
    have h2:freeHas env.cells r=true:=by
      unfold freeHas at h ⊢
      rw [List.all_cons,Bool.and_eq_true] at h
      exact h.2
    rw [List.forIn_cons]
    by_cases hk:k=.free
    · subst hk
      have h1:(env.cells.lookup y).isSome=true:=by
        unfold freeHas at h
        rw [List.all_cons,Bool.and_eq_true] at h
        simpa using h.1
      obtain ⟨c,hc⟩:=Option.isSome_iff_exists.mp h1
      have ih:=closure_go r ((y,c)::cs) h2
      have e:cellOf env y=pure c:=by unfold cellOf;rw [hc]
      show (((if (NameKind.free==NameKind.free)=true then do let a ← cellOf env y;pure (ForInStep.yield ((y,a)::cs)) else pure (ForInStep.yield cs)):Sem _) >>= _)=_
      rw [if_pos (by rfl),e,pure_bind,pure_bind]
      show forIn (m:=Sem) r ((y,c)::cs) _=_
      rw [ih]
      show _=pure (closL env.cells r (if NameKind.free=.free then ((env.cells.lookup y).map fun c=>(y,c)).toList++cs else cs))
      rw [if_pos rfl,hc]
      rfl
    · have ih:=closure_go r cs h2
      have hk':(k==NameKind.free)=false:=by simpa using hk
      show (((if (k==NameKind.free)=true then do let a ← cellOf env y;pure (ForInStep.yield ((y,a)::cs)) else pure (ForInStep.yield cs)):Sem _) >>= _)=_
      rw [hk',if_neg Bool.false_ne_true,pure_bind]
      show forIn (m:=Sem) r cs _=_
      rw [ih]
      show _=pure (closL env.cells r (if k=.free then _ else cs))
      rw [if_neg hk]
theorem closure_of {scope:Scope} {env:Env} (h:freeHas env.cells scope.names=true):closureFor scope env=pure (closL env.cells scope.names []):=by
  have e:=closure_go (env:=env) scope.names [] h
  show (forIn (m:=Sem) scope.names [] _ >>= fun cs=>pure cs)=_
  exact (congrArg (· >>= fun cs=>pure cs) e).trans (pure_bind _ _)
theorem closL_mem {cells:List (Str×Addr)}:∀(names:List (Str×NameKind)) (cs:List (Str×Addr)) (p:Str×Addr),p∈closL cells names cs→p∈cs∨cells.lookup p.1=some p.2
  | [],_,_,h=>.inl h
  | (y,k)::r,cs,p,h=>by
    rcases closL_mem r _ p h with q | q
    · by_cases hk:k=.free
      · rw [if_pos hk] at q
        rcases List.mem_append.mp q with z | z
        · cases e:cells.lookup y with
          | none=>rw [e] at z;simp at z
          | some c=>rw [e] at z;simp at z;subst z;exact .inr e
        · exact .inl z
      · rw [if_neg hk] at q
        exact .inl q
    · exact .inr q
theorem closL_has {cells:List (Str×Addr)}:∀(names:List (Str×NameKind)) (cs:List (Str×Addr)) (y:Str) (c:Addr),((y,NameKind.free)∈names∧cells.lookup y=some c)∨(y,c)∈cs→(y,c)∈closL cells names cs
  | [],_,_,_,h=>h.elim (fun z=>by simp at z) id
  | (z,k)::r,cs,y,c,h=>by
    refine closL_has r _ y c ?_
    rcases h with ⟨m,e⟩ | m
    · rcases List.mem_cons.mp m with q | q
      · cases q
        right
        rw [if_pos rfl,e]
        simp
      · exact .inl ⟨q,e⟩
    · right
      by_cases hk:k=.free
      · rw [if_pos hk];exact List.mem_append_right _ m
      · rw [if_neg hk];exact m
theorem lookup_in {α:Type}:∀{l:List (Str×α)} {x:Str} {v:α},l.lookup x=some v→(x,v)∈l
  | (y,u)::r,x,v,h=>by
    rw [List.lookup_cons] at h
    cases e:x==y with
    | true=>
      rw [e] at h
      cases h
      have:x=y:=by simpa using e
      subst this
      exact List.mem_cons_self
    | false=>
      rw [e] at h
      exact List.mem_cons_of_mem _ (lookup_in h)
theorem lookup_ex {α:Type}:∀{l:List (Str×α)} {x:Str} {v:α},(x,v)∈l→∃u,l.lookup x=some u
  | (y,u)::r,x,v,h=>by
    rw [List.lookup_cons]
    cases e:x==y with
    | true=>exact ⟨_,rfl⟩
    | false=>
      rcases List.mem_cons.mp h with q | q
      · cases q;simp at e
      · exact lookup_ex q
theorem closL_look {cells:List (Str×Addr)} {names:List (Str×NameKind)} {y:Str} {c:Addr} (h:(closL cells names []).lookup y=some c):cells.lookup y=some c:=
  (closL_mem names [] (y,c) (lookup_in h)).elim (fun z=>by simp at z) id
theorem closL_some {cells:List (Str×Addr)} {names:List (Str×NameKind)} {y:Str} {c:Addr} (h:(y,NameKind.free)∈names) (e:cells.lookup y=some c):(closL cells names []).lookup y=some c:=by
  obtain ⟨u,q⟩:=lookup_ex (closL_has names [] y c (.inl ⟨h,e⟩))
  rw [q]
  rw [closL_look q] at e
  exact e
noncomputable def Caps (X:Cx) (scope:Scope):List Str→List Nat→Prop
  | [],[]=>True
  | y::ys,j::js=>(X.N[j]?=some y∧X.env.kindOf y=some .cell∧scope.names.lookup y=some .free∧(relabel scope X.env).names.lookup y=some .cell)∧Caps X scope ys js
  | _,_=>False
theorem free_cell {cells:List (Str×Addr)} {names:List (Str×NameKind)} {y:Str} (h:freeHas cells names=true) (m:(y,NameKind.free)∈names):∃c,cells.lookup y=some c:=by
  unfold freeHas at h
  have q:=List.all_eq_true.mp h _ m
  exact Option.isSome_iff_exists.mp (by simpa using q)
theorem Caps.ok {X:Cx} {scope:Scope} (h:freeHas X.env.cells scope.names=true):∀{ys:List Str} {js:List Nat},Caps X scope ys js→CapOk X scope (closL X.env.cells scope.names []) ys js
  | [],[],_=>trivial
  | y::ys,j::js,⟨⟨a,b,c,d⟩,r⟩=>by
    have m:=lookup_in c
    obtain ⟨e,he⟩:=free_cell h m
    exact ⟨⟨a,b,d,by rw [closL_some m he,he]⟩,Caps.ok h r⟩
theorem relabel_has {scope:Scope} {env:Env} (h:freeHas env.cells scope.names=true) (hcell:∀y∈scope.names,y.2≠.cell) (y:Str)
    (q:(relabel scope env).names.lookup y=some .cell∨(relabel scope env).names.lookup y=some .free):∃c,(closL env.cells scope.names []).lookup y=some c:=by
  have m:(y,NameKind.free)∈scope.names:=by
    rcases q with q | q
    all_goals
      have m:=lookup_in q
      unfold relabel at m
      obtain ⟨⟨n,k⟩,hm,e⟩:=List.mem_map.mp m
      dsimp only at e
      split at e
      · rename_i hc
        rw [Bool.and_eq_true,Bool.and_eq_true] at hc
        have hk:k=.free:=by simpa using hc.1.1
        subst hk
        cases e
        first | exact hm | done
      · cases e
        first | exact hm | exact absurd rfl (hcell _ hm)
  obtain ⟨c,hc⟩:=free_cell h m
  exact ⟨c,closL_some m hc⟩
section
variable {X:Cx} {elt iter tg:Expr} {ifs:List Expr} {pos:Pos} {scope:Scope} {wi:TI} {te:TE} {tt:TT} {g:TG} {O N':List Str} {cap:List Nat} {n:Nat}
theorem pe_compC (hc:X.calm=true) (hi:PI X tg iter wi)
    (hg:∀(C:Addr) (s0:Shared) (H0:Hp) (ex':List Addr) (pn':List (Addr×Obj)),PG (cxComp X (O++N') scope (closL X.env.cells scope.names []) C s0 H0 ex' pn') tg g)
    (htt:∀(C:Addr) (s0:Shared) (H0:Hp) (ex':List Addr) (pn':List (Addr×Obj)),PTs (cxComp X (O++N') scope (closL X.env.cells scope.names []) C s0 H0 ex' pn') ifs tt)
    (helt:∀(C:Addr) (s0:Shared) (H0:Hp) (ex':List Addr) (pn':List (Addr×Obj)),PE (cxComp X (O++N') scope (closL X.env.cells scope.names []) C s0 H0 ex' pn') elt te)
    (hO:O.length=n) (hcap:Caps X scope N' cap) (hf:freeHas X.env.cells scope.names=true) (hcell:∀y∈scope.names,y.2≠.cell) (hkind:scope.kind=.function) (hnames:∀y∈scope.names,y.2=.local→scope.names.lookup y.1=some .local)
    (hs:autoParam (∀z,foldedSetIterable iter X.env z=pure z) au2_._auto_1) :
    PE X (.ListComp elt [⟨tg,iter,ifs,0⟩] scope pos) (tComp wi n cap g tt te):=
  pe_comp hc hi hg htt helt hO (hcap.ok hf) (closure_of hf) hcell hkind hnames (fun _ _=>closL_look) (relabel_has hf hcell) hs
end
section
variable {X:Cx} {elt iter tg:Expr} {ifs:List Expr} {pos:Pos} {scope:Scope} {wi:TI} {te:TE} {tt:TT} {g:TG} {O N':List Str} {cap:List Nat} {n:Nat}
theorem ps_compC {i:Nat} {x:Str} {pos' spos:Pos} (hN:X.N.Nodup) (hix:X.N[i]?=some x) (hx:Loc X.env.scope x) (hc:X.calm=true) (hi:PI X tg iter wi)
    (hg:∀(C:Addr) (s0:Shared) (H0:Hp) (ex':List Addr) (pn':List (Addr×Obj)),PG (cxComp X (O++N') scope (closL X.env.cells scope.names []) C s0 H0 ex' pn') tg g)
    (htt:∀(C:Addr) (s0:Shared) (H0:Hp) (ex':List Addr) (pn':List (Addr×Obj)),PTs (cxComp X (O++N') scope (closL X.env.cells scope.names []) C s0 H0 ex' pn') ifs tt)
    (helt:∀(C:Addr) (s0:Shared) (H0:Hp) (ex':List Addr) (pn':List (Addr×Obj)),PE (cxComp X (O++N') scope (closL X.env.cells scope.names []) C s0 H0 ex' pn') elt te)
    (hO:O.length=n) (hcap:Caps X scope N' cap) (hf:freeHas X.env.cells scope.names=true) (hcell:∀y∈scope.names,y.2≠.cell) (hkind:scope.kind=.function) (hnames:∀y∈scope.names,y.2=.local→scope.names.lookup y.1=some .local)
    (hsw:swapsWith (.ListComp elt [⟨tg,iter,ifs,0⟩] scope pos) (some (.Name x pos')) spos.line X.env=pure true)
    (hs:autoParam (∀z,foldedSetIterable iter X.env z=pure z) au2_._auto_1) (hfn:X.fn x=true∨X.env.scope.names.lookup x=some .local:=by first | exact .inl rfl | exact .inr rfl | assumption) :
    PS X (.Assign [.Name x pos'] (.ListComp elt [⟨tg,iter,ifs,0⟩] scope pos) spos) (tAsg (tComp wi n cap g tt te) (gName i)):=
  ps_comp hN hix hx hc hi hg htt helt hO (hcap.ok hf) (closure_of hf) hcell hkind hnames (fun _ _=>closL_look) (relabel_has hf hcell) hsw hs hfn
end
noncomputable def rm (D:Addr) (H:Hp):Hp:=fun b=>if b=D then none else H b
theorem rm_at {D:Addr} {H:Hp} {b:Addr} (h:b≠D):rm D H b=H b:=if_neg h
theorem rm_same {D:Addr} {H:Hp}:Same (rm D H) H:=fun b o e=>by
  unfold rm at e
  by_cases h:b=D
  · rw [if_pos h] at e;cases e
  · rw [if_neg h] at e;exact e
theorem rm_rm {D:Addr} {H H':Hp} (s:Same H H'):Same (rm D H) (rm D H'):=fun b o e=>by
  unfold rm at e ⊢
  by_cases h:b=D
  · rw [if_pos h] at e;cases e
  · rw [if_neg h] at e ⊢;exact s b o e
theorem rm_upd {D:Addr} {H:Hp} {o:HO}:rm D (upd H D o)=rm D H:=by
  funext b
  unfold rm
  by_cases h:b=D
  · rw [if_pos h,if_pos h]
  · rw [if_neg h,if_neg h,upd_ne h]
theorem rm_tup {D p:Addr} {H:Hp} {xs ys:List V} (hD:H D=some (.lst ys)) (h:H p=some (.tup xs)):rm D H p=some (.tup xs):=by
  rw [rm_at (fun e=>by rw [e,hD] at h;cases h)];exact h
theorem ix_last {n m:Nat} (h:n=m+1):ixN n (-1)=some m:=by
  subst h
  unfold ixN
  rw [if_neg (by (first | lia | omega)),if_pos (by (first | lia | omega))]
  congr 1
  (first | lia | omega)
theorem ix_nat {n:Nat} {i:Int} (h0:0≤i) (h:i<(n:Int)):ixN n i=some i.toNat:=by
  unfold ixN
  rw [if_pos h0,if_pos h]
structure Tells (J:It) (ok:Hp→Prop) (xs:List V):Prop where
  go:∀i H,ok H→i<xs.length→J.go i H∧∀x H',J.yld i H x H'→H'=H∧xs[i]?=some x
  stop:∀H,ok H→J.stop xs.length H
theorem tells_list {K:PySem.W.Frag} {a:Addr} {xs:List V}:Tells (Itl K a) (fun H=>SqL K H a xs) xs:=
  ⟨fun i H h hi=>⟨⟨xs,xs[i],h,by simp [hi]⟩,fun x H' y=>⟨y.1,y.2 xs h⟩⟩,fun H h=>⟨xs,h,Nat.le_refl _⟩⟩
theorem tells_tup {K:PySem.W.Frag} {a:Addr} {xs:List V}:Tells (Itt K a) (fun H=>SqT K H a xs) xs:=
  ⟨fun i H h hi=>⟨⟨xs,xs[i],h,by simp [hi]⟩,fun x H' y=>⟨y.1,y.2 xs h⟩⟩,fun H h=>⟨xs,h,Nat.le_refl _⟩⟩
theorem tells_rng {lo:Int} {n:Nat}:Tells (Itr lo n) (fun _=>True) ((List.range n).map fun (i:Nat)=>V.int (lo+(i:Int))):=
  ⟨fun i H h hi=>⟨show i<n by simpa using hi,fun x H' y=>⟨y.1,by
    have hi':i<n:=by simpa using hi
    rw [List.getElem?_map,List.getElem?_range hi']
    exact congrArg some y.2.symm⟩⟩,fun H h=>by show n≤_;simp⟩
noncomputable def CompB (n:Nat) (cap:List Nat) (g:TG) (tt:TT) (te:TE) (σ:L2.St) (Q:VK) (J:It) (H1:Hp):Prop:=∀D,H1 D=none→∃W:Nat→Nat→List V→Hp→Prop,(∃m,W 0 m [] (upd H1 D (.lst []))) ∧
  ∀i m xs H2,W i m xs H2→H2 D=some (.lst xs)∧((J.stop i H2∧Q (.ref D) H2)∨(J.go i H2∧xs.length<sizeLine∧∀x H3 σ0,σ0.length=n→J.yld i H2 x H3 →
    g x (σ0++capV cap σ) H3 fun σ2 H4=>(∃σ1,σ1.length=n∧σ2=σ1++capV cap σ)∧tt σ2 H4 fun b H5=>if b=true then te σ2 H5 fun y H6=>H6 D=some (.lst xs)∧∃m',m'<m∧W (i+1) m' (xs++[y]) (upd H6 D (.lst (xs++[y])))
      else ∃m',m'<m∧W (i+1) m' xs H5))
section
variable {wi:TI} {n:Nat} {cap:List Nat} {g:TG} {tt:TT} {te:TE} {σ:L2.St} {H:Hp} {Q:VK} {K:PySem.W.Frag}
theorem r_comp (h:wi σ H fun J H1=>CompB n cap g tt te σ Q J H1):tComp wi n cap g tt te σ H Q:=h
theorem r_rng1 {ta:TA} {R:It→Hp→Prop} (h:ta σ H fun vs H1=>∃j:Int,vs=[.int j]∧-(2 ^ 62)≤j∧j<2 ^ 62∧R (Itr 0 j.toNat) H1):iRng1 ta σ H R:=h
theorem r_yes {B:Bool→Hp→Prop} (h:B true H):tYes σ H B:=h
theorem compB_of {J:It} {ok:Hp→Prop} {xs:List V} (T:Tells J ok xs) (hok:∀H2,Same H H2→ok H2) (hl:xs.length≤1000000) (P:Nat→List V→Hp→Prop) (h0:P 0 [] H)
    (step:∀(D:Addr) (i:Nat) (x:V) (ys:List V) (H2:Hp) (σ0:L2.St) (N:VK) (N0:Hp→Prop),σ0.length=n→H D=none→H2 D=some (.lst ys)→Same H H2→xs[i]?=some x→ys.length≤i→P i ys (rm D H2) →
      (∀y H6,Same H2 H6→P (i+1) (ys++[y]) (rm D H6)→N y H6)→(∀H5,Same H2 H5→P (i+1) ys (rm D H5)→N0 H5) →
      g x (σ0++capV cap σ) H2 fun σ2 H4=>(∃σ1,σ1.length=n∧σ2=σ1++capV cap σ)∧tt σ2 H4 fun b H5=>if b=true then te σ2 H5 N else N0 H5)
    (done:∀(D:Addr) (ys:List V) (H2:Hp),H D=none→H2 D=some (.lst ys)→Same H H2→ys.length≤xs.length→P xs.length ys (rm D H2)→Q (.ref D) H2):CompB n cap g tt te σ Q J H:=by
  intro D hD
  refine ⟨fun i m ys H2=>H2 D=some (.lst ys)∧Same H H2∧ys.length≤i∧i≤xs.length∧m=xs.length-i∧P i ys (rm D H2),⟨xs.length,upd_same,same_at (Same.refl _) hD,Nat.zero_le _,Nat.zero_le _,rfl,?_⟩,?_⟩
  · rw [rm_upd]
    have e:rm D H=H:=by
      funext b
      by_cases h:b=D
      · rw [h,hD];exact if_pos rfl
      · exact rm_at h
    rw [e];exact h0
  · rintro i m ys H2 ⟨e,s,hy,hi,rfl,p⟩
    refine ⟨e,?_⟩
    by_cases hlt:i<xs.length
    · obtain ⟨go,yld⟩:=T.go i H2 (hok H2 s) hlt
      refine .inr ⟨go,Nat.lt_of_le_of_lt (Nat.le_trans (Nat.le_trans hy hi) hl) (by decide),fun x H3 σ0 h0 y=>?_⟩
      obtain ⟨rfl,hx⟩:=yld x H3 y
      refine step D i x ys _ σ0 _ _ h0 hD e s hx hy p (fun y H6 s6 p6=>?_) fun H5 s5 p5=>?_
      · refine ⟨s6 _ _ e,xs.length-(i+1),by (first | lia | omega),upd_same,same_at (s.trans s6) hD,?_,by (first | lia | omega),rfl,?_⟩
        · rw [List.length_append,List.length_singleton];(first | lia | omega)
        · rw [rm_upd];exact p6
      · exact ⟨xs.length-(i+1),by (first | lia | omega),s5 _ _ e,s.trans s5,by (first | lia | omega),by (first | lia | omega),rfl,p5⟩
    · have ei:i=xs.length:=by (first | lia | omega)
      subst ei
      exact .inl ⟨T.stop H2 (hok H2 s),done D ys H2 hD e s hy p⟩
theorem r_own1 {x:V} {σ0:L2.St} {R:L2.St→Hp→Prop} (h0:σ0.length=1) (h:R (some x::capV cap σ) H):gName 0 x (σ0++capV cap σ) H fun σ2 H4=>(∃σ1,σ1.length=1∧σ2=σ1++capV cap σ)∧R σ2 H4:=by
  match σ0,h0 with
  | [v],_=>exact ⟨⟨[some x],rfl,rfl⟩,h⟩
end
end My
namespace Jd
open PySem PySem.Spec PyProof.Rows L2 My
structure QTs (X:Cx) (ifs:List Expr) (t:TT):Prop where
  h:PTs X ifs t
section
variable {X:Cx} {c elt iter tg:Expr} {ifs:List Expr} {pos:Pos} {scope:Scope} {wi:TI} {te:TE} {tt:TT} {g:TG} {O N':List Str} {cap:List Nat} {n:Nat}
theorem pts_nil:QTs X [] tYes:=⟨My.pts_nil⟩
theorem pe_comp (hc:X.calm=true) (hi:QI X tg iter wi)
    (hg:∀(C:Addr) (s0:Shared) (H0:Hp) (ex':List Addr) (pn':List (Addr×Obj)),QG (cxComp X (O++N') scope (closL X.env.cells scope.names []) C s0 H0 ex' pn') tg g)
    (htt:∀(C:Addr) (s0:Shared) (H0:Hp) (ex':List Addr) (pn':List (Addr×Obj)),QTs (cxComp X (O++N') scope (closL X.env.cells scope.names []) C s0 H0 ex' pn') ifs tt)
    (helt:∀(C:Addr) (s0:Shared) (H0:Hp) (ex':List Addr) (pn':List (Addr×Obj)),QE (cxComp X (O++N') scope (closL X.env.cells scope.names []) C s0 H0 ex' pn') elt te)
    (hO:O.length=n) (hcap:Caps X scope N' cap) (hf:freeHas X.env.cells scope.names=true) (hcell:∀y∈scope.names,y.2≠.cell) (hkind:scope.kind=.function) (hnames:∀y∈scope.names,y.2=.local→scope.names.lookup y.1=some .local)
    (hs:autoParam (∀z,foldedSetIterable iter X.env z=pure z) au2_._auto_1) :
    QE X (.ListComp elt [⟨tg,iter,ifs,0⟩] scope pos) (tComp wi n cap g tt te):=
  ⟨My.pe_compC hc hi.h (fun C s0 H0 ex' pn'=>(hg C s0 H0 ex' pn').h) (fun C s0 H0 ex' pn'=>(htt C s0 H0 ex' pn').h) (fun C s0 H0 ex' pn'=>(helt C s0 H0 ex' pn').h) hO hcap hf hcell hkind hnames hs⟩
theorem ps_comp {i:Nat} {x:Str} {pos' spos:Pos} (hN:X.N.Nodup) (hix:X.N[i]?=some x) (hx:Loc X.env.scope x) (hc:X.calm=true) (hi:QI X tg iter wi)
    (hg:∀(C:Addr) (s0:Shared) (H0:Hp) (ex':List Addr) (pn':List (Addr×Obj)),QG (cxComp X (O++N') scope (closL X.env.cells scope.names []) C s0 H0 ex' pn') tg g)
    (htt:∀(C:Addr) (s0:Shared) (H0:Hp) (ex':List Addr) (pn':List (Addr×Obj)),QTs (cxComp X (O++N') scope (closL X.env.cells scope.names []) C s0 H0 ex' pn') ifs tt)
    (helt:∀(C:Addr) (s0:Shared) (H0:Hp) (ex':List Addr) (pn':List (Addr×Obj)),QE (cxComp X (O++N') scope (closL X.env.cells scope.names []) C s0 H0 ex' pn') elt te)
    (hO:O.length=n) (hcap:Caps X scope N' cap) (hf:freeHas X.env.cells scope.names=true) (hcell:∀y∈scope.names,y.2≠.cell) (hkind:scope.kind=.function) (hnames:∀y∈scope.names,y.2=.local→scope.names.lookup y.1=some .local)
    (hsw:swapsWith (.ListComp elt [⟨tg,iter,ifs,0⟩] scope pos) (some (.Name x pos')) spos.line X.env=pure true)
    (hs:autoParam (∀z,foldedSetIterable iter X.env z=pure z) au2_._auto_1) (hfn:X.fn x=true∨X.env.scope.names.lookup x=some .local:=by first | exact .inl rfl | exact .inr rfl | assumption) :
    QS X (.Assign [.Name x pos'] (.ListComp elt [⟨tg,iter,ifs,0⟩] scope pos) spos) (tAsg (tComp wi n cap g tt te) (gName i)):=
  ⟨My.ps_compC hN hix hx hc hi.h (fun C s0 H0 ex' pn'=>(hg C s0 H0 ex' pn').h) (fun C s0 H0 ex' pn'=>(htt C s0 H0 ex' pn').h) (fun C s0 H0 ex' pn'=>(helt C s0 H0 ex' pn').h) hO hcap hf hcell hkind hnames hsw hs hfn⟩
end
end Jd

namespace My
open PySem PySem.Spec PyProof.Rows L2 Mth
section
variable {X:Cx} {e st:Expr} {te ts:TE} {pos p2:Pos}
end
section
variable {σ:L2.St} {H:Hp} {Q:VK} {K:PySem.W.Frag} {te ts:TE} {x z:V}
end
end My
namespace Jd
open PySem PySem.Spec PyProof.Rows L2 My
end Jd

namespace My
open PySem PySem.Spec PyProof.Rows L2 Mth
section
variable {X:Cx} {tg a:Expr} {ta:TA} {p pos:Pos}
end
end My
namespace Jd
open PySem PySem.Spec PyProof.Rows L2 My
end Jd

namespace My
open PySem PySem.Spec PyProof.Rows L2 Mth
noncomputable def Kp {α:Type}:Sem α→Prop
  | .pure _=>True
  | .raise _=>True
  | .unsupported _=>True
  | .finish _=>True
  | .rule _ k=>Kp (k ())
  | .at _ k=>Kp (k ())
  | .load _ _ k=>∀o,Kp (k o)
  | .update _ _ f k=>(∀o:Obj,(f o).dict=o.dict∧(o.isFreed=false→(f o).isFreed=false))∧Kp (k ())
  | .loadIfAlive _ k=>∀o,Kp (k o)
  | .point _ k=>Kp (k ())
  | .register _ _=>True
  | .alloc _ k=>∀a,Kp (k a)
  | .fresh k=>∀t,Kp (k t)
  | .ask k=>∀x,Kp (k x)
  | .stack k=>∀x,Kp (k x)
  | .handled _ k=>∀x,Kp (k x)
  | .thread k=>∀x,Kp (k x)
  | _=>False
noncomputable def DK (h h':Heap):Prop:=∀b o,h.get? b=some o→∃o',h'.get? b=some o'∧o'.dict=o.dict
theorem DK.refl (h:Heap):DK h h:=fun _ o e=>⟨o,e,rfl⟩
theorem DK.trans {h h' h'':Heap} (a:DK h h') (b:DK h' h''):DK h h'':=fun c o e=>by
  obtain ⟨o1,e1,d1⟩:=a c o e
  obtain ⟨o2,e2,d2⟩:=b c o1 e1
  exact ⟨o2,e2,d2.trans d1⟩
theorem DK.push (h:Heap) (o:Obj):DK h (h.push o):=fun b v e=>⟨v,Heap.get?_push_of_some _ e,rfl⟩
theorem DK.update {h:Heap} {a:Addr} {f:Obj→Obj} (hf:∀o:Obj,(f o).dict=o.dict∧(o.isFreed=false→(f o).isFreed=false)):DK h (h.update a f):=fun b o e=>by
  by_cases q:b=a
  · subst q
    refine ⟨f o,Heap.get?_update_self _ e ((hf o).2 ?_),(hf o).1⟩
    exact (Heap.get?_some_iff.mp e).2
  · exact ⟨o,by rw [Heap.get?_update_other _ _ (Ne.symm q)];exact e,rfl⟩
theorem kp_bind {α β:Type} {m:Sem α} {f:α→Sem β} (hm:Kp m) (hf:∀a,Kp (f a)):Kp (m >>= f):=by
  show Kp (m.bind f)
  induction m with
  | pure a=>exact hf a
  | raise | unsupported | finish | register=>exact True.intro
  | rule _ k ih | «at» _ k ih | point _ k ih=>exact ih _ hm
  | load _ _ k ih | loadIfAlive _ k ih | alloc _ k ih | fresh k ih | ask k ih | stack k ih | handled _ k ih | thread k ih=>exact fun o=>ih o (hm o)
  | update _ _ _ k ih=>exact ⟨hm.1,ih _ hm.2⟩
  | choose | os | call | newGen | genState | resume | yield | fork | await=>exact hm.elim
theorem wp_kp {α:Type} {M:Model} {Γ:PySem.Ctx} {t:Sem α} {Q:α→Pos→Shared→Prop} {E:Value→Pos→Shared→Prop} {p:Pos} {s:Shared} (hk:Kp t) (h:Sem.wp M Γ t Q E p s) :
    Sem.wp M Γ t (fun a p' s'=>Q a p' s'∧DK s.heap s'.heap) (fun e p' s'=>E e p' s'∧DK s.heap s'.heap) p s:=by
  induction t generalizing p s with
  | pure a=>exact ⟨h,DK.refl _⟩
  | raise e=>exact ⟨h,DK.refl _⟩
  | unsupported | finish | register=>exact h.elim
  | rule _ k ih | «at» _ k ih | point _ k ih=>exact ih _ hk h
  | load a _ k ih=>exact let ⟨o,ho,h⟩:=h;⟨o,ho,ih _ (hk _) h⟩
  | loadIfAlive _ k ih | ask k ih | stack k ih | handled _ k ih | thread k ih=>exact ih _ (hk _) h
  | fresh k ih=>exact ih _ (hk _) h
  | alloc o k ih=>exact Sem.wp_mono M Γ _ (fun _ _ _ z=>⟨z.1,(DK.push _ _).trans z.2⟩) (fun _ _ _ z=>⟨z.1,(DK.push _ _).trans z.2⟩) _ _ (ih _ (hk _) h)
  | update a _ f k ih=>exact ⟨h.1,Sem.wp_mono M Γ _ (fun _ _ _ z=>⟨z.1,(DK.update hk.1).trans z.2⟩) (fun _ _ _ z=>⟨z.1,(DK.update hk.1).trans z.2⟩) _ _ (ih _ hk.2 h.2)⟩
  | choose | os | call | newGen | genState | resume | yield | fork | await=>exact hk.elim
theorem wpAny_kp {α:Type} {M:Model} {A:Around} {t:Sem α} {Q:α→Shared→Prop} {E:Value→Shared→Prop} {s:Shared} (hk:Kp t) (h:wpAny M A t Q E s):wpAny M A t (fun a s'=>Q a s'∧DK s.heap s'.heap) (fun e s'=>E e s'∧DK s.heap s'.heap) s:=
  fun Γ p hΓ=>wp_kp hk (h Γ p hΓ)
theorem kp_load {a:Addr}:Kp (PySem.load a):=fun _=>True.intro
theorem kp_pure {α:Type} {a:α}:Kp (pure a:Sem α):=True.intro
theorem kp_un {α:Type} {w:String}:Kp (PySem.unsupported w:Sem α):=True.intro
theorem mapF_kept (g:Array Value→Array Value) (o:Obj):(Obj.mapFields g o).dict=o.dict∧(o.isFreed=false→(Obj.mapFields g o).isFreed=false):=by
  unfold Obj.mapFields
  split
  · exact ⟨rfl,fun _=>rfl⟩
  · exact ⟨rfl,id⟩
theorem kp_fieldsOf {v:Value}:Kp (fieldsOf v):=by
  unfold fieldsOf
  split
  · refine kp_bind kp_load fun o=>?_
    split
    · exact kp_pure
    · exact kp_un
  · exact kp_un
theorem kp_field {v:Value} {i:Nat}:Kp (PySem.field v i):=by
  unfold PySem.field
  refine kp_bind kp_fieldsOf fun a=>?_
  split
  · exact kp_pure
  · exact kp_un
theorem kp_update {a:Addr} {f:Obj→Obj} (h:∀o:Obj,(f o).dict=o.dict∧(o.isFreed=false→(f o).isFreed=false)):Kp (PySem.update a f):=⟨h,True.intro⟩
theorem kp_setField {v x:Value} {i:Nat}:Kp (PySem.setField v i x):=by
  unfold PySem.setField
  split
  · unfold updateField
    refine kp_bind kp_load fun o=>?_
    split
    · split
      · exact kp_update fun o=>mapF_kept _ o
      · exact kp_un
    · exact kp_un
  · exact kp_un
theorem kp_ite {α:Type} {c:Prop} [Decidable c] {a b:Sem α} (ha:Kp a) (hb:Kp b):Kp (if c then a else b):=by split <;> assumption
theorem kp_stack:Kp PySem.stack:=fun _=>True.intro
theorem kp_setFlight {e:Value} {o:Option Addr}:Kp (setFlight e o):=by
  unfold setFlight
  refine kp_bind kp_field fun tb=>?_
  split
  · exact kp_setField
  · exact kp_pure
theorem kp_newFields {c:String} {vs:List Value}:Kp (newFields c vs):=by
  have fin:Kp (newObjAsIs (.type c) (.fields vs.toArray)):=by
    unfold newObjAsIs
    exact kp_bind (fun _=>True.intro) fun a=>kp_pure
  show Kp (if vs.toArray.size>sizeLine+2 then (PySem.unsupported "record:memory" >>= fun _=>newObjAsIs (.type c) (.fields vs.toArray)) else newObjAsIs (.type c) (.fields vs.toArray))
  exact kp_ite (kp_bind kp_un fun _=>fin) fin
theorem kp_ready:∀l:List Env,Kp (readyFrames l)
  | []=>kp_pure
  | env::outer=>by
    unfold readyFrames
    split
    · refine kp_bind kp_load fun o=>?_
      split
      · exact kp_pure
      · refine kp_bind ?_ fun b=>kp_bind ?_ fun back=>kp_bind (kp_update fun o=>⟨rfl,?_⟩) fun _=>kp_ready outer
        · unfold behindIsImport
          split
          · exact kp_pure
          · split
            · exact kp_pure
            · exact kp_bind kp_field fun _=>kp_pure
        · cases outer with
          | nil=>
            unfold keptBack
            refine kp_ite kp_pure (kp_bind ?_ fun _=>kp_pure)
            unfold underTheClaimsCaller
            exact kp_bind kp_stack fun _=>kp_pure
          | cons _ _=>exact kp_pure
        · intro h
          obtain ⟨a,b,c,d⟩:=o
          cases c <;> first | rfl | cases h
    · exact kp_un
theorem kp_frameOf {env:Env}:Kp (PySem.frameOf env):=by
  unfold PySem.frameOf
  refine kp_bind (kp_bind kp_stack fun _=>kp_pure) fun l=>kp_bind ?_ fun o=>?_
  · unfold frameObject
    split
    · exact kp_pure
    · exact kp_bind (kp_ready _) fun _=>kp_pure
  · split
    · exact kp_pure
    · exact kp_un
theorem kp_entryPlaceOf {f:Addr} {b:Bool}:Kp (entryPlaceOf f b):=by
  unfold entryPlaceOf
  refine kp_bind kp_stack fun _=>?_
  split <;> exact kp_pure
theorem kp_noteFrame {e:Value} {env:Env}:Kp (noteFrame e env):=by
  have last:∀(head:Value) (f:Addr) (b:Bool),Kp (do let a ← PySem.frameOf env;let pl ← entryPlaceOf f b;let n ← EntryCells.newEntry head a .none (rawInt f) .none pl;PySem.setField e 1 n):=fun head f b=>
    kp_bind kp_frameOf fun _=>kp_bind kp_entryPlaceOf fun _=>kp_bind (by unfold EntryCells.newEntry;exact kp_newFields) fun _=>kp_setField
  unfold noteFrame
  split
  · refine kp_bind kp_field fun head=>?_
    split
    · refine kp_bind kp_field fun v=>?_
      split
      · exact kp_pure
      · exact kp_bind kp_setField fun _=>last _ _ _
    · exact last _ _ _
  · exact kp_un
theorem kp_leaving {e:Value} {env:Env}:Kp (leaving env e):=by
  unfold leaving
  exact kp_bind kp_noteFrame fun _=>kp_setFlight
theorem kp_use {t:Sem Unit} {M:Model} {A:Around} {E:Value→Shared→Prop} {s:Shared} {R:Heap→Prop} {Q:Unit→Shared→Prop} (hk:Kp t) (h:∀Q0:Unit→Shared→Prop,(∀h',R h'→Q0 () { s with heap:=h' })→wpAny M A t Q0 E s) (k:∀h',R h'→DK s.heap h'→Q () { s with heap:=h' }):wpAny M A t Q E s:=
  wpAny_mono (wpAny_kp hk (h (fun _ s2=>∃h',s2={ s with heap:=h' }∧R h') fun h' r=>⟨h',rfl,r⟩)) (fun _ s2 ⟨⟨h',e,r⟩,dk⟩=>by subst e;exact k h' r dk) fun _ _ z=>z.1
end My

namespace My
open PySem PySem.Spec PyProof.Rows L2 Mth
noncomputable def DictAt (h:Heap) (e:Addr) (dx:Option Addr):Prop:=∃ob,h.get? e=some ob∧ob.dict=dx
theorem DictAt.dk {h h':Heap} {e:Addr} {dx:Option Addr} (x:DictAt h e dx) (k:DK h h'):DictAt h' e dx:=by
  obtain ⟨ob,a,b⟩:=x
  obtain ⟨o',a',b'⟩:=k e ob a
  exact ⟨o',a',b'.trans b⟩
noncomputable def CXe (P:Program) (w:World):CXT:=fun outer H s E ev s'=>∃(e t:Addr) (C:Value) (H':Hp) (B:Heap),ev=.ref e∧s'.os=s.os∧AllBare s'.gens∧Un (frs outer) [] H H' s.heap s'.heap∧HOk P w H' s'.heap ∧
  Heap.FlyingW B outer e C (.ref t) s'.heap∧(∀b o,s'.heap.get? b=some o→(H' b≠none∨s.heap.get? b≠none)→b∉frs outer→B.get? b=some o)∧∃dx,DictAt s'.heap e dx∧E C dx H'
theorem hok_tr {P:Program} {w:World} {H:Hp} {h h':Heap} (x:HOk P w H h) (k:∀c v,H c≠none→h.get? c=some v→h'.get? c=some v):HOk P w H h':=fun b u e=>
  (x b u e).stay (fun c v hc q=>k c v (by
    rcases hc with z | z
    · rw [z,e];simp
    · rw [z];simp) q) (fun _ q=>q) fun _ _ q=>q
theorem un_fly {fs:List Addr} {H H':Hp} {h h1 h2 B:Heap} {l:List Env} (hfs:∀b∈fs,b∈frs l) (u:Un fs [] H H' h h1) (fly1:h1.FunFrames B l) (st:B.StaysIn h2) (up:h1.UpToSlots h2)
    (bk:∀b o,h1.get? b=some o→h.get? b≠none→b∉fs→B.get? b=some o):Un fs [] H H' h h2:=by
  have fr:∀b o,h1.get? b=some o→b∈fs→∃sl,h2.get? b=some { o with slots:=sl }:=fun b o e hb=>by
    obtain ⟨_,o',ho',hd⟩:=fly1.mem (hfs b hb)
    rw [e] at ho'
    cases ho'
    exact up b o e hd
  have kp:∀b o,h1.get? b=some o→h.get? b≠none→b∉fs→h2.get? b=some o:=fun b o e ho hb=>st b o (bk b o e ho hb)
  refine ⟨fun b o q n hb hx=>?_,fun b o q n hb hx=>?_,u.free,fun b o q hx=>?_,u.tups,u.frzs,u.tbls⟩
  · exact kp b o (u.keep b o q n hb hx) (by rw [q];simp) hb
  · obtain ⟨sl,e⟩:=u.slot b o q n hb hx
    obtain ⟨sl',e'⟩:=fr b _ e hb
    exact ⟨sl',e'⟩
  · obtain ⟨o',e⟩:=u.there b o q hx
    by_cases hb:b∈fs
    · obtain ⟨sl,e'⟩:=fr b o' e hb
      exact ⟨_,e'⟩
    · exact ⟨o',kp b o' e (by rw [q];simp) hb⟩
theorem obj_there {P:Program} {w:World} {H:Hp} {h:Heap} {a:Addr} {o:HO} (x:ObjOk P w H h a o):∃u,h.get? a=some u:=by
  cases o with
  | lst _=>exact let ⟨_,_,_,_,e⟩:=x;⟨_,e⟩
  | tup _=>exact let ⟨_,_,_,u,e,_⟩:=x;⟨u,e⟩
  | dK _=>exact let ⟨_,_,_,_,u,_,_,e,_⟩:=x;⟨u,e⟩
  | dT _=>exact let ⟨_,_,_,_,u,_,_,e,_⟩:=x;⟨u,e⟩
  | set _ _=>exact let ⟨u,_,_,_,e,_⟩:=x;⟨u,e⟩
  | ins _ _ _=>exact let ⟨_,_,_,e,_⟩:=x;⟨_,e⟩
  | own _=>exact x
  | xd _=>exact let ⟨_,⟨u,_,_,e,_⟩,_⟩:=x;⟨u,e⟩
  | rng _ _=>exact let ⟨_,_,_,e⟩:=x;⟨_,e⟩
  | frz _ _=>exact ⟨_,x.1⟩
  | tbl _=>exact ⟨_,x⟩
  | met _ _=>exact ⟨_,x⟩
  | ext _=>exact x.2.1
section
variable {P:Program} {w:World} {K:PySem.W.Frag} {mg:Str→Option Value} {base:Heap} {N:List Str} {qual:Str} {scope:Scope} {f:Addr} {cd:Value} {A:Around} {outer:List Env} {s0:Shared} {H0:Hp} {E:XK}
theorem left_fin {pins:List (Addr×Obj)} {σ:L2.St} {H:Hp} {s:Shared} {B h2:Heap} {e t:Addr} {C:Value} (I:L2.Inv (cxOf (CXe P w) P w K mg base N qual scope f cd A outer s0 H0 E) pins σ H s)
    (fly1:s.heap.FunFrames B (envOfC qual scope s0.heap.objs.size f cd::outer)) (bk:∀b o,s.heap.get? b=some o→(H b≠none∨s0.heap.get? b≠none)→b∉frs (envOfC qual scope s0.heap.objs.size f cd::outer)→B.get? b=some o)
    {dx:Option Addr} (fly:Heap.FlyingW B outer e C (.ref t) h2) (up:s.heap.UpToSlots h2) (hd:DictAt h2 e dx) (hE:E C dx H):CXe P w outer H0 s0 E (.ref e) { s with heap:=h2 }:=by
  have nL:∀b,s0.heap.get? b≠none→b∉frs outer→b∉frs (envOfC qual scope s0.heap.objs.size f cd::outer):=fun b hb hn z=>by
    rcases List.mem_cons.mp (show b∈s0.heap.objs.size::frs outer from z) with q | q
    · cases g:s0.heap.get? b with
      | none=>exact hb g
      | some o=>exact absurd (Heap.lt_size g) (by rw [q];exact Nat.lt_irrefl _)
    · exact hn q
  have sub:∀b∈frs outer,b∈frs (envOfC qual scope s0.heap.objs.size f cd::outer):=fun b hb=>List.mem_cons_of_mem _ hb
  have u:Un (frs outer) [] H0 H s0.heap s.heap:=I.base
  have tr:∀c v,H c≠none→s.heap.get? c=some v→B.get? c=some v:=fun c v hc q=>bk c v q (.inl hc) fun z=>hc (I.stkFree c z)
  refine ⟨e,t,C,H,B,rfl,I.os,I.bare,un_fly sub u fly1 fly.1 up fun b o q hb hn=>bk b o q (.inr hb) (nL b hb hn),hok_tr I.hok fun c v hc q=>fly.1 c v (tr c v hc q),fly,fun b o q hb hn=>?_,dx,hd,hE⟩
  have q:h2.get? b=some o:=q
  rcases hb with hb | hb
  · cases g:H b with
    | none=>exact absurd g hb
    | some ho=>
      obtain ⟨v,hv⟩:=obj_there (I.hok b ho g)
      have e1:=tr b v hb hv
      have:=fly.1 b v e1
      rw [q] at this
      cases this
      exact e1
  · cases g:s0.heap.get? b with
    | none=>exact absurd g hb
    | some o0=>
      obtain ⟨v,hv⟩:=u.there b o0 g (by simp)
      have e1:=bk b v hv (.inr hb) (nL b hb hn)
      have:=fly.1 b v e1
      rw [q] at this
      cases this
      exact e1
theorem left_made {pins:List (Addr×Obj)} {σ:L2.St} {H:Hp} {s:Shared} {h':Heap} {e:Addr} {C:Value} {vs:List Value} (I:L2.Inv (cxOf (CXe P w) P w K mg base N qual scope f cd A outer s0 H0 E) pins σ H s) (hx:Heap.MadeExcOf s.heap h' e C vs) (hE:E C none H) :
    (cxOf (CXe P w) P w K mg base N qual scope f cd A outer s0 H0 E).xe (.ref e) { s with heap:=h' }:=by
  have I1:L2.Inv (cxOf (CXe P w) P w K mg base N qual scope f cd A outer s0 H0 E) pins σ H { s with heap:=h' }:=I.kept (t':=s.toks) hx.keeps
  have hin:∀env∈(envOfC qual scope s0.heap.objs.size f cd::outer),∀b,env.frame=some b→b∈frs (envOfC qual scope s0.heap.objs.size f cd::outer):=fun env he b hb=>List.mem_filterMap.mpr ⟨env,he,hb⟩
  have fr0:s.heap.FunFrames (PySem.W.hideAll s.heap (frs (envOfC qual scope s0.heap.objs.size f cd::outer))) (envOfC qual scope s0.heap.objs.size f cd::outer):=PySem.W.funFrames_hide (base:=base) I.stack hin
  obtain ⟨t9,ht9,_⟩:=hx.there
  refine kp_use (R:=fun h2=>∃t,Heap.FlyingW _ outer e C (.ref t) h2∧h'.UpToSlots h2) kp_leaving (fun Q0 hQ0=>wpAny_leaves_madeW I.ok.frames rfl (fun b o q=>PySem.W.of_hideAll _ q) fr0 hx fun h2 t fly tup nt up=>hQ0 h2 ⟨t,fly,up⟩) (fun h2 ⟨t,fly,up⟩ dk=>?_)
  refine left_fin I1 (fr0.of_keeps fun b o q _=>⟨o,hx.keeps b o q,rfl⟩) (fun b o q hb hn=>?_) fly up (DictAt.dk ⟨_,ht9,rfl⟩ dk) hE
  have q:h'.get? b=some o:=q
  have there:∃v,s.heap.get? b=some v:=by
    rcases hb with hb | hb
    · cases g:H b with
      | none=>exact absurd g hb
      | some ho=>exact obj_there (I.hok b ho g)
    · cases g:s0.heap.get? b with
      | none=>exact absurd g hb
      | some o0=>exact I.base.there b o0 g (show b∉([]:List Addr) by simp)
  obtain ⟨v,hv⟩:=there
  have:=hx.keeps b v hv
  rw [q] at this
  cases this
  exact PySem.W.hideAll_get _ hv hn
theorem pass_on:Passes (CXe P w) (cxOf (CXe P w) P w K mg base N qual scope f cd A outer s0 H0 E) E:=by
  rintro pins σ H s ev s1 I ⟨e,t,C,H1,B,rfl,os,bare,un,hok,fly,bk,dx,hdx,hE⟩
  have J:L2.Inv (cxOf (CXe P w) P w K mg base N qual scope f cd A outer s0 H0 E) pins σ H1 s1:=I.call' (ch:=[]) os un hok bare fun b z=>absurd z (by simp)
  refine kp_use (R:=fun h2=>Heap.FlyingW B outer e C (.ref t) h2∧s1.heap.UpToSlots h2) kp_leaving (fun Q0 hQ0=>wpAny_leaves_onW I.ok.frames rfl fly fun h2 fly2 up=>hQ0 h2 ⟨fly2,up⟩) (fun h2 ⟨fly2,up⟩ dk=>?_)
  refine left_fin J fly.2.2.1 (fun b o q hb hn=>bk b o q ?_ hn) fly2 up (hdx.dk dk) hE
  rcases hb with hb | hb
  · exact .inl hb
  · right
    cases g:s0.heap.get? b with
    | none=>exact absurd g hb
    | some o0=>
      obtain ⟨v,hv⟩:=I.base.there b o0 g (show b∉([]:List Addr) by simp)
      rw [hv]
      simp
end
structure Xc (K:PySem.W.Frag) (mg:Str→Option Value) (x:Str) (C:Addr):Prop where
  at_:mg x=some (.ref C)
  is_:PySem.W.excIn K C [.type "ValueError",.type "Exception",.type "BaseException",.type "object"] "ValueError.__new__"=true
  self_:PySem.W.exmOne K (.ref C) (.ref C)=some true
theorem Xc.own {K:PySem.W.Frag} {mg:Str→Option Value} {x:Str} {C:Addr} {h:Heap} (X:K.In h) (c:Xc K mg x C):OwnCls x C [.type "ValueError",.type "Exception",.type "BaseException",.type "object"] "ValueError.__new__" mg h:=by
  have q:=c.is_
  refine ⟨c.at_,?_⟩
  unfold PySem.W.excIn at q
  split at q
  · next dd cd sl ho=>
    split at q
    · next C' bm a0 a1 a2 a3 n a5 hm hs=>
      simp only [Bool.and_eq_true,beq_iff_eq,Bool.not_eq_true'] at q
      obtain ⟨⟨⟨⟨⟨e1,e2⟩,e3⟩,e4⟩,e5⟩,e6⟩:=q
      subst e1 e2
      obtain ⟨f1,f2,f3,f4,f5,f6,f7,f8,f9,f10,f11⟩:=cd
      dsimp only at hm e3 e5 e6
      subst hm e3
      obtain ⟨sll⟩:=sl
      have hs':sll=[a0,a1,a2,a3,some (.builtin _),a5]:=hs
      subst hs'
      exact ⟨bm,f4,f1,f5,f2,f6,f7,f8,f9,f10,dd,a0,a1,a2,a3,a5,_,X _ _ ho,.of_isNs (PySem.W.isNs_of_in X e5),PySem.W.nsMap_none_of_in X e5 e6,PySem.W.tail_of_in X e4⟩
    · cases q
  · cases q
noncomputable def tRaise (ta:TA) (E:XK) (C:Addr):TS:=fun _ σ H=>ta σ H fun vs H1=>vs.length≤sizeLine∧E (.ref C) none H1
section
variable {P:Program} {w:World} {K:PySem.W.Frag} {mg:Str→Option Value} {base:Heap} {N:List Str} {qual:Str} {scope:Scope} {f:Addr} {cd:Value} {A:Around} {outer:List Env} {s0:Shared} {H0:Hp} {E:XK}
theorem ps_raise {x:Str} {C:Addr} {a:Expr} {es:List Expr} {ta:TA} {np cpos pos:Pos} (c:Xc K mg x C) (hg:Gl (cxOf (CXe P w) P w K mg base N qual scope f cd A outer s0 H0 E) x)
    (ha:PA (cxOf (CXe P w) P w K mg base N qual scope f cd A outer s0 H0 E) (a::es) ta) (hd:autoParam ((x==("__debug__":Str))=false) au1_._auto_1)
    (he:autoParam (starEach (a::es) (envOfC qual scope s0.heap.objs.size f cd)=(false,eval a (envOfC qual scope s0.heap.objs.size f cd))::starEach es (envOfC qual scope s0.heap.objs.size f cd)) au0_._auto_1)
    (hpl:autoParam ((backTo cpos (starEach es (envOfC qual scope s0.heap.objs.size f cd))).any (·.1)=false) au0_._auto_1) :
    PS (cxOf (CXe P w) P w K mg base N qual scope f cd A outer s0 H0 E) (.Raise (some (.Call (.Name x np) (a::es) [] cpos)) none pos) (tRaise ta E C):=by
  intro pins s σ H D I h
  have O:=c.own (show K.In base from I.ok.mod.kin)
  obtain ⟨tl,nsp,nm,q,bs,hdct,sn,sub,ab,col,dd,k0,k1,k2,k3,k5,mN,hC,hN,hni,T⟩:=O.obj
  refine wpAny_Raise_call_subT (C:=C) (nm:=nm) (q:=q) (N:=nsp) (bs:=bs) (bm:=tl) (hdct:=hdct) (sn:=sn) (sub:=sub) (ab:=ab) (col:=col) (dd:=dd) (k0:=k0) (k1:=k1) (k2:=k2) (k3:=k3) (k5:=k5) (mN:=mN)
    PySem.F.excBase_ValueError (T.hasType (by decide)) (I.ok.hd rfl) ?_ hni ?_
  · show (backTo cpos (starEach (a::es) (envOfC qual scope s0.heap.objs.size f cd))).any (·.1)=false
    rw [he]
    exact hpl
  refine wpAny_mono (L2.pe_glob hg c.at_ (show RelV (.ref C) (.ref C) from rfl) hd pins s σ H (fun v H1=>v=.ref C∧H1=H) I ⟨rfl,rfl⟩) (fun v s1 ⟨y,H1,I1,r1,e1,e2⟩=>?_) fun _ _ z=>z
  subst e1 e2
  cases r1
  refine ⟨rfl,?_⟩
  have hA:=ha cpos pins s1 σ H1 _ I1 h
  have he':starEach (a::es) (cxOf (CXe P w) P w K mg base N qual scope f cd A outer s0 H0 E).env=(false,eval a (cxOf (CXe P w) P w K mg base N qual scope f cd A outer s0 H0 E).env)::starEach es (cxOf (CXe P w) P w K mg base N qual scope f cd A outer s0 H0 E).env:=he
  rw [he'] at hA ⊢
  refine Calls.evalArgs_plain (wpAny_mono hA (fun us s2 ⟨vs,H2,I2,r2,hl,hE⟩=>?_) fun _ _ z=>z)
  have kp:∀b o,base.get? b=some o→s2.heap.get? b=some o:=fun b o e=>(I2.bs b o e).1
  exact ⟨rfl,by rw [← r2.length];exact hl,kp _ _ hC,hN.keeps kp,T.keeps kp,fun h' e hx=>left_made I2 hx hE⟩
end
theorem Fun.okX {P:Program} {w:World} {K:PySem.W.Frag} {mg:Str→Option Value} {base:Heap} {x qual:Str} {st:Stmt} {f:Addr} {fd:FuncData} {N ps:List Str} {k:Nat} {sp:Sp} (F:Fun K x qual st f fd) (S:FnScope N ps (defScope st)) (len:∀vs H Q E,sp vs H Q E→vs.length=ps.length)
    (hbody:∀(cdv:Value) (A:Around) (outer:List Env) (s:Shared) (H:Hp) (vs:List V) (Q:VK) (E:XK),Room k (A.deeper (envOfC qual (defScope st) s.heap.objs.size f cdv))→sp vs H Q E →
      ∃t,PSs (cxOf (CXe P w) P w K mg base N qual (defScope st) f cdv A outer s H E) (defBody st) t∧t { nx:=fun _ H'=>Q .non H',rt:=Q } (start N vs) H):FnOk P w K mg base (CXe P w) (k+1) f fd ps sp:=by
  obtain ⟨oc,od,kV,doc,pm,an,cdv,ct,osl,e,lk,hcd⟩:=F.ex
  subst e
  exact fn_of lk hcd S len (hbody cdv)
structure DnX (P:Program) (w:World) (K:PySem.W.Frag) (mg:Str→Option Value) (base:Heap) (k:Nat) (x:Str) (ps:List Str) (sp:Sp):Prop where
  ex:∃(f:Addr) (fd:FuncData),FnOk P w K mg base (CXe P w) k f fd ps sp∧mg x=some (.ref f)∧PySem.W.keepIn K (.ref f)=true∧Binds K fd ps []
theorem dnx_mk {P:Program} {w:World} {K:PySem.W.Frag} {mg:Str→Option Value} {base:Heap} {k:Nat} {x qual:Str} {ps:List Str} {sp:Sp} {st:Stmt} {f:Addr} {fd:FuncData} (F:Fun K x qual st f fd) (ok:FnOk P w K mg base (CXe P w) k f fd ps sp)
    (hm:mg x=some (.ref f)) (hb:Binds K fd ps []):DnX P w K mg base k x ps sp:=⟨f,fd,ok,hm,F.kp,hb⟩
section
variable {X:Cx} {k:Nat} {x:Str} {ps:List Str} {sp:Sp} {p pos:Pos} {e:Expr} {es:List Expr} {t:TA} {E:XK}
theorem pe_dnX (D:DnX X.prog X.w X.K X.mg X.base k x ps sp) (hp:Passes (CXe X.prog X.w) X E) (hr:Room k X.A) (hg:Gl X x) (ha:PA X (e::es) t) (hdb:autoParam ((x==("__debug__":Str))=false) au1_._auto_1)
    (he:autoParam (starEach (e::es) X.env=(false,eval e X.env)::starEach es X.env) au0_._auto_1) (hpl:autoParam ((backTo pos (starEach es X.env)).any (·.1)=false) au0_._auto_1):PE X (.Call (.Name x p) (e::es) [] pos) (tCall sp [] E t):=by
  obtain ⟨f,fd,ok,hm,hk,hb⟩:=D.ex
  exact pe_call ok hr hg hm hk hb .nil hp ha hdb he hpl
end
section
variable {X:Cx} {pins:List (Addr×Obj)} {σ:L2.St} {H:Hp} {s:Shared}
theorem inv_in (I:L2.Inv X pins σ H s) (Ex:Value→Shared→Prop):L2.Inv { X with pn:=X.pn++pins,xe:=Ex } [] σ H s:=
  ⟨⟨I.ok.mod,I.ok.kind,I.ok.glob,I.ok.blt,I.ok.above,I.ok.inj,I.ok.has,I.ok.cab,I.ok.hd,I.ok.frames,I.ok.stk,I.ok.exf,I.ok.bs,I.ok.bsz,I.ok.noex,I.ok.exfs,I.ok.funs,I.ok.frf⟩,I.os,I.bare,I.base,I.loc,I.cell,I.free,I.freeC,
    fun p hp=>I.pin p (by simpa using hp),I.hok,I.len⟩
theorem inv_out {Ex:Value→Shared→Prop} {pins':List (Addr×Obj)} (ok:X.Ok) (I:L2.Inv { X with pn:=X.pn++pins,xe:=Ex } pins' σ H s):L2.Inv X pins σ H s:=
  ⟨ok,I.os,I.bare,I.base,I.loc,I.cell,I.free,I.freeC,fun p hp=>I.pin p (List.mem_append_left _ hp),I.hok,I.len⟩
theorem inv_mark {Ex Ey:Value→Shared→Prop} {pn' pins':List (Addr×Obj)} {e:Addr} (I:L2.Inv { X with pn:=pn',xe:=Ex } pins' σ H s):L2.Inv { X with A:=X.A.mark (some (.ref e)),calm:=false,pn:=pn',xe:=Ey } pins' σ H s:=
  ⟨⟨I.ok.mod,I.ok.kind,I.ok.glob,I.ok.blt,I.ok.above,I.ok.inj,I.ok.has,I.ok.cab,fun z=>absurd z Bool.false_ne_true,I.ok.frames,I.ok.stk,I.ok.exf,I.ok.bs,I.ok.bsz,I.ok.noex,I.ok.exfs,I.ok.funs,I.ok.frf⟩,I.os,I.bare,I.base,I.loc,I.cell,I.free,I.freeC,I.pin,I.hok,I.len⟩
theorem inv_unmark {Ey:Value→Shared→Prop} {pins':List (Addr×Obj)} {e:Addr} (ok:X.Ok) (I:L2.Inv { X with A:=X.A.mark (some (.ref e)),calm:=false,pn:=X.pn++pins,xe:=Ey } pins' σ H s):L2.Inv X pins σ H s:=
  ⟨ok,I.os,I.bare,I.base,I.loc,I.cell,I.free,I.freeC,fun p hp=>I.pin p (List.mem_append_left _ hp),I.hok,I.len⟩
theorem sp_by {X Y:Cx} {pins pins':List (Addr×Obj)} {D:Ends} {fl:Flow} {s:Shared} (k:∀σ H,L2.Inv Y pins' σ H s→L2.Inv X pins σ H s) (h:SP Y pins' D fl s):SP X pins D fl s:=by
  cases fl with
  | next=>exact let ⟨σ,H,I,q⟩:=h;⟨σ,H,k σ H I,q⟩
  | brk=>exact let ⟨σ,H,I,q⟩:=h;⟨σ,H,k σ H I,q⟩
  | cont=>exact let ⟨σ,H,I,q⟩:=h;⟨σ,H,k σ H I,q⟩
  | ret u=>exact let ⟨v,σ,H,I,r,q⟩:=h;⟨v,σ,H,k σ H I,r,q⟩
end
noncomputable def tTry (K:PySem.W.Frag) (n:Nat) (tb:XK→TS) (Cc:Addr) (ts:TS):TS:=fun D σ H=>tb (fun C _ H2=>PySem.W.exmOne K C (.ref Cc)=some true∧∀σ',σ'.length=n→ts D σ' H2) D σ H
theorem looks_ty {M:Model} {h:Heap} {a:Addr} {o:Obj} (e:h.get? a=some o):PySem.W.Looks M h (typeOf (.ref a)) o.cls:=((PySem.W.Looks.ld e).andThen .now)
section
variable {X:Cx} {body suite:List Stmt} {b0:Stmt} {tb:XK→TS} {ts:TS} {x:Str} {Cc:Addr} {np hpos pos:Pos}
end
section
variable {σ:L2.St} {H:Hp} {Q:VK} {D:Ends}
theorem r_try {K:PySem.W.Frag} {n:Nat} {tb:XK→TS} {Cc:Addr} {ts:TS} (h:tb (fun C _ H2=>PySem.W.exmOne K C (.ref Cc)=some true∧∀σ',σ'.length=n→ts D σ' H2) D σ H):tTry K n tb Cc ts D σ H:=h
theorem r_callX {sp:Sp} {ts:TA} {E:XK} (h:ts σ H fun vs H1=>sp (vs++[]) H1 Q E):tCall sp [] E ts σ H Q:=h
theorem r_raise {ta:TA} {E:XK} {C:Addr} (h:ta σ H fun vs H1=>vs.length≤sizeLine∧E (.ref C) none H1):tRaise ta E C D σ H:=h
end
end My
namespace Jd
open PySem PySem.Spec PyProof.Rows L2 My
section
variable {P:Program} {w:World} {K:PySem.W.Frag} {mg:Str→Option Value} {base:Heap} {N:List Str} {qual:Str} {scope:Scope} {f:Addr} {cd:Value} {A:Around} {outer:List Env} {s0:Shared} {H0:Hp} {E:XK}
theorem ps_raise {x:Str} {C:Addr} {a:Expr} {es:List Expr} {ta:TA} {np cpos pos:Pos} (c:Xc K mg x C) (hg:Gl (cxOf (CXe P w) P w K mg base N qual scope f cd A outer s0 H0 E) x)
    (ha:QA (cxOf (CXe P w) P w K mg base N qual scope f cd A outer s0 H0 E) (a::es) ta) (hd:autoParam ((x==("__debug__":Str))=false) au1_._auto_1)
    (he:autoParam (starEach (a::es) (envOfC qual scope s0.heap.objs.size f cd)=(false,eval a (envOfC qual scope s0.heap.objs.size f cd))::starEach es (envOfC qual scope s0.heap.objs.size f cd)) au0_._auto_1)
    (hpl:autoParam ((backTo cpos (starEach es (envOfC qual scope s0.heap.objs.size f cd))).any (·.1)=false) au0_._auto_1) :
    QS (cxOf (CXe P w) P w K mg base N qual scope f cd A outer s0 H0 E) (.Raise (some (.Call (.Name x np) (a::es) [] cpos)) none pos) (tRaise ta E C):=⟨My.ps_raise c hg ha.h hd he hpl⟩
end
section
variable {X:Cx} {k:Nat} {x:Str} {ps:List Str} {sp:Sp} {p pos:Pos} {e:Expr} {es:List Expr} {t:TA} {E:XK}
theorem pe_dnX (D:DnX X.prog X.w X.K X.mg X.base k x ps sp) (hp:Passes (CXe X.prog X.w) X E) (hr:Room k X.A) (hg:Gl X x) (ha:QA X (e::es) t) (hdb:autoParam ((x==("__debug__":Str))=false) au1_._auto_1)
    (he:autoParam (starEach (e::es) X.env=(false,eval e X.env)::starEach es X.env) au0_._auto_1) (hpl:autoParam ((backTo pos (starEach es X.env)).any (·.1)=false) au0_._auto_1):QE X (.Call (.Name x p) (e::es) [] pos) (tCall sp [] E t):=⟨My.pe_dnX D hp hr hg ha.h hdb he hpl⟩
end
section
variable {X:Cx} {body suite:List Stmt} {b0:Stmt} {tb:XK→TS} {ts:TS} {x:Str} {Cc:Addr} {np hpos pos:Pos}
end
end Jd

namespace My
open PySem PySem.Spec PyProof.Rows L2 Mth
section
variable {X:Cx} {body suite:List Stmt} {b0:Stmt} {tb:XK→TS} {ts:Addr→Value→Option Addr→TS} {x nm:Str} {j:Nat} {Cc:Addr} {np hpos pos:Pos}
end
section
variable {X:Cx} {body suite:List Stmt} {b0:Stmt} {tb:XK→TS} {ts:Addr→Value→TS} {x nm:Str} {j:Nat} {Cc:Addr} {np hpos pos:Pos}
end
section
variable {σ:L2.St} {H:Hp} {Q:VK} {D:Ends}
end
end My
namespace Jd
open PySem PySem.Spec PyProof.Rows L2 My
section
variable {X:Cx} {body suite:List Stmt} {b0:Stmt} {tb:XK→TS} {ts:Addr→Value→TS} {x nm:Str} {j:Nat} {Cc:Addr} {np hpos pos:Pos}
theorem pe_xn {C:Addr} (hg:Gl X x) (c:Xc X.K X.mg x C) (hd:autoParam ((x==("__debug__":Str))=false) au1_._auto_1):QE X (.Name x pos) (tC (.ref C)):=⟨L2.pe_glob hg c.at_ (show RelV (.ref C) (.ref C) from rfl) hd⟩
end
end Jd

namespace My
open PySem PySem.Spec PyProof.Rows L2 Mth
noncomputable def tFtext (te:TE):TE:=fun σ H Q=>te σ H fun v H1=>∃i,v=.int i∧i.natAbs.log2<1920∧∀x,Q (.str x) H1
section
variable {X:Cx}
theorem int_text_1921 {i:Int} (h:i.natAbs.log2<1920):(Str.ofString (toString i)).length≤1921:=by
  have e:=int_text_length_le (k:=1920) (by decide) h
  rw [PySem.ofString_length]
  exact e
theorem pe_ftext {a c:Str} {j j':Nat} {e:Expr} {te:TE} {p1 p2 p3 pos:Pos} (he:PE X e te) (ha:autoParam (a.length≤1000) au1_._auto_1) (hc:autoParam (c.length≤1000) au1_._auto_1):PE X (.JoinedStr [.Constant (.str a) j p1,.FormattedValue e (-1) none p2,.Constant (.str c) j' p3] pos) (tFtext te):=by
  intro pins s σ H Q I h
  have e0:(Str.empty:Str).length=0:=rfl
  refine JoinedStr_many ?_
  refine joinParts_cons (Calls.Constant_str ?_)
  have hE:=he pins { s with toks:=s.toks+1 } σ H _ (I.tok _) h
  refine ⟨?_,joinParts_cons (FormattedValue_plain (wpAny_mono hE (fun v s1 ⟨y,H1,I1,r,i,hy,hi,q⟩=>?_) fun _ _ z=>z))⟩
  · rw [strLen_append,e0,sizeLine_eq]
    omega
  subst hy
  obtain ⟨tk,rfl⟩:=r
  refine formatField_int_small hi ?_
  have l1:=int_text_1921 hi
  refine ⟨?_,joinParts_cons (Calls.Constant_str ⟨?_,joinParts_nil ⟨.str _,H1,I1.tok _,⟨_,rfl⟩,q _⟩ ?_⟩)⟩
  all_goals
    simp only [strLen_append,e0,sizeLine_eq]
    omega
end
noncomputable def exObj (C:Addr) (dx:Option Addr) (t:Addr):Obj:={ cls:=.ref C,dict:=dx,data:=.fields #[.ref t,.none,.none,.none,.bool false,.none] }
noncomputable def ExO (e C:Addr) (dx:Option Addr) (h:Heap):Prop:=∃t:Addr,h.get? e=some (exObj C dx t)
section
variable {prog:Program} {w:World} {A:Around} {E:Value→Shared→Prop} {h:Heap} {g:Array GenState} {d:Drawn} {tk:Nat} {os:OsState}
variable {nm q:Str} {C N e t0:Addr} {dx:Option Addr} {bs bm bmB:List Value} {hdct:Bool} {sn:List Str} {sub:List Value} {ab:Bool} {col:Option Bool} {dd:Option Addr} {k0 k1 k2 k3 k5:Option Value} {B newId initId:String}
theorem init_run (F:ExcBaseFacts B newId initId bmB) (T:OwnTail h bmB bm) {v:Value} {Q:Value→Shared→Prop} (hC:h.get? C=some (excClassObj nm q C N bs bm hdct sn sub ab col dd k0 k1 k2 k3 k5 newId)) (he:h.get? e=some (exObj C dx t0))
    (hq:∀h',(∀b o,b≠e→h.get? b=some o→h'.get? b=some o)→ExO e C dx h'→Q .none ⟨h',g,d,tk,os⟩):wpAny (model prog w) A (call (.builtin initId) [.ref e,v]) Q E ⟨h,g,d,tk,os⟩:=by
  unfold exObj at he
  refine wpAny_call (codeAny_call_builtin F.init.plain F.initEntry (wpAny_check_init_subT F T hC he rfl ?_))
  wp_walk
  refine hq _ (fun b o hb eb=>?_) ⟨h.objs.size,?_⟩
  · rw [Heap.get?_update_other _ _ (Ne.symm hb)]
    exact Heap.get?_push_of_some _ eb
  · rw [Heap.get?_update_self _ (Heap.get?_push_of_some _ he) rfl]
    rfl
theorem type_call_own (F:ExcBaseFacts B newId initId bmB) (T:OwnTail h bmB bm) {mN:Str→Option Value} {rest:List Value} {fI:Addr} {oI:Obj} {Q:Fin→Shared→Prop}
    (hC:h.get? C=some (excClassObj nm q C N bs bm hdct sn sub ab col dd k0 k1 k2 k3 k5 newId)) (hn:h.Ns N mN) (hi:mN "__init__"=some (.ref fI)) (hfI:h.get? fI=some oI) (hfc:oI.cls=.type "function")
    (hq:∀h' e,Heap.MadeExcOf h h' e (.ref C) rest→h.objs.size≤e→wpAny (model prog w) A (call (.ref fI) (.ref e::rest)) (fun r s'=>r=.none∧Q (.done (.ret (.ref e))) s') E ⟨h',g,d,tk,os⟩) (hrest:rest.length≤sizeLine) :
    wpAny (model prog w) A (Builtin.«type.__call__» ⟨.ref C::rest,[]⟩) Q E ⟨h,g,d,tk,os⟩:=by
  repeat (first | with_reducible refine wpAny_loadPart_at hC ?_ | with_reducible refine wpAny_madeBy_exc hC ?_ | wp_step)
  refine codeAny_call_builtin_code (Code.quiet_builtin _ F.quiet) (wpAny_check_new_subT F T hC ?_)
  refine codeAny_exc_new_subT F T hC ?_ hrest
  show wpAny _ _ _ _ _ _
  generalize hh1:(h.push { cls:=.type "tuple",data:=.seq rest.toArray }).push { cls:=.ref C,data:=.fields #[.ref h.objs.size,.none,.none,.none,.bool false,.none] }=h1
  have kp:∀b o,h.get? b=some o→h1.get? b=some o:=fun b o eb=>by rw [← hh1];exact Heap.get?_push_of_some _ (Heap.get?_push_of_some _ eb)
  have hget:h1.get? (h.objs.size+1)=some { cls:=.ref C,data:=.fields #[.ref h.objs.size,.none,.none,.none,.bool false,.none] }:=by rw [← hh1];heap_get
  have htup:h1.get? h.objs.size=some { cls:=.type "tuple",data:=.seq rest.toArray }:=by rw [← hh1];exact Heap.get?_push_of_some _ (Heap.get?_push_at rfl rfl)
  have hC₁:=kp _ _ hC
  have hn₁:=hn.keeps kp
  have T₁:=T.keeps kp
  have hcC:(Value.ref C::bm).contains (.ref C)=true:=by simp
  unfold isInstance
  repeat (first | with_reducible refine wpAny_loadPart_at hget ?_ | (with_reducible refine wpAny_isSubtype_exc hC₁ ?_;rw [hcC]) | wp_step)
  show wpAny _ _ (typeLookup (.ref C) _) _ _ _
  refine wpAny_typeLookup_tail hC₁ hn₁ T₁ F.mroIs F.init.lookup ?_
  rw [hi]
  refine wpAny_holding (wpAny_bind ?_)
  unfold bindSpecial
  refine wpAny_bind (wpAny_typeOf (T := "function") ⟨_,kp _ _ hfI,hfc⟩ ?_)
  rw [if_pos (by decide)]
  refine wpAny_pure (wpAny_bind (wpAny_mono (hq h1 (h.objs.size+1) ⟨kp,Heap.get?_none_of_le (Nat.le_succ _),h.objs.size,hget,Heap.get?_none_of_le (Nat.le_refl _),htup⟩ (Nat.le_succ _)) (fun r s' hr=>?_) fun _ _ z=>z))
  obtain ⟨rfl,hQ⟩:=hr
  wp_walk
  exact hQ
theorem call_own (F:ExcBaseFacts B newId initId bmB) (T:OwnTail h bmB bm) {mN:Str→Option Value} {rest:List Value} {fI:Addr} {oI:Obj} {Q:Value→Shared→Prop}
    (hC:h.get? C=some (excClassObj nm q C N bs bm hdct sn sub ab col dd k0 k1 k2 k3 k5 newId)) (hn:h.Ns N mN) (hi:mN "__init__"=some (.ref fI)) (hfI:h.get? fI=some oI) (hfc:oI.cls=.type "function")
    (hq:∀h' e,Heap.MadeExcOf h h' e (.ref C) rest→h.objs.size≤e→wpAny (model prog w) (A.under (.builtin "type.__call__" ⟨.ref C::rest,[]⟩)) (call (.ref fI) (.ref e::rest)) (fun r s'=>r=.none∧Q (.ref e) s') E ⟨h',g,d,tk,os⟩) (hrest:rest.length≤sizeLine) :
    wpAny (model prog w) A (call (.ref C) rest) Q E ⟨h,g,d,tk,os⟩:=by
  have f1:=tc_lookup
  have f2:=tc_bind (.ref C)
  have hT:(⟨h,g,d,tk,os⟩:Shared).TypeIs (.ref C) "type":=⟨_,hC,rfl⟩
  refine wpAny_call (codeAny_of_tree ?_)
  show wpAny _ _ (callAny (.ref C) _) _ _ _
  repeat (any_goals (first | assumption | with_reducible refine wpAny_loadPart_at hC ?_ | wp_step))
  refine ⟨rfl,?_⟩
  exact codeAny_call_builtin_at (Code.quiet_builtin _ (by decide +kernel)) entry_typeCall (wpAny_check_type_call_sub hC (type_call_own F T hC hn hi hfI hfc hq hrest))
end
section
variable {prog:Program} {w:World} {A:Around} {E:Value→Shared→Prop} {s:Shared} {env:Env}
variable {nm q:Str} {C N:Addr} {bs bm bmB:List Value} {hdct:Bool} {sn:List Str} {sub:List Value} {ab:Bool} {col:Option Bool} {dd:Option Addr} {k0 k1 k2 k3 k5:Option Value} {B newId initId:String}
theorem raise_stmt_own {x:Sem Value} {Q:Flow→Shared→Prop} (hbase:bm.contains (.type "BaseException")=true) (hh:A.handled=none)
    (h:wpAny (model prog w) A x (fun v s₁=>∃e t dx,v=.ref e∧s₁.heap.get? C=some (excClassObj nm q C N bs bm hdct sn sub ab col dd k0 k1 k2 k3 k5 newId)∧s₁.heap.get? e=some (exObj C dx t)∧E (.ref e) s₁) E s) :
    wpAny (model prog w) A (raiseStmt env (some x) none) Q E s:=by
  have hcB:(Value.ref C::bm).contains (.type "BaseException")=true:=by rw [List.contains_cons,hbase,Bool.or_true]
  unfold raiseStmt
  refine wpAny_bind (wpAny_mono h (fun v s₁ h₁=>?_) fun _ _ x=>x)
  obtain ⟨e,t,dx,rfl,hC,he,hE⟩:=h₁
  obtain ⟨hp,g,d,tk,os⟩:=s₁
  unfold exObj at he
  repeat (first | with_reducible refine wpAny_loadPart_at he ?_ | with_reducible refine wpAny_loadPart_at hC ?_ | (with_reducible refine wpAny_isSubtype_exc hC ?_;rw [hcB]) | wp_step)
  exact wpAny_raiseNew_none hh hE
theorem raise_own (F:ExcBaseFacts B newId initId bmB) {mN:Str→Option Value} {x:Str} {np cpos pos:Pos} {args:List Expr} {fI:Addr} {oI:Obj} {Q:Flow→Shared→Prop}
    (hbase:bm.contains (.type "BaseException")=true) (hh:A.handled=none) (hplain:(backTo cpos (starEach args env)).any (·.1)=false) (hi:mN "__init__"=some (.ref fI)) (hfc:oI.cls=.type "function")
    (h:wpAny (model prog w) A (eval (.Name x np) env) (fun f s₁=>f=.ref C∧wpAny (model prog w) A (evalArgs (.ref C) true (backTo cpos (starEach args env)) [])
      (fun a s₂=>a.kw=[]∧a.pos.length≤sizeLine∧s₂.heap.get? C=some (excClassObj nm q C N bs bm hdct sn sub ab col dd k0 k1 k2 k3 k5 newId)∧s₂.heap.Ns N mN∧OwnTail s₂.heap bmB bm∧s₂.heap.get? fI=some oI ∧
        ∀h' e,Heap.MadeExcOf s₂.heap h' e (.ref C) a.pos→s₂.heap.objs.size≤e→wpAny (model prog w) (A.under (.builtin "type.__call__" ⟨.ref C::a.pos,[]⟩)) (call (.ref fI) (.ref e::a.pos))
          (fun r s'=>r=.none∧∃t dx,s'.heap.get? C=some (excClassObj nm q C N bs bm hdct sn sub ab col dd k0 k1 k2 k3 k5 newId)∧s'.heap.get? e=some (exObj C dx t)∧E (.ref e) s') E { s₂ with heap:=h' }) E s₁) E s) :
    wpAny (model prog w) A (exec (.Raise (some (.Call (.Name x np) args [] cpos)) none pos) env) Q E s:=by
  rw [arm_exec_Raise]
  refine wpAny_bind (wpAny_standAt (raise_stmt_own (C:=C) (nm:=nm) (q:=q) (N:=N) (bs:=bs) (bm:=bm) (hdct:=hdct) (sn:=sn) (sub:=sub) (ab:=ab) (col:=col) (dd:=dd) (k0:=k0) (k1:=k1) (k2:=k2) (k3:=k3) (k5:=k5) (newId:=newId) hbase hh ?_))
  refine wpAny_bind (wpAny_mono (wpAny_Call_ofName (wpAny_mono h (fun f s₁ h₁=>?_) fun _ _ x=>x)) (fun v s₃ h₃=>wpAny_bind (wpAny_standAt (wpAny_pure h₃))) fun _ _ x=>x)
  obtain ⟨rfl,h₁⟩:=h₁
  unfold callWith
  refine wpAny_bind (wpAny_holding (wpAny_mono h₁ (fun a s₂ h₂=>wpAny_bind (wpAny_standAt ?_)) fun _ _ x=>x))
  obtain ⟨apos,akw⟩:=a
  obtain ⟨hkw,hlen,hC,hn,T,hfI,h₂⟩:=h₂
  obtain rfl:akw=[]:=hkw
  obtain ⟨hp,g,d,tk,os⟩:=s₂
  simp only [hplain]
  refine wpAny_bind (wpAny_keeperOf_exc hC ?_)
  refine wpAny_bind (call_own F T hC hn hi hfI hfc (fun h' e hm hle=>wpAny_mono (h₂ h' e hm hle) (fun r s' ⟨hr,t,dx,z⟩=>⟨hr,wpAny_bind (wpAny_holding (wpAny_point (wpAny_pure ⟨e,t,dx,rfl,z⟩)))⟩) fun _ _ z=>z) hlen)
end
end My

namespace My
open PySem PySem.Spec PyProof.Rows L2 Mth
theorem refuse_tail {h:Heap} {bmB bm:List Value} {self:Value} {what:Str} (T:OwnTail h bmB bm) (hp:refuseLoop self what bmB=pure ()):refuseLoop self what bm=pure ():=by
  induction T with
  | base=>exact hp
  | own _ _ _ _ ih=>rw [refuseLoop_ref];exact ih
section
variable {prog:Program} {w:World} {A:Around} {E:Value→Shared→Prop} {h:Heap} {g:Array GenState} {d:Drawn} {tk:Nat} {os:OsState} {K:PySem.W.Frag}
variable {nm q:Str} {C N e t0:Addr} {bs bm bmB:List Value} {sn:List Str} {sub:List Value} {ab:Bool} {col:Option Bool} {dd:Option Addr} {k0 k1 k2 k3 k5:Option Value} {B newId owner:String} {name:Str} {v:Value}
theorem check_store {M:Model} {o:Obj} {nameV:Value} {Q:Unit→Shared→Prop} {sa:String} (SF:StoreFacts B bmB sa owner) (T:OwnTail h bmB bm)
    (hC:h.get? C=some (excClassObj nm q C N bs bm true sn sub ab col dd k0 k1 k2 k3 k5 newId)) (hx:h.get? e=some o) (hc:o.cls=.ref C) (hq:Q () ⟨h,g,d,tk,os⟩) :
    wpAny M A (checkBuiltinCall sa ⟨[.ref e,nameV,v],[]⟩) Q E ⟨h,g,d,tk,os⟩:=by
  have hcB:(Value.ref C::bm).contains (.type owner)=true:=by rw [List.contains_cons,T.hasType SF.hasOwner,Bool.or_true]
  have ha:=SF.args (.ref e) nameV v
  simp only [checkBuiltinCall,SF.kind,SF.split]
  refine wpAny_bind ?_
  unfold isInstance
  repeat (first | (with_reducible refine wpAny_loadPart_at hx ?_;rw [hc]) | (with_reducible refine wpAny_isSubtype_exc hC ?_;rw [hcB]) | wp_step)
  cases hsig:Manifest.signature? sa with
  | none=>exact wpAny_pure hq
  | some sig=>
    simp only [argsOk,hsig] at ha
    have h2:Bind.checkArgs sa sig ⟨[.ref e,nameV,v],[]⟩=pure ():=ha
    show wpAny M A (Bind.checkArgs sa sig ⟨[.ref e,nameV,v],[]⟩) Q E _
    rw [h2]
    exact wpAny_pure hq
theorem store_own {Q:Unit→Shared→Prop} (SF:StoreFacts B bmB "object.__setattr__" owner) (T:OwnTail h bmB bm) (X:K.In h) (hC:h.get? C=some (excClassObj nm q C N bs bm true sn sub ab col dd k0 k1 k2 k3 k5 newId))
    (hs:PySem.W.findIn K (.ref C) "__setattr__"=some (some (.builtin "object.__setattr__"))) (hf:PySem.W.findIn K (.ref C) name=some none) (he:h.get? e=some (exObj C none t0))
    (hq:∀h' tk',(∀b o,b≠e→h.get? b=some o→h'.get? b=some o)→h'.get? e=some (exObj C (some h.objs.size) t0)→h'.Ns1 h.objs.size (fun y=>if y=name then some v else none)→Q () ⟨h',g,d,tk',os⟩) :
    wpAny (model prog w) A (setAttr (.ref e) name v) Q E ⟨h,g,d,tk,os⟩:=by
  have hx:=he
  unfold exObj at hx
  refine PySem.W.set_plain (s:=⟨h,g,d,tk,os⟩) X (C:=C) (ox:=exObj C none t0) (od:=none) ⟨he,rfl,rfl,True.intro⟩ hs ?_
  show codeAny _ _ _ _ ⟨h,g,d,tk+1,os⟩
  refine codeAny_call_builtin SF.slot.plain SF.entry ?_
  have hcls:(exObj C none t0).cls=.ref C:=rfl
  have ck:∀{Q':Unit→Shared→Prop} {E':Value→Shared→Prop} {A':Around},Q' () ⟨h,g,d,tk+1,os⟩→wpAny (model prog w) A' (checkBuiltinCall "object.__setattr__" ⟨[.ref e,.str name tk,v],[]⟩) Q' E' ⟨h,g,d,tk+1,os⟩:=fun {Q' E' A'} z=>@check_store A' E' h g d (tk+1) os nm q C N e bs bm bmB sn sub ab col dd k0 k1 k2 k3 k5 B newId owner v (model prog w) (exObj C none t0) (.str name tk) Q' "object.__setattr__" SF T hC he hcls z
  generalize hB:Builtin.«object.__setattr__»=BB
  refine ck ?_
  subst hB
  have hpass:=refuse_tail T (SF.passes (.ref e))
  have look:∀{Q:Option Value→Shared→Prop} {A':Around} {E':Value→Shared→Prop} {tk':Nat},Q none ⟨h,g,d,tk',os⟩→wpAny (model prog w) A' (typeLookup (.ref C) name) Q E' ⟨h,g,d,tk',os⟩:=fun {Q A' E' tk'} z=>(PySem.W.looks_findIn (M:=model prog w) X hf).here z
  clear hx
  have hc:∃o:Obj,h.get? e=some o∧o.cls=.ref C∧o.dict=none∧(∀c,o.data≠.cls c)∧{ cls:=o.cls,dict:=some h.objs.size,data:=o.data,slots:=o.slots }=exObj C (some h.objs.size) t0∧o.isFreed=false:=⟨_,he,rfl,rfl,fun c z=>(by cases z),rfl,rfl⟩
  obtain ⟨o,hx,hc,hdn,hnc,hsame,hfr⟩:=hc
  unfold Builtin.«object.__setattr__»
  repeat (first | rw [refuse_eq] | (rw [refuseLoop_ref,hpass]) | (with_reducible refine wpAny_loadPart_at hx ?_;rw [hc]) | with_reducible refine wpAny_mroOf_exc hC ?_ | with_reducible refine look ?_ | wp_step)
  rw [hdn,if_neg (by simp [typeHasDict])]
  split
  · rename_i hcd
    cases hcd
  split
  · rename_i c hcd
    exact absurd hcd (hnc c)
  have hx₁:(h.push { cls:=.type "dict",data:=.dict #[] }).get? e=some o:=Heap.get?_push_of_some _ hx
  have hxs:e≠h.objs.size:=Nat.ne_of_lt (Heap.lt_size hx)
  refine wpAny_bind (wpAny_alloc' (wpAny_bind (wpAny_update' hx₁ (wpAny_pure ?_))))
  have hgd:((h.push { cls:=.type "dict",data:=.dict #[] }).update e fun o=>{ cls:=o.cls,dict:=some h.objs.size,data:=o.data,slots:=o.slots }).get? h.objs.size=some { cls:=.type "dict",data:=.dict #[] }:=
    (Heap.get?_update_ne _ _ _ _ hxs.symm).trans (Heap.get?_push_at rfl rfl)
  show wpAny _ _ (Builtin.ObjectAttr.storeInDict h.objs.size (.str name tk) name v) _ _ _
  unfold Builtin.ObjectAttr.storeInDict Builtin.ObjectAttr.newKeyGuard
  refine wpAny_bind (wpAny_pure (wpAny_bind (wpAny_nsSet1 (Heap.Ns1.of_empty ⟨_,#[],_,hgd,rfl,fun e he=>absurd he (by simp),fun _=>rfl⟩) fun h' hn' hs=>?_)))
  obtain ⟨oD,esD,epD,hoD,hdD,hcD⟩:=hn'.count (Within.cons name v Within.nil)
  refine wpAny_bind (wpAny_lookBehind hoD (by rw [hdD];exact pastItsLine_dict (Nat.le_trans hcD (by rw [List.length_cons,List.length_nil,sizeLine_eq];omega))) ?_)
  wp_walk
  refine hq h' _ (fun b ob hbx hb=>(hs.2 b (Nat.ne_of_lt (Heap.lt_size hb))).trans ((Heap.get?_update_ne _ _ _ _ hbx).trans (Heap.get?_push_of_some _ hb))) ?_ hn'
  rw [← hsame]
  refine (hs.2 e hxs).trans (Heap.get?_update_self _ hx₁ ?_)
  obtain ⟨oc,od,odt,osl⟩:=o
  cases odt <;> first | rfl | exact hfr
end
end My

namespace My
open PySem PySem.Spec PyProof.Rows L2 Mth
noncomputable def ownInit (K:PySem.W.Frag) (C fI:Addr):Bool:=match K.lookup C with
  | some ⟨.type "type",_,.cls cd,sl⟩=>(match cd.mro,sl.toList with
    | .ref C'::bm,[_,_,_,_,some (.builtin n),_]=>C'==C&&n == "ValueError.__new__"&&!cd.hasDel&&cd.hasDict&&PySem.W.tailIn K [.type "ValueError",.type "Exception",.type "BaseException",.type "object"] bm&&PySem.W.nsOkIn K cd.ns&&PySem.W.nsIn K cd.ns "__init__"==some (some (.ref fI))
    | _,_=>false)
  | _=>false
structure Xi (K:PySem.W.Frag) (mg:Str→Option Value) (x:Str) (C fI:Addr):Prop where
  at_:mg x=some (.ref C)
  is_:ownInit K C fI=true
  set_:PySem.W.findIn K (.ref C) "__setattr__"=some (some (.builtin "object.__setattr__"))
  att_:PySem.W.findIn K (.ref C) "at"=some none
  self_:PySem.W.exmOne K (.ref C) (.ref C)=some true
theorem ns_some {K:PySem.W.Frag} {h:Heap} {N:Addr} {mg:Str→Option Value} {n:Str} {v:Value} (X:K.In h) (G:h.Ns N mg) (e:PySem.W.nsIn K N n=some (some v)):mg n=some v:=by
  obtain ⟨o,es,ep,ho,hd,_,hf⟩:=G
  unfold PySem.W.nsIn at e
  split at e
  · rename_i q
    have:=X _ _ q
    rw [ho] at this
    cases this
    cases hd
    split at e
    · rename_i he
      rw [← hf]
      unfold nsFind findBy
      rw [← Array.find?_toList,he]
      cases e
      rfl
    · split at e <;> cases e
  · cases e
theorem Xi.obj {K:PySem.W.Frag} {mg:Str→Option Value} {x:Str} {C fI:Addr} {h:Heap} (X:K.In h) (c:Xi K mg x C fI):∃bm N nm q bs sn sub ab col dd k0 k1 k2 k3 k5 mN,h.get? C=some (excClassObj nm q C N bs bm true sn sub ab col dd k0 k1 k2 k3 k5 "ValueError.__new__")∧h.Ns N mN∧mN "__init__"=some (.ref fI)∧OwnTail h [.type "ValueError",.type "Exception",.type "BaseException",.type "object"] bm:=by
  have q:=c.is_
  unfold ownInit at q
  split at q
  · next dd cd sl ho=>
    split at q
    · next C' bm a0 a1 a2 a3 n a5 hm hs=>
      simp only [Bool.and_eq_true,beq_iff_eq,Bool.not_eq_true'] at q
      obtain ⟨⟨⟨⟨⟨⟨e1,e2⟩,e3⟩,ed⟩,e4⟩,e5⟩,e6⟩:=q
      subst e1 e2
      obtain ⟨f1,f2,f3,f4,f5,f6,f7,f8,f9,f10,f11⟩:=cd
      dsimp only at hm e3 e5 e6 ed
      subst hm e3 ed
      obtain ⟨sll⟩:=sl
      have hs':sll=[a0,a1,a2,a3,some (.builtin _),a5]:=hs
      subst hs'
      have hN:=Heap.Ns.of_isNs (PySem.W.isNs_of_in X e5)
      refine ⟨bm,f4,f1,f5,f2,f7,f8,f9,f10,dd,a0,a1,a2,a3,a5,_,X _ _ ho,hN,?_,PySem.W.tail_of_in X e4⟩
      exact ns_some X hN e6
    · cases q
  · cases q
section
variable {X:Cx}
theorem upd_id {H:Hp} {a:Addr} {o:HO} (h:H a=some o):upd H a o=H:=funext fun b=>by
  unfold upd
  split
  · next z=>rw [z,h]
  · rfl
noncomputable def tBI (K:PySem.W.Frag) (ta:TA):TE:=fun σ H Q=>ta σ H fun vs H1=>∃(e C fI:Addr) (x:Str) (mg:Str→Option Value) (dx:Option Addr) (v:V),vs=[.ref e,v]∧H1 e=some (.ext (ExO e C dx))∧Xi K mg x C fI∧Q .non H1
theorem pe_baseInit {pl:Sem Bool} {x:Str} {Lc:Addr} {mc:Value} {a1:Expr} {es:List Expr} {ta:TA} {np apos cpos:Pos} (hg:Gl X x) (hm:X.mg x=some (.ref Lc)) (hsp:PySem.W.specialIn X.K (.ref Lc) "__getattribute__"=some (some (.builtin "type.__getattribute__"))) (hr:PySem.W.readsIn X.K Lc mc=true)
    (hf:PySem.W.findCls X.K (.ref Lc) mc "__init__"=some (.val (.builtin "ValueError.__init__"))) (ha:PA X (a1::es) ta) (hd:autoParam ((x==("__debug__":Str))=false) au1_._auto_1)
    (hs:autoParam (starEach (a1::es) X.env=(false,eval a1 X.env)::starEach es X.env) au0_._auto_1) (hplain:autoParam ((backTo cpos (starEach es X.env)).any (·.1)=false) au0_._auto_1)
    (ht:autoParam (eval (.Call (.Attribute (.Name x np) "__init__" apos) (a1::es) [] cpos) X.env=(do
      let ov ← eval (.Name x np) X.env
      standAt apos.atName
      let (f,first) ← holding [ov] (getMethod ov "__init__" pl)
      callWith cpos f first (backTo cpos (starEach (a1::es) X.env)) (backToKw cpos (keywordEach [] X.env)))) au0_._auto_1) :
    PE X (.Call (.Attribute (.Name x np) "__init__" apos) (a1::es) [] cpos) (tBI X.K ta):=by
  intro pins s σ H Q I h
  refine PySem.W.methodCall_KW (pl:=pl) (ld_glob I hg hm ?_ hd) ht
  refine PySem.W.method_cls I.kIn hsp (PySem.W.cls_value I.kIn hr hf rfl ?_)
  have hA:=ha cpos pins _ σ H _ (I.tok (s.toks+1)) h
  rw [hs] at hA ⊢
  refine Calls.callWith_builtin (by show (false||(backTo cpos (starEach es X.env)).any (·.1))=false;rw [hplain];rfl) (Calls.evalArgs_plain (thn hA fun us s2 ⟨vs,H2,I2,r2,e,C,fI,x',mg',dx,v,hvs,hH,c,q⟩=>?_))
  subst hvs
  obtain ⟨u1,u2,rfl,r1,r3⟩:=vals2 r2
  cases (show u1=Value.ref e from r1)
  obtain ⟨bm,N,nm,qq,bs,sn,sub,ab,col,dd,k0,k1,k2,k3,k5,mN,hC,hN,hi,T⟩:=c.obj I2.kIn
  obtain ⟨⟨t0,he⟩,_,hst⟩:=I2.hok e _ hH
  obtain ⟨h2,g2,d2,tk2,os2⟩:=s2
  refine init_run PySem.F.excBase_ValueError T hC he fun h' kp hx=>?_
  obtain ⟨t1,he1⟩:=id hx
  have I3:=I2.write (h':=h') (x:=e) (e:=e) (o:=.ext (ExO e C dx)) (t':=tk2) (by rw [hH];exact True.intro) (.inl rfl) (fun b u hb eb=>kp b u hb eb) ⟨_,he1⟩ ⟨hx,⟨_,he1⟩,hst⟩
  rw [upd_id hH] at I3
  exact ⟨.non,H2,I3,rfl,q⟩
noncomputable def gAt (K:PySem.W.Frag) (to:TE):TG:=fun v σ H R=>to σ H fun x H1=>∃(e C fI:Addr) (y:Str) (mg:Str→Option Value),x=.ref e∧H1 e=some (.ext (ExO e C none))∧Xi K mg y C fI∧∀d:Addr,H1 d=none→R σ (upd (upd H1 d (.xd [("at",v)])) e (.ext (ExO e C (some d))))
theorem pg_at {o:Expr} {to:TE} {pos:Pos} (ho:PE X o to)
    (ha:autoParam (∀v,assign (.Attribute o "at" pos) X.env v=(do
      let ov ← holding [v] (eval o X.env)
      standAt pos.atName
      holding [v,ov] (setAttr ov "at" v)
      release [v,ov] [])) au2_._auto_1):PG X (.Attribute o "at" pos) (gAt X.K to):=by
  intro pins s σ H v u Q I r h
  rw [ha]
  refine wpAny_bind (wpAny_holding (thn (ho pins s σ H _ I h) fun ov s1 ⟨x,H1,I1,r1,e,C,fI,y,mg,hx,hH,c,q⟩=>?_))
  subst hx
  cases (show ov=Value.ref e from r1)
  refine wpAny_bind (wpAny_standAt (wpAny_bind (wpAny_holding ?_)))
  obtain ⟨bm,N,nm,qq,bs,sn,sub,ab,col,dd,k0,k1,k2,k3,k5,mN,hC,hN,hi,T⟩:=c.obj I1.kIn
  obtain ⟨⟨t0,he⟩,_,hst⟩:=I1.hok e _ hH
  obtain ⟨h1,g1,d1,tk1,os1⟩:=s1
  refine store_own PySem.F.store_ValueError T I1.kIn hC c.set_ c.att_ he fun h' tk' kp he' hns=>?_
  have hd1:H1 h1.objs.size=none:=I1.hok.fresh (Nat.le_refl _)
  obtain ⟨oD,es,ep,hoD,hrest⟩:=hns
  have fr:=(Heap.get?_some_iff.mp hoD).2
  have hm:(h1.push oD).get? h1.objs.size=some oD:=Heap.get?_push_size h1 fr
  have hlook:∀f:Str,RelO (([("at",v)]:List (Str×V)).lookup f) (if f = "at" then some u else none):=fun f=>by
    by_cases z:f = "at"
    · subst z
      rw [if_pos rfl]
      exact r
    · rw [if_neg z]
      have:([("at",v)]:List (Str×V)).lookup f=none:=by
        simp only [List.lookup]
        rw [beq_false_of_ne z]
      rw [this]
      exact True.intro
  have I2:=I1.laid (h':=h1.push oD) (a:=h1.objs.size) (o:=.xd [("at",v)]) (t':=tk') (fun b w eb=>Heap.get?_push_of_some _ eb) (Nat.le_refl _) ⟨_,⟨oD,es,ep,hm,hrest⟩,hlook⟩
  have hne:e≠h1.objs.size:=Nat.ne_of_lt (Heap.lt_size he)
  have hH2:upd H1 h1.objs.size (.xd [("at",v)]) e=some (.ext (ExO e C none)):=by rw [upd_ne hne];exact hH
  have I3:=I2.write (h':=h') (x:=e) (e:=e) (o:=.ext (ExO e C (some h1.objs.size))) (t':=tk') (by rw [hH2];exact True.intro) (.inl rfl) (fun b w hb eb=>?_) ⟨_,he'⟩ ⟨⟨t0,he'⟩,⟨_,he'⟩,fun g1 g2 ⟨t,z⟩ k=>⟨t,k _ z⟩⟩
  · refine wpAny_release ⟨σ,_,I3,q _ hd1⟩
  · have eb:(h1.push oD).get? b=some w:=eb
    by_cases z:b=h1.objs.size
    · subst z
      rw [hm] at eb
      cases eb
      exact hoD
    · refine kp b w hb ?_
      obtain ⟨eo,ef⟩:=Heap.get?_some_iff.mp eb
      refine Heap.get?_some_iff.mpr ⟨?_,ef⟩
      obtain ⟨objs,l⟩:=h1
      have eo:(objs.push oD)[b]?=some w:=eo
      rw [Array.getElem?_push] at eo
      rw [if_neg z] at eo
      exact eo
end
end My

namespace My
open PySem PySem.Spec PyProof.Rows L2 Mth
noncomputable def spIni (C:Addr):Sp:=fun vs H Q _=>∃(e:Addr) (i:Int),vs=[.ref e,.int i]∧H e=some (.ext (ExO e C none))∧i.natAbs.log2<1920∧∀d,H d=none→Q .non (upd (upd H d (.xd [("at",.int i)])) e (.ext (ExO e C (some d))))
structure Di (P:Program) (w:World) (K:PySem.W.Frag) (mg:Str→Option Value) (base:Heap) (k:Nat) (x:Str) (C:Addr):Prop where
  ex:∃(f:Addr) (fd:FuncData),FnOk P w K mg base CX0 k f fd ["self","at"] (spIni C)∧Xi K mg x C f∧Binds K fd ["self","at"] []∧PySem.W.isFn K (.ref f)=true
section
variable {X:Cx}
theorem run_init {pins:List (Addr×Obj)} {σ:L2.St} {H:Hp} {s:Shared} {k:Nat} {f e C:Addr} {fd:FuncData} {i:Int} {u:Value} (F:FnOk X.prog X.w X.K X.mg X.base CX0 k f fd ["self","at"] (spIni C)) (hr:Room (k+1) X.A) (hb:Binds X.K fd ["self","at"] [])
    (I:L2.Inv X pins σ H s) (hH:H e=some (.ext (ExO e C none))) (hi:i.natAbs.log2<1920) (r:L2.RelV (.int i) u) {Q:Value→Shared→Prop} {E:Value→Shared→Prop}
    (hq:∀(d:Addr) (s':Shared),H d=none→L2.Inv X pins σ (upd (upd H d (.xd [("at",.int i)])) e (.ext (ExO e C (some d)))) s'→Q .none s') :
    wpAny (model X.prog X.w) (X.A.under (.builtin "type.__call__" ⟨[.ref C,u],[]⟩)) (call (.ref f) [.ref e,u]) Q E s:=by
  have r2:Vals [V.ref e,.int i] [Value.ref e,u]:=.cons rfl (.cons r .nil)
  refine wpAny_call (codeAny_mono (F.run _ X.stack _ _ ⟨[.ref e,u],[]⟩ [.ref e,u] [.ref e,.int i] (fun v H3=>v=.non∧∃d,H d=none∧H3=upd (upd H d (.xd [("at",.int i)])) e (.ext (ExO e C (some d)))) E0 (hr.make C [u] []) (I.env0.make C [u] []) (hb _ [.ref e,u] I.kIn rfl) r2 ⟨e,i,rfl,hH,hi,fun d hd=>⟨rfl,d,hd,rfl⟩⟩) fun r s' hq'=>?_)
  cases r with
  | error e=>exact False.elim hq'
  | ok fl=>
    cases fl with
    | ret u=>
      obtain ⟨v,H',I3,rv,ev,d,hd,e3⟩:=I.after hq'
      subst ev e3
      cases (show u=Value.none from rv)
      exact hq d s' hd I3
    | next=>exact False.elim hq'
    | brk=>exact False.elim hq'
    | cont=>exact False.elim hq'
theorem inv_drop {pins:List (Addr×Obj)} {σ:L2.St} {H H':Hp} {s:Shared} {e:Addr} {φ:Heap→Prop} (I:L2.Inv X pins σ H s) (hH:H e=some (.ext φ)) (he:H' e=none) (hne:∀b,b≠e→H' b=H b):L2.Inv X pins σ H' s:=by
  have ne:∀{b:Addr} {o:HO},H b=some o→(∀ψ,o≠.ext ψ)→H' b=some o:=fun {b o} hb hn=>by
    rw [hne b (fun z=>by subst z;rw [hH] at hb;cases hb;exact hn _ rfl)];exact hb
  have no:∀b,H b=none→H' b=none:=fun b hb=>by
    by_cases z:b=e
    · rw [z];exact he
    · rw [hne b z];exact hb
  refine ⟨I.ok,I.os,I.bare,?_,I.loc,I.cell,no _ I.free,fun x c q=>no _ (I.freeC x c q),fun p hp=>?_,?_,I.len⟩
  · have B:=I.base
    refine ⟨B.keep,B.slot,fun b o q n hx=>no _ (B.free b o q n hx),B.there,fun b xs q=>ne (B.tups b xs q) (fun ψ z=>by cases z),fun b o u q=>ne (B.frzs b o u q) (fun ψ z=>by cases z),fun b ps q=>?_⟩
    obtain ⟨more,z⟩:=B.tbls b ps q
    exact ⟨more,ne z (fun ψ z=>by cases z)⟩
  · obtain ⟨a,b,c⟩:=I.pin p hp
    exact ⟨a,no _ b,c⟩
  · intro b o hb
    by_cases z:b=e
    · rw [z,he] at hb;cases hb
    · rw [hne b z] at hb
      exact (I.hok b o hb).stay (fun c v _ q=>q) (fun c q=>ne q (fun ψ z=>by cases z)) fun c xs q=>ne q (fun ψ z=>by cases z)
end
section
variable {P:Program} {w:World} {K:PySem.W.Frag} {mg:Str→Option Value} {base:Heap} {N:List Str} {qual:Str} {scope:Scope} {f:Addr} {cd:Value} {A:Around} {outer:List Env} {s0:Shared} {H0:Hp} {E:XK}
theorem left_own {pins:List (Addr×Obj)} {σ:L2.St} {H:Hp} {s:Shared} {e C t:Addr} {dx:Option Addr} (I:L2.Inv (cxOf (CXe P w) P w K mg base N qual scope f cd A outer s0 H0 E) pins σ H s) (hH:H e=none) (h0:s0.heap.get? e=none) (he:s.heap.get? e=some (exObj C dx t)) (hE:E (.ref C) dx H) :
    (cxOf (CXe P w) P w K mg base N qual scope f cd A outer s0 H0 E).xe (.ref e) s:=by
  have hin:∀env∈(envOfC qual scope s0.heap.objs.size f cd::outer),∀b,env.frame=some b→b∈e::frs (envOfC qual scope s0.heap.objs.size f cd::outer):=fun env he b hb=>List.mem_cons_of_mem _ (List.mem_filterMap.mpr ⟨env,he,hb⟩)
  have fr0:s.heap.FunFrames (PySem.W.hideAll s.heap (e::frs (envOfC qual scope s0.heap.objs.size f cd::outer))) (envOfC qual scope s0.heap.objs.size f cd::outer):=PySem.W.funFrames_hide (base:=base) I.stack hin
  have hen:(PySem.W.hideAll s.heap (e::frs (envOfC qual scope s0.heap.objs.size f cd::outer))).get? e=none:=PySem.W.hideAll_none _ (.head _)
  refine kp_use (R:=fun h2=>Heap.FlyingW (PySem.W.hideAll s.heap (e::frs (envOfC qual scope s0.heap.objs.size f cd::outer))) outer e (.ref C) (.ref t) h2∧s.heap.UpToSlots h2) kp_leaving
    (fun Q0 hQ0=>wpAny_leaving_firstW (a0:=.ref t) I.ok.frames fr0 rfl he (fun b o q=>PySem.W.of_hideAll _ q) hen rfl rfl rfl fun h' hL=>?_) (fun h2 ⟨fly,up⟩ dk=>?_)
  · obtain ⟨k1,⟨_,_,k2⟩,k3,k4⟩:=hL
    exact hQ0 h' ⟨⟨k1,hen,k2,k3⟩,k4⟩
  refine left_fin I fr0 (fun b o q hb hn=>?_) fly up (DictAt.dk ⟨_,he,rfl⟩ dk) hE
  refine PySem.W.hideAll_get _ q fun z=>?_
  rcases List.mem_cons.mp z with z | z
  · subst z
    rcases hb with hb | hb
    · exact hb hH
    · exact hb h0
  · exact hn z
noncomputable def tRaiseI (ta:TA) (E:XK) (C:Addr):TS:=fun _ σ H=>ta σ H fun vs H1=>∃i:Int,vs=[.int i]∧i.natAbs.log2<1920∧∀d:Addr,H1 d=none→E (.ref C) (some d) (upd H1 d (.xd [("at",.int i)]))
theorem ps_raiseI {x:Str} {C:Addr} {k:Nat} {a:Expr} {ta:TA} {np cpos pos:Pos} (D:Di P w K mg base k x C) (hr:Room (k+1) (cxOf (CXe P w) P w K mg base N qual scope f cd A outer s0 H0 E).A) (hg:Gl (cxOf (CXe P w) P w K mg base N qual scope f cd A outer s0 H0 E) x)
    (ha:PA (cxOf (CXe P w) P w K mg base N qual scope f cd A outer s0 H0 E) [a] ta) (hd:autoParam ((x==("__debug__":Str))=false) au1_._auto_1)
    (he:autoParam (starEach [a] (envOfC qual scope s0.heap.objs.size f cd)=[(false,eval a (envOfC qual scope s0.heap.objs.size f cd))]) au0_._auto_1) :
    PS (cxOf (CXe P w) P w K mg base N qual scope f cd A outer s0 H0 E) (.Raise (some (.Call (.Name x np) [a] [] cpos)) none pos) (tRaiseI ta E C):=by
  intro pins s σ H DD I h
  obtain ⟨fI,fd,F,c,hb,hfn⟩:=D.ex
  obtain ⟨bm,nsp,nm,q,bs,sn,sub,ab,col,dd,k0,k1,k2,k3,k5,mN,hC,hN,hi,T⟩:=c.obj (show K.In base from I.ok.mod.kin)
  obtain ⟨oI,hoI,hfc⟩:=Option.map_eq_some_iff.mp (show (K.lookup fI).map (·.cls)=some (.type "function") from beq_iff_eq.mp hfn)
  have hbI:base.get? fI=some oI:=(show K.In base from I.ok.mod.kin) _ _ hoI
  refine raise_own (C:=C) (nm:=nm) (q:=q) (N:=nsp) (bs:=bs) (bm:=bm) (hdct:=true) (sn:=sn) (sub:=sub) (ab:=ab) (col:=col) (dd:=dd) (k0:=k0) (k1:=k1) (k2:=k2) (k3:=k3) (k5:=k5) (mN:=mN) (fI:=fI) (oI:=oI)
    PySem.F.excBase_ValueError (T.hasType (by decide)) (I.ok.hd rfl) ?_ hi hfc ?_
  · show (backTo cpos (starEach [a] (envOfC qual scope s0.heap.objs.size f cd))).any (·.1)=false
    rw [he]
    rfl
  refine wpAny_mono (L2.pe_glob hg c.at_ (show RelV (.ref C) (.ref C) from rfl) hd pins s σ H (fun v H1=>v=.ref C∧H1=H) I ⟨rfl,rfl⟩) (fun v s1 ⟨y,H1,I1,r1,e1,e2⟩=>?_) fun _ _ z=>z
  subst e1 e2
  cases r1
  refine ⟨rfl,?_⟩
  have hA:=ha cpos pins s1 σ H1 _ I1 h
  have he':starEach [a] (cxOf (CXe P w) P w K mg base N qual scope f cd A outer s0 H0 E).env=[(false,eval a (cxOf (CXe P w) P w K mg base N qual scope f cd A outer s0 H0 E).env)]:=he
  rw [he'] at hA ⊢
  refine Calls.evalArgs_plain (wpAny_mono hA (fun us s2 ⟨vs,H2,I2,r2,i,hvs,hi2,hE⟩=>?_) fun _ _ z=>z)
  subst hvs
  have kp:∀b o,base.get? b=some o→s2.heap.get? b=some o:=fun b o e=>(I2.bs b o e).1
  obtain ⟨u,rfl,ru⟩:=vals1 r2
  refine ⟨rfl,show 1≤sizeLine by decide,kp _ _ hC,hN.keeps kp,T.keeps kp,kp _ _ hbI,fun h' e hx hle=>?_⟩
  obtain ⟨t,ht,_⟩:=hx.there
  have I3:=I2.laid (h':=h') (a:=e) (o:=.ext (ExO e C none)) (t':=s2.toks) hx.keeps hle ⟨⟨t,ht⟩,⟨_,ht⟩,fun g1 g2 ⟨t,z⟩ k=>⟨t,k _ z⟩⟩
  have n2:H2 e=none:=I2.hok.fresh hle
  refine run_init F hr hb I3 upd_same hi2 ru fun d s' hd I4=>⟨rfl,?_⟩
  have hde:d≠e:=fun z=>by rw [z,upd_same] at hd;cases hd
  rw [upd_ne hde] at hd
  obtain ⟨⟨t4,he4⟩,_⟩:=I4.hok e _ upd_same
  refine ⟨t4,some d,(I4.bs _ _ hC).1,he4,?_⟩
  have I5:=inv_drop (H':=upd H2 d (.xd [("at",.int i)])) I4 upd_same (by rw [upd_ne (Ne.symm hde)];exact n2) (fun b hb=>by
    rw [upd_ne hb]
    by_cases z:b=d
    · rw [z,upd_same,upd_same]
    · rw [upd_ne z,upd_ne z,upd_ne hb])
  exact left_own I5 (by rw [upd_ne (Ne.symm hde)];exact n2) (Heap.get?_none_of_le (Nat.le_trans I2.sz hle)) he4 (hE d hd)
end
end My

namespace My
open PySem PySem.Spec PyProof.Rows PySem.W
section
variable {prog:Program} {w:World} {A:Around} {E:Value→Shared→Prop} {s:Shared} {K:PySem.W.Frag} {x C:Addr} {ox:Obj} {od:Option Obj} {name:Str} {expr:Bool} {Q:Value→Shared→Prop} {v:Value}
theorem getx (X:K.In s.heap) (I:PySem.W.InstAt s.heap x ox C od) (hga:findIn K (.ref C) "__getattribute__"=some (some (.builtin "BaseException.__getattribute__"))) (hk:findIn K (.ref C) "__getattr__"=some none) (hm:mroIn K C (.type "BaseException")=some true)
    (hf:findObj K C od name=some (.value v)) (hh:handedIn v=true) (h:Q v { s with toks:=s.toks+1 }):wpAny (model prog w) A (getAttr (.ref x) name expr) Q E s:=by
  obtain ⟨hh',g,d,t,os⟩:=s
  have L0:=I.type (M:=model prog w)
  have L1:=looks_findIn (M:=model prog w) X hga
  have L2:=looks_find (M:=model prog w) X I hf
  have FX:=PySem.F.excAttr_ValueError
  unfold getAttr getAttrBy
  refine wpAny_bind (wpAny_mkText (wpAny_holding (wpAny_bind (L0.at (wpAny_bind (L1.at ?_))))))
  show wpAny _ _ (if (onTheHeap (Value.ref C)&&(Value.builtin "BaseException.__getattribute__")==Value.builtin "object.__getattribute__")=true then _ else getAttrByItsOwn _ _ _ _ _ _) _ _ _
  rw [if_neg (by show ¬((true&&_)=true);decide +kernel)]
  unfold getAttrByItsOwn
  refine wpAny_bind ((looks_hook (M:=model prog w) (mc:=.ref C) X (r:=none) (show (if true=true then _ else _)=_ from by rw [if_pos rfl];exact hk)).at ?_)
  refine wpAny_bind (wpAny_attempt (wpAny_holding ?_))
  unfold callGetattribute
  have sub:Looks (model prog w) hh' (isInstance (.ref x) (.type "BaseException")) true:=L0.andThen (looks_mroIn X hm)
  rw [if_neg (show ¬((expr&&onTheHeap (Value.builtin "BaseException.__getattribute__"))=true) by cases expr <;> decide)]
  unfold boundAndCalled
  have f3:=FX.ga.bind (.ref x)
  rw [f3]
  refine wpAny_bind (wpAny_pure ?_)
  refine wpAny_call (codeAny_call_builtin FX.ga.plain PySem.F.entry_bexc_ga (@check_slot (model prog w) _ _ ⟨hh',g,d,t+1,os⟩ "BaseException.__getattribute__" "BaseException" "__getattribute__" (.ref x) [.str name t] [] _ (by decide +kernel) (by decide +kernel) sub (PySem.F.args_bexc_ga _ _) ?_))
  refine wpAny_bind (wpAny_pure (wpAny_bind (wpAny_pure (wpAny_bind (L0.at (wpAny_bind (L2.at ?_)))))))
  refine wpAny_pure ?_
  show wpAny _ _ (handedOut v) _ _ _
  rw [handedOut_of hh]
  exact wpAny_pure h
end
structure Xg (K:PySem.W.Frag) (C:Addr):Prop where
  ga:findIn K (.ref C) "__getattribute__"=some (some (.builtin "BaseException.__getattribute__"))
  gk:findIn K (.ref C) "__getattr__"=some none
  gm:mroIn K C (.type "BaseException")=some true
end My
namespace My
open PySem PySem.Spec PyProof.Rows L2 Mth
section
variable {X:Cx}
noncomputable def tAtx (K:PySem.W.Frag) (e:Addr) (c:Value) (dx:Option Addr) (to:TE):TE:=fun σ H Q=>to σ H fun x H1=>∃(C d:Addr) (fs:List (Str×V)) (v:V),x=.ref e∧c=.ref C∧dx=some d∧H1 d=some (.xd fs)∧fs.lookup (Str.ofString "at")=some v ∧
  Xg K C∧PySem.W.hasDictIn K C=true∧PySem.W.findIn K (.ref C) "at"=some none∧Q v H1
theorem pe_atx {e:Addr} {ob:Obj} {c:Value} {dx:Option Addr} {o:Expr} {to:TE} {pos:Pos} (hp:(e,ob)∈X.pn) (hc:ob.cls=c) (hd:ob.dict=dx) (hn:PySem.W.notCls ob=true) (ho:PE X o to) (hb:autoParam (attributeBase o "at" X.env (eval o X.env)=eval o X.env) au0_._auto_1) :
    PE X (.Attribute o "at" pos) (tAtx X.K e c dx to):=by
  intro pins s σ H Q I h
  refine attr_of hb (thn (ho pins s σ H _ I h) fun u s1 ⟨x,H1,I1,rx,C,d,fs,v,ex,ec,ed,hH,hl,hg,hh,hf,q⟩=>?_)
  subst ex
  obtain rfl:u=Value.ref e:=rx
  obtain ⟨mA,hns,hr⟩:=I1.hok d _ hH
  obtain ⟨u,hu,ru⟩:=RelO.some_of (v:=v) (o:=mA "at") (by rw [← hl];exact hr "at")
  obtain ⟨od,hod,hlk⟩:=lookIn_ns hns
  have he:=(I1.pin (e,ob) (List.mem_append_left _ hp)).1
  have J:PySem.W.InstAt s1.heap e ob C (some od):=⟨he,hc.trans ec,hn,by rw [hd,ed];exact hod⟩
  exact getx I1.kIn J hg.ga hg.gk hg.gm (PySem.W.findObj_own hh hf rfl (by rw [hlk,hu])) (handed_of ru) ⟨v,H1,I1.tok _,ru,q⟩
end
end My
namespace My
open PySem PySem.Spec PyProof.Rows L2 Mth
structure Xq (K:PySem.W.Frag) (C:Addr):Prop where
  g:Xg K C
  hd:PySem.W.hasDictIn K C=true
  ha:PySem.W.findIn K (.ref C) "__class__"=some (some (.builtin "object.__class__"))
  hn:PySem.W.specialIn K (.builtin "object.__class__") "__get__"=some (some (.builtin "getset_descriptor.__get__"))
  htk:PySem.W.takesIn K (.builtin "object.__class__")=some true
  hm:PySem.W.mroIn K C (.type "object")=some true
section
open PySem.W
variable {prog:Program} {w:World} {A:Around} {E:Value→Shared→Prop} {s:Shared} {K:PySem.W.Frag} {x C:Addr} {ox:Obj} {od:Option Obj}
theorem findObj_dataO {a g:Value} {name:Str} (hc:(clsIn K C).isSome=true) (ha:findIn K (.ref C) name=some (some a)) (hg:specialIn K a "__get__"=some (some g)) (ht:takesIn K a=some true):findObj K C od name=some (.bind g a):=by
  obtain ⟨cd,hc⟩:=Option.isSome_iff_exists.mp hc
  unfold findObj
  rw [hc,Option.bind_some,ha,Option.bind_some]
  simp [hg,ht]
theorem getxc {Q:Option Value→Shared→Prop} (q:Xq K C) (X:K.In s.heap) (I:PySem.W.InstAt s.heap x ox C od) (h:Q (some (.ref C)) { s with toks:=s.toks+1 }):wpAny (model prog w) A (getAttr? (.ref x) "__class__") Q E s:=by
  obtain ⟨hh',g,d,t,os⟩:=s
  have hf:findObj K C od "__class__"=some (.bind (.builtin "getset_descriptor.__get__") (.builtin "object.__class__")):=findObj_dataO (by obtain ⟨cd,hc,_⟩:=any_some q.hd;rw [hc];rfl) q.ha q.hn q.htk
  have L0:=I.type (M:=model prog w)
  have L1:=looks_findIn (M:=model prog w) X q.g.ga
  have L2:=looks_find (M:=model prog w) X I hf
  have FX:=PySem.F.excAttr_ValueError
  unfold getAttr? getAttrBy? getAttrBy
  refine wpAny_bind (wpAny_mkText (wpAny_bind (wpAny_attempt (wpAny_holding (wpAny_bind (L0.at (wpAny_bind (L1.at ?_))))))))
  show wpAny _ _ (if (onTheHeap (Value.ref C)&&(Value.builtin "BaseException.__getattribute__")==Value.builtin "object.__getattribute__")=true then _ else getAttrByItsOwn _ _ _ _ _ _) _ _ _
  rw [if_neg (by show ¬((true&&_)=true);decide +kernel)]
  unfold getAttrByItsOwn
  refine wpAny_bind ((looks_hook (M:=model prog w) (mc:=.ref C) X (r:=none) (show (if true=true then _ else _)=_ from by rw [if_pos rfl];exact q.g.gk)).at ?_)
  refine wpAny_bind (wpAny_attempt (wpAny_holding ?_))
  unfold callGetattribute
  have sub:Looks (model prog w) hh' (isInstance (.ref x) (.type "BaseException")) true:=L0.andThen (looks_mroIn X q.g.gm)
  rw [if_neg (show ¬((false&&onTheHeap (Value.builtin "BaseException.__getattribute__"))=true) by decide)]
  unfold boundAndCalled
  have f3:=FX.ga.bind (.ref x)
  rw [f3]
  refine wpAny_bind (wpAny_pure ?_)
  refine wpAny_call (codeAny_call_builtin FX.ga.plain PySem.F.entry_bexc_ga (@check_slot (model prog w) _ _ ⟨hh',g,d,t+1,os⟩ "BaseException.__getattribute__" "BaseException" "__getattribute__" (.ref x) [.str "__class__" t] [] _ (by decide +kernel) (by decide +kernel) sub (PySem.F.args_bexc_ga _ _) ?_))
  refine wpAny_bind (wpAny_pure (wpAny_bind (wpAny_pure (wpAny_bind (L0.at (wpAny_bind (L2.at ?_)))))))
  show wpAny _ _ (holding [Value.builtin "object.__class__"] (call (.builtin "getset_descriptor.__get__") [.builtin "object.__class__",.ref x,.ref C]) >>= _) _ _ _
  refine wpAny_bind (wpAny_holding (wpAny_call (class_get (s:=⟨hh',g,d,t+1,os⟩) (ox:=ox) (od:=od) X I q.hm ?_)))
  refine wpAny_pure ?_
  show wpAny _ _ (handedOut (Value.ref C)) _ _ _
  rw [handedOut_of rfl]
  exact wpAny_pure (wpAny_pure h)
theorem kitx_exc (q:Xq K C):KitX K (.ref x) (.ref C) (fun h=>PySem.W.InstAt h x ox C od) where
  ty:=fun _ _ _ I=>I.type
  it:=fun _ _ X _=>by
    obtain ⟨cdD,hcD,_⟩:=any_some q.hd
    unfold clsIn at hcD
    split at hcD
    · rename_i c' d' cd' sl' ho
      intro A' Q' E' s' k q
      unfold isType loadHead
      exact wpAny_bind (wpAny_loadPart (k _ _ (X _ _ ho)) (wpAny_pure q))
    · cases hcD
  ne:=fun h tp dd its n sl X htp=>by
    obtain ⟨cdD,hcD,_⟩:=any_some q.hd
    refine Bool.eq_false_iff.mpr fun q=>?_
    have e:C=tp:=Value.ref.inj (beq_iff_eq.mp q)
    subst e
    unfold clsIn at hcD
    split at hcD
    · rename_i c' d' cd' sl' ho
      have z:=(X _ _ ho).symm.trans htp
      cases z
    · cases hcD
  ca:=fun X I k=>getxc q X I k
end
inductive ClsV:V→Value→Prop
  | own (C:Addr):ClsV (.ref C) (.ref C)
  | ty (n:String):ClsV (.ty n) (.type n)
noncomputable def rIsq (K:PySem.W.Frag) (e:Addr) (c:Value) (dx:Option Addr):List V→Hp→VK→Prop:=fun xs H Q=>∃(C:Addr) (y:V) (cv:Value) (b:Bool),xs=[.ref e,y]∧ClsV y cv∧c=.ref C∧(∀d,dx=some d→∃fs,H d=some (.xd fs))∧Xq K C∧PySem.W.kitOne K (.ref C) cv=some b∧Q (.bl b) H
theorem isqC {X:Cx} {e:Addr} {ob:Obj} {c:Value} {dx:Option Addr} (h:(e,ob)∈X.pn) (hc:ob.cls=c) (hd:ob.dict=dx) (hno:PySem.W.notCls ob=true):CallR X (.builtin "isinstance") (rIsq X.K e c dx):=by
  intro pins s σ H xs us Q I r q
  obtain ⟨C,y,cv,b,rfl,hy,ec,hH,x,hk,q⟩:=q
  obtain ⟨u1,u2,rfl,r1,r2⟩:=vals2 r
  cases (show u1=Value.ref e from r1)
  have hu2:u2=cv:=by cases hy <;> exact r2
  subst hu2
  have he:=(I.pin (e,ob) (List.mem_append_left _ h)).1
  cases dx with
  | none=>
    have J:PySem.W.InstAt s.heap e ob C none:=⟨he,hc.trans ec,hno,by rw [hd];trivial⟩
    exact PySem.W.kia_one (kitx_exc x) I.kIn J hk (fun z=>nomatch z) fun tk=>⟨.bl b,H,I.tok tk,rfl,q⟩
  | some d=>
    obtain ⟨fs,hH⟩:=hH d rfl
    obtain ⟨mA,hns,_⟩:=I.hok d _ hH
    obtain ⟨od,hod,hlk⟩:=lookIn_ns hns
    have J:PySem.W.InstAt s.heap e ob C (some od):=⟨he,hc.trans ec,hno,by rw [hd];exact hod⟩
    exact PySem.W.kia_one (kitx_exc x) I.kIn J hk (fun z=>nomatch z) fun tk=>⟨.bl b,H,I.tok tk,rfl,q⟩
theorem isqK {X:Cx} (K:PySem.W.Frag) {e:Addr} {ob:Obj} {c:Value} {dx:Option Addr} (h:(e,ob)∈X.pn) (hc:ob.cls=c) (hd:ob.dict=dx) (hno:PySem.W.notCls ob=true) (hK:autoParam (X.K=K) au0_._auto_1):CallR X (.builtin "isinstance") (rIsq K e c dx):=hK▸isqC h hc hd hno
end My

namespace Jd
open PySem PySem.Spec PyProof.Rows L2 My
section
variable {X:Cx}
theorem pe_ftext {a c:Str} {j j':Nat} {e:Expr} {te:TE} {p1 p2 p3 pos:Pos} (he:QE X e te) (ha:autoParam (a.length≤1000) au1_._auto_1) (hc:autoParam (c.length≤1000) au1_._auto_1):QE X (.JoinedStr [.Constant (.str a) j p1,.FormattedValue e (-1) none p2,.Constant (.str c) j' p3] pos) (tFtext te):=⟨My.pe_ftext he.h ha hc⟩
theorem pe_baseInit {pl:Sem Bool} {x:Str} {Lc:Addr} {mc:Value} {a1:Expr} {es:List Expr} {ta:TA} {np apos cpos:Pos} (hg:Gl X x) (hm:X.mg x=some (.ref Lc)) (hsp:PySem.W.specialIn X.K (.ref Lc) "__getattribute__"=some (some (.builtin "type.__getattribute__"))) (hr:PySem.W.readsIn X.K Lc mc=true)
    (hf:PySem.W.findCls X.K (.ref Lc) mc "__init__"=some (.val (.builtin "ValueError.__init__"))) (ha:QA X (a1::es) ta) (hd:autoParam ((x==("__debug__":Str))=false) au1_._auto_1)
    (hs:autoParam (starEach (a1::es) X.env=(false,eval a1 X.env)::starEach es X.env) au0_._auto_1) (hplain:autoParam ((backTo cpos (starEach es X.env)).any (·.1)=false) au0_._auto_1)
    (ht:autoParam (eval (.Call (.Attribute (.Name x np) "__init__" apos) (a1::es) [] cpos) X.env=(do
      let ov ← eval (.Name x np) X.env
      standAt apos.atName
      let (f,first) ← holding [ov] (getMethod ov "__init__" pl)
      callWith cpos f first (backTo cpos (starEach (a1::es) X.env)) (backToKw cpos (keywordEach [] X.env)))) au0_._auto_1) :
    QE X (.Call (.Attribute (.Name x np) "__init__" apos) (a1::es) [] cpos) (tBI X.K ta):=⟨My.pe_baseInit (pl:=pl) hg hm hsp hr hf ha.h hd hs hplain ht⟩
theorem pg_at {o:Expr} {to:TE} {pos:Pos} (ho:QE X o to):QG X (.Attribute o "at" pos) (gAt X.K to):=⟨My.pg_at ho.h⟩
theorem pe_atx (K:PySem.W.Frag) {e:Addr} {ob:Obj} {c:Value} {dx:Option Addr} {o:Expr} {to:TE} {pos:Pos} (ho:QE X o to) (hb:attributeBase o "at" X.env (eval o X.env)=eval o X.env) (hp:(e,ob)∈X.pn) (hc:ob.cls=c) (hd:ob.dict=dx) (hn:PySem.W.notCls ob=true) (hK:X.K=K) :
    QE X (.Attribute o "at" pos) (tAtx K e c dx to):=hK▸⟨My.pe_atx hp hc hd hn ho.h hb⟩
end
section
variable {P:Program} {w:World} {K:PySem.W.Frag} {mg:Str→Option Value} {base:Heap} {N:List Str} {qual:Str} {scope:Scope} {f:Addr} {cd:Value} {A:Around} {outer:List Env} {s0:Shared} {H0:Hp} {E:XK}
theorem ps_raiseI {x:Str} {C:Addr} {k:Nat} {a:Expr} {ta:TA} {np cpos pos:Pos} (D:Di P w K mg base k x C) (hr:Room (k+1) (cxOf (CXe P w) P w K mg base N qual scope f cd A outer s0 H0 E).A) (hg:Gl (cxOf (CXe P w) P w K mg base N qual scope f cd A outer s0 H0 E) x)
    (ha:QA (cxOf (CXe P w) P w K mg base N qual scope f cd A outer s0 H0 E) [a] ta) (hd:autoParam ((x==("__debug__":Str))=false) au1_._auto_1)
    (he:autoParam (starEach [a] (envOfC qual scope s0.heap.objs.size f cd)=[(false,eval a (envOfC qual scope s0.heap.objs.size f cd))]) au0_._auto_1) :
    QS (cxOf (CXe P w) P w K mg base N qual scope f cd A outer s0 H0 E) (.Raise (some (.Call (.Name x np) [a] [] cpos)) none pos) (tRaiseI ta E C):=⟨My.ps_raiseI D hr hg ha.h hd he⟩
end
section
variable {X:Cx} {body suite:List Stmt} {b0:Stmt} {tb:XK→TS} {ts:Addr→Value→Option Addr→TS} {x nm:Str} {j:Nat} {Cc:Addr} {np hpos pos:Pos}
end
end Jd
namespace My
open PySem PySem.Spec PyProof.Rows L2 Mth
structure Xb (K:PySem.W.Frag) (mg:Str→Option Value) (x:Str) (L:Addr) (mc:Value):Prop where
  at_:mg x=some (.ref L)
  sp:PySem.W.specialIn K (.ref L) "__getattribute__"=some (some (.builtin "type.__getattribute__"))
  rd:PySem.W.readsIn K L mc=true
  fd:PySem.W.findCls K (.ref L) mc "__init__"=some (.val (.builtin "ValueError.__init__"))
section
variable {σ:L2.St} {H:Hp} {Q:VK} {K:PySem.W.Frag} {ta:TA} {te to:TE}
theorem r_bi (h:ta σ H fun vs H1=>∃(e C fI:Addr) (x:Str) (mg:Str→Option Value) (dx:Option Addr) (v:V),vs=[.ref e,v]∧H1 e=some (.ext (ExO e C dx))∧Xi K mg x C fI∧Q .non H1):tBI K ta σ H Q:=h
theorem r_ft (h:te σ H fun v H1=>∃i,v=.int i∧i.natAbs.log2<1920∧∀x,Q (.str x) H1):tFtext te σ H Q:=h
theorem r_gat {v:V} {R:L2.St→Hp→Prop} (h:to σ H fun x H1=>∃(e C fI:Addr) (y:Str) (mg:Str→Option Value),x=.ref e∧H1 e=some (.ext (ExO e C none))∧Xi K mg y C fI∧∀d:Addr,H1 d=none→R σ (upd (upd H1 d (.xd [("at",v)])) e (.ext (ExO e C (some d))))):gAt K to v σ H R:=h
theorem r_raiseI {E:XK} {C:Addr} {D:Ends} (h:ta σ H fun vs H1=>∃i:Int,vs=[.int i]∧i.natAbs.log2<1920∧∀d:Addr,H1 d=none→E (.ref C) (some d) (upd H1 d (.xd [("at",.int i)]))):tRaiseI ta E C D σ H:=h
theorem r_atx {e:Addr} {c:Value} {dx:Option Addr} (h:to σ H fun x H1=>∃(C d:Addr) (fs:List (Str×V)) (v:V),x=.ref e∧c=.ref C∧dx=some d∧H1 d=some (.xd fs)∧fs.lookup (Str.ofString "at")=some v∧Xg K C∧PySem.W.hasDictIn K C=true∧PySem.W.findIn K (.ref C) "at"=some none∧Q v H1):tAtx K e c dx to σ H Q:=h
end
end My

namespace My
open PySem PySem.Spec PyProof.Rows L2 Mth
theorem inv_unname {X Y:Cx} {pins pins':List (Addr×Obj)} {σ:L2.St} {H:Hp} {s:Shared} {h':Heap} {m:Str→Option Value} {tk:Nat} {nm:Str} {j:Nat} {v:Option Value} (ok:X.Ok) (I:L2.Inv Y pins' σ H s) (hN:X.N.Nodup) (hj:X.N[j]?=some nm)
    (hm:∀(i:Nat) (x:Str) (v:V),X.N[i]?=some x→σ[i]?=some (some v)→Vis X.env.scope x→∃u,RelV v u∧Look X.env s.heap m x u) (hn:h'.Ns X.env.locals (fun x=>if x=nm then v else m x)) (sb:Heap.SameBut X.env.locals s.heap h')
    (e1:Y.env=X.env) (e2:Y.s₀=X.s₀) (e3:Y.H₀=X.H₀) (e4:Y.fs=X.fs) (e5:Y.ex=X.ex) (e6:Y.prog=X.prog) (e7:Y.w=X.w) (e8:Y.N=X.N) (hp:∀p∈X.pn++pins,p∈Y.pn++pins'):L2.Inv X pins (σ.set j none) H { s with heap:=h',toks:=tk }:=by
  have cn:=I.cne
  refine ⟨ok,by rw [← e2];exact I.os,I.bare,?_,⟨_,hn,fun i x u hi q vis=>?_⟩,fun x c q=>?_,by rw [← e1];exact I.free,fun x c q=>I.freeC x c (by rw [e1];exact q),fun p q=>?_,?_,by rw [List.length_set,← e8];exact I.len⟩
  · have b:=I.base
    rw [e2,e3,e4,e5] at b
    exact un_but b fun b hb=>sb.2 b (fun z=>absurd (Nat.lt_of_lt_of_le hb ok.above) (by rw [z];exact Nat.lt_irrefl _))
  · by_cases hij:i=j
    · subst hij
      rw [List.getElem?_set] at q
      split at q
      · split at q <;> cases q
      · exact absurd rfl (by assumption)
    · rw [List.getElem?_set_ne (Ne.symm hij)] at q
      obtain ⟨w',r,l⟩:=hm i x u hi q vis
      refine ⟨w',r,?_⟩
      have xn:x≠nm:=fun z=>hij (by
        subst z
        exact (List.getElem?_inj (List.getElem?_eq_some_iff.mp hi).1 hN).mp (hi.trans hj.symm))
      rcases l with ⟨a,b⟩ | ⟨a,c,b,d⟩
      · exact .inl ⟨a,(if_neg xn).trans b⟩
      · refine .inr ⟨a,c,b,?_⟩
        obtain ⟨o,ho,hd⟩:=d
        exact ⟨o,(sb.2 c (by rw [← e1];exact cn x c (by rw [e1];exact b))).trans ho,hd⟩
  · obtain ⟨v,o,ho,hd⟩:=I.cell x c (by rw [e1];exact q)
    exact ⟨v,o,(sb.2 c (by rw [← e1];exact cn x c (by rw [e1];exact q))).trans ho,hd⟩
  · obtain ⟨a,b,c,d,f⟩:=I.pin p (hp p q)
    exact ⟨(sb.2 p.1 (by rw [← e1];exact c)).trans a,b,by rw [← e1];exact c,by rw [← e4];exact d,f⟩
  · rw [← e6,← e7]
    exact hok_but I.hok (by rw [← e1];exact I.free) fun b o hb q=>(sb.2 b hb).trans q
structure Landed (X:Cx) (Xe:Value→Shared→Prop) (pins pins':List (Addr×Obj)) (σ:L2.St) (H:Hp) (B:Heap) (e t:Addr) (C:Value) (dx:Option Addr) (s:Shared):Prop where
  fly:Heap.FlyingW B (X.env::X.outer) e C (.ref t) s.heap
  dict:DictAt s.heap e dx
  non:H e=none
  re:∀h',Heap.FlyingW B (X.env::X.outer) e C (.ref t) h'→s.heap.UpToSlots h'→L2.Inv { X with pn:=X.pn++pins,xe:=Xe } pins' σ H { s with heap:=h' }
  inv:L2.Inv { X with pn:=X.pn++pins,xe:=Xe } pins' σ H s
section
variable {X:Cx} {Xe:Value→Shared→Prop} {pins pins':List (Addr×Obj)} {σ:L2.St} {H:Hp} {B:Heap} {e t Cc:Addr} {C:Value} {dx:Option Addr} {s:Shared} {suite:List Stmt} {b0:Stmt} {x nm:Str} {j:Nat} {np hpos:Pos} {rest:List ExceptHandler} {D:Ends} {ts:Addr→Value→Option Addr→TS} {nmo:Option Str}
theorem hand_suite (L:Landed X Xe pins pins' σ H B e t C dx s) (ok:X.Ok) (hN:X.N.Nodup) (hj:X.N[j]?=some nm) (hl:X.env.scope.names.lookup nm=some .local) (hg:Gl X x) (hm:X.mg x=some (.ref Cc)) (hfr:X.env.frame=some X.env.locals) (hstk:X.stack=X.env::X.outer) (hx:PySem.W.exmOne X.K C (.ref Cc)=some true)
    (hs:∀(e:Addr) (ob:Obj) (c:Value) (dx:Option Addr) (pn':List (Addr×Obj)),(e,ob)∈pn'→ob.cls=c→ob.dict=dx→PySem.W.notCls ob=true→PSs { X with A:=X.A.mark (some (.ref e)),calm:=false,pn:=pn',xe:=fun _ _=>False } (b0::suite) (ts e c dx))
    (h:ts e C dx { nx:=fun σ2 H2=>D.nx (σ2.set j none) H2,rt:=D.rt } (σ.set j (some (.ref e))) H) (hd:autoParam ((x==("__debug__":Str))=false) au1_._auto_1) :
    wpAny (model X.prog X.w) X.A (handleBy (.ref e) X.env (.ExceptHandler (some (.Name x np)) (some nm) (b0::suite) hpos::rest)) (SP X pins D) X.xe s:=by
  obtain ⟨ob,hob,hcls⟩:=L.fly.there
  refine wpAny_handleBy_cons ?_ (by intro q;cases q)
  refine codeAny_handlers_test ?_
  have J5m:=inv_mark (Ey:=fun _ _=>False) (e:=e) L.inv
  refine ld_glob J5m hg hm ?_ hd
  have LT:=looks_ty (M:=model X.prog X.w) hob
  rw [hcls] at LT
  refine PySem.W.exm_one J5m.kIn LT hx _ _ _ _ (fun _ _ z=>z) ?_
  refine codeAny_handlers_suite_as ?_
  refine kp_use (s:=s) (R:=fun h6=>Heap.FlyingW B (X.env::X.outer) e C (.ref t) h6∧s.heap.UpToSlots h6) kp_setFlight (fun Q0 hQ0=>lands_againW (s:=s) L.fly fun h6 fly6 up6=>hQ0 h6 ⟨fly6,up6⟩) (fun h6 ⟨fly6,up6⟩ dk6=>?_)
  have fly6':Heap.FlyingW B X.stack e C (.ref t) h6:=by rw [hstk];exact fly6
  have J6:=L.re h6 fly6 up6
  obtain ⟨ob6,vs6,_,_,_,h6e,⟨h6c,_⟩,h6d,_⟩:=fly6.2.2.2
  have h6x:ob6.dict=dx:=by
    obtain ⟨ob,a,b⟩:=L.dict.dk dk6
    have a:h6.get? e=some ob:=a
    rw [h6e] at a
    cases a
    exact b
  have nfr:e∉frs X.stack:=fun z=>by
    obtain ⟨_,o,ho,hdd⟩:=fly6'.2.2.1.mem z
    rw [h6e] at ho
    cases ho
    exact hdd vs6 h6d
  have nloc:e≠X.env.locals:=fun z=>nfr (by
    rw [hstk,z]
    exact List.mem_filterMap.mpr ⟨X.env,List.mem_cons_self,hfr⟩)
  have nfs:e∉X.fs:=fun z=>nfr (by rw [hstk];exact List.mem_filterMap.mpr (let ⟨env,he,hf⟩:=List.mem_filterMap.mp z;⟨env,List.mem_cons_of_mem _ he,hf⟩))
  have J6m:=inv_mark (Ey:=fun _ _=>False) (e:=e) J6
  have J6h:L2.Inv { X with A:=X.A.mark (some (.ref e)),calm:=false,pn:=(X.pn++pins)++[(e,ob6)],xe:=fun _ _=>False } pins' σ H { s with heap:=h6 }:=
    ⟨⟨J6m.ok.mod,J6m.ok.kind,J6m.ok.glob,J6m.ok.blt,J6m.ok.above,J6m.ok.inj,J6m.ok.has,J6m.ok.cab,fun z=>absurd z Bool.false_ne_true,J6m.ok.frames,J6m.ok.stk,J6m.ok.exf,J6m.ok.bs,J6m.ok.bsz,J6m.ok.noex,J6m.ok.exfs,J6m.ok.funs,J6m.ok.frf⟩,J6m.os,J6m.bare,J6m.base,J6m.loc,J6m.cell,J6m.free,J6m.freeC,
      fun p hp=>by
        rcases List.mem_append.mp hp with z | z
        · rcases List.mem_append.mp z with y | y
          · exact J6m.pin p (List.mem_append_left _ y)
          · obtain rfl:p=(e,ob6):=by simpa using y
            exact ⟨h6e,L.non,nloc,nfs,fun v z=>by rw [h6d] at z;cases z⟩
        · exact J6m.pin p (List.mem_append_right _ z),J6m.hok,J6m.len⟩
  refine store_ok (X:={ X with A:=X.A.mark (some (.ref e)),calm:=false,pn:=(X.pn++pins)++[(e,ob6)],xe:=fun _ _=>False }) J6h hN hj (.inl hl) (show RelV (.ref e) (.ref e) from rfl) (fun s7 I7=>?_) (.inr hl)
  refine wpAny_mono (hs e ob6 C dx _ (by simp) h6c h6x (by unfold PySem.W.notCls;rw [h6d]) pins' s7 _ H _ I7 h) (fun fl s8 q=>?_) fun _ _ z=>z.elim
  cases fl with
  | next=>
    obtain ⟨σ3,H3,I8,q8⟩:=q
    obtain ⟨m8,hn8,hm8⟩:=id I8.loc
    refine wpAny_nameGoes_keeps (m:=m8) hl hn8 (by rw [ok.kind];rfl) fun h9 v9 hn9 sb9=>?_
    exact ⟨_,H3,inv_unname ok I8 hN hj hm8 hn9 sb9 rfl rfl rfl rfl rfl rfl rfl rfl fun p hp=>List.mem_append_left _ (List.mem_append_left _ hp),q8⟩
  | brk=>exact let ⟨_,_,_,z⟩:=q;z.elim
  | cont=>exact let ⟨_,_,_,z⟩:=q;z.elim
  | ret u=>
    obtain ⟨v,σ3,H3,I8,r8,q8⟩:=q
    obtain ⟨m8,hn8,hm8⟩:=id I8.loc
    refine wpAny_nameGoes_keeps (m:=m8) hl hn8 (by rw [ok.kind];rfl) fun h9 v9 hn9 sb9=>?_
    exact ⟨v,_,H3,inv_unname ok I8 hN hj hm8 hn9 sb9 rfl rfl rfl rfl rfl rfl rfl rfl fun p hp=>List.mem_append_left _ (List.mem_append_left _ hp),r8,q8⟩
theorem to_land {hs:List ExceptHandler} {ev:Value} {s1 s2:Shared} {H1:Hp} {E:XK} (hfr:X.env.frame=some X.env.locals) (hstk:X.stack=X.env::X.outer) (ok:X.Ok) (I1:L2.Inv { X with pn:=X.pn++pins,xe:=Xe } pins' σ H1 s1) (cx:CXe X.prog X.w X.stack H1 s1 E ev s2)
    (k:∀(e t:Addr) (C:Value) (dx:Option Addr) (H2:Hp) (B:Heap) (s3:Shared),ev=.ref e→Landed X Xe pins pins' σ H2 B e t C dx s3→E C dx H2→wpAny (model X.prog X.w) X.A (handleBy (.ref e) X.env hs) (SP X pins D) X.xe s3) :
    wpAny (model X.prog X.w) X.A (noteFrame ev X.env) (fun _ s2=>wpAny (model X.prog X.w) X.A (setFlight ev none) (fun _ s3=>wpAny (model X.prog X.w) X.A (handleBy ev X.env hs) (SP X pins D) X.xe s3) X.xe s2) X.xe s2:=by
  obtain ⟨e,t,C,H2,B,rfl,os,bare,un,hok,fly,bk,dx,hdx,hE⟩:=cx
  have J:L2.Inv { X with pn:=X.pn++pins,xe:=Xe } pins' σ H2 s2:=I1.call' (ch:=[]) os un hok bare fun b z=>absurd z (by simp)
  have inv:∀h5,Heap.FlyingW B X.stack e C (.ref t) h5→s2.heap.UpToSlots h5→L2.Inv { X with pn:=X.pn++pins,xe:=Xe } pins' σ H2 { s2 with heap:=h5 }:=fun h5 fly5 up5=>
    I1.call' (s':={ s2 with heap:=h5 }) (ch:=[]) os (un_fly (fun b hb=>hb) un fly.2.2.1 fly5.1 up5 fun b o q hb hn=>bk b o q (.inr hb) hn)
      (hok_tr hok fun c v hc q=>fly5.1 c v (bk c v q (.inl hc) fun z=>hc (J.stkFree c z))) bare fun b z=>absurd z (by simp)
  have fr:X.A.frames=some (X.env::X.outer):=by rw [← hstk];exact ok.frames
  have fly':Heap.FlyingW B (X.env::X.outer) e C (.ref t) s2.heap:=by rw [← hstk];exact fly
  refine kp_use (R:=fun h4=>Heap.HeldW B (X.env::X.outer) e C (.ref t) X.env.locals h4∧s2.heap.UpToSlots h4) kp_noteFrame (fun Q0 hQ0=>wpAny_looks_onW fr hfr fly' fun h4 held up4=>hQ0 h4 ⟨held,up4⟩) (fun h4 ⟨held,up4⟩ dk4=>?_)
  refine kp_use (R:=fun h5=>Heap.FlyingW B (X.env::X.outer) e C (.ref t) h5∧h4.UpToSlots h5) kp_setFlight (fun Q0 hQ0=>wpAny_landsW held fun h5 fly5 up5=>hQ0 h5 ⟨fly5,up5⟩) (fun h5 ⟨fly5,up5⟩ dk5=>?_)
  have fly5':Heap.FlyingW B X.stack e C (.ref t) h5:=by rw [hstk];exact fly5
  have ne:H2 e=none:=by
    cases g:H2 e with
    | none=>rfl
    | some ho=>
      obtain ⟨o,hh⟩:=obj_there (J.hok e ho g)
      obtain ⟨ob6,vs6,_,_,_,h6e,_,h6d,_⟩:=fly5.2.2.2
      have nfr:e∉frs X.stack:=fun z=>by
        obtain ⟨_,o,ho,hdd⟩:=fly5'.2.2.1.mem z
        rw [h6e] at ho
        cases ho
        exact hdd vs6 h6d
      have:=bk e o hh (.inl (by rw [g];simp)) nfr
      rw [fly.2.1] at this
      cases this
  refine k e t C dx H2 B { s2 with heap:=h5 } rfl ⟨fly5,hdx.dk (dk4.trans dk5),ne,fun h' f' u'=>inv h' (by rw [hstk];exact f') ((up4.trans up5).trans u'),inv h5 fly5' (up4.trans up5)⟩ hE
end
theorem run_fnS {X:Cx} {CX:CXT} {k:Nat} {f:Addr} {fd:FuncData} {ps:List Str} {sp:Sp} {dvs:List V} {ds:List Value} {E:XK} {pins:List (Addr×Obj)} {σ:L2.St} {H:Hp} {s:Shared} {Q:VK} {us:List Value} {vs:List V} (F:FnOk X.prog X.w X.K X.mg X.base CX k f fd ps sp) (hr:Room k X.A) (hb:Binds X.K fd ps ds) (hd:Vals dvs ds) (hx:∀e s',CX X.stack H s E e s'→X.xe e s')
    (I:L2.Inv X pins σ H s) (r:Vals vs us) (h:sp (vs++dvs) H Q E):wpAny (model X.prog X.w) X.A (call (.ref f) us) (EP X pins σ Q) X.xe s:=by
  have r2:Vals (vs++dvs) (us++ds):=r.append hd
  have hl:(us++ds).length=ps.length:=by rw [← r2.length];exact F.len _ _ _ _ h
  refine wpAny_call (codeAny_mono (F.run X.A X.stack s H ⟨us,[]⟩ (us++ds) (vs++dvs) Q E hr I.env0 (hb s us I.kIn hl) r2 h) fun r s' hq=>?_)
  cases r with
  | error e=>exact hx e s' hq
  | ok fl=>
    cases fl with
    | ret u=>exact I.after hq
    | next=>exact False.elim hq
    | brk=>exact False.elim hq
    | cont=>exact False.elim hq
section
variable {X:Cx} {k:Nat} {xf:Str} {ps:List Str} {sp:Sp} {p pos epos:Pos} {ae:Expr} {es:List Expr} {ta:TA} {x1 x2 nm:Str} {j:Nat} {C1 C2:Addr} {b1 b2:Stmt} {su1 su2:List Stmt} {np1 hp1 np2 hp2 tpos:Pos} {t1 t2:Addr→Value→Option Addr→TS}
end
end My
namespace Jd
open PySem PySem.Spec PyProof.Rows L2 My
section
variable {X:Cx} {k:Nat} {xf:Str} {ps:List Str} {sp:Sp} {p pos epos:Pos} {ae:Expr} {es:List Expr} {ta:TA} {x1 x2 nm:Str} {j:Nat} {C1 C2:Addr} {b1 b2:Stmt} {su1 su2:List Stmt} {np1 hp1 np2 hp2 tpos:Pos} {t1 t2:Addr→Value→Option Addr→TS}
theorem pe_xi {x:Str} {pos:Pos} {C:Addr} (hg:Gl X x) (hm:X.mg x=some (.ref C)) (hd:autoParam ((x==("__debug__":Str))=false) au1_._auto_1):QE X (.Name x pos) (tC (.ref C)):=⟨L2.pe_glob hg hm (show RelV (.ref C) (.ref C) from rfl) hd⟩
end
end Jd
namespace My
open PySem PySem.Spec PyProof.Rows L2 Mth
theorem boot_ValueError:bootBuiltins "ValueError"=some (.type "ValueError"):=by decide +kernel
noncomputable def xqB (K:PySem.W.Frag) (C:Addr):Bool:=
  PySem.W.findIn K (.ref C) "__getattribute__"==some (some (.builtin "BaseException.__getattribute__"))&&(PySem.W.findIn K (.ref C) "__getattr__"==some none&&(PySem.W.mroIn K C (.type "BaseException")==some true&&(PySem.W.hasDictIn K C&&(PySem.W.findIn K (.ref C) "__class__"==some (some (.builtin "object.__class__")) &&
  (PySem.W.specialIn K (.builtin "object.__class__") "__get__"==some (some (.builtin "getset_descriptor.__get__"))&&(PySem.W.takesIn K (.builtin "object.__class__")==some true&&PySem.W.mroIn K C (.type "object")==some true))))))
theorem xq_of {K:PySem.W.Frag} {C:Addr} (h:xqB K C=true):Xq K C:=by
  unfold xqB at h
  rw [Bool.and_eq_true,Bool.and_eq_true,Bool.and_eq_true,Bool.and_eq_true,Bool.and_eq_true,Bool.and_eq_true,Bool.and_eq_true] at h
  obtain ⟨a,b,c,d,e,f,g,i⟩:=h
  exact ⟨⟨beq_iff_eq.mp a,beq_iff_eq.mp b,beq_iff_eq.mp c⟩,d,beq_iff_eq.mp e,beq_iff_eq.mp f,beq_iff_eq.mp g,beq_iff_eq.mp i⟩
end My

namespace My
open PySem PySem.Spec PyProof.Rows L2 Mth
section
variable {σ:L2.St} {H:Hp} {R:It→Hp→Prop}
end
end My
namespace Jd
open PySem PySem.Spec PyProof.Rows L2 My
end Jd

namespace My
open PySem PySem.Spec PyProof.Rows L2 Mth
theorem inv_turned_new {X:Cx} {pins:List (Addr×Obj)} {σ:L2.St} {H:Hp} {s:Shared} {h':Heap} {t':Nat} {T:Addr} {o:HO} (ch:List Addr) (I:L2.Inv X pins σ H s) (k:∀b u,b∉ch→s.heap.get? b=some u→h'.get? b=some u)
    (hf:∀b∈ch,FpOk X pins H b) (hT:s.heap.objs.size≤T) (new:ObjOk X.prog X.w (upd H T o) h' T o):L2.Inv X pins σ (upd H T o) { s with heap:=h',toks:=t' }:=by
  have hn:H T=none:=I.hok.fresh hT
  have out:∀b u,H b=some u→b∉ch:=fun b u e z=>by rw [(hf b z).1] at e;cases e
  have old:∀b u,H b=some u→upd H T o b=some u:=fun b u e=>by rw [upd_ne (ne_of_none e hn)];exact e
  refine I.step (g':=s.gens) (d':=s.drawn) (ch:=ch) (fun b hb=>?_) (fun b u _ _ hc e _=>k b u hc e) (fun b u _ _ hc e _=>⟨u.slots,k b u hc e⟩) (fun b u hc e z=>?_) (fun b u hc e=>⟨u,k b u hc e⟩)
    (fun b xs e=>old b _ e) (fun b u v e=>old b _ e) (fun b ps e=>⟨#[],by rw [old b _ e];simp⟩) (fun m hm=>?_) (fun b u e=>?_) I.bare
  · obtain ⟨_,f1,_,f3,f4,f5⟩:=hf b hb
    exact ⟨f3,f1,f4,f5⟩
  · have hb:b≠T:=Nat.ne_of_lt (Nat.lt_of_lt_of_le (Heap.lt_size e) hT)
    rw [upd_ne hb]
    exact z
  · obtain ⟨u,es,ep,hu,r⟩:=hm
    exact ⟨u,es,ep,k _ u (fun z=>(hf _ z).2.1 rfl) hu,r⟩
  · by_cases hb:b=T
    · subst hb
      rw [upd_same] at e
      cases e
      exact new
    · rw [upd_ne hb] at e
      exact ObjOk.stay (I.hok b u e) (fun c v hc q=>k c v (hc.elim (fun z=>z▸out b u e) fun z=>out c _ z) q) (fun c q=>old c _ q) fun c xs q=>old c _ q
noncomputable def Ite (K:PySem.W.Frag) (a:Addr):It:=
  ⟨fun i H=>∃xs x,SqL K H a xs∧xs[i]?=some x,fun i H v H'=>∃(p:Addr) (x:V),H p=none∧v=.ref p∧H'=upd H p (.tup [.int (i:Int),x])∧∀xs,SqL K H a xs→xs[i]?=some x,fun i H=>∃xs,SqL K H a xs∧xs.length≤i⟩
theorem turn_enum {P:Program} {w:World} {K:PySem.W.Frag} {elts:List Expr} {kt:Nat} {tpos:Pos} (a e it:Addr) (hei:e≠it) :
    Turn P w K (.Tuple elts kt tpos) (Ite K a) [e,it] e (fun i h=>(∃old,IsEnum h e it (i:Int) old)∧h.IsListIter it a i) where
  mem:=by simp
  obj:=fun i h st b hb=>by
    obtain ⟨⟨old,he⟩,o,eo,c,d⟩:=st
    rcases (show b=e∨b=it by simpa using hb) with rfl | rfl
    · exact ⟨_,he,fun v z=>by cases z⟩
    · exact ⟨o,eo,fun v z=>by rw [d] at z;cases z⟩
  keep:=fun i h h' st k=>⟨let ⟨old,he⟩:=st.1;⟨old,k e (by simp) _ he⟩,st.2.at fun o q=>k it (by simp) o q⟩
  item:=by
    intro X hP hw hK hc i pins s σ H E I hf st hg
    subst hP hw hK
    obtain ⟨⟨old,he⟩,hit⟩:=st
    obtain ⟨xs,x,hq,hx⟩:=hg
    obtain ⟨its,rv,p,hz⟩:=I.list hq
    obtain ⟨u,hu,ru⟩:=rv.get hx
    refine wpAny_pyNext_enum_item he hit p.isList (x:=u) (by simpa using hu) hei fun h1 ho hit1 hT hsz hk=>?_
    refine ⟨_,rfl,wpAny_letOwnedTupleGo_enum (s:={ s with heap:=h1,toks:=s.toks+1 }) ho fun h2 he2 hs2=>?_⟩
    have hs2':Heap.SameBut e h1 h2:=hs2
    have ke:∀b o,b∉[e,it]→s.heap.get? b=some o→h2.get? b=some o:=fun b o hb q=>by
      have hb1:b≠e:=fun z=>hb (by simp [z])
      have hb2:b≠it:=fun z=>hb (by simp [z])
      exact (hs2'.2 b hb1).trans (hk b o hb1 hb2 q)
    have elt:e<s.heap.objs.size:=Heap.lt_size he
    have hT2:h2.get? s.heap.objs.size=some { cls:=.type "tuple",data:=.seq #[.int i s.toks,u] }:=(hs2'.2 _ (Nat.ne_of_gt elt)).trans hT
    have hn:H s.heap.objs.size=none:=I.hok.fresh (Nat.le_refl _)
    have I2:L2.Inv X pins σ (upd H s.heap.objs.size (.tup [.int (i:Int),x])) { s with heap:=h2,toks:=s.toks+1 }:=by
      refine inv_turned_new [e,it] I ke hf (Nat.le_refl _) ?_
      exact ⟨by show 2≤sizeLine;decide,[.int (i:Int) s.toks,u],.cons ⟨_,rfl⟩ (.cons ru .nil),_,hT2,rfl,_,rfl⟩
    refine ⟨.ref s.heap.objs.size,upd H s.heap.objs.size (.tup [.int (i:Int),x]),I2,rfl,⟨s.heap.objs.size,x,hn,rfl,rfl,fun ys hy=>by rw [I.list_inj hy hq];exact hx⟩,⟨⟨u,?_⟩,hit1.at fun o q=>(hs2'.2 it (Ne.symm hei)).trans q⟩,fun b hb=>?_⟩
    · have:=he2
      simpa using this
    · have hb1:=(hf b hb).1
      have ilt:it<s.heap.objs.size:=by
        obtain ⟨o,eo,_⟩:=hit
        exact Heap.lt_size eo
      have hb2:b≠s.heap.objs.size:=by
        rcases (show b=e∨b=it by simpa using hb) with rfl | rfl
        · exact Nat.ne_of_lt elt
        · exact Nat.ne_of_lt ilt
      rw [upd_ne hb2]
      exact hb1
  done:=by
    intro X hP hw hK hc i pins s σ H E I hf st hg
    subst hP hw hK
    obtain ⟨⟨old,he⟩,hit⟩:=st
    obtain ⟨xs,hq,hx⟩:=hg
    obtain ⟨its,rv,p,hz⟩:=I.list hq
    have hl:=rv.length
    obtain ⟨f0,f1,f2,f3,f4,f5⟩:=hf it (by simp)
    exact wpAny_pyNext_enum_end (I.ok.hd hc) he hit p.isList (by simp;(first | lia | omega)) fun h' eb=>⟨rfl,I.turned (t':=s.toks) (fun b o hb q=>eb b o hb q) f0 f1 f3 f4 f5⟩
  self:=fun _ _ _ _ _ st h=>let ⟨_,he⟩:=st.1;wpAny_pyIter_enum he h
noncomputable def iEnum (K:PySem.W.Frag) (ta:TA):TI:=fun σ H R=>ta σ H fun vs H1=>∃a xs,vs=[.ref a]∧SqL K H1 a xs∧R (Ite K a) H1
section
variable {X:Cx} {a:Expr} {ta:TA} {p pos:Pos} {elts:List Expr} {kt:Nat} {tpos:Pos}
theorem pi_enum (K:PySem.W.Frag) (hg:Gl X "enumerate") (hm:X.mg "enumerate"=none) (ha:PA X [a] ta) (hs:autoParam (starEach [a] X.env=[(false,eval a X.env)]) au0_._auto_1) (hK:autoParam (X.K=K) au0_._auto_1) :
    PI X (.Tuple elts kt tpos) (.Call (.Name "enumerate" p) [a] [] pos) (iEnum K ta):=by
  subst hK
  intro pins s σ H R I h
  refine Call_ (ld_blt I hg hm boot_enumerate (PyProof.Rows.callWith_type1 (thn (ha pos pins s σ H _ I h) fun us s1 ⟨vs,H1,I1,r1,q1⟩=>?_) hs rfl))
  obtain ⟨l,xs,e,hq,q⟩:=q1
  subst e
  cases r1 with
  | cons r rr=>
    cases rr
    cases r
    obtain ⟨its,rv,pl,hz⟩:=I1.list hq
    refine call_enumerate_list pl.isList fun h' he hit hsz hk=>?_
    have I2:L2.Inv X pins σ H1 { s1 with heap:=h' }:=I1.kept (t':=s1.toks) hk
    refine wpAny_pyIter_enum (s:={ s1 with heap:=h' }) he ?_
    refine ⟨s1.heap.objs.size+1,[s1.heap.objs.size+1,s1.heap.objs.size],_,_,H1,rfl,I2,turn_enum l (s1.heap.objs.size+1) s1.heap.objs.size (Nat.succ_ne_self _),⟨⟨_,he⟩,hit⟩,fun b hb=>?_,q⟩
    rcases (show b=s1.heap.objs.size+1∨b=s1.heap.objs.size by simpa using hb) with rfl | rfl
    · exact I1.fpOk (Nat.le_succ _) (I1.hok.fresh (Nat.le_succ _))
    · exact I1.fpOk (Nat.le_refl _) (I1.hok.fresh (Nat.le_refl _))
end
section
variable {σ:L2.St} {H:Hp} {K:PySem.W.Frag}
theorem r_enum {ta:TA} {R:It→Hp→Prop} (h:ta σ H fun vs H1=>∃a xs,vs=[.ref a]∧SqL K H1 a xs∧R (Ite K a) H1):iEnum K ta σ H R:=h
theorem for_enum {a:Addr} {xs:List V} {g:TG} {tb:TS} {D:Ends} (Pv:Nat→L2.St→Hp→Prop) (h0:Pv 0 σ H) (hl:∀i σ H,i≤xs.length→Pv i σ H→SqL K H a xs)
    (hs:∀(i:Nat) (x:V) (σ:L2.St) (H:Hp) (p:Addr) (H':Hp),xs[i]?=some x→Pv i σ H→Same H H'→H p=none→H' p=some (.tup [.int (i:Int),x])→g (.ref p) σ H' fun σ2 H2=>tb { D with nx:=Pv (i+1),ct:=Pv (i+1),bk:=D.nx } σ2 H2)
    (hd:∀σ H,Pv xs.length σ H→D.nx σ H) :
    ∃W:Nat→Nat→L2.St→Hp→Prop,(∃m,W 0 m σ H)∧∀i m σ H,W i m σ H →
      ((Ite K a).stop i H∧D.nx σ H)∨((Ite K a).go i H∧∃N:L2.St→Hp→Prop,(∀σ' H',N σ' H'→∃m',m'<m∧W (i+1) m' σ' H')∧∀x H',(Ite K a).yld i H x H'→g x σ H' fun σ2 H2=>tb { D with nx:=N,ct:=N,bk:=D.nx } σ2 H2):=by
  refine ⟨fun i m σ H=>m=xs.length-i∧i≤xs.length∧Pv i σ H,⟨xs.length,rfl,Nat.zero_le _,h0⟩,?_⟩
  rintro i m σ H ⟨rfl,hi,p⟩
  have q:=hl i σ H hi p
  rcases Nat.lt_or_ge i xs.length with hlt | hge
  · refine .inr ⟨⟨xs,xs[i],q,List.getElem?_eq_getElem hlt⟩,Pv (i+1),fun σ' H' p'=>⟨xs.length-(i+1),by (first | lia | omega),rfl,hlt,p'⟩,fun x H' y=>?_⟩
    obtain ⟨pt,y',hn,rfl,rfl,hy⟩:=y
    exact hs i y' σ H pt _ (hy xs q) p (same_new hn _) hn upd_same
  · have ei:i=xs.length:=by (first | lia | omega)
    subst ei
    exact .inl ⟨⟨xs,q,Nat.le_refl _⟩,hd σ H p⟩
end
section
variable {σ:L2.St} {H:Hp} {D:Ends}
end
section
variable {X:Cx}
theorem inSeq (K:PySem.W.Frag) (h:autoParam (X.K=K) au0_._auto_1):OpR X (compareOp .In) (rIn K false):=h▸op_in_seq
end
end My
namespace Jd
open PySem PySem.Spec PyProof.Rows L2 My
theorem pi_enum {X:Cx} (K:PySem.W.Frag) {a:Expr} {ta:TA} {p pos:Pos} {elts:List Expr} {kt:Nat} {tpos:Pos} (hg:Gl X "enumerate") (hm:X.mg "enumerate"=none) (ha:QA X [a] ta) (hs:autoParam (starEach [a] X.env=[(false,eval a X.env)]) au0_._auto_1) (hK:autoParam (X.K=K) au0_._auto_1) :
    QI X (.Tuple elts kt tpos) (.Call (.Name "enumerate" p) [a] [] pos) (iEnum K ta):=⟨My.pi_enum K hg hm ha.h hs hK⟩
end Jd

namespace My
open PySem PySem.Spec PyProof.Rows L2 Mth
section
variable {σ:L2.St} {H:Hp} {Q:VK} {K:PySem.W.Frag} {f m x:Str} {to tv:TE} {t:TA} {D:Ends} {C a dx:Addr} {fs:List (Str×V)} {fn:List Str} {mg:Str→Option Value} {v y:V} {N:Hp→Prop} {sp:Sp}
end
end My
namespace Jd
open PySem PySem.Spec PyProof.Rows L2 My
section
variable {X:Cx} {k:Nat} {x m f:Str} {ps:List Str} {sp:Sp} {p pos apos:Pos} {o e value:Expr} {es:List Expr} {to tv:TE} {t:TA} {C:Addr}
end
end Jd

namespace My
open PySem PySem.Spec PyProof.Rows L2 Mth
theorem rvsC {X:Cx} (K:PySem.W.Frag) {o:Expr} {to:TE} {apos cpos:Pos} (ho:PE X o to) (h:autoParam (X.K=K) au0_._auto_1) (hbase:autoParam (attributeBase o "reverse" X.env (eval o X.env)=eval o X.env) au0_._auto_1) (hline:autoParam ((apos.endLine==cpos.line)=true) au0_._auto_1) :
    PE X (.Call (.Attribute o "reverse" apos) [] [] cpos) (tUn (fun x H Q=>tyV K "list" x H∧rReverse x [] H Q) to):=
  h▸pe_bm0 PySem.F.plainAttrs_list PySem.F.slot_list_reverse PySem.F.type_list_reverse mt_reverse ho hbase hline
theorem r_rvs {p:Addr} {xs:List V} {H:Hp} {Q:VK} (h:H p=some (.lst xs)) (q:Q .non (upd H p (.lst xs.reverse))):rReverse (.ref p) [] H Q:=⟨p,xs,rfl,rfl,h,q⟩
theorem extC {X:Cx} (K:PySem.W.Frag) {o e:Expr} {to te:TE} {apos cpos:Pos} (ho:PE X o to) (he:PE X e te) (h:autoParam (X.K=K) au0_._auto_1)
    (hbase:autoParam (attributeBase o "extend" X.env (eval o X.env)=eval o X.env) au0_._auto_1)
    (hfew:autoParam (((backTo cpos (starEach (e::[]) X.env)).all (fun x=>!x.1)&&(backToKw cpos (keywordEach [] X.env)).all (fun x=>x.1.isSome)
      && decide ((e::([]:List Expr)).length+([]:List Keyword).length+(if ([]:List Keyword).isEmpty then 0 else 1)<30))=true) au0_._auto_1)
    (hline:autoParam ((apos.endLine==cpos.line)=true) au0_._auto_1) (hs:autoParam (starEach (e::[]) X.env=(false,eval e X.env)::starEach [] X.env) au0_._auto_1) (hplain:autoParam ((backTo cpos (starEach [] X.env)).any (·.1)=false) au0_._auto_1) :
    PE X (.Call (.Attribute o "extend" apos) [e] [] cpos) (tBM K "list" rExtend to (tCons te tNil)):=
  h▸pe_bm PySem.F.plainAttrs_list PySem.F.slot_list_extend PySem.F.type_list_extend mt_extend ho (pa_cons he pa_nil hs) hbase hfew hline hs hplain
theorem r_ext {p b:Addr} {xs zs:List V} {H:Hp} {Q:VK} (h:H p=some (.lst xs)) (hb:H b=some (.lst zs)) (hl:xs.length+zs.length≤sizeLine) (q:Q .non (upd H p (.lst (xs++zs)))):rExtend (.ref p) [.ref b] H Q:=⟨p,b,xs,zs,rfl,rfl,h,hb,hl,q⟩
end My
namespace Jd
open PySem PySem.Spec PyProof.Rows L2 Mth
theorem rvsC {X:Cx} (K:PySem.W.Frag) {o:Expr} {to:TE} {apos cpos:Pos} (ho:QE X o to) (h:autoParam (X.K=K) au0_._auto_1) (hbase:autoParam (attributeBase o "reverse" X.env (eval o X.env)=eval o X.env) au0_._auto_1) (hline:autoParam ((apos.endLine==cpos.line)=true) au0_._auto_1) :
    QE X (.Call (.Attribute o "reverse" apos) [] [] cpos) (tUn (fun x H Q=>tyV K "list" x H∧rReverse x [] H Q) to):=⟨My.rvsC K ho.h h hbase hline⟩
theorem extC {X:Cx} (K:PySem.W.Frag) {o e:Expr} {to te:TE} {apos cpos:Pos} (ho:QE X o to) (he:QE X e te) (h:autoParam (X.K=K) au0_._auto_1)
    (hbase:autoParam (attributeBase o "extend" X.env (eval o X.env)=eval o X.env) au0_._auto_1)
    (hfew:autoParam (((backTo cpos (starEach (e::[]) X.env)).all (fun x=>!x.1)&&(backToKw cpos (keywordEach [] X.env)).all (fun x=>x.1.isSome)
      && decide ((e::([]:List Expr)).length+([]:List Keyword).length+(if ([]:List Keyword).isEmpty then 0 else 1)<30))=true) au0_._auto_1)
    (hline:autoParam ((apos.endLine==cpos.line)=true) au0_._auto_1) (hs:autoParam (starEach (e::[]) X.env=(false,eval e X.env)::starEach [] X.env) au0_._auto_1) (hplain:autoParam ((backTo cpos (starEach [] X.env)).any (·.1)=false) au0_._auto_1) :
    QE X (.Call (.Attribute o "extend" apos) [e] [] cpos) (tBM K "list" rExtend to (tCons te tNil)):=⟨My.extC K ho.h he.h h hbase hfew hline hs hplain⟩
end Jd
namespace L2
open PySem PySem.Spec PyProof.Rows
theorem lenS {α:Type} {n:Nat}:∀{us:List α},us.length=n+1→∃(a:α) (as:List α),us=a::as∧as.length=n
  | [],h=>nomatch h
  | a::as,h=>⟨a,as,rfl,Nat.succ.inj h⟩
theorem len0 {α:Type}:∀{us:List α},us.length=0→us=[]
  | [],_=>rfl
  | _::_,h=>nomatch h
theorem Fun.binds1 {K:PySem.W.Frag} {x qual:Str} {st:Stmt} {f:Addr} {fd:FuncData} {pa:Str} (F:Fun K x qual st f fd) (h:∀(kV doc pm:Value) (an:Option Addr) (cdv ct ua:Value),bindArgs (PySem.W.fnOf x qual (defArgs st) (defBody st) (defScope st) .none kV doc pm an cdv ct) ⟨[ua],[]⟩=pure [(pa,ua)]):Binds K fd [pa] []:=
  F.binds fun kV doc pm an cdv ct us hl=>by
    obtain ⟨ua,us0,rfl,hl0⟩:=lenS (n:=0) hl
    obtain rfl:=len0 hl0
    exact h kV doc pm an cdv ct ua
theorem Fun.binds2 {K:PySem.W.Frag} {x qual:Str} {st:Stmt} {f:Addr} {fd:FuncData} {pa pb:Str} (F:Fun K x qual st f fd) (h:∀(kV doc pm:Value) (an:Option Addr) (cdv ct ua ub:Value),bindArgs (PySem.W.fnOf x qual (defArgs st) (defBody st) (defScope st) .none kV doc pm an cdv ct) ⟨[ua,ub],[]⟩=pure [(pa,ua),(pb,ub)]):Binds K fd [pa,pb] []:=
  F.binds fun kV doc pm an cdv ct us hl=>by
    obtain ⟨ua,us1,rfl,hl1⟩:=lenS (n:=1) hl
    obtain ⟨ub,us0,rfl,hl0⟩:=lenS (n:=0) hl1
    obtain rfl:=len0 hl0
    exact h kV doc pm an cdv ct ua ub
theorem Fun.binds3 {K:PySem.W.Frag} {x qual:Str} {st:Stmt} {f:Addr} {fd:FuncData} {pa pb pc:Str} (F:Fun K x qual st f fd) (h:∀(kV doc pm:Value) (an:Option Addr) (cdv ct ua ub uc:Value),bindArgs (PySem.W.fnOf x qual (defArgs st) (defBody st) (defScope st) .none kV doc pm an cdv ct) ⟨[ua,ub,uc],[]⟩=pure [(pa,ua),(pb,ub),(pc,uc)]):Binds K fd [pa,pb,pc] []:=
  F.binds fun kV doc pm an cdv ct us hl=>by
    obtain ⟨ua,us2,rfl,hl2⟩:=lenS (n:=2) hl
    obtain ⟨ub,us1,rfl,hl1⟩:=lenS (n:=1) hl2
    obtain ⟨uc,us0,rfl,hl0⟩:=lenS (n:=0) hl1
    obtain rfl:=len0 hl0
    exact h kV doc pm an cdv ct ua ub uc
end L2
namespace My
open PySem PySem.Spec PyProof.Rows L2
theorem body_cut {g:TG} {tb:TS} {x:V} {σ:L2.St} {H:Hp} {Pv bk:L2.St→Hp→Prop} {rt:VK} (h:∀(M B:L2.St→Hp→Prop) (R:VK),(∀σ H,Pv σ H→M σ H)→(∀σ H,bk σ H→B σ H)→(∀v H,rt v H→R v H)→g x σ H fun σ2 H2=>tb (Ends.mk M R B M) σ2 H2):g x σ H fun σ2 H2=>tb (Ends.mk Pv rt bk Pv) σ2 H2:=h Pv bk rt (fun _ _ z=>z) (fun _ _ z=>z) (fun _ _ z=>z)
end My

namespace My
open PySem PySem.Spec PyProof.Rows L2 Mth
end My
namespace Jd
open PySem PySem.Spec PyProof.Rows L2 Mth
end Jd

namespace My
open PySem PySem.Spec PyProof.Rows L2 Mth
section
variable {X:Cx} {a b:Expr} {ta:TA} {p pos:Pos} {elts:List Expr} {kt:Nat} {tpos:Pos}
end
section
variable {σ:L2.St} {H:Hp} {K:PySem.W.Frag}
end
section
variable {n:Nat} {cap:List Nat} {g:TG} {tt:TT} {te:TE} {σ:L2.St} {H:Hp} {Q:VK} {K:PySem.W.Frag}
end
end My
namespace Jd
open PySem PySem.Spec PyProof.Rows L2 My
end Jd

namespace My
open PySem PySem.Spec PyProof.Rows L2 Mth
noncomputable def Fx (K:PySem.W.Frag) (x:Str) (st:Stmt):Prop:=∃(f:Addr) (fd:FuncData),PySem.W.nsIn K mainGlobals x=some (some (.ref f))∧Fun K x x st f fd
noncomputable def Fm (K:PySem.W.Frag) (C:Addr) (m q:Str) (st:Stmt):Prop:=∃(f:Addr) (fd:FuncData),PySem.W.findIn K (.ref C) m=some (some (.ref f))∧PySem.W.isFn K (.ref f)=true∧Fun K m q st f fd
noncomputable def Fi (K:PySem.W.Frag) (C:Addr) (q:Str) (st:Stmt):Prop:=∃(f:Addr) (fd:FuncData),PySem.W.findIn K (.ref C) "__init__"=some (some (.ref f))∧ownInit K C f=true∧PySem.W.isFn K (.ref f)=true∧Fun K "__init__" q st f fd
section
variable {K:PySem.W.Frag} {x m q:Str} {st:Stmt} {f C:Addr} {oc:Value} {od an:Option Addr} {osl:Array (Option Value)} {kV doc pm cdv ct:Value}
theorem fx_mk (a:PySem.W.nsIn K mainGlobals x=some (some (.ref f))) (l:K.lookup f=some ⟨oc,od,.func (PySem.W.fnOf x x (defArgs st) (defBody st) (defScope st) .none kV doc pm an cdv ct),osl⟩) (c:PySem.W.codeIn K cdv x=true) (k:PySem.W.keepIn K (.ref f)=true):Fx K x st:=⟨f,_,a,fun_mk l c k⟩
theorem fi_mk (a:PySem.W.findIn K (.ref C) "__init__"=some (some (.ref f))) (o:ownInit K C f=true) (i:PySem.W.isFn K (.ref f)=true) (l:K.lookup f=some ⟨oc,od,.func (PySem.W.fnOf "__init__" q (defArgs st) (defBody st) (defScope st) .none kV doc pm an cdv ct),osl⟩) (c:PySem.W.codeIn K cdv q=true) (k:PySem.W.keepIn K (.ref f)=true):Fi K C q st:=⟨f,_,a,o,i,fun_mk l c k⟩
theorem fm_mk (a:PySem.W.findIn K (.ref C) m=some (some (.ref f))) (i:PySem.W.isFn K (.ref f)=true) (l:K.lookup f=some ⟨oc,od,.func (PySem.W.fnOf m q (defArgs st) (defBody st) (defScope st) .none kV doc pm an cdv ct),osl⟩) (c:PySem.W.codeIn K cdv q=true) (k:PySem.W.keepIn K (.ref f)=true):Fm K C m q st:=⟨f,_,a,i,fun_mk l c k⟩
end
section
variable (P:Program) (w:World) (base:Heap) {K:PySem.W.Frag} {mg:Str→Option Value} {h:Heap} {k:Nat} {x m q:Str} {ps:List Str} {sp:Sp} {st:Stmt} {f C:Addr} {fd:FuncData}
theorem dnm (X:K.In h) (G:h.Ns mainGlobals mg) (a:PySem.W.nsIn K mainGlobals x=some (some (.ref f))) (F:Fun K x x st f fd) (ok:FnOk P w K mg base CX0 k f fd ps sp) (b:Binds K fd ps []):Dn P w K mg base k x ps sp:=dn_mk F ok (PySem.W.mg_of X G a) b
theorem dnmX (X:K.In h) (G:h.Ns mainGlobals mg) (a:PySem.W.nsIn K mainGlobals x=some (some (.ref f))) (F:Fun K x x st f fd) (ok:FnOk P w K mg base (CXe P w) k f fd ps sp) (b:Binds K fd ps []):DnX P w K mg base k x ps sp:=dnx_mk F ok (PySem.W.mg_of X G a) b
end
end My

namespace My
open PySem PySem.Spec PyProof.Rows L2 Mth
noncomputable def bls (bs:List Bool):List V:=bs.map V.bl
noncomputable def rAll (K:PySem.W.Frag):List V→Hp→VK→Prop:=fun xs H Q=>∃(l:Addr) (bs:List Bool),xs=[.ref l]∧SqL K H l (bls bs)∧Q (.bl (bs.all id)) H
theorem bools_of:∀{bs:List Bool} {its:List Value},Vals (bls bs) its→PyProof.Rows.LSm.BoolsAre its bs
  | [],_,.nil=>.nil
  | b::_,_,.cons r rr=>by
    cases (show _=Value.bool b from r)
    exact .cons b (bools_of rr)
theorem allC {X:Cx} (K:PySem.W.Frag) (hc:X.calm=true) (hK:autoParam (X.K=K) au0_._auto_1):CallR X (.builtin "all") (rAll K):=by
  subst hK
  intro pins s σ H xs us Q I r h
  obtain ⟨l,bs,rfl,hq,q⟩:=h
  obtain ⟨u,rfl,rx⟩:=vals1 r
  cases rx
  obtain ⟨its,rv,p,hz⟩:=I.list hq
  have hb:=bools_of rv
  have hl:=p.isList
  have hlt:l<s.heap.objs.size:=by obtain ⟨_,e,_⟩:=hl;exact Heap.lt_size e
  refine call_all_walk (wpAny_pyIter_list hl ⟨s.heap.objs.size,[s.heap.objs.size,l],[s.heap.objs.size],its.toArray.size,_,_,fun i=>(bs[i]?).getD true,rfl,
    Walks.list (A:=X.A.in1) (I.ok.hd hc) _ l (Nat.ne_of_lt hlt) its.toArray,⟨⟨_,Heap.get?_push_size _ rfl,rfl,rfl⟩,hl.push _⟩,fun i v s' Q' E' hP hQ=>?_,fun h' tk hk=>?_⟩)
  · obtain ⟨b,e,rfl⟩:=hb.get i v (by simpa using hP)
    simp only [e,Option.getD_some] at hQ
    exact wpAny_truthy_bool hQ
  · have e:((List.range its.toArray.size).all fun i=>(bs[i]?).getD true)=bs.all id:=by
      rw [List.size_toArray,hb.length];exact PyProof.Rows.LSm.range_all bs
    rw [e]
    exact ⟨.bl _,H,I.kept (t':=tk) (PyProof.Rows.LSm.kept_iter hk),rfl,q⟩
end My
namespace Jd
open PySem PySem.Spec PyProof.Rows L2 Mth
end Jd
namespace My
open PySem PySem.Spec PyProof.Rows L2 Mth
section
variable {σ:L2.St} {H:Hp} {Q:VK} {K:PySem.W.Frag}
theorem r_sl {r:V→Option Int→Option Int→Hp→VK→Prop} {te:L2.TE} {tl th:L2.TO} (h:te σ H fun x H1=>tl σ H1 fun l H2=>th σ H2 fun u H3=>r x l u H3 Q):tSl r te tl th σ H Q:=h
theorem r_part {t:L2.TE} {R:Option Int→Hp→Prop} (h:t σ H fun x H1=>∃i,x=.int i∧R (some i) H1):tPart t σ H R:=h
theorem r_nopart {R:Option Int→Hp→Prop} (h:R none H):tNoPart σ H R:=h
theorem r_pi {i:Int} {R:Int→Prop} (h:R i):∃j,V.int i=V.int j∧R j:=⟨i,rfl,h⟩
theorem cut_ab {xs:List V} {n m:Nat} (h1:n≤m) (h2:m≤xs.length):cutV xs (some (n:Int)) (some (m:Int))=(xs.drop n).take (m-n):=by
  unfold cutV
  rw [HT.sIx_nat,HT.sIx_nat,Nat.min_eq_left h2,Nat.min_eq_left (Nat.le_trans h1 h2)]
theorem cutk (xs:List V) (n:Nat):cutV xs (some (n:Int)) none=xs.drop n:=by
  unfold cutV
  rw [HT.sIx_nat,show HT.sIx xs.length xs.length none=xs.length from rfl]
  rcases Nat.le_total n xs.length with z | z
  · rw [Nat.min_eq_left z]
    exact List.take_of_length_le (by rw [List.length_drop];exact Nat.le_refl _)
  · rw [Nat.min_eq_right z,List.drop_of_length_le z,List.drop_of_length_le (Nat.le_refl _)]
    simp
theorem r_slL {a:Addr} {xs:List V} {lo hi:Option Int} (h:H a=some (.lst xs)) (k:∀(p:Addr) (H':Hp),Same H H'→H p=none→H' p=some (.lst (cutV xs lo hi))→Q (.ref p) H'):rSlL K (.ref a) lo hi H Q:=
  ⟨a,xs,rfl,SqL.of h,fun p hp=>k p _ (same_new hp _) hp upd_same⟩
theorem r_all {l:Addr} {bs:List Bool} (h:H l=some (.lst (bls bs))) (q:Q (.bl (bs.all id)) H):rAll K [.ref l] H Q:=⟨l,bs,rfl,SqL.of h,q⟩
end
mutual
theorem Den.up {H H':Hp} (s:Same H H'):∀{v:V} {d:PyData},Den H v d→Den H' v d
  | _,_,.non=>.non
  | _,_,.bl b=>.bl b
  | _,_,.int i=>.int i
  | _,_,.str x=>.str x
  | _,_,.tup e dd=>.tup (s _ _ e) (Dens.up s dd)
  | _,_,.lst e dd=>.lst (s _ _ e) (Dens.up s dd)
theorem Dens.up {H H':Hp} (s:Same H H'):∀{vs:List V} {ds:List PyData},Dens H vs ds→Dens H' vs ds
  | _,_,.nil=>.nil
  | _,_,.cons d dd=>.cons (Den.up s d) (Dens.up s dd)
end
end My

namespace My
open PySem PySem.Spec PySem.Calls PyProof.Rows L2 Mth
noncomputable def Its (z:Str):It:=⟨fun i _=>i<z.cps.size,fun i H x H'=>H'=H∧∃c,z.cps[i]?=some c∧x=.str ⟨#[c]⟩,fun i _=>z.cps.size≤i⟩
theorem turn_strA {P:Program} {w:World} {K:PySem.W.Frag} {tg:Expr} (it:Addr) (z:Str) (t:Tok):Turn P w K tg (Its z) [it] it (fun i h=>h.IsStrIter it "str_ascii_iterator" z t i) where
  mem:=by simp
  obj:=fun i h st b hb=>by
    have e:b=it:=by simpa using hb
    subst e
    obtain ⟨o,e,c,d⟩:=st
    exact ⟨o,e,fun v z=>by rw [d] at z;cases z⟩
  keep:=fun i h h' st k=>let ⟨o,ho,r⟩:=st;⟨o,k it (by simp) o ho,r⟩
  item:=by
    intro X hP hw hK hc i pins s σ H E I hf st hg
    subst hP hw hK
    obtain ⟨f0,f1,f2,f3,f4,f5⟩:=hf it (by simp)
    have hg:i<z.cps.size:=hg
    have hx:z.cps[i]?=some z.cps[i]:=by simp [hg]
    refine wpAny_pyNext_ascii_item st hx fun h' st' sb=>?_
    have I1:Inv X pins σ H { s with heap:=h',toks:=s.toks+1 }:=I.turned (t':=s.toks+1) (fun b o hb e=>(sb.2 b hb).trans e) f0 f1 f3 f4 f5
    obtain ⟨o,e,c,d⟩:=id st'
    exact ⟨_,rfl,go_of (s:={ s with heap:=h',toks:=s.toks+1 }) e c d (by decide) ⟨.str ⟨#[z.cps[i]]⟩,H,I1,⟨_,rfl⟩,⟨rfl,_,hx,rfl⟩,st',fun b hb=>(hf b hb).1⟩⟩
  done:=by
    intro X hP hw hK hc i pins s σ H E I hf st hg
    subst hP hw hK
    obtain ⟨f0,f1,f2,f3,f4,f5⟩:=hf it (by simp)
    have hg:z.cps.size≤i:=hg
    exact wpAny_pyNext_ascii_end (I.ok.hd hc) st (by simp [hg]) fun h' eb=>⟨rfl,I.turned (t':=s.toks) (fun b o hb e=>eb b o hb e) f0 f1 f3 f4 f5⟩
  self:=fun _ _ _ _ _ st h=>wpAny_pyIter_striter_ascii st h
theorem turn_strW {P:Program} {w:World} {K:PySem.W.Frag} {tg:Expr} (it:Addr) (z:Str) (t:Tok):Turn P w K tg (Its z) [it] it (fun i h=>h.IsStrIter it "str_iterator" z t i) where
  mem:=by simp
  obj:=fun i h st b hb=>by
    have e:b=it:=by simpa using hb
    subst e
    obtain ⟨o,e,c,d⟩:=st
    exact ⟨o,e,fun v z=>by rw [d] at z;cases z⟩
  keep:=fun i h h' st k=>let ⟨o,ho,r⟩:=st;⟨o,k it (by simp) o ho,r⟩
  item:=by
    intro X hP hw hK hc i pins s σ H E I hf st hg
    subst hP hw hK
    obtain ⟨f0,f1,f2,f3,f4,f5⟩:=hf it (by simp)
    have hg:i<z.cps.size:=hg
    have hx:z.cps[i]?=some z.cps[i]:=by simp [hg]
    refine wpAny_pyNext_wide_item st hx fun h' st' sb=>?_
    have I1:Inv X pins σ H { s with heap:=h',toks:=s.toks+1 }:=I.turned (t':=s.toks+1) (fun b o hb e=>(sb.2 b hb).trans e) f0 f1 f3 f4 f5
    obtain ⟨o,e,c,d⟩:=id st'
    exact ⟨_,rfl,go_of (s:={ s with heap:=h',toks:=s.toks+1 }) e c d (by decide) ⟨.str ⟨#[z.cps[i]]⟩,H,I1,⟨_,rfl⟩,⟨rfl,_,hx,rfl⟩,st',fun b hb=>(hf b hb).1⟩⟩
  done:=by
    intro X hP hw hK hc i pins s σ H E I hf st hg
    subst hP hw hK
    obtain ⟨f0,f1,f2,f3,f4,f5⟩:=hf it (by simp)
    have hg:z.cps.size≤i:=hg
    exact wpAny_pyNext_wide_end (I.ok.hd hc) st (by simp [hg]) fun h' eb=>⟨rfl,I.turned (t':=s.toks) (fun b o hb e=>eb b o hb e) f0 f1 f3 f4 f5⟩
  self:=fun _ _ _ _ _ st h=>wpAny_pyIter_striter_wide st h
noncomputable def iStr (tl:TE):TI:=fun σ H R=>tl σ H fun x H1=>∃z,x=.str z∧R (Its z) H1
theorem pi_str {X:Cx} {tg l:Expr} {tl:TE} (hl:PE X l tl):PI X tg l (iStr tl):=by
  intro pins s σ H R I h
  refine thn (hl pins s σ H _ I h) fun v s1 ⟨x,H1,I1,r1,q1⟩=>?_
  obtain ⟨z,e,q⟩:=q1
  subst e
  obtain ⟨t,rfl⟩:=r1
  cases ha:z.cps.all (·<128) with
  | true=>
    refine wpAny_pyIter_ascii ha ?_
    refine ⟨s1.heap.objs.size,[s1.heap.objs.size],_,_,H1,rfl,I1.kept (t':=s1.toks) fun b o e=>Heap.get?_push_of_some _ e,turn_strA _ z t,⟨_,Heap.get?_push_size _ rfl,rfl,rfl⟩,fun b hb=>?_,q⟩
    have e:b=s1.heap.objs.size:=by simpa using hb
    subst e
    exact I1.fpOk (Nat.le_refl _) (I1.hok.fresh (Nat.le_refl _))
  | false=>
    refine wpAny_pyIter_wide ha ?_
    refine ⟨s1.heap.objs.size,[s1.heap.objs.size],_,_,H1,rfl,I1.kept (t':=s1.toks) fun b o e=>Heap.get?_push_of_some _ e,turn_strW _ z t,⟨_,Heap.get?_push_size _ rfl,rfl,rfl⟩,fun b hb=>?_,q⟩
    have e:b=s1.heap.objs.size:=by simpa using hb
    subst e
    exact I1.fpOk (Nat.le_refl _) (I1.hok.fresh (Nat.le_refl _))
theorem r_iS {tl:TE} {σ:L2.St} {H:Hp} {R:It→Hp→Prop} (h:tl σ H fun x H1=>∃z,x=.str z∧R (Its z) H1):iStr tl σ H R:=h
theorem for_str {z:Str} {g:TG} {tb:TS} {D:Ends} {σ:L2.St} {H:Hp} (Pv:Nat→L2.St→Hp→Prop) (h0:Pv 0 σ H)
    (hs:∀i c σ H,z.cps[i]?=some c→Pv i σ H→g (.str ⟨#[c]⟩) σ H fun σ2 H2=>tb { D with nx:=Pv (i+1),ct:=Pv (i+1),bk:=D.nx } σ2 H2) (hd:∀σ H,Pv z.cps.size σ H→D.nx σ H) :
    ∃W:Nat→Nat→L2.St→Hp→Prop,(∃m,W 0 m σ H)∧∀i m σ H,W i m σ H →
      ((Its z).stop i H∧D.nx σ H)∨((Its z).go i H∧∃N:L2.St→Hp→Prop,(∀σ' H',N σ' H'→∃m',m'<m∧W (i+1) m' σ' H')∧∀x H',(Its z).yld i H x H'→g x σ H' fun σ2 H2=>tb { D with nx:=N,ct:=N,bk:=D.nx } σ2 H2):=by
  refine ⟨fun i m σ H=>m=z.cps.size-i∧i≤z.cps.size∧Pv i σ H,⟨z.cps.size,by simp,Nat.zero_le _,h0⟩,?_⟩
  rintro i m σ H ⟨rfl,hi,p⟩
  by_cases hlt:i<z.cps.size
  · refine .inr ⟨hlt,Pv (i+1),fun σ' H' p'=>⟨z.cps.size-(i+1),by omega,rfl,hlt,p'⟩,fun x H' y=>?_⟩
    obtain ⟨e,c,hc,y⟩:=y
    subst e y
    exact hs i c σ _ hc p
  · have e:i=z.cps.size:=by omega
    subst e
    exact .inl ⟨Nat.le_refl _,hd σ H p⟩
theorem tells_str {z:Str}:Tells (Its z) (fun _=>True) (z.cps.toList.map fun c=>V.str ⟨#[c]⟩):=
  ⟨fun i H h hi=>⟨show i<z.cps.size by simpa using hi,fun x H' y=>⟨y.1,by
    obtain ⟨c,hc,e⟩:=y.2
    rw [List.getElem?_map,Array.getElem?_toList,hc,e]
    rfl⟩⟩,fun H h=>by show z.cps.size≤_;simp⟩
noncomputable def rSlS:V→Option Int→Option Int→Hp→VK→Prop:=fun x lo hi H Q=>∃z,x=.str z∧z.length≤sizeLine∧Q (.str (Txt.slice z lo hi)) H
theorem part_of {v:Value} {o:Option Int} (h:IsPart v o):∃p:Option (Int×Tok),v=partValue p∧o=p.map (·.1):=by
  cases h with
  | none=>exact ⟨none,rfl,rfl⟩
  | int i t=>exact ⟨some (i,t),rfl,rfl⟩
theorem sl_str {X:Cx}:SlR X rSlS:=by
  intro pins s σ H x v vl vu lo hi sl Q I rx hs pl pu h
  obtain ⟨z,rfl,hz,q⟩:=h
  obtain ⟨t,rfl⟩:=rx
  obtain ⟨p1,rfl,rfl⟩:=part_of pl
  obtain ⟨p2,rfl,rfl⟩:=part_of pu
  exact ⟨"str",_,F.slot_str_getitem.lookup,typeIs_str _ _ _,wpAny_getItem_str_slice (l:=p1) (u:=p2) (st:=none) hs rfl
    (post_val_or_str ⟨Nat.le_trans (Txt.slice_le z _ _) hz,fun t' k=>⟨.str _,H,I.tok _,⟨_,rfl⟩,q⟩⟩)⟩
noncomputable def rStarts:V→List V→Hp→VK→Prop:=fun x xs H Q=>∃z y,x=.str z∧xs=[.str y]∧Q (.bl (Txt.startswith z y)) H
theorem mt_starts {X:Cx}:MtR X "str.startswith" rStarts:=by
  intro pins s σ H x xs v us Q I rx rs h
  obtain ⟨z,y,rfl,rfl,q⟩:=h
  obtain ⟨t,rfl⟩:=rx
  obtain ⟨u,rfl,ru⟩:=rs.one
  obtain ⟨t',rfl⟩:=ru
  exact SC.startswith ⟨.bl _,H,I,rfl,q⟩
noncomputable def rZfill:V→List V→Hp→VK→Prop:=fun x xs H Q=>∃z i,x=.str z∧xs=[.int i]∧PadOk i=true∧Q (.str (Txt.zfill z i)) H
theorem mt_zfill {X:Cx}:MtR X "str.zfill" rZfill:=by
  intro pins s σ H x xs v us Q I rx rs h
  obtain ⟨z,i,rfl,rfl,hp,q⟩:=h
  obtain ⟨t,rfl⟩:=rx
  obtain ⟨u,rfl,ru⟩:=rs.one
  obtain ⟨t',rfl⟩:=ru
  exact SC.zfill hp fun t' k=>⟨.str _,H,I.tok _,⟨_,rfl⟩,q⟩
end My
namespace My
open PySem PySem.Spec PySem.Calls PyProof.Rows L2 Mth
noncomputable def glue (sep:Str) (zs:List Str):Str:=match zs with | [z]=>z | l=>Builtin.Str.glued sep l
noncomputable def rJoin:V→List V→Hp→VK→Prop:=fun x xs H Q=>∃sep b zs,x=.str sep∧xs=[.ref b]∧H b=some (.lst (zs.map V.str))∧(zs.foldl (fun n z=>n+z.length+sep.length) 0)≤sizeLine∧(glue sep zs).length≤sizeLine∧Q (.str (glue sep zs)) H
theorem strs_of:∀{zs:List Str} {its:List Value},Vals (zs.map V.str) its→∃l:List (Str×Tok),its=strValues l∧l.map (·.1)=zs
  | [],_,.nil=>⟨[],rfl,rfl⟩
  | z::zs,_,.cons r t=>by
    obtain ⟨l,e,f⟩:=strs_of (zs:=zs) t
    obtain ⟨tk,rfl⟩:=r
    exact ⟨(z,tk)::l,by rw [e];rfl,by rw [List.map_cons,f]⟩
theorem fold_len (sep:Str):∀(l:List Str) (n:Nat),l.toArray.foldl (fun a z=>a+z.length+sep.length) n=l.foldl (fun a z=>a+z.length+sep.length) n:=fun l n=>by simp
theorem mt_join {X:Cx}:MtR X "str.join" rJoin:=by
  intro pins s σ H x xs v us Q I rx rs h
  obtain ⟨sep,b,zs,rfl,rfl,hb,hl,hg,q⟩:=h
  obtain ⟨t,rfl⟩:=rx
  obtain ⟨u,rfl,ru⟩:=rs.one
  cases ru
  obtain ⟨its,rv,p,hz⟩:=I.list (SqL.of hb)
  obtain ⟨l,rfl,e⟩:=strs_of rv
  refine call_meets F.slot_str_join (typeIs_str _ _ _) F.entry_str_join (F.args_str_join_2 _ _) (meets_str_join_list sep t b l ?_) ⟨p.isList,?_⟩
  · rw [e,fold_len]
    unfold Builtin.Str.tooLong
    exact decide_eq_false (by omega)
  · subst e
    cases l with
    | nil=>exact ⟨hg,.str _,H,I.tok _,⟨_,rfl⟩,q⟩
    | cons a r=>
      cases r with
      | nil=>exact ⟨.str _,H,I,⟨_,rfl⟩,q⟩
      | cons a2 r2=>exact ⟨hg,.str _,H,I.tok _,⟨_,rfl⟩,q⟩
end My

namespace My
open PySem PySem.Spec PySem.Calls PySem.NumText PyProof.Rows PySem.W
theorem wp_text2 {M:Model} {A:Around} {E:Value→Shared→Prop} {s:Shared} {Q:Value→Shared→Prop} {v:Value} {text:List Nat} {n:Int} (hd:s.heap.NoDigits)
    (hr:(int_private% "readNumeral") (if (text.takeWhile (· != 0)).length≤640 then 0 else 4300) 10 (text.takeWhile (· != 0))=(int_private% "Numeral.value") n)
    (ha:((text.takeWhile (· != 0)).length==text.length)=true) (h:Q (.int n s.toks) { s with toks:=s.toks+1 }) :
    wpAny M A ((int_private% "intFromText") v text 10) Q E s:=by
  by_cases hs:(text.takeWhile (· != 0)).length≤640
  · rw [if_pos hs] at hr
    exact KIN.wp_text hs hr ha h
  · rw [if_neg hs] at hr
    obtain ⟨mc,hns,hnone⟩:=hd
    k_delta "intFromText"
    dsimp only
    rw [if_neg hs]
    unfold Builtin.intMaxStrDigits
    refine wpAny_bind (wpAny_bind (wpAny_nsGet hns ?_))
    rw [hnone]
    refine wpAny_pure ?_
    rw [hr]
    dsimp only
    rw [if_pos ha]
    obtain ⟨hp,g,d,tk,os⟩:=s
    repeat (any_goals (first | assumption | wp_step))
structure Hid2 (p:Prop):Prop where
  out:p
set_option maxHeartbeats 4000000 in
theorem meets_text {x:PySem.Str} {u:Tok} {n:Int} (hl:x.length≤sizeLine) (hn:PySem.intText? x=some n):Meets (Builtin.«int.__new__» ⟨[.type "int",.str x u],[]⟩) (fun _ R s=>s.heap.NoDigits∧R (.ok (.ret (.int n s.toks))) { s with toks:=s.toks+1 }):=by
  intro prog w A R s ⟨hd,h⟩
  obtain ⟨hp,g,d,tk,os⟩:=s
  have f1:=F.conv_sub_int
  have f2:=F.madeHere_int
  have f3:=KIN.str_int
  have f4:=KIN.str_idx
  have f5:=KIN.str_trunc
  have f6:typeOf (.str x u)=pure (.type "str"):=rfl
  have hr:(int_private% "readNumeral") (numLimitOf x) 10 (numSeenOf x)=(int_private% "Numeral.value") n∧((numSeenOf x).length==(numTextOf x).length)=true:=by
    rcases readAny x hl with ⟨m,h1,h2,h3⟩ | ⟨h1,_⟩
    · rw [hn] at h1
      injection h1 with h1
      subst h1
      exact ⟨h3,h2⟩
    · rw [hn] at h1
      cases h1
  have hk:=Hid2.mk hr
  have hd':=Hid2.mk hd
  clear hr hl hn hd
  repeat (any_goals (first
    | assumption
    | ((with_reducible show wpAny _ _ ((int_private% "intFromText") _ _ _) _ _ _); refine wp_text2 hd'.out hk.out.1 hk.out.2 ?_)
    | wp_step))
end My
namespace My
open PySem PySem.Spec PySem.Calls PyProof.Rows L2 Mth
noncomputable def rIntS (K:PySem.W.Frag):List V→Hp→VK→Prop:=fun xs H Q=>∃z n,xs=[.str z]∧PySem.intText? z=some n∧z.length≤sizeLine∧PySem.W.nsOkIn K cStatics=true∧PySem.W.nsIn K cStatics "sys.int_max_str_digits"=some none∧Q (.int n) H
theorem call_intS {X:Cx}:CallR X (.type "int") (rIntS X.K):=by
  intro pins s σ H xs us Q I r h
  obtain ⟨z,n,rfl,hn,hl,h1,h2,q⟩:=h
  obtain ⟨u,rfl,ru⟩:=r.one
  obtain ⟨t,rfl⟩:=ru
  have hd:s.heap.NoDigits:=⟨_,.of_isNs (PySem.W.isNs_of_in I.kIn h1),PySem.W.nsMap_none_of_in I.kIn h1 h2⟩
  exact call_int_1 (meets_text hl hn) ⟨hd,rfl,.int n,H,I.tok _,⟨_,rfl⟩,q⟩
end My

namespace My
open PySem PySem.Spec PySem.Calls PyProof.Rows L2 Mth
structure FunD (K:PySem.W.Frag) (x qual:Str) (st:Stmt) (f:Addr) (fd:FuncData) (d:Value):Prop where
  ex:∃(T:Addr) (oc:Value) (od:Option Addr) (kV doc pm:Value) (an:Option Addr) (cdv ct:Value) (osl:Array (Option Value)) (tc:Value) (td:Option Addr) (tn:Nat) (tsl:Array (Option Value)),
    fd=PySem.W.fnOf x qual (defArgs st) (defBody st) (defScope st) (.ref T) kV doc pm an cdv ct∧K.lookup f=some ⟨oc,od,.func fd,osl⟩∧PySem.W.codeIn K cdv qual=true∧K.lookup T=some ⟨tc,td,.seq #[d] tn,tsl⟩
  kp:PySem.W.keepIn K (.ref f)=true
section
variable {P:Program} {w:World} {K:PySem.W.Frag} {mg:Str→Option Value} {base:Heap} {x qual:Str} {st:Stmt} {f:Addr} {fd:FuncData} {d:Value} {N ps:List Str} {k:Nat} {sp:Sp}
theorem FunD.ok (F:FunD K x qual st f fd d) (S:FnScope N ps (defScope st)) (len:∀vs H Q E,sp vs H Q E→vs.length=ps.length)
    (hbody:∀(cdv:Value) (A:Around) (outer:List Env) (s:Shared) (H:Hp) (vs:List V) (Q:VK) (E:XK),Room k (A.deeper (envOfC qual (defScope st) s.heap.objs.size f cdv))→sp vs H Q E →
      ∃t,PSs (cxOf CX0 P w K mg base N qual (defScope st) f cdv A outer s H E).nox (defBody st) t∧t { nx:=fun _ H'=>Q .non H',rt:=Q } (start N vs) H):FnOk P w K mg base CX0 (k+1) f fd ps sp:=by
  obtain ⟨T,oc,od,kV,doc,pm,an,cdv,ct,osl,tc,td,tn,tsl,rfl,lk,hcd,_⟩:=F.ex
  refine fn_of lk hcd S len fun A outer s H vs Q E hr hsp=>?_
  obtain ⟨t,h,q⟩:=hbody cdv A outer s H vs Q E hr hsp
  exact ⟨t,h.nox,q⟩
theorem FunD.okX (F:FunD K x qual st f fd d) (S:FnScope N ps (defScope st)) (len:∀vs H Q E,sp vs H Q E→vs.length=ps.length)
    (hbody:∀(cdv:Value) (A:Around) (outer:List Env) (s:Shared) (H:Hp) (vs:List V) (Q:VK) (E:XK),Room k (A.deeper (envOfC qual (defScope st) s.heap.objs.size f cdv))→sp vs H Q E →
      ∃t,PSs (cxOf (CXe P w) P w K mg base N qual (defScope st) f cdv A outer s H E) (defBody st) t∧t { nx:=fun _ H'=>Q .non H',rt:=Q } (start N vs) H):FnOk P w K mg base (CXe P w) (k+1) f fd ps sp:=by
  obtain ⟨T,oc,od,kV,doc,pm,an,cdv,ct,osl,tc,td,tn,tsl,rfl,lk,hcd,_⟩:=F.ex
  exact fn_of lk hcd S len (hbody cdv)
theorem FunD.binds (F:FunD K x qual st f fd d) {pa pb:Str}
    (h2:∀(T:Addr) (kV doc pm:Value) (an:Option Addr) (cdv ct ua ub:Value),∃k,bindArgs (PySem.W.fnOf x qual (defArgs st) (defBody st) (defScope st) (.ref T) kV doc pm an cdv ct) ⟨[ua,ub],[]⟩=seqItems? (.ref T) >>= k∧k (some #[d])=pure [(pa,ua),(pb,ub)])
    (h1:∀(T:Addr) (kV doc pm:Value) (an:Option Addr) (cdv ct ua:Value),∃k,bindArgs (PySem.W.fnOf x qual (defArgs st) (defBody st) (defScope st) (.ref T) kV doc pm an cdv ct) ⟨[ua],[]⟩=seqItems? (.ref T) >>= k∧k (some #[d])=pure [(pa,ua),(pb,d)]) :
    Binds K fd [pa,pb] []∧Binds K fd [pa,pb] [d]:=by
  obtain ⟨T,oc,od,kV,doc,pm,an,cdv,ct,osl,tc,td,tn,tsl,rfl,lk,hcd,ht⟩:=F.ex
  constructor
  · intro s us X hl
    have hl:us.length=2:=by rw [List.append_nil] at hl;exact hl
    obtain ⟨ua,us1,rfl,hl1⟩:=lenS (n:=1) hl
    obtain ⟨ub,us0,rfl,hl0⟩:=lenS (n:=0) hl1
    obtain rfl:=len0 hl0
    obtain ⟨k,a,b⟩:=h2 T kV doc pm an cdv ct ua ub
    exact BindsTo.of_defaults rfl (X _ _ ht) rfl a b
  · intro s us X hl
    have hl:us.length=1:=by
      rw [List.length_append] at hl
      have:us.length+1=2:=hl
      omega
    obtain ⟨ua,us0,rfl,hl0⟩:=lenS (n:=0) hl
    obtain rfl:=len0 hl0
    obtain ⟨k,a,b⟩:=h1 T kV doc pm an cdv ct ua
    exact BindsTo.of_defaults rfl (X _ _ ht) rfl a b
end
noncomputable def Fxd (K:PySem.W.Frag) (x:Str) (st:Stmt) (i:Int):Prop:=∃(f:Addr) (fd:FuncData) (tk:Tok),PySem.W.nsIn K mainGlobals x=some (some (.ref f))∧FunD K x x st f fd (.int i tk)
theorem fxd_mk {K:PySem.W.Frag} {x:Str} {st:Stmt} {i:Int} {f T:Addr} {oc tc:Value} {od an td:Option Addr} {osl tsl:Array (Option Value)} {kV doc pm cdv ct:Value} {tk:Tok} {tn:Nat} (a:PySem.W.nsIn K mainGlobals x=some (some (.ref f)))
    (l:K.lookup f=some ⟨oc,od,.func (PySem.W.fnOf x x (defArgs st) (defBody st) (defScope st) (.ref T) kV doc pm an cdv ct),osl⟩) (t:K.lookup T=some ⟨tc,td,.seq #[.int i tk] tn,tsl⟩) (c:PySem.W.codeIn K cdv x=true) (k:PySem.W.keepIn K (.ref f)=true):Fxd K x st i:=
  ⟨f,_,tk,a,⟨T,oc,od,kV,doc,pm,an,cdv,ct,osl,tc,td,tn,tsl,rfl,l,c,t⟩,k⟩
structure DnD (CX:CXT) (P:Program) (w:World) (K:PySem.W.Frag) (mg:Str→Option Value) (base:Heap) (k:Nat) (x:Str) (ps:List Str) (sp:Sp) (i:Int):Prop where
  ex:∃(f:Addr) (fd:FuncData) (tk:Tok),FnOk P w K mg base CX k f fd ps sp∧mg x=some (.ref f)∧PySem.W.keepIn K (.ref f)=true∧Binds K fd ps []∧Binds K fd ps [.int i tk]
theorem DnD.two {P:Program} {w:World} {K:PySem.W.Frag} {mg:Str→Option Value} {base:Heap} {k:Nat} {x:Str} {ps:List Str} {sp:Sp} {i:Int} (D:DnD CX0 P w K mg base k x ps sp i):Dn P w K mg base k x ps sp:=
  let ⟨f,fd,_,a,b,c,d,_⟩:=D.ex;⟨f,fd,a,b,c,d⟩
theorem DnD.twoX {P:Program} {w:World} {K:PySem.W.Frag} {mg:Str→Option Value} {base:Heap} {k:Nat} {x:Str} {ps:List Str} {sp:Sp} {i:Int} (D:DnD (CXe P w) P w K mg base k x ps sp i):DnX P w K mg base k x ps sp:=
  let ⟨f,fd,_,a,b,c,d,_⟩:=D.ex;⟨f,fd,a,b,c,d⟩
section
variable {X:Cx} {k:Nat} {x:Str} {ps:List Str} {sp:Sp} {i:Int} {p pos:Pos} {e:Expr} {es:List Expr} {t:TA} {E:XK}
theorem pe_ddX (D:DnD (CXe X.prog X.w) X.prog X.w X.K X.mg X.base k x ps sp i) (hp:Passes (CXe X.prog X.w) X E) (hr:Room k X.A) (hg:Gl X x) (ha:PA X (e::es) t) (hdb:autoParam ((x==("__debug__":Str))=false) au1_._auto_1)
    (he:autoParam (starEach (e::es) X.env=(false,eval e X.env)::starEach es X.env) au0_._auto_1) (hpl:autoParam ((backTo pos (starEach es X.env)).any (·.1)=false) au0_._auto_1):PE X (.Call (.Name x p) (e::es) [] pos) (tCall sp [.int i] E t):=by
  obtain ⟨f,fd,tk,ok,hm,hk,_,hb⟩:=D.ex
  exact pe_call ok hr hg hm hk hb (.cons ⟨tk,rfl⟩ .nil) hp ha hdb he hpl
theorem r_callD {σ:L2.St} {H:Hp} {Q:VK} {ts:TA} {v:V} (h:ts σ H fun vs H1=>sp (vs++[v]) H1 Q E):tCall sp [v] E ts σ H Q:=h
structure Cs (mg:Str→Option Value) (x:Str) (z:Str):Prop where
  at_:∃t,mg x=some (.str z t)
theorem pe_cs {z:Str} (hg:Gl X x) (c:Cs X.mg x z) (hd:autoParam ((x==("__debug__":Str))=false) au1_._auto_1):PE X (.Name x pos) (tC (.str z)):=by
  obtain ⟨t,h⟩:=c.at_
  exact L2.pe_glob hg h (show RelV (.str z) (.str z t) from ⟨t,rfl⟩) hd
end
theorem len_strC {X:Cx}:CallR X (.builtin "len") (fun xs H Q=>∃z,xs=[.str z]∧z.length≤sizeLine∧Q (.int z.length) H):=call_len_str
theorem strC {X:Cx}:CallR X (.type "str") (fun xs H Q=>∃i,xs=[.int i]∧i.natAbs.log2<1920∧Q (.str (toString i)) H):=call_str_int
theorem intC {X:Cx} (K:PySem.W.Frag) (h:autoParam (X.K=K) au0_._auto_1):CallR X (.type "int") (rIntS K):=h▸call_intS
end My
namespace Jd
open PySem PySem.Spec PyProof.Rows L2 My
section
variable {X:Cx} {k:Nat} {x:Str} {ps:List Str} {sp:Sp} {i:Int} {p pos:Pos} {e:Expr} {es:List Expr} {t:TA} {E:XK} {tg l:Expr} {tl:TE}
theorem pe_ddX (D:DnD (CXe X.prog X.w) X.prog X.w X.K X.mg X.base k x ps sp i) (hp:Passes (CXe X.prog X.w) X E) (hr:Room k X.A) (hg:Gl X x) (ha:QA X (e::es) t) (hdb:autoParam ((x==("__debug__":Str))=false) au1_._auto_1)
    (he:autoParam (starEach (e::es) X.env=(false,eval e X.env)::starEach es X.env) au0_._auto_1) (hpl:autoParam ((backTo pos (starEach es X.env)).any (·.1)=false) au0_._auto_1):QE X (.Call (.Name x p) (e::es) [] pos) (tCall sp [.int i] E t):=⟨My.pe_ddX D hp hr hg ha.h hdb he hpl⟩
theorem pe_cs {z:Str} (hg:Gl X x) (c:Cs X.mg x z) (hd:autoParam ((x==("__debug__":Str))=false) au1_._auto_1):QE X (.Name x pos) (tC (.str z)):=⟨My.pe_cs hg c hd⟩
theorem pi_str (hl:QE X l tl):QI X tg l (iStr tl):=⟨My.pi_str hl.h⟩
end
section
variable {X:Cx} (K:PySem.W.Frag) {o e:Expr} {to te:TE} {apos cpos:Pos} {name:Str} {id:String} {r:V→List V→Hp→VK→Prop}
theorem strM (slot:Slot "str" name id) (hty:typeOf (.builtin id)=pure (.type "method_descriptor")) (hm:MtR X id r) (ho:QE X o to) (he:QE X e te) (h:autoParam (X.K=K) au0_._auto_1)
    (hbase:autoParam (attributeBase o name X.env (eval o X.env)=eval o X.env) au0_._auto_1)
    (hfew:autoParam (((backTo cpos (starEach (e::[]) X.env)).all (fun x=>!x.1)&&(backToKw cpos (keywordEach [] X.env)).all (fun x=>x.1.isSome)
      && decide ((e::([]:List Expr)).length+([]:List Keyword).length+(if ([]:List Keyword).isEmpty then 0 else 1)<30))=true) au0_._auto_1)
    (hline:autoParam ((apos.endLine==cpos.line)=true) au0_._auto_1) (hs:autoParam (starEach (e::[]) X.env=(false,eval e X.env)::starEach [] X.env) au0_._auto_1) (hplain:autoParam ((backTo cpos (starEach [] X.env)).any (·.1)=false) au0_._auto_1) :
    QE X (.Call (.Attribute o name apos) [e] [] cpos) (tBM K "str" r to (tCons te tNil)):=
  ⟨h▸pe_bm PySem.F.plainAttrs_str slot hty hm ho.h (L2.pa_cons he.h L2.pa_nil hs) hbase hfew hline hs hplain⟩
end
end Jd

namespace My
open PySem PySem.Spec PySem.Calls PyProof.Rows L2 Mth
noncomputable def rSplit:V→List V→Hp→VK→Prop:=fun x xs H Q=>∃z y,x=.str z∧xs=[.str y]∧(y.length==0)=false∧z.length+2≤sizeLine∧∀p,H p=none→Q (.ref p) (upd H p (.lst ((Txt.split z y).map V.str)))
theorem vals_strs:∀(l:List (Str×Tok)),Vals ((l.map (·.1)).map V.str) (strValues l)
  | []=>.nil
  | (x,t)::l=>.cons ⟨t,rfl⟩ (vals_strs l)
theorem mt_split {X:Cx}:MtR X "str.split" rSplit:=by
  intro pins s σ H x xs v us Q I rx rs h
  obtain ⟨z,y,rfl,rfl,hy,hz,q⟩:=h
  obtain ⟨t,rfl⟩:=rx
  obtain ⟨u,rfl,ru⟩:=rs.one
  obtain ⟨t',rfl⟩:=ru
  have fin:∀(l:List (Str×Tok)) (tk:Nat),l.map (·.1)=Txt.split z y→(Txt.split z y).length≤sizeLine→EP X pins σ Q (.ref s.heap.objs.size) { s with toks:=tk,heap:=s.heap.push { cls:=.type "list",data:=.seq (strValues l).toArray } }:=fun l tk e hl=>
    ⟨.ref s.heap.objs.size,_,I.laid (t':=tk) (fun b ob q=>Heap.get?_push_of_some _ q) (Nat.le_refl _) (show ObjOk X.prog X.w _ _ _ (.lst ((Txt.split z y).map V.str)) from ⟨by rw [List.length_map];exact hl,strValues l,0,by rw [← e];exact vals_strs l,Heap.get?_push_size _ rfl⟩),rfl,q _ (I.hok.fresh (Nat.le_refl _))⟩
  cases h1:(decide (z.length<y.length)||decide (Builtin.Str.strKind z<Builtin.Str.strKind y)) with
  | true=>
    have e:Txt.split z y=[z]:=if_pos h1
    refine call_meets F.slot_str_split (typeIs_str _ _ _) F.entry_str_split (F.args_str_split_2 _ _) (meets_str_split_cannot_occur z y t t' h1) ?_
    exact fin [(z,t)] s.toks e.symm (by rw [e];show 1≤sizeLine;decide)
  | false=>
    cases hf:(Builtin.Str.occurrences z y 0 z.length (z.length+1)).isEmpty with
    | true=>
      have e:Txt.split z y=[z]:=(if_neg (ne_true_of_eq_false h1)).trans (if_pos hf)
      refine call_meets F.slot_str_split (typeIs_str _ _ _) F.entry_str_split (F.args_str_split_2 _ _) (meets_str_split_not_found z y t t' h1 hy hf) ?_
      exact fin [(z,t)] s.toks e.symm (by rw [e];show 1≤sizeLine;decide)
    | false=>
      have e:Txt.split z y=Builtin.Str.partsBetween z (Builtin.Str.occurrences z y 0 z.length (z.length+1)) y.length:=(if_neg (ne_true_of_eq_false h1)).trans (if_neg (ne_true_of_eq_false hf))
      have hn:(Builtin.Str.partsBetween z (Builtin.Str.occurrences z y 0 z.length (z.length+1)) y.length).length≤sizeLine:=by
        rw [length_partsBetween]
        have:=StrLaws.occ_length_le z y 0 z.length (z.length+1)
        omega
      refine call_meets F.slot_str_split (typeIs_str _ _ _) F.entry_str_split (F.args_str_split_2 _ _) (meets_str_split_sep z y t t' h1 hy hf (by omega) hn) ?_
      show EP X pins σ Q (.ref s.heap.objs.size) { s with toks:=_,heap:=s.heap.push { cls:=.type "list",data:=.seq (strsFrom s.toks (Builtin.Str.partsBetween z (Builtin.Str.occurrences z y 0 z.length (z.length+1)) y.length)).toArray } }
      rw [strsFrom_eq]
      exact fin (numbered s.toks _) _ ((numbered_texts _ _).trans e.symm) (by rw [e];exact hn)
noncomputable def tTry1 (K:PySem.W.Frag) (j:Nat) (sp:Sp) (ta:TA) (C1:Addr) (t1:Addr→Value→Option Addr→TS):TS:=fun D σ H=>
  ta σ H fun vs H1=>sp (vs++[]) H1 (fun _ H2=>D.nx σ H2) fun C dx H2=>
    PySem.W.exmOne K C (.ref C1)=some true∧∀e:Addr,t1 e C dx { nx:=fun σ2 H3=>D.nx (σ2.set j none) H3,rt:=D.rt } (σ.set j (some (.ref e))) H2
theorem r_try1 {K:PySem.W.Frag} {j:Nat} {sp:Sp} {ta:TA} {C1:Addr} {t1:Addr→Value→Option Addr→TS} {D:Ends} {σ:L2.St} {H:Hp} (h:ta σ H fun vs H1=>sp (vs++[]) H1 (fun _ H2=>D.nx σ H2) fun C dx H2=>
    PySem.W.exmOne K C (.ref C1)=some true∧∀e:Addr,t1 e C dx { nx:=fun σ2 H3=>D.nx (σ2.set j none) H3,rt:=D.rt } (σ.set j (some (.ref e))) H2):tTry1 K j sp ta C1 t1 D σ H:=h
section
variable {X:Cx} {k:Nat} {xf:Str} {ps:List Str} {sp:Sp} {p pos epos:Pos} {ae:Expr} {es:List Expr} {ta:TA} {x1 nm:Str} {j:Nat} {C1:Addr} {b1:Stmt} {su1:List Stmt} {np1 hp1 tpos:Pos} {t1:Addr→Value→Option Addr→TS}
theorem ps_try1 (F:DnX X.prog X.w X.K X.mg X.base k xf ps sp) (hr:Room k X.A) (hgf:Gl X xf) (ha:∀(pn':List (Addr×Obj)) (xe':Value→Shared→Prop),PA { X with pn:=pn',xe:=xe' } (ae::es) ta)
    (hN:X.N.Nodup) (hj:X.N[j]?=some nm) (hl:X.env.scope.names.lookup nm=some .local) (hfr:X.env.frame=some X.env.locals) (hstk:X.stack=X.env::X.outer)
    (hg1:Gl X x1) (hm1:X.mg x1=some (.ref C1))
    (hs1:∀(e:Addr) (ob:Obj) (c:Value) (dx:Option Addr) (pn':List (Addr×Obj)),(e,ob)∈pn'→ob.cls=c→ob.dict=dx→PySem.W.notCls ob=true→PSs { X with A:=X.A.mark (some (.ref e)),calm:=false,pn:=pn',xe:=fun _ _=>False } (b1::su1) (t1 e c dx))
    (he:starEach (ae::es) X.env=(false,eval ae X.env)::starEach es X.env) (hpl:(backTo pos (starEach es X.env)).any (·.1)=false) (hsw:swapsWith (.Call (.Name xf p) (ae::es) [] pos) none epos.line X.env=pure false)
    (hdb:autoParam ((xf==("__debug__":Str))=false) au1_._auto_1) (hd1:autoParam ((x1==("__debug__":Str))=false) au1_._auto_1) :
    PS X (.Try [.Expr (.Call (.Name xf p) (ae::es) [] pos) epos] [.ExceptHandler (some (.Name x1 np1)) (some nm) (b1::su1) hp1] [] [] tpos) (tTry1 X.K j sp ta C1 t1):=by
  intro pins s σ H D I h
  obtain ⟨f,fd,F,hmf,hkf,hbf⟩:=F.ex
  refine wpAny_Try_except ?_
  generalize hT:(fun (ev:Value) (s1:Shared)=>wpAny (model X.prog X.w) X.A (noteFrame ev X.env) (fun _ s2=>wpAny (model X.prog X.w) X.A (setFlight ev none) (fun _ s3=>wpAny (model X.prog X.w) X.A (handleBy ev X.env [.ExceptHandler (some (.Name x1 np1)) (some nm) (b1::su1) hp1]) (SP X pins D) X.xe s3) X.xe s2) X.xe s1)=xeT
  have I':=inv_in I xeT
  have body:wpAny (model X.prog X.w) X.A (eval (.Call (.Name xf p) (ae::es) [] pos) X.env) (EP { X with pn:=X.pn++pins,xe:=xeT } [] σ (fun _ H2=>D.nx σ H2)) xeT s:=by
    refine wpAny_Call_Name_kw (ld_glob (X:={ X with pn:=X.pn++pins,xe:=xeT }) I' hgf hmf ?_ hdb)
    refine PySem.W.callWith_K (h₀:=X.base) I.ok.mod.kin hkf (thn (ha _ _ pos [] s σ H _ I' h) fun us s1 ⟨vs,H1,I1,r,q⟩=>⟨I1.kIn,?_⟩) he hpl
    refine run_fnS (X:={ X with pn:=X.pn++pins,xe:=xeT }) F hr hbf .nil (fun ev s2 cx=>?_) I1 r q
    show xeT ev s2
    subst hT
    refine to_land hfr hstk I.ok I1 cx fun e t C dx H2 B s3 hev L hE=>?_
    subst hev
    obtain ⟨hx,hE⟩:=hE
    exact hand_suite L I.ok hN hj hl hg1 hm1 hfr hstk hx hs1 (hE e) hd1
  refine wpAny_mono (wpAny_execs_cons (wpAny_Expr_any (Q:=fun f s1=>match f with | .next=>wpAny (model X.prog X.w) X.A (execs [] X.env) (SP { X with pn:=X.pn++pins,xe:=xeT } [] D) xeT s1 | f=>SP { X with pn:=X.pn++pins,xe:=xeT } [] D f s1) (thn body fun v s1 ⟨y,H1,I1,r1,q1⟩=>wpAny_execs_nil ⟨σ,H1,I1,q1⟩) I.quiet hsw)) (fun fl s1 q=>?_) fun ev s1 z=>?_
  · have q':=sp_by (fun σ H J=>inv_out I.ok J) q
    cases fl with
    | next=>exact wpAny_execs_nil q'
    | brk=>exact q'
    | cont=>exact q'
    | ret u=>exact q'
  · subst hT
    exact z
end
end My
namespace Jd
open PySem PySem.Spec PyProof.Rows L2 My
section
variable {X:Cx} {k:Nat} {xf:Str} {ps:List Str} {sp:Sp} {p pos epos:Pos} {ae:Expr} {es:List Expr} {ta:TA} {x1 nm:Str} {j:Nat} {C1:Addr} {b1:Stmt} {su1:List Stmt} {np1 hp1 tpos:Pos} {t1:Addr→Value→Option Addr→TS}
theorem ps_try1 (F:DnX X.prog X.w X.K X.mg X.base k xf ps sp) (hr:Room k X.A) (hgf:Gl X xf) (ha:∀(pn':List (Addr×Obj)) (xe':Value→Shared→Prop),QA { X with pn:=pn',xe:=xe' } (ae::es) ta)
    (hN:X.N.Nodup) (hj:X.N[j]?=some nm) (hl:X.env.scope.names.lookup nm=some .local) (hfr:X.env.frame=some X.env.locals) (hstk:X.stack=X.env::X.outer)
    (hg1:Gl X x1) (hm1:X.mg x1=some (.ref C1))
    (hs1:∀(e:Addr) (ob:Obj) (c:Value) (dx:Option Addr) (pn':List (Addr×Obj)),(e,ob)∈pn'→ob.cls=c→ob.dict=dx→PySem.W.notCls ob=true→QSs { X with A:=X.A.mark (some (.ref e)),calm:=false,pn:=pn',xe:=fun _ _=>False } (b1::su1) (t1 e c dx))
    (he:starEach (ae::es) X.env=(false,eval ae X.env)::starEach es X.env) (hpl:(backTo pos (starEach es X.env)).any (·.1)=false) (hsw:swapsWith (.Call (.Name xf p) (ae::es) [] pos) none epos.line X.env=pure false)
    (hdb:autoParam ((xf==("__debug__":Str))=false) au1_._auto_1) (hd1:autoParam ((x1==("__debug__":Str))=false) au1_._auto_1) :
    QS X (.Try [.Expr (.Call (.Name xf p) (ae::es) [] pos) epos] [.ExceptHandler (some (.Name x1 np1)) (some nm) (b1::su1) hp1] [] [] tpos) (tTry1 X.K j sp ta C1 t1):=
  ⟨My.ps_try1 F hr hgf (fun pn' xe'=>(ha pn' xe').h) hN hj hl hfr hstk hg1 hm1 (fun e ob c dx pn' h1 h2 h3 h4=>(hs1 e ob c dx pn' h1 h2 h3 h4).h) he hpl hsw hdb hd1⟩
end
end Jd

namespace My
open PySem PySem.Spec PyProof.Rows L2 Mth
noncomputable def rInsert:V→List V→Hp→VK→Prop:=fun x vs H Q=>∃(l:Addr) (xs:List V) (k:Nat) (y:V),x=.ref l∧vs=[.int (k:Int),y]∧H l=some (.lst xs)∧k≤xs.length∧k<1000000∧xs.length<sizeLine∧Q .non (upd H l (.lst (xs.take k++y::xs.drop k)))
theorem vals_cut {xs:List V} {its:List Value} (r:Vals xs its) {y:V} {u:Value} (ru:RelV y u) (k:Nat):Vals (xs.take k++y::xs.drop k) (its.take k++u::its.drop k):=by
  induction r generalizing k with
  | nil=>rw [List.take_nil,List.take_nil,List.drop_nil,List.drop_nil];exact .cons ru .nil
  | cons h t ih=>
    cases k with
    | zero=>exact .cons ru (.cons h t)
    | succ k=>exact .cons h (ih k)
theorem mt_insert {X:Cx}:MtM X "list.insert" rInsert:=by
  intro pins s σ H x vs v us Q I rx rv h
  obtain ⟨l,xs,k,y,rfl,rfl,hH,hk,hk2,hz,q⟩:=h
  cases rx
  obtain ⟨u0,u,rfl,ru0,ru⟩:=rv.two
  obtain ⟨t,rfl⟩:=ru0
  obtain ⟨z,its,n,r,hl,e⟩:=I.lstM hH
  have hf:¬(!Builtin.List.listFitsIndex (k:Int))=true:=by
    have:Builtin.List.listFitsIndex (k:Int)=true:=fitsIndex_both (by omega) (by omega)
    rw [this]
    exact Bool.false_ne_true
  have hs:its.toArray.size≤sizeLine:=by rw [List.size_toArray];omega
  have hm:(if (k:Int)<0 then ((k:Int)+(its.toArray.size:Int)).toNat else min (k:Int).toNat its.toArray.size)=k:=by
    rw [if_neg (by omega),List.size_toArray,Int.toNat_natCast]
    omega
  generalize hi:(k:Int)=i at hf hm ⊢
  have M:=PySem.AutoSeq1.list_insert_list_int_val_1 l its.toArray n i t u hf hs
  refine call_meets F.slot_list_insert ⟨_,e,rfl⟩ F.entry_list_insert (F.args_list_insert_3 _ _ _) M ⟨e,?_⟩
  refine ⟨.non,_,I.lset (its':=its.take k++u::its.drop k) hH e ?_ (vals_cut r ru k) ?_,rfl,q⟩
  · show (its.toArray.extract 0 _).push u++its.toArray.extract _=_
    rw [hm]
    exact PySem.W.kl_ins_eq its k u
  · simp only [List.length_append,List.length_cons,List.length_take,List.length_drop]
    omega
theorem popC {X:Cx} (K:PySem.W.Frag) {o e:Expr} {es:List Expr} {to:TE} {t:TA} {apos cpos:Pos} (ho:PE X o to) (ha:PA X (e::es) t) (h:autoParam (X.K=K) au0_._auto_1)
    (hbase:autoParam (attributeBase o "pop" X.env (eval o X.env)=eval o X.env) au0_._auto_1)
    (hfew:autoParam (((backTo cpos (starEach (e::es) X.env)).all (fun x=>!x.1)&&(backToKw cpos (keywordEach [] X.env)).all (fun x=>x.1.isSome)
      && decide ((e::es).length+([]:List Keyword).length+(if ([]:List Keyword).isEmpty then 0 else 1)<30))=true) au0_._auto_1)
    (hline:autoParam ((apos.endLine==cpos.line)=true) au0_._auto_1) (hs:autoParam (starEach (e::es) X.env=(false,eval e X.env)::starEach es X.env) au0_._auto_1) (hplain:autoParam ((backTo cpos (starEach es X.env)).any (·.1)=false) au0_._auto_1) :
    PE X (.Call (.Attribute o "pop" apos) (e::es) [] cpos) (tBM K "list" rPopAt to t):=
  h▸pe_bm PySem.F.plainAttrs_list PySem.F.slot_list_pop PySem.F.type_list_pop mt_popAt ho ha hbase hfew hline hs hplain
theorem insC {X:Cx} (K:PySem.W.Frag) {o e:Expr} {es:List Expr} {to:TE} {t:TA} {apos cpos:Pos} (ho:PE X o to) (ha:PA X (e::es) t) (h:autoParam (X.K=K) au0_._auto_1)
    (hbase:autoParam (attributeBase o "insert" X.env (eval o X.env)=eval o X.env) au0_._auto_1)
    (hfew:autoParam (((backTo cpos (starEach (e::es) X.env)).all (fun x=>!x.1)&&(backToKw cpos (keywordEach [] X.env)).all (fun x=>x.1.isSome)
      && decide ((e::es).length+([]:List Keyword).length+(if ([]:List Keyword).isEmpty then 0 else 1)<30))=true) au0_._auto_1)
    (hline:autoParam ((apos.endLine==cpos.line)=true) au0_._auto_1) (hs:autoParam (starEach (e::es) X.env=(false,eval e X.env)::starEach es X.env) au0_._auto_1) (hplain:autoParam ((backTo cpos (starEach es X.env)).any (·.1)=false) au0_._auto_1) :
    PE X (.Call (.Attribute o "insert" apos) (e::es) [] cpos) (tBM K "list" rInsert to t):=
  h▸pe_bm PySem.F.plainAttrs_list PySem.F.slot_list_insert PySem.F.type_list_insert mt_insert ho ha hbase hfew hline hs hplain
theorem r_popAt {p:Addr} {xs:List V} {k:Nat} {y:V} {H:Hp} {Q:VK} (h:H p=some (.lst xs)) (hk:xs[k]?=some y) (hs:k<1000000) (q:Q y (upd H p (.lst (xs.eraseIdx k)))):rPopAt (.ref p) [.int (k:Int)] H Q:=by
  have hl:k<xs.length:=(List.getElem?_eq_some_iff.mp hk).1
  refine ⟨p,xs,(k:Int),k,y,rfl,rfl,h,by omega,by omega,?_,hk,q⟩
  have e:(if (k:Int)<0 then (k:Int)+(xs.length:Int) else (k:Int))=(k:Int):=if_neg (by omega)
  unfold seqIndex?
  dsimp only
  rw [e,decide_eq_true (show (0:Int)≤(k:Int) by omega),decide_eq_true (show (k:Int)<(xs.length:Int) by omega)]
  rfl
theorem r_ins {p:Addr} {xs:List V} {k:Nat} {y:V} {H:Hp} {Q:VK} (h:H p=some (.lst xs)) (hk:k≤xs.length) (hs:k<1000000) (hl:xs.length<sizeLine) (q:Q .non (upd H p (.lst (xs.take k++y::xs.drop k)))):rInsert (.ref p) [.int (k:Int),y] H Q:=
  ⟨p,xs,k,y,rfl,rfl,h,hk,hs,hl,q⟩
end My
namespace Jd
open PySem PySem.Spec PyProof.Rows L2 Mth My
theorem popC {X:Cx} (K:PySem.W.Frag) {o e:Expr} {es:List Expr} {to:TE} {t:TA} {apos cpos:Pos} (ho:QE X o to) (ha:QA X (e::es) t) (h:autoParam (X.K=K) au0_._auto_1)
    (hbase:autoParam (attributeBase o "pop" X.env (eval o X.env)=eval o X.env) au0_._auto_1)
    (hfew:autoParam (((backTo cpos (starEach (e::es) X.env)).all (fun x=>!x.1)&&(backToKw cpos (keywordEach [] X.env)).all (fun x=>x.1.isSome)
      && decide ((e::es).length+([]:List Keyword).length+(if ([]:List Keyword).isEmpty then 0 else 1)<30))=true) au0_._auto_1)
    (hline:autoParam ((apos.endLine==cpos.line)=true) au0_._auto_1) (hs:autoParam (starEach (e::es) X.env=(false,eval e X.env)::starEach es X.env) au0_._auto_1) (hplain:autoParam ((backTo cpos (starEach es X.env)).any (·.1)=false) au0_._auto_1) :
    QE X (.Call (.Attribute o "pop" apos) (e::es) [] cpos) (tBM K "list" rPopAt to t):=
  ⟨My.popC K ho.h ha.h h hbase hfew hline hs hplain⟩
theorem insC {X:Cx} (K:PySem.W.Frag) {o e:Expr} {es:List Expr} {to:TE} {t:TA} {apos cpos:Pos} (ho:QE X o to) (ha:QA X (e::es) t) (h:autoParam (X.K=K) au0_._auto_1)
    (hbase:autoParam (attributeBase o "insert" X.env (eval o X.env)=eval o X.env) au0_._auto_1)
    (hfew:autoParam (((backTo cpos (starEach (e::es) X.env)).all (fun x=>!x.1)&&(backToKw cpos (keywordEach [] X.env)).all (fun x=>x.1.isSome)
      && decide ((e::es).length+([]:List Keyword).length+(if ([]:List Keyword).isEmpty then 0 else 1)<30))=true) au0_._auto_1)
    (hline:autoParam ((apos.endLine==cpos.line)=true) au0_._auto_1) (hs:autoParam (starEach (e::es) X.env=(false,eval e X.env)::starEach es X.env) au0_._auto_1) (hplain:autoParam ((backTo cpos (starEach es X.env)).any (·.1)=false) au0_._auto_1) :
    QE X (.Call (.Attribute o "insert" apos) (e::es) [] cpos) (tBM K "list" rInsert to t):=
  ⟨My.insC K ho.h ha.h h hbase hfew hline hs hplain⟩
end Jd

namespace My
open PySem PySem.Spec PyProof.Rows L2 Mth
noncomputable def AnyW (B:Heap) (l:List Env) (e:Addr) (C a0:Value) (h:Heap):Prop:=B.StaysIn h∧B.get? e=none∧h.FunFrames B l∧∃v,h.TracedAtW B e C a0 v
section
variable {M:Model} {A:Around} {E:Value→Shared→Prop} {s:Shared}
theorem note_any {B:Heap} {env:Env} {outer:List Env} {L e:Addr} {C a0:Value} {Q:Unit→Shared→Prop} (hfr:A.frames=some (env::outer)) (hf:env.frame=some L) (x:AnyW B (env::outer) e C a0 s.heap)
    (hQ:∀h',Heap.HeldW B (env::outer) e C a0 L h'→s.heap.UpToSlots h'→Q () { s with heap:=h' }):wpAny M A (noteFrame (.ref e) env) Q E s:=by
  obtain ⟨hkb,hen,hl,v,ht⟩:=x
  by_cases hv:v=rawInt L
  · subst hv
    exact wpAny_noteFrame_againW hf ht (hQ s.heap ⟨hkb,hen,hl,ht⟩ fun b o hb _=>⟨o.slots,hb⟩)
  · obtain ⟨oe,vs,T,oT,ts,he,⟨hcls,h0⟩,hd,h1,hnT,hTe,hT,hdT,h3⟩:=ht
    subst hcls
    unfold noteFrame
    simp only [hf]
    refine wpAny_bind (wpAny_field he hd h1 ?_)
    rw [if_pos (show (Value.ref T != Value.none)=true from by simp)]
    refine wpAny_bind (wpAny_field hT hdT h3 ?_)
    rw [if_neg (show ¬((v==rawInt L)=true) from by simpa using hv)]
    refine wpAny_bind (wpAny_setField hT hdT (Array.getElem?_eq_some_iff.mp h3).1 ?_)
    have ot:∀b,b≠T→(s.heap.update T (Obj.mapFields (·.setIfInBounds 3 Value.none))).get? b=s.heap.get? b:=fun b hb=>Heap.get?_update_other _ _ (Ne.symm hb)
    have nr:∀b o,s.heap.get? b=some o→(∀vs,o.data≠.fields vs)→b≠T:=fun b o hb hnf q=>by
      rw [q,hT] at hb
      cases hb
      exact hnf ts hdT
    refine wpAny_entryW hfr (hl.of_keeps fun b o hb hnf=>⟨o,(ot b (nr b o hb hnf)).trans hb,rfl⟩) hf ((ot e (Ne.symm hTe)).trans he)
      (fun b o hbo=>(ot b fun q=>by rw [q,hnT] at hbo;cases hbo).trans (hkb b o hbo)) hen hd (Array.getElem?_eq_some_iff.mp h1).1 h0 fun h' ⟨x1,x2,x3,x4⟩=>?_
    exact hQ h' ⟨x1,hen,x2,x3⟩ fun b o hb hnf=>x4 b o ((ot b (nr b o hb hnf)).trans hb) hnf
theorem pass_any {α:Type} {B:Heap} {l:List Env} {env:Env} {e:Addr} {C a0:Value} {Q:α→Shared→Prop} {what:String} (x:AnyW B l e C a0 s.heap)
    (hQ:∀h',AnyW B l e C a0 h'→s.heap.UpToSlots h'→(∀b o,B.get? b=some o→h'.get? b=some o)→E (.ref e) { s with heap:=h' }):wpAny M A (PySem.passOn what (.ref e) env:Sem α) Q E s:=by
  obtain ⟨hkb,hen,hl,v,oe,vs,T,oT,ts,he,hc,hd,h1,hnT,hTe,hT,hdT,h3⟩:=x
  have ot:∀w b,b≠T→(s.heap.update T (Obj.mapFields (·.setIfInBounds 3 w))).get? b=s.heap.get? b:=fun w b hb=>Heap.get?_update_other _ _ (Ne.symm hb)
  have nr:∀b o,s.heap.get? b=some o→(∀vs,o.data≠.fields vs)→b≠T:=fun b o hb hnf q=>by
    rw [q,hT] at hb
    cases hb
    exact hnf ts hdT
  have st:∀w b o,B.get? b=some o→(s.heap.update T (Obj.mapFields (·.setIfInBounds 3 w))).get? b=some o:=fun w b o hbo=>(ot w b fun q=>by rw [q,hnT] at hbo;cases hbo).trans (hkb b o hbo)
  have hlt:=(Array.getElem?_eq_some_iff.mp h3).1
  unfold PySem.passOn
  refine wpAny_bind (wpAny_field he hd h1 ?_)
  rw [if_neg (show ¬(Value.ref T==Value.none)=true from by simp)]
  unfold setFlight
  refine wpAny_bind (wpAny_bind (wpAny_field he hd h1 ?_))
  rw [if_pos (show (Value.ref T != Value.none)=true from by simp)]
  refine wpAny_setField hT hdT hlt ?_
  generalize hw:(env.frame.elim Value.none fun f=>rawInt f)=w
  refine wpAny_throw ?_
  refine hQ _ ⟨st w,hen,hl.of_keeps fun b o hb hnf=>⟨o,(ot w b (nr b o hb hnf)).trans hb,rfl⟩,w,oe,vs,T,_,_,(ot w e (Ne.symm hTe)).trans he,hc,hd,h1,hnT,hTe,Heap.get?_update_self _ hT (Obj.isFreed_of_fields (Obj.data_mapFields hdT _)),Obj.data_mapFields hdT _,?_⟩ (fun b o hb hnf=>⟨o.slots,(ot w b (nr b o hb hnf)).trans hb⟩) (st w)
  simp [hlt]
end
theorem un_flyC {fs ch:List Addr} {H H':Hp} {h h1 h2:Heap} (u:Un fs ch H H' h h1) (fr:∀b o,h1.get? b=some o→b∈fs→∃sl,h2.get? b=some { o with slots:=sl })
    (kp:∀b o,h1.get? b=some o→h.get? b≠none→b∉fs→b∉ch→h2.get? b=some o):Un fs ch H H' h h2:=by
  refine ⟨fun b o q n hb hx=>?_,fun b o q n hb hx=>?_,u.free,fun b o q hx=>?_,u.tups,u.frzs,u.tbls⟩
  · exact kp b o (u.keep b o q n hb hx) (by rw [q];simp) hb hx
  · obtain ⟨sl,e⟩:=u.slot b o q n hb hx
    obtain ⟨sl',e'⟩:=fr b _ e hb
    exact ⟨sl',e'⟩
  · obtain ⟨o',e⟩:=u.there b o q hx
    by_cases hb:b∈fs
    · obtain ⟨sl,e'⟩:=fr b o' e hb
      exact ⟨_,e'⟩
    · exact ⟨o',kp b o' e (by rw [q];simp) hb hx⟩
theorem un_wide {fs ch:List Addr} {H H':Hp} {h h1:Heap} (u:Un fs [] H H' h h1):Un fs ch H H' h h1:=
  ⟨fun b o q n hb _=>u.keep b o q n hb (by simp),fun b o q n hb _=>u.slot b o q n hb (by simp),fun b o q n _=>u.free b o q n (by simp),fun b o q _=>u.there b o q (by simp),u.tups,u.frzs,u.tbls⟩
noncomputable def PassesH (X:Cx) (E:XK):Prop:=∀(pins:List (Addr×Obj)) (σ:L2.St) (H:Hp) (s:Shared) (ch:List Addr) (e t:Addr) (C:Value) (H':Hp) (B:Heap) (dx:Option Addr) (s':Shared),L2.Inv X pins σ H s→s'.os=s.os→AllBare s'.gens →
  Un (frs X.stack) ch H H' s.heap s'.heap→(∀b∈ch,(b∈X.ex∨X.s₀.heap.objs.size≤b)∧b≠X.env.locals∧(∀x c,X.env.cells.lookup x=some c→c≠b)∧∀p∈X.pn++pins,p.1≠b)→HOk X.prog X.w H' s'.heap →
  AnyW B X.stack e C (.ref t) s'.heap→(∀b o,s'.heap.get? b=some o→(H' b≠none∨(s.heap.get? b≠none∧b∉ch))→b∉frs X.stack→B.get? b=some o)→E C dx H'→X.xe (.ref e) s'
section
variable {X:Cx} {body suite:List Stmt} {b0:Stmt} {tb:XK→TS} {ts:TS} {x:Str} {Cc:Addr} {np hpos pos:Pos}
theorem ps_tryH (hg:Gl X x) (hm:X.mg x=some (.ref Cc)) (hfr:X.env.frame=some X.env.locals) (hstk:X.stack=X.env::X.outer)
    (hb:∀(pn':List (Addr×Obj)) (xe':Value→Shared→Prop) (E:XK),Passes (CXe X.prog X.w) { X with pn:=pn',xe:=xe' } E→PassesH { X with pn:=pn',xe:=xe' } E→PSs { X with pn:=pn',xe:=xe' } body (tb E))
    (hs:∀(e:Addr) (pn':List (Addr×Obj)),PSs { X with A:=X.A.mark (some (.ref e)),calm:=false,pn:=pn',xe:=fun _ _=>False } (b0::suite) ts) (hd:autoParam ((x==("__debug__":Str))=false) au1_._auto_1) :
    PS X (.Try body [.ExceptHandler (some (.Name x np)) none (b0::suite) hpos] [] [] pos) (tTry X.K X.N.length tb Cc ts):=by
  intro pins s σ H D I h
  refine wpAny_Try_except ?_
  have fr:X.A.frames=some (X.env::X.outer):=by rw [← hstk];exact I.ok.frames
  generalize hT:(fun (ev:Value) (s1:Shared)=>wpAny (model X.prog X.w) X.A (noteFrame ev X.env) (fun _ s2=>wpAny (model X.prog X.w) X.A (setFlight ev none) (fun _ s3=>wpAny (model X.prog X.w) X.A (handleBy ev X.env [.ExceptHandler (some (.Name x np)) none (b0::suite) hpos]) (SP X pins D) X.xe s3) X.xe s2) X.xe s1)=xeT
  have tail:∀(pins':List (Addr×Obj)) (σ':L2.St) (H2:Hp) (s2:Shared) (e t:Addr) (C:Value) (B:Heap),PySem.W.exmOne X.K C (.ref Cc)=some true→(∀σ',σ'.length=X.N.length→ts D σ' H2) →
      (∀h5,Heap.FlyingW B X.stack e C (.ref t) h5→s2.heap.UpToSlots h5→L2.Inv { X with pn:=X.pn++pins,xe:=xeT } pins' σ' H2 { s2 with heap:=h5 })→∀h4,Heap.HeldW B (X.env::X.outer) e C (.ref t) X.env.locals h4→s2.heap.UpToSlots h4 →
      wpAny (model X.prog X.w) X.A (setFlight (.ref e) none) (fun _ s3=>wpAny (model X.prog X.w) X.A (handleBy (.ref e) X.env [.ExceptHandler (some (.Name x np)) none (b0::suite) hpos]) (SP X pins D) X.xe s3) X.xe { s2 with heap:=h4 }:=by
    intro pins' σ' H2 s2 e t C B hx hE inv h4 held up4
    refine wpAny_landsW held fun h5 fly5 up5=>?_
    have fly5':Heap.FlyingW B X.stack e C (.ref t) h5:=by rw [hstk];exact fly5
    have J5:=inv h5 fly5' (up4.trans up5)
    obtain ⟨ob,hob,hcls⟩:=fly5.there
    refine wpAny_handleBy_cons ?_ (by intro q;cases q)
    refine codeAny_handlers_test ?_
    have J5m:=inv_mark (Ey:=fun _ _=>False) (e:=e) J5
    refine ld_glob J5m hg hm ?_ hd
    have LT:=looks_ty (M:=model X.prog X.w) hob
    rw [hcls] at LT
    refine PySem.W.exm_one J5m.kIn LT hx _ _ _ _ (fun _ _ z=>z) ?_
    refine codeAny_handlers_suite ?_
    refine lands_againW (s:={ s2 with heap:=h5 }) fly5 fun h6 fly6 up6=>?_
    have J6:=inv h6 (by rw [hstk];exact fly6) ((up4.trans up5).trans up6)
    refine wpAny_mono (hs e (X.pn++pins) pins' _ σ' H2 D (inv_mark J6) (hE σ' J6.len)) (fun fl s7 q=>?_) fun _ _ z=>z.elim
    exact sp_by (fun σ H J=>inv_unmark I.ok J) q
  have pas:Passes (CXe X.prog X.w) { X with pn:=X.pn++pins,xe:=xeT } (fun C _ H2=>PySem.W.exmOne X.K C (.ref Cc)=some true∧∀σ',σ'.length=X.N.length→ts D σ' H2):=by
    rintro pins' σ' H1 s1 ev s2 I1 ⟨e,t,C,H2,B,rfl,os,bare,un,hok,fly,bk,dx,hdx,hx,hE⟩
    have J:L2.Inv { X with pn:=X.pn++pins,xe:=xeT } pins' σ' H2 s2:=I1.call' (ch:=[]) os un hok bare fun b z=>absurd z (by simp)
    have inv:∀h5,Heap.FlyingW B X.stack e C (.ref t) h5→s2.heap.UpToSlots h5→L2.Inv { X with pn:=X.pn++pins,xe:=xeT } pins' σ' H2 { s2 with heap:=h5 }:=fun h5 fly5 up5=>
      I1.call' (s':={ s2 with heap:=h5 }) (ch:=[]) os (un_fly (fun b hb=>hb) un fly.2.2.1 fly5.1 up5 fun b o q hb hn=>bk b o q (.inr hb) hn)
        (hok_tr hok fun c v hc q=>fly5.1 c v (bk c v q (.inl hc) fun z=>hc (J.stkFree c z))) bare fun b z=>absurd z (by simp)
    have fly':Heap.FlyingW B (X.env::X.outer) e C (.ref t) s2.heap:=by rw [← hstk];exact fly
    have T:=tail pins' σ' H2 s2 e t C B hx hE inv
    subst hT
    exact wpAny_looks_onW fr hfr fly' fun h4 held up4=>T h4 held up4
  have pasH:PassesH { X with pn:=X.pn++pins,xe:=xeT } (fun C _ H2=>PySem.W.exmOne X.K C (.ref Cc)=some true∧∀σ',σ'.length=X.N.length→ts D σ' H2):=by
    rintro pins' σ' H1 s1 ch e t C H2 B dx s2 I1 os bare un hch hok any bk ⟨hx,hE⟩
    have J:L2.Inv { X with pn:=X.pn++pins,xe:=xeT } pins' σ' H2 s2:=I1.call' (ch:=ch) os un hok bare hch
    have inv:∀h5,Heap.FlyingW B X.stack e C (.ref t) h5→s2.heap.UpToSlots h5→L2.Inv { X with pn:=X.pn++pins,xe:=xeT } pins' σ' H2 { s2 with heap:=h5 }:=fun h5 fly5 up5=>
      I1.call' (s':={ s2 with heap:=h5 }) (ch:=ch) os (un_flyC un (fun b o q hb=>by
          obtain ⟨_,o',ho',hd'⟩:=any.2.2.1.mem hb
          rw [q] at ho'
          cases ho'
          exact up5 b o q hd') fun b o q hn hb hc=>fly5.1 b o (bk b o q (.inr ⟨hn,hc⟩) hb))
        (hok_tr hok fun c v hc q=>fly5.1 c v (bk c v q (.inl hc) fun z=>hc (J.stkFree c z))) bare hch
    have any':AnyW B (X.env::X.outer) e C (.ref t) s2.heap:=by rw [← hstk];exact any
    have T:=tail pins' σ' H2 s2 e t C B hx hE inv
    subst hT
    exact note_any fr hfr any' fun h4 held up4=>T h4 held up4
  refine wpAny_mono (hb _ _ _ pas pasH [] s σ H D (inv_in I _) h) (fun fl s1 q=>?_) fun ev s1 z=>?_
  · have q':=sp_by (fun σ H J=>inv_out I.ok J) q
    cases fl with
    | next=>exact wpAny_pure q'
    | brk=>exact q'
    | cont=>exact q'
    | ret u=>exact q'
  · subst hT
    exact z
end
theorem heap_but (B:Heap) (N:Addr):∃B':Heap,B'.get? N=none∧∀b,b≠N→B'.get? b=B.get? b:=by
  refine ⟨B.update N (fun o=>{ o with data:=.freed }),?_,fun b hb=>Heap.get?_update_other _ _ (Ne.symm hb)⟩
  cases q:(B.update N (fun o=>{ o with data:=.freed })).get? N with
  | none=>rfl
  | some o=>
    obtain ⟨h1,h2⟩:=Heap.get?_some_iff.mp q
    exfalso
    cases B with
    | mk objs=>
      simp only [Heap.update,Array.getElem?_modify,if_true] at h1
      cases r:objs[N]? with
      | none=>rw [r] at h1;cases h1
      | some o'=>
        rw [r] at h1
        have h1:some ({ o' with data:=.freed }:Obj)=some o:=h1
        cases h1
        cases h2
theorem frames_but {h h' B B':Heap} {N:Addr} (hk:∀b,b≠N→h'.get? b=h.get? b) (hB:∀b,B.get? b=none→B'.get? b=none):∀{l:List Env},N∉frs l→h.FunFrames B l→h'.FunFrames B' l
  | [],_,_=>trivial
  | env::l,hn,⟨a,⟨L,o,f,b,c,d⟩,r⟩=>by
    have hL:L≠N:=fun z=>hn (by
      subst z
      exact List.mem_filterMap.mpr ⟨env,List.mem_cons_self,f⟩)
    refine ⟨a,⟨L,o,f,hB L b,(hk L hL).trans c,d⟩,frames_but hk hB (fun z=>hn ?_) r⟩
    obtain ⟨e,he,q⟩:=List.mem_filterMap.mp z
    exact List.mem_filterMap.mpr ⟨e,List.mem_cons_of_mem _ he,q⟩
section
variable {X:Cx} {scope:Scope} {cl:List (Str×Addr)} {NN:List Str} {E:XK}
theorem comp_pass {pins:List (Addr×Obj)} {σ:L2.St} {Hd:Hp} {s3:Shared} {fp:List Addr} {D:Addr} {use:Option (Value→Sem Unit)} {Q':Value→Shared→Prop} {xeI:Value→Shared→Prop}
    (hfr:X.env.frame=some X.env.locals) (hstk:X.stack=X.env::X.outer) (hR:PassesH X E) (I3:L2.Inv X pins σ Hd s3)
    (hch:∀b∈fp,(b∈X.ex∨X.s₀.heap.objs.size≤b)∧b≠X.env.locals∧(∀x c,X.env.cells.lookup x=some c→c≠b)∧∀p∈X.pn++pins,p.1≠b)
    (hxe:xeI=notedBy (model X.prog X.w) X.A (compEnvC scope cl s3.heap.objs.size X.env) fun e s'=>compPost (model X.prog X.w) X.A X.xe use Q' (.ref D) s3.heap.objs.size (.error e) s') :
    Passes (CXe X.prog X.w) { cxComp X NN scope cl s3.heap.objs.size s3 Hd fp (X.pn++pins) with xe:=xeI } E:=by
  rintro pins' σ' H1 s1 ev s2 I1 ⟨e,t,C,H2,B,rfl,os,bare,un,hok,fly,bk,dx,hdx,hE⟩
  have Jin:=I1.call' (ch:=[]) os un hok bare fun b z=>absurd z (by simp)
  obtain ⟨m,⟨oN,es,ep,hoN,hdN,rN⟩,_⟩:=Jin.loc
  have hN0:s3.heap.get? s3.heap.objs.size=none:=by
    cases q:s3.heap.get? s3.heap.objs.size with
    | none=>rfl
    | some o=>exact absurd (Heap.lt_size q) (Nat.lt_irrefl _)
  have hNfr:s3.heap.objs.size∉frs X.stack:=fun z=>by
    rcases List.mem_cons.mp (I3.stkSub _ z) with q | q
    · exact absurd (q▸I3.lt) (Nat.lt_irrefl _)
    · exact I3.nofs (Nat.le_refl _) q
  have hN1:s1.heap.get? s3.heap.objs.size≠none:=by
    obtain ⟨m1,⟨o1,_,_,h1,_⟩,_⟩:=I1.loc
    have h1:s1.heap.get? s3.heap.objs.size=some o1:=h1
    rw [h1];simp
  have hoN:s2.heap.get? s3.heap.objs.size=some oN:=hoN
  have hNfree:H2 s3.heap.objs.size=none:=Jin.free
  have bN:=bk _ _ hoN (.inr hN1) hNfr
  have U:Un (frs X.stack) fp Hd H2 s3.heap s2.heap:=Un.trans (show Un (frs X.stack) fp Hd H1 s3.heap s1.heap from I1.base) (un_wide un)
  have th1:∀b,s3.heap.get? b≠none→b∉fp→s1.heap.get? b≠none:=fun b hb hx=>by
    cases q:s3.heap.get? b with
    | none=>exact absurd q hb
    | some o=>
      obtain ⟨o',e'⟩:=I1.base.there b o q hx
      rw [e'];simp
  have fr:X.A.frames=some (X.env::X.outer):=by rw [← hstk];exact I3.ok.frames
  have fly':Heap.FlyingW B (X.env::X.outer) e C (.ref t) s2.heap:=by rw [← hstk];exact fly
  subst hxe
  show wpAny (model X.prog X.w) X.A (noteFrame (.ref e) X.env) _ _ s2
  refine wpAny_looks_onW fr hfr fly' fun h4 held up4=>?_
  have goal:∃m,h4.Ns s3.heap.objs.size m∧∀h',Heap.SameBut s3.heap.objs.size h4 h'→∀cenv:Env,cenv.locals=s3.heap.objs.size→wpAny (model X.prog X.w) X.A (PySem.passOn "comprehension.variables-let-go" (.ref e) cenv:Sem Value) (fun _ _=>False) X.xe { s2 with heap:=h' }:=by
    refine ⟨m,⟨oN,es,ep,held.1 _ _ bN,hdN,rN⟩,fun h' sb cenv _=>?_⟩
    obtain ⟨B',hB0,hB1⟩:=heap_but B s3.heap.objs.size
    have hBn:∀b,B.get? b=none→B'.get? b=none:=fun b hb=>by
      by_cases z:b=s3.heap.objs.size
      · rw [z];exact hB0
      · rw [hB1 b z];exact hb
    obtain ⟨k1,k2,k3,oe,vs,T,oT,tv,he,hc,hd,h1,hnT,hTe,hT,hdT,h3⟩:=held
    have h4N:=k1 _ _ bN
    have eN:e≠s3.heap.objs.size:=fun z=>by rw [z,h4N] at he;cases he;rw [hdN] at hd;cases hd
    have TN:T≠s3.heap.objs.size:=fun z=>by rw [z,h4N] at hT;cases hT;rw [hdN] at hdT;cases hdT
    have any:AnyW B' X.stack e C (.ref t) h':=by
      refine ⟨fun b o hb=>?_,hBn e k2,?_,_,oe,vs,T,oT,tv,(sb.2 e eN).trans he,hc,hd,h1,hBn T hnT,hTe,(sb.2 T TN).trans hT,hdT,h3⟩
      · have z:b≠s3.heap.objs.size:=fun z=>by rw [z,hB0] at hb;cases hb
        rw [hB1 b z] at hb
        exact (sb.2 b z).trans (k1 b o hb)
      · rw [hstk]
        exact frames_but sb.2 hBn (by rw [← hstk];exact hNfr) k3
    refine pass_any (s:={ s2 with heap:=h' }) any fun h'' any'' up'' st''=>?_
    have st:∀b o,b≠s3.heap.objs.size→B.get? b=some o→h''.get? b=some o:=fun b o z hb=>st'' b o (by rw [hB1 b z];exact hb)
    refine hR pins σ Hd s3 fp e t C H2 B' dx { s2 with heap:=h'' } I3 (os.trans I1.os) bare (un_flyC U (fun b o q hb=>?_) fun b o q hn hb hx=>?_) hch (hok_tr hok fun c v hc' q=>?_) any'' (fun b o q hb hf=>?_) hE
    · obtain ⟨_,o',ho',hd'⟩:=fly.2.2.1.mem hb
      rw [q] at ho'
      cases ho'
      obtain ⟨sl,e4⟩:=up4 b o q hd'
      have bn:b≠s3.heap.objs.size:=fun z=>hNfr (z▸hb)
      obtain ⟨sl',e5⟩:=up'' b _ ((sb.2 b bn).trans e4) hd'
      exact ⟨sl',e5⟩
    · exact st b o (fun z=>hn (by rw [z];exact hN0)) (bk b o q (.inr (th1 b hn hx)) hb)
    · exact st c v (fun z=>hc' (by rw [z];exact hNfree)) (bk c v q (.inl hc') fun z=>hc' (Jin.stkFree c z))
    · have bn:b≠s3.heap.objs.size:=fun z=>by
        rcases hb with hb | ⟨hb,_⟩
        · exact hb (by rw [z];exact hNfree)
        · exact hb (by rw [z];exact hN0)
      obtain ⟨o2,e2⟩:∃o2,s2.heap.get? b=some o2:=by
        rcases hb with hb | ⟨hb,hx⟩
        · cases q':H2 b with
          | none=>exact absurd q' hb
          | some u=>exact obj_there (hok b u q')
        · cases q':s3.heap.get? b with
          | none=>exact absurd q' hb
          | some u=>exact U.there b u q' hx
      have e3:=bk b o2 e2 (hb.elim .inl fun z=>.inr (th1 b z.1 z.2)) hf
      have e4:=st b o2 bn e3
      have q:h''.get? b=some o:=q
      rw [q] at e4
      cases e4
      rw [hB1 b bn]
      exact e3
  cases use <;> exact goal
end
theorem inv_xe {Y:Cx} {pins:List (Addr×Obj)} {σ:L2.St} {H:Hp} {s:Shared} {Ex:Value→Shared→Prop} (I:L2.Inv Y pins σ H s):L2.Inv { Y with xe:=Ex } pins σ H s:=
  ⟨⟨I.ok.mod,I.ok.kind,I.ok.glob,I.ok.blt,I.ok.above,I.ok.inj,I.ok.has,I.ok.cab,I.ok.hd,I.ok.frames,I.ok.stk,I.ok.exf,I.ok.bs,I.ok.bsz,I.ok.noex,I.ok.exfs,I.ok.funs,I.ok.frf⟩,I.os,I.bare,I.base,I.loc,I.cell,I.free,I.freeC,I.pin,I.hok,I.len⟩
theorem inv_xe' {Y:Cx} {pins:List (Addr×Obj)} {σ:L2.St} {H:Hp} {s:Shared} {Ex:Value→Shared→Prop} (I:L2.Inv { Y with xe:=Ex } pins σ H s):L2.Inv Y pins σ H s:=
  ⟨⟨I.ok.mod,I.ok.kind,I.ok.glob,I.ok.blt,I.ok.above,I.ok.inj,I.ok.has,I.ok.cab,I.ok.hd,I.ok.frames,I.ok.stk,I.ok.exf,I.ok.bs,I.ok.bsz,I.ok.noex,I.ok.exfs,I.ok.funs,I.ok.frf⟩,I.os,I.bare,I.base,I.loc,I.cell,I.free,I.freeC,I.pin,I.hok,I.len⟩
section
variable {X:Cx} {E:XK} {elt iter tg:Expr} {ifs:List Expr} {pos:Pos} {scope:Scope} {cl:List (Str×Addr)} {wi:TI} {te:TE} {tt:TT} {g:TG} {O N':List Str} {cap:List Nat} {n:Nat}
theorem comp_genX {pins:List (Addr×Obj)} {s:Shared} {σ:L2.St} {H:Hp} {Q:VK} {cpos:Pos} (use:Option (Value→Sem Unit)) (Q':Value→Shared→Prop) (hc:X.calm=true) (hi:PI X tg iter wi)
    (hg:∀(C:Addr) (s0:Shared) (H0:Hp) (ex':List Addr) (pn':List (Addr×Obj)),PG (cxComp X (O++N') scope cl C s0 H0 ex' pn') tg g)
    (htt:∀(C:Addr) (s0:Shared) (H0:Hp) (ex':List Addr) (pn':List (Addr×Obj)),PTs (cxComp X (O++N') scope cl C s0 H0 ex' pn') ifs tt)
    (helt:∀(C:Addr) (s0:Shared) (H0:Hp) (ex':List Addr) (pn':List (Addr×Obj)) (xe':Value→Shared→Prop),Passes (CXe X.prog X.w) { cxComp X (O++N') scope cl C s0 H0 ex' pn' with xe:=xe' } E→PE { cxComp X (O++N') scope cl C s0 H0 ex' pn' with xe:=xe' } elt te)
    (hfr:X.env.frame=some X.env.locals) (hstk:X.stack=X.env::X.outer) (hR:PassesH X E)
    (hO:O.length=n) (hcap:CapOk X scope cl N' cap)
    (hclos:closureFor scope X.env=pure cl) (hcell:∀y∈scope.names,y.2≠.cell) (hkind:scope.kind=.function) (hnames:∀y∈scope.names,y.2=.local→scope.names.lookup y.1=some .local)
    (hclx:∀y c,cl.lookup y=some c→X.env.cells.lookup y=some c) (hhas:∀y,((relabel scope X.env).names.lookup y=some .cell∨(relabel scope X.env).names.lookup y=some .free)→∃c,cl.lookup y=some c)
    (hs:∀z,foldedSetIterable iter X.env z=pure z)
    (I:L2.Inv X pins σ H s) (h:tComp wi n cap g tt te σ H Q)
    (fin:∀(D:Addr) (H5:Hp) (s6:Shared) (C:Addr),L2.Inv X pins σ H5 s6→FpOk X pins H5 C→(∃m,s6.heap.Ns C m)→Q (.ref D) H5→compPost (model X.prog X.w) X.A X.xe use Q' (.ref D) C (.ok .next) s6) :
    wpAny (model X.prog X.w) X.A (comprehension (.ListComp elt [⟨tg,iter,ifs,0⟩] scope pos) scope X.env cpos (newList []) false (eval iter X.env) use) Q' X.xe s:=by
  refine wpAny_comprehension_free (use:=use) rfl hs hclos hkind hnames (thn (hi pins s σ H _ I h) fun v s1 h1=>thn h1 fun itv s2 h2=>?_)
  obtain ⟨it,fp,tn,J,H2,e,I2,T,st2,f2,q2⟩:=h2
  subst e
  refine wpAny_newObj_type (wpAny_newFunctionEnv hcell (by intro y hy;simp at hy) (fun h₁ hns₁ hsb₁=>?_) hkind)
  dsimp only at hns₁ hsb₁ ⊢
  -- the list, then the block's own names
  have I3:Inv X pins σ (upd H2 s2.heap.objs.size (.lst [])) { s2 with heap:=s2.heap.push { cls:=.type "list",data:=.seq ([]:List Value).toArray },toks:=s2.toks }:=I2.lnew (its:=[]) (t':=s2.toks) .nil (Nat.zero_le _)
  generalize hH3:s2.heap.push { cls:=.type "list",dict:=none,data:=.seq ([]:List Value).toArray }=h3 at hns₁ hsb₁ I3 ⊢
  have q3:=q2 s2.heap.objs.size (I2.hok.fresh (Nat.le_refl _))
  generalize hD:s2.heap.objs.size=D at I3 q3 hns₁ hsb₁ ⊢
  obtain ⟨W,⟨m0,w0⟩,turn⟩:=q3
  have hC:∀b o,h3.get? b=some o→b≠h3.objs.size:=fun b o e=>Nat.ne_of_lt (Heap.lt_size e)
  have old:∀b o,h3.get? b=some o→h₁.get? b=some o:=fun b o e=>hsb₁.extBut b o (hC b o e) (Heap.get?_push_of_some _ e)
  have fpThere:∀b∈fp,∃o,h3.get? b=some o:=fun b hb=>by
    obtain ⟨o,e,_⟩:=T.obj _ _ st2 b hb
    exact ⟨o,by rw [← hH3];exact Heap.get?_push_of_some _ e⟩
  have fp3:∀b∈fp,upd H2 D (.lst []) b=none:=fun b hb=>by
    have n:=(f2 b hb).1
    obtain ⟨o,e,_⟩:=T.obj _ _ st2 b hb
    rw [upd_ne (by rw [← hD];exact Nat.ne_of_lt (Heap.lt_size e))]
    exact n
  have stk:∀b∈fp,b∉frs X.stack:=fun b hb z=>by
    rcases List.mem_cons.mp (I3.stkSub b z) with e | e
    · exact (f2 b hb).2.1 e
    · exact (f2 b hb).2.2.1 e
  have ok:(cxComp X (O++N') scope cl h3.objs.size { s2 with heap:=h3,toks:=s2.toks } (upd H2 D (.lst [])) fp (X.pn++pins)).Ok:=
    ⟨I.ok.mod,hkind,I.ok.glob,I.ok.blt,Nat.le_refl _,fun y z c a b=>I.ok.inj y z c (hclx y c a) (hclx z c b),hhas,fun _ _ z=>absurd z Bool.false_ne_true,I.ok.hd,I.ok.frames,.inl rfl,
      fun b hb=>⟨by obtain ⟨o,e⟩:=fpThere b hb;exact hC b o e,fun y c a=>(f2 b hb).2.2.2.2.1 y c (hclx y c a)⟩,I3.bs,Nat.le_trans I3.ok.bsz I3.sz,
      fun b o e hb=>by
        rcases (f2 b hb).2.2.2.1 with z | z
        · exact I.ok.noex b o e z
        · exact absurd (Nat.lt_of_lt_of_le (Heap.lt_size (I.ok.bs b o e).1) z) (Nat.lt_irrefl _),
      stk,I3.stack,I3.stkFree⟩
  have I4:Inv (cxComp X (O++N') scope cl h3.objs.size { s2 with heap:=h3,toks:=s2.toks } (upd H2 D (.lst [])) fp (X.pn++pins)) [] (List.replicate n none++capV cap σ) (upd H2 D (.lst [])) { s2 with heap:=h₁,toks:=s2.toks+([]:List (Str×Value)).length }:=by
    refine ⟨ok,rfl,I3.bare,Un.kept old,⟨_,hns₁,fun i y v e1 e2 e3=>?_⟩,fun y c a=>?_,I3.hok.fresh (Nat.le_refl _),fun y c a=>I3.freeC y c (hclx y c a),fun p hp=>?_,I3.hok.kept old,?_⟩
    · by_cases hin:i<n
      · rw [List.getElem?_append_left (by rw [List.length_replicate];exact hin),List.getElem?_replicate,if_pos hin] at e2
        cases e2
      · have e1':N'[i-n]?=some y:=by
          have z:(O++N')[i]?=some y:=e1
          rw [List.getElem?_append_right (by (first | lia | omega)),hO] at z
          exact z
        have hi':i-n<cap.length:=by rw [← hcap.len];exact (List.getElem?_eq_some_iff.mp e1').1
        obtain ⟨j,ej⟩:∃j,cap[i-n]?=some j:=⟨_,List.getElem?_eq_getElem hi'⟩
        obtain ⟨a1,a2,a3,a4⟩:=hcap.at (i-n) j y e1' ej
        have e2':σ[j]?=some (some v):=by
          have z:(capV cap σ)[i-n]?=some (some v):=by
            rw [List.getElem?_append_right (by rw [List.length_replicate];(first | lia | omega)),List.length_replicate] at e2
            exact e2
          unfold capV at z
          rw [List.getElem?_map,ej] at z
          have z2:(σ[j]?).getD none=some v:=by simpa using z
          cases q:σ[j]? with
          | none=>rw [q] at z2;cases z2
          | some o=>rw [q] at z2;exact congrArg some z2
        obtain ⟨m,hn,hl⟩:=I3.loc
        obtain ⟨u,r,l⟩:=hl j y v a1 e2' (.inr (.inl a2))
        refine ⟨u,r,.inr ⟨.inl a3,?_⟩⟩
        rcases l with ⟨k,_⟩ | ⟨_,c,ec,o,ho,hd⟩
        · rw [a2] at k;cases k
        · exact ⟨c,a4.trans ec,o,old c o ho,hd⟩
    · obtain ⟨v,o,ho,hd⟩:=I3.cell y c (hclx y c a)
      exact ⟨v,o,old c o ho,hd⟩
    · have hp':p∈X.pn++pins:=by simpa [cxComp] using hp
      obtain ⟨e,n,ne,nf,d⟩:=I3.pin p hp'
      refine ⟨old _ _ e,n,hC _ _ e,fun z=>?_,d⟩
      rcases List.mem_cons.mp (I3.stkSub p.1 z) with e | e
      · exact ne e
      · exact nf e
    · show (List.replicate n none++capV cap σ).length=(O++N').length
      unfold capV
      rw [List.length_append,List.length_append,List.length_replicate,List.length_map,hcap.len,hO]
  have pasI:=comp_pass (X:=X) (E:=E) (NN:=O++N') (scope:=scope) (cl:=cl) (D:=D) (use:=use) (Q':=Q') hfr hstk hR I3 (fun b hb=>by
    obtain ⟨_,g1,_,g3,g4,g5⟩:=f2 b hb
    exact ⟨g3,g1,g4,g5⟩:∀b∈fp,_) rfl
  have loop:codeAny (model X.prog X.w) X.A (.compLoop (.ListComp elt [⟨tg,iter,ifs,0⟩] scope pos) 0 (.ref it) (.ref D) (compEnvC scope cl h3.objs.size X.env))
      (compPost (model X.prog X.w) X.A X.xe use Q' (.ref D) h3.objs.size) { s2 with heap:=h₁,toks:=s2.toks+([]:List (Str×Value)).length }:=by
    have fpk:∀{H':Hp},(∀b∈fp,H' b=none)→∀b∈fp,FpOk (cxComp X (O++N') scope cl h3.objs.size { s2 with heap:=h3,toks:=s2.toks } (upd H2 D (.lst [])) fp (X.pn++pins)) [] H' b:=fun hn b hb=>by
      obtain ⟨o,e⟩:=fpThere b hb
      refine ⟨hn b hb,hC b o e,stk b hb,.inl hb,fun y c a=>(f2 b hb).2.2.2.2.1 y c (hclx y c a),fun p hp=>?_⟩
      have hp':p∈X.pn++pins:=by simpa [cxComp] using hp
      exact (f2 b hb).2.2.2.2.2 p hp'
    refine compLoop_gen (fun mm s'=>∃(i:Nat) (xs:List V) (H':Hp) (σ0:L2.St),σ0.length=n∧Inv (cxComp X (O++N') scope cl h3.objs.size { s2 with heap:=h3,toks:=s2.toks } (upd H2 D (.lst [])) fp (X.pn++pins)) [] (σ0++capV cap σ) H' s'∧tn i s'.heap∧(∀b∈fp,H' b=none)∧W i mm xs H') ?_ m0
      ⟨0,[],_,List.replicate n none,List.length_replicate,I4,T.keep _ _ _ st2 fun b hb o e=>old b o (by rw [← hH3];exact Heap.get?_push_of_some _ e),fp3,w0⟩
    rintro mm s5 ⟨i,xs,H5,σ0,hσ0,I5,st5,fr5,w5⟩
    obtain ⟨e5,tw⟩:=turn i mm xs H5 w5
    rcases tw with ⟨stop,qn⟩ | ⟨go,hz,step⟩
    · refine thn (T.done (cxComp X (O++N') scope cl h3.objs.size { s2 with heap:=h3,toks:=s2.toks } (upd H2 D (.lst [])) fp (X.pn++pins)) rfl rfl rfl hc i [] s5 _ H5 _ I5 (fpk fr5) st5 stop) fun r s6 ⟨hr,I6⟩=>?_
      subst hr
      obtain ⟨m,hn,_⟩:=id I6.loc
      have J6:L2.Inv X pins σ H5 s6:=I3.call' (s':=s6) (ch:=fp) I6.os I6.base I6.hok I6.bare fun b hb=>by
        obtain ⟨_,g1,_,g3,g4,g5⟩:=f2 b hb
        exact ⟨g3,g1,g4,g5⟩
      exact fin D H5 s6 _ J6 (I3.fpOk (Nat.le_refl _) I6.free) ⟨m,hn⟩ qn
    · refine thn (T.item (cxComp X (O++N') scope cl h3.objs.size { s2 with heap:=h3,toks:=s2.toks } (upd H2 D (.lst [])) fp (X.pn++pins)) rfl rfl rfl hc i [] s5 _ H5 _ I5 (fpk fr5) st5 go) fun r s6 ⟨u,hr,h6⟩=>?_
      subst hr
      refine thn h6 fun _ s7 ⟨xv,H7,I7,r7,y7,st7,fr7⟩=>?_
      have I7':=I7.pinned (fpk fr7) (T.obj _ _ st7)
      refine wpAny_mono (hg _ _ _ _ _ _ s7 _ H7 xv u _ I7' r7 (step xv H7 σ0 hσ0 y7)) (fun _ s8 ⟨σ2,H8,I8,⟨σ1,hσ1,e2⟩,q8⟩=>?_) fun _ _ z=>z.elim
      refine wpAny_mono (htt _ _ _ _ _ _ s8 σ2 H8 _ I8 q8) (fun ok s9 ⟨H9,I9,q9⟩=>?_) fun _ _ z=>z.elim
      subst e2
      have keep:∀{s':Shared} {σ':L2.St} {H':Hp},Inv (cxComp X (O++N') scope cl h3.objs.size { s2 with heap:=h3,toks:=s2.toks } (upd H2 D (.lst [])) fp (X.pn++pins)) ([]++pinsAt fp s7.heap) σ' H' s'→tn (i+1) s'.heap∧∀b∈fp,H' b=none:=fun {s' σ' H'} J=>
        ⟨T.keep _ _ _ st7 fun b hb o e=>(J.pin (b,o) (List.mem_append_right _ (List.mem_append_right _ (mem_pinsAt hb e)))).1,fun b hb=>by
          obtain ⟨o,e,d⟩:=T.obj _ _ st7 b hb
          exact (J.pin (b,o) (List.mem_append_right _ (List.mem_append_right _ (mem_pinsAt hb e)))).2.1⟩
      cases ok with
      | false=>
        rw [if_neg Bool.false_ne_true] at q9 ⊢
        obtain ⟨m',hm,w9⟩:=q9
        exact ⟨m',hm,i+1,xs,H9,σ1,hσ1,I9.unpinned,(keep I9).1,(keep I9).2,w9⟩
      | true=>
        rw [if_pos rfl] at q9 ⊢
        refine wpAny_mono (helt _ _ _ _ _ _ pasI _ s9 _ H9 _ (inv_xe I9) q9) (fun yv s10 ⟨y,H10,I10,r10,e10,m',hm,w10⟩=>?_) fun _ _ z=>z
        have I10:=inv_xe' I10
        refine wpAny_mono (mt_append (X:=cxComp X (O++N') scope cl h3.objs.size { s2 with heap:=h3,toks:=s2.toks } (upd H2 D (.lst [])) fp (X.pn++pins)) _ s10 _ H10 (.ref D) [y] (.ref D) [yv] (fun _ H'=>H'=upd H10 D (.lst (xs++[y]))) I10 rfl (.cons r10 .nil) ⟨D,xs,y,rfl,rfl,e10,hz,rfl⟩) (fun _ s11 ⟨_,H11,I11,_,e11⟩=>?_) fun _ _ z=>z.elim
        subst e11
        exact ⟨m',hm,i+1,xs++[y],_,σ1,hσ1,I11.unpinned,(keep I11).1,(keep I11).2,w10⟩
  exact codeAny_compStart_list loop (T.self _ 0 _ _ _ (T.keep _ _ _ st2 fun b hb o e=>old b o (by rw [← hH3];exact Heap.get?_push_of_some _ e)) loop)
theorem pe_compX (hc:X.calm=true) (hi:PI X tg iter wi)
    (hg:∀(C:Addr) (s0:Shared) (H0:Hp) (ex':List Addr) (pn':List (Addr×Obj)),PG (cxComp X (O++N') scope cl C s0 H0 ex' pn') tg g)
    (htt:∀(C:Addr) (s0:Shared) (H0:Hp) (ex':List Addr) (pn':List (Addr×Obj)),PTs (cxComp X (O++N') scope cl C s0 H0 ex' pn') ifs tt)
    (helt:∀(C:Addr) (s0:Shared) (H0:Hp) (ex':List Addr) (pn':List (Addr×Obj)) (xe':Value→Shared→Prop),Passes (CXe X.prog X.w) { cxComp X (O++N') scope cl C s0 H0 ex' pn' with xe:=xe' } E→PE { cxComp X (O++N') scope cl C s0 H0 ex' pn' with xe:=xe' } elt te)
    (hfr:X.env.frame=some X.env.locals) (hstk:X.stack=X.env::X.outer) (hR:PassesH X E)
    (hO:O.length=n) (hcap:CapOk X scope cl N' cap)
    (hclos:closureFor scope X.env=pure cl) (hcell:∀y∈scope.names,y.2≠.cell) (hkind:scope.kind=.function) (hnames:∀y∈scope.names,y.2=.local→scope.names.lookup y.1=some .local)
    (hclx:∀y c,cl.lookup y=some c→X.env.cells.lookup y=some c) (hhas:∀y,((relabel scope X.env).names.lookup y=some .cell∨(relabel scope X.env).names.lookup y=some .free)→∃c,cl.lookup y=some c)
    (hs:autoParam (∀z,foldedSetIterable iter X.env z=pure z) au2_._auto_1) :
    PE X (.ListComp elt [⟨tg,iter,ifs,0⟩] scope pos) (tComp wi n cap g tt te):=by
  intro pins s σ H Q I h
  rw [eval_ListComp]
  exact comp_genX none (EP X pins σ Q) hc hi hg htt helt hfr hstk hR hO hcap hclos hcell hkind hnames hclx hhas hs I h fun D H5 s6 C J fC ⟨m,hn⟩ q=>⟨m,hn,fun h' sb=>⟨.ref D,H5,inv_but J fC sb,rfl,q⟩⟩
end
section
variable {X:Cx} {E:XK} {c elt iter tg:Expr} {ifs:List Expr} {pos:Pos} {scope:Scope} {wi:TI} {te:TE} {tt:TT} {g:TG} {O N':List Str} {cap:List Nat} {n:Nat}
theorem pe_compXC (hc:X.calm=true) (hi:PI X tg iter wi)
    (hg:∀(C:Addr) (s0:Shared) (H0:Hp) (ex':List Addr) (pn':List (Addr×Obj)),PG (cxComp X (O++N') scope (closL X.env.cells scope.names []) C s0 H0 ex' pn') tg g)
    (htt:∀(C:Addr) (s0:Shared) (H0:Hp) (ex':List Addr) (pn':List (Addr×Obj)),PTs (cxComp X (O++N') scope (closL X.env.cells scope.names []) C s0 H0 ex' pn') ifs tt)
    (helt:∀(C:Addr) (s0:Shared) (H0:Hp) (ex':List Addr) (pn':List (Addr×Obj)) (xe':Value→Shared→Prop),Passes (CXe X.prog X.w) { cxComp X (O++N') scope (closL X.env.cells scope.names []) C s0 H0 ex' pn' with xe:=xe' } E→PE { cxComp X (O++N') scope (closL X.env.cells scope.names []) C s0 H0 ex' pn' with xe:=xe' } elt te)
    (hfr:X.env.frame=some X.env.locals) (hstk:X.stack=X.env::X.outer) (hR:PassesH X E)
    (hO:O.length=n) (hcap:Caps X scope N' cap) (hf:freeHas X.env.cells scope.names=true) (hcell:∀y∈scope.names,y.2≠.cell) (hkind:scope.kind=.function) (hnames:∀y∈scope.names,y.2=.local→scope.names.lookup y.1=some .local)
    (hs:autoParam (∀z,foldedSetIterable iter X.env z=pure z) au2_._auto_1) :
    PE X (.ListComp elt [⟨tg,iter,ifs,0⟩] scope pos) (tComp wi n cap g tt te):=
  pe_compX hc hi hg htt helt hfr hstk hR hO (hcap.ok hf) (closure_of hf) hcell hkind hnames (fun _ _=>closL_look) (relabel_has hf hcell) hs
end
end My
namespace Jd
open PySem PySem.Spec PyProof.Rows L2 My
section
variable {X:Cx} {E:XK} {c elt iter tg:Expr} {ifs:List Expr} {pos:Pos} {scope:Scope} {wi:TI} {te:TE} {tt:TT} {g:TG} {O N':List Str} {cap:List Nat} {n:Nat}
theorem pe_compX (hc:X.calm=true) (hi:QI X tg iter wi)
    (hg:∀(C:Addr) (s0:Shared) (H0:Hp) (ex':List Addr) (pn':List (Addr×Obj)),QG (cxComp X (O++N') scope (closL X.env.cells scope.names []) C s0 H0 ex' pn') tg g)
    (htt:∀(C:Addr) (s0:Shared) (H0:Hp) (ex':List Addr) (pn':List (Addr×Obj)),QTs (cxComp X (O++N') scope (closL X.env.cells scope.names []) C s0 H0 ex' pn') ifs tt)
    (helt:∀(C:Addr) (s0:Shared) (H0:Hp) (ex':List Addr) (pn':List (Addr×Obj)) (xe':Value→Shared→Prop),Passes (CXe X.prog X.w) { cxComp X (O++N') scope (closL X.env.cells scope.names []) C s0 H0 ex' pn' with xe:=xe' } E→QE { cxComp X (O++N') scope (closL X.env.cells scope.names []) C s0 H0 ex' pn' with xe:=xe' } elt te)
    (hfr:X.env.frame=some X.env.locals) (hstk:X.stack=X.env::X.outer) (hR:PassesH X E)
    (hO:O.length=n) (hcap:Caps X scope N' cap) (hf:freeHas X.env.cells scope.names=true) (hcell:∀y∈scope.names,y.2≠.cell) (hkind:scope.kind=.function) (hnames:∀y∈scope.names,y.2=.local→scope.names.lookup y.1=some .local)
    (hs:autoParam (∀z,foldedSetIterable iter X.env z=pure z) au2_._auto_1) :
    QE X (.ListComp elt [⟨tg,iter,ifs,0⟩] scope pos) (tComp wi n cap g tt te):=
  ⟨My.pe_compXC hc hi.h (fun C s0 H0 ex' pn'=>(hg C s0 H0 ex' pn').h) (fun C s0 H0 ex' pn'=>(htt C s0 H0 ex' pn').h) (fun C s0 H0 ex' pn' xe' hp=>(helt C s0 H0 ex' pn' xe' hp).h) hfr hstk hR hO hcap hf hcell hkind hnames hs⟩
end
section
variable {X:Cx} {body suite:List Stmt} {b0:Stmt} {tb:XK→TS} {ts:TS} {x:Str} {Cc:Addr} {np hpos pos:Pos}
theorem ps_tryH (hg:Gl X x) (hm:X.mg x=some (.ref Cc)) (hfr:X.env.frame=some X.env.locals) (hstk:X.stack=X.env::X.outer)
    (hb:∀(pn':List (Addr×Obj)) (xe':Value→Shared→Prop) (E:XK),Passes (CXe X.prog X.w) { X with pn:=pn',xe:=xe' } E→PassesH { X with pn:=pn',xe:=xe' } E→QSs { X with pn:=pn',xe:=xe' } body (tb E))
    (hs:∀(e:Addr) (pn':List (Addr×Obj)),QSs { X with A:=X.A.mark (some (.ref e)),calm:=false,pn:=pn',xe:=fun _ _=>False } (b0::suite) ts) (hd:autoParam ((x==("__debug__":Str))=false) au1_._auto_1) :
    QS X (.Try body [.ExceptHandler (some (.Name x np)) none (b0::suite) hpos] [] [] pos) (tTry X.K X.N.length tb Cc ts):=
  ⟨My.ps_tryH hg hm hfr hstk (fun pn' xe' E hp hH=>(hb pn' xe' E hp hH).h) (fun e pn'=>(hs e pn').h) hd⟩
end
end Jd
noncomputable abbrev J.a:=@Jd.pv
noncomputable abbrev J.b:=@Jd.pa_cons
noncomputable abbrev J.c:=@Jd.pe_int
noncomputable abbrev J.d:=@Jd.pa_nil
noncomputable abbrev J.e:=@Jd.pss_cons
noncomputable abbrev J.f:=@Jd.pss_one
noncomputable abbrev J.g:=@Jd.pe_op
noncomputable abbrev J.h:=@Jd.pe_str
noncomputable abbrev J.i:=@Jd.pt_cmpR
noncomputable abbrev J.j:=@Jd.ps_set
noncomputable abbrev J.k:=@Jd.pe_ix
noncomputable abbrev J.l:=@Jd.ps_ret
noncomputable abbrev J.m:=@Jd.pe_dn
noncomputable abbrev J.n:=@Jd.ps_if
noncomputable abbrev J.o:=@Jd.pg_name
noncomputable abbrev J.p:=@Jd.pss_nil
noncomputable abbrev J.q:=@Jd.po_some
noncomputable abbrev J.r:=@Jd.pe_callB
noncomputable abbrev J.s:=@Jd.ps_expr
noncomputable abbrev J.t:=@Jd.pe_lst
noncomputable abbrev J.u:=@Jd.pe_non
noncomputable abbrev J.v:=@Jd.pe_slice
noncomputable abbrev J.w:=@Jd.appC
noncomputable abbrev J.x:=@Jd.PWpt
noncomputable abbrev J.y:=@Jd.pts_nil
noncomputable abbrev J.z:=@Jd.po_none
noncomputable abbrev J.aa:=@Jd.pe_callTy
noncomputable abbrev J.ab:=@Jd.ps_for
noncomputable abbrev J.ac:=@Jd.pt_val
noncomputable abbrev J.ad:=@Jd.pw_and
noncomputable abbrev J.ae:=@Jd.pgs_cons
noncomputable abbrev J.af:=@Jd.pe_comp
noncomputable abbrev J.ag:=@Jd.pi_range1

local macro_rules | `(tactic| walk_at "v") => `(tactic| repeat (first
  | with_reducible refine My.r_seq ?_
  | with_reducible refine My.r_set ?_
  | with_reducible refine My.r_ret ?_
  | with_reducible refine My.r_drop ?_
  | with_reducible refine My.r_if ?_
  | with_reducible refine My.r_next ?_
  | with_reducible refine My.r_cont ?_
  | with_reducible refine My.r_break ?_
  | with_reducible refine My.r_chain ?_
  | with_reducible refine My.r_chain4 ?_
  | with_reducible refine My.r_link ?_
  | with_reducible refine My.r_end ?_
  | with_reducible refine My.r_fld ?_
  | with_reducible refine My.r_sfld ?_
  | with_reducible refine My.r_meth ?_
  | with_reducible refine My.r_make ?_
  | ((with_reducible refine' My.r_var ?e1 ?_); (case e1 => rfl))
  | with_reducible refine My.r_c ?_
  | with_reducible refine My.r_op ?_
  | with_reducible refine My.r_un ?_
  | with_reducible refine My.r_I0 ?_
  | with_reducible refine My.r_U ?_
  | with_reducible refine My.r_test ?_
  | with_reducible refine My.r_B ?_
  | with_reducible refine My.r_bl ?_
  | with_reducible refine My.r_cb ?_
  | with_reducible refine My.r_cons ?_
  | with_reducible refine My.r_nil ?_
  | with_reducible refine My.r_tup ?_
  | with_reducible refine My.r_lst ?_
  | with_reducible refine My.r_call ?_
  | with_reducible refine My.r_try ?_
  | with_reducible refine My.r_tryAs ?_
  | with_reducible refine My.r_tryAsD ?_
  | with_reducible refine My.r_try2 ?_
  | with_reducible refine My.r_try1 ?_
  | with_reducible refine My.r_atx ?_
  | with_reducible refine My.r_raiseI ?_
  | with_reducible refine My.r_callX ?_
  | with_reducible refine My.r_callD ?_
  | with_reducible refine My.r_raise ?_
  | with_reducible refine My.r_par ?_
  | with_reducible refine My.r_g ?_
  | with_reducible refine My.r_absC ?_
  | with_reducible refine My.r_bits ?_
  | with_reducible refine My.r_comp ?_
  | with_reducible refine My.r_yes ?_
  | with_reducible refine My.r_gsub ?_
  | with_reducible refine My.r_rev ?_
  | with_reducible refine My.r_max ?_
  | with_reducible refine My.r_min ?_
  | with_reducible refine My.r_two ?_
  | with_reducible refine My.r_bm ?_
  | ((with_reducible refine My.r_I ?e7 ?_); (case e7 => first | decide | assumption | exact ⟨by decide, by decide, by decide⟩ | (show (0 : Int) < _; first | decide | omega) | exact My.mulR (by decide) (by decide) | exact My.mulL (by decide) (by decide)))
  | with_reducible refine My.r_not ?_
  | with_reducible refine My.r_and ?_
  | with_reducible refine My.r_or ?_
  | with_reducible refine My.r_andV ?_
  | with_reducible refine My.r_orV ?_
  | with_reducible refine My.r_notV ?_
  | with_reducible refine My.r_ife ?_
  | ((with_reducible refine My.r_eq ?e2 ?_); (case e2 => rfl))
  | ((with_reducible refine My.r_ne ?e3 ?_); (case e3 => rfl))
  | ((with_reducible refine' My.r_t0 ?e4 ?_); (case e4 => assumption))
  | ((with_reducible refine' My.r_t1 ?e5 ?_); (case e5 => assumption))
  | ((with_reducible refine' My.r_t2 ?e6 ?_); (case e6 => assumption))
  | ((with_reducible refine' My.r_t3 ?e8 ?_); (case e8 => assumption))))
local macro_rules | `(tactic| walk_at "o") => `(tactic| first
  | assumption
  | exact Nat.le_of_lt (by assumption)
  | exact Nat.lt_trans (by assumption) (by assumption)
  | exact Nat.lt_of_lt_of_le (by assumption) (by assumption)
  | exact Nat.le_trans (by assumption) (by assumption)
  | exact Int.le_of_lt (by assumption)
  | exact Int.ne_of_gt (by assumption)
  | exact Int.ne_of_lt (by assumption)
  | exact Int.natCast_nonneg _
  | lia
  | omega)
local macro_rules | `(tactic| walk_at "fx") => `(tactic| (refine' My.fx_mk ?a ?l ?c ?k; (case a => k_is); (case l => k_is); (case c => k_is); (case k => k_is)))
local macro_rules | `(tactic| walk_at "fm") => `(tactic| (refine' My.fm_mk ?a ?i ?l ?c ?k; (case a => k_is); (case i => k_is); (case l => k_is); (case c => k_is); (case k => k_is)))
local macro_rules | `(tactic| walk_at "fi") => `(tactic| (refine' My.fi_mk ?a ?o ?i ?l ?c ?k; (case a => k_is); (case o => kernel_rfl); (case i => k_is); (case l => k_is); (case c => k_is); (case k => k_is)))
local macro_rules | `(tactic| walk_at "fd") => `(tactic| (refine' My.fxd_mk ?a ?l ?t ?c ?k; (case a => k_is); (case l => k_is); (case t => k_is); (case c => k_is); (case k => k_is)))
local macro_rules | `(tactic| walk_at "fz") => `(tactic| first | walk_at "fx" | walk_at "fd" | walk_at "fm" | walk_at "fi" | k_is | k_exc | kts_exm | kit_is)
local macro_rules | `(tactic| walk_at "vs") => `(tactic| first
  | with_reducible refine My.r_sl ?_
  | with_reducible refine My.r_part ?_
  | with_reducible refine My.r_nopart ?_
  | with_reducible refine My.r_pi ?_)
local macro_rules | `(tactic| walk_at "vd") => `(tactic| ((walk_at "v"); (repeat ((walk_at "vs"); (walk_at "v")))))
--@skip _law_cell
--@skip _law_mix
--@skip _law_row
--@skip _law_ratio
--@skip _law_number
--@skip _law_word
--@skip _law_ratio_due
namespace Lw
open PySem L2 Mth My
noncomputable def top (i:Nat):Stmt:=PySem.Challenge.pw_lath_k87_papers_as_lines.main.body.getD i (.Pass ⟨0,0,0,0⟩)
noncomputable abbrev s_law_cell:Stmt:=top 20
noncomputable abbrev s_law_mix:Stmt:=top 21
noncomputable abbrev s_law_row:Stmt:=top 22
noncomputable abbrev s_figures_of:Stmt:=top 7
noncomputable abbrev s_whole_word:Stmt:=top 8
noncomputable abbrev s_is_whole:Stmt:=top 9
noncomputable abbrev s_read_whole:Stmt:=top 10
noncomputable abbrev s_law_whole_due:Stmt:=top 24
noncomputable abbrev s_NoLine_init:Stmt:=inClass (top 4) 0
noncomputable abbrev s_show_wholes:Stmt:=top 12
noncomputable abbrev s_show_paper:Stmt:=top 13
noncomputable abbrev s_wholes_of:Stmt:=top 14
noncomputable abbrev s_three_of:Stmt:=top 15
noncomputable abbrev s_read_threes:Stmt:=top 16
noncomputable abbrev s_read_parts:Stmt:=top 17
noncomputable abbrev s_read_paper:Stmt:=top 18
noncomputable abbrev s_law_number:Stmt:=top 28
noncomputable abbrev s_law_three:Stmt:=top 29
noncomputable abbrev s_law_paper:Stmt:=top 30
noncomputable abbrev s_law_lines:Stmt:=top 31
noncomputable abbrev s_law_numbers_due:Stmt:=top 33
noncomputable abbrev s_law_due:Stmt:=top 34
noncomputable abbrev s_law_spoil:Stmt:=top 32
noncomputable abbrev s_law_refused:Stmt:=top 27
noncomputable abbrev s_law:Stmt:=top 35
structure Txt (mg:Str→Option Value):Prop where
  len_:mg "len"=none
  abs_:mg "abs"=none
  range:mg "range"=none
  isinstance_:mg "isinstance"=none
  int_:mg "int"=none
  bool_:mg "bool"=none
  tuple_:mg "tuple"=none
  list_:mg "list"=none
  max_:mg "max"=none
  min_:mg "min"=none
  enumerate_:mg "enumerate"=none
  zip_:mg "zip"=none
  all_:mg "all"=none
  any_:mg "any"=none
  sum_:mg "sum"=none
  sorted_:mg "sorted"=none
  reversed_:mg "reversed"=none
  str_:mg "str"=none
noncomputable def third (σ:St):Nat:=match σ[3]? with | some (some (V.int n))=>n.toNat | _=>0
section
variable {P:Program} {w:World} {K:PySem.W.Frag} {mg:Str→Option Value} {base:Heap} {f:Addr} {fd:FuncData}
end

section
variable {H H':Hp} {p:Addr} {q h:Rat} {m n:Nat} {t:Int}
end
section
variable {P:Program} {w:World} {K:PySem.W.Frag} {mg:Str→Option Value} {base:Heap} {f:Addr} {fd:FuncData}
end

theorem row_get {xs zs:List Int} (hlen:xs.length=zs.length) (hxs:∀(j:Nat) (x z:Int),xs[j]?=some x→zs[j]?=some z→0≤x∧x<z) (j:Nat) {z:Int} (ez:zs[j]?=some z):∃x,xs[j]?=some x∧0≤x∧x<z:=by
  have hj:=(List.getElem?_eq_some_iff.mp ez).1
  rw [← hlen] at hj
  exact ⟨xs[j],List.getElem?_eq_getElem hj,hxs j _ z (List.getElem?_eq_getElem hj) ez⟩
theorem sz_lt {n:Nat} {x:Int} (k:Nat) (h:x.natAbs<k) (hk:autoParam (k≤2 ^ n) au1_._auto_1):Sz n x:=Sz.of_lt h hk
theorem r_unpack2 {σ:St} {H:Hp} {K:PySem.W.Frag} {p:Addr} {x y:V} {i j:Nat} {R:St→Hp→Prop} (h:H p=some (.tup [x,y])) (q:R ((σ.set i (some x)).set j (some y)) H):gTup K 2 (gCons (gName i) (gCons (gName j) gNil)) (.ref p) σ H R:=
  ⟨p,_,rfl,SqT.of h,rfl,x,_,rfl,y,_,rfl,rfl,q⟩

noncomputable def cellF (ns:List Int) (i:Int):Int:=if i<(ns.length:Int) then ns.getD i.toNat 0 else ((ns.take 63).foldl (fun z c=>(z*48271+c % 1000003+1) % 2147483647) 5+7919*i) % 1000003
noncomputable def mixF (c k:Int):Int:=(((c % 2147483629+1013*k+7919) ^ 3 % 2147483647*40699+3793*k*k+11) % 2147483399).fdiv 101
noncomputable def stepF (ns:List Int) (i c:Int) (zs:List Int) (q:Int×List Int) (j:Nat):Int×List Int:=
  if c<10 ^ 18 then (q.1,q.2++[mixF c j % zs.getD j 0]) else if q.1>0 then (q.1.fdiv (zs.getD j 0),q.2++[q.1 % zs.getD j 0]) else (q.1,q.2++[mixF (cellF ns ((i+1+j) % 63)) j % zs.getD j 0])
noncomputable def foldF (ns:List Int) (i:Int) (zs:List Int) (j:Nat):Int×List Int:=(List.range j).foldl (stepF ns i (cellF ns i) zs) (cellF ns i,[])
noncomputable def rowF (ns:List Int) (i:Int) (zs:List Int):List Int:=(foldF ns i zs zs.length).2
theorem foldF_succ (ns:List Int) (i:Int) (zs:List Int) (j:Nat):foldF ns i zs (j+1)=stepF ns i (cellF ns i) zs (foldF ns i zs j) j:=by
  unfold foldF
  rw [List.range_succ,List.foldl_append]
  rfl
noncomputable def spCellF (K:PySem.W.Frag):Sp:=fun vs H Q _=>∃(a:Addr) (ns:List Int) (i:Int),vs=[.ref a,.int i]∧SqL K H a (ns.map V.int)∧0≤i∧i<1000∧∀H',Same H H'→Q (.int (cellF ns i)) H'
noncomputable def spMixF:Sp:=fun vs H Q _=>∃(c k:Int),vs=[.int c,.int k]∧0≤k∧k<1000∧Q (.int (mixF c k)) H
noncomputable def spRowF (K:PySem.W.Frag):Sp:=fun vs H Q _=>∃(a:Addr) (ns:List Int) (i:Int) (l:Addr) (zs:List Int),vs=[.ref a,.int i,.ref l]∧SqL K H a (ns.map V.int)∧0≤i∧i<900∧H l=some (.lst (zs.map V.int))∧zs.length≤900∧(∀z∈zs,0<z∧z<2 ^ 60) ∧
  ∀(p:Addr) (xs:List Int) (H':Hp),Same H H'→H p=none→H' p=some (.lst (xs.map V.int))→xs.length=zs.length→(∀(j:Nat) (x z:Int),xs[j]?=some x→zs[j]?=some z→0≤x∧x<z)→xs=rowF ns i zs→Q (.ref p) H'
theorem cutl (xs:List V) (n:Nat):cutV xs none (some (n:Int))=xs.take n:=by
  unfold cutV
  rw [HT.sIx_nat,show HT.sIx xs.length 0 none=0 from rfl,List.drop_zero,Nat.sub_zero]
  rcases Nat.le_total n xs.length with z | z
  · rw [Nat.min_eq_left z]
  · rw [Nat.min_eq_right z,List.take_of_length_le (Nat.le_refl _),List.take_of_length_le z]
theorem cut63 (ns:List Int):cutV (ns.map V.int) none (some 63)=(ns.take 63).map V.int:=by rw [List.map_take];exact cutl _ 63
section
variable {P:Program} {w:World} {K:PySem.W.Frag} {mg:Str→Option Value} {base:Heap} {f:Addr} {fd:FuncData}
theorem sc_law_cell:FnScope ["_law_script","_law_place","_law_seed","_law_cell_here"] ["_law_script","_law_place"] (defScope s_law_cell):=⟨rfl,rfl,rfl,by decide +kernel,rfl,by decide +kernel,by decide +kernel⟩
theorem ok_law_cell (F:Fun K "_law_cell" "_law_cell" s_law_cell f fd) (T:Txt mg):FnOk P w K mg base CX0 1 f fd ["_law_script","_law_place"] (spCellF K):=by
  refine F.ok sc_law_cell (fun vs H Q E h=>?_) (fun cdv A outer s H vs Q E hr h=>?_)
  · obtain ⟨a,ns,i,rfl,_⟩:=h
    rfl
  obtain ⟨a,ns,i,rfl,hS,h0,h1,k⟩:=h
  refine Jd.go ⟨_,(J.e (J.n (J.i op_lt (J.a 1) (J.r (lenC K) rfl T.len_ PySem.boot_len (J.b (J.a 0) J.d st_N) (he:=st_N) (hpl:=any0)) (nomark _))
      (J.f (J.l (J.k (ixL K) (J.a 0) (J.a 1) (fun _ _=>rfl))))
      J.p)
      (J.e (J.j (i:=2) sc_law_cell.nd rfl (Or.inl rfl) J.c (hs:=sw_C))
      (J.e (J.ab PassesOwn.never rfl (Jd.piL K (J.v (slL K) (J.a 0) J.z (J.q J.c))) (J.o (i:=3) sc_law_cell.nd rfl (Or.inl rfl))
      (J.f (J.j (i:=2) sc_law_cell.nd rfl (Or.inl rfl) (J.g op_mod (J.g op_add (J.g op_add (J.g op_mulB (J.a 2) J.c) (J.g op_mod (J.a 3) J.c)) J.c) J.c) (hs:=sw_B))))
      (J.f (J.l (J.g op_mod (J.g op_add (J.a 2) (J.g op_mulB J.c (J.a 1))) J.c)))))),?_⟩
  walk_at "v"
  refine r_len (.inl hS) ?_
  walk_at "v"
  refine ite2 (fun c=>?_) (fun c=>?_)
  · have c':=of_decide_eq_true c
    rw [List.length_map] at c'
    have hk:i.toNat<ns.length:=by walk_at "o"
    have hv:atI (ns.map V.int) i=some (.int (cellF ns i)):=at_ints (by unfold cellF;rw [if_pos c',List.getD_eq_getElem?_getD,List.getElem?_eq_getElem hk];rfl) (by walk_at "o")
    walk_at "v"
    exact ⟨a,_,i,_,rfl,rfl,hS,hv,k H (Same.refl _)⟩
  · walk_at "v"
    refine ⟨_,rfl,_,rfl,a,_,rfl,hS,fun p hp=>?_⟩
    have s1:Same H (upd H p (.lst (cutV (ns.map V.int) none (some 63)))):=same_new hp _
    have e1:upd H p (.lst (cutV (ns.map V.int) none (some 63))) p=some (.lst (cutV (ns.map V.int) none (some 63))):=upd_same
    refine ⟨p,rfl,⟨_,SqL.of e1⟩,for_list (K:=K) (a:=p) (xs:=cutV (ns.map V.int) none (some 63)) (fun j σ H2=>∃(z:Int) (v:Option V),σ=[some (.ref a),some (.int i),some (.int z),v]∧0≤z∧z<2147483647∧z=((ns.take 63).take j).foldl (fun z c=>(z*48271+c % 1000003+1) % 2147483647) 5∧Same (upd H p (.lst (cutV (ns.map V.int) none (some 63)))) H2)
      ⟨5,none,rfl,by decide,by decide,rfl,Same.refl _⟩ (fun _ σ H2 _ ⟨_,_,_,_,_,_,s2⟩=>SqL.of (s2 _ _ e1)) ?_ ?_⟩
    · rintro j y σ H2 hj ⟨z,v,rfl,z0,z1,hz,s2⟩
      rw [cut63,List.getElem?_map] at hj
      obtain ⟨m,hm,rfl⟩:=Option.map_eq_some_iff.mp hj
      walk_at "v"
      refine ⟨_,_,rfl,Int.emod_nonneg _ (by decide),Int.emod_lt_of_pos _ (by decide),?_,s2⟩
      rw [List.take_succ,hm,Option.toList_some,List.foldl_append,← hz]
      rfl
    · rintro σ H2 ⟨z,v,rfl,z0,z1,hz,s2⟩
      rw [cut63,List.length_map,List.take_length] at hz
      walk_at "v"
      have:=k _ (s1.trans s2)
      unfold cellF at this
      rw [if_neg (by have:=of_decide_eq_false (Bool.eq_false_iff.mpr c);rwa [List.length_map] at this),← hz] at this
      exact this
theorem sc_law_mix:FnScope ["_law_cell_here","_law_k","_law_one","_law_two"] ["_law_cell_here","_law_k"] (defScope s_law_mix):=⟨rfl,rfl,rfl,by decide +kernel,rfl,by decide +kernel,by decide +kernel⟩
theorem ok_law_mix (F:Fun K "_law_mix" "_law_mix" s_law_mix f fd):FnOk P w K mg base CX0 1 f fd ["_law_cell_here","_law_k"] spMixF:=by
  refine F.ok sc_law_mix (fun vs H Q E h=>?_) (fun cdv A outer s H vs Q E hr h=>?_)
  · obtain ⟨c,k,rfl,_⟩:=h
    rfl
  obtain ⟨c,j,rfl,h0,h1,k⟩:=h
  refine Jd.go ⟨_,(J.e (J.j (i:=2) sc_law_mix.nd rfl (Or.inl rfl) (J.g op_mod (J.g op_pow (J.g op_add (J.g op_add (J.g op_mod (J.a 0) J.c) (J.g op_mulB J.c (J.a 1))) J.c) J.c) J.c) (hs:=sw_B))
      (J.e (J.j (i:=3) sc_law_mix.nd rfl (Or.inl rfl) (J.g op_mod (J.g op_add (J.g op_add (J.g op_mulB (J.a 2) J.c) (J.g op_mulB (J.g op_mulB J.c (J.a 1)) (J.a 1))) J.c) J.c) (hs:=sw_B))
      (J.f (J.l (J.g op_fdivB (J.a 3) J.c))))),?_⟩
  have b0:0≤c % 2147483629:=Int.emod_nonneg _ (by decide)
  have b1:c % 2147483629<2147483629:=Int.emod_lt_of_pos _ (by decide)
  walk_at "v"
  refine r_I (show CPow _ _ from ⟨by decide,by decide,by walk_at "o"⟩) ?_
  walk_at "v"
  refine r_I (mulR (by walk_at "o") (by walk_at "o")) ?_
  walk_at "v"
  refine r_I (show CDivB _ _ from ⟨by decide,by decide +kernel⟩) ?_
  exact k
theorem sc_law_row:FnScope ["_law_script","_law_place","_law_sizes","_law_cell_here","_law_left","_law_some","_law_k","_law_other"] ["_law_script","_law_place","_law_sizes"] (defScope s_law_row):=⟨rfl,rfl,rfl,by decide +kernel,rfl,by decide +kernel,by decide +kernel⟩
theorem ok_law_row (F:Fun K "_law_row" "_law_row" s_law_row f fd) (T:Txt mg) (D_law_cell:Dn P w K mg base 1 "_law_cell" ["_law_script","_law_place"] (spCellF K)) (D_law_mix:Dn P w K mg base 1 "_law_mix" ["_law_cell_here","_law_k"] spMixF) :
    FnOk P w K mg base CX0 3 f fd ["_law_script","_law_place","_law_sizes"] (spRowF K):=by
  refine F.ok sc_law_row (fun vs H Q E h=>?_) (fun cdv A outer s H vs Q E hr h=>?_)
  · obtain ⟨a,ns,i,l,zs,rfl,_⟩:=h
    rfl
  obtain ⟨a,ns,i,l,zs,rfl,hS,h0,h1,hl,hz,hzs,k⟩:=h
  refine Jd.go ⟨_,(J.e (J.j (i:=3) sc_law_row.nd rfl (Or.inl rfl) (J.m D_law_cell (hr.mono (by decide)) rfl (J.b (J.a 0) (J.b (J.a 1) J.d st_N) st_N) (he:=st_N) (hpl:=(anyc st_N any0))) (hs:=sw_K))
      (J.e (J.j (i:=4) sc_law_row.nd rfl (Or.inl rfl) (J.a 3) (hs:=sw_N))
      (J.e (J.j (i:=5) sc_law_row.nd rfl (Or.inl rfl) (J.t J.d) (hs:=sw_L))
      (J.e (J.ab PassesOwn.never rfl (J.ag rfl T.range (J.b (J.r (lenC K) rfl T.len_ PySem.boot_len (J.b (J.a 2) J.d st_N) (he:=st_N) (hpl:=any0)) J.d st_K)) (J.o (i:=6) sc_law_row.nd rfl (Or.inl rfl))
      (J.f (J.n (J.i op_lt (J.a 3) (J.g op_pow J.c J.c) (nomark _))
      (J.f (J.s (J.w K (J.a 5) (J.g op_mod (J.m D_law_mix (hr.mono (by decide)) rfl (J.b (J.a 3) (J.b (J.a 6) J.d st_N) st_N) (he:=st_N) (hpl:=(anyc st_N any0))) (J.k (ixL K) (J.a 2) (J.a 6) (fun _ _=>rfl)))) (hs:=sw_K)))
      (J.f (J.n (J.i op_gt (J.a 4) J.c (nomark _))
      (J.e (J.s (J.w K (J.a 5) (J.g op_mod (J.a 4) (J.k (ixL K) (J.a 2) (J.a 6) (fun _ _=>rfl)))) (hs:=sw_K))
      (J.f (J.j (i:=4) sc_law_row.nd rfl (Or.inl rfl) (J.g op_fdivB (J.a 4) (J.k (ixL K) (J.a 2) (J.a 6) (fun _ _=>rfl))) (hs:=sw_B))))
      (J.e (J.j (i:=7) sc_law_row.nd rfl (Or.inl rfl) (J.m D_law_cell (hr.mono (by decide)) rfl (J.b (J.a 0) (J.b (J.g op_mod (J.g op_add (J.g op_add (J.a 1) J.c) (J.a 6)) J.c) J.d st_B) st_N) (he:=st_N) (hpl:=(anyc st_B any0))) (hs:=sw_K))
      (J.f (J.s (J.w K (J.a 5) (J.g op_mod (J.m D_law_mix (hr.mono (by decide)) rfl (J.b (J.a 7) (J.b (J.a 6) J.d st_N) st_N) (he:=st_N) (hpl:=(anyc st_N any0))) (J.k (ixL K) (J.a 2) (J.a 6) (fun _ _=>rfl)))) (hs:=sw_K)))))))))
      (J.f (J.l (J.a 5))))))),?_⟩
  walk_at "v"
  refine ⟨a,ns,i,rfl,hS,h0,by walk_at "o",fun H1 s1=>?_⟩
  generalize hc:cellF ns i=c
  walk_at "v"
  refine r_new (mk:=.lst) (by simp) fun p H2 s2 n2 e2=>?_
  walk_at "v"
  have hl2:H2 l=some (.lst (zs.map V.int)):=s2 _ _ (s1 _ _ hl)
  refine ⟨_,rfl,l,_,rfl,.inl (SqL.of hl2),_,rfl,by lia,by rw [List.length_map];lia,for_range (fun j σ H3=>∃(left:Int) (xs:List Int) (v6 v7:Option V),
    σ=[some (.ref a),some (.int i),some (.ref l),some (.int c),some (.int left),some (.ref p),v6,v7]∧Same H1 H3∧H3 p=some (.lst (xs.map V.int))∧xs.length=j∧(left,xs)=foldF ns i zs j∧(∀(j:Nat) (x z:Int),xs[j]?=some x→zs[j]?=some z→0≤x∧x<z)) ?_ ?_ ?_⟩
  · exact ⟨c,[],none,none,rfl,s2,e2,rfl,by unfold foldF;rw [hc];rfl,fun j x z e _=>by simp at e⟩
  · rintro j σ H3 hj ⟨left,xs,v6,v7,rfl,s3,e3,hx,hq,hxs⟩
    have hj':j<zs.length:=by simpa using hj
    obtain ⟨z,ez⟩:∃z,zs[j]?=some z:=⟨_,List.getElem?_eq_getElem hj'⟩
    obtain ⟨zp,zq⟩:=hzs z (List.mem_of_getElem? ez)
    have hl3:H3 l=some (.lst (zs.map V.int)):=s3 _ _ (s1 _ _ hl)
    have hgz:zs.getD j 0=z:=by rw [List.getD_eq_getElem?_getD,ez];rfl
    have hS':=foldF_succ ns i zs j
    rw [← hq,hc] at hS'
    unfold stepF at hS'
    rw [hgz] at hS'
    have ea:atI (zs.map V.int) (0+(j:Int))=some (.int z):=at_ints ez (by walk_at "o")
    have hS3:SqL K H3 a (ns.map V.int):=(s1.trans s3).seq hS
    -- one more item
    have fin:∀(y left':Int) (v6 v7:Option V) (H4:Hp),Same H3 H4→H4 p=some (.lst (xs.map V.int))→(left',xs++[y % z])=foldF ns i zs (j+1)→∃(left:Int) (xs':List Int) (v6' v7':Option V),
        [some (.ref a),some (.int i),some (.ref l),some (.int c),some (.int left'),some (.ref p),v6,v7]=[some (.ref a),some (.int i),some (.ref l),some (.int c),some (.int left),some (.ref p),v6',v7'] ∧
        Same H1 (upd H4 p (.lst (xs.map V.int++[.int (y % z)])))∧upd H4 p (.lst (xs.map V.int++[.int (y % z)])) p=some (.lst (xs'.map V.int))∧xs'.length=j+1∧(left,xs')=foldF ns i zs (j+1)∧(∀(j:Nat) (x z:Int),xs'[j]?=some x→zs[j]?=some z→0≤x∧x<z):=by
      intro y left' v6 v7 H4 s4 e4 hf
      refine ⟨left',xs++[y % z],v6,v7,rfl,same_at (s3.trans s4) n2,?_,by rw [List.length_append,hx];rfl,hf,fun m x z' e1 e2=>?_⟩
      · rw [upd_same,List.map_append];rfl
      · by_cases hm:m<xs.length
        · rw [List.getElem?_append_left hm] at e1
          exact hxs m x z' e1 e2
        · have hm2:m=j:=by
            have:=(List.getElem?_eq_some_iff.mp e1).1
            rw [List.length_append] at this
            simp at this
            walk_at "o"
          subst hm2
          rw [List.getElem?_append_right (by walk_at "o"),hx] at e1
          simp at e1
          rw [ez] at e2
          cases e2
          subst e1
          exact ⟨Int.emod_nonneg _ (by walk_at "o"),Int.emod_lt_of_pos _ zp⟩
    have small3:(xs.map V.int).length<sizeLine:=by rw [List.length_map];exact small1000 (by walk_at "o")
    walk_at "v"
    refine ite2 (fun cA=>?_) (fun cA=>?_)
    · have cA:c<10 ^ 18:=of_decide_eq_true cA
      walk_at "v"
      refine ⟨.inl ⟨rfl,_,SqL.of e3⟩,?_⟩
      walk_at "v"
      refine ⟨_,_,rfl,by walk_at "o",by walk_at "o",?_⟩
      walk_at "v"
      refine r_l hl3 ea ?_
      refine r_I (show (0:Int)<z from zp) ?_
      walk_at "v"
      refine r_app e3 small3 ?_
      exact fin _ _ _ _ _ (Same.refl _) e3 (by rw [hS',if_pos cA,Int.zero_add])
    · have cA:¬c<10 ^ 18:=of_decide_eq_false (Bool.eq_false_iff.mpr cA)
      walk_at "v"
      refine ite2 (fun cB=>?_) (fun cB=>?_)
      · walk_at "v"
        refine ⟨.inl ⟨rfl,_,SqL.of e3⟩,?_⟩
        walk_at "v"
        refine r_l hl3 ea ?_
        refine r_I (show (0:Int)<z from zp) ?_
        walk_at "v"
        refine r_app e3 small3 ?_
        walk_at "v"
        refine r_l (by rw [upd_ne (ne_of_none (s1 _ _ hl) n2)];exact hl3) ea ?_
        refine r_I (show CDivB _ _ from ⟨by walk_at "o",Sz.log (m:=60) (Sz.of_lt (k:=2 ^ 60) (by walk_at "o") (Nat.le_refl _)) (by decide) (by decide)⟩) ?_
        exact fin left _ _ _ _ (Same.refl _) e3 (by rw [hS',if_neg cA,if_pos (of_decide_eq_true cB)])
      · walk_at "v"
        have q0:0≤(i+1+(0+(j:Int))) % 63:=Int.emod_nonneg _ (by decide)
        have q1:(i+1+(0+(j:Int))) % 63<63:=Int.emod_lt_of_pos _ (by decide)
        refine ⟨a,ns,_,rfl,hS3,q0,by walk_at "o",fun H4 s4=>?_⟩
        walk_at "v"
        refine ⟨.inl ⟨rfl,_,SqL.of (s4 _ _ e3)⟩,?_⟩
        walk_at "v"
        refine ⟨_,_,rfl,by walk_at "o",by walk_at "o",?_⟩
        walk_at "v"
        refine r_l (s4 _ _ hl3) ea ?_
        refine r_I (show (0:Int)<z from zp) ?_
        walk_at "v"
        refine r_app (s4 _ _ e3) small3 ?_
        exact fin _ _ _ _ _ s4 (s4 _ _ e3) (by rw [hS',if_neg cA,if_neg (of_decide_eq_false (Bool.eq_false_iff.mpr cB)),Int.zero_add])
  · rintro σ H3 ⟨left,xs,v6,v7,rfl,s3,e3,hx,hq,hxs⟩
    walk_at "v"
    exact k p xs H3 (s1.trans s3) (s1.free n2) e3 (by simpa using hx) hxs (by rw [List.length_map,Int.toNat_natCast] at hq;exact congrArg Prod.snd hq)
end

open PySem.NumText in
theorem val_app:∀(a b:List Nat),digitsVal (a++b)=digitsVal a*10 ^ b.length+digitsVal b:=by
  intro a b
  have go:∀(b:List Nat) (x:Nat),b.foldl (fun acc c=>acc*10+(c-48)) x=x*10 ^ b.length+b.foldl (fun acc c=>acc*10+(c-48)) 0:=by
    intro b
    induction b with
    | nil=>intro x;simp
    | cons c b ih=>
      intro x
      rw [List.foldl_cons,List.foldl_cons,ih (x*10+(c-48)),ih (0*10+(c-48)),List.length_cons,Nat.pow_succ]
      simp only [Nat.zero_mul,Nat.zero_add,Nat.add_mul]
      rw [Nat.mul_assoc,Nat.mul_comm 10,Nat.add_assoc]
  unfold digitsVal
  rw [List.foldl_append,go]
open PySem.NumText in
theorem val_lt:∀(ds:List Nat),AllDigits ds→digitsVal ds<10 ^ ds.length:=by
  intro ds
  induction ds with
  | nil=>intro _;decide
  | cons c ds ih=>
    intro h
    have h1:=ih fun d hd=>h d (List.mem_cons_of_mem _ hd)
    have h2:=h c (by simp)
    have e:digitsVal (c::ds)=digitsVal [c]*10 ^ ds.length+digitsVal ds:=val_app [c] ds
    have e1:digitsVal [c]=c-48:=by show 0*10+(c-48)=c-48;omega
    rw [e,e1,List.length_cons,Nat.pow_succ]
    have h3:(c-48)*10 ^ ds.length≤9*10 ^ ds.length:=Nat.mul_le_mul_right _ (by omega)
    omega
open PySem.NumText in
theorem val_zeros (k:Nat) (ds:List Nat):digitsVal (List.replicate k 48++ds)=digitsVal ds:=by
  induction k with
  | zero=>rfl
  | succ k ih=>rw [List.replicate_succ,List.cons_append,digitsVal_zero,ih]
noncomputable def tx (l:List Nat):Str:=⟨l.toArray⟩
theorem tx_cps (l:List Nat):(tx l).cps.toList=l:=rfl
theorem tx_of (z:Str):z=tx z.cps.toList:=by cases z;rfl
theorem tx_inj {a b:List Nat} (h:tx a=tx b):a=b:=by
  have:=congrArg (fun z=>z.cps.toList) h
  exact this
theorem tx_len (l:List Nat):(tx l).length=l.length:=by simp [tx,Str.length]
theorem tx_app (a b:List Nat):tx a++tx b=tx (a++b):=by
  show Str.append (tx a) (tx b)=tx (a++b)
  unfold Str.append tx
  simp
theorem tx_str (s:String):Str.ofString s=tx (s.toList.map Char.toNat):=by rw [Str.ofString_eq_toList];rfl
noncomputable def dg (m:Nat):List Nat:=(Nat.toDigits 10 m).map Char.toNat
noncomputable def ww (n:Int):List Nat:=if n<0 then 45::dg n.natAbs else dg n.natAbs
open PySem.NumText in
theorem dg_all (m:Nat):AllDigits (dg m):=by
  intro c hc
  obtain ⟨ch,hch,e⟩:=List.mem_map.mp hc
  rw [← e]
  exact PyProof.Rows.digit_range (Nat.isDigit_of_mem_toDigits (by decide) (by decide) hch)
theorem dg_ne (m:Nat):dg m≠[]:=by
  intro e
  have h:=PySem.toDigits_len_ge 10 m
  rw [List.map_eq_nil_iff.mp e] at h
  exact absurd h (by decide)
open PySem.NumText in
theorem dg_val (m:Nat):digitsVal (dg m)=m:=PySem.W.KIN.val_back m
open PySem.NumText in
theorem val_dg {cs:List Nat} (h:AllDigits cs) (h1:cs.length=1∨∃c r,cs=c::r∧49≤c):dg (digitsVal cs)=cs:=by
  have hne:cs≠[]:=by
    rcases h1 with h1 | ⟨c,r,e,_⟩
    · intro e;rw [e] at h1;cases h1
    · rw [e];simp
  obtain ⟨n,hn⟩:∃n,cs.length=n+1:=⟨cs.length-1,by have:=List.length_pos_iff.mpr hne;omega⟩
  have e:=toDigits_digitsVal n cs hn h (by
    rcases h1 with h1 | h1
    · left;omega
    · exact .inr h1)
  unfold dg
  rw [e,List.map_map]
  have:∀c∈cs,(Char.toNat ∘ Char.ofNat) c=c:=by
    intro c hc
    have:=h c hc
    have all:∀k,k<58→(Char.ofNat k).toNat=k:=by decide
    exact all c (by omega)
  rw [List.map_congr_left this,List.map_id']
theorem dg_zero:dg 0=[48]:=by decide
open PySem.NumText in
theorem dg_head {m:Nat} (h:m≠0):∃c r,dg m=c::r∧49≤c:=by
  cases e:dg m with
  | nil=>exact absurd e (dg_ne m)
  | cons c r=>
    have hc:=dg_all m c (by rw [e];simp)
    by_cases z:c=48
    · exfalso
      subst z
      -- a leading nought: the same number without it
      have hv:digitsVal r=m:=by rw [← dg_val m,e];rfl
      have all:AllDigits r:=fun d hd=>dg_all m d (by rw [e];exact List.mem_cons_of_mem _ hd)
      have t:=toDigits_all (48::r) (by rw [← e];exact dg_all m)
      have e2:digitsVal (48::r)=m:=by rw [← e];exact dg_val m
      rw [e2] at t
      have l1:(dg m).length=(Nat.toDigits 10 m).length:=by unfold dg;rw [List.length_map]
      rw [t] at l1
      rw [e] at l1
      cases f:List.dropWhile (fun x=>x==48) (48::r) with
      | nil=>
        rw [f] at t
        have t:Nat.toDigits 10 m=['0']:=t
        have:dg m=[48]:=by unfold dg;rw [t];rfl
        have:m=0:=by rw [← dg_val m,this];rfl
        exact h this
      | cons x y=>
        rw [f] at l1
        have l1:(48::r).length=(List.map Char.ofNat (x::y)).length:=l1
        have le:(List.dropWhile (fun x=>x==48) r).length≤r.length:=(List.dropWhile_sublist _).length_le
        rw [List.dropWhile_cons] at f
        have f:List.dropWhile (fun x=>x==48) r=x::y:=f
        rw [f] at le
        rw [List.length_map] at l1
        simp only [List.length_cons] at l1 le
        omega
    · exact ⟨c,r,rfl,by omega⟩
open PySem.NumText in
theorem dg_len {m k:Nat} (hk:0<k) (h:m<10 ^ k):(dg m).length≤k:=by
  by_cases z:m=0
  · rw [z,dg_zero];exact hk
  · obtain ⟨c,r,e,hc⟩:=dg_head z
    have hv:=dg_val m
    rw [e] at hv ⊢
    have:digitsVal (c::r)=digitsVal [c]*10 ^ r.length+digitsVal r:=val_app [c] r
    have h1:1≤digitsVal [c]:=by show 1≤0*10+(c-48);omega
    have h2:10 ^ r.length≤m:=by
      rw [← hv,this]
      exact Nat.le_trans (Nat.le_mul_of_pos_left _ h1) (Nat.le_add_right _ _)
    have h3:=(Nat.pow_lt_pow_iff_right (a:=10) (by decide)).mp (Nat.lt_of_le_of_lt h2 h)
    exact h3
theorem str_int (n:Int):Str.ofString (toString n)=tx (ww n):=by
  rw [tx_str]
  congr 1
  unfold ww dg
  cases n with
  | ofNat m=>
    rw [if_neg (show ¬Int.ofNat m<0 from Int.not_lt.mpr (Int.natCast_nonneg m))]
    show (Nat.repr m).toList.map Char.toNat=_
    rw [Nat.toList_repr]
    rfl
  | negSucc m=>
    rw [if_pos (Int.negSucc_lt_zero m)]
    show ("-"++Nat.repr (m+1)).toList.map Char.toNat=_
    rw [String.toList_append,List.map_append,Nat.toList_repr]
    rfl
noncomputable def isd (c:Nat):Bool:=decide (48≤c)&&decide (c≤57)
noncomputable def bare (l:List Nat):List Nat:=if l.head?=some 45 then l.tail else l
noncomputable def okw (l:List Nat) (fig:Nat):Bool:=!(bare l).isEmpty&&(decide ((bare l).length≤fig)&&((bare l).all isd&&(decide (l=[48])||!decide ((bare l).head?=some 48))))
open PySem.NumText in
noncomputable def wd (l:List Nat) (fig:Nat):Option Int:=if okw l fig=true then some (if l.head?=some 45 then -(digitsVal (bare l):Int) else (digitsVal (bare l):Int)) else none
theorem okw_parts {l:List Nat} {fig:Nat}:okw l fig=true↔bare l≠[]∧(bare l).length≤fig∧PySem.NumText.AllDigits (bare l)∧(l=[48]∨(bare l).head?≠some 48):=by
  unfold okw
  rw [Bool.and_eq_true,Bool.and_eq_true,Bool.and_eq_true,Bool.or_eq_true]
  simp only [Bool.not_eq_true',List.isEmpty_eq_false_iff,decide_eq_true_eq,List.all_eq_true,decide_eq_false_iff_not]
  constructor
  · rintro ⟨a,b,c,d⟩
    exact ⟨a,b,fun x hx=>by have:=c x hx;unfold isd at this;simpa using this,d⟩
  · rintro ⟨a,b,c,d⟩
    exact ⟨a,b,fun x hx=>by have:=c x hx;unfold isd;simpa using this,d⟩
theorem wd_int {l:List Nat} {fig:Nat} {n:Int} (h:wd l fig=some n) (hf:fig≤4000):PySem.intText? (tx l)=some n:=by
  unfold wd at h
  by_cases ok:okw l fig=true
  · rw [if_pos ok] at h
    obtain ⟨h1,h2,h3,h4⟩:=okw_parts.mp ok
    have h:=Option.some.inj h
    by_cases hm:l.head?=some 45
    · rw [if_pos hm] at h
      have hb:bare l=l.tail:=by unfold bare;rw [if_pos hm]
      have hl:l=45::l.tail:=by cases l with
        | nil=>cases hm
        | cons c r=>cases hm;rfl
      rw [← h,hb]
      refine PySem.intText_neg (x:=tx l) hl (hb▸h3) (hb▸h1) ?_
      rw [tx_len,hl,List.length_cons]
      rw [hb] at h2
      omega
    · rw [if_neg hm] at h
      have hb:bare l=l:=by unfold bare;rw [if_neg hm]
      rw [← h,hb]
      rw [hb] at h1 h2 h3
      exact PySem.intText_digits (x:=tx l) h3 h1 (by rw [tx_len];omega)
  · rw [if_neg ok] at h;cases h
theorem wd_lt {l:List Nat} {fig:Nat} {n:Int} (h:wd l fig=some n):n.natAbs<10 ^ fig:=by
  unfold wd at h
  by_cases ok:okw l fig=true
  · rw [if_pos ok] at h
    obtain ⟨h1,h2,h3,h4⟩:=okw_parts.mp ok
    have h:=Option.some.inj h
    have hv:=val_lt _ h3
    have hp:10 ^ (bare l).length≤10 ^ fig:=Nat.pow_le_pow_right (by decide) h2
    have:n.natAbs=PySem.NumText.digitsVal (bare l):=by
      split at h <;> omega
    omega
  · rw [if_neg ok] at h;cases h
theorem dg_split {m k:Nat} (hk:0<k) (h:10 ^ k≤m):dg m=dg (m/10 ^ k)++(List.replicate (k-(dg (m % 10 ^ k)).length) 48++dg (m % 10 ^ k)):=by
  have hp:0<10 ^ k:=Nat.pow_pos (by decide)
  have hr:m % 10 ^ k<10 ^ k:=Nat.mod_lt _ hp
  have hq:m/10 ^ k≠0:=by
    have:=Nat.div_pos h hp
    omega
  have hl:(dg (m % 10 ^ k)).length≤k:=dg_len hk hr
  obtain ⟨c,r,e,hc⟩:=dg_head hq
  have hall:PySem.NumText.AllDigits (dg (m/10 ^ k)++(List.replicate (k-(dg (m % 10 ^ k)).length) 48++dg (m % 10 ^ k))):=by
    intro d hd
    rcases List.mem_append.mp hd with z | z
    · exact dg_all _ d z
    · rcases List.mem_append.mp z with z | z
      · obtain rfl:=List.eq_of_mem_replicate z;omega
      · exact dg_all _ d z
  have hv:PySem.NumText.digitsVal (dg (m/10 ^ k)++(List.replicate (k-(dg (m % 10 ^ k)).length) 48++dg (m % 10 ^ k)))=m:=by
    rw [val_app,val_zeros,dg_val,dg_val,List.length_append,List.length_replicate,Nat.sub_add_cancel hl,Nat.mul_comm]
    exact Nat.div_add_mod m (10 ^ k)
  have:=val_dg hall (.inr ⟨c,r++(List.replicate (k-(dg (m % 10 ^ k)).length) 48++dg (m % 10 ^ k)),by rw [e];rfl,hc⟩)
  rw [hv] at this
  exact this
theorem at_get {l:List Nat} {c i:Nat} (h:StrLaws.At (tx l) (tx [c]) (tx l).length i):l[i]?=some c:=by
  obtain ⟨h1,h2⟩:=h
  have e:=PyProof.Rows.strSub_of_subAt h2
  have e2:=congrArg (fun z=>z.cps.toList) e
  simp only [StrLaws.strSub_toList] at e2
  have e3:(l.drop i).take (i+1-i)=[c]:=e2
  rw [show i+1-i=1 by omega] at e3
  cases f:l.drop i with
  | nil=>rw [f] at e3;cases e3
  | cons a r=>
    rw [f] at e3
    have:a=c:=by simpa using e3
    subst this
    rw [← List.head?_drop,f]
    rfl
theorem get_at {l:List Nat} {c i:Nat} (h:l[i]?=some c):StrLaws.At (tx l) (tx [c]) (tx l).length i:=by
  have hi:=(List.getElem?_eq_some_iff.mp h).1
  refine ⟨by rw [tx_len,tx_len];exact hi,?_⟩
  show ((tx l).cps.extract i (i+1)==(tx [c]).cps)=true
  rw [beq_iff_eq]
  apply Array.toList_inj.mp
  rw [Array.toList_extract]
  show (List.extract l i (i+1))=[c]
  rw [List.extract_eq_take_drop,show i+1-i=1 by omega,List.drop_eq_getElem_cons hi,(List.getElem?_eq_some_iff.mp h).2]
  rfl
theorem sl_from (l:List Nat) (n:Nat):Txt.slice (tx l) (some (n:Int)) none=tx (l.drop n):=by
  by_cases h:n≤l.length
  · rw [PyProof.Rows.slice_from_eq (b:=(l.length:Int)) (by omega) (by rw [tx_len];omega) (by rw [tx_len])]
    show tx ((l.drop (n:Int).toNat).take ((l.length:Int)-n).toNat)=_
    rw [Int.toNat_natCast,List.take_of_length_le (by rw [List.length_drop];omega)]
  · rw [PyProof.Rows.slice_beyond (by rw [tx_len];omega),List.drop_eq_nil_of_le (by omega)]
    rfl
theorem sl_to (l:List Nat) (n:Nat):Txt.slice (tx l) none (some (n:Int))=tx (l.take n):=by
  have base:∀n:Nat,n≤l.length→Txt.slice (tx l) none (some (n:Int))=tx (l.take n):=fun n h=>by
    have e:=eq_of_beq (PyProof.Rows.slice_closes_to (x:=tx l) (j:=(n:Int)) ⟨by omega,by show (n:Int)≤(l.length:Int);omega⟩)
    rw [e]
    show tx ((l.drop 0).take ((n:Int)-0).toNat)=_
    rw [Int.sub_zero,Int.toNat_natCast]
    rfl
  by_cases h:n≤l.length
  · exact base n h
  · have e:Txt.slice (tx l) none (some (n:Int))=Txt.slice (tx l) none (some (l.length:Int)):=by
      unfold Txt.slice
      have:Builtin.Str.strSliceIndices none (some (n:Int)) 1 (tx l).length=Builtin.Str.strSliceIndices none (some (l.length:Int)) 1 (tx l).length:=by
        unfold Builtin.Str.strSliceIndices
        dsimp only
        rw [tx_len]
        simp only [show (1:Int)>0 by decide,if_true]
        congr 1
        split <;> split <;> omega
      rw [this]
    rw [e,base _ (Nat.le_refl _),List.take_of_length_le (by omega),List.take_of_length_le (by omega)]
theorem starts_tx (l:List Nat) (c:Nat):Txt.startswith (tx l) (tx [c])=decide (l.head?=some c):=by
  unfold Txt.startswith
  by_cases h:l.head?=some c
  · have:=get_at (l:=l) (c:=c) (i:=0) (by rw [← h,List.head?_eq_getElem?])
    rw [decide_eq_true h,this.2,decide_eq_true this.1]
    rfl
  · rw [decide_eq_false h]
    by_cases q:0+(tx [c]).length≤(tx l).length
    · rw [decide_eq_true q,Bool.true_and]
      refine Bool.eq_false_iff.mpr fun z=>h ?_
      have:=at_get (l:=l) (c:=c) (i:=0) ⟨q,z⟩
      rw [← this,List.head?_eq_getElem?]
    · rw [decide_eq_false q,Bool.false_and]
theorem zfill_tx {d:List Nat} (h:PySem.NumText.AllDigits d) (k:Nat):Txt.zfill (tx d) (k:Int)=tx (List.replicate (k-d.length) 48++d):=by
  unfold Txt.zfill
  by_cases q:(k:Int)≤((tx d).length:Int)
  · rw [if_pos q]
    rw [tx_len] at q
    rw [show k-d.length=0 by omega]
    rfl
  · rw [if_neg q]
    rw [tx_len] at q ⊢
    unfold zfilled
    have p:Builtin.Str.padded (tx d) ((k:Int).toNat-d.length) 0 48=tx (List.replicate (k-d.length) 48++d):=by
      unfold Builtin.Str.padded
      rw [Int.toNat_natCast]
      simp [tx]
    cases e:(tx d).cps[0]? with
    | none=>exact p
    | some c=>
      have hm:c∈d:=by
        have:d[0]?=some c:=by rw [← e];simp [tx]
        exact List.mem_of_getElem? this
      have:=h c hm
      split
      · next q=>have q:=Option.some.inj q;omega
      · next q=>have q:=Option.some.inj q;omega
      · exact p
theorem join_tx:∀ls:List (List Nat),Str.join (tx []) (ls.map tx)=tx ls.flatten
  | []=>rfl
  | [a]=>by simp [Str.join]
  | a::b::r=>by
    have e:=join_tx (b::r)
    show tx a++tx []++Str.join (tx []) ((b::r).map tx)=_
    rw [e,tx_app,tx_app,List.append_nil]
    rfl
theorem glue_tx (ls:List (List Nat)):glue (tx []) (ls.map tx)=tx ls.flatten:=by
  have e:=join_tx ls
  rw [← StrLaws.glued_eq_join] at e
  cases ls with
  | nil=>exact e
  | cons a r=>
    cases r with
    | nil=>simp [glue]
    | cons b r=>exact e
noncomputable def spFigures:Sp:=fun vs H Q _=>∃n:Int,vs=[.int n]∧0≤n∧Sz 8000 n∧∀H',Same H H'→Q (.str (tx (dg n.natAbs))) H'
noncomputable def spWhole:Sp:=fun vs H Q _=>∃n:Int,vs=[.int n]∧Sz 8000 n∧∀H',Same H H'→Q (.str (tx (ww n))) H'
noncomputable def spIsWhole:Sp:=fun vs H Q _=>∃(l:List Nat) (fig:Nat),vs=[.str (tx l),.int (fig:Int)]∧l.length≤100000∧∀H',Same H H'→Q (.bl (okw l fig)) H'
noncomputable def spReadX (C:Addr):Sp:=fun vs H Q E=>∃(l:List Nat) (fig:Nat),vs=[.str (tx l),.int (fig:Int)]∧l.length≤100000∧fig≤2000∧(wd l fig=none→∀H',Same H H'→E (.ref C) none H')∧∀n,wd l fig=some n→∀H',Same H H'→Q (.int n) H'
noncomputable def spReadG:Sp:=fun vs H Q _=>∃(l:List Nat) (fig:Nat) (n:Int),vs=[.str (tx l),.int (fig:Int)]∧l.length≤100000∧fig≤2000∧wd l fig=some n∧∀H',Same H H'→Q (.int n) H'
theorem sizeBig {n:Nat} (h:n≤1000000):n≤sizeLine:=Nat.le_trans h (by decide)
theorem ten64:((10:Int) ^ (64:Int).toNat)=((10 ^ 64:Nat):Int):=by decide +kernel
theorem big_log {i:Int} (h:i.natAbs<10 ^ 100):i.natAbs.log2<1920:=by
  by_cases z:i.natAbs=0
  · rw [z];decide
  · exact (Nat.log2_lt z).mpr (Nat.lt_of_lt_of_le h (by decide +kernel))
theorem dec_tx (a b:List Nat):decide (V.str (tx a)=V.str (tx b))=decide (a=b):=decide_eq_decide.mpr ⟨fun z=>tx_inj (V.str.inj z),fun z=>by rw [z]⟩
theorem r_eqS {a b:List Nat} {H:Hp} {Q:VK} (q:Q (.bl (decide (a=b))) H):rEq (.str (tx a)) (.str (tx b)) H Q:=⟨rfl,by rw [dec_tx];exact q⟩
theorem r_neS {a b:List Nat} {H:Hp} {Q:VK} (q:Q (.bl (!decide (a=b))) H):rNe (.str (tx a)) (.str (tx b)) H Q:=⟨rfl,by rw [dec_tx];exact q⟩
theorem isd_mem (c:Nat):decide (c∈(Str.ofString "0123456789").cps.toList)=isd c:=by
  have e:(Str.ofString "0123456789").cps.toList=[48,49,50,51,52,53,54,55,56,57]:=by decide
  rw [e]
  unfold isd
  by_cases h:48≤c∧c≤57
  · rw [decide_eq_true h.1,decide_eq_true h.2]
    refine decide_eq_true ?_
    have:c=48∨c=49∨c=50∨c=51∨c=52∨c=53∨c=54∨c=55∨c=56∨c=57:=by omega
    simpa using this
  · rw [decide_eq_false (fun z=>h (by simp at z;omega))]
    refine (Bool.eq_false_iff.mpr fun z=>h ?_).symm
    simpa using z
theorem c_dash:Str.ofString "-"=tx [45]:=by decide
theorem c_zero:Str.ofString "0"=tx [48]:=by decide
theorem c_none:Str.ofString ""=tx []:=by decide
theorem dg_len8 {n:Int} (h:Sz 8000 n):(dg n.natAbs).length≤2409:=dg_len (by decide) (Nat.lt_of_lt_of_le h (by decide +kernel))
noncomputable def sv (zs:List (List Nat)):List V:=zs.map fun z=>V.str (tx z)
theorem sv_strs (zs:List (List Nat)):sv zs=(zs.map tx).map V.str:=by unfold sv;rw [List.map_map];rfl
theorem while_of {c:TT} {tb:TS} {D:Ends} {σ:St} {H:Hp} (Pv:St→Hp→Prop) (μ:St→Hp→Nat) (h0:Pv σ H)
    (hs:∀σ H,Pv σ H→∀R:Bool→Hp→Prop,(∀H1,(∀M:St→Hp→Prop,(∀σ' H',Pv σ' H'→μ σ' H'<μ σ H→M σ' H')→tb { D with nx:=M,ct:=M,bk:=D.nx } σ H1)→R true H1)→(∀H1,D.nx σ H1→R false H1)→c σ H R):tWhile c tb D σ H:=by
  refine ⟨fun m σ H=>m=μ σ H∧Pv σ H,⟨_,rfl,h0⟩,?_⟩
  rintro m σ H ⟨rfl,p⟩
  refine hs σ H p _ (fun H1 q=>?_) (fun H1 q=>?_)
  · rw [if_pos rfl]
    exact ⟨fun σ' H'=>Pv σ' H'∧μ σ' H'<μ σ H,fun σ' H' ⟨p',l⟩=>⟨_,l,rfl,p'⟩,q _ fun _ _ a b=>⟨a,b⟩⟩
  · rw [if_neg Bool.false_ne_true]
    exact q
theorem ww_nat (m:Nat):ww (m:Int)=dg m:=by
  unfold ww
  rw [if_neg (by omega),Int.natAbs_natCast]
theorem join_len {zs:List (List Nat)} (f:List Str) (h:f=zs.map tx):∀a,f.foldl (fun n z=>n+z.length+(tx []).length) a=a+zs.flatten.length:=by
  subst h
  induction zs with
  | nil=>intro a;simp
  | cons z zs ih=>
    intro a
    rw [List.map_cons,List.foldl_cons,ih,List.flatten_cons,List.length_append,tx_len,tx_len]
    simp only [List.length_nil]
    omega
section
variable {P:Program} {w:World} {K:PySem.W.Frag} {mg:Str→Option Value} {base:Heap} {f c_NoWord:Addr} {fd:FuncData} {d18:Value}
theorem sc_figures_of:FnScope ["number","share","shares","left"] ["number"] (defScope s_figures_of):=⟨rfl,rfl,rfl,by decide +kernel,rfl,by decide +kernel,by decide +kernel⟩
theorem ok_figures_of (F:Fun K "figures_of" "figures_of" s_figures_of f fd) (T:Txt mg):FnOk P w K mg base CX0 1 f fd ["number"] spFigures:=by
  refine F.ok sc_figures_of (fun vs H Q E h=>?_) (fun cdv A outer s H vs Q E hr h=>?_)
  · obtain ⟨n,rfl,_⟩:=h
    rfl
  obtain ⟨n,rfl,h0,hz,k⟩:=h
  have hd:=dg_len8 hz
  refine Jd.go ⟨_,(J.e (J.j (i:=1) sc_figures_of.nd rfl (Or.inl rfl) (J.g op_pow J.c J.c) (hs:=sw_B))
      (J.e (J.j (i:=2) sc_figures_of.nd rfl (Or.inl rfl) (J.t J.d) (hs:=sw_L))
      (J.e (J.j (i:=3) sc_figures_of.nd rfl (Or.inl rfl) (J.a 0) (hs:=sw_N))
      (J.e (Jd.ps_while PassesOwn.never (J.i op_ge (J.a 3) (J.a 1) (nomark _))
      (J.e (J.s (J.w K (J.a 2) (Jd.strM K PySem.F.slot_str_zfill PySem.F.type_str_zfill mt_zfill (J.aa strC rfl T.str_ PyProof.Rows.boot_str (J.b (J.g op_mod (J.a 3) (J.a 1)) J.d st_B)) J.c)) (hs:=sw_K))
      (J.f (J.j (i:=3) sc_figures_of.nd rfl (Or.inl rfl) (J.g op_fdivB (J.a 3) (J.a 1)) (hs:=sw_B)))))
      (J.e (J.s (J.w K (J.a 2) (J.aa strC rfl T.str_ PyProof.Rows.boot_str (J.b (J.a 3) J.d st_N))) (hs:=sw_K))
      (J.e (J.s (Jd.rvsC K (J.a 2)) (hs:=sw_K))
      (J.f (J.l (Jd.strM K PySem.F.slot_str_join PySem.F.type_str_join mt_join J.h (J.a 2)))))))))),?_⟩
  walk_at "v"
  rw [ten64]
  refine r_new (mk:=.lst) (by simp) fun S H1 s1 n1 e1=>?_
  walk_at "v"
  refine while_of (fun σ H2=>∃(m:Nat) (zs:List (List Nat)),σ=[some (.int n),some (.int ((10 ^ 64:Nat):Int)),some (.ref S),some (.int (m:Int))]∧Same H H2∧H2 S=some (.lst (sv zs))∧dg n.natAbs=dg m++zs.reverse.flatten∧zs.reverse.flatten.length=64*zs.length∧Sz 8000 (m:Int)) (fun σ _=>third σ)
    ⟨n.natAbs,[],by rw [show ((n.natAbs:Nat):Int)=n by omega];rfl,s1,e1,by simp,rfl,by rw [show ((n.natAbs:Nat):Int)=n by omega];exact hz⟩ ?_
  rintro σ H2 ⟨m,zs,rfl,s2,e2,hm,hzl,hzm⟩ R hT hF
  have hlz:zs.length≤100:=by
    have:=congrArg List.length hm
    rw [List.length_append,hzl] at this
    omega
  walk_at "v"
  by_cases hge:10 ^ 64≤m
  · rw [decide_eq_true (show ((10 ^ 64:Nat):Int)≤(m:Int) by exact_mod_cast hge)]
    refine hT _ fun M hM=>?_
    have pos:(0:Int)<((10 ^ 64:Nat):Int):=by decide
    have hr:m % 10 ^ 64<10 ^ 64:=Nat.mod_lt _ (Nat.pow_pos (by decide))
    walk_at "v"
    refine ⟨.inl ⟨rfl,_,SqL.of e2⟩,?_⟩
    walk_at "v"
    rw [show (m:Int) % ((10 ^ 64:Nat):Int)=((m % 10 ^ 64:Nat):Int) from (Int.natCast_emod m (10 ^ 64)).symm]
    refine ⟨_,rfl,big_log (by rw [Int.natAbs_natCast];exact Nat.lt_of_lt_of_le hr (by decide +kernel)),?_⟩
    rw [str_int,ww_nat]
    refine ⟨rfl,?_⟩
    walk_at "v"
    refine ⟨_,64,rfl,rfl,by decide,?_⟩
    rw [show (64:Int)=((64:Nat):Int) from rfl,zfill_tx (dg_all _)]
    walk_at "v"
    refine r_app e2 (by unfold sv;rw [List.length_map];exact small1000 (by omega)) ?_
    walk_at "v"
    refine r_I (show CDivB _ _ from ⟨by decide,by decide +kernel⟩) ?_
    have hdiv:(m:Int).fdiv ((10 ^ 64:Nat):Int)=((m/10 ^ 64:Nat):Int):=by
      rw [Int.fdiv_eq_ediv_of_nonneg _ (by omega)]
      exact (Int.natCast_ediv m (10 ^ 64)).symm
    rw [hdiv]
    have hl64:(List.replicate (64-(dg (m % 10 ^ 64)).length) 48++dg (m % 10 ^ 64)).length=64:=by
      have:=dg_len (k:=64) (by decide) hr
      rw [List.length_append,List.length_replicate]
      omega
    refine hM _ _ ⟨m/10 ^ 64,zs++[List.replicate (64-(dg (m % 10 ^ 64)).length) 48++dg (m % 10 ^ 64)],rfl,same_at s2 n1,by rw [upd_same];unfold sv;rw [List.map_append];rfl,?_,?_,?_⟩ ?_
    · rw [List.reverse_append,List.reverse_singleton,List.singleton_append,List.flatten_cons,← List.append_assoc,← dg_split (by decide) hge]
      exact hm
    · rw [List.reverse_append,List.reverse_singleton,List.singleton_append,List.flatten_cons,List.length_append,hl64,hzl,List.length_append,List.length_singleton]
      omega
    · exact Sz.of_le hzm (by rw [Int.natAbs_natCast,Int.natAbs_natCast];exact Nat.div_le_self _ _)
    · show (((m/10 ^ 64:Nat):Int)).toNat<((m:Nat):Int).toNat
      rw [Int.toNat_natCast,Int.toNat_natCast]
      exact Nat.div_lt_self (Nat.lt_of_lt_of_le (Nat.pow_pos (by decide)) hge) (by decide +kernel)
  · rw [decide_eq_false (show ¬((10 ^ 64:Nat):Int)≤(m:Int) by exact_mod_cast hge)]
    refine hF _ ?_
    walk_at "v"
    refine ⟨.inl ⟨rfl,_,SqL.of e2⟩,?_⟩
    walk_at "v"
    refine ⟨_,rfl,big_log (by rw [Int.natAbs_natCast];exact Nat.lt_of_lt_of_le (Nat.lt_of_not_le hge) (by decide +kernel)),?_⟩
    rw [str_int,ww_nat]
    walk_at "v"
    refine r_app e2 (by unfold sv;rw [List.length_map];exact small1000 (by omega)) ?_
    walk_at "v"
    refine ⟨.inl ⟨rfl,_,SqL.of upd_same⟩,?_⟩
    refine r_rvs upd_same ?_
    have e5:upd (upd H2 S (.lst (sv zs++[V.str (tx (dg m))]))) S (.lst (sv zs++[V.str (tx (dg m))]).reverse) S=some (.lst (((dg m::zs.reverse).map tx).map V.str)):=by
      rw [upd_same,← sv_strs]
      unfold sv
      rw [List.reverse_append,List.map_cons,List.map_reverse]
      rfl
    have s5:Same H (upd (upd H2 S (.lst (sv zs++[V.str (tx (dg m))]))) S (.lst (sv zs++[V.str (tx (dg m))]).reverse)):=same_at (same_at s2 n1) n1
    generalize upd (upd H2 S (.lst (sv zs++[V.str (tx (dg m))]))) S (.lst (sv zs++[V.str (tx (dg m))]).reverse)=H5 at e5 s5 ⊢
    have fl:(dg m::zs.reverse).flatten=dg n.natAbs:=hm.symm
    walk_at "v"
    refine ⟨rfl,?_⟩
    walk_at "v"
    rw [c_none]
    refine ⟨_,S,(dg m::zs.reverse).map tx,rfl,rfl,e5,by rw [join_len (zs:=dg m::zs.reverse) _ rfl,fl];exact sizeBig (by omega),by rw [glue_tx,fl,tx_len];exact sizeBig (by omega),?_⟩
    rw [glue_tx,fl]
    exact k H5 s5
theorem sc_whole_word:FnScope ["number"] ["number"] (defScope s_whole_word):=⟨rfl,rfl,rfl,by decide +kernel,rfl,by decide +kernel,by decide +kernel⟩
theorem ok_whole_word (F:Fun K "whole_word" "whole_word" s_whole_word f fd) (D_figures_of:Dn P w K mg base 1 "figures_of" ["number"] spFigures):FnOk P w K mg base CX0 2 f fd ["number"] spWhole:=by
  refine F.ok sc_whole_word (fun vs H Q E h=>?_) (fun cdv A outer s H vs Q E hr h=>?_)
  · obtain ⟨n,rfl,_⟩:=h
    rfl
  obtain ⟨n,rfl,hz,k⟩:=h
  unfold ww at k
  refine Jd.go ⟨_,(J.f (J.l (Jd.pe_ifExp (J.i op_lt (J.a 0) J.c (nomark _)) (J.g op_add_str J.h (J.m D_figures_of (hr.mono (by decide)) rfl (J.b (Jd.pe_un un_neg (J.a 0)) J.d st_U) (he:=st_U) (hpl:=any0))) (J.m D_figures_of (hr.mono (by decide)) rfl (J.b (J.a 0) J.d st_N) (he:=st_N) (hpl:=any0))))),?_⟩
  walk_at "v"
  refine ite2 (fun c=>?_) (fun c=>?_)
  · have c':n<0:=of_decide_eq_true c
    rw [if_pos c'] at k
    walk_at "v"
    refine ⟨-n,rfl,by omega,Sz.of_le hz (by omega),fun H1 s1=>?_⟩
    have hl:=dg_len8 (n:=-n) (Sz.of_le hz (by omega))
    refine ⟨_,_,rfl,rfl,by rw [c_dash,tx_len,tx_len];exact sizeBig (by simp only [List.length_cons,List.length_nil];omega),?_⟩
    rw [c_dash,tx_app,Int.natAbs_neg]
    exact k H1 s1
  · have c':¬n<0:=of_decide_eq_false (Bool.eq_false_iff.mpr c)
    rw [if_neg c'] at k
    walk_at "v"
    exact ⟨n,rfl,by omega,hz,k⟩
theorem sc_is_whole:FnScope ["word","figures","written"] ["word","figures"] (defScope s_is_whole):=⟨rfl,rfl,rfl,by decide +kernel,rfl,by decide +kernel,by decide +kernel⟩
theorem ok_is_whole (F:Fun K "is_whole" "is_whole" s_is_whole f fd) (T:Txt mg) (C_FIGURES:Cs mg "FIGURES" "0123456789"):FnOk P w K mg base CX0 1 f fd ["word","figures"] spIsWhole:=by
  refine F.ok sc_is_whole (fun vs H Q E h=>?_) (fun cdv A outer s H vs Q E hr h=>?_)
  · obtain ⟨l,fig,rfl,_⟩:=h
    rfl
  obtain ⟨l,fig,rfl,hl,k⟩:=h
  refine Jd.go (Jd.cut 1 (fun σ H'=>σ=[some (.str (tx l)),some (.int (fig:Int)),some (.str (tx (bare l)))]∧H'=H) ?_ fun u hu hR=>?_)
  · refine ⟨_,(J.e (J.n (J.x (Jd.pw_or (J.i op_eq (J.r len_strC rfl T.len_ PySem.boot_len (J.b (J.a 2) J.d st_N) (he:=st_N) (hpl:=any0)) J.c (nomark _)) (Jd.pw_or1 (J.i op_gt (J.r len_strC rfl T.len_ PySem.boot_len (J.b (J.a 2) J.d st_N) (he:=st_N) (hpl:=any0)) (J.a 1) (nomark _)))))
      (J.f (J.l Jd.pe_bl))
      J.p)
      (J.e (J.n (Jd.pt_not (J.ac (J.r (allC K rfl) rfl T.all_ PyProof.Rows.boot_all (J.b (J.af (O:=["sign"]) (N':=[]) (cap:=[]) rfl (Jd.pi_str (J.a 2)) (fun _ _ _ _ _=>(J.o (i:=0) (show List.Nodup [("sign":Str)] by decide +kernel) rfl (Or.inl rfl))) (fun _ _ _ _ _=>J.y) (fun _ _ _ _ _=>(Jd.pe_cmpR op_in_str (J.a 0) (Jd.pe_cs rfl C_FIGURES) rfl)) rfl trivial rfl (by decide +kernel) rfl (by decide +kernel)) J.d st_G) (he:=st_G) (hpl:=any0))))
      (J.f (J.l Jd.pe_bl))
      J.p)
      (J.f (J.l (Jd.pe_or (Jd.pe_cmpR op_eq (J.a 0) J.h (nomark _)) (Jd.pe_one (Jd.pe_cmpR op_ne (J.k ix_str (J.a 2) J.c (fun _ _=>rfl)) J.h (nomark _)))))))),?_⟩
    rintro σ H1 ⟨rfl,rfl⟩
    have hbl:(bare l).length≤100000:=by
      unfold bare
      split
      · rw [List.length_tail];omega
      · exact hl
    unfold okw at k
    walk_at "v"
    refine ⟨_,rfl,by rw [tx_len];exact sizeBig (by omega),?_⟩
    rw [tx_len]
    walk_at "v"
    by_cases h0:bare l=[]
    · rw [h0] at k ⊢
      refine iteT ?_
      walk_at "v"
      refine iteT ?_
      walk_at "v"
      exact k H1 (Same.refl _)
    · have hp:=List.length_pos_iff.mpr h0
      rw [decide_eq_false (show ¬((bare l).length:Int)=0 by omega)]
      rw [show (!(bare l).isEmpty)=true by cases e:bare l with | nil=>exact absurd e h0 | cons _ _=>rfl,Bool.true_and] at k
      refine iteF ?_
      walk_at "v"
      refine ⟨_,rfl,by rw [tx_len];exact sizeBig (by omega),?_⟩
      rw [tx_len]
      walk_at "v"
      by_cases h1:(bare l).length≤fig
      · rw [decide_eq_false (show ¬(fig:Int)<((bare l).length:Int) by omega)]
        rw [decide_eq_true h1,Bool.true_and] at k
        refine iteF ?_
        walk_at "v"
        refine r_iS ?_
        walk_at "v"
        refine ⟨_,rfl,?_⟩
        refine compB_of tells_str (fun _ _=>trivial) (by rw [List.length_map,tx_cps];omega) (fun i ys G=>ys=bls ((((bare l).take i)).map isd)) rfl ?_ ?_
        · rintro D i x ys H2 σ0 NN N0 h0' hD eD s2 hx hy rfl kY kN
          rw [List.getElem?_map,tx_cps] at hx
          obtain ⟨c,hc,rfl⟩:=Option.map_eq_some_iff.mp hx
          refine r_own1 h0' ?_
          walk_at "v"
          refine iteT ?_
          walk_at "v"
          refine ⟨_,_,rfl,rfl,?_⟩
          rw [StrLaws.found_one]
          refine kY _ H2 (Same.refl _) ?_
          have e:decide (c∈(Str.ofString "0123456789").cps.toList)=isd c:=isd_mem c
          rw [e,List.take_succ,hc,Option.toList_some,List.map_append]
          unfold bls
          rw [List.map_append]
          rfl
        · rintro D ys H2 nD eD s2 hy rfl
          rw [List.length_map,tx_cps,List.take_length] at eD
          walk_at "v"
          refine r_all eD ?_
          walk_at "v"
          rw [show ((bare l).map isd).all id=(bare l).all isd by rw [List.all_map];rfl]
          by_cases h2:(bare l).all isd=true
          · rw [h2] at k ⊢
            rw [Bool.true_and] at k
            refine iteF ?_
            walk_at "v"
            rw [c_zero]
            refine r_eqS ?_
            walk_at "v"
            by_cases h3:l=[48]
            · rw [decide_eq_true h3] at k ⊢
              rw [Bool.true_or] at k
              refine iteT ?_
              exact k H2 s2
            · rw [decide_eq_false h3] at k ⊢
              rw [Bool.false_or] at k
              refine iteF ?_
              walk_at "v"
              obtain ⟨c,r,e⟩:∃c r,bare l=c::r:=by
                cases e:bare l with
                | nil=>exact absurd e h0
                | cons c r=>exact ⟨c,r,rfl⟩
              refine ⟨_,0,c,rfl,rfl,by rw [tx_len];exact sizeBig (by omega),by rw [tx_cps,e];exact atI_nat (j:=0) rfl,?_⟩
              walk_at "v"
              refine r_neS (a:=[c]) ?_
              have:=k H2 s2
              rw [e] at this
              have q:decide ([c]=[48])=decide ((c::r).head?=some 48):=decide_eq_decide.mpr ⟨fun z=>by cases z;rfl,fun z=>by cases z;rfl⟩
              rw [q]
              exact this
          · have h2:=Bool.eq_false_iff.mpr h2
            rw [h2] at k ⊢
            refine iteT ?_
            walk_at "v"
            exact k H2 s2
      · rw [decide_eq_true (show (fig:Int)<((bare l).length:Int) by omega)]
        rw [decide_eq_false h1] at k
        refine iteT ?_
        walk_at "v"
        exact k H1 (Same.refl _)
  refine ⟨_,(J.e (J.j (i:=2) sc_is_whole.nd rfl (Or.inl rfl) (Jd.pe_ifExp (J.ac (Jd.strM K PySem.F.slot_str_startswith PySem.F.type_str_startswith mt_starts (J.a 0) J.h)) (J.v sl_str (J.a 0) (J.q J.c) J.z) (J.a 0)) (hs:=sw_I))
      hu),?_⟩
  walk_at "v"
  refine ⟨rfl,?_⟩
  walk_at "v"
  rw [c_dash]
  refine ⟨_,_,rfl,rfl,?_⟩
  rw [starts_tx]
  by_cases hm:l.head?=some 45
  · rw [decide_eq_true hm]
    refine ⟨_,rfl,iteT ?_⟩
    walk_at "vd"
    refine ⟨_,rfl,by rw [tx_len];exact sizeBig (by omega),?_⟩
    rw [show (1:Int)=((1:Nat):Int) from rfl,sl_from]
    refine hR _ _ ⟨?_,rfl⟩
    unfold bare
    rw [if_pos hm,List.drop_one]
    rfl
  · rw [decide_eq_false hm]
    refine ⟨_,rfl,iteF ?_⟩
    walk_at "v"
    refine hR _ _ ⟨?_,rfl⟩
    unfold bare
    rw [if_neg hm]
    rfl
theorem sc_read_whole:FnScope ["word","figures"] ["word","figures"] (defScope s_read_whole):=⟨rfl,rfl,rfl,by decide +kernel,rfl,by decide +kernel,by decide +kernel⟩
theorem okX_read_whole (F:FunD K "read_whole" "read_whole" s_read_whole f fd d18) (T:Txt mg) (X_NoWord:Xc K mg "NoWord" c_NoWord) (hok:PySem.W.nsOkIn K cStatics=true) (hdg:PySem.W.nsIn K cStatics "sys.int_max_str_digits"=some none) (D_is_whole:Dn P w K mg base 1 "is_whole" ["word","figures"] spIsWhole) :
    FnOk P w K mg base (CXe P w) 2 f fd ["word","figures"] (spReadX c_NoWord):=by
  refine FunD.okX F sc_read_whole (fun vs H Q E h=>?_) (fun cdv A outer s H vs Q E hr h=>?_)
  · obtain ⟨l,fig,rfl,_⟩:=h
    rfl
  obtain ⟨l,fig,rfl,hl,hf,k0,k⟩:=h
  refine Jd.go ⟨_,(J.e (J.n (Jd.pt_not (J.ac (J.m D_is_whole (hr.mono (by decide)) rfl (J.b (J.a 0) (J.b (J.a 1) J.d st_N) st_N) (he:=st_N) (hpl:=(anyc st_N any0)))))
      (J.f (Jd.ps_raise X_NoWord rfl (J.b J.h J.d st_C)))
      J.p)
      (J.f (J.l (J.aa (intC K) rfl T.int_ PyProof.Rows.boot_int (J.b (J.a 0) J.d st_N))))),?_⟩
  walk_at "v"
  refine ⟨l,fig,rfl,hl,fun H1 s1=>?_⟩
  walk_at "v"
  cases ok:okw l fig with
  | false=>
    refine iteT ?_
    walk_at "v"
    exact ⟨show 1≤sizeLine by decide,k0 (by unfold wd;rw [ok];rfl) H1 s1⟩
  | true=>
    obtain ⟨n,hn⟩:∃n,wd l fig=some n:=by unfold wd;rw [ok];exact ⟨_,rfl⟩
    refine iteF ?_
    walk_at "v"
    refine ⟨_,n,rfl,wd_int hn (by omega),by rw [tx_len];exact sizeBig (by omega),hok,hdg,?_⟩
    exact k n hn H1 s1
theorem ok_read_whole (F:FunD K "read_whole" "read_whole" s_read_whole f fd d18) (T:Txt mg) (hok:PySem.W.nsOkIn K cStatics=true) (hdg:PySem.W.nsIn K cStatics "sys.int_max_str_digits"=some none) (D_is_whole:Dn P w K mg base 1 "is_whole" ["word","figures"] spIsWhole) :
    FnOk P w K mg base CX0 2 f fd ["word","figures"] spReadG:=by
  refine FunD.ok F sc_read_whole (fun vs H Q E h=>?_) (fun cdv A outer s H vs Q E hr h=>?_)
  · obtain ⟨l,fig,n,rfl,_⟩:=h
    rfl
  obtain ⟨l,fig,n,rfl,hl,hf,hn,k⟩:=h
  refine Jd.go ⟨_,(J.e (J.n (Jd.pt_not (J.ac (J.m D_is_whole (hr.mono (by decide)) rfl (J.b (J.a 0) (J.b (J.a 1) J.d st_N) st_N) (he:=st_N) (hpl:=(anyc st_N any0)))))
      (J.f Jd.ps_never)
      J.p)
      (J.f (J.l (J.aa (intC K) rfl T.int_ PyProof.Rows.boot_int (J.b (J.a 0) J.d st_N))))),?_⟩
  walk_at "v"
  refine ⟨l,fig,rfl,hl,fun H1 s1=>?_⟩
  have ok:okw l fig=true:=by
    cases ok:okw l fig with
    | true=>rfl
    | false=>unfold wd at hn;rw [ok] at hn;cases hn
  rw [ok]
  walk_at "v"
  refine iteF ?_
  walk_at "v"
  refine ⟨_,n,rfl,wd_int hn (by omega),by rw [tx_len];exact sizeBig (by omega),hok,hdg,?_⟩
  exact k H1 s1
end

noncomputable def due (o:Option Int):V:=match o with | none=>.non | some n=>.int n
noncomputable def spDue:Sp:=fun vs H Q _=>∃(l:List Nat) (fig:Nat),vs=[.str (tx l),.int (fig:Int)]∧l.length≤100000∧fig≤2000∧∀H',Same H H'→Q (due (wd l fig)) H'
theorem take1 (l:List Nat):decide (l.take 1=[45])=decide (l.head?=some 45):=decide_eq_decide.mpr (by cases l <;> simp)
theorem wd_no {l:List Nat} {fig:Nat} (h:okw l fig=false):wd l fig=none:=by unfold wd;rw [h];rfl
theorem okw_no {l:List Nat} {fig:Nat} (h:¬(bare l≠[]∧(bare l).length≤fig∧PySem.NumText.AllDigits (bare l)∧(l=[48]∨(bare l).head?≠some 48))):wd l fig=none:=wd_no (Bool.eq_false_iff.mpr fun z=>h (okw_parts.mp z))
section
variable {P:Program} {w:World} {K:PySem.W.Frag} {mg:Str→Option Value} {base:Heap} {f:Addr} {fd:FuncData}
theorem sc_law_whole_due:FnScope ["_law_word_here","_law_figures","_law_plain","_law_sign"] ["_law_word_here","_law_figures"] (defScope s_law_whole_due):=⟨rfl,rfl,rfl,by decide +kernel,rfl,by decide +kernel,by decide +kernel⟩
theorem ok_law_whole_due (F:Fun K "_law_whole_due" "_law_whole_due" s_law_whole_due f fd) (T:Txt mg) (hok:PySem.W.nsOkIn K cStatics=true) (hdg:PySem.W.nsIn K cStatics "sys.int_max_str_digits"=some none):FnOk P w K mg base CX0 1 f fd ["_law_word_here","_law_figures"] spDue:=by
  refine F.ok sc_law_whole_due (fun vs H Q E h=>?_) (fun cdv A outer s H vs Q E hr h=>?_)
  · obtain ⟨l,fig,rfl,_⟩:=h
    rfl
  obtain ⟨l,fig,rfl,hl,hf,k⟩:=h
  refine Jd.go (Jd.cut 2 (fun σ H'=>σ=[some (.str (tx l)),some (.int (fig:Int)),some (.str (tx (bare l))),none]∧H'=H) ?_ fun u hu hR=>?_)
  · refine ⟨_,(J.e (J.n (J.x (Jd.pw_or (J.i op_eq (J.a 2) J.h (nomark _)) (Jd.pw_or1 (J.i op_gt (J.r len_strC rfl T.len_ PySem.boot_len (J.b (J.a 2) J.d st_N) (he:=st_N) (hpl:=any0)) (J.a 1) (nomark _)))))
      (J.f (J.l J.u))
      J.p)
      (J.e (J.ab PassesOwn.never rfl (Jd.pi_str (J.a 2)) (J.o (i:=3) sc_law_whole_due.nd rfl (Or.inl rfl))
      (J.f (J.n (J.i op_notin_str (J.a 3) J.h rfl)
      (J.f (J.l J.u))
      J.p)))
      (J.e (J.n (J.x (J.ad (J.i op_eq (J.k ix_str (J.a 2) J.c (fun _ _=>rfl)) J.h (nomark _)) (Jd.pw_and1 (J.i op_ne (J.a 0) J.h (nomark _)))))
      (J.f (J.l J.u))
      J.p)
      (J.f (J.l (J.aa (intC K) rfl T.int_ PyProof.Rows.boot_int (J.b (J.a 0) J.d st_N))))))),?_⟩
    rintro σ H1 ⟨rfl,rfl⟩
    have hbl:(bare l).length≤100000:=by
      unfold bare
      split
      · rw [List.length_tail];omega
      · exact hl
    have no:¬(bare l≠[]∧(bare l).length≤fig∧PySem.NumText.AllDigits (bare l)∧(l=[48]∨(bare l).head?≠some 48))→Q .non H1:=fun h=>by
      have:=k H1 (Same.refl _)
      rw [okw_no h] at this
      exact this
    walk_at "v"
    rw [c_none]
    refine r_eqS ?_
    walk_at "v"
    by_cases h0:bare l=[]
    · rw [decide_eq_true h0]
      refine iteT ?_
      walk_at "v"
      refine iteT ?_
      walk_at "v"
      exact no fun h=>h.1 h0
    · have hp:=List.length_pos_iff.mpr h0
      rw [decide_eq_false h0]
      refine iteF ?_
      walk_at "v"
      refine ⟨_,rfl,by rw [tx_len];exact sizeBig (by omega),?_⟩
      rw [tx_len]
      walk_at "v"
      by_cases h1:(bare l).length≤fig
      · rw [decide_eq_false (show ¬(fig:Int)<((bare l).length:Int) by omega)]
        refine iteF ?_
        walk_at "v"
        refine r_for (r_iS ?_)
        walk_at "v"
        refine ⟨_,rfl,for_str (fun i σ H3=>H3=H1∧(∀c∈(bare l).take i,48≤c∧c≤57)∧∃v:Option V,σ=[some (.str (tx l)),some (.int (fig:Int)),some (.str (tx (bare l))),v]) ⟨rfl,fun c hc=>absurd hc (by simp),none,rfl⟩ ?_ ?_⟩
        · rintro i c σ H3 hc ⟨rfl,hd,v,rfl⟩
          have hc':(bare l)[i]?=some c:=by rw [← Array.getElem?_toList] at hc;exact hc
          walk_at "v"
          refine ⟨_,_,rfl,rfl,?_⟩
          rw [StrLaws.found_one]
          have e:decide (c∈(Str.ofString "0123456789").cps.toList)=isd c:=isd_mem c
          rw [e]
          walk_at "v"
          cases hi:isd c with
          | true=>
            refine iteF ?_
            walk_at "v"
            refine ⟨rfl,fun x hx=>?_,_,rfl⟩
            rw [List.take_succ,hc',Option.toList_some] at hx
            rcases List.mem_append.mp hx with z | z
            · exact hd x z
            · obtain rfl:x=c:=by simpa using z
              unfold isd at hi
              simpa using hi
          | false=>
            refine iteT ?_
            walk_at "v"
            refine no fun h=>?_
            have:=h.2.2.1 c (List.mem_of_getElem? hc')
            unfold isd at hi
            rw [decide_eq_true this.1,decide_eq_true this.2] at hi
            cases hi
        · rintro σ H3 ⟨rfl,hd,v,rfl⟩
          have hall:PySem.NumText.AllDigits (bare l):=fun c hc=>hd c (by
            have:(tx (bare l)).cps.size=(bare l).length:=tx_len _
            rw [this,List.take_length]
            exact hc)
          obtain ⟨c,r,e⟩:∃c r,bare l=c::r:=by
            cases e:bare l with
            | nil=>exact absurd e h0
            | cons c r=>exact ⟨c,r,rfl⟩
          have gd:(l=[48]∨(bare l).head?≠some 48)→Q (due (wd l fig)) H3∧∃n,wd l fig=some n:=fun h=>⟨k H3 (Same.refl _),by
            unfold wd
            rw [if_pos (okw_parts.mpr ⟨h0,h1,hall,h⟩)]
            exact ⟨_,rfl⟩⟩
          walk_at "v"
          refine ⟨_,0,c,rfl,rfl,by rw [tx_len];exact sizeBig (by omega),by rw [tx_cps,e];exact atI_nat (j:=0) rfl,?_⟩
          walk_at "v"
          rw [c_zero]
          refine r_eqS (a:=[c]) ?_
          walk_at "v"
          by_cases hc:c=48
          · subst hc
            rw [decide_eq_true rfl]
            refine iteT ?_
            walk_at "v"
            refine r_neS ?_
            walk_at "v"
            by_cases h3:l=[48]
            · rw [decide_eq_true h3]
              refine iteF ?_
              walk_at "v"
              obtain ⟨q,n,hn⟩:=gd (.inl h3)
              refine ⟨_,n,rfl,wd_int hn (by omega),by rw [tx_len];exact sizeBig (by omega),hok,hdg,?_⟩
              rw [hn] at q
              exact q
            · rw [decide_eq_false h3]
              refine iteT ?_
              walk_at "v"
              refine no fun h=>?_
              rcases h.2.2.2 with z | z
              · exact h3 z
              · exact z (by rw [e];rfl)
          · rw [decide_eq_false (show ¬ [c]=[48] from fun z=>hc (by cases z;rfl))]
            refine iteF ?_
            walk_at "v"
            refine iteF ?_
            walk_at "v"
            obtain ⟨q,n,hn⟩:=gd (.inr (by rw [e];intro z;cases z;exact hc rfl))
            refine ⟨_,n,rfl,wd_int hn (by omega),by rw [tx_len];exact sizeBig (by omega),hok,hdg,?_⟩
            rw [hn] at q
            exact q
      · rw [decide_eq_true (show (fig:Int)<((bare l).length:Int) by omega)]
        refine iteT ?_
        walk_at "v"
        exact no fun h=>h1 h.2.1
  refine ⟨_,(J.e (J.j (i:=2) sc_law_whole_due.nd rfl (Or.inl rfl) (J.a 0) (hs:=sw_N))
      (J.e (J.n (J.i op_eq (J.v sl_str (J.a 0) J.z (J.q J.c)) J.h (nomark _))
      (J.f (J.j (i:=2) sc_law_whole_due.nd rfl (Or.inl rfl) (J.v sl_str (J.a 0) (J.q J.c) J.z) (hs:=sw_S)))
      J.p)
      hu)),?_⟩
  walk_at "vd"
  refine ⟨_,rfl,by rw [tx_len];exact sizeBig (by omega),?_⟩
  rw [show (1:Int)=((1:Nat):Int) from rfl,sl_to]
  walk_at "v"
  rw [c_dash]
  refine r_eqS ?_
  rw [take1]
  walk_at "v"
  by_cases hm:l.head?=some 45
  · rw [decide_eq_true hm]
    refine iteT ?_
    walk_at "vd"
    refine ⟨_,rfl,by rw [tx_len];exact sizeBig (by omega),?_⟩
    rw [sl_from]
    refine hR _ _ ⟨?_,rfl⟩
    unfold bare
    rw [if_pos hm,List.drop_one]
    rfl
  · rw [decide_eq_false hm]
    refine iteF ?_
    walk_at "v"
    refine hR _ _ ⟨?_,rfl⟩
    unfold bare
    rw [if_neg hm]
    rfl
end

section
variable {P:Program} {w:World} {K:PySem.W.Frag} {mg:Str→Option Value} {base:Heap} {f C Lc:Addr} {fd:FuncData} {x:Str} {mc:Value}
theorem sc_NoLine_init:FnScope ["self","at"] ["self","at"] (defScope s_NoLine_init):=⟨rfl,rfl,rfl,by decide +kernel,rfl,by decide +kernel,by decide +kernel⟩
theorem ok_NoLine_init (F:Fun K "__init__" "NoLine.__init__" s_NoLine_init f fd) (XI_NoLine:Xi K mg x C f) (XB_LathError:Xb K mg "LathError" Lc mc):FnOk P w K mg base CX0 1 f fd ["self","at"] (spIni C):=by
  refine F.ok sc_NoLine_init (fun vs H Q E h=>?_) (fun cdv A outer s H vs Q E hr h=>?_)
  · obtain ⟨e,i,rfl,_⟩:=h
    rfl
  obtain ⟨e,i,rfl,hH,hi,k⟩:=h
  refine Jd.go ⟨_,(J.e (J.s (Jd.pe_baseInit (pl:=_) rfl XB_LathError.at_ XB_LathError.sp XB_LathError.rd XB_LathError.fd (J.b (J.a 0) (J.b (Jd.pe_ftext (J.a 1)) J.d) st_N)) (hs:=sw_K))
      (J.f (Jd.ps_asg (J.a 1) (Jd.pg_at (J.a 0))))),?_⟩
  walk_at "v"
  refine r_bi ?_
  walk_at "v"
  refine r_ft ?_
  walk_at "v"
  refine ⟨i,rfl,hi,fun tx=>?_⟩
  walk_at "v"
  refine ⟨e,C,f,x,mg,none,_,rfl,hH,XI_NoLine,?_⟩
  with_reducible refine r_asg ?_
  walk_at "v"
  refine r_gat ?_
  walk_at "v"
  exact ⟨e,C,f,x,mg,rfl,hH,XI_NoLine,fun d hd=>k d hd⟩
end

theorem c_blank:Str.ofString " "=tx [32]:=by decide
noncomputable def sp (l:List Nat):List (List Nat):=(Txt.split (tx l) (tx [32])).map (·.cps.toList)
theorem sp_sv (l:List Nat):(Txt.split (tx l) (tx [32])).map V.str=sv (sp l):=by
  unfold sv sp
  rw [List.map_map]
  refine List.map_congr_left fun z _=>?_
  show V.str z=V.str (tx z.cps.toList)
  rw [← tx_of]
theorem sp_len {l:List Nat}:∀a∈sp l,a.length≤l.length:=by
  intro a ha
  obtain ⟨z,hz,rfl⟩:=List.mem_map.mp ha
  have h:=join_mem_le (tx [32]) (Txt.split (tx l) (tx [32])) z hz
  rw [StrLaws.join_split,tx_len] at h
  exact h
theorem sv_get {zs:List (List Nat)} {i:Nat} {z:List Nat} (h:zs[i]?=some z):(sv zs)[i]?=some (.str (tx z)):=by
  unfold sv
  rw [List.getElem?_map,h]
  rfl
theorem sv_at {zs:List (List Nat)} {i:Nat} {v:V} (h:(sv zs)[i]?=some v):∃z,zs[i]?=some z∧v=.str (tx z):=by
  unfold sv at h
  rw [List.getElem?_map] at h
  obtain ⟨z,hz,rfl⟩:=Option.map_eq_some_iff.mp h
  exact ⟨z,hz,rfl⟩
theorem sv_len (zs:List (List Nat)):(sv zs).length=zs.length:=List.length_map ..
theorem sl_app (a b:Str):(a++b).length=a.length+b.length:=by
  rw [tx_of a,tx_of b,tx_app,tx_len,tx_len,tx_len,List.length_append]
noncomputable abbrev okS (z:Str):Prop:=∀c∈z.cps.toList,c<1114112
noncomputable abbrev okT (l:List Nat):Prop:=∀c∈l,c<1114112
theorem okS_tx {l:List Nat} (h:okT l):okS (tx l):=fun c hc=>h c (by rwa [tx_cps] at hc)
theorem okT_of {l:List Nat} (h:okS (tx l)):okT l:=fun c hc=>h c (by rwa [tx_cps])
theorem okS_app {a b:Str}:okS (a++b)↔okS a∧okS b:=by
  constructor
  · intro h
    rw [tx_of a,tx_of b,tx_app] at h
    have h:=okT_of h
    exact ⟨fun c hc=>h c (List.mem_append_left _ hc),fun c hc=>h c (List.mem_append_right _ hc)⟩
  · rintro ⟨h,g⟩
    rw [tx_of a,tx_of b,tx_app]
    exact okS_tx fun c hc=>(List.mem_append.mp hc).elim (h c) (g c)
theorem ok_ww (n:Int):okT (ww n):=by
  intro c h
  unfold ww at h
  split at h
  · rcases List.mem_cons.mp h with z | z
    · omega
    · have:=dg_all _ _ z;omega
  · have:=dg_all _ _ h;omega
theorem tdens {H:Hp}:∀zs:List (List Nat),Dens H (sv zs) (zs.map fun z=>PyData.str (tx z))
  | []=>.nil
  | z::zs=>.cons (.str _) (tdens zs)
theorem teqv:∀zs:List (List Nat),PyData.eqvAll (zs.map fun z=>PyData.str (tx z)) (zs.map fun z=>PyData.str (tx z))=true
  | []=>rfl
  | z::zs=>by
    show (PyData.eqv (.str (tx z)) (.str (tx z))&&PyData.eqvAll (zs.map fun z=>PyData.str (tx z)) (zs.map fun z=>PyData.str (tx z)))=true
    rw [teqv zs]
    show ((tx z==tx z)&&true)=true
    simp
theorem tshape:∀zs:List (List Nat),(∀z∈zs,okT z)→PyData.canLayAll0 (zs.map fun z=>PyData.str (tx z))=true∧PyData.depthAll (zs.map fun z=>PyData.str (tx z))≤3
  | [],_=>⟨rfl,by decide⟩
  | z::zs,h=>by
    obtain ⟨c,d⟩:=tshape zs fun z hz=>h z (List.mem_cons_of_mem _ hz)
    refine ⟨?_,?_⟩
    · show ((PyData.str (tx z)).canLay0&&PyData.canLayAll0 (zs.map fun z=>PyData.str (tx z)))=true
      rw [c,Bool.and_true]
      show (tx z).cps.all (·<0x110000)=true
      refine Array.all_eq_true_iff_forall_mem.mpr fun c hc=>decide_eq_true (okS_tx (h z List.mem_cons_self) c (by simpa using hc))
    · show max (PyData.str (tx z)).depth (PyData.depthAll (zs.map fun z=>PyData.str (tx z)))≤3
      have:(PyData.str (tx z)).depth≤3:=by show 0≤3;decide
      omega
theorem tshaped {zs:List (List Nat)} (h:∀z∈zs,okT z):SeqAt.shaped (.list (zs.map fun z=>PyData.str (tx z)))=true:=by
  obtain ⟨a,b⟩:=tshape zs h
  unfold SeqAt.shaped
  rw [Bool.and_eq_true]
  refine ⟨a,decide_eq_true ?_⟩
  show PyData.depthAll (zs.map fun z=>PyData.str (tx z))+1≤64
  omega
theorem texts_ne {H:Hp} {l l':Addr} {zs:List (List Nat)} {Q:VK} (ho:∀z∈zs,okT z) (hl:H l=some (.lst (sv zs))) (hl':H l'=some (.lst (sv zs))) (q:Q (.bl false) H):rNeD (.ref l) (.ref l') H Q:=by
  refine ⟨_,_,.lst hl (tdens zs),.lst hl' (tdens zs),tshaped ho,tshaped ho,?_⟩
  have:PyData.eqv (.list (zs.map fun z=>PyData.str (tx z))) (.list (zs.map fun z=>PyData.str (tx z)))=true:=teqv _
  rw [this]
  exact q
theorem texts_eq {H:Hp} {l l':Addr} {zs:List (List Nat)} {Q:VK} (ho:∀z∈zs,okT z) (hl:H l=some (.lst (sv zs))) (hl':H l'=some (.lst (sv zs))) (q:Q (.bl true) H):rEqD (.ref l) (.ref l') H Q:=by
  refine ⟨_,_,.lst hl (tdens zs),.lst hl' (tdens zs),tshaped ho,tshaped ho,?_⟩
  have:PyData.eqv (.list (zs.map fun z=>PyData.str (tx z))) (.list (zs.map fun z=>PyData.str (tx z)))=true:=teqv _
  rw [this]
  exact q
noncomputable def jn:List (List Nat)→List Nat
  | []=>[]
  | [w]=>w
  | w::z::ws=>w++32::jn (z::ws)
theorem join_jn:∀ws:List (List Nat),Str.join (tx [32]) (ws.map tx)=tx (jn ws)
  | []=>rfl
  | [w]=>rfl
  | w::z::ws=>by
    have ih:=join_jn (z::ws)
    show tx w++tx [32]++Str.join (tx [32]) ((z::ws).map tx)=_
    rw [ih,tx_app,tx_app]
    show tx _=tx (w++32::jn (z::ws))
    rw [List.append_assoc]
    rfl
theorem glue_jn (ws:List (List Nat)):glue (tx [32]) (ws.map tx)=tx (jn ws):=by
  have e:=join_jn ws
  rw [← StrLaws.glued_eq_join] at e
  match ws,e with
  | [],e=>exact e
  | [w],_=>rfl
  | _::_::_,e=>exact e
theorem sp_jn (l:List Nat):jn (sp l)=l:=by
  have e:=StrLaws.join_split (tx l) (tx [32])
  have e2:Txt.split (tx l) (tx [32])=(sp l).map tx:=by
    unfold sp
    rw [List.map_map]
    refine (List.map_id _).symm.trans (List.map_congr_left fun z _=>?_)
    show z=tx z.cps.toList
    rw [← tx_of]
  rw [e2,join_jn] at e
  exact tx_inj e
theorem jn_mem {c:Nat}:∀{ws:List (List Nat)},c∈jn ws→c=32∨∃w∈ws,c∈w
  | [],h=>by cases h
  | [w],h=>.inr ⟨w,by simp,h⟩
  | w::z::ws,h=>by
    have h:c∈w++32::jn (z::ws):=h
    rcases List.mem_append.mp h with q | q
    · exact .inr ⟨w,by simp,q⟩
    · rcases List.mem_cons.mp q with q | q
      · exact .inl q
      · rcases jn_mem q with q | ⟨w',hw,q⟩
        · exact .inl q
        · exact .inr ⟨w',List.mem_cons_of_mem _ hw,q⟩
theorem mem_jn {c:Nat}:∀{ws:List (List Nat)} {w:List Nat},w∈ws→c∈w→c∈jn ws
  | [],_,h,_=>by cases h
  | [w'],w,h,hc=>by
    obtain rfl:w=w':=by simpa using h
    exact hc
  | w'::z::ws,w,h,hc=>by
    show c∈w'++32::jn (z::ws)
    rcases List.mem_cons.mp h with q | q
    · subst q;exact List.mem_append_left _ hc
    · exact List.mem_append_right _ (List.mem_cons_of_mem _ (mem_jn q hc))
theorem ok_jn {ws:List (List Nat)} (h:∀w∈ws,okT w):okT (jn ws):=fun c hc=>by
  rcases jn_mem hc with q | ⟨w,hw,q⟩
  · omega
  · exact h w hw c q
theorem ok_sp {l:List Nat} (h:okT l):∀w∈sp l,okT w:=fun w hw c hc=>h c (by
  have:=mem_jn hw hc
  rwa [sp_jn] at this)
theorem jn_len:∀ws:List (List Nat),(jn ws).length≤(ws.map List.length).sum+ws.length
  | []=>Nat.zero_le _
  | [w]=>by show w.length≤w.length+0+1;omega
  | w::z::ws=>by
    have ih:=jn_len (z::ws)
    show (w++32::jn (z::ws)).length≤w.length+((z::ws).map List.length).sum+((z::ws).length+1)
    rw [List.length_append,List.length_cons]
    omega
theorem jn_fold (ws:List (List Nat)):∀a,(ws.map tx).foldl (fun n z=>n+z.length+(tx [32]).length) a=a+(ws.map List.length).sum+ws.length:=by
  induction ws with
  | nil=>intro a;simp
  | cons w ws ih=>
    intro a
    rw [List.map_cons,List.foldl_cons,ih,tx_len,tx_len,List.map_cons,List.sum_cons,List.length_cons]
    simp only [List.length_cons,List.length_nil]
    omega
theorem jn_count:∀{ws:List (List Nat)},ws≠[]→(∀w∈ws,32∉w)→(jn ws).count 32+1=ws.length
  | [],h,_=>absurd rfl h
  | [w],_,h=>by
    show w.count 32+1=1
    rw [List.count_eq_zero.mpr (h w (by simp))]
  | w::z::ws,_,h=>by
    have ih:=jn_count (ws:=z::ws) (by simp) fun w' hw'=>h w' (List.mem_cons_of_mem _ hw')
    show (w++32::jn (z::ws)).count 32+1=(z::ws).length+1
    rw [List.count_append,List.count_cons_self,List.count_eq_zero.mpr (h w (by simp))]
    omega
theorem sp_free (l:List Nat):∀w∈sp l,32∉w:=fun w hw=>by
  obtain ⟨z,hz,rfl⟩:=List.mem_map.mp hw
  exact StrLaws.split_free (tx l) 32 z hz
theorem sp_ne (l:List Nat):sp l≠[]:=fun h=>by
  have:=PyProof.Rows.split_pos (tx l) (tx [32])
  unfold sp at h
  rw [List.map_eq_nil_iff] at h
  rw [h] at this
  exact absurd this (by decide)
theorem sp_count (l:List Nat):l.count 32+1=(sp l).length:=by
  have:=jn_count (sp_ne l) (sp_free l)
  rwa [sp_jn] at this

theorem FnOk.or {P:Program} {w:World} {K:PySem.W.Frag} {mg:Str→Option Value} {base:Heap} {CX:CXT} {k:Nat} {f:Addr} {fd:FuncData} {ps:List Str} {sp sp':Sp} (F:FnOk P w K mg base CX k f fd ps sp) (F':FnOk P w K mg base CX k f fd ps sp'):FnOk P w K mg base CX k f fd ps (fun vs H Q E=>sp vs H Q E∨sp' vs H Q E):=
  ⟨fun vs H Q E q=>q.elim (F.len vs H Q E) (F'.len vs H Q E),fun A outer s H args us vs Q E hr he hb hv hs=>hs.elim (F.run A outer s H args us vs Q E hr he hb hv) (F'.run A outer s H args us vs Q E hr he hb hv)⟩
noncomputable def lab:List Nat:=[108,97,98,101,108,115]
noncomputable def bar:List Nat:=[98,97,114]
theorem c_lab:Str.ofString "labels"=tx lab:=by decide
theorem c_bar:Str.ofString "bar"=tx bar:=by decide
theorem c_labB:Str.ofString "labels "=tx (lab++[32]):=by decide
theorem c_barB:Str.ofString "bar "=tx (bar++[32]):=by decide
noncomputable abbrev Wb (n:Int):Prop:=n.natAbs<10 ^ 18
theorem Wb.sz {n:Int} (h:Wb n):Sz 8000 n:=Nat.lt_of_lt_of_le h (Nat.le_trans (show 10 ^ 18≤2 ^ 60 by decide) (Nat.pow_le_pow_right (by decide) (by decide)))
theorem Wb.len {n:Int} (h:Wb n):(ww n).length≤19:=by
  have:=dg_len (k:=18) (by decide) h
  unfold ww
  split
  · rw [List.length_cons];omega
  · omega
noncomputable def nl (ns:List Int):List Nat:=jn (ns.map ww)
theorem ww_sum:∀ns:List Int,(∀n∈ns,Wb n)→((ns.map ww).map List.length).sum≤19*ns.length
  | [],_=>Nat.le_refl _
  | n::ns,h=>by
    have ih:=ww_sum ns fun x hx=>h x (List.mem_cons_of_mem _ hx)
    have:=(h n List.mem_cons_self).len
    show (ww n).length+((ns.map ww).map List.length).sum≤19*(ns.length+1)
    omega
theorem nl_len {ns:List Int} (h:∀n∈ns,Wb n):(nl ns).length≤20*ns.length:=by
  have h1:=ww_sum ns h
  have h2:=jn_len (ns.map ww)
  rw [List.length_map] at h2
  show (jn (ns.map ww)).length≤20*ns.length
  omega
theorem ok_nl (ns:List Int):okT (nl ns):=ok_jn fun w hw=>by
  obtain ⟨n,_,rfl⟩:=List.mem_map.mp hw
  exact ok_ww n
theorem ww_snoc {ns:List Int} {j:Nat} {n:Int} (h:ns[j]?=some n):sv ((ns.take (j+1)).map ww)=sv ((ns.take j).map ww)++[.str (tx (ww n))]:=by
  unfold sv
  rw [List.take_succ,h,Option.toList_some,List.map_append,List.map_append]
  rfl
theorem ints_get {ns:List Int} {i:Nat} {v:V} (h:(ns.map V.int)[i]?=some v):∃n,ns[i]?=some n∧v=.int n:=by
  rw [List.getElem?_map] at h
  obtain ⟨n,hn,rfl⟩:=Option.map_eq_some_iff.mp h
  exact ⟨n,hn,rfl⟩
noncomputable def nums? (ws:List (List Nat)):Option (List Int):=if (ws.all fun w=>(wd w 18).isSome)=true then some (ws.filterMap fun w=>wd w 18) else none
theorem nums_some:∀{ws:List (List Nat)} {v:List Int},ws.map (fun w=>wd w 18)=v.map some→nums? ws=some v:=by
  have e:∀{ws:List (List Nat)} {v:List Int},ws.map (fun w=>wd w 18)=v.map some→(ws.all fun w=>(wd w 18).isSome)=true∧ws.filterMap (fun w=>wd w 18)=v:=by
    intro ws
    induction ws with
    | nil=>
      intro v h
      cases v with
      | nil=>exact ⟨rfl,rfl⟩
      | cons q v=>cases h
    | cons w ws ih=>
      intro v h
      cases v with
      | nil=>cases h
      | cons q v=>
        rw [List.map_cons,List.map_cons] at h
        obtain ⟨h1,h2⟩:=List.cons.inj h
        obtain ⟨a,b⟩:=ih h2
        refine ⟨?_,?_⟩
        · rw [List.all_cons,h1,a];rfl
        · rw [List.filterMap_cons,h1,b]
  intro ws v h
  obtain ⟨a,b⟩:=e h
  unfold nums?
  rw [if_pos a,b]
theorem nums_none {ws:List (List Nat)} {w:List Nat} (hw:w∈ws) (h:wd w 18=none):nums? ws=none:=by
  unfold nums?
  refine if_neg fun z=>?_
  have:=List.all_eq_true.mp z w hw
  rw [h] at this
  cases this
theorem nums_of:∀{ws:List (List Nat)} {v:List Int},nums? ws=some v→ws.map (fun w=>wd w 18)=v.map some:=by
  have e:∀ws:List (List Nat),(ws.all fun w=>(wd w 18).isSome)=true→ws.map (fun w=>wd w 18)=(ws.filterMap fun w=>wd w 18).map some:=by
    intro ws
    induction ws with
    | nil=>intro _;rfl
    | cons w ws ih=>
      intro h
      rw [List.all_cons,Bool.and_eq_true] at h
      obtain ⟨q,hq⟩:=Option.isSome_iff_exists.mp h.1
      rw [List.map_cons,List.filterMap_cons,hq,ih h.2]
      rfl
  intro ws v h
  unfold nums? at h
  split at h
  · rename_i c
    cases h
    exact e _ c
  · cases h
theorem nums_len {ws:List (List Nat)} {v:List Int} (h:nums? ws=some v):v.length=ws.length:=by
  have:=congrArg List.length (nums_of h)
  rw [List.length_map,List.length_map] at this
  exact this.symm
theorem nums_wb {ws:List (List Nat)} {v:List Int} (h:nums? ws=some v):∀n∈v,Wb n:=fun n hn=>by
  have:some n∈v.map some:=List.mem_map.mpr ⟨n,hn,rfl⟩
  rw [← nums_of h] at this
  obtain ⟨w,_,e⟩:=List.mem_map.mp this
  exact wd_lt e
noncomputable def th? (ws:List (List Nat)):Option (List Int):=if ws.length=3 then nums? ws else none
noncomputable def lb? (ws:List (List Nat)):Option (List Int):=if ws.length=0 then none else nums? ws
theorem th_3 {ws:List (List Nat)} {v:List Int} (h:th? ws=some v):v.length=3∧nums? ws=some v:=by
  unfold th? at h
  split at h
  · exact ⟨by rw [nums_len h];assumption,h⟩
  · cases h
noncomputable abbrev Pt:=List Int×List (List Int)
noncomputable def step3 (st:List (List Int)) (l:List Nat):Option (List (List Int)):=(th? (sp l)).map fun v=>st++[v]
noncomputable def addb (st:List Pt) (v:List Int):List Pt:=st.dropLast++(st.getLast?.toList.map fun x=>(x.1,x.2++[v]))
noncomputable def stepP (st:List Pt) (l:List Nat):Option (List Pt):=
  match sp l with
  | []=>none
  | w::ws=>if w=lab then (lb? ws).map fun v=>st++[(v,[])] else if w=bar∧st≠[] then (th? ws).map fun v=>addb st v else none
theorem addb_snoc (st:List Pt) (x:Pt) (v:List Int):addb (st++[x]) v=st++[(x.1,x.2++[v])]:=by
  unfold addb
  rw [List.dropLast_concat,List.getLast?_concat]
  rfl
section
variable {α:Type} {stp:List α→List Nat→Option (List α)} {zs:List (List Nat)}
noncomputable def Sy (stp:List α→List Nat→Option (List α)) (zs:List (List Nat)) (i:Nat) (st:List α):Prop:=(zs.take i).foldlM stp []=some st
theorem Sy.next {i:Nat} {st:List α} {l:List Nat} (h:Sy stp zs i st) (hl:zs[i]?=some l):(zs.take (i+1)).foldlM stp []=stp st l:=by
  unfold Sy at h
  rw [List.take_succ,hl,Option.toList_some,List.foldlM_append,h]
  show ([l].foldlM stp st)=stp st l
  simp
theorem Sy.pre {i j:Nat} {st:List α} (h:Sy stp zs j st) (hij:i≤j):∃st',Sy stp zs i st':=by
  unfold Sy at *
  rw [show zs.take j=(zs.take j).take i++(zs.take j).drop i from (List.take_append_drop _ _).symm,List.take_take,Nat.min_eq_left hij,List.foldlM_append] at h
  cases e:(zs.take i).foldlM stp [] with
  | none=>rw [e] at h;cases h
  | some st'=>exact ⟨st',rfl⟩
noncomputable def Fst (stp:List α→List Nat→Option (List α)) (zs:List (List Nat)) (k:Nat):Prop:=∃st l,Sy stp zs k st∧zs[k]?=some l∧stp st l=none
theorem Fst.not {k j:Nat} {st:List α} (h:Fst stp zs k) (hj:k<j):¬Sy stp zs j st:=fun g=>by
  obtain ⟨s0,l,h0,hl,hn⟩:=h
  obtain ⟨s1,h1⟩:=g.pre (i:=k+1) hj
  have:=h0.next hl
  unfold Sy at h1
  rw [h1,hn] at this
  cases this
theorem Fst.lt {k:Nat} (h:Fst stp zs k):k<zs.length:=by
  obtain ⟨_,l,_,hl,_⟩:=h
  exact (List.getElem?_eq_some_iff.mp hl).1
theorem Fst.uniq {k j:Nat} (h:Fst stp zs k) (g:Fst stp zs j):k=j:=by
  rcases Nat.lt_trichotomy k j with z | z | z
  · obtain ⟨_,_,g0,_⟩:=g
    exact absurd g0 (h.not z)
  · exact z
  · obtain ⟨_,_,h0,_⟩:=h
    exact absurd h0 (g.not z)
end
noncomputable def d3 (v:List Int):PyData:=.tuple (v.map PyData.int)
noncomputable def dp (x:Pt):PyData:=.tuple [.list (x.1.map PyData.int),.list (x.2.map d3)]
noncomputable def Bad (free:Bool) (zs:List (List Nat)) (k:Nat):Prop:=match free with | true=>Fst step3 zs k | false=>Fst stepP zs k
noncomputable def Due (free:Bool) (zs:List (List Nat)) (ds:List PyData):Prop:=match free with | true=>∃st,Sy step3 zs zs.length st∧ds=st.map d3 | false=>∃st,Sy stepP zs zs.length st∧ds=st.map dp
theorem Due.uniq {free:Bool} {zs:List (List Nat)} {ds es:List PyData} (h:Due free zs ds) (g:Due free zs es):ds=es:=by
  cases free <;>
  · obtain ⟨a,h1,rfl⟩:=h
    obtain ⟨b,h2,rfl⟩:=g
    unfold Sy at h1 h2
    rw [h1] at h2
    cases h2
    rfl
theorem Bad.not {free:Bool} {zs:List (List Nat)} {k:Nat} {ds:List PyData} (h:Bad free zs k) (g:Due free zs ds):False:=by
  cases free
  · have h:Fst stepP zs k:=h
    obtain ⟨st,g,_⟩:=g
    exact h.not h.lt g
  · have h:Fst step3 zs k:=h
    obtain ⟨st,g,_⟩:=g
    exact h.not h.lt g
theorem Bad.uniq {free:Bool} {zs:List (List Nat)} {k j:Nat} (h:Bad free zs k) (g:Bad free zs j):k=j:=by
  cases free
  · exact Fst.uniq (stp:=stepP) h g
  · exact Fst.uniq (stp:=step3) h g
noncomputable abbrev T3:=Addr×List Int
noncomputable def T3At (H:Hp) (x:T3):Prop:=H x.1=some (.tup (x.2.map V.int))∧x.2.length=3∧∀n∈x.2,Wb n
noncomputable def tv (ts:List T3):List V:=ts.map fun x=>V.ref x.1
theorem tv_at {ts:List T3} {i:Nat} {v:V} (h:(tv ts)[i]?=some v):∃x,ts[i]?=some x∧v=.ref x.1:=by
  unfold tv at h
  rw [List.getElem?_map] at h
  obtain ⟨x,hx,rfl⟩:=Option.map_eq_some_iff.mp h
  exact ⟨x,hx,rfl⟩
theorem tv_len (ts:List T3):(tv ts).length=ts.length:=List.length_map ..
theorem tv_snoc (ts:List T3) (x:T3):tv ts++[.ref x.1]=tv (ts++[x]):=by simp [tv]
theorem T3At.up {H H':Hp} {x:T3} (h:T3At H x) (s:Same H H'):T3At H' x:=⟨s _ _ h.1,h.2⟩
theorem T3At.put {H:Hp} {x:T3} {R:Addr} {xs:List V} {o:HO} (h:T3At H x) (e:H R=some (.lst xs)):T3At (upd H R o) x:=⟨by rw [upd_ne (fun z=>by have:=h.1;rw [z,e] at this;cases this)];exact h.1,h.2⟩
theorem T3At.rm {H:Hp} {x:T3} {R:Addr} {xs:List V} (h:T3At H x) (e:H R=some (.lst xs)):T3At (My.rm R H) x:=⟨rm_tup e h.1,h.2⟩
noncomputable def T3s (H:Hp) (ts:List T3):Prop:=∀x∈ts,T3At H x
theorem T3s.up {H H':Hp} {ts:List T3} (h:T3s H ts) (s:Same H H'):T3s H' ts:=fun x hx=>(h x hx).up s
theorem T3s.put {H:Hp} {ts:List T3} {R:Addr} {xs:List V} {o:HO} (h:T3s H ts) (e:H R=some (.lst xs)):T3s (upd H R o) ts:=fun x hx=>(h x hx).put e
theorem T3s.snoc {H:Hp} {ts:List T3} {x:T3} (h:T3s H ts) (hx:T3At H x):T3s H (ts++[x]):=fun y hy=>by
  rcases List.mem_append.mp hy with z | z
  · exact h y z
  · obtain rfl:y=x:=by simpa using z
    exact hx
theorem ints_dens {H:Hp}:∀ns:List Int,Dens H (ns.map V.int) (ns.map PyData.int)
  | []=>.nil
  | n::ns=>.cons (.int n) (ints_dens ns)
theorem T3s.dens {H:Hp}:∀{ts:List T3},T3s H ts→Dens H (tv ts) ((ts.map (·.2)).map d3)
  | [],_=>.nil
  | x::ts,h=>.cons (.tup (h x List.mem_cons_self).1 (ints_dens _)) (T3s.dens fun y hy=>h y (List.mem_cons_of_mem _ hy))
structure Pa where
  t:Addr
  l:Addr
  b:Addr
  ns:List Int
  bs:List T3
structure PaAt (H:Hp) (x:Pa):Prop where
  t:H x.t=some (.tup [.ref x.l,.ref x.b])
  l:H x.l=some (.lst (x.ns.map V.int))
  b:H x.b=some (.lst (tv x.bs))
  bs:T3s H x.bs
  wb:∀n∈x.ns,Wb n
noncomputable def pv (ps:List Pa):List V:=ps.map fun x=>V.ref x.t
noncomputable def pd (ps:List Pa):List Pt:=ps.map fun x=>(x.ns,x.bs.map (·.2))
theorem pv_at {ts:List Pa} {i:Nat} {v:V} (h:(pv ts)[i]?=some v):∃x,ts[i]?=some x∧v=.ref x.t:=by
  unfold pv at h
  rw [List.getElem?_map] at h
  obtain ⟨x,hx,rfl⟩:=Option.map_eq_some_iff.mp h
  exact ⟨x,hx,rfl⟩
theorem pv_len (ts:List Pa):(pv ts).length=ts.length:=List.length_map ..
theorem pv_snoc (ts:List Pa) (x:Pa):pv ts++[.ref x.t]=pv (ts++[x]):=by simp [pv]
theorem PaAt.up {H H':Hp} {x:Pa} (h:PaAt H x) (s:Same H H'):PaAt H' x:=⟨s _ _ h.t,s _ _ h.l,s _ _ h.b,h.bs.up s,h.wb⟩
theorem PaAt.put {H:Hp} {x:Pa} {R:Addr} {xs:List V} {o:HO} (h:PaAt H x) (e:H R=some (.lst xs)) (h1:x.l≠R) (h2:x.b≠R):PaAt (upd H R o) x:=
  ⟨by rw [upd_ne (fun z=>by have:=h.t;rw [z,e] at this;cases this)];exact h.t,by rw [upd_ne h1];exact h.l,by rw [upd_ne h2];exact h.b,h.bs.put e,h.wb⟩
theorem PaAt.den {H:Hp} {x:Pa} (h:PaAt H x):Den H (.ref x.t) (dp (x.ns,x.bs.map (·.2))):=.tup h.t (.cons (.lst h.l (ints_dens _)) (.cons (.lst h.b h.bs.dens) .nil))
theorem pas_dens {H:Hp}:∀{ps:List Pa},(∀x∈ps,PaAt H x)→Dens H (pv ps) ((pd ps).map dp)
  | [],_=>.nil
  | x::ps,h=>.cons (h x List.mem_cons_self).den (pas_dens fun y hy=>h y (List.mem_cons_of_mem _ hy))
noncomputable def adr (ps:List Pa):List Addr:=ps.flatMap fun x=>[x.l,x.b]
structure PapI (H0 H:Hp) (R:Addr) (ps:List Pa):Prop where
  sm:Same H0 H
  r:H R=some (.lst (pv ps))
  nr:H0 R=none
  at_:∀x∈ps,PaAt H x
  nd:(R::adr ps).Nodup
  new:∀a∈adr ps,H0 a=none
theorem mem_adr {ps:List Pa} {a:Addr} (h:a∈adr ps):∃x∈ps,a=x.l∨a=x.b:=by
  obtain ⟨x,hx,h⟩:=List.mem_flatMap.mp h
  exact ⟨x,hx,by simpa using h⟩
theorem adr_l {ps:List Pa} {x:Pa} (h:x∈ps):x.l∈adr ps:=List.mem_flatMap.mpr ⟨x,h,by simp⟩
theorem adr_b {ps:List Pa} {x:Pa} (h:x∈ps):x.b∈adr ps:=List.mem_flatMap.mpr ⟨x,h,by simp⟩
theorem PapI.up {H0 H H':Hp} {R:Addr} {ps:List Pa} (h:PapI H0 H R ps) (s:Same H H'):PapI H0 H' R ps:=⟨h.sm.trans s,s _ _ h.r,h.nr,fun x hx=>(h.at_ x hx).up s,h.nd,h.new⟩
theorem PapI.has {H0 H:Hp} {R a:Addr} {ps:List Pa} (h:PapI H0 H R ps) (ha:a∈R::adr ps):H a≠none:=by
  rcases List.mem_cons.mp ha with rfl | ha
  · rw [h.r];simp
  · obtain ⟨x,hx,rfl | rfl⟩:=mem_adr ha
    · rw [(h.at_ x hx).l];simp
    · rw [(h.at_ x hx).b];simp
theorem PapI.push {H0 H:Hp} {R:Addr} {ps:List Pa} {x:Pa} (h:PapI H0 H R ps) (hx:PaAt H x) (n1:x.l∉R::adr ps) (n2:x.b∉R::adr ps) (n3:x.l≠x.b) (m1:H0 x.l=none) (m2:H0 x.b=none):PapI H0 (upd H R (.lst (pv ps++[.ref x.t]))) R (ps++[x]):=by
  have ea:adr (ps++[x])=adr ps++[x.l,x.b]:=by unfold adr;rw [List.flatMap_append];rfl
  have ne:∀a∈adr ps,a≠R:=fun a ha z=>(List.nodup_cons.mp h.nd).1 (z▸ha)
  refine ⟨same_at h.sm h.nr,by rw [upd_same,pv_snoc],h.nr,fun y hy=>?_,?_,fun a ha=>?_⟩
  · rcases List.mem_append.mp hy with z | z
    · exact (h.at_ y z).put h.r (ne _ (adr_l z)) (ne _ (adr_b z))
    · obtain rfl:y=x:=by simpa using z
      exact hx.put h.r (fun z=>n1 (z▸List.mem_cons_self)) (fun z=>n2 (z▸List.mem_cons_self))
  · rw [ea]
    have:(R::adr ps)++[x.l,x.b]=R::(adr ps++[x.l,x.b]):=rfl
    rw [← this]
    refine List.nodup_append.mpr ⟨h.nd,by simp [n3],fun a ha b hb z=>?_⟩
    rcases List.mem_cons.mp hb with q | q
    · subst q;subst z;exact n1 ha
    · obtain rfl:b=x.b:=by simpa using q
      subst z;exact n2 ha
  · rw [ea] at ha
    rcases List.mem_append.mp ha with q | q
    · exact h.new a q
    · rcases List.mem_cons.mp q with q | q
      · rw [q];exact m1
      · obtain rfl:a=x.b:=by simpa using q
        exact m2
theorem PapI.bar {H0 H:Hp} {R:Addr} {ps:List Pa} {x:Pa} {y:T3} (h:PapI H0 H R (ps++[x])) (hy:T3At H y):PapI H0 (upd H x.b (.lst (tv x.bs++[.ref y.1]))) R (ps++[{x with bs:=x.bs++[y]}]):=by
  have hx:=h.at_ x (by simp)
  have ea:adr (ps++[x])=adr ps++[x.l,x.b]:=by unfold adr;rw [List.flatMap_append];rfl
  have eb:adr (ps++[{x with bs:=x.bs++[y]}])=adr ps++[x.l,x.b]:=by unfold adr;rw [List.flatMap_append];rfl
  have hnd:=h.nd
  rw [ea] at hnd
  have hRb:R≠x.b:=fun z=>(List.nodup_cons.mp hnd).1 (by rw [z];simp)
  have h2:=List.nodup_append.mp (List.nodup_cons.mp hnd).2
  have hlb:x.l≠x.b:=fun z=>by have:=h2.2.1;rw [z] at this;simp at this
  have hne:∀a∈adr ps,a≠x.b:=fun a ha=>h2.2.2 a ha x.b (by simp)
  refine ⟨same_at h.sm (h.new x.b (adr_b (by simp))),?_,h.nr,fun z hz=>?_,by rw [eb];exact hnd,fun a ha=>h.new a (by rw [ea];rw [eb] at ha;exact ha)⟩
  · rw [upd_ne hRb,h.r]
    simp [pv]
  · rcases List.mem_append.mp hz with q | q
    · exact (h.at_ z (List.mem_append_left _ q)).put hx.b (hne _ (adr_l q)) (hne _ (adr_b q))
    · obtain rfl:z={x with bs:=x.bs++[y]}:=by simpa using q
      exact ⟨by show upd _ _ _ x.t=_;rw [upd_ne (fun z=>by have:=hx.t;rw [z,hx.b] at this;cases this)];exact hx.t,by show upd _ _ _ x.l=_;rw [upd_ne hlb];exact hx.l,by show upd _ _ _ x.b=_;rw [upd_same,tv_snoc],(hx.bs.put hx.b).snoc (hy.put hx.b),hx.wb⟩
noncomputable def pls (st:List Pt):List (List Nat):=st.flatMap fun x=>(lab++32::nl x.1)::x.2.map fun v=>bar++32::nl v
noncomputable def Ppr (free:Bool) (H:Hp) (R:Addr) (zs:List (List Nat)):Prop:=match free with
  | true=>∃ts,H R=some (.lst (tv ts))∧T3s H ts∧ts.length≤60∧zs=(ts.map (·.2)).map nl
  | false=>∃ps,H R=some (.lst (pv ps))∧(∀x∈ps,PaAt H x)∧ps.length≤3∧(∀x∈ps,x.ns.length≤60∧x.bs.length≤60)∧zs=pls (pd ps)
noncomputable def frS (wy:List Nat):Bool:=decide (wy=[97,112,97,114,116])||decide (wy=[106,111,105,110,101,100])
theorem c_apart:Str.ofString "apart"=tx [97,112,97,114,116]:=by decide
theorem c_joined:Str.ofString "joined"=tx [106,111,105,110,101,100]:=by decide
noncomputable def Lns (H:Hp) (L:Addr) (zs:List (List Nat)):Prop:=H L=some (.lst (sv zs))∧zs.length≤900∧∀z∈zs,z.length≤100000
noncomputable def spWs:Sp:=fun vs H Q _=>∃(L:Addr) (ns:List Int),vs=[.ref L]∧H L=some (.lst (ns.map V.int))∧ns.length≤900∧(∀n∈ns,Wb n)∧∀H',Same H H'→Q (.str (tx (nl ns))) H'
noncomputable def spWsT:Sp:=fun vs H Q _=>∃(L:Addr) (ns:List Int),vs=[.ref L]∧H L=some (.tup (ns.map V.int))∧ns.length≤900∧(∀n∈ns,Wb n)∧∀H',Same H H'→Q (.str (tx (nl ns))) H'
noncomputable def spWsB:Sp:=fun vs H Q E=>spWs vs H Q E∨spWsT vs H Q E
noncomputable def spWholes:Sp:=fun vs H Q _=>∃(L:Addr) (ws:List (List Nat)),vs=[.ref L]∧H L=some (.lst (sv ws))∧ws.length≤200000∧(∀z∈ws,z.length≤100000)∧(nums? ws=none→∀H',Same H H'→Q .non H')∧∀v,nums? ws=some v→∀(R:Addr) (H':Hp),Same H H'→H R=none→H' R=some (.lst (v.map V.int))→Q (.ref R) H'
noncomputable def spThreeOf:Sp:=fun vs H Q _=>∃(L:Addr) (ws:List (List Nat)),vs=[.ref L]∧H L=some (.lst (sv ws))∧ws.length≤200000∧(∀z∈ws,z.length≤100000)∧(th? ws=none→∀H',Same H H'→Q .non H')∧∀v,th? ws=some v→∀(R:Addr) (H':Hp),Same H H'→T3At H' (R,v)→Q (.ref R) H'
noncomputable def spLinX (free:Bool) (C:Addr):Sp:=fun vs H Q E=>∃(L:Addr) (zs:List (List Nat)),vs=[.ref L]∧Lns H L zs ∧
  (∀k,Bad free zs k→∀(d:Addr) (H':Hp),Same H H'→H' d=none→E (.ref C) (some d) (upd H' d (.xd [("at",.int (k:Int))]))) ∧
  (∀ds,Due free zs ds→∀(R:Addr) (xs:List V) (H':Hp),Same H H'→H R=none→H' R=some (.lst xs)→Dens H' xs ds→xs.length≤900→Q (.ref R) H')
noncomputable def spLinG (free:Bool):Sp:=fun vs H Q _=>∃(L:Addr) (zs:List (List Nat)) (es:List PyData),vs=[.ref L]∧Lns H L zs∧Due free zs es ∧
  (∀ds,Due free zs ds→∀(R:Addr) (xs:List V) (H':Hp),Same H H'→H R=none→H' R=some (.lst xs)→Dens H' xs ds→xs.length≤900→Q (.ref R) H')
noncomputable def spPapX (C:Addr):Sp:=fun vs H Q E=>∃(wy:List Nat) (L:Addr),vs=[.str (tx wy),.ref L]∧spLinX (frS wy) C [.ref L] H Q E
noncomputable def spPapG:Sp:=fun vs H Q E=>∃(wy:List Nat) (L:Addr),vs=[.str (tx wy),.ref L]∧spLinG (frS wy) [.ref L] H Q E
noncomputable def spShowP:Sp:=fun vs H Q _=>∃(wy:List Nat) (R:Addr) (zs:List (List Nat)),vs=[.str (tx wy),.ref R]∧Ppr (frS wy) H R zs∧∀(L:Addr) (H':Hp),Same H H'→H L=none→H' L=some (.lst (sv zs))→Q (.ref L) H'

theorem r_iT {K:PySem.W.Frag} {te:TE} {σ:L2.St} {H:Hp} {R:It→Hp→Prop} (h:te σ H fun x H1=>∃a,x=.ref a∧(∃xs,SqT K H1 a xs)∧R (Itt K a) H1):iTup K te σ H R:=h
theorem frS_by {wy:List Nat} {G:Prop} (a:wy=[97,112,97,114,116]→frS wy=true→G) (b:¬wy=[97,112,97,114,116]→wy=[106,111,105,110,101,100]→frS wy=true→G) (c:¬wy=[97,112,97,114,116]→¬wy=[106,111,105,110,101,100]→frS wy=false→G):G:=by
  by_cases h:wy=[97,112,97,114,116]
  · exact a h (by unfold frS;rw [decide_eq_true h];rfl)
  · by_cases g:wy=[106,111,105,110,101,100]
    · exact b h g (by unfold frS;rw [decide_eq_true g,Bool.or_true])
    · exact c h g (by unfold frS;rw [decide_eq_false h,decide_eq_false g];rfl)
section
variable {P:Program} {w:World} {K:PySem.W.Frag} {mg:Str→Option Value} {base:Heap} {f c_NoWord c_NoLine:Addr} {fd:FuncData}
theorem sc_show_wholes:FnScope ["numbers"] ["numbers"] (defScope s_show_wholes):=⟨rfl,rfl,rfl,by decide +kernel,rfl,by decide +kernel,by decide +kernel⟩
theorem ok_show_wholes (F:Fun K "show_wholes" "show_wholes" s_show_wholes f fd) (T:Txt mg) (D_whole_word:Dn P w K mg base 2 "whole_word" ["number"] spWhole):FnOk P w K mg base CX0 3 f fd ["numbers"] spWs:=by
  refine F.ok sc_show_wholes (fun vs H Q E h=>?_) (fun cdv A outer s H vs Q E hr h=>?_)
  · obtain ⟨L,ns,rfl,_⟩:=h
    rfl
  obtain ⟨L,ns,rfl,hL,hl,hw,k⟩:=h
  refine Jd.go ⟨_,(J.f (J.l (Jd.strM K PySem.F.slot_str_join PySem.F.type_str_join mt_join J.h (J.af (O:=["number"]) (N':=[]) (cap:=[]) rfl (Jd.piL K (J.a 0)) (fun _ _ _ _ _=>(J.o (i:=0) (show List.Nodup [("number":Str)] by decide +kernel) rfl (Or.inl rfl))) (fun _ _ _ _ _=>J.y) (fun _ _ _ _ _=>(J.m D_whole_word (hr.mono (by decide)) rfl (J.b (J.a 0) J.d st_N) (he:=st_N) (hpl:=any0))) rfl trivial rfl (by decide +kernel) rfl (by decide +kernel))))),?_⟩
  walk_at "v"
  refine ⟨rfl,?_⟩
  walk_at "v"
  refine r_iL ?_
  walk_at "v"
  refine ⟨L,rfl,⟨_,SqL.of hL⟩,?_⟩
  refine compB_of (xs:=ns.map V.int) tells_list (fun H3 s3=>SqL.of (s3 _ _ hL)) (by rw [List.length_map];omega) (fun j ys G=>ys=sv ((ns.take j).map ww)) rfl ?_ ?_
  · rintro D2 j v ys2 H3 σ1 NN2 N02 g0 hD2 eD2 s3 hv hy2 rfl kY2 kN2
    obtain ⟨n,hn,rfl⟩:=ints_get hv
    refine r_own1 g0 ?_
    walk_at "v"
    refine iteT ?_
    walk_at "v"
    refine ⟨n,rfl,(hw n (List.mem_of_getElem? hn)).sz,fun H4 s4=>?_⟩
    exact kY2 _ H4 s4 (ww_snoc hn).symm
  · rintro D2 ys2 H3 nD2 eD2 s3 hy2 rfl
    rw [List.length_map,List.take_length,sv_strs] at eD2
    have hsum:=ww_sum ns hw
    have hjl:=jn_len (ns.map ww)
    rw [List.length_map] at hjl
    walk_at "v"
    rw [c_blank]
    refine ⟨_,D2,(ns.map ww).map tx,rfl,rfl,eD2,by rw [jn_fold,List.length_map];exact sizeBig (by omega),by rw [glue_jn,tx_len];exact sizeBig (by omega),?_⟩
    rw [glue_jn]
    exact k H3 s3
theorem ok_show_wholesT (F:Fun K "show_wholes" "show_wholes" s_show_wholes f fd) (T:Txt mg) (D_whole_word:Dn P w K mg base 2 "whole_word" ["number"] spWhole):FnOk P w K mg base CX0 3 f fd ["numbers"] spWsT:=by
  refine F.ok sc_show_wholes (fun vs H Q E h=>?_) (fun cdv A outer s H vs Q E hr h=>?_)
  · obtain ⟨L,ns,rfl,_⟩:=h
    rfl
  obtain ⟨L,ns,rfl,hL,hl,hw,k⟩:=h
  refine Jd.go ⟨_,(J.f (J.l (Jd.strM K PySem.F.slot_str_join PySem.F.type_str_join mt_join J.h (J.af (O:=["number"]) (N':=[]) (cap:=[]) rfl (Jd.piT K (J.a 0)) (fun _ _ _ _ _=>(J.o (i:=0) (show List.Nodup [("number":Str)] by decide +kernel) rfl (Or.inl rfl))) (fun _ _ _ _ _=>J.y) (fun _ _ _ _ _=>(J.m D_whole_word (hr.mono (by decide)) rfl (J.b (J.a 0) J.d st_N) (he:=st_N) (hpl:=any0))) rfl trivial rfl (by decide +kernel) rfl (by decide +kernel))))),?_⟩
  walk_at "v"
  refine ⟨rfl,?_⟩
  walk_at "v"
  refine r_iT ?_
  walk_at "v"
  refine ⟨L,rfl,⟨_,SqT.of hL⟩,?_⟩
  refine compB_of (xs:=ns.map V.int) tells_tup (fun H3 s3=>SqT.of (s3 _ _ hL)) (by rw [List.length_map];omega) (fun j ys G=>ys=sv ((ns.take j).map ww)) rfl ?_ ?_
  · rintro D2 j v ys2 H3 σ1 NN2 N02 g0 hD2 eD2 s3 hv hy2 rfl kY2 kN2
    obtain ⟨n,hn,rfl⟩:=ints_get hv
    refine r_own1 g0 ?_
    walk_at "v"
    refine iteT ?_
    walk_at "v"
    refine ⟨n,rfl,(hw n (List.mem_of_getElem? hn)).sz,fun H4 s4=>?_⟩
    exact kY2 _ H4 s4 (ww_snoc hn).symm
  · rintro D2 ys2 H3 nD2 eD2 s3 hy2 rfl
    rw [List.length_map,List.take_length,sv_strs] at eD2
    have hsum:=ww_sum ns hw
    have hjl:=jn_len (ns.map ww)
    rw [List.length_map] at hjl
    walk_at "v"
    rw [c_blank]
    refine ⟨_,D2,(ns.map ww).map tx,rfl,rfl,eD2,by rw [jn_fold,List.length_map];exact sizeBig (by omega),by rw [glue_jn,tx_len];exact sizeBig (by omega),?_⟩
    rw [glue_jn]
    exact k H3 s3
theorem ok_show_wholesB (F:Fun K "show_wholes" "show_wholes" s_show_wholes f fd) (T:Txt mg) (D_whole_word:Dn P w K mg base 2 "whole_word" ["number"] spWhole):FnOk P w K mg base CX0 3 f fd ["numbers"] spWsB:=
  FnOk.or (ok_show_wholes F T D_whole_word) (ok_show_wholesT F T D_whole_word)
theorem sc_show_paper:FnScope ["way","paper","lines","part"] ["way","paper"] (defScope s_show_paper):=⟨rfl,rfl,rfl,by decide +kernel,rfl,by decide +kernel,by decide +kernel⟩
theorem ok_show_paper (F:Fun K "show_paper" "show_paper" s_show_paper f fd) (T:Txt mg) (D_show_wholesB:Dn P w K mg base 3 "show_wholes" ["numbers"] spWsB):FnOk P w K mg base CX0 4 f fd ["way","paper"] spShowP:=by
  refine F.ok sc_show_paper (fun vs H Q E h=>?_) (fun cdv A outer s H vs Q E hr h=>?_)
  · obtain ⟨wy,R,zs,rfl,_⟩:=h
    rfl
  obtain ⟨wy,R,zs,rfl,hP,k⟩:=h
  refine Jd.go ⟨_,(J.e (J.n (J.x (Jd.pw_or (J.i op_eq (J.a 0) J.h (nomark _)) (Jd.pw_or1 (J.i op_eq (J.a 0) J.h (nomark _)))))
      (J.f (J.l (J.af (O:=["three"]) (N':=[]) (cap:=[]) rfl (Jd.piL K (J.a 1)) (fun _ _ _ _ _=>(J.o (i:=0) (show List.Nodup [("three":Str)] by decide +kernel) rfl (Or.inl rfl))) (fun _ _ _ _ _=>J.y) (fun _ _ _ _ _=>(J.m D_show_wholesB (hr.mono (by decide)) rfl (J.b (J.a 0) J.d st_N) (he:=st_N) (hpl:=any0))) rfl trivial rfl (by decide +kernel) rfl (by decide +kernel))))
      J.p)
      (J.e (J.j (i:=2) sc_show_paper.nd rfl (Or.inl rfl) (J.t J.d) (hs:=sw_L))
      (J.e (J.ab PassesOwn.never rfl (Jd.piL K (J.a 1)) (J.o (i:=3) sc_show_paper.nd rfl (Or.inl rfl))
      (J.e (J.s (J.w K (J.a 2) (J.g op_add_str J.h (J.m D_show_wholesB (hr.mono (by decide)) rfl (J.b (J.k (ixT K) (J.a 3) J.c (fun _ _=>rfl)) J.d st_S) (he:=st_S) (hpl:=any0)))) (hs:=sw_K))
      (J.f (J.s (Jd.extC K (J.a 2) (J.af (O:=["three"]) (N':=[]) (cap:=[]) rfl (Jd.piL K (J.k (ixT K) (J.a 3) J.c (fun _ _=>rfl))) (fun _ _ _ _ _=>(J.o (i:=0) (show List.Nodup [("three":Str)] by decide +kernel) rfl (Or.inl rfl))) (fun _ _ _ _ _=>J.y) (fun _ _ _ _ _=>(J.g op_add_str J.h (J.m D_show_wholesB (hr.mono (by decide)) rfl (J.b (J.a 0) J.d st_N) (he:=st_N) (hpl:=any0)))) rfl trivial rfl (by decide +kernel) rfl (by decide +kernel))) (hs:=sw_K)))))
      (J.f (J.l (J.a 2)))))),?_⟩
  walk_at "v"
  rw [c_apart]
  refine r_eqS ?_
  walk_at "v"
  refine' frS_by (wy:=wy) ?a ?b ?c
  case' a=>intro hA hf;rw [decide_eq_true hA];refine iteT ?_;walk_at "v";refine iteT ?_
  case' b=>intro hA hJ hf;rw [decide_eq_false hA];refine iteF ?_;walk_at "v";rw [c_joined];refine r_eqS ?_;walk_at "v";rw [decide_eq_true hJ];refine iteT ?_
  case' c=>intro hA hJ hf;rw [decide_eq_false hA];refine iteF ?_;walk_at "v";rw [c_joined];refine r_eqS ?_;walk_at "v";rw [decide_eq_false hJ];refine iteF ?_
  case c=>
    rw [hf] at hP
    obtain ⟨ps,eR,hps,hl,hl2,rfl⟩:=hP
    walk_at "v"
    refine r_new (mk:=.lst) (by simp) fun Z H1 s1 n1 e1=>?_
    walk_at "v"
    refine r_for (r_iL ?_)
    walk_at "v"
    refine ⟨R,rfl,⟨_,SqL.of (s1 _ _ eR)⟩,for_list (xs:=pv ps) (fun i σ H2=>∃v3:Option V,σ=[some (.str (tx wy)),some (.ref R),some (.ref Z),v3]∧Same H H2∧H2 Z=some (.lst (sv (pls (pd (ps.take i)))))∧(pls (pd (ps.take i))).length≤70*i) ⟨none,rfl,s1,e1,Nat.le_refl _⟩ ?_ ?_ ?_⟩
    · rintro i σ H2 _ ⟨v3,rfl,s2,_⟩
      exact SqL.of (s2 _ _ eR)
    · rintro i v σ H2 hv ⟨v3,rfl,s2,e2,hz⟩
      obtain ⟨x,hx,rfl⟩:=pv_at hv
      have mx:=List.mem_of_getElem? hx
      have hi:i<3:=by have:=(List.getElem?_eq_some_iff.mp hx).1;omega
      have ax:=(hps x mx).up s2
      obtain ⟨q1,q2⟩:=hl2 x mx
      walk_at "v"
      refine ⟨.inl ⟨rfl,_,SqL.of e2⟩,?_⟩
      walk_at "v"
      refine r_t0 ax.t ?_
      walk_at "v"
      refine .inl ⟨x.l,x.ns,rfl,ax.l,by omega,ax.wb,fun H3 s3=>?_⟩
      have hn:=nl_len ax.wb
      walk_at "v"
      rw [c_labB]
      refine ⟨_,_,rfl,rfl,by rw [tx_len,tx_len];exact sizeBig (by simp only [List.length_append,lab,List.length_cons,List.length_nil];omega),?_⟩
      rw [tx_app]
      walk_at "v"
      have e3:=s3 _ _ e2
      refine r_app e3 (by rw [sv_len];exact small1000 (by omega)) ?_
      have eZ4:upd H3 Z (.lst (sv (pls (pd (ps.take i)))++[V.str (tx (lab++[32]++nl x.ns))])) Z=some (.lst (sv (pls (pd (ps.take i))++[lab++32::nl x.ns]))):=by
        rw [upd_same]
        unfold sv
        rw [List.map_append,List.append_assoc]
        rfl
      have s4:Same H (upd H3 Z (.lst (sv (pls (pd (ps.take i)))++[V.str (tx (lab++[32]++nl x.ns))]))):=same_at (s2.trans s3) n1
      generalize upd H3 Z (.lst (sv (pls (pd (ps.take i)))++[V.str (tx (lab++[32]++nl x.ns))]))=H4 at eZ4 s4 ⊢
      have a4:=(hps x mx).up s4
      walk_at "v"
      refine ⟨.inl ⟨rfl,_,SqL.of eZ4⟩,?_⟩
      walk_at "v"
      refine r_iL ?_
      walk_at "v"
      refine r_t1 a4.t ?_
      walk_at "v"
      refine ⟨x.b,rfl,⟨_,SqL.of a4.b⟩,?_⟩
      refine compB_of (xs:=tv x.bs) tells_list (fun H5 s5=>SqL.of (s5 _ _ a4.b)) (by rw [tv_len];omega) (fun j ys G=>ys=sv (((x.bs.take j).map (·.2)).map fun v=>bar++32::nl v)) rfl ?_ ?_
      · rintro D2 j v ys2 H5 σ1 NN2 N02 g0 hD2 eD2 s5 hv hy2 rfl kY2 kN2
        obtain ⟨y,hy,rfl⟩:=tv_at hv
        obtain ⟨ey,h3,hw⟩:=(a4.bs.up s5) y (List.mem_of_getElem? hy)
        refine r_own1 g0 ?_
        walk_at "v"
        refine iteT ?_
        walk_at "v"
        refine .inr ⟨y.1,y.2,rfl,ey,by omega,hw,fun H6 s6=>?_⟩
        have hn:=nl_len hw
        rw [c_barB]
        refine ⟨_,_,rfl,rfl,by rw [tx_len,tx_len];exact sizeBig (by simp only [List.length_append,bar,List.length_cons,List.length_nil];omega),?_⟩
        rw [tx_app,List.append_assoc]
        refine kY2 _ H6 s6 ?_
        unfold sv
        rw [List.take_succ,hy,Option.toList_some,List.map_append,List.map_append,List.map_append]
        rfl
      · rintro D2 ys2 H5 nD2 eD2 s5 hy2 rfl
        rw [tv_len,List.take_length] at eD2
        walk_at "v"
        refine r_ext (s5 _ _ eZ4) eD2 (by simp only [sv_len,List.length_append,List.length_map,List.length_cons,List.length_nil];exact Nat.le_of_lt (small1000 (by omega))) ?_
        have ep:pls (pd (ps.take (i+1)))=(pls (pd (ps.take i))++[lab++32::nl x.ns])++(x.bs.map (·.2)).map (fun v=>bar++32::nl v):=by
          unfold pls pd
          rw [List.take_succ,hx,Option.toList_some,List.map_append,List.flatMap_append,List.append_assoc]
          simp
        refine ⟨_,rfl,same_at (s4.trans s5) n1,?_,?_⟩
        · rw [upd_same,ep]
          simp [sv]
        · rw [ep]
          simp only [List.length_append,List.length_map,List.length_cons,List.length_nil]
          omega
    · rintro σ H2 ⟨v3,rfl,s2,e2,hz⟩
      rw [pv_len,List.take_length] at e2
      walk_at "v"
      exact k Z H2 s2 n1 e2
  all_goals
    rw [hf] at hP
    obtain ⟨ts,eR,hts,hl,rfl⟩:=hP
    walk_at "v"
    refine r_iL ?_
    walk_at "v"
    refine ⟨R,rfl,⟨_,SqL.of eR⟩,?_⟩
    refine compB_of (xs:=tv ts) tells_list (fun H3 s3=>SqL.of (s3 _ _ eR)) (by rw [tv_len];omega) (fun j ys G=>ys=sv (((ts.take j).map (·.2)).map nl)) rfl ?_ ?_
    · rintro D2 j v ys2 H3 σ1 NN2 N02 g0 hD2 eD2 s3 hv hy2 rfl kY2 kN2
      obtain ⟨x,hx,rfl⟩:=tv_at hv
      obtain ⟨ex,h3,hw⟩:=(hts.up s3) x (List.mem_of_getElem? hx)
      refine r_own1 g0 ?_
      walk_at "v"
      refine iteT ?_
      walk_at "v"
      refine .inr ⟨x.1,x.2,rfl,ex,by omega,hw,fun H4 s4=>?_⟩
      refine kY2 _ H4 s4 ?_
      unfold sv
      rw [List.take_succ,hx,Option.toList_some,List.map_append,List.map_append,List.map_append]
      rfl
    · rintro D2 ys2 H3 nD2 eD2 s3 hy2 rfl
      rw [tv_len,List.take_length] at eD2
      exact k D2 H3 s3 nD2 eD2
theorem sc_wholes_of:FnScope ["words"] ["words"] (defScope s_wholes_of):=⟨rfl,rfl,rfl,by decide +kernel,rfl,by decide +kernel,by decide +kernel⟩
theorem ok_wholes_of (F:Fun K "wholes_of" "wholes_of" s_wholes_of f fd) (X_NoWord:Xc K mg "NoWord" c_NoWord) (DDX_read_whole:DnD (CXe P w) P w K mg base 2 "read_whole" ["word","figures"] (spReadX c_NoWord) 18):FnOk P w K mg base CX0 3 f fd ["words"] spWholes:=by
  refine F.ok sc_wholes_of (fun vs H Q E h=>?_) (fun cdv A outer s H vs Q E hr h=>?_)
  · obtain ⟨L,ws,rfl,_⟩:=h
    rfl
  obtain ⟨L,ws,rfl,hL,hl,hz,kn,ks⟩:=h
  refine Jd.go ⟨_,(J.f (Jd.ps_tryH rfl X_NoWord.at_ rfl rfl (fun pn' xe' E' hp' hH'=>(J.f (J.l (Jd.pe_compX (E:=E') (O:=["word"]) (N':=[]) (cap:=[]) rfl (Jd.piL K (J.a 0)) (fun _ _ _ _ _=>(J.o (i:=0) (show List.Nodup [("word":Str)] by decide +kernel) rfl (Or.inl rfl))) (fun _ _ _ _ _=>J.y) (fun _ _ _ _ _ _ hp'=>(Jd.pe_ddX DDX_read_whole hp' (hr.mono (by decide)) rfl (J.b (J.a 0) J.d st_N) (he:=st_N) (hpl:=any0))) rfl rfl hH' rfl trivial rfl (by decide +kernel) rfl (by decide +kernel)))))
      (fun e' pn'=>(J.f (J.l J.u))))),?_⟩
  walk_at "v"
  refine r_iL ?_
  walk_at "v"
  refine ⟨L,rfl,⟨_,SqL.of hL⟩,?_⟩
  refine compB_of (xs:=sv ws) tells_list (fun H4 s4=>SqL.of (s4 _ _ hL)) (by rw [sv_len];omega) (fun i ys G=>∃v:List Int,ys=v.map V.int∧(ws.take i).map (fun w=>wd w 18)=v.map some) ⟨[],rfl,rfl⟩ ?_ ?_
  · rintro D i x ys H4 σ0 NN N0 g0 hD eD s4 hv hy ⟨v,rfl,hm⟩ kY kN
    obtain ⟨z,hz',rfl⟩:=sv_at hv
    have lz:=hz z (List.mem_of_getElem? hz')
    refine r_own1 g0 ?_
    walk_at "v"
    refine iteT ?_
    walk_at "v"
    refine ⟨z,18,rfl,by omega,by decide,fun hn H5 s5=>⟨X_NoWord.self_,fun σ' hσ=>?_⟩,fun n hr H5 s5=>?_⟩
    · walk_at "v"
      exact kn (nums_none (List.mem_of_getElem? hz') hn) H5 (s4.trans s5)
    · refine kY _ H5 s5 ⟨v++[n],by simp,?_⟩
      rw [List.take_succ,hz',Option.toList_some,List.map_append,List.map_append,hm]
      simp [hr]
  · rintro D ys H4 nD eD s4 hy ⟨v,rfl,hm⟩
    rw [sv_len,List.take_length] at hm
    exact ks v (nums_some hm) D H4 s4 nD eD
theorem sc_three_of:FnScope ["words","numbers"] ["words"] (defScope s_three_of):=⟨rfl,rfl,rfl,by decide +kernel,rfl,by decide +kernel,by decide +kernel⟩
theorem ok_three_of (F:Fun K "three_of" "three_of" s_three_of f fd) (T:Txt mg) (D_wholes_of:Dn P w K mg base 3 "wholes_of" ["words"] spWholes):FnOk P w K mg base CX0 4 f fd ["words"] spThreeOf:=by
  refine F.ok sc_three_of (fun vs H Q E h=>?_) (fun cdv A outer s H vs Q E hr h=>?_)
  · obtain ⟨L,ws,rfl,_⟩:=h
    rfl
  obtain ⟨L,ws,rfl,hL,hl,hz,kn,ks⟩:=h
  refine Jd.go ⟨_,(J.e (J.j (i:=1) sc_three_of.nd rfl (Or.inl rfl) (J.m D_wholes_of (hr.mono (by decide)) rfl (J.b (J.a 0) J.d st_N) (he:=st_N) (hpl:=any0)) (hs:=sw_K))
      (J.f (J.l (Jd.pe_ifExp (J.x (J.ad (J.i op_notN (J.a 1) J.u (nomark _)) (Jd.pw_and1 (J.i op_eq (J.r (lenC K) rfl T.len_ PySem.boot_len (J.b (J.a 1) J.d st_N) (he:=st_N) (hpl:=any0)) J.c (nomark _))))) (J.aa call_tuple_of rfl T.tuple_ PyProof.Rows.boot_tuple (J.b (J.a 1) J.d st_N)) J.u)))),?_⟩
  walk_at "v"
  refine ⟨L,ws,rfl,hL,hl,hz,fun hn H1 s1=>?_,fun v hv R H1 s1 nR eR=>?_⟩
  · walk_at "v"
    refine ⟨rfl,?_⟩
    walk_at "v"
    refine iteF ?_
    walk_at "v"
    refine iteF ?_
    walk_at "v"
    refine kn ?_ H1 s1
    unfold th?
    rw [hn]
    split <;> rfl
  · have hvl:=nums_len hv
    walk_at "v"
    refine ⟨rfl,?_⟩
    walk_at "v"
    refine iteT ?_
    walk_at "v"
    refine r_len (.inl (SqL.of eR)) ?_
    rw [List.length_map]
    walk_at "v"
    by_cases h3:v.length=3
    · rw [decide_eq_true (show (v.length:Int)=3 by omega)]
      refine iteT ?_
      walk_at "v"
      refine ⟨R,_,rfl,.inl ⟨SqL.of eR,fun t nt=>?_⟩⟩
      have s5:Same H1 (upd H1 t (.tup (v.map V.int))):=same_new nt _
      exact ks v (by unfold th?;rw [if_pos (by omega)];exact hv) t _ (s1.trans s5) ⟨upd_same,h3,nums_wb hv⟩
    · rw [decide_eq_false (show ¬(v.length:Int)=3 by omega)]
      refine iteF ?_
      walk_at "v"
      exact kn (by unfold th?;rw [if_neg (by omega)]) H1 s1
end

theorem seq_cut3 {a b c u:TS} {D:Ends} {σ:L2.St} {H:Hp} (Pv:L2.St→Hp→Prop) (rest:∀σ' H',Pv σ' H'→u D σ' H') (h:∀N:L2.St→Hp→Prop,(∀σ' H',Pv σ' H'→N σ' H')→tSeq a (tSeq b c) { D with nx:=N } σ H):tSeq a (tSeq b (tSeq c u)) D σ H:=h (u D) rest
theorem small_log {i:Int} (h:i.natAbs<100000):i.natAbs.log2<1920:=by
  by_cases z:i.natAbs=0
  · rw [z];decide
  · exact (Nat.log2_lt z).mpr (Nat.lt_of_lt_of_le h (by decide +kernel))
theorem at_last {α:Type} {xs:List α} {x:α}:atI (xs++[x]) (-1)=some x:=by
  unfold atI
  rw [List.length_append,List.length_singleton,ix_last (m:=xs.length) rfl]
  show (xs++[x])[xs.length]?=some x
  rw [List.getElem?_append_right (Nat.le_refl _),Nat.sub_self]
  rfl
theorem sp_many {l:List Nat} (h:l.length≤100000):(sp l).length≤200000:=by
  rw [← sp_count]
  have:=List.count_le_length (a:=32) (l:=l)
  omega
noncomputable def NumAt (H H':Hp) (N:V) (ws:List (List Nat)):Prop:=(N=.non∧nums? ws=none)∨∃(R:Addr) (v:List Int),N=.ref R∧nums? ws=some v∧H R=none∧H' R=some (.lst (v.map V.int))
noncomputable def ThA (H':Hp) (N:V) (ws:List (List Nat)):Prop:=(N=.non∧th? ws=none)∨∃(R:Addr) (v:List Int),N=.ref R∧th? ws=some v∧T3At H' (R,v)
theorem stepP_lab {st:List Pt} {z:List Nat} {ws:List (List Nat)} (h:sp z=lab::ws):stepP st z=(lb? ws).map fun v=>st++[(v,[])]:=by
  unfold stepP
  rw [h]
  dsimp only
  rw [if_pos rfl]
theorem stepP_bar {st:List Pt} {z:List Nat} {ws:List (List Nat)} (h:sp z=bar::ws):stepP st z=if st≠[] then (th? ws).map fun v=>addb st v else none:=by
  unfold stepP
  rw [h]
  dsimp only
  rw [if_neg (show ¬bar=lab by decide)]
  by_cases q:st=[]
  · rw [if_neg (fun z=>z.2 q),if_neg (fun z=>z q)]
  · rw [if_pos ⟨rfl,q⟩,if_pos q]
section
variable {P:Program} {w:World} {K:PySem.W.Frag} {mg:Str→Option Value} {base:Heap} {f c_NoWord c_NoLine:Addr} {fd:FuncData}
theorem sc_read_threes:FnScope ["lines","paper","place","line","three"] ["lines"] (defScope s_read_threes):=⟨rfl,rfl,rfl,by decide +kernel,rfl,by decide +kernel,by decide +kernel⟩
theorem okX_read_threes (F:Fun K "read_threes" "read_threes" s_read_threes f fd) (T:Txt mg) (D_three_of:Dn P w K mg base 4 "three_of" ["words"] spThreeOf) (D_NoLine:Di P w K mg base 1 "NoLine" c_NoLine):FnOk P w K mg base (CXe P w) 5 f fd ["lines"] (spLinX true c_NoLine):=by
  refine Fun.okX F sc_read_threes (fun vs H Q E h=>?_) (fun cdv A outer s H vs Q E hr h=>?_)
  · obtain ⟨L,zs,rfl,_⟩:=h
    rfl
  obtain ⟨L,zs,rfl,⟨hL,hl,hz⟩,kb,kg⟩:=h
  refine Jd.go ⟨_,(J.e (J.j (i:=1) sc_read_threes.nd rfl (Or.inl rfl) (J.t J.d) (hs:=sw_L))
      (J.e (J.ab PassesOwn.leaving rfl (Jd.pi_enum K rfl T.enumerate_ (J.b (J.a 0) J.d st_N)) (Jd.pgT K (n:=2) rfl (J.ae (J.o (i:=2) sc_read_threes.nd rfl (Or.inl rfl)) (J.ae (J.o (i:=3) sc_read_threes.nd rfl (Or.inl rfl)) Jd.pgs_nil)))
      (J.e (J.j (i:=4) sc_read_threes.nd rfl (Or.inl rfl) (J.m D_three_of (hr.mono (by decide)) rfl (J.b (Jd.strM K PySem.F.slot_str_split PySem.F.type_str_split mt_split (J.a 3) J.h) J.d st_K) (he:=st_K) (hpl:=any0)) (hs:=sw_K))
      (J.e (J.n (J.i op_isN (J.a 4) J.u (nomark _))
      (J.f (Jd.ps_raiseI D_NoLine (hr.mono (by decide)) rfl (J.b (J.a 2) J.d st_N)))
      J.p)
      (J.f (J.s (J.w K (J.a 1) (J.a 4)) (hs:=sw_K))))))
      (J.f (J.l (J.a 1))))),?_⟩
  walk_at "v"
  refine r_new (mk:=.lst) (by simp) fun R H1 s1 n1 e1=>?_
  walk_at "v"
  refine r_for (r_enum ?_)
  walk_at "v"
  refine ⟨L,_,rfl,SqL.of (s1 _ _ hL),for_enum (xs:=sv zs) (fun i σ H3=>∃(ts:List T3) (v2 v3 v4:Option V),σ=[some (.ref L),some (.ref R),v2,v3,v4]∧Same H H3∧H3 R=some (.lst (tv ts))∧T3s H3 ts∧ts.length=i∧Sy step3 zs i (ts.map (·.2))) ?_ ?_ ?_ ?_⟩
  · exact ⟨[],none,none,none,rfl,s1,e1,fun x hx=>absurd hx (by simp),rfl,rfl⟩
  · rintro i σ H3 _ ⟨ts,v2,v3,v4,rfl,s3,_⟩
    exact SqL.of (s3 _ _ hL)
  · rintro i v σ H3 p H4 hv ⟨ts,v2,v3,v4,rfl,s3,e3,t3,hle,hsay⟩ s4 np ep
    obtain ⟨z,hzz,rfl⟩:=sv_at hv
    have hi:i<zs.length:=(List.getElem?_eq_some_iff.mp hzz).1
    have lz:=hz z (List.mem_of_getElem? hzz)
    have e4:=s4 _ _ e3
    refine r_unpack2 ep ?_
    walk_at "v"
    refine ⟨rfl,?_⟩
    walk_at "v"
    rw [c_blank]
    refine ⟨_,_,rfl,rfl,rfl,by rw [tx_len];exact sizeBig (by omega),fun q nq=>?_⟩
    rw [sp_sv]
    have s5:=same_new nq (.lst (sv (sp z)))
    have e5:upd H4 q (.lst (sv (sp z))) q=some (.lst (sv (sp z))):=upd_same
    generalize upd H4 q (.lst (sv (sp z)))=H5 at s5 e5 ⊢
    walk_at "v"
    refine ⟨q,sp z,rfl,e5,sp_many lz,fun y hy=>Nat.le_trans (sp_len y hy) lz,fun hn H6 s6=>?_,fun v hv' t H6 s6 ht=>?_⟩
    · have hbad:step3 (ts.map (·.2)) z=none:=by unfold step3;rw [hn];rfl
      walk_at "v"
      refine ⟨rfl,?_⟩
      walk_at "v"
      refine iteT ?_
      walk_at "v"
      exact ⟨_,rfl,small_log (by omega),fun d nd=>kb i ⟨_,z,hsay,hzz,hbad⟩ d _ (s3.trans (s4.trans (s5.trans s6))) nd⟩
    · have e6:=s6 _ _ (s5 _ _ e4)
      walk_at "v"
      refine ⟨rfl,?_⟩
      walk_at "v"
      refine iteF ?_
      walk_at "v"
      refine ⟨.inl ⟨rfl,_,SqL.of e6⟩,?_⟩
      walk_at "v"
      refine r_app e6 (by rw [tv_len];exact small1000 (by omega)) ?_
      refine ⟨ts++[(t,v)],_,_,_,rfl,same_at (s3.trans (s4.trans (s5.trans s6))) n1,by rw [upd_same,← tv_snoc],(((t3.up s4).up (s5.trans s6)).snoc ht).put e6,by rw [List.length_append,hle];rfl,?_⟩
      have:=hsay.next hzz
      unfold Sy
      rw [this,List.map_append]
      unfold step3
      rw [hv']
      rfl
  · rintro σ H3 ⟨ts,v2,v3,v4,rfl,s3,e3,t3,hle,hsay⟩
    rw [sv_len] at hsay hle
    walk_at "v"
    exact kg _ ⟨_,hsay,rfl⟩ R _ H3 s3 n1 e3 t3.dens (by rw [tv_len];omega)
theorem ok_read_threes (F:Fun K "read_threes" "read_threes" s_read_threes f fd) (T:Txt mg) (D_three_of:Dn P w K mg base 4 "three_of" ["words"] spThreeOf):FnOk P w K mg base CX0 5 f fd ["lines"] (spLinG true):=by
  refine F.ok sc_read_threes (fun vs H Q E h=>?_) (fun cdv A outer s H vs Q E hr h=>?_)
  · obtain ⟨L,zs,es,rfl,_⟩:=h
    rfl
  obtain ⟨L,zs,es,rfl,⟨hL,hl,hz⟩,kb,kg⟩:=h
  refine Jd.go ⟨_,(J.e (J.j (i:=1) sc_read_threes.nd rfl (Or.inl rfl) (J.t J.d) (hs:=sw_L))
      (J.e (J.ab PassesOwn.never rfl (Jd.pi_enum K rfl T.enumerate_ (J.b (J.a 0) J.d st_N)) (Jd.pgT K (n:=2) rfl (J.ae (J.o (i:=2) sc_read_threes.nd rfl (Or.inl rfl)) (J.ae (J.o (i:=3) sc_read_threes.nd rfl (Or.inl rfl)) Jd.pgs_nil)))
      (J.e (J.j (i:=4) sc_read_threes.nd rfl (Or.inl rfl) (J.m D_three_of (hr.mono (by decide)) rfl (J.b (Jd.strM K PySem.F.slot_str_split PySem.F.type_str_split mt_split (J.a 3) J.h) J.d st_K) (he:=st_K) (hpl:=any0)) (hs:=sw_K))
      (J.e (J.n (J.i op_isN (J.a 4) J.u (nomark _))
      (J.f Jd.ps_never)
      J.p)
      (J.f (J.s (J.w K (J.a 1) (J.a 4)) (hs:=sw_K))))))
      (J.f (J.l (J.a 1))))),?_⟩
  walk_at "v"
  refine r_new (mk:=.lst) (by simp) fun R H1 s1 n1 e1=>?_
  walk_at "v"
  refine r_for (r_enum ?_)
  walk_at "v"
  refine ⟨L,_,rfl,SqL.of (s1 _ _ hL),for_enum (xs:=sv zs) (fun i σ H3=>∃(ts:List T3) (v2 v3 v4:Option V),σ=[some (.ref L),some (.ref R),v2,v3,v4]∧Same H H3∧H3 R=some (.lst (tv ts))∧T3s H3 ts∧ts.length=i∧Sy step3 zs i (ts.map (·.2))) ?_ ?_ ?_ ?_⟩
  · exact ⟨[],none,none,none,rfl,s1,e1,fun x hx=>absurd hx (by simp),rfl,rfl⟩
  · rintro i σ H3 _ ⟨ts,v2,v3,v4,rfl,s3,_⟩
    exact SqL.of (s3 _ _ hL)
  · rintro i v σ H3 p H4 hv ⟨ts,v2,v3,v4,rfl,s3,e3,t3,hle,hsay⟩ s4 np ep
    obtain ⟨z,hzz,rfl⟩:=sv_at hv
    have hi:i<zs.length:=(List.getElem?_eq_some_iff.mp hzz).1
    have lz:=hz z (List.mem_of_getElem? hzz)
    have e4:=s4 _ _ e3
    refine r_unpack2 ep ?_
    walk_at "v"
    refine ⟨rfl,?_⟩
    walk_at "v"
    rw [c_blank]
    refine ⟨_,_,rfl,rfl,rfl,by rw [tx_len];exact sizeBig (by omega),fun q nq=>?_⟩
    rw [sp_sv]
    have s5:=same_new nq (.lst (sv (sp z)))
    have e5:upd H4 q (.lst (sv (sp z))) q=some (.lst (sv (sp z))):=upd_same
    generalize upd H4 q (.lst (sv (sp z)))=H5 at s5 e5 ⊢
    walk_at "v"
    refine ⟨q,sp z,rfl,e5,sp_many lz,fun y hy=>Nat.le_trans (sp_len y hy) lz,fun hn H6 s6=>?_,fun v hv' t H6 s6 ht=>?_⟩
    · have hbad:step3 (ts.map (·.2)) z=none:=by unfold step3;rw [hn];rfl
      exact (Bad.not (free:=true) ⟨_,z,hsay,hzz,hbad⟩ kb).elim
    · have e6:=s6 _ _ (s5 _ _ e4)
      walk_at "v"
      refine ⟨rfl,?_⟩
      walk_at "v"
      refine iteF ?_
      walk_at "v"
      refine ⟨.inl ⟨rfl,_,SqL.of e6⟩,?_⟩
      walk_at "v"
      refine r_app e6 (by rw [tv_len];exact small1000 (by omega)) ?_
      refine ⟨ts++[(t,v)],_,_,_,rfl,same_at (s3.trans (s4.trans (s5.trans s6))) n1,by rw [upd_same,← tv_snoc],(((t3.up s4).up (s5.trans s6)).snoc ht).put e6,by rw [List.length_append,hle];rfl,?_⟩
      have:=hsay.next hzz
      unfold Sy
      rw [this,List.map_append]
      unfold step3
      rw [hv']
      rfl
  · rintro σ H3 ⟨ts,v2,v3,v4,rfl,s3,e3,t3,hle,hsay⟩
    rw [sv_len] at hsay hle
    walk_at "v"
    exact kg _ ⟨_,hsay,rfl⟩ R _ H3 s3 n1 e3 t3.dens (by rw [tv_len];omega)
theorem sc_read_parts:FnScope ["lines","paper","place","line","words","numbers","three"] ["lines"] (defScope s_read_parts):=⟨rfl,rfl,rfl,by decide +kernel,rfl,by decide +kernel,by decide +kernel⟩
theorem okX_read_parts (F:Fun K "read_parts" "read_parts" s_read_parts f fd) (T:Txt mg) (D_three_of:Dn P w K mg base 4 "three_of" ["words"] spThreeOf) (D_wholes_of:Dn P w K mg base 3 "wholes_of" ["words"] spWholes) (D_NoLine:Di P w K mg base 1 "NoLine" c_NoLine):FnOk P w K mg base (CXe P w) 5 f fd ["lines"] (spLinX false c_NoLine):=by
  refine Fun.okX F sc_read_parts (fun vs H Q E h=>?_) (fun cdv A outer s H vs Q E hr h=>?_)
  · obtain ⟨L,zs,rfl,_⟩:=h
    rfl
  obtain ⟨L,zs,rfl,⟨hL,hl,hz⟩,kb,kg⟩:=h
  refine Jd.go ⟨_,(J.e (J.j (i:=1) sc_read_parts.nd rfl (Or.inl rfl) (J.t J.d) (hs:=sw_L))
      (J.e (J.ab PassesOwn.leaving rfl (Jd.pi_enum K rfl T.enumerate_ (J.b (J.a 0) J.d st_N)) (Jd.pgT K (n:=2) rfl (J.ae (J.o (i:=2) sc_read_parts.nd rfl (Or.inl rfl)) (J.ae (J.o (i:=3) sc_read_parts.nd rfl (Or.inl rfl)) Jd.pgs_nil)))
      (J.e (J.j (i:=4) sc_read_parts.nd rfl (Or.inl rfl) (Jd.strM K PySem.F.slot_str_split PySem.F.type_str_split mt_split (J.a 3) J.h) (hs:=sw_K))
      (J.e (J.j (i:=5) sc_read_parts.nd rfl (Or.inl rfl) (J.m D_wholes_of (hr.mono (by decide)) rfl (J.b (J.v (slL K) (J.a 4) (J.q J.c) J.z) J.d st_S) (he:=st_S) (hpl:=any0)) (hs:=sw_K))
      (J.e (J.j (i:=6) sc_read_parts.nd rfl (Or.inl rfl) (J.m D_three_of (hr.mono (by decide)) rfl (J.b (J.v (slL K) (J.a 4) (J.q J.c) J.z) J.d st_S) (he:=st_S) (hpl:=any0)) (hs:=sw_K))
      (J.f (J.n (J.x (J.ad (J.i op_eq (J.k (ixL K) (J.a 4) J.c (fun _ _=>rfl)) J.h (nomark _)) (J.ad (J.i op_notN (J.a 5) J.u (nomark _)) (Jd.pw_and1 (J.i op_gt (J.r (lenC K) rfl T.len_ PySem.boot_len (J.b (J.a 5) J.d st_N) (he:=st_N) (hpl:=any0)) J.c (nomark _))))))
      (J.f (J.s (J.w K (J.a 1) (Jd.pe_tup (J.b (J.a 5) (J.b (J.t J.d) J.d st_L) st_N))) (hs:=sw_K)))
      (J.f (J.n (J.x (J.ad (J.i op_eq (J.k (ixL K) (J.a 4) J.c (fun _ _=>rfl)) J.h (nomark _)) (J.ad (J.i op_notN (J.a 6) J.u (nomark _)) (Jd.pw_and1 (J.i op_gt (J.r (lenC K) rfl T.len_ PySem.boot_len (J.b (J.a 1) J.d st_N) (he:=st_N) (hpl:=any0)) J.c (nomark _))))))
      (J.f (J.s (J.w K (J.k (ixT K) (J.k (ixL K) (J.a 1) (Jd.pe_un un_neg J.c) (fun _ _=>rfl)) J.c (fun _ _=>rfl)) (J.a 6)) (hs:=sw_K)))
      (J.f (Jd.ps_raiseI D_NoLine (hr.mono (by decide)) rfl (J.b (J.a 2) J.d st_N)))))))))))
      (J.f (J.l (J.a 1))))),?_⟩
  walk_at "v"
  refine r_new (mk:=.lst) (by simp) fun R H1 s1 n1 e1=>?_
  walk_at "v"
  refine r_for (r_enum ?_)
  walk_at "v"
  refine ⟨L,_,rfl,SqL.of (s1 _ _ hL),for_enum (xs:=sv zs) (fun i σ H3=>∃(ps:List Pa) (v2 v3 v4 v5 v6:Option V),σ=[some (.ref L),some (.ref R),v2,v3,v4,v5,v6]∧PapI H H3 R ps∧ps.length≤i∧(∀x∈ps,x.bs.length≤i)∧Sy stepP zs i (pd ps)) ?_ ?_ ?_ ?_⟩
  · exact ⟨[],none,none,none,none,none,rfl,⟨s1,e1,n1,fun x hx=>absurd hx (by simp),by simp [adr],fun x hx=>absurd hx (by simp [adr])⟩,Nat.le_refl _,fun x hx=>absurd hx (by simp),rfl⟩
  · rintro i σ H3 _ ⟨ps,v2,v3,v4,v5,v6,rfl,I,_⟩
    exact SqL.of (I.sm _ _ hL)
  · rintro i v σ H3 p H4 hv ⟨ps,v2,v3,v4,v5,v6,rfl,I,hle,hbl,hsay⟩ s4 np ep
    obtain ⟨z,hzz,rfl⟩:=sv_at hv
    have hi:i<zs.length:=(List.getElem?_eq_some_iff.mp hzz).1
    have lz:=hz z (List.mem_of_getElem? hzz)
    have hnx:=hsay.next hzz
    obtain ⟨w0,ws,hsp⟩:∃w0 ws,sp z=w0::ws:=by
      cases e:sp z with
      | nil=>exact absurd e (sp_ne z)
      | cons a b=>exact ⟨a,b,rfl⟩
    have hwl:ws.length≤200000:=by have:=sp_many lz;rw [hsp,List.length_cons] at this;omega
    have hwz:∀y∈ws,y.length≤100000:=fun y hy=>Nat.le_trans (sp_len y (by rw [hsp];exact List.mem_cons_of_mem _ hy)) lz
    refine r_unpack2 ep ?_
    refine seq_cut3 (fun σ' H'=>∃(W:Addr) (N TV:V),σ'=[some (.ref L),some (.ref R),some (.int (i:Int)),some (.str (tx z)),some (.ref W),some N,some TV]∧Same H4 H'∧H' W=some (.lst (sv (w0::ws)))∧NumAt H4 H' N ws∧ThA H' TV ws) ?_ ?_
    · rintro σ' H5 ⟨W,N,TV,rfl,s5,eW,hN,hT⟩
      have I5:=(I.up s4).up s5
      walk_at "v"
      refine r_l eW at0 ?_
      rw [c_lab]
      walk_at "v"
      refine r_eqS ?_
      walk_at "v"
      by_cases h0:w0=lab
      · subst h0
        rw [decide_eq_true rfl]
        refine iteT ?_
        walk_at "v"
        rw [stepP_lab hsp] at hnx
        rcases hN with ⟨rfl,hn⟩ | ⟨B,v,rfl,hn,nB,eB⟩
        · have hbad:stepP (pd ps) z=none:=by rw [stepP_lab hsp];unfold lb?;rw [hn];split <;> rfl
          refine ⟨rfl,?_⟩
          walk_at "v"
          refine iteF ?_
          walk_at "v"
          refine iteF ?_
          walk_at "v"
          refine r_l eW at0 ?_
          rw [c_bar]
          walk_at "v"
          refine r_eqS ?_
          walk_at "v"
          rw [decide_eq_false (show ¬lab=bar by decide)]
          refine iteF ?_
          walk_at "v"
          refine iteF ?_
          walk_at "v"
          exact ⟨_,rfl,small_log (by omega),fun d nd=>kb i ⟨_,z,hsay,hzz,hbad⟩ d _ I5.sm nd⟩
        · refine ⟨rfl,?_⟩
          walk_at "v"
          refine iteT ?_
          walk_at "v"
          refine r_len (.inl (SqL.of eB)) ?_
          rw [List.length_map]
          walk_at "v"
          have hvl:=nums_len hn
          by_cases h1:ws.length=0
          · have hbad:stepP (pd ps) z=none:=by rw [stepP_lab hsp];unfold lb?;rw [if_pos h1];rfl
            rw [decide_eq_false (show ¬(v.length:Int)>0 by omega)]
            refine iteF ?_
            walk_at "v"
            refine r_l eW at0 ?_
            rw [c_bar]
            walk_at "v"
            refine r_eqS ?_
            walk_at "v"
            rw [decide_eq_false (show ¬lab=bar by decide)]
            refine iteF ?_
            walk_at "v"
            refine iteF ?_
            walk_at "v"
            exact ⟨_,rfl,small_log (by omega),fun d nd=>kb i ⟨_,z,hsay,hzz,hbad⟩ d _ I5.sm nd⟩
          · rw [decide_eq_true (show (v.length:Int)>0 by omega)]
            refine iteT ?_
            walk_at "v"
            refine ⟨.inl ⟨rfl,_,SqL.of I5.r⟩,?_⟩
            walk_at "v"
            refine r_new (mk:=.lst) (by simp) fun b H6 s6 n6 e6=>?_
            walk_at "v"
            refine r_new (mk:=.tup) (by simp) fun t H7 s7 n7 e7=>?_
            walk_at "v"
            have I4:=I.up s4
            have I7:=(I5.up s6).up s7
            refine r_app I7.r (by rw [pv_len];exact small1000 (by omega)) ?_
            refine ⟨ps++[⟨t,B,b,v,[]⟩],_,_,_,_,_,rfl,I7.push (x:=⟨t,B,b,v,[]⟩) ⟨e7,s7 _ _ (s6 _ _ eB),s7 _ _ e6,fun x hx=>absurd hx List.not_mem_nil,nums_wb hn⟩ (fun z=>I4.has z nB) (fun z=>I5.has z n6) (fun z=>?_) (I4.sm.free nB) (I5.sm.free n6),by rw [List.length_append];simp;omega,fun x hx=>?_,?_⟩
            · have z:B=b:=z
              rw [← z,eB] at n6
              cases n6
            · rcases List.mem_append.mp hx with q | q
              · exact Nat.le_succ_of_le (hbl x q)
              · obtain rfl:x=⟨t,B,b,v,[]⟩:=by simpa using q
                exact Nat.zero_le _
            · unfold Sy
              rw [hnx]
              unfold lb?
              rw [if_neg h1,hn]
              unfold pd
              rw [List.map_append]
              rfl
      · rw [decide_eq_false h0]
        refine iteF ?_
        walk_at "v"
        refine iteF ?_
        walk_at "v"
        refine r_l eW at0 ?_
        rw [c_bar]
        walk_at "v"
        refine r_eqS ?_
        walk_at "v"
        by_cases h1:w0=bar
        · subst h1
          rw [decide_eq_true rfl]
          refine iteT ?_
          walk_at "v"
          rcases hT with ⟨rfl,hn⟩ | ⟨t,v,rfl,hn,ht⟩
          · have hbad:stepP (pd ps) z=none:=by rw [stepP_bar hsp,hn];split <;> rfl
            refine ⟨rfl,?_⟩
            walk_at "v"
            refine iteF ?_
            walk_at "v"
            refine iteF ?_
            walk_at "v"
            exact ⟨_,rfl,small_log (by omega),fun d nd=>kb i ⟨_,z,hsay,hzz,hbad⟩ d _ I5.sm nd⟩
          · refine ⟨rfl,?_⟩
            walk_at "v"
            refine iteT ?_
            walk_at "v"
            refine r_len (.inl (SqL.of I5.r)) ?_
            rw [pv_len]
            walk_at "v"
            rcases List.eq_nil_or_concat ps with rfl | ⟨qs,x,rfl⟩
            · have hbad:stepP (pd []) z=none:=by rw [stepP_bar hsp,if_neg (by simp [pd])]
              rw [decide_eq_false (show ¬(([]:List Pa).length:Int)>0 by simp)]
              refine iteF ?_
              walk_at "v"
              exact ⟨_,rfl,small_log (by omega),fun d nd=>kb i ⟨_,z,hsay,hzz,hbad⟩ d _ I5.sm nd⟩
            · rw [List.concat_eq_append] at *
              have hx:=I5.at_ x (by simp)
              rw [decide_eq_true (show ((qs++[x]).length:Int)>0 by rw [List.length_append];simp)]
              refine iteT ?_
              walk_at "v"
              refine r_l I5.r (by rw [← pv_snoc];exact at_last) ?_
              walk_at "v"
              refine r_t1 hx.t ?_
              walk_at "v"
              refine ⟨.inl ⟨rfl,_,SqL.of hx.b⟩,?_⟩
              walk_at "v"
              refine r_app hx.b (by rw [tv_len];exact small1000 (by have:=hbl x (by simp);omega)) ?_
              refine ⟨_,_,_,_,_,_,rfl,I5.bar ht,by simpa using Nat.le_succ_of_le hle,fun y hy=>?_,?_⟩
              · rcases List.mem_append.mp hy with q | q
                · exact Nat.le_succ_of_le (hbl y (by simp [q]))
                · obtain rfl:y={x with bs:=x.bs++[(t,v)]}:=by simpa using q
                  show (x.bs++[(t,v)]).length≤i+1
                  have:=hbl x (by simp)
                  rw [List.length_append,List.length_singleton]
                  omega
              · unfold Sy
                rw [hnx,stepP_bar hsp,if_pos (by simp [pd]),hn]
                show some (addb (pd (qs++[x])) v)=_
                unfold pd
                rw [List.map_append,List.map_append]
                show some (addb (_++[_]) v)=_
                rw [addb_snoc]
                simp
        · have hbad:stepP (pd ps) z=none:=by
            unfold stepP
            rw [hsp]
            dsimp only
            rw [if_neg h0,if_neg (fun q=>h1 q.1)]
          rw [decide_eq_false h1]
          refine iteF ?_
          walk_at "v"
          refine iteF ?_
          walk_at "v"
          exact ⟨_,rfl,small_log (by omega),fun d nd=>kb i ⟨_,z,hsay,hzz,hbad⟩ d _ I5.sm nd⟩
    · intro NN kN
      walk_at "v"
      refine ⟨rfl,?_⟩
      walk_at "v"
      rw [c_blank]
      refine ⟨_,_,rfl,rfl,rfl,by rw [tx_len];exact sizeBig (by omega),fun W nW=>?_⟩
      rw [sp_sv,hsp]
      have s5:=same_new nW (.lst (sv (w0::ws)))
      have e5:upd H4 W (.lst (sv (w0::ws))) W=some (.lst (sv (w0::ws))):=upd_same
      generalize upd H4 W (.lst (sv (w0::ws)))=H5 at s5 e5 ⊢
      walk_at "vd"
      refine r_slL e5 fun B H6 s6 n6 e6=>?_
      have ec:cutV (sv (w0::ws)) (some 1) none=sv ws:=cutk _ 1
      rw [ec] at e6
      walk_at "v"
      refine ⟨B,ws,rfl,e6,hwl,hwz,fun hn H7 s7=>?_,fun v hv R7 H7 s7 n7 e7=>?_⟩
      · have e7:=s7 _ _ (s6 _ _ e5)
        walk_at "vd"
        refine r_slL e7 fun B2 H8 s8 n8 e8=>?_
        rw [ec] at e8
        walk_at "v"
        refine ⟨B2,ws,rfl,e8,hwl,hwz,fun hm H9 s9=>?_,fun v hm t H9 s9 ht=>?_⟩
        · exact kN _ _ ⟨W,_,_,rfl,s5.trans (s6.trans (s7.trans (s8.trans s9))),s9 _ _ (s8 _ _ e7),.inl ⟨rfl,hn⟩,.inl ⟨rfl,hm⟩⟩
        · have:=(th_3 hm).2
          rw [hn] at this
          cases this
      · have e7':=s7 _ _ (s6 _ _ e5)
        have n4:H4 R7=none:=(s5.trans s6).free n7
        walk_at "vd"
        refine r_slL e7' fun B2 H8 s8 n8 e8=>?_
        rw [ec] at e8
        walk_at "v"
        refine ⟨B2,ws,rfl,e8,hwl,hwz,fun hm H9 s9=>?_,fun v2 hm t H9 s9 ht=>?_⟩
        · exact kN _ _ ⟨W,_,_,rfl,s5.trans (s6.trans (s7.trans (s8.trans s9))),s9 _ _ (s8 _ _ e7'),.inr ⟨R7,v,rfl,hv,n4,s9 _ _ (s8 _ _ e7)⟩,.inl ⟨rfl,hm⟩⟩
        · exact kN _ _ ⟨W,_,_,rfl,s5.trans (s6.trans (s7.trans (s8.trans s9))),s9 _ _ (s8 _ _ e7'),.inr ⟨R7,v,rfl,hv,n4,s9 _ _ (s8 _ _ e7)⟩,.inr ⟨t,v2,rfl,hm,ht⟩⟩
  · rintro σ H3 ⟨ps,v2,v3,v4,v5,v6,rfl,I,hle,hbl,hsay⟩
    rw [sv_len] at hsay hle
    walk_at "v"
    exact kg _ ⟨_,hsay,rfl⟩ R _ H3 I.sm I.nr I.r (pas_dens I.at_) (by rw [pv_len];omega)
theorem ok_read_parts (F:Fun K "read_parts" "read_parts" s_read_parts f fd) (T:Txt mg) (D_three_of:Dn P w K mg base 4 "three_of" ["words"] spThreeOf) (D_wholes_of:Dn P w K mg base 3 "wholes_of" ["words"] spWholes):FnOk P w K mg base CX0 5 f fd ["lines"] (spLinG false):=by
  refine F.ok sc_read_parts (fun vs H Q E h=>?_) (fun cdv A outer s H vs Q E hr h=>?_)
  · obtain ⟨L,zs,es,rfl,_⟩:=h
    rfl
  obtain ⟨L,zs,es,rfl,⟨hL,hl,hz⟩,kb,kg⟩:=h
  refine Jd.go ⟨_,(J.e (J.j (i:=1) sc_read_parts.nd rfl (Or.inl rfl) (J.t J.d) (hs:=sw_L))
      (J.e (J.ab PassesOwn.never rfl (Jd.pi_enum K rfl T.enumerate_ (J.b (J.a 0) J.d st_N)) (Jd.pgT K (n:=2) rfl (J.ae (J.o (i:=2) sc_read_parts.nd rfl (Or.inl rfl)) (J.ae (J.o (i:=3) sc_read_parts.nd rfl (Or.inl rfl)) Jd.pgs_nil)))
      (J.e (J.j (i:=4) sc_read_parts.nd rfl (Or.inl rfl) (Jd.strM K PySem.F.slot_str_split PySem.F.type_str_split mt_split (J.a 3) J.h) (hs:=sw_K))
      (J.e (J.j (i:=5) sc_read_parts.nd rfl (Or.inl rfl) (J.m D_wholes_of (hr.mono (by decide)) rfl (J.b (J.v (slL K) (J.a 4) (J.q J.c) J.z) J.d st_S) (he:=st_S) (hpl:=any0)) (hs:=sw_K))
      (J.e (J.j (i:=6) sc_read_parts.nd rfl (Or.inl rfl) (J.m D_three_of (hr.mono (by decide)) rfl (J.b (J.v (slL K) (J.a 4) (J.q J.c) J.z) J.d st_S) (he:=st_S) (hpl:=any0)) (hs:=sw_K))
      (J.f (J.n (J.x (J.ad (J.i op_eq (J.k (ixL K) (J.a 4) J.c (fun _ _=>rfl)) J.h (nomark _)) (J.ad (J.i op_notN (J.a 5) J.u (nomark _)) (Jd.pw_and1 (J.i op_gt (J.r (lenC K) rfl T.len_ PySem.boot_len (J.b (J.a 5) J.d st_N) (he:=st_N) (hpl:=any0)) J.c (nomark _))))))
      (J.f (J.s (J.w K (J.a 1) (Jd.pe_tup (J.b (J.a 5) (J.b (J.t J.d) J.d st_L) st_N))) (hs:=sw_K)))
      (J.f (J.n (J.x (J.ad (J.i op_eq (J.k (ixL K) (J.a 4) J.c (fun _ _=>rfl)) J.h (nomark _)) (J.ad (J.i op_notN (J.a 6) J.u (nomark _)) (Jd.pw_and1 (J.i op_gt (J.r (lenC K) rfl T.len_ PySem.boot_len (J.b (J.a 1) J.d st_N) (he:=st_N) (hpl:=any0)) J.c (nomark _))))))
      (J.f (J.s (J.w K (J.k (ixT K) (J.k (ixL K) (J.a 1) (Jd.pe_un un_neg J.c) (fun _ _=>rfl)) J.c (fun _ _=>rfl)) (J.a 6)) (hs:=sw_K)))
      (J.f Jd.ps_never)))))))))
      (J.f (J.l (J.a 1))))),?_⟩
  walk_at "v"
  refine r_new (mk:=.lst) (by simp) fun R H1 s1 n1 e1=>?_
  walk_at "v"
  refine r_for (r_enum ?_)
  walk_at "v"
  refine ⟨L,_,rfl,SqL.of (s1 _ _ hL),for_enum (xs:=sv zs) (fun i σ H3=>∃(ps:List Pa) (v2 v3 v4 v5 v6:Option V),σ=[some (.ref L),some (.ref R),v2,v3,v4,v5,v6]∧PapI H H3 R ps∧ps.length≤i∧(∀x∈ps,x.bs.length≤i)∧Sy stepP zs i (pd ps)) ?_ ?_ ?_ ?_⟩
  · exact ⟨[],none,none,none,none,none,rfl,⟨s1,e1,n1,fun x hx=>absurd hx (by simp),by simp [adr],fun x hx=>absurd hx (by simp [adr])⟩,Nat.le_refl _,fun x hx=>absurd hx (by simp),rfl⟩
  · rintro i σ H3 _ ⟨ps,v2,v3,v4,v5,v6,rfl,I,_⟩
    exact SqL.of (I.sm _ _ hL)
  · rintro i v σ H3 p H4 hv ⟨ps,v2,v3,v4,v5,v6,rfl,I,hle,hbl,hsay⟩ s4 np ep
    obtain ⟨z,hzz,rfl⟩:=sv_at hv
    have hi:i<zs.length:=(List.getElem?_eq_some_iff.mp hzz).1
    have lz:=hz z (List.mem_of_getElem? hzz)
    have hnx:=hsay.next hzz
    obtain ⟨w0,ws,hsp⟩:∃w0 ws,sp z=w0::ws:=by
      cases e:sp z with
      | nil=>exact absurd e (sp_ne z)
      | cons a b=>exact ⟨a,b,rfl⟩
    have hwl:ws.length≤200000:=by have:=sp_many lz;rw [hsp,List.length_cons] at this;omega
    have hwz:∀y∈ws,y.length≤100000:=fun y hy=>Nat.le_trans (sp_len y (by rw [hsp];exact List.mem_cons_of_mem _ hy)) lz
    refine r_unpack2 ep ?_
    refine seq_cut3 (fun σ' H'=>∃(W:Addr) (N TV:V),σ'=[some (.ref L),some (.ref R),some (.int (i:Int)),some (.str (tx z)),some (.ref W),some N,some TV]∧Same H4 H'∧H' W=some (.lst (sv (w0::ws)))∧NumAt H4 H' N ws∧ThA H' TV ws) ?_ ?_
    · rintro σ' H5 ⟨W,N,TV,rfl,s5,eW,hN,hT⟩
      have I5:=(I.up s4).up s5
      walk_at "v"
      refine r_l eW at0 ?_
      rw [c_lab]
      walk_at "v"
      refine r_eqS ?_
      walk_at "v"
      by_cases h0:w0=lab
      · subst h0
        rw [decide_eq_true rfl]
        refine iteT ?_
        walk_at "v"
        rw [stepP_lab hsp] at hnx
        rcases hN with ⟨rfl,hn⟩ | ⟨B,v,rfl,hn,nB,eB⟩
        · have hbad:stepP (pd ps) z=none:=by rw [stepP_lab hsp];unfold lb?;rw [hn];split <;> rfl
          exact (Bad.not (free:=false) ⟨_,z,hsay,hzz,hbad⟩ kb).elim
        · refine ⟨rfl,?_⟩
          walk_at "v"
          refine iteT ?_
          walk_at "v"
          refine r_len (.inl (SqL.of eB)) ?_
          rw [List.length_map]
          walk_at "v"
          have hvl:=nums_len hn
          by_cases h1:ws.length=0
          · have hbad:stepP (pd ps) z=none:=by rw [stepP_lab hsp];unfold lb?;rw [if_pos h1];rfl
            exact (Bad.not (free:=false) ⟨_,z,hsay,hzz,hbad⟩ kb).elim
          · rw [decide_eq_true (show (v.length:Int)>0 by omega)]
            refine iteT ?_
            walk_at "v"
            refine ⟨.inl ⟨rfl,_,SqL.of I5.r⟩,?_⟩
            walk_at "v"
            refine r_new (mk:=.lst) (by simp) fun b H6 s6 n6 e6=>?_
            walk_at "v"
            refine r_new (mk:=.tup) (by simp) fun t H7 s7 n7 e7=>?_
            walk_at "v"
            have I4:=I.up s4
            have I7:=(I5.up s6).up s7
            refine r_app I7.r (by rw [pv_len];exact small1000 (by omega)) ?_
            refine ⟨ps++[⟨t,B,b,v,[]⟩],_,_,_,_,_,rfl,I7.push (x:=⟨t,B,b,v,[]⟩) ⟨e7,s7 _ _ (s6 _ _ eB),s7 _ _ e6,fun x hx=>absurd hx List.not_mem_nil,nums_wb hn⟩ (fun z=>I4.has z nB) (fun z=>I5.has z n6) (fun z=>?_) (I4.sm.free nB) (I5.sm.free n6),by rw [List.length_append];simp;omega,fun x hx=>?_,?_⟩
            · have z:B=b:=z
              rw [← z,eB] at n6
              cases n6
            · rcases List.mem_append.mp hx with q | q
              · exact Nat.le_succ_of_le (hbl x q)
              · obtain rfl:x=⟨t,B,b,v,[]⟩:=by simpa using q
                exact Nat.zero_le _
            · unfold Sy
              rw [hnx]
              unfold lb?
              rw [if_neg h1,hn]
              unfold pd
              rw [List.map_append]
              rfl
      · rw [decide_eq_false h0]
        refine iteF ?_
        walk_at "v"
        refine iteF ?_
        walk_at "v"
        refine r_l eW at0 ?_
        rw [c_bar]
        walk_at "v"
        refine r_eqS ?_
        walk_at "v"
        by_cases h1:w0=bar
        · subst h1
          rw [decide_eq_true rfl]
          refine iteT ?_
          walk_at "v"
          rcases hT with ⟨rfl,hn⟩ | ⟨t,v,rfl,hn,ht⟩
          · have hbad:stepP (pd ps) z=none:=by rw [stepP_bar hsp,hn];split <;> rfl
            exact (Bad.not (free:=false) ⟨_,z,hsay,hzz,hbad⟩ kb).elim
          · refine ⟨rfl,?_⟩
            walk_at "v"
            refine iteT ?_
            walk_at "v"
            refine r_len (.inl (SqL.of I5.r)) ?_
            rw [pv_len]
            walk_at "v"
            rcases List.eq_nil_or_concat ps with rfl | ⟨qs,x,rfl⟩
            · have hbad:stepP (pd []) z=none:=by rw [stepP_bar hsp,if_neg (by simp [pd])]
              exact (Bad.not (free:=false) ⟨_,z,hsay,hzz,hbad⟩ kb).elim
            · rw [List.concat_eq_append] at *
              have hx:=I5.at_ x (by simp)
              rw [decide_eq_true (show ((qs++[x]).length:Int)>0 by rw [List.length_append];simp)]
              refine iteT ?_
              walk_at "v"
              refine r_l I5.r (by rw [← pv_snoc];exact at_last) ?_
              walk_at "v"
              refine r_t1 hx.t ?_
              walk_at "v"
              refine ⟨.inl ⟨rfl,_,SqL.of hx.b⟩,?_⟩
              walk_at "v"
              refine r_app hx.b (by rw [tv_len];exact small1000 (by have:=hbl x (by simp);omega)) ?_
              refine ⟨_,_,_,_,_,_,rfl,I5.bar ht,by simpa using Nat.le_succ_of_le hle,fun y hy=>?_,?_⟩
              · rcases List.mem_append.mp hy with q | q
                · exact Nat.le_succ_of_le (hbl y (by simp [q]))
                · obtain rfl:y={x with bs:=x.bs++[(t,v)]}:=by simpa using q
                  show (x.bs++[(t,v)]).length≤i+1
                  have:=hbl x (by simp)
                  rw [List.length_append,List.length_singleton]
                  omega
              · unfold Sy
                rw [hnx,stepP_bar hsp,if_pos (by simp [pd]),hn]
                show some (addb (pd (qs++[x])) v)=_
                unfold pd
                rw [List.map_append,List.map_append]
                show some (addb (_++[_]) v)=_
                rw [addb_snoc]
                simp
        · have hbad:stepP (pd ps) z=none:=by
            unfold stepP
            rw [hsp]
            dsimp only
            rw [if_neg h0,if_neg (fun q=>h1 q.1)]
          exact (Bad.not (free:=false) ⟨_,z,hsay,hzz,hbad⟩ kb).elim
    · intro NN kN
      walk_at "v"
      refine ⟨rfl,?_⟩
      walk_at "v"
      rw [c_blank]
      refine ⟨_,_,rfl,rfl,rfl,by rw [tx_len];exact sizeBig (by omega),fun W nW=>?_⟩
      rw [sp_sv,hsp]
      have s5:=same_new nW (.lst (sv (w0::ws)))
      have e5:upd H4 W (.lst (sv (w0::ws))) W=some (.lst (sv (w0::ws))):=upd_same
      generalize upd H4 W (.lst (sv (w0::ws)))=H5 at s5 e5 ⊢
      walk_at "vd"
      refine r_slL e5 fun B H6 s6 n6 e6=>?_
      have ec:cutV (sv (w0::ws)) (some 1) none=sv ws:=cutk _ 1
      rw [ec] at e6
      walk_at "v"
      refine ⟨B,ws,rfl,e6,hwl,hwz,fun hn H7 s7=>?_,fun v hv R7 H7 s7 n7 e7=>?_⟩
      · have e7:=s7 _ _ (s6 _ _ e5)
        walk_at "vd"
        refine r_slL e7 fun B2 H8 s8 n8 e8=>?_
        rw [ec] at e8
        walk_at "v"
        refine ⟨B2,ws,rfl,e8,hwl,hwz,fun hm H9 s9=>?_,fun v hm t H9 s9 ht=>?_⟩
        · exact kN _ _ ⟨W,_,_,rfl,s5.trans (s6.trans (s7.trans (s8.trans s9))),s9 _ _ (s8 _ _ e7),.inl ⟨rfl,hn⟩,.inl ⟨rfl,hm⟩⟩
        · have:=(th_3 hm).2
          rw [hn] at this
          cases this
      · have e7':=s7 _ _ (s6 _ _ e5)
        have n4:H4 R7=none:=(s5.trans s6).free n7
        walk_at "vd"
        refine r_slL e7' fun B2 H8 s8 n8 e8=>?_
        rw [ec] at e8
        walk_at "v"
        refine ⟨B2,ws,rfl,e8,hwl,hwz,fun hm H9 s9=>?_,fun v2 hm t H9 s9 ht=>?_⟩
        · exact kN _ _ ⟨W,_,_,rfl,s5.trans (s6.trans (s7.trans (s8.trans s9))),s9 _ _ (s8 _ _ e7'),.inr ⟨R7,v,rfl,hv,n4,s9 _ _ (s8 _ _ e7)⟩,.inl ⟨rfl,hm⟩⟩
        · exact kN _ _ ⟨W,_,_,rfl,s5.trans (s6.trans (s7.trans (s8.trans s9))),s9 _ _ (s8 _ _ e7'),.inr ⟨R7,v,rfl,hv,n4,s9 _ _ (s8 _ _ e7)⟩,.inr ⟨t,v2,rfl,hm,ht⟩⟩
  · rintro σ H3 ⟨ps,v2,v3,v4,v5,v6,rfl,I,hle,hbl,hsay⟩
    rw [sv_len] at hsay hle
    walk_at "v"
    exact kg _ ⟨_,hsay,rfl⟩ R _ H3 I.sm I.nr I.r (pas_dens I.at_) (by rw [pv_len];omega)
theorem sc_read_paper:FnScope ["way","lines"] ["way","lines"] (defScope s_read_paper):=⟨rfl,rfl,rfl,by decide +kernel,rfl,by decide +kernel,by decide +kernel⟩
theorem okX_read_paper (F:Fun K "read_paper" "read_paper" s_read_paper f fd) (DX_read_threes:DnX P w K mg base 5 "read_threes" ["lines"] (spLinX true c_NoLine)) (DX_read_parts:DnX P w K mg base 5 "read_parts" ["lines"] (spLinX false c_NoLine)):FnOk P w K mg base (CXe P w) 6 f fd ["way","lines"] (spPapX c_NoLine):=by
  refine Fun.okX F sc_read_paper (fun vs H Q E h=>?_) (fun cdv A outer s H vs Q E hr h=>?_)
  · obtain ⟨wy,L,rfl,_⟩:=h
    rfl
  obtain ⟨wy,L,rfl,h⟩:=h
  refine Jd.go ⟨_,(J.e (J.n (J.x (Jd.pw_or (J.i op_eq (J.a 0) J.h (nomark _)) (Jd.pw_or1 (J.i op_eq (J.a 0) J.h (nomark _)))))
      (J.f (J.l (Jd.pe_dnX DX_read_threes pass_on (hr.mono (by decide)) rfl (J.b (J.a 1) J.d st_N) (he:=st_N) (hpl:=any0))))
      J.p)
      (J.f (J.l (Jd.pe_dnX DX_read_parts pass_on (hr.mono (by decide)) rfl (J.b (J.a 1) J.d st_N) (he:=st_N) (hpl:=any0))))),?_⟩
  walk_at "v"
  rw [c_apart]
  refine r_eqS ?_
  walk_at "v"
  refine' frS_by (wy:=wy) ?a ?b ?c
  case a=>intro hA hf;rw [hf] at h;rw [decide_eq_true hA];refine iteT ?_;walk_at "v";refine iteT ?_;walk_at "v";exact h
  case b=>intro hA hJ hf;rw [hf] at h;rw [decide_eq_false hA];refine iteF ?_;walk_at "v";rw [c_joined];refine r_eqS ?_;walk_at "v";rw [decide_eq_true hJ];refine iteT ?_;walk_at "v";exact h
  case c=>intro hA hJ hf;rw [hf] at h;rw [decide_eq_false hA];refine iteF ?_;walk_at "v";rw [c_joined];refine r_eqS ?_;walk_at "v";rw [decide_eq_false hJ];refine iteF ?_;walk_at "v";exact h
theorem ok_read_paper (F:Fun K "read_paper" "read_paper" s_read_paper f fd) (D_read_threes:Dn P w K mg base 5 "read_threes" ["lines"] (spLinG true)) (D_read_parts:Dn P w K mg base 5 "read_parts" ["lines"] (spLinG false)):FnOk P w K mg base CX0 6 f fd ["way","lines"] spPapG:=by
  refine F.ok sc_read_paper (fun vs H Q E h=>?_) (fun cdv A outer s H vs Q E hr h=>?_)
  · obtain ⟨wy,L,rfl,_⟩:=h
    rfl
  obtain ⟨wy,L,rfl,h⟩:=h
  refine Jd.go ⟨_,(J.e (J.n (J.x (Jd.pw_or (J.i op_eq (J.a 0) J.h (nomark _)) (Jd.pw_or1 (J.i op_eq (J.a 0) J.h (nomark _)))))
      (J.f (J.l (J.m D_read_threes (hr.mono (by decide)) rfl (J.b (J.a 1) J.d st_N) (he:=st_N) (hpl:=any0))))
      J.p)
      (J.f (J.l (J.m D_read_parts (hr.mono (by decide)) rfl (J.b (J.a 1) J.d st_N) (he:=st_N) (hpl:=any0))))),?_⟩
  walk_at "v"
  rw [c_apart]
  refine r_eqS ?_
  walk_at "v"
  refine' frS_by (wy:=wy) ?a ?b ?c
  case a=>intro hA hf;rw [hf] at h;rw [decide_eq_true hA];refine iteT ?_;walk_at "v";refine iteT ?_;walk_at "v";exact h
  case b=>intro hA hJ hf;rw [hf] at h;rw [decide_eq_false hA];refine iteF ?_;walk_at "v";rw [c_joined];refine r_eqS ?_;walk_at "v";rw [decide_eq_true hJ];refine iteT ?_;walk_at "v";exact h
  case c=>intro hA hJ hf;rw [hf] at h;rw [decide_eq_false hA];refine iteF ?_;walk_at "v";rw [c_joined];refine r_eqS ?_;walk_at "v";rw [decide_eq_false hJ];refine iteF ?_;walk_at "v";exact h
end

theorem jn_sum:∀ws:List (List Nat),(ws.map List.length).sum≤(jn ws).length
  | []=>Nat.le_refl _
  | [w]=>by show w.length+0≤w.length;omega
  | w::z::ws=>by
    have ih:=jn_sum (z::ws)
    show w.length+((z::ws).map List.length).sum≤(w++32::jn (z::ws)).length
    rw [List.length_append,List.length_cons]
    omega
theorem sum_set {z:List Nat}:∀{ws:List (List Nat)} {j:Nat},((ws.set j z).map List.length).sum≤(ws.map List.length).sum+z.length
  | [],_=>Nat.zero_le _
  | w::ws,0=>by show z.length+(ws.map List.length).sum≤w.length+(ws.map List.length).sum+z.length;omega
  | w::ws,j+1=>by
    have ih:=sum_set (z:=z) (ws:=ws) (j:=j)
    show w.length+((ws.set j z).map List.length).sum≤w.length+(ws.map List.length).sum+z.length
    omega
theorem sum_erase:∀{ws:List (List Nat)} {j:Nat},((ws.eraseIdx j).map List.length).sum≤(ws.map List.length).sum
  | [],_=>Nat.le_refl _
  | w::ws,0=>by show (ws.map List.length).sum≤w.length+(ws.map List.length).sum;omega
  | w::ws,j+1=>by
    have ih:=sum_erase (ws:=ws) (j:=j)
    show w.length+((ws.eraseIdx j).map List.length).sum≤w.length+(ws.map List.length).sum
    omega
theorem sum_ins {z:List Nat} (ws:List (List Nat)) (j:Nat):((ws.take j++z::ws.drop j).map List.length).sum=(ws.map List.length).sum+z.length:=by
  have e:(ws.map List.length).sum=((ws.take j).map List.length).sum+((ws.drop j).map List.length).sum:=by
    rw [← List.sum_append,← List.map_append,List.take_append_drop]
  rw [List.map_append,List.sum_append,List.map_cons,List.sum_cons,e]
  omega
theorem sv_set (zs:List (List Nat)) (k:Nat) (l:List Nat):(sv zs).set k (.str (tx l))=sv (zs.set k l):=by unfold sv;rw [List.map_set]
theorem sv_erase (zs:List (List Nat)) (k:Nat):(sv zs).eraseIdx k=sv (zs.eraseIdx k):=by
  induction zs generalizing k with
  | nil=>rfl
  | cons z zs ih=>
    cases k with
    | zero=>rfl
    | succ k=>exact congrArg (V.str (tx z)::·) (ih k)
theorem pickV {H:Hp} {p:Addr} {xs:List V} {i:Int} (_:H p=some (.lst xs)) (B:Nat) (h:∀x∈xs,∃z:Str,x=.str z∧z.length≤B∧okS z) (h0:0≤i) (h1:i<(xs.length:Int)):∃l:List Nat,atI xs i=some (.str (tx l))∧l.length≤B∧okT l:=by
  obtain ⟨k,rfl⟩:∃k:Nat,i=(k:Int):=⟨i.toNat,by omega⟩
  have hk:k<xs.length:=by omega
  obtain ⟨z,e,hz⟩:=h _ (List.getElem_mem hk)
  refine ⟨z.cps.toList,?_,hz⟩
  rw [← tx_of,← e]
  exact atI_nat (List.getElem?_eq_getElem hk)
theorem sv_ins (zs:List (List Nat)) (k:Nat) (l:List Nat):(sv zs).take k++.str (tx l)::(sv zs).drop k=sv (zs.take k++l::zs.drop k):=by unfold sv;simp [List.map_take,List.map_drop]

noncomputable def sl (s:List Int) (a n:Nat):List Int:=(s.drop a).take n
theorem cutI {s:List Int} {n m:Nat} (h1:n≤m) (h2:m≤s.length):cutV (s.map V.int) (some (n:Int)) (some (m:Int))=(sl s n (m-n)).map V.int:=by
  rw [cut_ab h1 (by rw [List.length_map];exact h2)]
  unfold sl
  rw [List.map_take,List.map_drop]
theorem sl_len {s:List Int} {a n:Nat} (h:a+n≤s.length):(sl s a n).length=n:=by
  unfold sl
  rw [List.length_take,List.length_drop]
  omega
noncomputable def Cel (s:List Int):Prop:=∀(j:Nat) (x:Int),s[j]?=some x→0≤x∧(j % 2=0→x<100)∧(j % 2=1→x<4)
theorem Cel.sl {s:List Int} {a n:Nat} (h:Cel s) (ha:a % 2=0):Cel (sl s a n):=fun j x e=>by
  unfold Lw.sl at e
  rw [List.getElem?_take] at e
  split at e
  · rw [List.getElem?_drop] at e
    obtain ⟨p,q,r⟩:=h _ _ e
    exact ⟨p,fun z=>q (by omega),fun z=>r (by omega)⟩
  · cases e
noncomputable def fac (b:Int):Int:=if b<2 then 1 else if b=2 then 10 ^ 16 else 10 ^ 9+1
noncomputable def numG (s:List Int):Int:=(s.getD 0 0-50)*fac (s.getD 1 0)
noncomputable def thF (s:List Int):List Int:=[numG (sl s 0 2),numG (sl s 2 2),numG (sl s 4 2)]
theorem cel2 {s:List Int} (h:Cel s) (hl:s.length=2):∃a b:Int,s=[a,b]∧0≤a∧a<100∧0≤b∧b<4:=by
  match s,hl with
  | [a,b],_=>
    obtain ⟨p,q,_⟩:=h 0 a rfl
    obtain ⟨p',_,r'⟩:=h 1 b rfl
    exact ⟨a,b,rfl,p,q rfl,p',r' rfl⟩
theorem fac_wb {a b:Int} (h0:0≤a) (h1:a<100) (h2:0≤b) (h3:b<4):Wb ((a-50)*fac b):=by
  have hf:b=0∨b=1∨b=2∨b=3:=by omega
  show ((a-50)*fac b).natAbs<10 ^ 18
  rcases hf with rfl | rfl | rfl | rfl
  · show ((a-50)*1).natAbs<10 ^ 18;omega
  · show ((a-50)*1).natAbs<10 ^ 18;omega
  · show ((a-50)*10000000000000000).natAbs<1000000000000000000;omega
  · show ((a-50)*1000000001).natAbs<1000000000000000000;omega
theorem num_wb {s:List Int} (h:Cel s) (hl:s.length=2):Wb (numG s):=by
  obtain ⟨a,b,rfl,h0,h1,h2,h3⟩:=cel2 h hl
  exact fac_wb h0 h1 h2 h3
theorem wb_log {n:Int} (h:Wb n):n.natAbs.log2<1920:=by
  by_cases z:n.natAbs=0
  · rw [z];decide
  · exact (Nat.log2_lt z).mpr (Nat.lt_of_lt_of_le h (by decide +kernel))
noncomputable def longF (hd:List Int):List (List Int):=if hd.getD 8 0=1 then (List.range (41+hd.getD 9 0).toNat).map fun k:Nat=>[(k:Int),(k:Int)+1,3*(k:Int)] else []
noncomputable def freeF (hd s:List Int):List (List Int):=((List.range (hd.getD 0 0).toNat).map fun k=>thF (sl s (6*k) 6))++longF hd
noncomputable def partF (hd s:List Int) (k:Nat):Pt:=(((List.range (1+hd.getD (2+2*k) 0).toNat).map fun j=>numG (sl (sl s (40*k) 40) (2*j) 2))++(if k=0 then (longF hd).map (·.getD 0 0) else []),((List.range (hd.getD (3+2*k) 0).toNat).map fun j=>thF (sl (sl s (40*k) 40) (10+6*j) 6))++(if k=0 then longF hd else []))
noncomputable def tiedF (hd s:List Int):List Pt:=(List.range (hd.getD 1 0).toNat).map (partF hd s)
noncomputable def linF (free:Bool) (hd s:List Int):List (List Nat):=match free with | true=>(freeF hd s).map nl | false=>pls (tiedF hd s)
noncomputable def spNum1:Sp:=fun vs H Q _=>∃(L:Addr) (s:List Int),vs=[.ref L]∧H L=some (.lst (s.map V.int))∧s.length=2∧Cel s∧∀H',Same H H'→Q (.int (numG s)) H'
noncomputable def spThr1:Sp:=fun vs H Q _=>∃(L:Addr) (s:List Int),vs=[.ref L]∧H L=some (.lst (s.map V.int))∧s.length=6∧Cel s∧∀(t:Addr) (H':Hp),Same H H'→T3At H' (t,thF s)→Q (.ref t) H'
noncomputable def szH:List Int:=[7,4,5,5,5,5,5,5,8,4]
noncomputable def szS:List Int:=(List.replicate 60 [100,4]).flatten
noncomputable def spPaper (K:PySem.W.Frag):Sp:=fun vs H Q _=>∃(a:Addr) (ns:List Int) (free:Bool),vs=[.ref a,.bl free]∧SqL K H a (ns.map V.int)∧∀(R:Addr) (H':Hp),Same H H'→H R=none→Ppr free H' R (linF free (rowF ns 0 szH) (rowF ns 1 szS))→Q (.ref R) H'
noncomputable def spLinesL:Sp:=fun vs H Q _=>∃(R:Addr) (free:Bool) (zs:List (List Nat)),vs=[.ref R,.bl free]∧Ppr free H R zs∧∀(L:Addr) (H':Hp),Same H H'→H L=none→H' L=some (.lst (sv zs))→Q (.ref L) H'
section
variable {P:Program} {w:World} {K:PySem.W.Frag} {mg:Str→Option Value} {base:Heap} {f:Addr} {fd:FuncData}
theorem sc_law_number:FnScope ["_law_some"] ["_law_some"] (defScope s_law_number):=⟨rfl,rfl,rfl,by decide +kernel,rfl,by decide +kernel,by decide +kernel⟩
theorem ok_law_number (F:Fun K "_law_number" "_law_number" s_law_number f fd):FnOk P w K mg base CX0 1 f fd ["_law_some"] spNum1:=by
  refine F.ok sc_law_number (fun vs H Q E h=>?_) (fun cdv A outer s H vs Q E hr h=>?_)
  · obtain ⟨L,s,rfl,_⟩:=h
    rfl
  obtain ⟨L,s,rfl,hL,hl,hc,k⟩:=h
  obtain ⟨a,b,rfl,h0,h1,h2,h3⟩:=cel2 hc hl
  refine Jd.go ⟨_,(J.f (J.l (J.g op_mulB (J.g op_sub (J.k (ixL K) (J.a 0) J.c (fun _ _=>rfl)) J.c) (J.k (ixL K) (J.t (J.b J.c (J.b J.c (J.b (J.g op_pow J.c J.c) (J.b (J.g op_add (J.g op_pow J.c J.c) J.c) J.d st_B) st_B) st_C) st_C)) (J.k (ixL K) (J.a 0) J.c (fun _ _=>rfl)) (fun _ _=>rfl))))),?_⟩
  walk_at "v"
  refine r_l hL at0 ?_
  walk_at "v"
  refine r_new (mk:=.lst) (by simp) fun l H1 s1 n1 e1=>?_
  walk_at "v"
  refine r_l (s1 _ _ hL) at1 ?_
  walk_at "v"
  have hf:b=0∨b=1∨b=2∨b=3:=by omega
  have hat:atI [V.int 1,V.int 1,V.int (10 ^ (16:Int).toNat),V.int (10 ^ (9:Int).toNat+1)] b=some (.int (fac b)):=by
    rcases hf with rfl | rfl | rfl | rfl
    · exact atI_nat (j:=0) rfl
    · exact atI_nat (j:=1) rfl
    · exact atI_nat (j:=2) rfl
    · exact atI_nat (j:=3) rfl
  have hz:Sz 60 (fac b):=by
    rcases hf with rfl | rfl | rfl | rfl <;> decide
  refine r_l e1 hat ?_
  refine r_I (mulOk (sz_lt (n:=10) 100 (by omega)) hz) ?_
  exact k H1 s1
theorem sc_law_three:FnScope ["_law_some"] ["_law_some"] (defScope s_law_three):=⟨rfl,rfl,rfl,by decide +kernel,rfl,by decide +kernel,by decide +kernel⟩
theorem ok_law_three (F:Fun K "_law_three" "_law_three" s_law_three f fd) (D_law_number:Dn P w K mg base 1 "_law_number" ["_law_some"] spNum1):FnOk P w K mg base CX0 2 f fd ["_law_some"] spThr1:=by
  refine F.ok sc_law_three (fun vs H Q E h=>?_) (fun cdv A outer s H vs Q E hr h=>?_)
  · obtain ⟨L,s,rfl,_⟩:=h
    rfl
  obtain ⟨L,s,rfl,hL,hl,hc,k⟩:=h
  have c0:cutV (s.map V.int) (some 0) (some 2)=(sl s 0 2).map V.int:=cutI (n:=0) (m:=2) (by decide) (by omega)
  have c1:cutV (s.map V.int) (some 2) (some 4)=(sl s 2 2).map V.int:=cutI (n:=2) (m:=4) (by decide) (by omega)
  have c2:cutV (s.map V.int) (some 4) (some 6)=(sl s 4 2).map V.int:=cutI (n:=4) (m:=6) (by decide) (by omega)
  refine Jd.go ⟨_,(J.f (J.l (Jd.pe_tup (J.b (J.m D_law_number (hr.mono (by decide)) rfl (J.b (J.v (slL K) (J.a 0) (J.q J.c) (J.q J.c)) J.d st_S) (he:=st_S) (hpl:=any0)) (J.b (J.m D_law_number (hr.mono (by decide)) rfl (J.b (J.v (slL K) (J.a 0) (J.q J.c) (J.q J.c)) J.d st_S) (he:=st_S) (hpl:=any0)) (J.b (J.m D_law_number (hr.mono (by decide)) rfl (J.b (J.v (slL K) (J.a 0) (J.q J.c) (J.q J.c)) J.d st_S) (he:=st_S) (hpl:=any0)) J.d st_K) st_K) st_K)))),?_⟩
  walk_at "vd"
  refine r_slL hL fun p1 H1 s1 n1 e1=>?_
  rw [c0] at e1
  walk_at "v"
  refine ⟨p1,_,rfl,e1,sl_len (by omega),hc.sl rfl,fun H2 s2=>?_⟩
  have s02:=s1.trans s2
  walk_at "vd"
  refine r_slL (s02 _ _ hL) fun p3 H3 s3 n3 e3=>?_
  rw [c1] at e3
  walk_at "v"
  refine ⟨p3,_,rfl,e3,sl_len (by omega),hc.sl rfl,fun H4 s4=>?_⟩
  have s04:=s02.trans (s3.trans s4)
  walk_at "vd"
  refine r_slL (s04 _ _ hL) fun p5 H5 s5 n5 e5=>?_
  rw [c2] at e5
  walk_at "v"
  refine ⟨p5,_,rfl,e5,sl_len (by omega),hc.sl rfl,fun H6 s6=>?_⟩
  walk_at "v"
  refine r_new (mk:=.tup) (by simp) fun t H7 s7 n7 e7=>?_
  refine k t H7 (s04.trans (s5.trans (s6.trans s7))) ⟨e7,rfl,fun n hn=>?_⟩
  have hn:n∈[numG (sl s 0 2),numG (sl s 2 2),numG (sl s 4 2)]:=hn
  simp only [List.mem_cons,List.not_mem_nil,or_false] at hn
  rcases hn with rfl | rfl | rfl
  · exact num_wb (hc.sl rfl) (sl_len (by omega))
  · exact num_wb (hc.sl rfl) (sl_len (by omega))
  · exact num_wb (hc.sl rfl) (sl_len (by omega))
end

theorem rng_at {n i:Nat} {x:V} (h:((List.range n).map fun (i:Nat)=>V.int (0+(i:Int)))[i]?=some x):i<n∧x=.int (i:Int):=by
  have hi:i<n:=by have:=(List.getElem?_eq_some_iff.mp h).1;simpa using this
  rw [List.getElem?_map,List.getElem?_range hi] at h
  refine ⟨hi,?_⟩
  have h:some (V.int (0+(i:Int)))=some x:=h
  rw [Int.zero_add] at h
  exact (Option.some.inj h).symm
theorem getD_at {s:List Int} {j:Nat} {y:Int} (h:s[j]?=some y):s.getD j 0=y:=by rw [List.getD_eq_getElem?_getD,h];rfl
theorem range_snoc {α:Type} (g:Nat→α) (i:Nat):(List.range (i+1)).map g=(List.range i).map g++[g i]:=by rw [List.range_succ,List.map_append];rfl
theorem szS_at:∀j,j<120→szS[j]?=some (if j % 2=0 then 100 else 4):=by decide +kernel
theorem cel_row {s:List Int} (hl:s.length=szS.length) (h:∀(j:Nat) (x z:Int),s[j]?=some x→szS[j]?=some z→0≤x∧x<z):Cel s∧s.length=120:=by
  have l:szS.length=120:=by decide +kernel
  refine ⟨fun j x e=>?_,by omega⟩
  have hj:=(List.getElem?_eq_some_iff.mp e).1
  obtain ⟨p,q⟩:=h j x _ e (szS_at j (by omega))
  refine ⟨p,fun z=>?_,fun z=>?_⟩
  · rw [if_pos z] at q;exact q
  · rw [if_neg (by omega)] at q;exact q
structure HdOk (hs:List Int):Prop where
  len:hs.length=szH.length
  at_:∀(j:Nat) (x z:Int),hs[j]?=some x→szH[j]?=some z→0≤x∧x<z
theorem szH_at:∀k,k<3→szH[2+2*k]?=some 5∧szH[3+2*k]?=some 5:=by decide
theorem long_len {hs:List Int} (h:HdOk hs):(longF hs).length≤44:=by
  obtain ⟨y,q,a,b⟩:=row_get h.len h.at_ 9 rfl
  unfold longF
  rw [getD_at q]
  split
  · rw [List.length_map,List.length_range];omega
  · exact Nat.zero_le _
section
variable {P:Program} {w:World} {K:PySem.W.Frag} {mg:Str→Option Value} {base:Heap} {f:Addr} {fd:FuncData}
theorem sc_law_paper:FnScope ["_law_script","_law_free","_law_head","_law_some","_law_long","_law_paper_here","_law_k","_law_mine","_law_numbers","_law_threes"] ["_law_script","_law_free"] (defScope s_law_paper):=⟨rfl,rfl,rfl,by decide +kernel,rfl,by decide +kernel,by decide +kernel⟩
theorem ok_law_paper (F:Fun K "_law_paper" "_law_paper" s_law_paper f fd) (T:Txt mg) (D_law_row:Dn P w K mg base 3 "_law_row" ["_law_script","_law_place","_law_sizes"] (spRowF K)) (D_law_number:Dn P w K mg base 1 "_law_number" ["_law_some"] spNum1) (D_law_three:Dn P w K mg base 2 "_law_three" ["_law_some"] spThr1):FnOk P w K mg base CX0 4 f fd ["_law_script","_law_free"] (spPaper K):=by
  refine F.ok sc_law_paper (fun vs H Q E h=>?_) (fun cdv A outer s H vs Q E hr h=>?_)
  · obtain ⟨a,ns,free,rfl,_⟩:=h
    rfl
  obtain ⟨a,ns,free,rfl,hS,k⟩:=h
  refine Jd.go (Jd.cut 4 (fun σ H'=>∃(hd sm lg:Addr) (hs ss:List Int) (lt:List T3),σ=[some (.ref a),some (.bl free),some (.ref hd),some (.ref sm),some (.ref lg)]++List.replicate 5 none∧Same H H'∧H' hd=some (.lst (hs.map V.int))∧H' sm=some (.lst (ss.map V.int))∧hs=rowF ns 0 szH∧ss=rowF ns 1 szS∧HdOk hs∧Cel ss∧ss.length=120∧H' lg=some (.lst (tv lt))∧T3s H' lt∧lt.map (·.2)=longF hs) ?_ fun u hu hR=>?_)
  · refine ⟨_,(J.e (J.n (J.ac (J.a 1))
      (J.f (J.l (J.g op_cat (J.af (O:=["_law_k"]) (N':=["_law_some"]) (cap:=[3]) rfl (J.ag rfl T.range (J.b (J.k (ixL K) (J.a 2) J.c (fun _ _=>rfl)) J.d st_S)) (fun _ _ _ _ _=>(J.o (i:=0) (show List.Nodup [("_law_k":Str),("_law_some":Str)] by decide +kernel) rfl (Or.inl rfl))) (fun _ _ _ _ _=>J.y) (fun _ _ _ _ _=>(J.m D_law_three (hr.mono (by decide)) rfl (J.b (J.v (slL K) (J.a 1) (J.q (J.g op_mulB J.c (J.a 0))) (J.q (J.g op_add (J.g op_mulB J.c (J.a 0)) J.c))) J.d st_S) (he:=st_S) (hpl:=any0))) rfl ⟨⟨rfl,rfl,rfl,rfl⟩,trivial⟩ rfl (by decide +kernel) rfl (by decide +kernel)) (J.a 4))))
      J.p)
      (J.e (J.j (i:=5) sc_law_paper.nd rfl (Or.inl rfl) (J.t J.d) (hs:=sw_L))
      (J.e (J.ab PassesOwn.never rfl (J.ag rfl T.range (J.b (J.k (ixL K) (J.a 2) J.c (fun _ _=>rfl)) J.d st_S)) (J.o (i:=6) sc_law_paper.nd rfl (Or.inl rfl))
      (J.e (J.j (i:=7) sc_law_paper.nd rfl (Or.inr rfl) (J.v (slL K) (J.a 3) (J.q (J.g op_mulB J.c (J.a 6))) (J.q (J.g op_add (J.g op_mulB J.c (J.a 6)) J.c))) (hs:=sw_S))
      (J.e (Jd.ps_comp (O:=["_law_j"]) (N':=["_law_mine"]) (cap:=[7]) (i:=8) sc_law_paper.nd rfl (Or.inl rfl) rfl (J.ag rfl T.range (J.b (J.g op_add J.c (J.k (ixL K) (J.a 2) (J.g op_add J.c (J.g op_mulB J.c (J.a 6))) (fun _ _=>rfl))) J.d st_B)) (fun _ _ _ _ _=>(J.o (i:=0) (show List.Nodup [("_law_j":Str),("_law_mine":Str)] by decide +kernel) rfl (Or.inl rfl))) (fun _ _ _ _ _=>J.y) (fun _ _ _ _ _=>(J.m D_law_number (hr.mono (by decide)) rfl (J.b (J.v (slL K) (J.a 1) (J.q (J.g op_mulB J.c (J.a 0))) (J.q (J.g op_add (J.g op_mulB J.c (J.a 0)) J.c))) J.d st_S) (he:=st_S) (hpl:=any0))) rfl ⟨⟨rfl,rfl,rfl,rfl⟩,trivial⟩ rfl (by decide +kernel) rfl (by decide +kernel) (by rfl))
      (J.e (Jd.ps_comp (O:=["_law_j"]) (N':=["_law_mine"]) (cap:=[7]) (i:=9) sc_law_paper.nd rfl (Or.inl rfl) rfl (J.ag rfl T.range (J.b (J.k (ixL K) (J.a 2) (J.g op_add J.c (J.g op_mulB J.c (J.a 6))) (fun _ _=>rfl)) J.d st_S)) (fun _ _ _ _ _=>(J.o (i:=0) (show List.Nodup [("_law_j":Str),("_law_mine":Str)] by decide +kernel) rfl (Or.inl rfl))) (fun _ _ _ _ _=>J.y) (fun _ _ _ _ _=>(J.m D_law_three (hr.mono (by decide)) rfl (J.b (J.v (slL K) (J.a 1) (J.q (J.g op_add J.c (J.g op_mulB J.c (J.a 0)))) (J.q (J.g op_add J.c (J.g op_mulB J.c (J.a 0))))) J.d st_S) (he:=st_S) (hpl:=any0))) rfl ⟨⟨rfl,rfl,rfl,rfl⟩,trivial⟩ rfl (by decide +kernel) rfl (by decide +kernel) (by rfl))
      (J.e (J.n (J.i op_eq (J.a 6) J.c (nomark _))
      (J.e (J.j (i:=8) sc_law_paper.nd rfl (Or.inl rfl) (J.g op_cat (J.a 8) (J.af (O:=["_law_one"]) (N':=[]) (cap:=[]) rfl (Jd.piL K (J.a 4)) (fun _ _ _ _ _=>(J.o (i:=0) (show List.Nodup [("_law_one":Str)] by decide +kernel) rfl (Or.inl rfl))) (fun _ _ _ _ _=>J.y) (fun _ _ _ _ _=>(J.k (ixT K) (J.a 0) J.c (fun _ _=>rfl))) rfl trivial rfl (by decide +kernel) rfl (by decide +kernel))) (hs:=sw_B))
      (J.f (J.j (i:=9) sc_law_paper.nd rfl (Or.inl rfl) (J.g op_cat (J.a 9) (J.a 4)) (hs:=sw_B))))
      J.p)
      (J.f (J.s (J.w K (J.a 5) (Jd.pe_tup (J.b (J.a 8) (J.b (J.a 9) J.d st_N) st_N))) (hs:=sw_K))))))))
      (J.f (J.l (J.a 5)))))),?_⟩
    rintro σ H1 ⟨hd,sm,lg,hs,ss,lt,rfl,s1,e1,e2,rh,rs,hO,hC,h120,e3,hlt,hlg⟩
    have hll:lt.length≤44:=by have:=long_len hO;rw [← hlg,List.length_map] at this;exact this
    have k':∀(R:Addr) (H':Hp),Same H1 H'→H1 R=none→Ppr free H' R (linF free hs ss)→Q (.ref R) H':=fun R H' s n p=>k R H' (s1.trans s) (s1.free n) (by rw [← rh,← rs];exact p)
    have th6:∀(s:List Int) (a:Nat),Cel s→a % 2=0→a+6≤s.length→Cel (sl s a 6)∧(sl s a 6).length=6:=fun s a c h1 h2=>⟨c.sl h1,sl_len h2⟩
    walk_at "v"
    cases free with
    | true=>
      refine iteT ?_
      walk_at "v"
      refine r_rng1 ?_
      walk_at "v"
      obtain ⟨y0,q0,a0,b0⟩:=row_get hO.len hO.at_ 0 rfl
      refine r_l e1 (at_ints q0 rfl) ?_
      refine ⟨_,rfl,by omega,by omega,?_⟩
      refine compB_of tells_rng (fun _ _=>trivial) (by simp;omega) (fun i ys G=>∃ts:List T3,ys=tv ts∧T3s G ts∧ts.map (·.2)=(List.range i).map fun k=>thF (sl ss (6*k) 6)) ⟨[],rfl,fun x hx=>absurd hx (by simp),rfl⟩ ?_ ?_
      · rintro D i x ys H2 σ0 NN N0 g0 hD eD s2 hv hy ⟨ts,rfl,hts,hm⟩ kY kN
        obtain ⟨hi,rfl⟩:=rng_at hv
        refine r_own1 g0 ?_
        walk_at "vd"
        refine iteT ?_
        walk_at "vd"
        refine r_slL (s2 _ _ e2) fun p3 H3 s3 n3 e3=>?_
        rw [show (6*(i:Int))=((6*i:Nat):Int) by omega,show (((6*i:Nat):Int)+6)=((6*i+6:Nat):Int) by omega,cutI (by omega) (by omega),Nat.add_sub_cancel_left] at e3
        walk_at "v"
        refine ⟨p3,_,rfl,e3,sl_len (by omega),hC.sl (by omega),fun t H4 s4 ht=>?_⟩
        have s24:=s3.trans s4
        refine kY _ H4 s24 ⟨ts++[(t,thF (sl ss (6*i) 6))],tv_snoc ts (t,_),T3s.snoc (fun x hx=>(hts x hx).up (rm_rm s24)) (ht.rm (s24 _ _ eD)),?_⟩
        rw [List.map_append,hm,range_snoc]
        rfl
      · rintro D ys H2 nD eD s2 hy ⟨ts,rfl,hts,hm⟩
        have hts2:T3s H2 ts:=fun x hx=>(hts x hx).up rm_same
        have htl:ts.length=y0.toNat:=by have:=congrArg List.length hm;simpa using this
        walk_at "v"
        refine r_cat eD (s2 _ _ e3) ?_
        refine r_new (mk:=.lst) (by rw [List.length_append,tv_len,tv_len];omega) fun R H3 s3 n3 e3'=>?_
        have s13:=s2.trans s3
        refine k' R H3 s13 (s2.free n3) ⟨ts++lt,by rw [e3'];unfold tv;rw [List.map_append],fun x hx=>?_,by rw [List.length_append];omega,?_⟩
        · rcases List.mem_append.mp hx with z | z
          · exact (hts2 x z).up s3
          · exact (hlt x z).up s13
        · show (freeF hs ss).map nl=_
          unfold freeF
          have hm':ts.map (·.2)=(List.range y0.toNat).map fun k=>thF (sl ss (6*k) 6):=by simpa using hm
          rw [getD_at q0,← hm',← hlg,List.map_append,List.map_append,List.map_append]
    | false=>
      refine iteF ?_
      walk_at "v"
      refine r_new (mk:=.lst) (by simp) fun R H2 s2 n2 e4=>?_
      walk_at "v"
      refine r_for (r_rng1 ?_)
      walk_at "v"
      obtain ⟨y1,q1,a1,b1⟩:=row_get hO.len hO.at_ 1 rfl
      refine r_l (s2 _ _ e1) (at_ints q1 rfl) ?_
      refine ⟨_,rfl,by omega,by omega,for_range (fun i σ H3=>∃(ps:List Pa) (v6 v7 v8 v9:Option V),σ=[some (.ref a),some (.bl false),some (.ref hd),some (.ref sm),some (.ref lg),some (.ref R),v6,v7,v8,v9]∧Same H1 H3∧H3 R=some (.lst (pv ps))∧(∀x∈ps,PaAt H3 x∧x.l≠R∧x.b≠R∧x.ns.length≤60∧x.bs.length≤60)∧pd ps=(List.range i).map (partF hs ss)) ⟨[],none,none,none,none,rfl,s2,e4,fun x hx=>absurd hx (by simp),rfl⟩ ?_ ?_⟩
      · rintro i σ H3 hi ⟨ps,v6,v7,v8,v9,rfl,s3,eR,hps,hpd⟩
        have hi:i<y1.toNat:=by simpa using hi
        have hpl:ps.length=i:=by have:=congrArg List.length hpd;simpa [pd] using this
        obtain ⟨zA,zB⟩:=szH_at i (by omega)
        obtain ⟨yA,qA,aA,bA⟩:=row_get hO.len hO.at_ _ zA
        obtain ⟨yB,qB,aB,bB⟩:=row_get hO.len hO.at_ _ zB
        -- the part is laid
        have fin:∀(t l b:Addr) (xs:List Int) (bs:List T3) (H6:Hp) (v6 v7:Option V) (N:L2.St→Hp→Prop),Same H3 H6→H3 l=none→H3 b=none→H6 t=some (.tup [.ref l,.ref b])→H6 l=some (.lst (xs.map V.int))→H6 b=some (.lst (tv bs))→T3s H6 bs→(∀n∈xs,Wb n)→xs.length≤60→bs.length≤60→(xs,bs.map (·.2))=partF hs ss i →
            (∀σ' H',(∃(ps:List Pa) (v6 v7 v8 v9:Option V),σ'=[some (.ref a),some (.bl false),some (.ref hd),some (.ref sm),some (.ref lg),some (.ref R),v6,v7,v8,v9]∧Same H1 H'∧H' R=some (.lst (pv ps))∧(∀x∈ps,PaAt H' x∧x.l≠R∧x.b≠R∧x.ns.length≤60∧x.bs.length≤60)∧pd ps=(List.range (i+1)).map (partF hs ss))→N σ' H') →
            rAppend (.ref R) [.ref t] H6 fun _ H7=>N [some (.ref a),some (.bl false),some (.ref hd),some (.ref sm),some (.ref lg),some (.ref R),v6,v7,some (.ref l),some (.ref b)] H7:=by
          intro t l b xs bs H6 v6 v7 N s36 nl nb e6 el eb hbs hw h1 h2 hp kN
          have eR6:=s36 _ _ eR
          have hl:l≠R:=fun z=>by rw [z,eR] at nl;cases nl
          have hb:b≠R:=fun z=>by rw [z,eR] at nb;cases nb
          refine r_app eR6 (by rw [pv_len];exact small1000 (by omega)) ?_
          refine kN _ _ ⟨ps++[⟨t,l,b,xs,bs⟩],_,_,_,_,rfl,same_at (s3.trans s36) n2,by rw [upd_same,← pv_snoc],fun x hx=>?_,?_⟩
          · rcases List.mem_append.mp hx with z | z
            · obtain ⟨p1,p2,p3,p4⟩:=hps x z
              exact ⟨(p1.up s36).put eR6 p2 p3,p2,p3,p4⟩
            · obtain rfl:x=⟨t,l,b,xs,bs⟩:=by simpa using z
              exact ⟨PaAt.put ⟨e6,el,eb,hbs,hw⟩ eR6 hl hb,hl,hb,h1,h2⟩
          · rw [range_snoc,← hpd,← hp]
            unfold pd
            rw [List.map_append]
            rfl
        have hC4:Cel (sl ss (40*i) 40):=hC.sl (by omega)
        have hl4:(sl ss (40*i) 40).length=40:=sl_len (by omega)
        refine body_cut fun MM B RR hMM _ _=>?_
        rw [show (0:Int)+(i:Int)=(i:Int) by omega]
        walk_at "vd"
        refine r_slL (s3 _ _ e2) fun p4 H4 s4 n4 e4=>?_
        rw [show (40*(i:Int))=((40*i:Nat):Int) by omega,show (((40*i:Nat):Int)+40)=((40*i+40:Nat):Int) by omega,cutI (by omega) (by omega),Nat.add_sub_cancel_left] at e4
        generalize hmn:sl ss (40*i) 40=mn at e4 hC4 hl4
        have e1':=(s3.trans s4) _ _ e1
        walk_at "v"
        refine r_rng1 ?_
        walk_at "v"
        refine r_l e1' (at_ints qA (by omega)) ?_
        walk_at "v"
        refine ⟨_,rfl,by omega,by omega,?_⟩
        refine compB_of tells_rng (fun _ _=>trivial) (by simp;omega) (fun j ys G=>ys=((List.range j).map fun j=>V.int (numG (sl mn (2*j) 2)))) rfl ?_ ?_
        · rintro D j x ys H5 σ0 NN N0 g0 hD eD s5 hv hy rfl kY kN
          obtain ⟨hj,rfl⟩:=rng_at hv
          refine r_own1 g0 ?_
          walk_at "vd"
          refine iteT ?_
          walk_at "vd"
          refine r_slL (s5 _ _ e4) fun p6 H6 s6 n6 e6=>?_
          rw [show (2*(j:Int))=((2*j:Nat):Int) by omega,show (((2*j:Nat):Int)+2)=((2*j+2:Nat):Int) by omega,cutI (by omega) (by omega),Nat.add_sub_cancel_left] at e6
          walk_at "v"
          refine ⟨p6,_,rfl,e6,sl_len (by omega),hC4.sl (by omega),fun H7 s7=>?_⟩
          exact kY _ H7 (s6.trans s7) (range_snoc _ _).symm
        rintro N0 ys H5 nN eN s5 hy rfl
        have eN:H5 N0=some (.lst (((List.range (1+yA).toNat).map fun j=>numG (sl mn (2*j) 2)).map V.int)):=by rw [eN,List.map_map];simp
        walk_at "v"
        refine r_rng1 ?_
        walk_at "v"
        refine r_l (s5 _ _ e1') (at_ints qB (by omega)) ?_
        refine ⟨_,rfl,by omega,by omega,?_⟩
        refine compB_of tells_rng (fun _ _=>trivial) (by simp;omega) (fun j ys G=>∃ts:List T3,ys=tv ts∧T3s G ts∧ts.map (·.2)=(List.range j).map fun j=>thF (sl mn (10+6*j) 6)) ⟨[],rfl,fun x hx=>absurd hx (by simp),rfl⟩ ?_ ?_
        · rintro D j x ys H6 σ0 NN N1 g0 hD eD s6 hv hy ⟨ts,rfl,hts,hm⟩ kY kN
          obtain ⟨hj,rfl⟩:=rng_at hv
          refine r_own1 g0 ?_
          walk_at "vd"
          refine iteT ?_
          walk_at "vd"
          refine r_slL ((s5.trans s6) _ _ e4) fun p7 H7 s7 n7 e7=>?_
          rw [show (10+6*(j:Int))=((10+6*j:Nat):Int) by omega,show (16+6*(j:Int))=((10+6*j+6:Nat):Int) by omega,cutI (by omega) (by omega),Nat.add_sub_cancel_left] at e7
          walk_at "v"
          refine ⟨p7,_,rfl,e7,sl_len (by omega),hC4.sl (by omega),fun t H8 s8 ht=>?_⟩
          have s68:=s7.trans s8
          refine kY _ H8 s68 ⟨ts++[(t,thF (sl mn (10+6*j) 6))],tv_snoc ts (t,_),T3s.snoc (fun x hx=>(hts x hx).up (rm_rm s68)) (ht.rm (s68 _ _ eD)),?_⟩
          rw [List.map_append,hm,range_snoc]
          rfl
        rintro B0 ys H6 nB eB s6 hy ⟨ts,rfl,hts,hm⟩
        have hts2:T3s H6 ts:=fun x hx=>(hts x hx).up rm_same
        have hm:ts.map (·.2)=(List.range yB.toNat).map fun j=>thF (sl mn (10+6*j) 6):=by simpa using hm
        have htl:ts.length=yB.toNat:=by have:=congrArg List.length hm;simpa using this
        have s36:=s4.trans (s5.trans s6)
        have hwn:∀n∈(List.range (1+yA).toNat).map (fun j=>numG (sl mn (2*j) 2)),Wb n:=fun n hn=>by
          obtain ⟨j,hj,rfl⟩:=List.mem_map.mp hn
          have hj:=List.mem_range.mp hj
          exact num_wb (hC4.sl (by omega)) (sl_len (by omega))
        have hln:((List.range (1+yA).toNat).map fun j=>numG (sl mn (2*j) 2)).length≤5:=by rw [List.length_map,List.length_range];omega
        have hpf:partF hs ss i=(((List.range (1+yA).toNat).map fun j=>numG (sl mn (2*j) 2))++(if i=0 then (longF hs).map (·.getD 0 0) else []),((List.range yB.toNat).map fun j=>thF (sl mn (10+6*j) 6))++(if i=0 then longF hs else [])):=by
          unfold partF
          rw [getD_at qA,getD_at qB,hmn]
        generalize (List.range (1+yA).toNat).map (fun j=>numG (sl mn (2*j) 2))=NL at eN hwn hln hpf
        have nN3:H3 N0=none:=s4.free nN
        have nB3:H3 B0=none:=(s4.trans s5).free nB
        have eN6:=s6 _ _ eN
        walk_at "v"
        by_cases i0:i=0
        · rw [decide_eq_true (show (i:Int)=0 by omega)]
          refine iteT ?_
          rw [if_pos i0,if_pos i0] at hpf
          walk_at "v"
          refine r_iL ?_
          walk_at "v"
          have s16:=s3.trans s36
          refine ⟨lg,rfl,⟨_,SqL.of (s16 _ _ e3)⟩,?_⟩
          refine compB_of (xs:=tv lt) tells_list (fun H7 s7=>SqL.of ((s16.trans s7) _ _ e3)) (by rw [tv_len];omega) (fun j ys G=>ys=((lt.take j).map fun x=>V.int (x.2.getD 0 0))) rfl ?_ ?_
          · rintro D j x ys H7 σ0 NN N1 g0 hD eD s7 hv hy rfl kY kN
            obtain ⟨y,hy',rfl⟩:=tv_at hv
            obtain ⟨ey,l3,_⟩:=(hlt.up (s16.trans s7)) y (List.mem_of_getElem? hy')
            obtain ⟨n,r,en⟩:∃n r,y.2=n::r:=by
              cases e:y.2 with
              | nil=>rw [e] at l3;cases l3
              | cons n r=>exact ⟨n,r,rfl⟩
            rw [en] at ey
            refine r_own1 g0 ?_
            walk_at "v"
            refine iteT ?_
            walk_at "v"
            refine kY _ H7 (Same.refl _) ?_
            rw [List.take_succ,hy',Option.toList_some,List.map_append,List.map_singleton,en]
            rfl
          rintro D ys H7 nD eD s7 hy rfl
          rw [tv_len,List.take_length] at eD
          walk_at "v"
          refine r_cat (s7 _ _ eN6) eD ?_
          refine r_new (mk:=.lst) (by rw [List.length_append,List.length_map,List.length_map];omega) fun N2 H8 s8 n8 e8=>?_
          have s68:=s7.trans s8
          walk_at "v"
          refine r_cat (s68 _ _ eB) ((s16.trans s68) _ _ e3) ?_
          refine r_new (mk:=.lst) (by rw [List.length_append,tv_len,tv_len];omega) fun B2 H9 s9 n9 e9=>?_
          have s39:=s36.trans (s68.trans s9)
          have heads:lt.map (fun x=>x.2.getD 0 0)=(longF hs).map (·.getD 0 0):=by rw [← hlg,List.map_map];rfl
          walk_at "v"
          refine ⟨.inl ⟨rfl,_,SqL.of (s39 _ _ eR)⟩,?_⟩
          walk_at "v"
          refine r_new (mk:=.tup) (by simp) fun tt Ha sa na ea=>?_
          walk_at "v"
          refine fin tt N2 B2 (NL++lt.map fun x=>x.2.getD 0 0) (ts++lt) Ha _ _ MM (s39.trans sa) ((s36.trans s7).free n8) ((s36.trans s68).free n9) ea (by rw [sa _ _ (s9 _ _ e8),List.map_append,List.map_map];rfl) (by rw [sa _ _ e9];unfold tv;rw [List.map_append]) (fun x hx=>?_) (fun n hn=>?_) (by rw [List.length_append,List.length_map];omega) (by rw [List.length_append];omega) ?_ fun σ' H' z=>hMM _ _ z
          · rcases List.mem_append.mp hx with z | z
            · exact ((hts2 x z).up (s68.trans s9)).up sa
            · exact ((hlt x z).up (s3.trans s39)).up sa
          · rcases List.mem_append.mp hn with z | z
            · exact hwn n z
            · obtain ⟨x,hx,rfl⟩:=List.mem_map.mp z
              obtain ⟨_,l3,hw⟩:=hlt x hx
              refine hw _ ?_
              cases e:x.2 with
              | nil=>rw [e] at l3;cases l3
              | cons n r=>exact List.mem_cons_self
          · rw [hpf,heads,List.map_append,hm,hlg]
        · rw [decide_eq_false (show ¬(i:Int)=0 by omega)]
          refine iteF ?_
          rw [if_neg i0,if_neg i0,List.append_nil,List.append_nil] at hpf
          walk_at "v"
          refine ⟨.inl ⟨rfl,_,SqL.of (s36 _ _ eR)⟩,?_⟩
          walk_at "v"
          refine r_new (mk:=.tup) (by simp) fun tt Ha sa na ea=>?_
          walk_at "v"
          exact fin tt N0 B0 NL ts Ha _ _ MM (s36.trans sa) nN3 nB3 ea (sa _ _ eN6) (sa _ _ eB) (hts2.up sa) hwn (by omega) (by omega) (by rw [hpf,hm]) fun σ' H' z=>hMM _ _ z
      · rintro σ H3 ⟨ps,v6,v7,v8,v9,rfl,s3,eR,hps,hpd⟩
        have hpl:ps.length=y1.toNat:=by have:=congrArg List.length hpd;simpa [pd] using this
        walk_at "v"
        refine k' R H3 s3 n2 ⟨ps,eR,fun x hx=>(hps x hx).1,by omega,fun x hx=>(hps x hx).2.2.2,?_⟩
        show pls (tiedF hs ss)=_
        unfold tiedF
        rw [hpd,getD_at q1]
  refine ⟨_,(J.e (J.j (i:=2) sc_law_paper.nd rfl (Or.inl rfl) (J.m D_law_row (hr.mono (by decide)) rfl (J.b (J.a 0) (J.b J.c (J.b (J.t (J.b J.c (J.b J.c (J.b J.c (J.b J.c (J.b J.c (J.b J.c (J.b J.c (J.b J.c (J.b J.c (J.b J.c J.d st_C) st_C) st_C) st_C) st_C) st_C) st_C) st_C) st_C) st_C)) J.d st_L) st_C) st_N) (he:=st_N) (hpl:=(anyc st_C (anyc st_L any0)))) (hs:=sw_K))
      (J.e (J.j (i:=3) sc_law_paper.nd rfl (Or.inr rfl) (J.m D_law_row (hr.mono (by decide)) rfl (J.b (J.a 0) (J.b J.c (J.b (J.g op_rep (J.t (J.b J.c (J.b J.c J.d st_C) st_C)) J.c) J.d st_B) st_C) st_N) (he:=st_N) (hpl:=(anyc st_C (anyc st_B any0)))) (hs:=sw_K))
      (J.e (J.j (i:=4) sc_law_paper.nd rfl (Or.inl rfl) (J.t J.d) (hs:=sw_L))
      (J.e (J.n (J.i op_eq (J.k (ixL K) (J.a 2) J.c (fun _ _=>rfl)) J.c (nomark _))
      (J.f (Jd.ps_comp (O:=["_law_k"]) (N':=[]) (cap:=[]) (i:=4) sc_law_paper.nd rfl (Or.inl rfl) rfl (J.ag rfl T.range (J.b (J.g op_add J.c (J.k (ixL K) (J.a 2) J.c (fun _ _=>rfl))) J.d st_B)) (fun _ _ _ _ _=>(J.o (i:=0) (show List.Nodup [("_law_k":Str)] by decide +kernel) rfl (Or.inl rfl))) (fun _ _ _ _ _=>J.y) (fun _ _ _ _ _=>(Jd.pe_tup (J.b (J.a 0) (J.b (J.g op_add (J.a 0) J.c) (J.b (J.g op_mulB J.c (J.a 0)) J.d st_B) st_B) st_N))) rfl trivial rfl (by decide +kernel) rfl (by decide +kernel) (by rfl)))
      J.p)
      hu)))),?_⟩
  walk_at "v"
  refine r_new (mk:=.lst) (by simp) fun l1 H1 s1 n1 e1=>?_
  walk_at "v"
  refine ⟨a,ns,0,l1,szH,rfl,s1.seq hS,by decide,by decide,e1,by decide,by decide,fun hd hs H2 s2 n2 e2 hlen hxs hrow=>?_⟩
  have hO:HdOk hs:=⟨hlen,hxs⟩
  obtain ⟨y8,q8,a8,b8⟩:=row_get hlen hxs 8 rfl
  obtain ⟨y9,q9,a9,b9⟩:=row_get hlen hxs 9 rfl
  have s02:=s1.trans s2
  walk_at "v"
  refine r_new (mk:=.lst) (by simp) fun l3 H3 s3 n3 e3=>?_
  walk_at "v"
  refine r_rep e3 (by decide) (by decide) ?_
  refine r_new (mk:=.lst) (by decide) fun l4 H4 s4 n4 e4=>?_
  have s04:=s02.trans (s3.trans s4)
  walk_at "v"
  refine ⟨a,ns,1,l4,szS,rfl,s04.seq hS,by decide,by decide,by rw [e4];rfl,by decide +kernel,by decide +kernel,fun sm ss H5 s5 n5 e5 hlen5 hxs5 hrow5=>?_⟩
  obtain ⟨hC,h120⟩:=cel_row hlen5 hxs5
  have e2':=s5 _ _ (s4 _ _ (s3 _ _ e2))
  have s05:=s04.trans s5
  walk_at "v"
  refine r_new (mk:=.lst) (by simp) fun lg H6 s6 n6 e6=>?_
  walk_at "v"
  refine r_l (s6 _ _ e2') (at_ints q8 rfl) ?_
  walk_at "v"
  refine ite2 (fun c=>?_) (fun c=>?_)
  · have c:y8=1:=of_decide_eq_true c
    walk_at "v"
    refine r_rng1 ?_
    walk_at "v"
    refine r_l (s6 _ _ e2') (at_ints q9 rfl) ?_
    walk_at "v"
    refine ⟨_,rfl,by omega,by omega,?_⟩
    refine compB_of tells_rng (fun _ _=>trivial) (by simp;omega) (fun i ys G=>∃ts:List T3,ys=tv ts∧T3s G ts∧ts.map (·.2)=(List.range i).map fun k:Nat=>[(k:Int),(k:Int)+1,3*(k:Int)]) ⟨[],rfl,fun x hx=>absurd hx (by simp),rfl⟩ ?_ ?_
    · rintro D i x ys H7 σ0 NN N0 g0 hD eD s7 hv hy ⟨ts,rfl,hts,hm⟩ kY kN
      obtain ⟨hi,rfl⟩:=rng_at hv
      refine r_own1 g0 ?_
      walk_at "v"
      refine iteT ?_
      walk_at "v"
      refine r_new (mk:=.tup) (by simp) fun t H8 s8 n8 e8=>?_
      refine kY _ H8 s8 ⟨ts++[(t,[(i:Int),(i:Int)+1,3*(i:Int)])],tv_snoc ts (t,_),T3s.snoc (fun x hx=>(hts x hx).up (rm_rm s8)) (T3At.rm (x:=(t,[(i:Int),(i:Int)+1,3*(i:Int)])) ⟨e8,rfl,fun n hn=>?_⟩ (s8 _ _ eD)),?_⟩
      · have hn:n∈[(i:Int),(i:Int)+1,3*(i:Int)]:=hn
        simp only [List.mem_cons,List.not_mem_nil,or_false] at hn
        have hi':i<44:=by omega
        show n.natAbs<1000000000000000000
        rcases hn with rfl | rfl | rfl <;> omega
      · rw [List.map_append,hm,range_snoc]
        rfl
    rintro D ys H7 nD eD s7 hy ⟨ts,rfl,hts,hm⟩
    refine hR _ _ ⟨hd,sm,D,hs,ss,ts,rfl,s05.trans (s6.trans s7),(s6.trans s7) _ _ e2',(s6.trans s7) _ _ e5,hrow,hrow5,hO,hC,h120,eD,fun x hx=>(hts x hx).up rm_same,?_⟩
    rw [hm]
    unfold longF
    rw [getD_at q8,if_pos c,getD_at q9]
    simp
  · have c:¬y8=1:=of_decide_eq_false (Bool.eq_false_iff.mpr c)
    walk_at "v"
    refine hR _ _ ⟨hd,sm,lg,hs,ss,[],rfl,s05.trans s6,s6 _ _ e2',s6 _ _ e5,hrow,hrow5,hO,hC,h120,e6,fun x hx=>absurd hx (by simp),?_⟩
    unfold longF
    rw [getD_at q8,if_neg c]
    rfl
end

noncomputable def nd? (ws:List (List Nat)) (c:Nat):Option (List Int):=if (0<c∧ws.length≠c)∨ws.length=0 then none else nums? ws
theorem nd_3 (ws:List (List Nat)):nd? ws 3=th? ws:=by
  unfold nd? th?
  by_cases h:ws.length=3
  · rw [if_neg (by omega),if_pos h]
  · rw [if_pos (by omega),if_neg h]
theorem nd_0 (ws:List (List Nat)):nd? ws 0=lb? ws:=by
  unfold nd? lb?
  by_cases h:ws.length=0
  · rw [if_pos (by omega),if_pos h]
  · rw [if_neg (by omega),if_neg h]
noncomputable def spNdue:Sp:=fun vs H Q _=>∃(L:Addr) (ws:List (List Nat)) (c:Nat),vs=[.ref L,.int (c:Int)]∧H L=some (.lst (sv ws))∧ws.length≤200000∧(∀z∈ws,z.length≤100000)∧(nd? ws c=none→∀H',Same H H'→Q .non H')∧∀v,nd? ws c=some v→∀(R:Addr) (H':Hp),Same H H'→H R=none→H' R=some (.lst (v.map V.int))→Q (.ref R) H'
noncomputable def spDueL:Sp:=fun vs H Q _=>∃(L:Addr) (zs:List (List Nat)) (free:Bool),vs=[.ref L,.bl free]∧Lns H L zs ∧
  (∀k,Bad free zs k→∀(t:Addr) (H':Hp),Same H H'→H' t=some (.tup [.non,.int (k:Int)])→Q (.ref t) H') ∧
  (∀ds,Due free zs ds→∀(t R:Addr) (xs:List V) (H':Hp),Same H H'→H' t=some (.tup [.ref R,.int (zs.length:Int)])→H R=none→H' R=some (.lst xs)→Dens H' xs ds→Q (.ref t) H')
theorem inV_due (os:List (Option Int)):inV .non (os.map due)=os.any Option.isNone:=by
  unfold inV
  induction os with
  | nil=>rfl
  | cons o os ih=>
    rw [List.map_cons,List.any_cons,List.any_cons,ih]
    cases o <;> rfl
theorem flat_due (os:List (Option Int)):(os.map due).all flatV=true:=by
  induction os with
  | nil=>rfl
  | cons o os ih=>
    rw [List.map_cons,List.all_cons,ih]
    cases o <;> rfl
theorem due_all:∀{os:List (Option Int)},os.any Option.isNone=false→∃v:List Int,os=v.map some∧os.map due=v.map V.int
  | [],_=>⟨[],rfl,rfl⟩
  | none::_,h=>by cases h
  | some n::os,h=>by
    obtain ⟨v,e1,e2⟩:=due_all (os:=os) (by rw [List.any_cons] at h;exact h)
    exact ⟨n::v,by rw [List.map_cons,← e1],by rw [List.map_cons,List.map_cons,← e2];rfl⟩
section
variable {P:Program} {w:World} {K:PySem.W.Frag} {mg:Str→Option Value} {base:Heap} {f:Addr} {fd:FuncData}
theorem sc_law_lines:FnScope ["_law_paper_here","_law_free","_law_lines_here","_law_numbers","_law_threes","_law_three_here"] ["_law_paper_here","_law_free"] (defScope s_law_lines):=⟨rfl,rfl,rfl,by decide +kernel,rfl,by decide +kernel,by decide +kernel⟩
theorem ok_law_lines (F:Fun K "_law_lines" "_law_lines" s_law_lines f fd) (T:Txt mg):FnOk P w K mg base CX0 1 f fd ["_law_paper_here","_law_free"] spLinesL:=by
  refine F.ok sc_law_lines (fun vs H Q E h=>?_) (fun cdv A outer s H vs Q E hr h=>?_)
  · obtain ⟨R,free,zs,rfl,_⟩:=h
    rfl
  obtain ⟨R,free,zs,rfl,hP,k⟩:=h
  refine Jd.go ⟨_,(J.e (J.n (J.ac (J.a 1))
      (J.f (J.l (J.af (O:=["_law_three_here"]) (N':=[]) (cap:=[]) rfl (Jd.piL K (J.a 0)) (fun _ _ _ _ _=>(J.o (i:=0) (show List.Nodup [("_law_three_here":Str)] by decide +kernel) rfl (Or.inl rfl))) (fun _ _ _ _ _=>J.y) (fun _ _ _ _ _=>(Jd.strM K PySem.F.slot_str_join PySem.F.type_str_join mt_join J.h (J.af (O:=["_law_one"]) (N':=[]) (cap:=[]) rfl (Jd.piT K (J.a 0)) (fun _ _ _ _ _=>(J.o (i:=0) (show List.Nodup [("_law_one":Str)] by decide +kernel) rfl (Or.inl rfl))) (fun _ _ _ _ _=>J.y) (fun _ _ _ _ _=>(J.aa strC rfl T.str_ PyProof.Rows.boot_str (J.b (J.a 0) J.d st_N))) rfl trivial rfl (by decide +kernel) rfl (by decide +kernel)))) rfl trivial rfl (by decide +kernel) rfl (by decide +kernel))))
      J.p)
      (J.e (J.j (i:=2) sc_law_lines.nd rfl (Or.inl rfl) (J.t J.d) (hs:=sw_L))
      (J.e (J.ab PassesOwn.never rfl (Jd.piL K (J.a 0)) (Jd.pgT K (n:=2) rfl (J.ae (J.o (i:=3) sc_law_lines.nd rfl (Or.inl rfl)) (J.ae (J.o (i:=4) sc_law_lines.nd rfl (Or.inl rfl)) Jd.pgs_nil)))
      (J.e (J.s (J.w K (J.a 2) (J.g op_add_str J.h (Jd.strM K PySem.F.slot_str_join PySem.F.type_str_join mt_join J.h (J.af (O:=["_law_one"]) (N':=[]) (cap:=[]) rfl (Jd.piL K (J.a 3)) (fun _ _ _ _ _=>(J.o (i:=0) (show List.Nodup [("_law_one":Str)] by decide +kernel) rfl (Or.inl rfl))) (fun _ _ _ _ _=>J.y) (fun _ _ _ _ _=>(J.aa strC rfl T.str_ PyProof.Rows.boot_str (J.b (J.a 0) J.d st_N))) rfl trivial rfl (by decide +kernel) rfl (by decide +kernel))))) (hs:=sw_K))
      (J.f (J.ab PassesOwn.never rfl (Jd.piL K (J.a 4)) (J.o (i:=5) sc_law_lines.nd rfl (Or.inl rfl))
      (J.f (J.s (J.w K (J.a 2) (J.g op_add_str J.h (Jd.strM K PySem.F.slot_str_join PySem.F.type_str_join mt_join J.h (J.af (O:=["_law_one"]) (N':=[]) (cap:=[]) rfl (Jd.piT K (J.a 5)) (fun _ _ _ _ _=>(J.o (i:=0) (show List.Nodup [("_law_one":Str)] by decide +kernel) rfl (Or.inl rfl))) (fun _ _ _ _ _=>J.y) (fun _ _ _ _ _=>(J.aa strC rfl T.str_ PyProof.Rows.boot_str (J.b (J.a 0) J.d st_N))) rfl trivial rfl (by decide +kernel) rfl (by decide +kernel))))) (hs:=sw_K)))))))
      (J.f (J.l (J.a 2)))))),?_⟩
  walk_at "v"
  cases free with
  | true=>
    obtain ⟨ts,eR,hts,hl,rfl⟩:=hP
    refine iteT ?_
    walk_at "v"
    refine r_iL ?_
    walk_at "v"
    refine ⟨R,rfl,⟨_,SqL.of eR⟩,?_⟩
    refine compB_of (xs:=tv ts) tells_list (fun H3 s3=>SqL.of (s3 _ _ eR)) (by rw [tv_len];omega) (fun j ys G=>ys=sv (((ts.take j).map (·.2)).map nl)) rfl ?_ ?_
    · rintro D2 j v ys2 H3 σ1 NN2 N02 g0 hD2 eD2 s3 hv hy2 rfl kY2 kN2
      obtain ⟨x,hx,rfl⟩:=tv_at hv
      obtain ⟨ex,h3,hw⟩:=(hts.up s3) x (List.mem_of_getElem? hx)
      refine r_own1 g0 ?_
      walk_at "v"
      refine iteT ?_
      walk_at "v"
      refine ⟨rfl,?_⟩
      walk_at "v"
      refine r_iT ?_
      walk_at "v"
      refine ⟨x.1,rfl,⟨_,SqT.of ex⟩,?_⟩
      refine compB_of (xs:=x.2.map V.int) tells_tup (fun H4 s4=>SqT.of (s4 _ _ ex)) (by rw [List.length_map];omega) (fun j ys G=>ys=sv ((x.2.take j).map ww)) rfl ?_ ?_
      · rintro D3 j v ys3 H4 σ2 NN3 N03 g1 hD3 eD3 s4 hv hy3 rfl kY3 kN3
        obtain ⟨n,hn,rfl⟩:=ints_get hv
        refine r_own1 g1 ?_
        walk_at "v"
        refine iteT ?_
        walk_at "v"
        refine ⟨_,rfl,wb_log (hw n (List.mem_of_getElem? hn)),?_⟩
        rw [str_int]
        exact kY3 _ H4 (Same.refl _) (ww_snoc hn).symm
      · rintro D3 ys3 H4 nD3 eD3 s4 hy3 rfl
        rw [List.length_map,List.take_length,sv_strs] at eD3
        have hsum:=ww_sum x.2 hw
        have hjl:=jn_len (x.2.map ww)
        rw [List.length_map] at hjl
        walk_at "v"
        rw [c_blank]
        refine ⟨_,D3,(x.2.map ww).map tx,rfl,rfl,eD3,by rw [jn_fold,List.length_map];exact sizeBig (by omega),by rw [glue_jn,tx_len];exact sizeBig (by omega),?_⟩
        rw [glue_jn]
        refine kY2 _ H4 s4 ?_
        unfold sv
        rw [List.take_succ,hx,Option.toList_some,List.map_append,List.map_append,List.map_append]
        rfl
    · rintro D2 ys2 H3 nD2 eD2 s3 hy2 rfl
      rw [tv_len,List.take_length] at eD2
      exact k D2 H3 s3 nD2 eD2
  | false=>
    obtain ⟨ps,eR,hps,hl,hl2,rfl⟩:=hP
    refine iteF ?_
    walk_at "v"
    refine r_new (mk:=.lst) (by simp) fun Z H1 s1 n1 e1=>?_
    walk_at "v"
    refine r_for (r_iL ?_)
    walk_at "v"
    refine ⟨R,rfl,⟨_,SqL.of (s1 _ _ eR)⟩,for_list (xs:=pv ps) (fun i σ H2=>∃v3 v4 v5:Option V,σ=[some (.ref R),some (.bl false),some (.ref Z),v3,v4,v5]∧Same H H2∧H2 Z=some (.lst (sv (pls (pd (ps.take i)))))∧(pls (pd (ps.take i))).length≤70*i) ⟨none,none,none,rfl,s1,e1,Nat.le_refl _⟩ ?_ ?_ ?_⟩
    · rintro i σ H2 _ ⟨v3,v4,v5,rfl,s2,_⟩
      exact SqL.of (s2 _ _ eR)
    · rintro i v σ H2 hv ⟨v3,v4,v5,rfl,s2,e2,hz⟩
      obtain ⟨x,hx,rfl⟩:=pv_at hv
      have mx:=List.mem_of_getElem? hx
      have hi:i<3:=by have:=(List.getElem?_eq_some_iff.mp hx).1;omega
      have ax:=(hps x mx).up s2
      obtain ⟨q1,q2⟩:=hl2 x mx
      refine body_cut fun MM B RR hMM _ _=>?_
      refine r_unpack2 ax.t ?_
      walk_at "v"
      refine ⟨.inl ⟨rfl,_,SqL.of e2⟩,?_⟩
      walk_at "v"
      refine ⟨rfl,?_⟩
      walk_at "v"
      refine r_iL ?_
      walk_at "v"
      refine ⟨x.l,rfl,⟨_,SqL.of ax.l⟩,?_⟩
      refine compB_of (xs:=x.ns.map V.int) tells_list (fun H4 s4=>SqL.of (s4 _ _ ax.l)) (by rw [List.length_map];omega) (fun j ys G=>ys=sv ((x.ns.take j).map ww)) rfl ?_ ?_
      · rintro D3 j v ys3 H4 σ2 NN3 N03 g1 hD3 eD3 s4 hv hy3 rfl kY3 kN3
        obtain ⟨n,hn,rfl⟩:=ints_get hv
        refine r_own1 g1 ?_
        walk_at "v"
        refine iteT ?_
        walk_at "v"
        refine ⟨_,rfl,wb_log (ax.wb n (List.mem_of_getElem? hn)),?_⟩
        rw [str_int]
        exact kY3 _ H4 (Same.refl _) (ww_snoc hn).symm
      rintro D3 ys3 H3 nD3 eD3 s3 hy3 rfl
      rw [List.length_map,List.take_length,sv_strs] at eD3
      have hsum:=ww_sum x.ns ax.wb
      have hjl:=jn_len (x.ns.map ww)
      rw [List.length_map] at hjl
      have hn:=nl_len ax.wb
      walk_at "v"
      rw [c_blank]
      refine ⟨_,D3,(x.ns.map ww).map tx,rfl,rfl,eD3,by rw [jn_fold,List.length_map];exact sizeBig (by omega),by rw [glue_jn,tx_len];exact sizeBig (by omega),?_⟩
      rw [glue_jn,show jn (x.ns.map ww)=nl x.ns from rfl,c_labB]
      refine ⟨_,_,rfl,rfl,by rw [tx_len,tx_len];exact sizeBig (by simp only [List.length_append,lab,List.length_cons,List.length_nil];omega),?_⟩
      rw [tx_app]
      walk_at "v"
      have e3:=s3 _ _ e2
      refine r_app e3 (by rw [sv_len];exact small1000 (by omega)) ?_
      have eZ4:upd H3 Z (.lst (sv (pls (pd (ps.take i)))++[V.str (tx (lab++[32]++nl x.ns))])) Z=some (.lst (sv (pls (pd (ps.take i))++[lab++32::nl x.ns]))):=by
        rw [upd_same]
        unfold sv
        rw [List.map_append,List.append_assoc]
        rfl
      have s4:Same H (upd H3 Z (.lst (sv (pls (pd (ps.take i)))++[V.str (tx (lab++[32]++nl x.ns))]))):=same_at (s2.trans s3) n1
      generalize upd H3 Z (.lst (sv (pls (pd (ps.take i)))++[V.str (tx (lab++[32]++nl x.ns))]))=H4 at eZ4 s4 ⊢
      have a4:=(hps x mx).up s4
      walk_at "v"
      dsimp only
      refine r_for (r_iL ?_)
      walk_at "v"
      refine ⟨x.b,rfl,⟨_,SqL.of a4.b⟩,for_list (xs:=tv x.bs) (fun j σ H5=>∃v5:Option V,σ=[some (.ref R),some (.bl false),some (.ref Z),some (.ref x.l),some (.ref x.b),v5]∧Same H H5∧H5 Z=some (.lst (sv ((pls (pd (ps.take i))++[lab++32::nl x.ns])++((x.bs.take j).map (·.2)).map fun v=>bar++32::nl v)))) ⟨_,rfl,s4,by rw [eZ4];simp⟩ ?_ ?_ ?_⟩
      · rintro j σ H5 _ ⟨v5,rfl,s5,_⟩
        exact SqL.of (s5 _ _ (hps x mx).b)
      · rintro j v σ H5 hv ⟨v5,rfl,s5,e5⟩
        obtain ⟨y,hy,rfl⟩:=tv_at hv
        obtain ⟨ey,h3,hw⟩:=((hps x mx).bs.up s5) y (List.mem_of_getElem? hy)
        have hj:=(List.getElem?_eq_some_iff.mp hy).1
        refine body_cut fun MM2 B2 RR2 hMM2 _ _=>?_
        walk_at "v"
        refine ⟨.inl ⟨rfl,_,SqL.of e5⟩,?_⟩
        walk_at "v"
        refine ⟨rfl,?_⟩
        walk_at "v"
        refine r_iT ?_
        walk_at "v"
        refine ⟨y.1,rfl,⟨_,SqT.of ey⟩,?_⟩
        refine compB_of (xs:=y.2.map V.int) tells_tup (fun H6 s6=>SqT.of (s6 _ _ ey)) (by rw [List.length_map];omega) (fun j ys G=>ys=sv ((y.2.take j).map ww)) rfl ?_ ?_
        · rintro D3 j v ys3 H4 σ2 NN3 N03 g1 hD3 eD3 s4 hv hy3 rfl kY3 kN3
          obtain ⟨n,hn,rfl⟩:=ints_get hv
          refine r_own1 g1 ?_
          walk_at "v"
          refine iteT ?_
          walk_at "v"
          refine ⟨_,rfl,wb_log (hw n (List.mem_of_getElem? hn)),?_⟩
          rw [str_int]
          exact kY3 _ H4 (Same.refl _) (ww_snoc hn).symm
        rintro D3 ys3 H6 nD3 eD3 s6 hy3 rfl
        rw [List.length_map,List.take_length,sv_strs] at eD3
        have hsum:=ww_sum y.2 hw
        have hjl:=jn_len (y.2.map ww)
        rw [List.length_map] at hjl
        have hn:=nl_len hw
        walk_at "v"
        refine ⟨_,D3,(y.2.map ww).map tx,rfl,rfl,eD3,by rw [jn_fold,List.length_map];exact sizeBig (by omega),by rw [glue_jn,tx_len];exact sizeBig (by omega),?_⟩
        rw [glue_jn,show jn (y.2.map ww)=nl y.2 from rfl,c_barB]
        refine ⟨_,_,rfl,rfl,by rw [tx_len,tx_len];exact sizeBig (by simp only [List.length_append,bar,List.length_cons,List.length_nil];omega),?_⟩
        rw [tx_app,List.append_assoc]
        walk_at "v"
        have e6:=s6 _ _ e5
        refine r_app e6 (by simp only [sv_len,List.length_append,List.length_map,List.length_take,List.length_cons,List.length_nil];exact small1000 (by omega)) ?_
        refine hMM2 _ _ ⟨_,rfl,same_at (s5.trans s6) n1,?_⟩
        rw [upd_same,List.take_succ,hy,Option.toList_some]
        simp [sv]
      · rintro σ H5 ⟨v5,rfl,s5,e5⟩
        rw [tv_len,List.take_length] at e5
        have ep:pls (pd (ps.take (i+1)))=(pls (pd (ps.take i))++[lab++32::nl x.ns])++(x.bs.map (·.2)).map (fun v=>bar++32::nl v):=by
          unfold pls pd
          rw [List.take_succ,hx,Option.toList_some,List.map_append,List.flatMap_append,List.append_assoc]
          simp
        refine hMM _ _ ⟨_,_,_,rfl,s5,by rw [ep];exact e5,?_⟩
        rw [ep]
        simp only [List.length_append,List.length_map,List.length_cons,List.length_nil]
        omega
    · rintro σ H2 ⟨v3,v4,v5,rfl,s2,e2,hz⟩
      rw [pv_len,List.take_length] at e2
      walk_at "v"
      exact k Z H2 s2 n1 e2
theorem sc_law_numbers_due:FnScope ["_law_parts","_law_count","_law_numbers"] ["_law_parts","_law_count"] (defScope s_law_numbers_due):=⟨rfl,rfl,rfl,by decide +kernel,rfl,by decide +kernel,by decide +kernel⟩
theorem ok_law_numbers_due (F:Fun K "_law_numbers_due" "_law_numbers_due" s_law_numbers_due f fd) (T:Txt mg) (D_law_whole_due:Dn P w K mg base 1 "_law_whole_due" ["_law_word_here","_law_figures"] spDue):FnOk P w K mg base CX0 2 f fd ["_law_parts","_law_count"] spNdue:=by
  refine F.ok sc_law_numbers_due (fun vs H Q E h=>?_) (fun cdv A outer s H vs Q E hr h=>?_)
  · obtain ⟨L,ws,c,rfl,_⟩:=h
    rfl
  obtain ⟨L,ws,c,rfl,hL,hl,hz,kn,ks⟩:=h
  refine Jd.go (Jd.cut 1 (fun σ H'=>σ=[some (.ref L),some (.int (c:Int)),none]∧H'=H∧¬((0<c∧ws.length≠c)∨ws.length=0)) ?_ fun u hu hR=>?_)
  · refine ⟨_,(J.e (Jd.ps_comp (O:=["_law_word_here"]) (N':=[]) (cap:=[]) (i:=2) sc_law_numbers_due.nd rfl (Or.inl rfl) rfl (Jd.piL K (J.a 0)) (fun _ _ _ _ _=>(J.o (i:=0) (show List.Nodup [("_law_word_here":Str)] by decide +kernel) rfl (Or.inl rfl))) (fun _ _ _ _ _=>J.y) (fun _ _ _ _ _=>(J.m D_law_whole_due (hr.mono (by decide)) rfl (J.b (J.a 0) (J.b J.c J.d st_C) st_N) (he:=st_N) (hpl:=(anyc st_C any0)))) rfl trivial rfl (by decide +kernel) rfl (by decide +kernel) (by rfl))
      (J.e (J.n (J.i (inSeq K) J.u (J.a 2) rfl)
      (J.f (J.l J.u))
      J.p)
      (J.f (J.l (J.a 2))))),?_⟩
    rintro σ H1 ⟨rfl,rfl,hc⟩
    unfold nd? at kn ks
    rw [if_neg hc] at kn ks
    walk_at "v"
    refine r_iL ?_
    walk_at "v"
    refine ⟨L,rfl,⟨_,SqL.of hL⟩,?_⟩
    refine compB_of (xs:=sv ws) tells_list (fun H4 s4=>SqL.of (s4 _ _ hL)) (by rw [sv_len];omega) (fun i ys G=>ys=((ws.take i).map fun w=>wd w 18).map due) rfl ?_ ?_
    · rintro D i x ys H4 σ0 NN N0 g0 hD eD s4 hv hy rfl kY kN
      obtain ⟨z,hz',rfl⟩:=sv_at hv
      refine r_own1 g0 ?_
      walk_at "v"
      refine iteT ?_
      walk_at "v"
      refine ⟨z,18,rfl,hz z (List.mem_of_getElem? hz'),by decide,fun H5 s5=>?_⟩
      refine kY _ H5 s5 ?_
      rw [List.take_succ,hz',Option.toList_some,List.map_append,List.map_append]
      rfl
    · rintro D ys H4 nD eD s4 hy rfl
      rw [sv_len,List.take_length] at eD
      walk_at "v"
      refine ⟨D,_,rfl,.inl (SqL.of eD),rfl,flat_due _,?_⟩
      rw [if_neg Bool.false_ne_true,inV_due]
      walk_at "v"
      cases hq:(ws.map fun w=>wd w 18).any Option.isNone with
      | true=>
        refine iteT ?_
        walk_at "v"
        obtain ⟨o,ho,hn⟩:=List.any_eq_true.mp hq
        obtain ⟨z,hz,rfl⟩:=List.mem_map.mp ho
        exact kn (nums_none hz (Option.isNone_iff_eq_none.mp hn)) H4 s4
      | false=>
        refine iteF ?_
        walk_at "v"
        obtain ⟨v,e1,e2⟩:=due_all hq
        rw [e2] at eD
        exact ks v (nums_some e1) D H4 s4 nD eD
  refine ⟨_,(J.e (J.n (J.x (Jd.pw_or (J.x (J.ad (J.i op_gt (J.a 1) J.c (nomark _)) (Jd.pw_and1 (J.i op_ne (J.r (lenC K) rfl T.len_ PySem.boot_len (J.b (J.a 0) J.d st_N) (he:=st_N) (hpl:=any0)) (J.a 1) (nomark _))))) (Jd.pw_or1 (J.i op_eq (J.r (lenC K) rfl T.len_ PySem.boot_len (J.b (J.a 0) J.d st_N) (he:=st_N) (hpl:=any0)) J.c (nomark _)))))
      (J.f (J.l J.u))
      J.p)
      hu),?_⟩
  walk_at "v"
  have no:(0<c∧ws.length≠c)∨ws.length=0→Q .non H:=fun z=>kn (by unfold nd?;rw [if_pos z]) H (Same.refl _)
  refine ite2 (fun c0=>?_) (fun c0=>?_)
  · have c0:(c:Int)>0:=of_decide_eq_true c0
    walk_at "v"
    refine r_len (.inl (SqL.of hL)) ?_
    rw [sv_len]
    walk_at "v"
    by_cases h1:ws.length=c
    · rw [decide_eq_true (show (ws.length:Int)=(c:Int) by omega)]
      refine iteF ?_
      walk_at "v"
      refine r_len (.inl (SqL.of hL)) ?_
      rw [sv_len]
      walk_at "v"
      by_cases h2:ws.length=0
      · rw [decide_eq_true (show (ws.length:Int)=0 by omega)]
        refine iteT ?_
        walk_at "v"
        exact no (.inr h2)
      · rw [decide_eq_false (show ¬(ws.length:Int)=0 by omega)]
        refine iteF ?_
        walk_at "v"
        exact hR _ _ ⟨rfl,rfl,by omega⟩
    · rw [decide_eq_false (show ¬(ws.length:Int)=(c:Int) by omega)]
      refine iteT ?_
      walk_at "v"
      refine iteT ?_
      walk_at "v"
      exact no (.inl ⟨by omega,h1⟩)
  · have c0:¬(c:Int)>0:=of_decide_eq_false (Bool.eq_false_iff.mpr c0)
    walk_at "v"
    refine iteF ?_
    walk_at "v"
    refine r_len (.inl (SqL.of hL)) ?_
    rw [sv_len]
    walk_at "v"
    by_cases h2:ws.length=0
    · rw [decide_eq_true (show (ws.length:Int)=0 by omega)]
      refine iteT ?_
      walk_at "v"
      exact no (.inr h2)
    · rw [decide_eq_false (show ¬(ws.length:Int)=0 by omega)]
      refine iteF ?_
      walk_at "v"
      exact hR _ _ ⟨rfl,rfl,by omega⟩
theorem sc_law_due:FnScope ["_law_lines_here","_law_free","_law_paper_here","_law_at","_law_parts","_law_three_here","_law_numbers"] ["_law_lines_here","_law_free"] (defScope s_law_due):=⟨rfl,rfl,rfl,by decide +kernel,rfl,by decide +kernel,by decide +kernel⟩
theorem ok_law_due (F:Fun K "_law_due" "_law_due" s_law_due f fd) (T:Txt mg) (D_law_numbers_due:Dn P w K mg base 2 "_law_numbers_due" ["_law_parts","_law_count"] spNdue):FnOk P w K mg base CX0 3 f fd ["_law_lines_here","_law_free"] spDueL:=by
  refine F.ok sc_law_due (fun vs H Q E h=>?_) (fun cdv A outer s H vs Q E hr h=>?_)
  · obtain ⟨L,zs,free,rfl,_⟩:=h
    rfl
  obtain ⟨L,zs,free,rfl,⟨hL,hl,hz⟩,kb,kg⟩:=h
  refine Jd.go ⟨_,(J.e (J.j (i:=2) sc_law_due.nd rfl (Or.inl rfl) (J.t J.d) (hs:=sw_L))
      (J.e (J.ab PassesOwn.never rfl (J.ag rfl T.range (J.b (J.r (lenC K) rfl T.len_ PySem.boot_len (J.b (J.a 0) J.d st_N) (he:=st_N) (hpl:=any0)) J.d st_K)) (J.o (i:=3) sc_law_due.nd rfl (Or.inl rfl))
      (J.e (J.j (i:=4) sc_law_due.nd rfl (Or.inl rfl) (Jd.strM K PySem.F.slot_str_split PySem.F.type_str_split mt_split (J.k (ixL K) (J.a 0) (J.a 3) (fun _ _=>rfl)) J.h) (hs:=sw_K))
      (J.e (J.n (J.ac (J.a 1))
      (J.f (J.j (i:=5) sc_law_due.nd rfl (Or.inl rfl) (J.m D_law_numbers_due (hr.mono (by decide)) rfl (J.b (J.a 4) (J.b J.c J.d st_C) st_N) (he:=st_N) (hpl:=(anyc st_C any0))) (hs:=sw_K)))
      (J.f (J.n (J.i op_eq (J.k (ixL K) (J.a 4) J.c (fun _ _=>rfl)) J.h (nomark _))
      (J.e (J.j (i:=5) sc_law_due.nd rfl (Or.inl rfl) J.u (hs:=sw_C))
      (J.e (J.j (i:=6) sc_law_due.nd rfl (Or.inl rfl) (J.m D_law_numbers_due (hr.mono (by decide)) rfl (J.b (J.v (slL K) (J.a 4) (J.q J.c) J.z) (J.b J.c J.d st_C) st_S) (he:=st_S) (hpl:=(anyc st_C any0))) (hs:=sw_K))
      (J.e (J.n (J.i op_isN (J.a 6) J.u (nomark _))
      (J.f (J.l (Jd.pe_tup (J.b J.u (J.b (J.a 3) J.d st_N) st_C))))
      J.p)
      (J.f (J.s (J.w K (J.a 2) (Jd.pe_tup (J.b (J.a 6) (J.b (J.t J.d) J.d st_L) st_N))) (hs:=sw_K))))))
      (J.e (J.j (i:=5) sc_law_due.nd rfl (Or.inl rfl) (J.m D_law_numbers_due (hr.mono (by decide)) rfl (J.b (J.v (slL K) (J.a 4) (J.q J.c) J.z) (J.b J.c J.d st_C) st_S) (he:=st_S) (hpl:=(anyc st_C any0))) (hs:=sw_K))
      (J.f (J.n (J.x (Jd.pw_or (J.i op_ne (J.k (ixL K) (J.a 4) J.c (fun _ _=>rfl)) J.h (nomark _)) (Jd.pw_or1 (J.i op_eq (J.r (lenC K) rfl T.len_ PySem.boot_len (J.b (J.a 2) J.d st_N) (he:=st_N) (hpl:=any0)) J.c (nomark _)))))
      (J.f (J.j (i:=5) sc_law_due.nd rfl (Or.inl rfl) J.u (hs:=sw_C)))
      J.p))))))
      (J.e (J.n (J.x (J.ad (J.i op_isN (J.a 5) J.u (nomark _)) (Jd.pw_and1 (J.x (Jd.pw_or (J.ac (J.a 1)) (Jd.pw_or1 (J.i op_ne (J.k (ixL K) (J.a 4) J.c (fun _ _=>rfl)) J.h (nomark _))))))))
      (J.f (J.l (Jd.pe_tup (J.b J.u (J.b (J.a 3) J.d st_N) st_C))))
      J.p)
      (J.f (J.n (J.ac (J.a 1))
      (J.f (J.s (J.w K (J.a 2) (J.aa call_tuple_of rfl T.tuple_ PyProof.Rows.boot_tuple (J.b (J.a 5) J.d st_N))) (hs:=sw_K)))
      (J.f (J.n (J.i op_notN (J.a 5) J.u (nomark _))
      (J.f (J.s (J.w K (J.k (ixT K) (J.k (ixL K) (J.a 2) (Jd.pe_un un_neg J.c) (fun _ _=>rfl)) J.c (fun _ _=>rfl)) (J.aa call_tuple_of rfl T.tuple_ PyProof.Rows.boot_tuple (J.b (J.a 5) J.d st_N))) (hs:=sw_K)))
      J.p))))))))
      (J.f (J.l (Jd.pe_tup (J.b (J.a 2) (J.b (J.r (lenC K) rfl T.len_ PySem.boot_len (J.b (J.a 0) J.d st_N) (he:=st_N) (hpl:=any0)) J.d st_K) st_N)))))),?_⟩
  walk_at "v"
  refine r_new (mk:=.lst) (by simp) fun R H1 s1 n1 e1=>?_
  walk_at "v"
  refine r_for (r_rng1 ?_)
  walk_at "v"
  refine r_len (.inl (SqL.of (s1 _ _ hL))) ?_
  rw [sv_len]
  walk_at "v"
  have spl:∀{z:List Nat},z∈zs→(sp z).length≤200000∧∀y∈sp z,y.length≤100000:=fun {z} m=>⟨sp_many (hz z m),fun y hy=>Nat.le_trans (sp_len y hy) (hz z m)⟩
  cases free with
  | true=>
    refine ⟨_,rfl,by omega,by omega,for_range (fun i σ H3=>∃(ts:List T3) (v3 v4 v5 v6:Option V),σ=[some (.ref L),some (.bl true),some (.ref R),v3,v4,v5,v6]∧Same H H3∧H3 R=some (.lst (tv ts))∧T3s H3 ts∧ts.length=i∧Sy step3 zs i (ts.map (·.2))) ⟨[],none,none,none,none,rfl,s1,e1,fun x hx=>absurd hx (by simp),rfl,rfl⟩ ?_ ?_⟩
    · rintro i σ H3 hi ⟨ts,v3,v4,v5,v6,rfl,s3,e3,t3,hle,hsay⟩
      have hi':i<zs.length:=by simpa using hi
      obtain ⟨z,hzz⟩:∃z,zs[i]?=some z:=⟨_,List.getElem?_eq_getElem hi'⟩
      have mz:=List.mem_of_getElem? hzz
      rw [show (0:Int)+(i:Int)=(i:Int) by omega]
      refine body_cut fun MM B RR hMM _ hRR=>?_
      walk_at "v"
      refine r_l (s3 _ _ hL) (atI_nat (sv_get hzz)) ?_
      walk_at "v"
      refine ⟨rfl,?_⟩
      walk_at "v"
      rw [c_blank]
      refine ⟨_,_,rfl,rfl,rfl,by rw [tx_len];exact sizeBig (by have:=hz z mz;omega),fun q nq=>?_⟩
      rw [sp_sv]
      have s4:=same_new nq (.lst (sv (sp z)))
      have e4:upd H3 q (.lst (sv (sp z))) q=some (.lst (sv (sp z))):=upd_same
      generalize upd H3 q (.lst (sv (sp z)))=H4 at s4 e4 ⊢
      walk_at "v"
      refine iteT ?_
      walk_at "v"
      refine ⟨q,sp z,3,rfl,e4,(spl mz).1,(spl mz).2,fun hn H5 s5=>?_,fun v hv R5 H5 s5 n5 e5=>?_⟩
      · rw [nd_3] at hn
        walk_at "v"
        refine ⟨rfl,?_⟩
        walk_at "v"
        refine iteT ?_
        walk_at "v"
        refine iteT ?_
        walk_at "v"
        refine iteT ?_
        walk_at "v"
        refine r_new (mk:=.tup) (by simp) fun t H6 s6 n6 e6=>?_
        refine hRR _ _ (kb i ⟨_,z,hsay,hzz,by unfold step3;rw [hn];rfl⟩ t H6 (s3.trans (s4.trans (s5.trans s6))) e6)
      · rw [nd_3] at hv
        have e6:=(s4.trans s5) _ _ e3
        walk_at "v"
        refine ⟨rfl,?_⟩
        walk_at "v"
        refine iteF ?_
        walk_at "v"
        refine iteF ?_
        walk_at "v"
        refine iteT ?_
        walk_at "v"
        refine ⟨.inl ⟨rfl,_,SqL.of e6⟩,?_⟩
        walk_at "v"
        refine ⟨R5,_,rfl,.inl ⟨SqL.of e5,fun t nt=>?_⟩⟩
        have s6:Same H5 (upd H5 t (.tup (v.map V.int))):=same_new nt _
        have ht:T3At (upd H5 t (.tup (v.map V.int))) (t,v):=⟨upd_same,(th_3 hv).1,nums_wb (th_3 hv).2⟩
        generalize upd H5 t (.tup (v.map V.int))=H6 at s6 ht ⊢
        have s36:=s4.trans (s5.trans s6)
        walk_at "v"
        refine r_app (s36 _ _ e3) (by rw [tv_len];exact small1000 (by omega)) ?_
        refine hMM _ _ ⟨ts++[(t,v)],_,_,_,_,rfl,same_at (s3.trans s36) n1,by rw [upd_same,← tv_snoc],((t3.up s36).snoc ht).put (s36 _ _ e3),by rw [List.length_append,hle];rfl,?_⟩
        have:=hsay.next hzz
        unfold Sy
        rw [this,List.map_append]
        unfold step3
        rw [hv]
        rfl
    · rintro σ H3 ⟨ts,v3,v4,v5,v6,rfl,s3,e3,t3,hle,hsay⟩
      rw [Int.toNat_natCast] at hsay
      walk_at "v"
      refine r_len (.inl (SqL.of (s3 _ _ hL))) ?_
      rw [sv_len]
      walk_at "v"
      refine r_new (mk:=.tup) (by simp) fun t H6 s6 n6 e6=>?_
      exact kg _ ⟨_,hsay,rfl⟩ t R _ H6 (s3.trans s6) e6 n1 (s6 _ _ e3) (t3.up s6).dens
  | false=>
    refine ⟨_,rfl,by omega,by omega,for_range (fun i σ H3=>∃(ps:List Pa) (v3 v4 v5 v6:Option V),σ=[some (.ref L),some (.bl false),some (.ref R),v3,v4,v5,v6]∧PapI H H3 R ps∧ps.length≤i∧(∀x∈ps,x.bs.length≤i)∧Sy stepP zs i (pd ps)) ⟨[],none,none,none,none,rfl,⟨s1,e1,n1,fun x hx=>absurd hx (by simp),by simp [adr],fun x hx=>absurd hx (by simp [adr])⟩,Nat.le_refl _,fun x hx=>absurd hx (by simp),rfl⟩ ?_ ?_⟩
    · rintro i σ H3 hi ⟨ps,v3,v4,v5,v6,rfl,I,hle,hbl,hsay⟩
      have hi':i<zs.length:=by simpa using hi
      obtain ⟨z,hzz⟩:∃z,zs[i]?=some z:=⟨_,List.getElem?_eq_getElem hi'⟩
      have mz:=List.mem_of_getElem? hzz
      have hnx:=hsay.next hzz
      obtain ⟨w0,ws,hsp⟩:∃w0 ws,sp z=w0::ws:=by
        cases e:sp z with
        | nil=>exact absurd e (sp_ne z)
        | cons a b=>exact ⟨a,b,rfl⟩
      have hwl:ws.length≤200000:=by have:=(spl mz).1;rw [hsp,List.length_cons] at this;omega
      have hwz:∀y∈ws,y.length≤100000:=fun y hy=>(spl mz).2 y (by rw [hsp];exact List.mem_cons_of_mem _ hy)
      have ec:cutV (sv (w0::ws)) (some 1) none=sv ws:=cutk _ 1
      rw [show (0:Int)+(i:Int)=(i:Int) by omega]
      refine body_cut fun MM B RR hMM _ hRR=>?_
      walk_at "v"
      refine r_l (I.sm _ _ hL) (atI_nat (sv_get hzz)) ?_
      walk_at "v"
      refine ⟨rfl,?_⟩
      walk_at "v"
      rw [c_blank]
      refine ⟨_,_,rfl,rfl,rfl,by rw [tx_len];exact sizeBig (by have:=hz z mz;omega),fun q nq=>?_⟩
      rw [sp_sv,hsp]
      have s4:=same_new nq (.lst (sv (w0::ws)))
      have e4:upd H3 q (.lst (sv (w0::ws))) q=some (.lst (sv (w0::ws))):=upd_same
      generalize upd H3 q (.lst (sv (w0::ws)))=H4 at s4 e4 ⊢
      walk_at "v"
      refine iteF ?_
      walk_at "v"
      refine r_l e4 at0 ?_
      rw [c_lab]
      walk_at "v"
      refine r_eqS ?_
      walk_at "v"
      have I4:=I.up s4
      by_cases h0:w0=lab
      · subst h0
        rw [decide_eq_true rfl]
        refine iteT ?_
        walk_at "vd"
        refine r_slL e4 fun B5 H5 s5 n5 e5=>?_
        rw [ec] at e5
        walk_at "v"
        refine ⟨B5,ws,0,rfl,e5,hwl,hwz,fun hn H6 s6=>?_,fun v hv R6 H6 s6 n6 e6=>?_⟩
        · rw [nd_0] at hn
          walk_at "v"
          refine ⟨rfl,?_⟩
          walk_at "v"
          refine iteT ?_
          walk_at "v"
          refine r_new (mk:=.tup) (by simp) fun t H7 s7 n7 e7=>?_
          refine hRR _ _ (kb i ⟨_,z,hsay,hzz,by rw [stepP_lab hsp,hn];rfl⟩ t H7 (I4.sm.trans (s5.trans (s6.trans s7))) e7)
        · rw [nd_0] at hv
          have hv':nums? ws=some v:=by
            unfold lb? at hv
            split at hv
            · cases hv
            · exact hv
          have I6:=I4.up (s5.trans s6)
          walk_at "v"
          refine ⟨rfl,?_⟩
          walk_at "v"
          refine iteF ?_
          walk_at "v"
          refine ⟨.inl ⟨rfl,_,SqL.of I6.r⟩,?_⟩
          walk_at "v"
          refine r_new (mk:=.lst) (by simp) fun b H7 s7 n7 e7=>?_
          walk_at "v"
          refine r_new (mk:=.tup) (by simp) fun t H8 s8 n8 e8=>?_
          walk_at "v"
          have I8:=I6.up (s7.trans s8)
          refine r_app I8.r (by rw [pv_len];exact small1000 (by omega)) ?_
          have I5:=I4.up s5
          have e48:upd H8 R (.lst (pv ps++[.ref t])) q=some (.lst (sv (lab::ws))):=by
            rw [upd_ne (fun w=>by have:=I.r;rw [← w,nq] at this;cases this)]
            exact (s5.trans (s6.trans (s7.trans s8))) _ _ e4
          have I9:=I8.push (x:=⟨t,R6,b,v,[]⟩) ⟨e8,s8 _ _ (s7 _ _ e6),s8 _ _ e7,fun x hx=>absurd hx List.not_mem_nil,nums_wb hv'⟩ (fun z=>I5.has z n6) (fun z=>I6.has z n7) (fun z=>by have z:R6=b:=z;rw [← z,e6] at n7;cases n7) (I5.sm.free n6) (I6.sm.free n7)
          have I9:PapI H (upd H8 R (.lst (pv ps++[.ref t]))) R (ps++[⟨t,R6,b,v,[]⟩]):=I9
          generalize upd H8 R (.lst (pv ps++[.ref t]))=H9 at e48 I9 ⊢
          walk_at "v"
          refine ⟨rfl,?_⟩
          walk_at "v"
          refine iteT ?_
          walk_at "v"
          refine iteF ?_
          walk_at "v"
          refine r_l e48 at0 ?_
          walk_at "v"
          refine r_neS ?_
          walk_at "v"
          rw [decide_eq_true rfl]
          refine iteF ?_
          walk_at "v"
          refine iteF ?_
          walk_at "v"
          refine ⟨rfl,?_⟩
          walk_at "v"
          refine iteF ?_
          walk_at "v"
          refine hMM _ _ ⟨_,_,_,_,_,rfl,I9,by rw [List.length_append,List.length_singleton];omega,fun x hx=>?_,?_⟩
          · rcases List.mem_append.mp hx with q | q
            · exact Nat.le_succ_of_le (hbl x q)
            · obtain rfl:x=⟨t,R6,b,v,[]⟩:=by simpa using q
              exact Nat.zero_le _
          · unfold Sy
            rw [hnx,stepP_lab hsp,hv]
            unfold pd
            rw [List.map_append]
            rfl
      · rw [decide_eq_false h0]
        refine iteF ?_
        walk_at "vd"
        refine r_slL e4 fun B5 H5 s5 n5 e5=>?_
        rw [ec] at e5
        walk_at "v"
        have nobar:¬w0=bar→stepP (pd ps) z=none:=fun h1=>by
          unfold stepP
          rw [hsp]
          dsimp only
          rw [if_neg h0,if_neg (fun q=>h1 q.1)]
        refine ⟨B5,ws,3,rfl,e5,hwl,hwz,fun hn H6 s6=>?_,fun v hv R6 H6 s6 n6 e6=>?_⟩
        · rw [nd_3] at hn
          have I6:=I4.up (s5.trans s6)
          have e46:=(s5.trans s6) _ _ e4
          walk_at "v"
          refine r_l e46 at0 ?_
          rw [c_bar]
          walk_at "v"
          refine r_neS ?_
          walk_at "v"
          by_cases h1:w0=bar
          · have hbad:stepP (pd ps) z=none:=by subst h1;rw [stepP_bar hsp,hn];split <;> rfl
            rw [decide_eq_true h1]
            refine iteF ?_
            walk_at "v"
            refine r_len (.inl (SqL.of I6.r)) ?_
            walk_at "v"
            refine ite2 (fun _=>?_) (fun _=>?_)
            · walk_at "v"
              dsimp only
              walk_at "v"
              refine ⟨rfl,?_⟩
              walk_at "v"
              refine iteT ?_
              walk_at "v"
              refine iteF ?_
              walk_at "v"
              refine r_l e46 at0 ?_
              walk_at "v"
              refine r_neS ?_
              walk_at "v"
              rw [decide_eq_false h0]
              refine iteT ?_
              walk_at "v"
              refine r_new (mk:=.tup) (by simp) fun t H7 s7 n7 e7=>?_
              exact hRR _ _ (kb i ⟨_,z,hsay,hzz,hbad⟩ t H7 (I6.sm.trans s7) e7)
            · walk_at "v"
              dsimp only
              walk_at "v"
              refine ⟨rfl,?_⟩
              walk_at "v"
              refine iteT ?_
              walk_at "v"
              refine iteF ?_
              walk_at "v"
              refine r_l e46 at0 ?_
              walk_at "v"
              refine r_neS ?_
              walk_at "v"
              rw [decide_eq_false h0]
              refine iteT ?_
              walk_at "v"
              refine r_new (mk:=.tup) (by simp) fun t H7 s7 n7 e7=>?_
              exact hRR _ _ (kb i ⟨_,z,hsay,hzz,hbad⟩ t H7 (I6.sm.trans s7) e7)
          · have hbad:=nobar h1
            rw [decide_eq_false h1]
            refine iteT ?_
            walk_at "v"
            refine iteT ?_
            walk_at "v"
            dsimp only
            walk_at "v"
            refine ⟨rfl,?_⟩
            walk_at "v"
            refine iteT ?_
            walk_at "v"
            refine iteF ?_
            walk_at "v"
            refine r_l e46 at0 ?_
            walk_at "v"
            refine r_neS ?_
            walk_at "v"
            rw [decide_eq_false h0]
            refine iteT ?_
            walk_at "v"
            refine r_new (mk:=.tup) (by simp) fun t H7 s7 n7 e7=>?_
            exact hRR _ _ (kb i ⟨_,z,hsay,hzz,hbad⟩ t H7 (I6.sm.trans s7) e7)
        · rw [nd_3] at hv
          have I6:=I4.up (s5.trans s6)
          have e46:=(s5.trans s6) _ _ e4
          walk_at "v"
          refine r_l e46 at0 ?_
          rw [c_bar]
          walk_at "v"
          refine r_neS ?_
          walk_at "v"
          by_cases h1:w0=bar
          · rw [decide_eq_true h1]
            refine iteF ?_
            walk_at "v"
            refine r_len (.inl (SqL.of I6.r)) ?_
            rw [pv_len]
            walk_at "v"
            subst h1
            rcases List.eq_nil_or_concat ps with rfl | ⟨qs,x,rfl⟩
            · have hbad:stepP (pd []) z=none:=by rw [stepP_bar hsp,if_neg (by simp [pd])]
              rw [decide_eq_true (show (([]:List Pa).length:Int)=0 from rfl)]
              refine iteT ?_
              walk_at "v"
              dsimp only
              walk_at "v"
              refine ⟨rfl,?_⟩
              walk_at "v"
              refine iteT ?_
              walk_at "v"
              refine iteF ?_
              walk_at "v"
              refine r_l e46 at0 ?_
              walk_at "v"
              refine r_neS ?_
              walk_at "v"
              rw [decide_eq_false h0]
              refine iteT ?_
              walk_at "v"
              refine r_new (mk:=.tup) (by simp) fun t H7 s7 n7 e7=>?_
              exact hRR _ _ (kb i ⟨_,z,hsay,hzz,hbad⟩ t H7 (I6.sm.trans s7) e7)
            · rw [List.concat_eq_append] at *
              have hx:=I6.at_ x (by simp)
              rw [decide_eq_false (show ¬((qs++[x]).length:Int)=0 by rw [List.length_append,List.length_singleton];omega)]
              refine iteF ?_
              walk_at "v"
              dsimp only
              walk_at "v"
              refine ⟨rfl,?_⟩
              walk_at "v"
              refine iteF ?_
              walk_at "v"
              refine iteF ?_
              walk_at "v"
              refine iteF ?_
              walk_at "v"
              refine ⟨rfl,?_⟩
              walk_at "v"
              refine iteT ?_
              walk_at "v"
              refine r_l I6.r (by rw [← pv_snoc];exact at_last) ?_
              walk_at "v"
              refine r_t1 hx.t ?_
              walk_at "v"
              refine ⟨.inl ⟨rfl,_,SqL.of hx.b⟩,?_⟩
              walk_at "v"
              refine ⟨R6,_,rfl,.inl ⟨SqL.of e6,fun t nt=>?_⟩⟩
              have s7:Same H6 (upd H6 t (.tup (v.map V.int))):=same_new nt _
              have ht:T3At (upd H6 t (.tup (v.map V.int))) (t,v):=⟨upd_same,(th_3 hv).1,nums_wb (th_3 hv).2⟩
              generalize upd H6 t (.tup (v.map V.int))=H7 at s7 ht ⊢
              have I7:=I6.up s7
              walk_at "v"
              refine r_app (s7 _ _ hx.b) (by rw [tv_len];exact small1000 (by have:=hbl x (by simp);omega)) ?_
              refine hMM _ _ ⟨_,_,_,_,_,rfl,I7.bar ht,by simpa using Nat.le_succ_of_le hle,fun y hy=>?_,?_⟩
              · rcases List.mem_append.mp hy with q | q
                · exact Nat.le_succ_of_le (hbl y (by simp [q]))
                · obtain rfl:y={x with bs:=x.bs++[(t,v)]}:=by simpa using q
                  show (x.bs++[(t,v)]).length≤i+1
                  have:=hbl x (by simp)
                  rw [List.length_append,List.length_singleton]
                  omega
              · unfold Sy
                rw [hnx,stepP_bar hsp,if_pos (by simp [pd]),hv]
                show some (addb (pd (qs++[x])) v)=_
                unfold pd
                rw [List.map_append,List.map_append]
                show some (addb (_++[_]) v)=_
                rw [addb_snoc]
                simp
          · have hbad:=nobar h1
            rw [decide_eq_false h1]
            refine iteT ?_
            walk_at "v"
            refine iteT ?_
            walk_at "v"
            dsimp only
            walk_at "v"
            refine ⟨rfl,?_⟩
            walk_at "v"
            refine iteT ?_
            walk_at "v"
            refine iteF ?_
            walk_at "v"
            refine r_l e46 at0 ?_
            walk_at "v"
            refine r_neS ?_
            walk_at "v"
            rw [decide_eq_false h0]
            refine iteT ?_
            walk_at "v"
            refine r_new (mk:=.tup) (by simp) fun t H7 s7 n7 e7=>?_
            exact hRR _ _ (kb i ⟨_,z,hsay,hzz,hbad⟩ t H7 (I6.sm.trans s7) e7)
    · rintro σ H3 ⟨ps,v3,v4,v5,v6,rfl,I,hle,hbl,hsay⟩
      rw [Int.toNat_natCast] at hsay
      walk_at "v"
      refine r_len (.inl (SqL.of (I.sm _ _ hL))) ?_
      rw [sv_len]
      walk_at "v"
      refine r_new (mk:=.tup) (by simp) fun t H6 s6 n6 e6=>?_
      exact kg _ ⟨_,hsay,rfl⟩ t R _ H6 (I.sm.trans s6) e6 n1 (s6 _ _ I.r) (pas_dens (I.up s6).at_)
end

--@squeeze
structure Txs (zs:List (List Nat)) (m B:Nat):Prop where
  n:zs.length≤m
  l:∀z∈zs,z.length≤B
  o:∀z∈zs,okT z
theorem rm_put {H H1:Hp} {L:Addr} {o:HO} (s:Same H H1):Same (rm L H) (upd H1 L o):=fun a v e=>by
  by_cases h:a=L
  · have z:rm L H L=none:=if_pos rfl
    rw [h,z] at e
    cases e
  · rw [upd_ne h]
    exact s _ _ (by rw [rm_at h] at e;exact e)
noncomputable def spSpoil:Sp:=fun vs H Q _=>∃(L l:Addr) (zs:List (List Nat)) (xs:List Int) (m B:Nat),vs=[.ref L,.ref l]∧H L=some (.lst (sv zs))∧H l=some (.lst (xs.map V.int))∧xs.length=([64,14,8,12]:List Int).length∧(∀(j:Nat) (x z:Int),xs[j]?=some x→([64,14,8,12]:List Int)[j]?=some z→0≤x∧x<z)∧Txs zs m B∧m≤800∧B≤20000 ∧
  ∀(L':Addr) (zs':List (List Nat)) (H':Hp),Same (rm L H) H'→H' L'=some (.lst (sv zs'))→Txs zs' (m+1) (2*B+100)→Q (.ref L') H'
noncomputable def spRefused:Sp:=fun vs H Q _=>∃(wy:List Nat) (L:Addr) (zs:List (List Nat)) (k:Nat),vs=[.str (tx wy),.ref L,.int (k:Int)]∧Lns H L zs∧(∀z∈zs,okT z)∧Bad (frS wy) zs k∧∀H',Q (.bl true) H'
noncomputable def spLaw (K:PySem.W.Frag):Sp:=fun vs H Q _=>∃(a:Addr) (ns:List Int),vs=[.ref a]∧SqL K H a (ns.map V.int)∧ns.length≤63∧∀H',Q (.bl true) H'
theorem sv_take (zs:List (List Nat)) (k:Nat):(sv zs).take k=sv (zs.take k):=by unfold sv;rw [List.map_take]
theorem sv_drop (zs:List (List Nat)) (k:Nat):(sv zs).drop k=sv (zs.drop k):=by unfold sv;rw [List.map_drop]
theorem sv_cat (zs ys:List (List Nat)):sv zs++sv ys=sv (zs++ys):=by unfold sv;rw [List.map_append]
theorem Txs.sub {zs ys:List (List Nat)} {m B m' B':Nat} (h:Txs zs m B) (hm:ys.length≤m') (hB:B≤B') (hs:∀y∈ys,y∈zs):Txs ys m' B':=⟨hm,fun z hz=>Nat.le_trans (h.l z (hs z hz)) hB,fun z hz=>h.o z (hs z hz)⟩
theorem Txs.set {zs:List (List Nat)} {m B m' B' k:Nat} {z:List Nat} (h:Txs zs m B) (hm:m≤m') (hB:B≤B') (hz:z.length≤B') (ho:okT z):Txs (zs.set k z) m' B':=by
  refine ⟨by rw [List.length_set];exact Nat.le_trans h.n hm,fun y hy=>?_,fun y hy=>?_⟩
  · rcases List.mem_or_eq_of_mem_set hy with q | q
    · exact Nat.le_trans (h.l y q) hB
    · rw [q];exact hz
  · rcases List.mem_or_eq_of_mem_set hy with q | q
    · exact h.o y q
    · rw [q];exact ho
theorem ints_eqv:∀v:List Int,PyData.eqvAll (v.map PyData.int) (v.map PyData.int)=true
  | []=>rfl
  | n::v=>by
    show (PyData.eqv (.int n) (.int n)&&PyData.eqvAll (v.map PyData.int) (v.map PyData.int))=true
    rw [ints_eqv v]
    show ((n==n)&&true)=true
    simp
theorem d3_eqv:∀st:List (List Int),PyData.eqvAll (st.map d3) (st.map d3)=true
  | []=>rfl
  | v::st=>by
    show (PyData.eqvAll (v.map PyData.int) (v.map PyData.int)&&PyData.eqvAll (st.map d3) (st.map d3))=true
    rw [ints_eqv,d3_eqv st]
    rfl
theorem dp_eqv:∀st:List Pt,PyData.eqvAll (st.map dp) (st.map dp)=true
  | []=>rfl
  | x::st=>by
    show ((PyData.eqvAll (x.1.map PyData.int) (x.1.map PyData.int)&&(PyData.eqvAll (x.2.map d3) (x.2.map d3)&&true))&&PyData.eqvAll (st.map dp) (st.map dp))=true
    rw [ints_eqv,d3_eqv,dp_eqv st]
    rfl
theorem ints_lay:∀v:List Int,PyData.canLayAll0 (v.map PyData.int)=true∧PyData.depthAll (v.map PyData.int)≤1
  | []=>⟨rfl,by decide⟩
  | n::v=>by
    obtain ⟨a,b⟩:=ints_lay v
    refine ⟨?_,?_⟩
    · show (true&&PyData.canLayAll0 (v.map PyData.int))=true
      rw [a];rfl
    · show max (PyData.int n).depth (PyData.depthAll (v.map PyData.int))≤1
      have:(PyData.int n).depth≤1:=by show 0≤1;decide
      omega
theorem d3_lay:∀st:List (List Int),PyData.canLayAll0 (st.map d3)=true∧PyData.depthAll (st.map d3)≤3
  | []=>⟨rfl,by decide⟩
  | v::st=>by
    obtain ⟨a,b⟩:=d3_lay st
    obtain ⟨c,d⟩:=ints_lay v
    refine ⟨?_,?_⟩
    · show (PyData.canLayAll0 (v.map PyData.int)&&PyData.canLayAll0 (st.map d3))=true
      rw [a,c];rfl
    · show max (d3 v).depth (PyData.depthAll (st.map d3))≤3
      have:(d3 v).depth≤3:=by show PyData.depthAll (v.map PyData.int)+1≤3;omega
      omega
theorem dp_lay:∀st:List Pt,PyData.canLayAll0 (st.map dp)=true∧PyData.depthAll (st.map dp)≤8
  | []=>⟨rfl,by decide⟩
  | x::st=>by
    obtain ⟨a,b⟩:=dp_lay st
    obtain ⟨c,d⟩:=ints_lay x.1
    obtain ⟨e,g⟩:=d3_lay x.2
    refine ⟨?_,?_⟩
    · show ((PyData.canLayAll0 (x.1.map PyData.int)&&(PyData.canLayAll0 (x.2.map d3)&&true))&&PyData.canLayAll0 (st.map dp))=true
      rw [a,c,e];rfl
    · show max (dp x).depth (PyData.depthAll (st.map dp))≤8
      have:(dp x).depth≤8:=by
        show (max (PyData.depthAll (x.1.map PyData.int)+1) (max (PyData.depthAll (x.2.map d3)+1) 0))+1≤8
        omega
      omega
theorem Due.eqv {free:Bool} {zs:List (List Nat)} {ds:List PyData} (h:Due free zs ds):PyData.eqv (.list ds) (.list ds)=true:=by
  show PyData.eqvAll ds ds=true
  cases free
  · obtain ⟨st,_,rfl⟩:=h
    exact dp_eqv st
  · obtain ⟨st,_,rfl⟩:=h
    exact d3_eqv st
theorem Due.shaped {free:Bool} {zs:List (List Nat)} {ds:List PyData} (h:Due free zs ds):SeqAt.shaped (.list ds)=true:=by
  have:PyData.canLayAll0 ds=true∧PyData.depthAll ds≤8:=by
    cases free
    · obtain ⟨st,_,rfl⟩:=h
      exact dp_lay st
    · obtain ⟨st,_,rfl⟩:=h
      obtain ⟨a,b⟩:=d3_lay st
      exact ⟨a,by omega⟩
  unfold SeqAt.shaped
  rw [Bool.and_eq_true]
  refine ⟨this.1,decide_eq_true ?_⟩
  show PyData.depthAll ds+1≤64
  omega
theorem ok_line (l:List Nat) (h:okT l) (ns:List Int):okT (l++32::nl ns):=fun c hc=>by
  rcases List.mem_append.mp hc with q | q
  · exact h c q
  · rcases List.mem_cons.mp q with q | q
    · omega
    · exact ok_nl ns c q
theorem Ppr.txs {free:Bool} {H:Hp} {R:Addr} {zs:List (List Nat)} (h:Ppr free H R zs):Txs zs 200 1300:=by
  cases free
  · obtain ⟨ps,_,hps,hl,hl2,rfl⟩:=h
    have hlen:∀qs:List Pa,(∀x∈qs,x.ns.length≤60∧x.bs.length≤60)→(pls (pd qs)).length≤61*qs.length:=by
      intro qs
      induction qs with
      | nil=>intro _;exact Nat.le_refl _
      | cons x qs ih=>
        intro hq
        have h1:=ih fun y hy=>hq y (List.mem_cons_of_mem _ hy)
        have h2:=(hq x List.mem_cons_self).2
        show (pls ((x.ns,x.bs.map (·.2))::pd qs)).length≤61*(qs.length+1)
        unfold pls at h1 ⊢
        rw [List.flatMap_cons,List.length_append,List.length_cons,List.length_map,List.length_map]
        omega
    have hmem:∀z∈pls (pd ps),(∃x∈ps,z=lab++32::nl x.ns)∨∃x∈ps,∃y∈x.bs,z=bar++32::nl y.2:=fun z hz=>by
      obtain ⟨p,hp,hz⟩:=List.mem_flatMap.mp hz
      obtain ⟨x,hx,rfl⟩:=List.mem_map.mp hp
      rcases List.mem_cons.mp hz with q | q
      · exact .inl ⟨x,hx,q⟩
      · obtain ⟨v,hv,rfl⟩:=List.mem_map.mp q
        obtain ⟨y,hy,rfl⟩:=List.mem_map.mp hv
        exact .inr ⟨x,hx,y,hy,rfl⟩
    refine ⟨by have:=hlen ps hl2;omega,fun z hz=>?_,fun z hz=>?_⟩
    · rcases hmem z hz with ⟨x,hx,rfl⟩ | ⟨x,hx,y,hy,rfl⟩
      · have h1:=nl_len (hps x hx).wb
        have h2:=(hl2 x hx).1
        rw [List.length_append,List.length_cons]
        have:lab.length=6:=rfl
        omega
      · obtain ⟨_,h3,hw⟩:=(hps x hx).bs y hy
        have h1:=nl_len hw
        rw [List.length_append,List.length_cons]
        have:bar.length=3:=rfl
        omega
    · rcases hmem z hz with ⟨x,hx,rfl⟩ | ⟨x,hx,y,hy,rfl⟩
      · exact ok_line _ (by decide) _
      · exact ok_line _ (by decide) _
  · obtain ⟨ts,_,hts,hl,rfl⟩:=h
    refine ⟨by rw [List.length_map,List.length_map];omega,fun z hz=>?_,fun z hz=>?_⟩
    · obtain ⟨v,hv,rfl⟩:=List.mem_map.mp hz
      obtain ⟨y,hy,rfl⟩:=List.mem_map.mp hv
      obtain ⟨_,h3,hw⟩:=hts y hy
      have h1:=nl_len hw
      omega
    · obtain ⟨v,hv,rfl⟩:=List.mem_map.mp hz
      exact ok_nl v
theorem same_over {H H1 H2:Hp} {a:Addr} (s:Same H H1) (n:H a=none) (t:Same (rm a H1) H2):Same H H2:=fun b o e=>t b o (by rw [rm_at (fun z=>by rw [z,n] at e;cases e)];exact s b o e)
noncomputable def wyT (i:Nat):List Nat:=([[97,112,97,114,116],[106,111,105,110,101,100],[115,112,97,110,115],[99,104,97,105,110]]:List (List Nat)).getD i []
theorem wy_fr:∀i,i<4→frS (wyT i)=decide (i<2):=by decide
theorem small_20 {n:Nat} (h:n≤200000):n<sizeLine:=Nat.lt_of_le_of_lt h (by decide)
section
variable {P:Program} {w:World} {K:PySem.W.Frag} {mg:Str→Option Value} {base:Heap} {f c_NoWord c_LathError c_NotARow c_NoLine fI:Addr} {fd:FuncData}
theorem sc_law_spoil:FnScope ["_law_lines_here","_law_some","_law_at","_law_parts","_law_place","_law_bad"] ["_law_lines_here","_law_some"] (defScope s_law_spoil):=⟨rfl,rfl,rfl,by decide +kernel,rfl,by decide +kernel,by decide +kernel⟩
theorem ok_law_spoil (F:Fun K "_law_spoil" "_law_spoil" s_law_spoil f fd) (T:Txt mg):FnOk P w K mg base CX0 1 f fd ["_law_lines_here","_law_some"] spSpoil:=by
  refine F.ok sc_law_spoil (fun vs H Q E h=>?_) (fun cdv A outer s H vs Q E hr h=>?_)
  · obtain ⟨L,l,zs,xs,m,B,rfl,_⟩:=h
    rfl
  obtain ⟨L,l,zs,xs,m,B,rfl,hL,hl,hlen,hxs,hT,hm,hB,k⟩:=h
  obtain ⟨x0,g0,a0,b0⟩:=row_get hlen hxs 0 rfl
  obtain ⟨x1,g1,a1,b1⟩:=row_get hlen hxs 1 rfl
  obtain ⟨x2,g2,a2,b2⟩:=row_get hlen hxs 2 rfl
  obtain ⟨x3,g3,a3,b3⟩:=row_get hlen hxs 3 rfl
  have hn:=hT.n
  refine Jd.go (Jd.cut 9 (fun σ H'=>∃(P B0:Addr) (kk:Nat) (j:Int) (ws:List (List Nat)),σ=[some (.ref L),some (.ref l),some (.int (kk:Int)),some (.ref P),some (.int j),some (.ref B0)]∧Same H H'∧kk<zs.length∧H' P=some (.lst (sv ws))∧(ws.map List.length).sum+ws.length≤2*B+30∧∀z∈ws,okT z) ?_ fun u hu hR=>?_)
  · refine ⟨_,(J.e (Jd.ps_asg (Jd.strM K PySem.F.slot_str_join PySem.F.type_str_join mt_join J.h (J.a 3)) (Jd.pg_sub (J.a 0) (J.a 2) set_list))
      (J.f (J.l (J.a 0)))),?_⟩
    rintro σ H1 ⟨P0,B0,kk,j,ws,rfl,s1,hk,e1,hsum,ho⟩
    have hjl:=jn_len ws
    walk_at "v"
    refine r_asg ?_
    walk_at "v"
    refine ⟨rfl,?_⟩
    walk_at "v"
    rw [c_blank]
    refine ⟨_,P0,ws.map tx,rfl,rfl,by rw [← sv_strs];exact e1,by rw [jn_fold];exact sizeBig (by omega),by rw [glue_jn,tx_len];exact sizeBig (by omega),?_⟩
    rw [glue_jn]
    walk_at "v"
    refine r_setL (s1 _ _ hL) (j:=kk) (by rw [sv_len];exact ix_nat (by omega) (by omega)) ?_
    rw [sv_set]
    walk_at "v"
    exact k L _ _ (rm_put s1) upd_same (hT.set (by omega) (by omega) (by omega) (ok_jn ho))
  refine ⟨_,(J.e (J.n (J.i op_eq (J.r (lenC K) rfl T.len_ PySem.boot_len (J.b (J.a 0) J.d st_N) (he:=st_N) (hpl:=any0)) J.c (nomark _))
      (J.e (J.s (J.w K (J.a 0) (J.k (ixL K) (J.t (J.b J.h (J.b J.h (J.b J.h (J.b J.h (J.b J.h (J.b J.h J.d st_C) st_C) st_C) st_C) st_C) st_C)) (J.g op_mod (J.k (ixL K) (J.a 1) J.c (fun _ _=>rfl)) J.c) (fun _ _=>rfl))) (hs:=sw_K))
      (J.f (J.l (J.a 0))))
      J.p)
      (J.e (J.j (i:=2) sc_law_spoil.nd rfl (Or.inl rfl) (J.g op_mod (J.k (ixL K) (J.a 1) J.c (fun _ _=>rfl)) (J.r (lenC K) rfl T.len_ PySem.boot_len (J.b (J.a 0) J.d st_N) (he:=st_N) (hpl:=any0))) (hs:=sw_B))
      (J.e (J.n (J.i op_eq (J.k (ixL K) (J.a 1) J.c (fun _ _=>rfl)) J.c (nomark _))
      (J.f (J.l (J.g op_cat (J.v (slL K) (J.a 0) J.z (J.q (J.a 2))) (J.v (slL K) (J.a 0) (J.q (J.g op_add (J.a 2) J.c)) J.z))))
      J.p)
      (J.e (J.n (J.i op_eq (J.k (ixL K) (J.a 1) J.c (fun _ _=>rfl)) J.c (nomark _))
      (J.f (J.l (J.g op_cat (J.g op_cat (J.t (J.b (J.k (ixL K) (J.a 0) (J.a 2) (fun _ _=>rfl)) J.d st_S)) (J.v (slL K) (J.a 0) J.z (J.q (J.a 2)))) (J.v (slL K) (J.a 0) (J.q (J.g op_add (J.a 2) J.c)) J.z))))
      J.p)
      (J.e (J.n (J.i op_lt (J.k (ixL K) (J.a 1) J.c (fun _ _=>rfl)) J.c (nomark _))
      (J.e (Jd.ps_asg (J.k (ixL K) (J.t (J.b (J.g op_add_str (J.k (ixL K) (J.a 0) (J.a 2) (fun _ _=>rfl)) J.h) (J.b (J.g op_add_str J.h (J.k (ixL K) (J.a 0) (J.a 2) (fun _ _=>rfl))) (J.b (J.g op_add_str (J.k (ixL K) (J.a 0) (J.a 2) (fun _ _=>rfl)) J.h) (J.b J.h J.d st_C) st_B) st_B) st_B)) (J.g op_sub (J.k (ixL K) (J.a 1) J.c (fun _ _=>rfl)) J.c) (fun _ _=>rfl)) (Jd.pg_sub (J.a 0) (J.a 2) set_list))
      (J.f (J.l (J.a 0))))
      J.p)
      (J.e (J.j (i:=3) sc_law_spoil.nd rfl (Or.inl rfl) (Jd.strM K PySem.F.slot_str_split PySem.F.type_str_split mt_split (J.k (ixL K) (J.a 0) (J.a 2) (fun _ _=>rfl)) J.h) (hs:=sw_K))
      (J.e (J.j (i:=4) sc_law_spoil.nd rfl (Or.inl rfl) (J.g op_mod (J.k (ixL K) (J.a 1) J.c (fun _ _=>rfl)) (J.r (lenC K) rfl T.len_ PySem.boot_len (J.b (J.a 3) J.d st_N) (he:=st_N) (hpl:=any0))) (hs:=sw_B))
      (J.e (J.j (i:=5) sc_law_spoil.nd rfl (Or.inl rfl) (J.t (J.b J.h (J.b J.h (J.b J.h (J.b J.h (J.b J.h (J.b J.h (J.b J.h (J.b J.h (J.b J.h (J.b J.h (J.b J.h (J.b J.h J.d st_C) st_C) st_C) st_C) st_C) st_C) st_C) st_C) st_C) st_C) st_C) st_C)) (hs:=sw_L))
      (J.e (J.n (J.i op_lt (J.k (ixL K) (J.a 1) J.c (fun _ _=>rfl)) J.c (nomark _))
      (J.f (Jd.ps_asg (J.k (ixL K) (J.a 5) (J.k (ixL K) (J.a 1) J.c (fun _ _=>rfl)) (fun _ _=>rfl)) (Jd.pg_sub (J.a 3) (J.a 4) set_list)))
      (J.f (J.n (J.i op_lt (J.k (ixL K) (J.a 1) J.c (fun _ _=>rfl)) J.c (nomark _))
      (J.f (J.s (Jd.insC K (J.a 3) (J.b (J.a 4) (J.b (J.k (ixL K) (J.a 5) (J.k (ixL K) (J.a 1) J.c (fun _ _=>rfl)) (fun _ _=>rfl)) J.d st_S) st_N)) (hs:=sw_K)))
      (J.f (J.s (Jd.popC K (J.a 3) (J.b (J.a 4) J.d st_N)) (hs:=sw_K))))))
      hu))))))))),?_⟩
  walk_at "v"
  refine r_len (.inl (SqL.of hL)) ?_
  rw [sv_len]
  walk_at "v"
  by_cases h0:zs.length=0
  · rw [decide_eq_true (show (zs.length:Int)=0 by omega)]
    refine iteT ?_
    walk_at "v"
    refine ⟨.inl ⟨rfl,_,SqL.of hL⟩,?_⟩
    walk_at "v"
    refine r_new (mk:=.lst) (by simp) fun l5 H5 s5 n5 e5=>?_
    walk_at "v"
    refine r_l (s5 _ _ hl) (at_ints g1 rfl) ?_
    walk_at "v"
    have m0:0≤x1 % 6:=Int.emod_nonneg _ (by decide)
    have m1:x1 % 6<6:=Int.emod_lt_of_pos _ (by decide)
    obtain ⟨z,ez,lz,oz⟩:=pickV (i:=x1 % 6) e5 30 (fun x hx=>by
      simp only [List.mem_cons,List.not_mem_nil,or_false] at hx
      rcases hx with hx | hx | hx | hx | hx | hx <;> exact ⟨_,hx,by decide,by decide⟩) m0 (by simp only [List.length_cons,List.length_nil];omega)
    refine r_l e5 ez ?_
    walk_at "v"
    refine r_app (s5 _ _ hL) (by rw [sv_len];exact small1000 (by omega)) ?_
    walk_at "v"
    have ee:sv zs++[V.str (tx z)]=sv (zs++[z]):=by unfold sv;rw [List.map_append];rfl
    refine k L (zs++[z]) _ (rm_put s5) (by rw [upd_same,ee]) ⟨by rw [List.length_append,List.length_singleton];omega,fun y hy=>?_,fun y hy=>?_⟩
    · rcases List.mem_append.mp hy with q | q
      · exact Nat.le_trans (hT.l y q) (by omega)
      · obtain rfl:y=z:=by simpa using q
        omega
    · rcases List.mem_append.mp hy with q | q
      · exact hT.o y q
      · obtain rfl:y=z:=by simpa using q
        exact oz
  · rw [decide_eq_false (show ¬(zs.length:Int)=0 by omega)]
    refine iteF ?_
    walk_at "v"
    refine r_l hl (at_ints g0 rfl) ?_
    walk_at "v"
    refine r_len (.inl (SqL.of hL)) ?_
    rw [sv_len]
    refine r_I (show (0:Int)<(zs.length:Int) by omega) ?_
    have m0:0≤x0 % (zs.length:Int):=Int.emod_nonneg _ (by omega)
    have m1:x0 % (zs.length:Int)<(zs.length:Int):=Int.emod_lt_of_pos _ (by omega)
    generalize x0 % (zs.length:Int)=at_ at m0 m1 ⊢
    obtain ⟨kk,rfl⟩:∃kk:Nat,at_=(kk:Int):=⟨at_.toNat,by omega⟩
    obtain ⟨z,hz⟩:∃z,zs[kk]?=some z:=⟨_,List.getElem?_eq_getElem (by omega)⟩
    have mz:=List.mem_of_getElem? hz
    have lz:=hT.l z mz
    have oz:=hT.o z mz
    have cA:∀n:Nat,cutV (sv zs) none (some (n:Int))=sv (zs.take n):=fun n=>by rw [cutl,sv_take]
    have cB:cutV (sv zs) (some ((kk:Int)+1)) none=sv (zs.drop (kk+1)):=by rw [show ((kk:Int)+1)=((kk+1:Nat):Int) by omega,cutk,sv_drop]
    walk_at "v"
    refine r_l hl (at_ints g1 rfl) ?_
    walk_at "v"
    refine ite2 (fun c=>?_) (fun c=>?_)
    · walk_at "vd"
      refine r_slL hL fun pA H2 s2 n2 e2=>?_
      rw [cA] at e2
      walk_at "vd"
      refine r_slL (s2 _ _ hL) fun pB H3 s3 n3 e3=>?_
      rw [cB] at e3
      refine r_cat (s3 _ _ e2) e3 ?_
      refine r_new (mk:=.lst) (by rw [List.length_append,sv_len,sv_len,List.length_take,List.length_drop];omega) fun R H4 s4 n4 e4=>?_
      rw [sv_cat] at e4
      exact k R _ H4 (rm_same.trans (s2.trans (s3.trans s4))) e4 (hT.sub (by rw [List.length_append,List.length_take,List.length_drop];omega) (by omega) fun y hy=>(List.mem_append.mp hy).elim List.mem_of_mem_take List.mem_of_mem_drop)
    have c0:¬x1=0:=of_decide_eq_false (Bool.eq_false_iff.mpr c)
    walk_at "v"
    refine r_l hl (at_ints g1 rfl) ?_
    walk_at "v"
    refine ite2 (fun c=>?_) (fun c=>?_)
    · walk_at "vd"
      refine r_l hL (atI_nat (sv_get hz)) ?_
      walk_at "v"
      refine r_new (mk:=.lst) (by simp) fun p1 H1 s1 n1 e1=>?_
      walk_at "vd"
      refine r_slL (s1 _ _ hL) fun pA H2 s2 n2 e2=>?_
      rw [cA] at e2
      refine r_cat (s2 _ _ e1) e2 ?_
      refine r_new (mk:=.lst) (by rw [List.length_append,sv_len,List.length_take];simp only [List.length_cons,List.length_nil];omega) fun R3 H3 s3 n3 e3=>?_
      have s03:=s1.trans (s2.trans s3)
      walk_at "vd"
      refine r_slL (s03 _ _ hL) fun pB H4 s4 n4 e4=>?_
      rw [cB] at e4
      refine r_cat (s4 _ _ e3) e4 ?_
      refine r_new (mk:=.lst) (by rw [List.length_append,List.length_append,sv_len,sv_len,List.length_take,List.length_drop];simp only [List.length_cons,List.length_nil];omega) fun R H5 s5 n5 e5=>?_
      have ee:([V.str (tx z)]++sv (zs.take kk))++sv (zs.drop (kk+1))=sv (([z]++zs.take kk)++zs.drop (kk+1)):=by unfold sv;rw [List.map_append,List.map_append];rfl
      rw [ee] at e5
      refine k R _ H5 (rm_same.trans (s03.trans (s4.trans s5))) e5 (hT.sub (by rw [List.length_append,List.length_append,List.length_take,List.length_drop,List.length_singleton];omega) (by omega) fun y hy=>?_)
      rcases List.mem_append.mp hy with q | q
      · rcases List.mem_append.mp q with q | q
        · obtain rfl:y=z:=by simpa using q
          exact mz
        · exact List.mem_of_mem_take q
      · exact List.mem_of_mem_drop q
    have c1:¬x1=1:=of_decide_eq_false (Bool.eq_false_iff.mpr c)
    walk_at "v"
    refine r_l hl (at_ints g1 rfl) ?_
    walk_at "v"
    refine ite2 (fun c=>?_) (fun c=>?_)
    · have c:x1<6:=of_decide_eq_true c
      walk_at "v"
      dsimp only
      refine r_asg ?_
      walk_at "v"
      refine r_l hL (atI_nat (sv_get hz)) ?_
      walk_at "v"
      refine ⟨_,_,rfl,rfl,by rw [tx_len,show (Str.ofString " ").length=1 by decide];exact sizeBig (by omega),?_⟩
      walk_at "v"
      refine r_l hL (atI_nat (sv_get hz)) ?_
      refine ⟨_,_,rfl,rfl,by rw [tx_len,show (Str.ofString " ").length=1 by decide];exact sizeBig (by omega),?_⟩
      walk_at "v"
      refine r_l hL (atI_nat (sv_get hz)) ?_
      walk_at "v"
      refine ⟨_,_,rfl,rfl,by rw [tx_len,show (Str.ofString "\n").length=1 by decide];exact sizeBig (by omega),?_⟩
      walk_at "v"
      refine r_new (mk:=.lst) (by simp) fun l5 H5 s5 n5 e5=>?_
      walk_at "v"
      refine r_l (s5 _ _ hl) (at_ints g1 rfl) ?_
      walk_at "v"
      have oS:=okS_tx oz
      obtain ⟨y,ez,ly,oy⟩:=pickV (i:=x1-2) e5 (2*B+100) (fun x hx=>by
        simp only [List.mem_cons,List.not_mem_nil,or_false] at hx
        rcases hx with hx | hx | hx | hx
        · exact ⟨_,hx,by rw [sl_app,tx_len,show (Str.ofString " ").length=1 by decide];omega,okS_app.mpr ⟨oS,by decide⟩⟩
        · exact ⟨_,hx,by rw [sl_app,tx_len,show (Str.ofString " ").length=1 by decide];omega,okS_app.mpr ⟨by decide,oS⟩⟩
        · exact ⟨_,hx,by rw [sl_app,tx_len,show (Str.ofString "\n").length=1 by decide];omega,okS_app.mpr ⟨oS,by decide⟩⟩
        · exact ⟨_,hx,Nat.le_trans (show (Str.ofString "").length≤0 by decide) (Nat.zero_le _),by decide⟩) (by omega) (by simp only [List.length_cons,List.length_nil];omega)
      refine r_l e5 ez ?_
      walk_at "v"
      refine r_setL (s5 _ _ hL) (j:=kk) (by rw [sv_len];exact ix_nat (by omega) (by omega)) ?_
      rw [sv_set]
      walk_at "v"
      exact k L _ _ (rm_put s5) upd_same (hT.set (by omega) (by omega) ly oy)
    have c6:¬x1<6:=of_decide_eq_false (Bool.eq_false_iff.mpr c)
    walk_at "v"
    refine r_l hL (atI_nat (sv_get hz)) ?_
    walk_at "v"
    refine ⟨rfl,?_⟩
    walk_at "v"
    rw [c_blank]
    refine ⟨_,_,rfl,rfl,rfl,by rw [tx_len];exact sizeBig (by omega),fun P0 nP=>?_⟩
    rw [sp_sv]
    have s1:=same_new nP (.lst (sv (sp z)))
    have e1:upd H P0 (.lst (sv (sp z))) P0=some (.lst (sv (sp z))):=upd_same
    generalize upd H P0 (.lst (sv (sp z)))=H1 at s1 e1 ⊢
    have hpos:0<(sp z).length:=List.length_pos_iff.mpr (sp_ne z)
    have hsm:((sp z).map List.length).sum+(sp z).length≤2*B+1:=by
      have h1:=jn_sum (sp z)
      rw [sp_jn] at h1
      have h2:=sp_count z
      have h3:=List.count_le_length (a:=32) (l:=z)
      omega
    have osp:=ok_sp oz
    walk_at "v"
    refine r_l (s1 _ _ hl) (at_ints g2 rfl) ?_
    walk_at "v"
    refine r_len (.inl (SqL.of e1)) ?_
    rw [sv_len]
    refine r_I (show (0:Int)<((sp z).length:Int) by omega) ?_
    have m0':0≤x2 % ((sp z).length:Int):=Int.emod_nonneg _ (by omega)
    have m1':x2 % ((sp z).length:Int)<((sp z).length:Int):=Int.emod_lt_of_pos _ (by omega)
    generalize x2 % ((sp z).length:Int)=pl_ at m0' m1' ⊢
    obtain ⟨j,rfl⟩:∃j:Nat,pl_=(j:Int):=⟨pl_.toNat,by omega⟩
    obtain ⟨y,hy⟩:∃y,(sp z)[j]?=some y:=⟨_,List.getElem?_eq_getElem (by omega)⟩
    walk_at "v"
    refine r_new (mk:=.lst) (by simp) fun B0 H2 s2 n2 e2=>?_
    obtain ⟨b,eb,lb,ob⟩:=pickV (i:=x3) e2 25 (fun x hx=>by
      simp only [List.mem_cons,List.not_mem_nil,or_false] at hx
      rcases hx with hx | hx | hx | hx | hx | hx | hx | hx | hx | hx | hx | hx <;> exact ⟨_,hx,by decide,by decide⟩) a3 (by simp only [List.length_cons,List.length_nil];omega)
    have s02:=s1.trans s2
    have e12:=s2 _ _ e1
    have hl2:=s02 _ _ hl
    walk_at "v"
    refine r_l hl2 (at_ints g1 rfl) ?_
    walk_at "v"
    refine ite2 (fun c=>?_) (fun c=>?_)
    · walk_at "v"
      dsimp only
      refine r_asg ?_
      walk_at "v"
      refine r_l hl2 (at_ints g3 rfl) ?_
      walk_at "v"
      refine r_l e2 eb ?_
      walk_at "v"
      refine r_setL e12 (j:=j) (by rw [sv_len];exact ix_nat (by omega) (by omega)) ?_
      rw [sv_set]
      refine hR _ _ ⟨P0,B0,kk,_,_,rfl,same_at s02 nP,by omega,upd_same,?_,fun w hw=>?_⟩
      · have:=sum_set (z:=b) (ws:=sp z) (j:=j)
        rw [List.length_set]
        omega
      · rcases List.mem_or_eq_of_mem_set hw with q | q
        · exact osp w q
        · rw [q];exact ob
    walk_at "v"
    refine r_l hl2 (at_ints g1 rfl) ?_
    walk_at "v"
    refine ite2 (fun c=>?_) (fun c=>?_)
    · walk_at "v"
      refine ⟨.inl ⟨rfl,_,SqL.of e12⟩,?_⟩
      walk_at "v"
      refine r_l hl2 (at_ints g3 rfl) ?_
      walk_at "v"
      refine r_l e2 eb ?_
      walk_at "v"
      refine r_ins e12 (by rw [sv_len];omega) (by have:=hT.l z mz;have h2:=sp_count z;have h3:=List.count_le_length (a:=32) (l:=z);omega) (by rw [sv_len];exact small_20 (by have:=hT.l z mz;have h2:=sp_count z;have h3:=List.count_le_length (a:=32) (l:=z);omega)) ?_
      rw [sv_ins]
      refine hR _ _ ⟨P0,B0,kk,_,_,rfl,same_at s02 nP,by omega,upd_same,?_,fun w hw=>?_⟩
      · have h1:=sum_ins (z:=b) (sp z) j
        rw [h1,List.length_append,List.length_cons,List.length_take,List.length_drop]
        omega
      · rcases List.mem_append.mp hw with q | q
        · exact osp w (List.mem_of_mem_take q)
        · rcases List.mem_cons.mp q with q | q
          · rw [q];exact ob
          · exact osp w (List.mem_of_mem_drop q)
    · walk_at "v"
      refine ⟨.inl ⟨rfl,_,SqL.of e12⟩,?_⟩
      walk_at "v"
      refine r_popAt e12 (sv_get hy) (by have:=hT.l z mz;have h2:=sp_count z;have h3:=List.count_le_length (a:=32) (l:=z);omega) ?_
      rw [sv_erase]
      refine hR _ _ ⟨P0,B0,kk,_,_,rfl,same_at s02 nP,by omega,upd_same,?_,fun w hw=>osp w (List.mem_of_mem_eraseIdx hw)⟩
      have h1:=sum_erase (ws:=sp z) (j:=j)
      have h2:((sp z).eraseIdx j).length≤(sp z).length:=(List.eraseIdx_sublist _ _).length_le
      omega
theorem sc_law_refused:FnScope ["_law_way","_law_lines_here","_law_due_here","_law_handed","e"] ["_law_way","_law_lines_here","_law_due_here"] (defScope s_law_refused):=⟨rfl,rfl,rfl,by decide +kernel,rfl,by decide +kernel,by decide +kernel⟩
theorem ok_law_refused (F:Fun K "_law_refused" "_law_refused" s_law_refused f fd) (T:Txt mg) (Z_ValueError:mg "ValueError"=none) (X_LathError:Xc K mg "LathError" c_LathError) (X_NoWord:Xc K mg "NoWord" c_NoWord) (XN_NotARow:mg "NotARow"=some (.ref c_NotARow)) (XI_NoLine:Xi K mg "NoLine" c_NoLine fI) (xq:Xq K c_NoLine)
    (hexm:PySem.W.exmOne K (.ref c_NoLine) (.ref c_LathError)=some true)
    (hkt:[PySem.W.kitOne K (.ref c_NoLine) (.ref c_NoWord),PySem.W.kitOne K (.ref c_NoLine) (.ref c_NotARow),PySem.W.kitOne K (.ref c_NoLine) (.ref c_NoLine),PySem.W.kitOne K (.ref c_NoLine) (.type "ValueError")]=[some false,some false,some true,some true])
    (DX_read_paper:DnX P w K mg base 6 "read_paper" ["way","lines"] (spPapX c_NoLine)):FnOk P w K mg base CX0 7 f fd ["_law_way","_law_lines_here","_law_due_here"] spRefused:=by
  refine F.ok sc_law_refused (fun vs H Q E h=>?_) (fun cdv A outer s H vs Q E hr h=>?_)
  · obtain ⟨wy,L,zs,k,rfl,_⟩:=h
    rfl
  obtain ⟨wy,L,zs,k,rfl,⟨hL,hl,hz⟩,ho,hk,q⟩:=h
  obtain ⟨k1,k2,k3,k4⟩:PySem.W.kitOne K (.ref c_NoLine) (.ref c_NoWord)=some false∧PySem.W.kitOne K (.ref c_NoLine) (.ref c_NotARow)=some false∧PySem.W.kitOne K (.ref c_NoLine) (.ref c_NoLine)=some true∧PySem.W.kitOne K (.ref c_NoLine) (.type "ValueError")=some true:=by
    injection hkt with a hkt
    injection hkt with b hkt
    injection hkt with c hkt
    injection hkt with d hkt
    exact ⟨a,b,c,d⟩
  have hu64:=hr.units
  refine Jd.go ⟨_,(J.e (J.j (i:=3) sc_law_refused.nd rfl (Or.inl rfl) (J.aa call_list_of rfl T.list_ PyProof.Rows.boot_list (J.b (J.a 1) J.d st_N)) (hs:=sw_K))
      (J.e (Jd.ps_try1 (j:=4) DX_read_paper (hr.mono (by decide)) rfl (fun pn' xe'=>(J.b (J.a 0) (J.b (J.a 3) J.d st_N) st_N)) sc_law_refused.nd rfl rfl rfl rfl rfl X_LathError.at_
      (fun e' ob' c' dx' pn' hpin' hcls' hdict' hncl'=>(J.e (J.n (J.x (Jd.pw_or (J.ac (J.r (isqK K hpin' hcls' hdict' hncl') rfl T.isinstance_ PyProof.Rows.boot_isinstance (J.b (J.a 4) (J.b (Jd.pe_xn rfl X_NoWord) J.d st_N) st_N) (he:=st_N) (hpl:=(anyc st_N any0)))) (Jd.pw_or (J.ac (J.r (isqK K hpin' hcls' hdict' hncl') rfl T.isinstance_ PyProof.Rows.boot_isinstance (J.b (J.a 4) (J.b (Jd.pe_xi rfl XN_NotARow) J.d st_N) st_N) (he:=st_N) (hpl:=(anyc st_N any0)))) (Jd.pw_or1 (Jd.pt_not (J.ac (J.r (isqK K hpin' hcls' hdict' hncl') rfl T.isinstance_ PyProof.Rows.boot_isinstance (J.b (J.a 4) (J.b (Jd.pe_xi rfl XI_NoLine.at_) J.d st_N) st_N) (he:=st_N) (hpl:=(anyc st_N any0)))))))))
      (J.f (J.l Jd.pe_bl))
      J.p)
      (J.f (J.l (Jd.pe_and (J.r (isqK K hpin' hcls' hdict' hncl') rfl T.isinstance_ PyProof.Rows.boot_isinstance (J.b (J.a 4) (J.b (Jd.pe_ty rfl Z_ValueError boot_ValueError) J.d st_N) st_N) (he:=st_N) (hpl:=(anyc st_N any0))) (Jd.pe_and (Jd.pe_not (J.r (isiC K) rfl T.isinstance_ PyProof.Rows.boot_isinstance (J.b (Jd.pe_atx K (J.a 4) rfl hpin' hcls' hdict' hncl' rfl) (J.b (Jd.pe_ty rfl T.bool_ PyProof.Rows.boot_bool) J.d st_N)) (he:=(by rfl)) (hpl:=(anyc st_N any0)))) (Jd.pe_and (Jd.pe_cmpR op_eq (Jd.pe_atx K (J.a 4) rfl hpin' hcls' hdict' hncl' rfl) (J.a 2) (nomark _)) (Jd.pe_one (Jd.pe_cmpR (op_eqD hu64) (J.a 3) (J.a 1) (nomark _)))))))))) (he:=st_N) (hpl:=(anyc st_N any0)) (hsw:=sw_K))
      (J.f (J.l Jd.pe_bl)))),?_⟩
  walk_at "v"
  refine ⟨L,_,rfl,.inl (SqL.of hL),fun hd nhd=>?_⟩
  have s1:Same H (upd H hd (.lst (sv zs))):=same_at (Same.refl _) nhd
  have d1:upd H hd (.lst (sv zs)) hd=some (.lst (sv zs)):=upd_same
  generalize upd H hd (.lst (sv zs))=H1 at s1 d1 ⊢
  walk_at "v"
  refine ⟨wy,hd,rfl,hd,zs,rfl,⟨d1,hl,hz⟩,fun j hj d H2 s2 nd=>⟨hexm,fun e=>?_⟩,fun ds hds=>(hk.not hds).elim⟩
  obtain rfl:=hk.uniq hj
  have s2':Same H2 (upd H2 d (.xd [("at",.int (k:Int))])):=same_new nd _
  have ed:upd H2 d (.xd [("at",V.int (k:Int))]) d=some (.xd [("at",.int (k:Int))]):=upd_same
  generalize upd H2 d (.xd [("at",V.int (k:Int))])=H3 at s2' ed ⊢
  have s13:=s2.trans s2'
  walk_at "v"
  refine ⟨c_NoLine,_,_,false,rfl,.own _,rfl,fun d' h=>⟨_,by cases h;exact ed⟩,xq,k1,?_⟩
  walk_at "v"
  refine iteF ?_
  walk_at "v"
  refine ⟨c_NoLine,_,_,false,rfl,.own _,rfl,fun d' h=>⟨_,by cases h;exact ed⟩,xq,k2,?_⟩
  walk_at "v"
  refine iteF ?_
  walk_at "v"
  refine ⟨c_NoLine,_,_,true,rfl,.own _,rfl,fun d' h=>⟨_,by cases h;exact ed⟩,xq,k3,?_⟩
  walk_at "v"
  refine iteF ?_
  walk_at "v"
  refine ⟨c_NoLine,_,_,true,rfl,.ty _,rfl,fun d' h=>⟨_,by cases h;exact ed⟩,xq,k4,?_⟩
  walk_at "v"
  refine iteT ?_
  walk_at "v"
  refine ⟨c_NoLine,d,_,.int (k:Int),rfl,rfl,rfl,ed,rfl,xq.g,xq.hd,XI_NoLine.att_,?_⟩
  walk_at "v"
  refine r_isi (.int _) kit_ib ?_
  walk_at "v"
  refine iteT ?_
  walk_at "v"
  refine ⟨c_NoLine,d,_,.int (k:Int),rfl,rfl,rfl,ed,rfl,xq.g,xq.hd,XI_NoLine.att_,?_⟩
  walk_at "v"
  rw [decide_eq_true rfl]
  refine iteT ?_
  walk_at "v"
  exact texts_eq ho (s13 _ _ d1) ((s1.trans s13) _ _ hL) (q _)
theorem sc_law:FnScope ["_law_script","_law_way","_law_free","_law_word_here","_law_paper_here","_law_lines_here","_law_k","_law_due_here","_law_at","_law_handed","_law_found"] ["_law_script"] (defScope s_law):=⟨rfl,rfl,rfl,by decide +kernel,rfl,by decide +kernel,by decide +kernel⟩
theorem ok_law (F:Fun K "law" "law" s_law f fd) (T:Txt mg) (D_law_row:Dn P w K mg base 3 "_law_row" ["_law_script","_law_place","_law_sizes"] (spRowF K)) (D_law_paper:Dn P w K mg base 4 "_law_paper" ["_law_script","_law_free"] (spPaper K)) (D_law_lines:Dn P w K mg base 1 "_law_lines" ["_law_paper_here","_law_free"] spLinesL) (D_law_spoil:Dn P w K mg base 1 "_law_spoil" ["_law_lines_here","_law_some"] spSpoil)
    (D_law_due:Dn P w K mg base 3 "_law_due" ["_law_lines_here","_law_free"] spDueL) (D_law_refused:Dn P w K mg base 7 "_law_refused" ["_law_way","_law_lines_here","_law_due_here"] spRefused) (D_show_paper:Dn P w K mg base 4 "show_paper" ["way","paper"] spShowP) (D_read_paper:Dn P w K mg base 6 "read_paper" ["way","lines"] spPapG):FnOk P w K mg base CX0 8 f fd ["_law_script"] (spLaw K):=by
  refine F.ok sc_law (fun vs H Q E h=>?_) (fun cdv A outer s H vs Q E hr h=>?_)
  · obtain ⟨a,ns,rfl,_⟩:=h
    rfl
  obtain ⟨a,ns,rfl,hS,hn,k⟩:=h
  have hu64:=hr.units
  refine Jd.go ⟨_,(J.e (J.j (i:=1) sc_law.nd rfl (Or.inl rfl) (J.m D_law_row (hr.mono (by decide)) rfl (J.b (J.a 0) (J.b J.c (J.b (J.t (J.b J.c (J.b J.c J.d st_C) st_C)) J.d st_L) st_C) st_N) (he:=st_N) (hpl:=(anyc st_C (anyc st_L any0)))) (hs:=sw_K))
      (J.e (J.j (i:=2) sc_law.nd rfl (Or.inl rfl) (Jd.pe_cmpR op_lt (J.k (ixL K) (J.a 1) J.c (fun _ _=>rfl)) J.c (nomark _)) (hs:=sw_Q))
      (J.e (J.j (i:=3) sc_law.nd rfl (Or.inl rfl) (J.k (ixL K) (J.t (J.b J.h (J.b J.h (J.b J.h (J.b J.h J.d st_C) st_C) st_C) st_C)) (J.k (ixL K) (J.a 1) J.c (fun _ _=>rfl)) (fun _ _=>rfl)) (hs:=sw_S))
      (J.e (J.j (i:=4) sc_law.nd rfl (Or.inl rfl) (J.m D_law_paper (hr.mono (by decide)) rfl (J.b (J.a 0) (J.b (J.a 2) J.d st_N) st_N) (he:=st_N) (hpl:=(anyc st_N any0))) (hs:=sw_K))
      (J.e (J.j (i:=5) sc_law.nd rfl (Or.inl rfl) (J.m D_law_lines (hr.mono (by decide)) rfl (J.b (J.a 4) (J.b (J.a 2) J.d st_N) st_N) (he:=st_N) (hpl:=(anyc st_N any0))) (hs:=sw_K))
      (J.e (J.n (J.i (op_neD hu64) (J.m D_show_paper (hr.mono (by decide)) rfl (J.b (J.a 3) (J.b (J.m D_law_paper (hr.mono (by decide)) rfl (J.b (J.a 0) (J.b (J.a 2) J.d st_N) st_N) (he:=st_N) (hpl:=(anyc st_N any0))) J.d st_K) st_N) (he:=st_N) (hpl:=(anyc st_K any0))) (J.a 5) (nomark _))
      (J.f (J.l Jd.pe_bl))
      J.p)
      (J.e (J.ab PassesOwn.never rfl (J.ag rfl T.range (J.b (J.k (ixL K) (J.a 1) J.c (fun _ _=>rfl)) J.d st_S)) (J.o (i:=6) sc_law.nd rfl (Or.inl rfl))
      (J.f (J.j (i:=5) sc_law.nd rfl (Or.inl rfl) (J.m D_law_spoil (hr.mono (by decide)) rfl (J.b (J.aa call_list_of rfl T.list_ PyProof.Rows.boot_list (J.b (J.a 5) J.d st_N)) (J.b (J.m D_law_row (hr.mono (by decide)) rfl (J.b (J.a 0) (J.b (J.g op_add J.c (J.a 6)) (J.b (J.t (J.b J.c (J.b J.c (J.b J.c (J.b J.c J.d st_C) st_C) st_C) st_C)) J.d st_L) st_B) st_N) (he:=st_N) (hpl:=(anyc st_B (anyc st_L any0)))) J.d st_K) st_K) (he:=st_K) (hpl:=(anyc st_K any0))) (hs:=sw_K))))
      (J.e (Jd.ps_asg (J.m D_law_due (hr.mono (by decide)) rfl (J.b (J.a 5) (J.b (J.a 2) J.d st_N) st_N) (he:=st_N) (hpl:=(anyc st_N any0))) (Jd.pgT K (n:=2) rfl (J.ae (J.o (i:=7) sc_law.nd rfl (Or.inl rfl)) (J.ae (J.o (i:=8) sc_law.nd rfl (Or.inl rfl)) Jd.pgs_nil))))
      (J.e (J.n (J.i op_isN (J.a 7) J.u (nomark _))
      (J.f (J.l (J.m D_law_refused (hr.mono (by decide)) rfl (J.b (J.a 3) (J.b (J.a 5) (J.b (J.a 8) J.d st_N) st_N) st_N) (he:=st_N) (hpl:=(anyc st_N (anyc st_N any0))))))
      J.p)
      (J.e (J.j (i:=9) sc_law.nd rfl (Or.inl rfl) (J.aa call_list_of rfl T.list_ PyProof.Rows.boot_list (J.b (J.a 5) J.d st_N)) (hs:=sw_K))
      (J.e (J.j (i:=10) sc_law.nd rfl (Or.inl rfl) (J.m D_read_paper (hr.mono (by decide)) rfl (J.b (J.a 3) (J.b (J.a 9) J.d st_N) st_N) (he:=st_N) (hpl:=(anyc st_N any0))) (hs:=sw_K))
      (J.e (J.n (J.x (Jd.pw_or (Jd.pt_not (J.ac (J.r (isiC K) rfl T.isinstance_ PyProof.Rows.boot_isinstance (J.b (J.a 10) (J.b (Jd.pe_ty rfl T.list_ PyProof.Rows.boot_list) J.d st_N) st_N) (he:=st_N) (hpl:=(anyc st_N any0))))) (Jd.pw_or (J.i (op_neD hu64) (J.a 10) (J.a 7) (nomark _)) (Jd.pw_or1 (J.i (op_neD hu64) (J.a 9) (J.a 5) (nomark _))))))
      (J.f (J.l Jd.pe_bl))
      J.p)
      (J.e (J.s (J.w K (J.a 10) (Jd.pe_tup (J.b J.c (J.b J.c (J.b J.c J.d st_C) st_C) st_C))) (hs:=sw_K))
      (J.f (J.l (Jd.pe_cmpR (op_eqD hu64) (J.m D_read_paper (hr.mono (by decide)) rfl (J.b (J.a 3) (J.b (J.a 9) J.d st_N) st_N) (he:=st_N) (hpl:=(anyc st_N any0))) (J.a 7) (nomark _))))))))))))))))),?_⟩
  walk_at "v"
  refine r_new (mk:=.lst) (by simp) fun l1 H1 s1 n1 e1=>?_
  walk_at "v"
  refine ⟨a,ns,2,l1,[4,3],rfl,s1.seq hS,by decide,by decide,e1,by decide,by decide,fun wl xs H2 s2 n2 e2 hlen hxs hrow=>?_⟩
  obtain ⟨y0,q0,a0,b0⟩:=row_get hlen hxs 0 rfl
  obtain ⟨y1,q1,a1,b1⟩:=row_get hlen hxs 1 rfl
  obtain ⟨i0,rfl⟩:∃i0:Nat,y0=(i0:Int):=⟨y0.toNat,by omega⟩
  have s02:=s1.trans s2
  have hfr:=wy_fr i0 (by omega)
  walk_at "v"
  refine r_l e2 (at_ints q0 rfl) ?_
  walk_at "v"
  refine r_new (mk:=.lst) (by simp) fun l3 H3 s3 n3 e3=>?_
  walk_at "v"
  refine r_l (s3 _ _ e2) (at_ints q0 rfl) ?_
  have hat:atI [V.str (Str.ofString "apart"),V.str (Str.ofString "joined"),V.str (Str.ofString "spans"),V.str (Str.ofString "chain")] (i0:Int)=some (.str (tx (wyT i0))):=by
    have:i0=0∨i0=1∨i0=2∨i0=3:=by omega
    rcases this with rfl | rfl | rfl | rfl
    · exact atI_nat (j:=0) (by rw [c_apart];rfl)
    · exact atI_nat (j:=1) (by rw [c_joined];rfl)
    · exact atI_nat (j:=2) (by rw [show Str.ofString "spans"=tx (wyT 2) by decide];rfl)
    · exact atI_nat (j:=3) (by rw [show Str.ofString "chain"=tx (wyT 3) by decide];rfl)
  refine r_l e3 hat ?_
  have hfr':decide ((i0:Int)<2)=frS (wyT i0):=by rw [hfr];exact decide_eq_decide.mpr (by omega)
  rw [hfr']
  generalize wyT i0=wy
  have s03:=s02.trans s3
  walk_at "v"
  refine ⟨a,ns,frS wy,rfl,s03.seq hS,fun R H4 s4 nR hP4=>?_⟩
  generalize hLZ:linF (frS wy) (rowF ns 0 szH) (rowF ns 1 szS)=LZ at hP4
  have s04:=s03.trans s4
  walk_at "v"
  refine ⟨R,frS wy,LZ,rfl,hP4,fun Z H5 s5 n5 e5=>?_⟩
  have s05:=s04.trans s5
  walk_at "v"
  refine ⟨a,ns,frS wy,rfl,s05.seq hS,fun R6 H6 s6 n6 hP6=>?_⟩
  rw [hLZ] at hP6
  walk_at "v"
  refine ⟨wy,R6,LZ,rfl,hP6,fun Z7 H7 s7 n7 e7=>?_⟩
  have s57:=s6.trans s7
  have hT0:=hP4.txs
  walk_at "v"
  refine texts_ne hT0.o e7 (s57 _ _ e5) ?_
  walk_at "v"
  refine iteF ?_
  walk_at "v"
  refine r_for (r_rng1 ?_)
  walk_at "v"
  have s27:=s3.trans (s4.trans (s5.trans s57))
  have s07:=s02.trans s27
  refine r_l (s27 _ _ e2) (at_ints q1 rfl) ?_
  refine ⟨_,rfl,by omega,by omega,for_range (fun i σ H8=>∃(Z:Addr) (zs:List (List Nat)) (v6:Option V),σ=[some (.ref a),some (.ref wl),some (.bl (frS wy)),some (.str (tx wy)),some (.ref R),some (.ref Z),v6,none,none,none,none]∧Same H H8∧H8 Z=some (.lst (sv zs))∧Txs zs (200+i) (1300*4 ^ i)) ⟨Z,LZ,none,rfl,s07,s57 _ _ e5,hT0⟩ ?_ ?_⟩
  · rintro i σ H8 hi ⟨Z,zs,v6,rfl,s8,e8,hT⟩
    have hi':i<y1.toNat:=by simpa using hi
    have hi:i<2:=by omega
    have hB:1300*4 ^ i≤20000∧1300*4 ^ (i+1)=4*(1300*4 ^ i)∧1300≤1300*4 ^ i:=by
      have:i=0∨i=1:=by omega
      rcases this with rfl | rfl <;> decide
    generalize 1300*4 ^ i=B at hT hB
    have hn8:=hT.n
    walk_at "v"
    refine ⟨Z,_,rfl,.inl (SqL.of e8),fun hd nhd=>?_⟩
    have s9:Same H8 (upd H8 hd (.lst (sv zs))):=same_at (Same.refl _) nhd
    have d9:upd H8 hd (.lst (sv zs)) hd=some (.lst (sv zs)):=upd_same
    generalize upd H8 hd (.lst (sv zs))=H9 at s9 d9 ⊢
    walk_at "v"
    refine r_new (mk:=.lst) (by simp) fun l10 H10 s10 n10 e10=>?_
    walk_at "v"
    refine ⟨a,ns,_,l10,[64,14,8,12],rfl,(s8.trans (s9.trans s10)).seq hS,by omega,by omega,e10,by decide,by decide,fun lr ys H11 s11 n11 e11 hlen hys _=>?_⟩
    walk_at "v"
    refine ⟨hd,lr,zs,ys,200+i,B,rfl,s11 _ _ (s10 _ _ d9),e11,hlen,hys,hT,by omega,hB.1,fun Z' zs' H12 s12 e12 hT'=>?_⟩
    refine ⟨Z',zs',_,rfl,same_over (s8.trans (s9.trans (s10.trans s11))) (s8.free nhd) s12,e12,⟨hT'.n,fun z hz=>?_,hT'.o⟩⟩
    have:=hT'.l z hz
    rw [hB.2.1]
    omega
  · rintro σ H8 ⟨Z,zs,v6,rfl,s8,e8,hT⟩
    have hy1:y1.toNat≤2:=by omega
    have hB:1300*4 ^ y1.toNat≤100000:=by
      have:y1.toNat=0∨y1.toNat=1∨y1.toNat=2:=by omega
      rcases this with e | e | e <;> rw [e] <;> decide
    generalize 1300*4 ^ y1.toNat=B at hT hB
    have ho:=hT.o
    have hLn:∀{H':Hp} {L:Addr},H' L=some (.lst (sv zs))→Lns H' L zs:=fun e=>⟨e,by have:=hT.n;omega,fun z hz=>Nat.le_trans (hT.l z hz) hB⟩
    walk_at "v"
    refine r_asg ?_
    walk_at "v"
    refine ⟨Z,zs,frS wy,rfl,hLn e8,fun kk hbad t H9 s9 e9=>?_,fun ds hds t D xs H9 s9 e9 nD eD hD=>?_⟩
    · refine r_unpack2 e9 ?_
      walk_at "v"
      refine ⟨rfl,?_⟩
      walk_at "v"
      refine iteT ?_
      walk_at "v"
      exact ⟨wy,Z,zs,kk,rfl,hLn (s9 _ _ e8),ho,hbad,fun H'=>k H'⟩
    · refine r_unpack2 e9 ?_
      walk_at "v"
      refine ⟨rfl,?_⟩
      walk_at "v"
      refine iteF ?_
      walk_at "v"
      refine ⟨Z,_,rfl,.inl (SqL.of (s9 _ _ e8)),fun hd nhd=>?_⟩
      have s10:Same H9 (upd H9 hd (.lst (sv zs))):=same_at (Same.refl _) nhd
      have d10:upd H9 hd (.lst (sv zs)) hd=some (.lst (sv zs)):=upd_same
      generalize upd H9 hd (.lst (sv zs))=H10 at s10 d10 ⊢
      walk_at "v"
      refine ⟨wy,hd,rfl,hd,zs,ds,rfl,hLn d10,hds,fun ds' hds' G ys H11 s11 n11 e11 hG hyl=>?_⟩
      obtain rfl:=hds.uniq hds'
      have eD11:=(s10.trans s11) _ _ eD
      have hD11:=hD.up (s10.trans s11)
      walk_at "v"
      refine r_isi (.lst e11) (by rfl) ?_
      walk_at "v"
      refine iteF ?_
      walk_at "v"
      refine ⟨_,_,.lst e11 hG,.lst eD11 hD11,hds.shaped,hds.shaped,?_⟩
      rw [hds.eqv]
      walk_at "v"
      refine iteF ?_
      walk_at "v"
      refine texts_ne ho (s11 _ _ d10) ((s9.trans (s10.trans s11)) _ _ e8) ?_
      walk_at "v"
      refine iteF ?_
      walk_at "v"
      refine ⟨.inl ⟨rfl,_,SqL.of e11⟩,?_⟩
      walk_at "v"
      refine r_new (mk:=.tup) (by simp) fun t3 H12 s12 n12 e12=>?_
      walk_at "v"
      refine r_app (s12 _ _ e11) (small1000 (by omega)) ?_
      have s13:Same H10 (upd H12 G (.lst (ys++[.ref t3]))):=same_at (s11.trans s12) n11
      generalize upd H12 G (.lst (ys++[.ref t3]))=H13 at s13 ⊢
      walk_at "v"
      refine ⟨wy,hd,rfl,hd,zs,ds,rfl,hLn (s13 _ _ d10),hds,fun ds' hds' G2 ys2 H14 s14 n14 e14 hG2 hyl2=>?_⟩
      obtain rfl:=hds.uniq hds'
      have s15:=s10.trans (s13.trans s14)
      walk_at "v"
      refine ⟨_,_,.lst e14 hG2,.lst (s15 _ _ eD) (hD.up s15),hds.shaped,hds.shaped,?_⟩
      rw [hds.eqv]
      exact k _
end


theorem all_mk {l:PySem.W.OpenLaw} {w:World} {K:PySem.W.Frag} {h:Heap} {mg:Str→Option Value} {fa:Addr} (X:K.In h) (G:h.Ns mainGlobals mg) (hfa:mg "law"=some (.ref fa)) {tk_FIGURES:Tok} {c_NoWord:Addr} {c_LathError:Addr} {c_NoLine:Addr} {c_NotARow:Addr}
    (a_NoLine:PySem.W.nsIn K mainGlobals "NoLine"=some (some (.ref c_NoLine))) (st_NoLine:PySem.W.findIn K (.ref c_NoLine) "__setattr__"=some (some (.builtin "object.__setattr__"))) (at_NoLine:PySem.W.findIn K (.ref c_NoLine) "at"=some none) (xs_NoLine:PySem.W.exmOne K (.ref c_NoLine) (.ref c_NoLine)=some true) (q1_NoLine:PySem.W.findIn K (.ref c_NoLine) "__getattribute__"=some (some (.builtin "BaseException.__getattribute__"))) (q7_NoLine:PySem.W.findIn K (.ref c_NoLine) "__getattr__"=some none) (q8_NoLine:PySem.W.mroIn K c_NoLine (.type "BaseException")=some true) (q2_NoLine:PySem.W.hasDictIn K c_NoLine=true) (q3_NoLine:PySem.W.findIn K (.ref c_NoLine) "__class__"=some (some (.builtin "object.__class__"))) (q4_NoLine:PySem.W.specialIn K (.builtin "object.__class__") "__get__"=some (some (.builtin "getset_descriptor.__get__"))) (q5_NoLine:PySem.W.takesIn K (.builtin "object.__class__")=some true) (q6_NoLine:PySem.W.mroIn K c_NoLine (.type "object")=some true)
    (h_law_cell:Fx K "_law_cell" s_law_cell)
    (h_law_mix:Fx K "_law_mix" s_law_mix)
    (h_law_row:Fx K "_law_row" s_law_row)
    (h_figures_of:Fx K "figures_of" s_figures_of)
    (h_whole_word:Fx K "whole_word" s_whole_word)
    (h_is_whole:Fx K "is_whole" s_is_whole)
    (h_read_whole:Fxd K "read_whole" s_read_whole 18)
    (h_law_whole_due:Fx K "_law_whole_due" s_law_whole_due)
    (h_NoLine_init:Fi K c_NoLine "NoLine.__init__" s_NoLine_init)
    (h_show_wholes:Fx K "show_wholes" s_show_wholes)
    (h_show_paper:Fx K "show_paper" s_show_paper)
    (h_wholes_of:Fx K "wholes_of" s_wholes_of)
    (h_three_of:Fx K "three_of" s_three_of)
    (h_read_threes:Fx K "read_threes" s_read_threes)
    (h_read_parts:Fx K "read_parts" s_read_parts)
    (h_read_paper:Fx K "read_paper" s_read_paper)
    (h_law_number:Fx K "_law_number" s_law_number)
    (h_law_three:Fx K "_law_three" s_law_three)
    (h_law_paper:Fx K "_law_paper" s_law_paper)
    (h_law_lines:Fx K "_law_lines" s_law_lines)
    (h_law_numbers_due:Fx K "_law_numbers_due" s_law_numbers_due)
    (h_law_due:Fx K "_law_due" s_law_due)
    (h_law_spoil:Fx K "_law_spoil" s_law_spoil)
    (h_law_refused:Fx K "_law_refused" s_law_refused)
    (h_law:Fx K "law" s_law)
    (a_NoWord:PySem.W.nsIn K mainGlobals "NoWord"=some (some (.ref c_NoWord))) (xe_NoWord:PySem.W.excIn K c_NoWord [.type "ValueError",.type "Exception",.type "BaseException",.type "object"] "ValueError.__new__"=true) (xs_NoWord:PySem.W.exmOne K (.ref c_NoWord) (.ref c_NoWord)=some true)
    (a_LathError:PySem.W.nsIn K mainGlobals "LathError"=some (some (.ref c_LathError))) (xe_LathError:PySem.W.excIn K c_LathError [.type "ValueError",.type "Exception",.type "BaseException",.type "object"] "ValueError.__new__"=true) (xs_LathError:PySem.W.exmOne K (.ref c_LathError) (.ref c_LathError)=some true)
    (a_NotARow:PySem.W.nsIn K mainGlobals "NotARow"=some (some (.ref c_NotARow)))
    (gs_FIGURES:PySem.W.nsIn K mainGlobals "FIGURES"=some (some (.str "0123456789" tk_FIGURES)))
    (z_ValueError:PySem.W.nsIn K mainGlobals "ValueError"=some none)
    (b1_LathError:PySem.W.specialIn K (.ref c_LathError) "__getattribute__"=some (some (.builtin "type.__getattribute__"))) (b2_LathError:PySem.W.readsIn K c_LathError (.type "type")=true) (b3_LathError:PySem.W.findCls K (.ref c_LathError) (.type "type") "__init__"=some (.val (.builtin "ValueError.__init__")))
    (z_len:PySem.W.nsIn K mainGlobals "len"=some none)
    (z_abs:PySem.W.nsIn K mainGlobals "abs"=some none)
    (z_range:PySem.W.nsIn K mainGlobals "range"=some none)
    (z_isinstance:PySem.W.nsIn K mainGlobals "isinstance"=some none)
    (z_int:PySem.W.nsIn K mainGlobals "int"=some none)
    (z_bool:PySem.W.nsIn K mainGlobals "bool"=some none)
    (z_tuple:PySem.W.nsIn K mainGlobals "tuple"=some none)
    (z_list:PySem.W.nsIn K mainGlobals "list"=some none)
    (z_max:PySem.W.nsIn K mainGlobals "max"=some none)
    (z_min:PySem.W.nsIn K mainGlobals "min"=some none)
    (z_enumerate:PySem.W.nsIn K mainGlobals "enumerate"=some none)
    (z_zip:PySem.W.nsIn K mainGlobals "zip"=some none)
    (z_all:PySem.W.nsIn K mainGlobals "all"=some none)
    (z_any:PySem.W.nsIn K mainGlobals "any"=some none)
    (z_sum:PySem.W.nsIn K mainGlobals "sum"=some none)
    (z_sorted:PySem.W.nsIn K mainGlobals "sorted"=some none)
    (z_reversed:PySem.W.nsIn K mainGlobals "reversed"=some none)
    (z_str:PySem.W.nsIn K mainGlobals "str"=some none)
    (hok:PySem.W.nsOkIn K cStatics=true)
    (hdg:PySem.W.nsIn K cStatics "sys.int_max_str_digits"=some none)
    (hxq:xqB K c_NoLine=true)
    (hexm:PySem.W.exmOne K (.ref c_NoLine) (.ref c_LathError)=some true)
    (hkt:[PySem.W.kitOne K (.ref c_NoLine) (.ref c_NoWord),PySem.W.kitOne K (.ref c_NoLine) (.ref c_NotARow),PySem.W.kitOne K (.ref c_NoLine) (.ref c_NoLine),PySem.W.kitOne K (.ref c_NoLine) (.type "ValueError")]=[some false,some false,some true,some true]) :
    ∃fd:FuncData,(∀(s:Shared) (v:Value),BindsTo s fd ⟨[v],[]⟩ [("_law_script",v)])∧∀base:Heap,K.In base→base.Ns mainGlobals mg→FnOk l.prog w K mg base CX0 8 fa fd ["_law_script"] (spLaw K):=by
  obtain ⟨_,fd_law,a_law,F_law⟩:=h_law
  have e:=hfa.symm.trans (PySem.W.mg_of X G a_law)
  cases e
  have T:Txt mg:=⟨PySem.W.mg_none_of X G z_len,PySem.W.mg_none_of X G z_abs,PySem.W.mg_none_of X G z_range,PySem.W.mg_none_of X G z_isinstance,PySem.W.mg_none_of X G z_int,PySem.W.mg_none_of X G z_bool,PySem.W.mg_none_of X G z_tuple,PySem.W.mg_none_of X G z_list,PySem.W.mg_none_of X G z_max,PySem.W.mg_none_of X G z_min,PySem.W.mg_none_of X G z_enumerate,PySem.W.mg_none_of X G z_zip,PySem.W.mg_none_of X G z_all,PySem.W.mg_none_of X G z_any,PySem.W.mg_none_of X G z_sum,PySem.W.mg_none_of X G z_sorted,PySem.W.mg_none_of X G z_reversed,PySem.W.mg_none_of X G z_str⟩
  obtain ⟨_,_,a_law_cell,F_law_cell⟩:=h_law_cell
  obtain ⟨_,_,a_law_mix,F_law_mix⟩:=h_law_mix
  obtain ⟨_,_,a_law_row,F_law_row⟩:=h_law_row
  obtain ⟨_,_,a_figures_of,F_figures_of⟩:=h_figures_of
  obtain ⟨_,_,a_whole_word,F_whole_word⟩:=h_whole_word
  obtain ⟨_,_,a_is_whole,F_is_whole⟩:=h_is_whole
  obtain ⟨_,_,_,a_read_whole,F_read_whole⟩:=h_read_whole
  obtain ⟨_,_,a_law_whole_due,F_law_whole_due⟩:=h_law_whole_due
  obtain ⟨_,_,a_NoLine_init,o_NoLine_init,i_NoLine_init,F_NoLine_init⟩:=h_NoLine_init
  obtain ⟨_,_,a_show_wholes,F_show_wholes⟩:=h_show_wholes
  obtain ⟨_,_,a_show_paper,F_show_paper⟩:=h_show_paper
  obtain ⟨_,_,a_wholes_of,F_wholes_of⟩:=h_wholes_of
  obtain ⟨_,_,a_three_of,F_three_of⟩:=h_three_of
  obtain ⟨_,_,a_read_threes,F_read_threes⟩:=h_read_threes
  obtain ⟨_,_,a_read_parts,F_read_parts⟩:=h_read_parts
  obtain ⟨_,_,a_read_paper,F_read_paper⟩:=h_read_paper
  obtain ⟨_,_,a_law_number,F_law_number⟩:=h_law_number
  obtain ⟨_,_,a_law_three,F_law_three⟩:=h_law_three
  obtain ⟨_,_,a_law_paper,F_law_paper⟩:=h_law_paper
  obtain ⟨_,_,a_law_lines,F_law_lines⟩:=h_law_lines
  obtain ⟨_,_,a_law_numbers_due,F_law_numbers_due⟩:=h_law_numbers_due
  obtain ⟨_,_,a_law_due,F_law_due⟩:=h_law_due
  obtain ⟨_,_,a_law_spoil,F_law_spoil⟩:=h_law_spoil
  obtain ⟨_,_,a_law_refused,F_law_refused⟩:=h_law_refused
  have X_NoWord:Xc K mg "NoWord" c_NoWord:=⟨PySem.W.mg_of X G a_NoWord,xe_NoWord,xs_NoWord⟩
  have X_LathError:Xc K mg "LathError" c_LathError:=⟨PySem.W.mg_of X G a_LathError,xe_LathError,xs_LathError⟩
  have XB_LathError:Xb K mg "LathError" c_LathError (.type "type"):=⟨X_LathError.at_,b1_LathError,b2_LathError,b3_LathError⟩
  have XI_NoLine:=Xi.mk (x := "NoLine") (PySem.W.mg_of X G a_NoLine) o_NoLine_init st_NoLine at_NoLine xs_NoLine
  have XG_NoLine:Xg K c_NoLine:=⟨q1_NoLine,q7_NoLine,q8_NoLine⟩
  have XQ_NoLine:Xq K c_NoLine:=⟨XG_NoLine,q2_NoLine,q3_NoLine,q4_NoLine,q5_NoLine,q6_NoLine⟩
  have XN_NotARow:=PySem.W.mg_of X G a_NotARow
  have C_FIGURES:Cs mg "FIGURES" "0123456789":=⟨_,PySem.W.mg_of X G gs_FIGURES⟩
  have Z_ValueError:=PySem.W.mg_none_of X G z_ValueError
  refine ⟨fd_law,fun s v=>?_,fun base _ _=>?_⟩
  · obtain ⟨_,_,_,_,_,_,_,_,_,rfl,_,_⟩:=F_law.ex
    exact .of_eq rfl
  have D_law_cell:=dnm l.prog w base X G a_law_cell F_law_cell (ok_law_cell F_law_cell T) (F_law_cell.binds2 fun _ _ _ _ _ _ _ _=>rfl)
  have D_law_mix:=dnm l.prog w base X G a_law_mix F_law_mix (ok_law_mix F_law_mix ) (F_law_mix.binds2 fun _ _ _ _ _ _ _ _=>rfl)
  have D_law_row:=dnm l.prog w base X G a_law_row F_law_row (ok_law_row F_law_row T D_law_cell D_law_mix) (F_law_row.binds3 fun _ _ _ _ _ _ _ _ _=>rfl)
  have D_figures_of:=dnm l.prog w base X G a_figures_of F_figures_of (ok_figures_of F_figures_of T) (F_figures_of.binds1 fun _ _ _ _ _ _ _=>rfl)
  have D_whole_word:=dnm l.prog w base X G a_whole_word F_whole_word (ok_whole_word F_whole_word D_figures_of) (F_whole_word.binds1 fun _ _ _ _ _ _ _=>rfl)
  have D_is_whole:=dnm l.prog w base X G a_is_whole F_is_whole (ok_is_whole F_is_whole T C_FIGURES) (F_is_whole.binds2 fun _ _ _ _ _ _ _ _=>rfl)
  have BB_read_whole:=F_read_whole.binds (fun _ _ _ _ _ _ _ _ _=>⟨_,rfl,rfl⟩) (fun _ _ _ _ _ _ _ _=>⟨_,rfl,rfl⟩)
  have DDX_read_whole:DnD (CXe l.prog w) l.prog w K mg base 2 "read_whole" ["word","figures"] (spReadX c_NoWord) 18:=⟨_,_,_,okX_read_whole F_read_whole T X_NoWord hok hdg D_is_whole,PySem.W.mg_of X G a_read_whole,F_read_whole.kp,BB_read_whole.1,BB_read_whole.2⟩
  have DX_read_whole:=DDX_read_whole.twoX
  have BB_read_whole:=F_read_whole.binds (fun _ _ _ _ _ _ _ _ _=>⟨_,rfl,rfl⟩) (fun _ _ _ _ _ _ _ _=>⟨_,rfl,rfl⟩)
  have DD_read_whole:DnD CX0 l.prog w K mg base 2 "read_whole" ["word","figures"] spReadG 18:=⟨_,_,_,ok_read_whole F_read_whole T hok hdg D_is_whole,PySem.W.mg_of X G a_read_whole,F_read_whole.kp,BB_read_whole.1,BB_read_whole.2⟩
  have D_read_whole:=DD_read_whole.two
  have D_law_whole_due:=dnm l.prog w base X G a_law_whole_due F_law_whole_due (ok_law_whole_due F_law_whole_due T hok hdg) (F_law_whole_due.binds2 fun _ _ _ _ _ _ _ _=>rfl)
  have D_NoLine:Di l.prog w K mg base 1 "NoLine" c_NoLine:=⟨_,_,ok_NoLine_init F_NoLine_init XI_NoLine XB_LathError,XI_NoLine,(F_NoLine_init.binds2 fun _ _ _ _ _ _ _ _=>rfl),i_NoLine_init⟩
  have D_show_wholesB:=dnm l.prog w base X G a_show_wholes F_show_wholes (ok_show_wholesB F_show_wholes T D_whole_word) (F_show_wholes.binds1 fun _ _ _ _ _ _ _=>rfl)
  have D_show_paper:=dnm l.prog w base X G a_show_paper F_show_paper (ok_show_paper F_show_paper T D_show_wholesB) (F_show_paper.binds2 fun _ _ _ _ _ _ _ _=>rfl)
  have D_wholes_of:=dnm l.prog w base X G a_wholes_of F_wholes_of (ok_wholes_of F_wholes_of X_NoWord DDX_read_whole) (F_wholes_of.binds1 fun _ _ _ _ _ _ _=>rfl)
  have D_three_of:=dnm l.prog w base X G a_three_of F_three_of (ok_three_of F_three_of T D_wholes_of) (F_three_of.binds1 fun _ _ _ _ _ _ _=>rfl)
  have DX_read_threes:=dnmX l.prog w base X G a_read_threes F_read_threes (okX_read_threes F_read_threes T D_three_of D_NoLine) (F_read_threes.binds1 fun _ _ _ _ _ _ _=>rfl)
  have D_read_threes:=dnm l.prog w base X G a_read_threes F_read_threes (ok_read_threes F_read_threes T D_three_of) (F_read_threes.binds1 fun _ _ _ _ _ _ _=>rfl)
  have DX_read_parts:=dnmX l.prog w base X G a_read_parts F_read_parts (okX_read_parts F_read_parts T D_three_of D_wholes_of D_NoLine) (F_read_parts.binds1 fun _ _ _ _ _ _ _=>rfl)
  have D_read_parts:=dnm l.prog w base X G a_read_parts F_read_parts (ok_read_parts F_read_parts T D_three_of D_wholes_of) (F_read_parts.binds1 fun _ _ _ _ _ _ _=>rfl)
  have DX_read_paper:=dnmX l.prog w base X G a_read_paper F_read_paper (okX_read_paper F_read_paper DX_read_threes DX_read_parts) (F_read_paper.binds2 fun _ _ _ _ _ _ _ _=>rfl)
  have D_read_paper:=dnm l.prog w base X G a_read_paper F_read_paper (ok_read_paper F_read_paper D_read_threes D_read_parts) (F_read_paper.binds2 fun _ _ _ _ _ _ _ _=>rfl)
  have D_law_number:=dnm l.prog w base X G a_law_number F_law_number (ok_law_number F_law_number ) (F_law_number.binds1 fun _ _ _ _ _ _ _=>rfl)
  have D_law_three:=dnm l.prog w base X G a_law_three F_law_three (ok_law_three F_law_three D_law_number) (F_law_three.binds1 fun _ _ _ _ _ _ _=>rfl)
  have D_law_paper:=dnm l.prog w base X G a_law_paper F_law_paper (ok_law_paper F_law_paper T D_law_row D_law_number D_law_three) (F_law_paper.binds2 fun _ _ _ _ _ _ _ _=>rfl)
  have D_law_lines:=dnm l.prog w base X G a_law_lines F_law_lines (ok_law_lines F_law_lines T) (F_law_lines.binds2 fun _ _ _ _ _ _ _ _=>rfl)
  have D_law_numbers_due:=dnm l.prog w base X G a_law_numbers_due F_law_numbers_due (ok_law_numbers_due F_law_numbers_due T D_law_whole_due) (F_law_numbers_due.binds2 fun _ _ _ _ _ _ _ _=>rfl)
  have D_law_due:=dnm l.prog w base X G a_law_due F_law_due (ok_law_due F_law_due T D_law_numbers_due) (F_law_due.binds2 fun _ _ _ _ _ _ _ _=>rfl)
  have D_law_spoil:=dnm l.prog w base X G a_law_spoil F_law_spoil (ok_law_spoil F_law_spoil T) (F_law_spoil.binds2 fun _ _ _ _ _ _ _ _=>rfl)
  have D_law_refused:=dnm l.prog w base X G a_law_refused F_law_refused (ok_law_refused F_law_refused T Z_ValueError X_LathError X_NoWord XN_NotARow XI_NoLine (xq_of hxq) hexm hkt DX_read_paper) (F_law_refused.binds3 fun _ _ _ _ _ _ _ _ _=>rfl)
  exact ok_law F_law T D_law_row D_law_paper D_law_lines D_law_spoil D_law_due D_law_refused D_show_paper D_read_paper
theorem walk {l:PySem.W.OpenLaw} {q:Program} {loose:List Str} {XP:(Str→Option Value)→Heap→Prop} {YP:World→Heap→Prop} {d:DefRec} {K:Params→PySem.W.Frag} (hn:l.most=some 63) (hdf:d.params.defaults=[])
    (hY:∀(w:World) (h:Heap),YP w h→(K w.params).In h)
    (F:∀(w:World) (mg:Str→Option Value) (fa:Addr) (h:Heap),(K w.params).In h→h.Ns mainGlobals mg→mg d.name=some (.ref fa) →
      ∃fd:FuncData,(∀(s:Shared) (u:Value),BindsTo s fd ⟨[u],[]⟩ [("_law_script",u)])∧∀base:Heap,(K w.params).In base→base.Ns mainGlobals mg→FnOk l.prog w (K w.params) mg base CX0 8 fa fd ["_law_script"] (spLaw (K w.params))) :
    PySem.W.WalkO q loose XP YP l.row.toRowW d [] (fun f vs=>PySem.call f vs):=
  L2.walk_of (n:=63) (k:=8) (x := "_law_script") (CX:=fun _=>CX0) (sp:=fun w=>spLaw (K w.params)) hn (by decide) hdf ⟨rfl,by decide,by decide⟩ hY F (fun _ _ a ns hl _ hS=>⟨a,ns,rfl,hS,hl,fun _=>rfl⟩) fun _ _ _ _ _ z=>z
end Lw
open PySem PySem.W PyProof.Rows
set_option maxRecDepth 100000 in
set_option maxHeartbeats 0 in
theorem PySem.Challenge.cw_lath_k87_papers_as_lines_holds : PySem.Challenge.rw_lath_k87_papers_as_lines.Holds := by
  w_on;o_law;k_head;(case hw=>w_witness2)
  k_fill
  refine Lw.walk (l:=PySem.Challenge.rw_lath_k87_papers_as_lines) rfl rfl (fun w h Y=>PySem.W.kIn_of Y) ?F
  case F=>
    intro w mg fa h KX G hmg
    refine' Lw.all_mk KX G hmg ?a0 ?a1 ?a2 ?a3 ?a4 ?a5 ?a6 ?a7 ?a8 ?a9 ?a10 ?a11 ?a12 ?a13 ?a14 ?a15 ?a16 ?a17 ?a18 ?a19 ?a20 ?a21 ?a22 ?a23 ?a24 ?a25 ?a26 ?a27 ?a28 ?a29 ?a30 ?a31 ?a32 ?a33 ?a34 ?a35 ?a36 ?a37 ?a38 ?a39 ?a40 ?a41 ?a42 ?a43 ?a44 ?a45 ?a46 ?a47 ?a48 ?a49 ?a50 ?a51 ?a52 ?a53 ?a54 ?a55 ?a56 ?a57 ?a58 ?a59 ?a60 ?a61 ?a62 ?a63 ?a64 ?a65 ?a66 ?a67 ?a68 ?a69 ?a70 ?a71
    (case a0=>walk_at "fz");(case a1=>walk_at "fz");(case a2=>walk_at "fz");(case a3=>walk_at "fz");(case a4=>walk_at "fz");(case a5=>walk_at "fz");(case a6=>walk_at "fz");(case a7=>walk_at "fz");(case a8=>walk_at "fz");(case a9=>walk_at "fz");(case a10=>walk_at "fz");(case a11=>walk_at "fz");(case a12=>walk_at "fz");(case a13=>walk_at "fz");(case a14=>walk_at "fz");(case a15=>walk_at "fz");(case a16=>walk_at "fz");(case a17=>walk_at "fz");(case a18=>walk_at "fz");(case a19=>walk_at "fz");(case a20=>walk_at "fz");(case a21=>walk_at "fz");(case a22=>walk_at "fz");(case a23=>walk_at "fz");(case a24=>walk_at "fz");(case a25=>walk_at "fz");(case a26=>walk_at "fz");(case a27=>walk_at "fz");(case a28=>walk_at "fz");(case a29=>walk_at "fz");(case a30=>walk_at "fz");(case a31=>walk_at "fz");(case a32=>walk_at "fz");(case a33=>walk_at "fz");(case a34=>walk_at "fz");(case a35=>walk_at "fz");(case a36=>walk_at "fz");(case a37=>walk_at "fz");(case a38=>walk_at "fz");(case a39=>walk_at "fz");(case a40=>walk_at "fz");(case a41=>walk_at "fz");(case a42=>walk_at "fz");(case a43=>walk_at "fz");(case a44=>walk_at "fz");(case a45=>walk_at "fz");(case a46=>walk_at "fz");(case a47=>walk_at "fz");(case a48=>walk_at "fz");(case a49=>walk_at "fz");(case a50=>walk_at "fz");(case a51=>walk_at "fz");(case a52=>walk_at "fz");(case a53=>walk_at "fz");(case a54=>walk_at "fz");(case a55=>walk_at "fz");(case a56=>walk_at "fz");(case a57=>walk_at "fz");(case a58=>walk_at "fz");(case a59=>walk_at "fz");(case a60=>walk_at "fz");(case a61=>walk_at "fz");(case a62=>walk_at "fz");(case a63=>walk_at "fz");(case a64=>walk_at "fz");(case a65=>walk_at "fz");(case a66=>walk_at "fz");(case a67=>kernel_rfl);(case a68=>kernel_rfl);(case a69=>kernel_rfl);(case a70=>kernel_rfl);(case a71=>kernel_rfl)

