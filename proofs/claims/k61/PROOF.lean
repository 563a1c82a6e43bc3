import PyProof.Rows.All
import Wide.All
import OpenK.AllK
import Wide.FinOn
import Lean
import PyProof.EqAt
import PyProof.EqKinds
import PyProof.TupleCall
import PySem.Challenge.RW_pastdesk_k61_the_first_that_fails
set_option Elab.async false
set_option linter.all false
set_option maxRecDepth 100000
namespace PySem.W.Fast
abbrev tw460009019353500291:=()
abbrev tw7473721097789887021:=()
abbrev tw1527580342830749194:=()
abbrev tw10650882626955023870:=()
abbrev tw10389858309513112247:=()
abbrev tw4397736265982897359:=()
abbrev tw11667991621135424744:=()
abbrev tw196376134136550404:=()
abbrev tw919285281072798231:=()
abbrev tw1436321894183780109:=()
abbrev tw14320172414629497864:=()
abbrev tw3987362714825908478:=()
abbrev tw9434323854877598595:=()
abbrev tw6423096439241969010:=()
abbrev tw12731621758162235113:=()
abbrev tw6311378631670100994:=()
abbrev tw16195996009956388756:=()
abbrev tw12176236794626306753:=()
abbrev tw3649622754748703857:=()
abbrev tw12160031711895974779:=()
abbrev tw7883564544083892204:=()
abbrev tw16951263968913452280:=()
abbrev tw8340147931441198678:=()
abbrev tw13793497341744523751:=()
abbrev tw9439065079831648824:=()
abbrev tw11749712290033847214:=()
abbrev tw14924358367023510415:=()
abbrev tw14821797786081848108:=()
abbrev tw13675073395332600232:=()
abbrev tw1650164441334341132:=()
abbrev tw14207981767852924319:=()
abbrev tw18405356763277733557:=()
abbrev tw16325500364730513023:=()
abbrev tw7499711946055500743:=()
abbrev tw15352615027445724100:=()
abbrev tw7140498264215897693:=()
abbrev tw16543099677452569641:=()
abbrev tw11011100706729231812:=()
abbrev tw10110824050983017413:=()
abbrev tw3209049201835102183:=()
abbrev tw11249948786596128199:=()
abbrev tw6821620011291846358:=()
abbrev tw4186580332521366809:=()
abbrev tw7971593913988675143:=()
abbrev tw5960505460183702978:=()
abbrev tw14673864904965085424:=()
abbrev tw7399821160583632658:=()
abbrev tw8675226383957295027:=()
abbrev tw14794377615486565350:=()
abbrev tw9485186090065924299:=()
abbrev tw4390559805186690359:=()
abbrev tw3726781565728798406:=()
abbrev tw17150607729453335267:=()
abbrev tw9155318063535571278:=()
abbrev tw11483061769816846862:=()
abbrev tw2332724547691151742:=()
abbrev tw16351173429447382891:=()
abbrev tw9200804291761120838:=()
abbrev tw2142695345943676962:=()
abbrev tw2858624488360860207:=()
abbrev tw11697121199097429468:=()
abbrev tw5783249633619861534:=()
abbrev tw4686766505229333982:=()
abbrev tw8124417126676858616:=()
abbrev tw7654141682004243801:=()
abbrev tw8662133271942504018:=()
abbrev tw14503296198077611326:=()
abbrev tw5728382849104317676:=()
abbrev tw16087292783808348068:=()
abbrev tw3299031571431906057:=()
abbrev tw1805101343254186004:=()
abbrev tw16141988446749203415:=()
abbrev tw9900203116642384699:=()
abbrev tw5854582806198808744:=()
abbrev tw8143800890961712694:=()
abbrev tw1338928431930649122:=()
abbrev tw11300944178339347749:=()
abbrev tw12124016324709359321:=()
abbrev tw5461972505519376908:=()
abbrev tw7425173810687592605:=()
abbrev tw1443602586807381057:=()
abbrev tw6122772717311513771:=()
abbrev tw7306232309479653518:=()
abbrev tw9713343644938924090:=()
abbrev tw9637011956961525999:=()
abbrev tw13205601575194874926:=()
abbrev tw17388605587991154030:=()
abbrev tw14883866508987181392:=()
abbrev tw4443910162488616090:=()
abbrev tw4618774258913276396:=()
abbrev tw17964147577898439743:=()
abbrev tw9331584064432857742:=()
abbrev tw16241126878973903526:=()
abbrev tw5651716233648827649:=()
abbrev tw11109297060666291790:=()
abbrev tw3867873944478869259:=()
abbrev tw11569493784029498074:=()
abbrev tw15284372971080190668:=()
abbrev tw1749363133263706900:=()
abbrev tw16774171784378697411:=()
abbrev tw6948304208129216440:=()
abbrev tw16429211418735868782:=()
abbrev tw8867805406475229396:=()
abbrev tw9767040870171211288:=()
abbrev tw12080828205483308264:=()
abbrev tw5120337833491895798:=()
abbrev tw18113132452924706617:=()
abbrev tw102530374516147205:=()
abbrev tw17884698708378490453:=()
abbrev tw3391932489568707803:=()
abbrev tw11030073745161605712:=()
abbrev tw3828921485630549384:=()
abbrev tw9643543307403313530:=()
abbrev tw17389043540719407508:=()
abbrev tw6390237857845808352:=()
abbrev tw11214753497273943810:=()
abbrev tw5682128271295312882:=()
abbrev tw6128911074067829794:=()
abbrev tw2255419673696118703:=()
abbrev tw15704207301833007414:=()
abbrev tw13482722712324756385:=()
abbrev tw7507124779121997075:=()
abbrev tw11536266756397062984:=()
abbrev tw11433075559878899118:=()
abbrev tw5916291922042043568:=()
abbrev tw16450546431401225664:=()
abbrev tw9985695924888052742:=()
abbrev tw5590563959193573255:=()
abbrev tw1035763585386696251:=()
abbrev tw6265126097137901740:=()
abbrev tw17681278884856870392:=()
abbrev tw7516315850939793166:=()
abbrev tw14855507694003450178:=()
abbrev tw7918837493687583052:=()
abbrev tw2895466106558990203:=()
abbrev tw15849796300382888308:=()
abbrev tw17506627892178399360:=()
abbrev tw7712198211307252326:=()
abbrev tw17738684736133405290:=()
abbrev tw2965187668845493321:=()
abbrev tw2176231832936190197:=()
abbrev tw766860920308388557:=()
abbrev tw18008300042623631741:=()
abbrev tw7505006938698930126:=()
abbrev tw14101135137976811320:=()
abbrev tw18085962984396880024:=()
abbrev tw7833879175002322995:=()
abbrev tw14005339177238338450:=()
abbrev tw14396615627038990544:=()
abbrev tw12629632747689519111:=()
abbrev tw6246512947721839969:=()
abbrev tw9329036318667174100:=()
abbrev tw803313861647267537:=()
abbrev tw15118322049806597432:=()
abbrev tw896699633115771969:=()
abbrev tw11951932579139785597:=()
abbrev tw8181878934818253758:=()
abbrev tw15678157678892818391:=()
abbrev tw15682456291711289800:=()
abbrev tw18077307843529689399:=()
abbrev tw15261536746883482900:=()
abbrev tw17061676980232136955:=()
abbrev tw12479493217054012307:=()
abbrev tw11689024471734594537:=()
abbrev tw4307928542927439998:=()
abbrev tw16032713298197832935:=()
abbrev tw5742928073704684440:=()
abbrev tw9406400953522751676:=()
abbrev tw1116185282531051798:=()
abbrev tw5196828765534908859:=()
abbrev tw11844248277488514869:=()
abbrev tw12237056476960094536:=()
abbrev tw13594041395115211353:=()
abbrev tw12023453337965809536:=()
abbrev tw6079007024043347084:=()
abbrev tw14076491315049206092:=()
abbrev tw7281789253661324871:=()
abbrev tw11087900978883374856:=()
abbrev tw3029293003076152164:=()
abbrev tw17105088356344081575:=()
abbrev tw12188069022577749527:=()
abbrev tw4998885729234275498:=()
abbrev tw6829589786030332348:=()
abbrev tw3513851458290083836:=()
abbrev tw11765923037927718338:=()
abbrev tw7004470630142743774:=()
abbrev tw17476430795086387859:=()
abbrev tw13918166079113980617:=()
abbrev tw9916851457305949685:=()
abbrev tw11638991773032544811:=()
abbrev tw1156011033351520771:=()
abbrev tw18404716699680502257:=()
abbrev tw9509519326255044894:=()
abbrev tw4162321318632892324:=()
abbrev tw657074696468845333:=()
abbrev tw3474564287604962004:=()
abbrev tw4312932080831881578:=()
abbrev tw10187375368521438682:=()
abbrev tw1865745596459854094:=()
abbrev tw407423022279141507:=()
abbrev tw2131393568192158311:=()
abbrev tw10373366159618579569:=()
abbrev tw4919621160131518515:=()
abbrev tw7554584079108619616:=()
abbrev tw183212607371668197:=()
abbrev tw8015246859367619713:=()
abbrev tw13146955725093254176:=()
abbrev tw4081949303572031752:=()
abbrev tw2817978001680613161:=()
abbrev tw17505370282847488872:=()
abbrev tw16769237465598670055:=()
abbrev tw11924583672248203371:=()
abbrev tw18380990263982275301:=()
abbrev tw10878861960923151671:=()
abbrev tw13945444188834996407:=()
abbrev tw4795847864416490405:=()
abbrev tw12532053815884109297:=()
abbrev tw5224244439515287280:=()
abbrev tw17298444552891233058:=()
abbrev tw14831651219643108944:=()
abbrev tw8007620492041233203:=()
abbrev tw6893152545004124603:=()
abbrev tw12983235156196215015:=()
abbrev tw5245137363010548258:=()
abbrev tw12232470929153423820:=()
abbrev tw14215159268341438345:=()
abbrev tw16845922986107850121:=()
abbrev tw13143491235175779498:=()
abbrev tw11659364835179493821:=()
abbrev tw9576830337811191360:=()
abbrev tw2527312876278623431:=()
abbrev tw2959849423353762667:=()
abbrev tw2585095538859693432:=()
abbrev tw10154070989475820266:=()
abbrev tw10432840428087234271:=()
abbrev tw9899518604534318940:=()
abbrev tw11403026409383966674:=()
abbrev tw14274609215321939851:=()
abbrev tw11758555845355819302:=()
abbrev tw6364079358052092885:=()
abbrev tw13886567658172158354:=()
abbrev tw17703046867726037964:=()
abbrev tw1021754663243939649:=()
abbrev tw6273156738601386535:=()
abbrev tw4599700139630921416:=()
abbrev tw16597528134514263002:=()
abbrev tw7776125755199328193:=()
abbrev tw11694653575949512010:=()
abbrev tw11115038558137173545:=()
abbrev tw14871460440144210855:=()
abbrev tw904933520194736701:=()
abbrev tw4698242493178670840:=()
abbrev tw2408638972344338697:=()
abbrev tw3789539583870686936:=()
abbrev tw11652643981176273664:=()
abbrev tw9106386857479073718:=()
abbrev tw7938550154908618057:=()
abbrev tw15642874928382614135:=()
abbrev tw16200084303207624659:=()
abbrev tw6140043104612580017:=()
abbrev tw17283327695964720799:=()
abbrev tw13113194395290850721:=()
abbrev tw16929275821117104667:=()
abbrev tw3234859640132231041:=()
abbrev tw13358309985327752850:=()
abbrev tw13440847881492408623:=()
abbrev tw1106957103077711841:=()
abbrev tw6272698197129959350:=()
abbrev tw8991198650691161580:=()
abbrev tw15109838489271001640:=()
abbrev tw16947662039709599871:=()
abbrev tw5940223299466761122:=()
abbrev tw28092512162752805:=()
abbrev tw15689504853620243749:=()
abbrev tw585826441925603591:=()
abbrev tw8897037481821679561:=()
abbrev tw16569209758881165237:=()
abbrev tw3520524281123242453:=()
abbrev tw9559630081923725964:=()
abbrev tw669094244053472776:=()
abbrev tw18000776781134350979:=()
abbrev tw12706354747980176023:=()
abbrev tw2242044515641402685:=()
abbrev tw11774658742174169267:=()
abbrev tw15348422523904613551:=()
abbrev tw18340673932854103389:=()
abbrev tw7767634421910510639:=()
abbrev tw4602838235287674996:=()
abbrev tw5789711242104540765:=()
abbrev tw6568048211801667660:=()
abbrev tw1633698854808218449:=()
abbrev tw12762224565808704157:=()
abbrev tw6863166199166935502:=()
abbrev tw13626060216460214274:=()
abbrev tw16468134097584990243:=()
abbrev tw8893591155113011837:=()
abbrev tw13137767385229635537:=()
abbrev tw10989992233827910539:=()
abbrev tw10202676859326427293:=()
abbrev tw18165988687114837334:=()
abbrev tw5033121252922614811:=()
abbrev tw174600885146291546:=()
abbrev tw17887161881923727876:=()
abbrev tw17040924695376096114:=()
abbrev tw15684733192353590395:=()
abbrev tw14124557009305521131:=()
abbrev tw9631587496563588697:=()
abbrev tw3002477120956548562:=()
abbrev tw11789402680327148970:=()
abbrev tw9101530394800593461:=()
abbrev tw17329871205993616249:=()
abbrev tw6588809369858539896:=()
abbrev tw1354254865475167394:=()
abbrev tw10249601842422435708:=()
abbrev tw11128586552912724100:=()
abbrev tw3708998594335329228:=()
abbrev tw14808709579933892248:=()
abbrev tw16290752261238190028:=()
abbrev tw18171989707919272219:=()
abbrev tw4539160952728189977:=()
abbrev tw4998773374786392050:=()
abbrev tw10536686589044454236:=()
abbrev tw1004657899763300816:=()
abbrev tw16739025274755798502:=()
abbrev tw7333642288743233314:=()
abbrev tw13042404642870463265:=()
abbrev tw8981058389856784007:=()
abbrev tw17223746406401000587:=()
abbrev tw16768308166491889391:=()
abbrev tw6814465383146023332:=()
abbrev tw14028015405174079148:=()
abbrev tw17721371192369730391:=()
abbrev tw9972520381287661799:=()
abbrev tw9810269848254114246:=()
abbrev tw11416959027975782829:=()
abbrev tw2535438208894052020:=()
abbrev tw2809269405790262892:=()
abbrev tw11874634142798388160:=()
abbrev tw7355817495697616054:=()
abbrev tw5810704790951280169:=()
abbrev tw3010823688854796472:=()
abbrev tw4749754611545696207:=()
abbrev tw15287608746523229412:=()
abbrev tw16202091114365726032:=()
abbrev tw10645364478629571556:=()
abbrev tw15102401397250139895:=()
abbrev tw17644132323436157699:=()
abbrev tw14876045356944125995:=()
abbrev tw14402823197519711725:=()
abbrev tw6037748442961007173:=()
abbrev tw558577783202434254:=()
abbrev tw13933696226212169280:=()
abbrev tw13365286264469366766:=()
abbrev tw16003204240148705385:=()
abbrev tw9070692818313771395:=()
abbrev tw6433101314544450092:=()
abbrev tw12779712870620570094:=()
abbrev tw9195588138355954785:=()
abbrev tw2257060963055674211:=()
abbrev tw12560049131084231531:=()
abbrev tw16148912408677234692:=()
abbrev tw12094181923467790838:=()
abbrev tw15917782994310346436:=()
end PySem.W.Fast
namespace L2
open PySem PySem.Spec PyProof.Rows
abbrev Key:=Sum Int Str
def Qey:Key->Value->Bool
 | .inl k,v=>Value.isInt k v
 | .inr x,v=>Value.isStrOf x v
def keyH (w:World):Key->Int
 | .inl k=>hashInt k
 | .inr x=>hashStr w x
theorem Q8:∀ {k:Key} {v:Value},Qey k v=true->(∃ i t,k=Sum.inl i/\v=Value.int i t)\/(∃ x t,k=Sum.inr x/\v=Value.str x t)
 | .inl i,v,h=>by
  obtain ⟨t,e⟩:=Value.isInt_shape (k:=i) (v:=v) h
  exact .inl ⟨i,t,rfl,e⟩
 | .inr x,v,h=>by
  obtain ⟨t,e⟩:=Value.isStrOf_shape (x:=x) (v:=v) h
  exact .inr ⟨x,t,rfl,e⟩
theorem Qd0 (i:Int) (t:Tok):Qey (.inl i) (.int i t)=true:=by simp [Qey,Value.isInt]
theorem QkO (x:Str) (t:Tok):Qey (.inr x) (.str x t)=true:=by simp [Qey,Value.isStrOf]
theorem Qp1 (a b:Int):decide ((Sum.inl a:Key)=Sum.inl b)=(a == b):=by
 by_cases e:a=b
 ·subst e;simp
 ·have h:¬ (Sum.inl a:Key)=Sum.inl b:=fun q=>e (Sum.inl.inj q)
  rw [decide_eq_false h]
  exact (beq_eq_false_iff_ne.mpr e).symm
theorem QoF (a b:Str):decide ((Sum.inr a:Key)=Sum.inr b)=decide (a=b):=by
 by_cases e:a=b
 ·subst e;simp
 ·have h:¬ (Sum.inr a:Key)=Sum.inr b:=fun q=>e (Sum.inr.inj q)
  rw [decide_eq_false h,decide_eq_false e]
theorem QpA (a:Int) (b:Str):decide ((Sum.inl a:Key)=Sum.inr b)=false:=decide_eq_false (fun q=>nomatch q)
theorem Qpp (a:Str) (b:Int):decide ((Sum.inr a:Key)=Sum.inl b)=false:=decide_eq_false (fun q=>nomatch q)
def QG (prog:Program) (w:World):PySem.KeyKind prog w Key where
 is:=Qey
 hash:=keyH w
 inj:=fun v a b ha hb=>by
  rcases Q8 ha with ⟨i,t,rfl,rfl⟩ | ⟨x,t,rfl,rfl⟩
  ·rcases Q8 hb with ⟨j,u,rfl,e⟩ | ⟨y,u,rfl,e⟩
   ·injection e with e1 _;rw [e1]
   ·exact nomatch e
  ·rcases Q8 hb with ⟨j,u,rfl,e⟩ | ⟨y,u,rfl,e⟩
   ·exact nomatch e
   ·injection e with e1 _;rw [e1]
 byValue:=fun k v h=>by
  rcases Q8 h with ⟨i,t,rfl,rfl⟩ | ⟨x,t,rfl,rfl⟩ <;> rfl
 pyHash:=fun hv h=>by
  rcases Q8 hv with ⟨i,t,rfl,rfl⟩ | ⟨x,t,rfl,rfl⟩
  ·exact wpAny_pyHash_int h
  ·exact wpAny_pyHash_str h
 eqBool:=fun hu hv h=>by
  rcases Q8 hu with ⟨i,t,rfl,rfl⟩ | ⟨x,t,rfl,rfl⟩
  ·rcases Q8 hv with ⟨j,u,rfl,rfl⟩ | ⟨y,u,rfl,rfl⟩
   ·rw [Qp1] at h;exact wpAny_eqBool_int h
   ·rw [QpA] at h;exact SeqAt.EqAt.int_str i t y u _ _ _ _ h
  ·rcases Q8 hv with ⟨j,u,rfl,rfl⟩ | ⟨y,u,rfl,rfl⟩
   ·rw [Qpp] at h;exact SeqAt.EqAt.str_int x t j u _ _ _ _ h
   ·rw [QoF] at h;exact wpAny_eqBool_str h
 «strs»:=fun k x t v h=>by
  rcases Q8 h with ⟨i,u,rfl,e⟩ | ⟨y,u,rfl,e⟩
  ·exact nomatch e
  ·injection e with e1 _
   subst e1
   cases v <;> rfl
theorem QiR (prog:Program) (w:World) (i:Int) (t:Tok):(QG prog w).is (.inl i) (.int i t)=true:=Qd0 i t
theorem QhO (prog:Program) (w:World) (x:Str) (t:Tok):(QG prog w).is (.inr x) (.str x t)=true:=QkO x t
end L2
namespace L2
open PySem PySem.Spec PyProof.Rows
inductive V where
 | non | bl (b:Bool) | int (i:Int) | str (x:Str) | byt (b:Array UInt8) | flt (b:UInt64) | ref (a:Addr) | ty (n:String)
 deriving DecidableEq
def RelV:V->Value->Prop
 | .non,u=>u=Value.none
 | .bl b,u=>u=Value.bool b
 | .int i,u=>∃ t,u=Value.int i t
 | .str x,u=>∃ t,u=Value.str x t
 | .byt b,u=>∃ t,u=Value.bytes b t
 | .flt b,u=>∃ t,u=Value.float b t
 | .ref a,u=>u=Value.ref a
 | .ty n,u=>u=Value.type n
abbrev Vals:List V->List Value->Prop:=Paired RelV
theorem Vals.length {xs:List V} {us:List Value} (r:Vals xs us):xs.length=us.length:=Paired.length r
theorem Vals.get:∀ {xs:List V} {us:List Value} {i:Nat} {x:V},Vals xs us->xs[i]? = some x->∃ u,us[i]? = some u/\RelV x u
 | _,_,_,_,.nil,e=>by simp at e
 | _,_,0,_,.cons r _,e=>by simp at e;subst e;exact ⟨_,rfl,r⟩
 | _,_,i + 1,x,.cons _ t,e=>by
  obtain ⟨u,h1,h2⟩:=Vals.get (i:=i) (x:=x) t (by simpa using e)
  exact ⟨u,by simpa using h1,h2⟩
theorem Vals.set {x:V} {u:Value} (r:RelV x u):∀ {xs:List V} {us:List Value} (i:Nat),Vals xs us->Vals (xs.set i x) (us.set i u)
 | _,_,_,.nil=>.nil
 | _,_,0,.cons _ t=>.cons r t
 | _,_,i + 1,.cons q t=>.cons q (Vals.set r i t)
theorem Vals.append:∀ {xs ys:List V} {us ws:List Value},Vals xs us->Vals ys ws->Vals (xs++ys) (us++ws)
 | _,_,_,_,.nil,s=>s
 | _,_,_,_,.cons r t,s=>.cons r (Vals.append t s)
theorem Vals.take:∀ {xs:List V} {us:List Value} (n:Nat),Vals xs us->Vals (xs.take n) (us.take n)
 | _,_,0,_=>.nil
 | _,_,_ + 1,.nil=>.nil
 | _,_,n + 1,.cons r t=>.cons r (Vals.take n t)
theorem Vals.drop:∀ {xs:List V} {us:List Value} (n:Nat),Vals xs us->Vals (xs.drop n) (us.drop n)
 | _,_,0,r=>r
 | _,_,_ + 1,.nil=>.nil
 | _,_,n + 1,.cons _ t=>Vals.drop n t
def RelO:Option V->Option Value->Prop
 | some v,some u=>RelV v u
 | none,none=>True
 | _,_=>False
def KV {κ:Type}:List (κ×V)->List (κ×Value)->Prop:=Paired fun (p:κ×V) (q:κ×Value)=>p.1=q.1/\RelV p.2 q.2
def kV:Key->V
 | .inl i=>.int i
 | .inr x=>.str x
inductive HO where
 | lst (xs:List V)
 | tup (xs:List V)
 | dK (kvs:List (Key×V)) | dT (kvs:List (List Key×V))
 | set (S:Int->Bool) (n:Nat)
 | ins (C dx:Addr) (fs:List (Str×V))
 | own (x:Addr)
 | xd (fs:List (Str×V))
 | met (f x:Addr)
 | rng (lo hi:Int)
 | frz (o:Obj) (u:HO)
 | tbl (ps:Array Value)
 | ext (φ:Heap->Prop)
abbrev Hp:=Addr->Option HO
def upd (H:Hp) (a:Addr) (o:HO):Hp:=fun b=>if b=a then some o else H b
theorem Qm {H:Hp} {a:Addr} {o:HO}:upd H a o a=some o:=by unfold upd;rw [if_pos rfl]
theorem Ql {H:Hp} {a b:Addr} {o:HO} (h:b≠a):upd H a o b=H b:=by unfold upd;rw [if_neg h]
theorem Qbt {H:Hp} {a b:Addr} {o u:HO} (h:H a=some o) (h':H b=some u) (d:o≠u):a≠b:=by
 intro e;subst e;rw [h] at h';exact d (Option.some.inj h')
theorem QQ {H:Hp} {a b:Addr} {o:HO} (h:H a=some o) (h':H b=none):a≠b:=by
 intro e;subst e;rw [h] at h';cases h'
section
variable (P:Program) (w:World)
def ObjOk (H:Hp) (h:Heap) (a:Addr):HO->Prop
 | .lst xs=>xs.length<=sizeLine/\∃ (its:List Value) (n:Nat),Vals xs its/\h.get? a=some { cls:=.type "list",data:=.seq its.toArray n }
 | .tup xs=>xs.length<=sizeLine/\∃ its:List Value,Vals xs its/\IsTup h a its.toArray
 | .dK kvs=>kvs.length<=sizeLine/\(a == sysModules)=false/\∃ vs,KV kvs vs/\h.DictOf (QG P w) a vs
 | .dT kvs=>kvs.length<=sizeLine/\(a == sysModules)=false/\∃ xs:List (List Key×Addr×Value),
   Paired (fun (p:List Key×V) (q:List Key×Addr×Value)=>p.1=q.1/\H q.2.1=some (.tup (p.1.map kV))/\RelV p.2 q.2.2) kvs xs /\
   ∃ o es ep,h.get? a=some o/\o.ExactDict/\o.data=.dict es ep/\es.toList=xs.map (entryOfKey (tupleKind (QG P w)))/\(xs.map (·.1)).Nodup
 | .set S n=>h.SetOf (intKind P w) a S n
 | .ins C dx fs=>H dx=some (.own a)/\fs.length<=1000/\dx≠a/\h.get? a=some (W.instObj C dx) /\
   ∃ mA,h.Ns1 dx mA/\(∀ f,RelO (fs.lookup f) (mA f))/\PySem.Within mA (fs.map (·.1))
 | .own _=>∃ o,h.get? a=some o
 | .xd fs=>∃ mA,h.Ns1 a mA/\∀ f,RelO (fs.lookup f) (mA f)
 | .rng lo hi=>∃ t u v,h.get? a=some { cls:=.type "range",data:=.fields #[.int lo t,.int hi u,.int 1 v] }
 | .frz o u=>h.get? a=some o/\ObjOk H h a u
 | .tbl ps=>h.get? a=some { cls:=.none,data:=.fields ps }
 | .met f x=>h.get? a=some (W.methodObj (.ref f) (.ref x))
 | .ext φ=>φ h/\(∃ o,h.get? a=some o)/\∀ h1 h2:Heap,φ h1->(∀ o,h1.get? a=some o->h2.get? a=some o)->φ h2
def HOk (H:Hp) (h:Heap):Prop:=∀ a o,H a=some o->ObjOk P w H h a o
end
section
variable {P:Program} {w:World} {H H':Hp} {h h':Heap} {a:Addr} {o:HO}
theorem ObjOk.lt (x:ObjOk P w H h a o):a < h.objs.size:=by
 cases o with
 | lst xs=>obtain ⟨_,_,_,_,e⟩:=x;exact Heap.lt_size e
 | tup xs=>obtain ⟨_,_,_,p⟩:=x;exact p.lt
 | dK kvs=>obtain ⟨_,_,_,_,o,_,_,e,_⟩:=x;exact Heap.lt_size e
 | dT kvs=>obtain ⟨_,_,_,_,o,_,_,e,_⟩:=x;exact Heap.lt_size e
 | set S n=>obtain ⟨o,_,_,_,e,_⟩:=x;exact Heap.lt_size e
 | ins C dx fs=>obtain ⟨_,_,_,e,_⟩:=x;exact Heap.lt_size e
 | own y=>obtain ⟨_,e⟩:=x;exact Heap.lt_size e
 | xd fs=>obtain ⟨_,⟨_,_,_,e,_⟩,_⟩:=x;exact Heap.lt_size e
 | rng lo hi=>obtain ⟨_,_,_,e⟩:=x;exact Heap.lt_size e
 | frz ob u=>obtain ⟨e,_⟩:=x;exact Heap.lt_size e
 | tbl ps=>exact Heap.lt_size (show h.get? a=some _ from x)
 | met f y=>exact Heap.lt_size (show h.get? a=some _ from x)
 | ext φ=>obtain ⟨_,⟨_,e⟩,_⟩:=x;exact Heap.lt_size e
theorem Paired.mapP {α β:Type} {F G:α->β->Prop}:∀ {l₁:List α} {l₂:List β},Paired F l₁ l₂->(∀ a b,F a b->G a b)->Paired G l₁ l₂
 | _,_,.nil,_=>.nil
 | _,_,.cons r t,f=>.cons (f _ _ r) (Paired.mapP t f)
theorem ObjOk.stay (x:ObjOk P w H h a o) (k:∀ b u,(b=a\/H b=some (.own a))->h.get? b=some u->h'.get? b=some u)
  (ho:∀ b,H b=some (.own a)->H' b=some (.own a)) (ht:∀ b xs,H b=some (.tup xs)->H' b=some (.tup xs)):ObjOk P w H' h' a o:=by
 induction o with
 | lst xs=>obtain ⟨z,its,n,r,e⟩:=x;exact ⟨z,its,n,r,k _ _ (.inl rfl) e⟩
 | tup xs=>obtain ⟨z,its,r,ob,e,c⟩:=x;exact ⟨z,its,r,ob,k _ _ (.inl rfl) e,c⟩
 | dK kvs=>obtain ⟨z,y,vs,r,ob,es,ep,e,c⟩:=x;exact ⟨z,y,vs,r,ob,es,ep,k _ _ (.inl rfl) e,c⟩
 | dT kvs =>
  obtain ⟨z,y,xs,r,ob,es,ep,e,c⟩:=x
  exact ⟨z,y,xs,Paired.mapP r fun p q z=>⟨z.1,ht _ _ z.2.1,z.2.2⟩,ob,es,ep,k _ _ (.inl rfl) e,c⟩
 | set S n=>obtain ⟨ob,es,ep,t,e,c⟩:=x;exact ⟨ob,es,ep,t,k _ _ (.inl rfl) e,c⟩
 | ins C dx fs =>
  obtain ⟨d,z,ne,e,mA,⟨od,es,ep,e2,c⟩,r⟩:=x
  exact ⟨ho _ d,z,ne,k _ _ (.inl rfl) e,mA,⟨od,es,ep,k _ _ (.inr d) e2,c⟩,r⟩
 | own y=>obtain ⟨ob,e⟩:=x;exact ⟨ob,k _ _ (.inl rfl) e⟩
 | xd fs=>obtain ⟨mA,⟨od,es,ep,e,c⟩,r⟩:=x;exact ⟨mA,⟨od,es,ep,k _ _ (.inl rfl) e,c⟩,r⟩
 | rng lo hi=>obtain ⟨t,u,v,e⟩:=x;exact ⟨t,u,v,k _ _ (.inl rfl) e⟩
 | frz ob u ih=>obtain ⟨e,q⟩:=x;exact ⟨k _ _ (.inl rfl) e,ih q⟩
 | tbl ps =>
  have e:h.get? a=some { cls:=.none,data:=.fields ps }:=x
  show h'.get? a=some { cls:=.none,data:=.fields ps }
  exact k a _ (.inl rfl) e
 | met f y =>
  have e:h.get? a=some (W.methodObj (.ref f) (.ref y)):=x
  show h'.get? a=some (W.methodObj (.ref f) (.ref y))
  exact k a _ (.inl rfl) e
 | ext φ=>obtain ⟨p,⟨o,e⟩,st⟩:=x;exact ⟨st _ _ p fun o q=>k _ _ (.inl rfl) q,⟨o,k _ _ (.inl rfl) e⟩,st⟩
theorem HOk.lt (x:HOk P w H h) (e:H a=some o):a < h.objs.size:=(x a o e).lt
theorem HOk.fresh (x:HOk P w H h) (e:h.objs.size<=a):H a=none:=by
 cases q:H a with
 | none=>rfl
 | some u=>exact absurd (Nat.lt_of_lt_of_le (x.lt q) e) (Nat.lt_irrefl _)
theorem HOk.kept (x:HOk P w H h) (k:∀ b u,h.get? b=some u->h'.get? b=some u):HOk P w H h':=fun a o e =>
 (x a o e).stay (fun b u _ q=>k b u q) (fun _ q=>q) fun _ _ q=>q
theorem HOk.laid (x:HOk P w H h) (k:∀ b u,h.get? b=some u->h'.get? b=some u) (hp:h.objs.size<=a) (new:ObjOk P w (upd H a o) h' a o):HOk P w (upd H a o) h':=fun b u e=>by
 have hn:=x.fresh hp
 by_cases hb:b=a
 ·subst hb;rw [Qm] at e;cases e;exact new
 ·rw [Ql hb] at e
  exact (x b u e).stay (fun c v _ q=>k c v q) (fun c q=>by rw [Ql (QQ q hn)];exact q) fun c xs q=>by rw [Ql (QQ q hn)];exact q
end
def Rd (H:Hp) (a:Addr) (u:HO):Prop:=H a=some u\/∃ o,H a=some (.frz o u)
theorem Rd.ok {P:Program} {w:World} {H:Hp} {h:Heap} {a:Addr} {u:HO} (r:Rd H a u) (x:HOk P w H h):ObjOk P w H h a u:=by
 rcases r with r | ⟨o,r⟩
 ·exact x a u r
 ·obtain ⟨_,q⟩:=x a _ r
  exact q
def Mut:Option HO->Prop
 | some (.lst _)=>True
 | some (.dK _)=>True
 | some (.dT _)=>True
 | some (.set _ _)=>True
 | some (.ins _ _ _)=>True
 | some (.ext _)=>True
 | _=>False
section
variable {P:Program} {w:World} {H:Hp} {h h':Heap} {x e:Addr} {o':HO}
theorem HOk.write (ok:HOk P w H h) (mu:Mut (H x)) (he:e=x\/H e=some (.own x)) (k:∀ b u,b≠e->h.get? b=some u->h'.get? b=some u) (heo:∃ u,h'.get? e=some u)
  (new:ObjOk P w (upd H x o') h' x o'):HOk P w (upd H x o') h':=fun b u q=>by
 have nown:∀ c y,H c=some (.own y)->c≠x:=fun c y r z=>by subst z;rw [r] at mu;exact mu
 have ntup:∀ c xs,H c=some (.tup xs)->c≠x:=fun c xs r z=>by subst z;rw [r] at mu;exact mu
 by_cases hb:b=x
 ·subst hb;rw [Qm] at q;cases q;exact new
 ·rw [Ql hb] at q
  by_cases hbe:b=e
  ·have q':H b=some (.own x):=by
    rcases he with z | z
    ·exact absurd (hbe.trans z) hb
    ·rw [hbe];exact z
   rw [q] at q';cases q'
   obtain ⟨v,hv⟩:=heo
   exact ⟨v,by rw [hbe];exact hv⟩
  ·refine (ok b u q).stay (fun c v hc r=>k c v ?_ r) (fun c r=>by rw [Ql (nown c b r)];exact r) fun c xs r=>by rw [Ql (ntup c xs r)];exact r
   rcases hc with rfl | hc
   ·exact hbe
   ·rintro rfl
    rcases he with z | z
    ·exact nown c b hc z
    ·rw [hc] at z;cases z;exact hb rfl
end
structure Un (fs ex:List Addr) (H H':Hp) (h h':Heap):Prop where
 keep:∀ b o,h.get? b=some o->H b=none->b ∉ fs->b ∉ ex->h'.get? b=some o
 slot:∀ b o,h.get? b=some o->H b=none->b∈fs->b ∉ ex->∃ sl,h'.get? b=some { o with slots:=sl }
 free:∀ b o,h.get? b=some o->H b=none->b ∉ ex->H' b=none
 there:∀ b o,h.get? b=some o->b ∉ ex->∃ o',h'.get? b=some o'
 tups:∀ b xs,H b=some (.tup xs)->H' b=some (.tup xs)
 frzs:∀ b o u,H b=some (.frz o u)->H' b=some (.frz o u)
 tbls:∀ b ps,H b=some (.tbl ps)->∃ more,H' b=some (.tbl (ps++more))
section
variable {fs fs' ex ex':List Addr} {H H1 H2:Hp} {h h1 h2 h':Heap} {a x e:Addr} {o:HO}
theorem Un.any (u:Un fs ex H H1 h h1) {b:Addr} {ob:Obj} (q:h.get? b=some ob) (n:H b=none) (hx:b ∉ ex):∃ sl,h1.get? b=some { ob with slots:=sl }:=by
 by_cases hb:b∈fs
 ·exact u.slot b ob q n hb hx
 ·exact ⟨ob.slots,u.keep b ob q n hb hx⟩
theorem Un.trans (a:Un fs ex H H1 h h1) (b:Un fs ex H1 H2 h1 h2):Un fs ex H H2 h h2 where
 keep:=fun c ob q n hc hx=>b.keep c ob (a.keep c ob q n hc hx) (a.free c ob q n hx) hc hx
 slot:=fun c ob q n hc hx=>by
  obtain ⟨sl,e1⟩:=a.slot c ob q n hc hx
  obtain ⟨sl',e2⟩:=b.slot c _ e1 (a.free c ob q n hx) hc hx
  exact ⟨sl',e2⟩
 free:=fun c ob q n hx=>by
  obtain ⟨o',e1⟩:=a.there c ob q hx
  exact b.free c o' e1 (a.free c ob q n hx) hx
 there:=fun c ob q hx=>by
  obtain ⟨o',e1⟩:=a.there c ob q hx
  exact b.there c o' e1 hx
 tups:=fun c xs q=>b.tups c xs (a.tups c xs q)
 frzs:=fun c ob xs q=>b.frzs c ob xs (a.frzs c ob xs q)
 tbls:=fun c ps q=>by
  obtain ⟨m1,e1⟩:=a.tbls c ps q
  obtain ⟨m2,e2⟩:=b.tbls c _ e1
  exact ⟨m1++m2,by rw [e2,Array.append_assoc]⟩
theorem Un.kept (k:∀ b u,h.get? b=some u->h'.get? b=some u):Un fs ex H H h h' :=
 ⟨fun b ob q _ _ _=>k b ob q,fun b ob q _ _ _=>⟨ob.slots,k b ob q⟩,fun _ _ _ n _=>n,fun b ob q _=>⟨ob,k b ob q⟩,fun _ _ q=>q,fun _ _ _ q=>q,fun _ ps q=>⟨#[],by rw [q];simp⟩⟩
theorem Un.refl:Un fs ex H H h h:=Un.kept fun _ _ q=>q
theorem Un.laid (k:∀ b u,h.get? b=some u->h'.get? b=some u) (hp:h.objs.size<=a) (hn:H a=none):Un fs ex H (upd H a o) h h' where
 keep:=fun b u q _ _ _=>k b u q
 slot:=fun b u q _ _ _=>⟨u.slots,k b u q⟩
 free:=fun b u q n _=>by rw [Ql (Nat.ne_of_lt (Nat.lt_of_lt_of_le (Heap.lt_size q) hp))];exact n
 there:=fun b u q _=>⟨u,k b u q⟩
 tups:=fun b xs q=>by rw [Ql (QQ q hn)];exact q
 frzs:=fun b u xs q=>by rw [Ql (QQ q hn)];exact q
 tbls:=fun b ps q=>⟨#[],by rw [Ql (QQ q hn),q];simp⟩
theorem Un.write (mu:Mut (H x)) (he:e=x\/H e=some (.own x)) (k:∀ b u,b≠e->h.get? b=some u->h'.get? b=some u) (heo:∃ u,h'.get? e=some u):Un fs ex H (upd H x o) h h':=by
 have hx:∀ b,H b=none->b≠x:=fun b n z=>by subst z;rw [n] at mu;exact mu
 have hb:∀ b,H b=none->b≠e:=fun b n z=>by
  subst z
  rcases he with r | r
  ·exact hx b n r
  ·rw [n] at r;cases r
 have hm:∀ b u,H b=some u->¬ Mut (some u)->b≠x:=fun b u q nm z=>by subst z;rw [q] at mu;exact nm mu
 refine ⟨fun b u q n _ _=>k b u (hb b n) q,fun b u q n _ _=>⟨u.slots,k b u (hb b n) q⟩,fun b u q n _=>by rw [Ql (hx b n)];exact n,fun b u q _=>?_,
  fun b xs q=>by rw [Ql (hm b _ q fun z=>z)];exact q,fun b u xs q=>by rw [Ql (hm b _ q fun z=>z)];exact q,fun b ps q=>⟨#[],by rw [Ql (hm b _ q fun z=>z),q];simp⟩⟩
 by_cases hbe:b=e
 ·subst hbe;exact heo
 ·exact ⟨u,k b u hbe q⟩
theorem Un.mono (u:Un fs ex H H1 h h1) (hs:∀ b∈fs,b∈fs') (hx:∀ b∈ex,b∈ex'):Un fs' ex' H H1 h h1 :=
 ⟨fun b ob q n hb he=>u.keep b ob q n (fun z=>hb (hs b z)) fun z=>he (hx b z),fun _ _ q n _ he=>u.any q n fun z=>he (hx _ z),fun b ob q n he=>u.free b ob q n fun z=>he (hx b z),fun b ob q he=>u.there b ob q fun z=>he (hx b z),u.tups,u.frzs,u.tbls⟩
end
def trk (h:Heap) (H:Hp):List Addr:=(List.range h.objs.size).filter fun a=>(H a).isSome
def hidT (h:Heap) (H:Hp):Heap:=W.hideAll h (trk h H)
theorem QkU (h:Heap) (H:Hp):(hidT h H).objs.size=h.objs.size:=W.hideAll_size _ _
theorem Ql5 {h:Heap} {H:Hp} {b:Addr} {o:Obj} (e:h.get? b=some o) (n:H b=none):(hidT h H).get? b=some o :=
 W.hideAll_get _ e fun hm=>by
  have q:(H b).isSome=true:=(List.mem_filter.mp hm).2
  rw [n] at q;simp at q
theorem Qoe {h:Heap} {H:Hp} {b:Addr} {o:Obj} (e:(hidT h H).get? b=some o):h.get? b=some o/\H b=none:=by
 have e':h.get? b=some o:=W.of_hideAll (trk h H) e
 refine ⟨e',?_⟩
 cases q:H b with
 | none=>rfl
 | some x =>
  have hm:b∈trk h H:=List.mem_filter.mpr ⟨List.mem_range.mpr (Heap.lt_size e'),by simp [q]⟩
  have z:(hidT h H).get? b=none:=W.hideAll_none (trk h H) hm
  rw [z] at e;cases e
def Qnt (g h:Heap) (L:Addr):List (Addr×Obj):=(List.range h.objs.size).filterMap fun a=>if a=L\/(g.get? a).isSome=true then none else (h.get? a).map fun o=>(a,o)
def rest (g h:Heap) (L d:Addr):List (Addr×Obj):=(Qnt g h L).filter fun p=>decide (p.1≠d)
end L2
namespace L2
open PySem PySem.Spec PyProof.Rows
structure Mod (K:W.Frag) (mg:Str->Option Value) (base:Heap):Prop where
 kin:K.In base
 glob:base.Ns mainGlobals mg
 blt:∃ mb,base.Ns builtinsNs mb/\∀ x:Str,x≠"__name__"->mb x=bootBuiltins x
 nolimit:base.NoLimit
structure Cx where
 prog:Program
 w:World
 K:W.Frag
 mg:Str->Option Value
 base:Heap
 A:Around
 N:List Str
 s₀:Shared
 H₀:Hp
 env:Env
 outer:List Env
 stack:List Env
 ex:List Addr
 fn:Str->Bool
 calm:Bool
 pn:List (Addr×Obj)
 xe:Value->Shared->Prop
def frs (l:List Env):List Addr:=l.filterMap (·.frame)
abbrev Cx.fs (X:Cx):List Addr:=frs X.outer
def Vis (sc:Scope) (x:Str):Prop:=sc.names.lookup x=some .local\/sc.names.lookup x=some .cell\/sc.names.lookup x=some .free
def Loc (sc:Scope) (x:Str):Prop:=sc.names.lookup x=some .local\/sc.names.lookup x=some .cell
def Look (env:Env) (h:Heap) (m:Str->Option Value) (x:Str) (u:Value):Prop :=
 (env.kindOf x=some .local/\m x=some u)\/((env.kindOf x=some .cell\/env.kindOf x=some .free)/\∃ c,env.cells.lookup x=some c/\h.IsCell c (some u))
structure Cx.Ok (X:Cx):Prop where
 mod:Mod X.K X.mg X.base
 kind:X.env.scope.kind=.function
 glob:X.env.globals=mainGlobals
 blt:X.env.builtins=builtinsNs
 above:X.s₀.heap.objs.size<=X.env.locals
 inj:∀ x y c,X.env.cells.lookup x=some c->X.env.cells.lookup y=some c->x=y
 has:∀ x,(X.env.kindOf x=some .cell\/X.env.kindOf x=some .free)->∃ c,X.env.cells.lookup x=some c
 cab:∀ x c,X.fn x=true->X.env.cells.lookup x=some c->X.s₀.heap.objs.size<=c
 hd:X.calm=true->X.A.handled=none
 frames:X.A.frames=some X.stack
 stk:X.stack=X.outer\/(X.stack=X.env::X.outer/\X.env.frame=some X.env.locals)
 exf:∀ b∈X.ex,b≠X.env.locals/\∀ x c,X.env.cells.lookup x=some c->c≠b
 bs:∀ b o,X.base.get? b=some o->X.s₀.heap.get? b=some o/\X.H₀ b=none
 bsz:X.base.objs.size<=X.s₀.heap.objs.size
 noex:∀ b o,X.base.get? b=some o->b ∉ X.ex
 exfs:∀ b∈X.ex,b ∉ X.fs
 funs:X.s₀.heap.FunFrames X.base X.outer
 frf:∀ b∈X.fs,X.H₀ b=none
structure Inv (X:Cx) (pins:List (Addr×Obj)) (σ:List (Option V)) (H:Hp) (s:Shared):Prop where
 ok:X.Ok
 os:s.os=X.s₀.os
 bare:AllBare s.gens
 base:Un X.fs X.ex X.H₀ H X.s₀.heap s.heap
 loc:∃ m,s.heap.Ns X.env.locals m/\∀ (i:Nat) (x:Str) (v:V),X.N[i]? = some x->σ[i]? = some (some v)->Vis X.env.scope x->∃ u,RelV v u/\Look X.env s.heap m x u
 cell:∀ x c,X.env.cells.lookup x=some c->∃ v,s.heap.IsCell c v
 free:H X.env.locals=none
 freeC:∀ x c,X.env.cells.lookup x=some c->H c=none
 pin:∀ p∈X.pn++pins,s.heap.get? p.1=some p.2/\H p.1=none/\p.1≠X.env.locals/\p.1 ∉ X.fs/\∀ v,p.2.data≠.cell v
 hok:HOk X.prog X.w H s.heap
 len:σ.length=X.N.length
section
variable {X:Cx} {pins:List (Addr×Obj)} {σ:List (Option V)} {H H':Hp} {s:Shared} {h':Heap}
theorem Cx.Ok.nofr (ok:X.Ok) {b:Addr} {o:Obj} (e:X.base.get? b=some o):b ∉ X.fs:=fun hb=>by
 have:=(ok.funs.mem hb).1
 rw [e] at this;cases this
theorem Inv.bs (I:Inv X pins σ H s):∀ b o,X.base.get? b=some o->s.heap.get? b=some o/\H b=none:=fun b o e =>
 ⟨I.base.keep b o (I.ok.bs b o e).1 (I.ok.bs b o e).2 (I.ok.nofr e) (I.ok.noex b o e),I.base.free b o (I.ok.bs b o e).1 (I.ok.bs b o e).2 (I.ok.noex b o e)⟩
theorem Inv.bk (I:Inv X pins σ H s):∀ b o,X.base.get? b=some o->s.heap.get? b=some o:=fun b o e=>(I.bs b o e).1
theorem Inv.mod (I:Inv X pins σ H s):Mod X.K X.mg X.base:=I.ok.mod
theorem Inv.kIn (I:Inv X pins σ H s):X.K.In s.heap:=I.ok.mod.kin.keeps I.bk
theorem Inv.lt (I:Inv X pins σ H s):X.env.locals < s.heap.objs.size:=let ⟨_,hn,_⟩:=I.loc;hn.lt
theorem Inv.sz (I:Inv X pins σ H s):X.s₀.heap.objs.size<=s.heap.objs.size:=Nat.le_trans I.ok.above (Nat.le_of_lt I.lt)
theorem Inv.nofs (I:Inv X pins σ H s) {a:Addr} (h:s.heap.objs.size<=a):a ∉ X.fs:=fun hb=>by
 obtain ⟨_,o,ho,_⟩:=I.ok.funs.mem hb
 exact absurd (Nat.lt_of_lt_of_le (Heap.lt_size ho) (Nat.le_trans I.sz h)) (Nat.lt_irrefl _)
theorem Inv.cne (I:Inv X pins σ H s):∀ x c,X.env.cells.lookup x=some c->c≠X.env.locals:=fun x c e z=>by
 obtain ⟨v,o,ho,hd⟩:=I.cell x c e
 obtain ⟨m,⟨o',es,ep,ho',hd',_⟩,_⟩:=I.loc
 rw [z,ho'] at ho;cases ho;rw [hd'] at hd;cases hd
theorem Inv.funs (I:Inv X pins σ H s):s.heap.FunFrames X.base X.outer:=by
 have all:∀ (l:List Env),(∀ b∈frs l,b∈X.fs)->X.s₀.heap.FunFrames X.base l->s.heap.FunFrames X.base l:=by
  intro l
  induction l with
  | nil=>intro _ _;trivial
  | cons env r ih =>
   intro hs hl
   obtain ⟨hk,⟨L,o,hf,hn,ho,hd⟩,hr⟩:=hl
   have hL:L∈X.fs:=hs L (by unfold frs;rw [List.filterMap_cons,hf];exact List.mem_cons_self)
   obtain ⟨sl,e⟩:=I.base.slot L o ho (I.ok.frf L hL) hL fun z=>I.ok.exfs L z hL
   exact ⟨hk,⟨L,_,hf,hn,e,hd⟩,ih (fun b hb=>hs b (by unfold frs;rw [List.filterMap_cons,hf];exact List.mem_cons_of_mem _ hb)) hr⟩
 exact all X.outer (fun _ hb=>hb) I.ok.funs
theorem Inv.stack (I:Inv X pins σ H s):s.heap.FunFrames X.base X.stack:=by
 rcases I.ok.stk with e | ⟨e,hf⟩
 ·rw [e];exact I.funs
 ·rw [e]
  obtain ⟨m,hn,_⟩:=I.loc
  refine .cons (by rw [I.ok.kind];decide) hf hn ?_ I.funs
  exact Heap.get?_none_of_le (Nat.le_trans I.ok.bsz I.ok.above)
theorem Inv.stkSub (I:Inv X pins σ H s):∀ b∈frs X.stack,b∈X.env.locals::X.fs:=fun b hb=>by
 rcases I.ok.stk with e | ⟨e,hf⟩
 ·rw [e] at hb;exact List.mem_cons_of_mem _ hb
 ·rw [e] at hb
  unfold frs at hb
  rw [List.filterMap_cons,hf] at hb
  exact hb
theorem Inv.stkFree (I:Inv X pins σ H s):∀ b∈frs X.stack,H b=none:=fun b hb=>by
 rcases List.mem_cons.mp (I.stkSub b hb) with e | hb
 ·rw [e];exact I.free
 ·obtain ⟨_,o,ho,_⟩:=I.ok.funs.mem hb
  exact I.base.free b o ho (I.ok.frf b hb) fun z=>I.ok.exfs b z hb
theorem Inv.step {g':Array GenState} {t':Nat} {d':Drawn} {ch:List Addr} (I:Inv X pins σ H s)
  (hch:∀ b∈ch,(b∈X.ex\/X.s₀.heap.objs.size<=b)/\b≠X.env.locals/\(∀ x c,X.env.cells.lookup x=some c->c≠b)/\∀ p∈X.pn++pins,p.1≠b)
  (keep:∀ b o,b≠X.env.locals->b ∉ X.fs->b ∉ ch->s.heap.get? b=some o->H b=none->h'.get? b=some o)
  (slot:∀ b o,b≠X.env.locals->b∈X.fs->b ∉ ch->s.heap.get? b=some o->H b=none->∃ sl,h'.get? b=some { o with slots:=sl }) (free:∀ b o,b ∉ ch->s.heap.get? b=some o->H b=none->H' b=none)
  (there:∀ b o,b ∉ ch->s.heap.get? b=some o->∃ o',h'.get? b=some o')
  (tups:∀ b xs,H b=some (.tup xs)->H' b=some (.tup xs)) (frzs:∀ b o u,H b=some (.frz o u)->H' b=some (.frz o u)) (tbls:∀ b ps,H b=some (.tbl ps)->∃ more,H' b=some (.tbl (ps++more)))
  (ns:∀ m,s.heap.Ns X.env.locals m->h'.Ns X.env.locals m) (hok:HOk X.prog X.w H' h') (hg:AllBare g') :
  Inv X pins σ H' { s with heap:=h',gens:=g',drawn:=d',toks:=t' }:=by
 have neL:∀ b o,X.s₀.heap.get? b=some o->b≠X.env.locals:=fun b o e=>Nat.ne_of_lt (Nat.lt_of_lt_of_le (Heap.lt_size e) I.ok.above)
 have neC:∀ b o,X.s₀.heap.get? b=some o->b ∉ X.ex->b ∉ ch:=fun b o e hx hb=>by
  rcases (hch b hb).1 with z | z
  ·exact hx z
  ·exact absurd (Nat.lt_of_lt_of_le (Heap.lt_size e) z) (Nat.lt_irrefl _)
 have cellK:∀ x c,X.env.cells.lookup x=some c->∀ v,s.heap.IsCell c v->h'.IsCell c v:=fun x c e v ⟨o,ho,hd⟩=>by
  have nch:c ∉ ch:=fun z=>(hch c z).2.2.1 x c e rfl
  by_cases hc:c∈X.fs
  ·obtain ⟨sl,q⟩:=slot c o (I.cne x c e) hc nch ho (I.freeC x c e)
   exact ⟨_,q,hd⟩
  ·exact ⟨o,keep c o (I.cne x c e) hc nch ho (I.freeC x c e),hd⟩
 refine ⟨I.ok,I.os,hg,⟨fun b o e n hb hx=>?_,fun b o e n hb hx=>?_,fun b o e n hx=>?_,fun b o e hx=>?_,fun b xs e=>tups b xs (I.base.tups b xs e),fun b o xs e=>frzs b o xs (I.base.frzs b o xs e),fun b ps e=>?_⟩,?_,fun x c e=>?_,?_,fun x c e=>?_,fun p hp=>?_,hok,I.len⟩
 ·exact keep b o (neL b o e) hb (neC b o e hx) (I.base.keep b o e n hb hx) (I.base.free b o e n hx)
 ·obtain ⟨sl,e1⟩:=I.base.slot b o e n hb hx
  obtain ⟨sl',e2⟩:=slot b _ (neL b o e) hb (neC b o e hx) e1 (I.base.free b o e n hx)
  exact ⟨sl',e2⟩
 ·obtain ⟨o',e1⟩:=I.base.there b o e hx
  exact free b o' (neC b o e hx) e1 (I.base.free b o e n hx)
 ·obtain ⟨o',e1⟩:=I.base.there b o e hx
  exact there b o' (neC b o e hx) e1
 ·obtain ⟨m1,e1⟩:=I.base.tbls b ps e
  obtain ⟨m2,e2⟩:=tbls b _ e1
  exact ⟨m1++m2,by rw [e2,Array.append_assoc]⟩
 ·obtain ⟨m,hn,hl⟩:=I.loc
  refine ⟨m,ns m hn,fun i x v e1 e2 e3=>?_⟩
  obtain ⟨u,r,l⟩:=hl i x v e1 e2 e3
  refine ⟨u,r,?_⟩
  rcases l with l | ⟨k,c,e,z⟩
  ·exact .inl l
  ·exact .inr ⟨k,c,e,cellK x c e _ z⟩
 ·obtain ⟨v,z⟩:=I.cell x c e
  exact ⟨v,cellK x c e v z⟩
 ·obtain ⟨m,⟨o,_,_,ho,_⟩,_⟩:=I.loc
  exact free _ o (fun z=>(hch _ z).2.1 rfl) ho I.free
 ·obtain ⟨v,o,ho,hd⟩:=I.cell x c e
  exact free c o (fun z=>(hch c z).2.2.1 x c e rfl) ho (I.freeC x c e)
 ·obtain ⟨e,n,ne,nf,d⟩:=I.pin p hp
  have nch:p.1 ∉ ch:=fun z=>(hch p.1 z).2.2.2 p hp rfl
  exact ⟨keep p.1 p.2 ne nf nch e n,free p.1 p.2 nch e n,ne,nf,d⟩
theorem Inv.un {t':Nat} (I:Inv X pins σ H s) (u:Un X.fs [] H H' s.heap h') (hok:HOk X.prog X.w H' h'):Inv X pins σ H' { s with heap:=h',toks:=t' }:=by
 obtain ⟨m,⟨o,es,ep,ho,r⟩,_⟩:=id I.loc
 obtain ⟨sl,hL⟩:=u.any ho I.free (by simp)
 exact I.step (g':=s.gens) (d':=s.drawn) (ch:=[]) (fun _ z=>nomatch z) (fun b o _ hb _ e n=>u.keep b o e n hb (by simp)) (fun b o _ hb _ e n=>u.slot b o e n hb (by simp)) (fun b o _ e n=>u.free b o e n (by simp)) (fun b o _ e=>u.there b o e (by simp)) u.tups u.frzs u.tbls (fun m' hm=>by
  obtain ⟨o',es',ep',ho',r'⟩:=hm
  rw [ho] at ho';cases ho'
  exact ⟨_,es',ep',hL,r'⟩) hok I.bare
theorem Inv.call {g':Array GenState} {t':Nat} {d':Drawn} {ch:List Addr} (I:Inv X pins σ H s) (u:Un (frs X.stack) ch H H' s.heap h') (hok:HOk X.prog X.w H' h') (hg:AllBare g')
  (hch:∀ b∈ch,(b∈X.ex\/X.s₀.heap.objs.size<=b)/\b≠X.env.locals/\(∀ x c,X.env.cells.lookup x=some c->c≠b)/\∀ p∈X.pn++pins,p.1≠b) :
  Inv X pins σ H' { s with heap:=h',gens:=g',drawn:=d',toks:=t' }:=by
 obtain ⟨m,⟨o,es,ep,ho,r⟩,_⟩:=id I.loc
 obtain ⟨sl,hL⟩:=u.any ho I.free fun z=>(hch _ z).2.1 rfl
 exact I.step (ch:=ch) hch (fun b o hL hb hc e n=>u.keep b o e n (fun z=>(List.mem_cons.mp (I.stkSub b z)).elim hL hb) hc) (fun b o _ _ hc e n=>u.any e n hc) (fun b o hc e n=>u.free b o e n hc) (fun b o hc e=>u.there b o e hc) u.tups u.frzs u.tbls (fun m' hm=>by
  obtain ⟨o',es',ep',ho',r'⟩:=hm
  rw [ho] at ho';cases ho'
  exact ⟨_,es',ep',hL,r'⟩) hok hg
theorem Inv.turned {t':Nat} {it:Addr} (I:Inv X pins σ H s) (k:∀ b o,b≠it->s.heap.get? b=some o->h'.get? b=some o) (hn:H it=none) (hL:it≠X.env.locals)
  (h1:it∈X.ex\/X.s₀.heap.objs.size<=it) (h2:∀ x c,X.env.cells.lookup x=some c->c≠it) (h3:∀ p∈X.pn++pins,p.1≠it):Inv X pins σ H { s with heap:=h',toks:=t' }:=by
 have nit:∀ b u,H b=some u->b≠it:=fun b u e z=>by rw [z,hn] at e;cases e
 refine I.step (g':=s.gens) (d':=s.drawn) (ch:=[it]) (fun b hb=>?_) (fun b o _ _ hc e _=>k b o (fun z=>hc (by simp [z])) e) (fun b o _ _ hc e _=>⟨o.slots,k b o (fun z=>hc (by simp [z])) e⟩) (fun _ _ _ _ n=>n)
  (fun b o hc e=>⟨o,k b o (fun z=>hc (by simp [z])) e⟩) (fun _ _ e=>e) (fun _ _ _ e=>e) (fun b ps e=>⟨#[],by rw [e];simp⟩) (fun m hm=>?_) (fun b u e=>?_) I.bare
 ·have e:b=it:=by simpa using hb
  subst e
  exact ⟨h1,hL,h2,h3⟩
 ·obtain ⟨o,es,ep,ho,r⟩:=hm
  exact ⟨o,es,ep,k _ o (Ne.symm hL) ho,r⟩
 ·refine (I.hok b u e).stay (fun c v hc q=>k c v ?_ q) (fun _ q=>q) fun _ _ q=>q
  rcases hc with z | z
  ·rw [z];exact nit b u e
  ·exact nit c _ z
theorem Inv.tok (I:Inv X pins σ H s) (t:Nat):Inv X pins σ H { s with toks:=t }:=I.un (h':=s.heap) (t':=t) Un.refl I.hok
theorem Inv.kept {t':Nat} (I:Inv X pins σ H s) (k:∀ b u,s.heap.get? b=some u->h'.get? b=some u):Inv X pins σ H { s with heap:=h',toks:=t' }:=I.un (Un.kept k) (I.hok.kept k)
theorem Inv.laid {a:Addr} {o:HO} {t':Nat} (I:Inv X pins σ H s) (k:∀ b u,s.heap.get? b=some u->h'.get? b=some u) (hp:s.heap.objs.size<=a) (new:ObjOk X.prog X.w (upd H a o) h' a o) :
  Inv X pins σ (upd H a o) { s with heap:=h',toks:=t' }:=I.un (Un.laid k hp (I.hok.fresh hp)) (I.hok.laid k hp new)
theorem Inv.write {x e:Addr} {o:HO} {t':Nat} (I:Inv X pins σ H s) (mu:Mut (H x)) (he:e=x\/H e=some (.own x)) (k:∀ b u,b≠e->s.heap.get? b=some u->h'.get? b=some u) (heo:∃ u,h'.get? e=some u)
  (new:ObjOk X.prog X.w (upd H x o) h' x o):Inv X pins σ (upd H x o) { s with heap:=h',toks:=t' }:=I.un (Un.write mu he k heo) (I.hok.write mu he k heo new)
theorem Inv.pins_of {pins':List (Addr×Obj)} (I:Inv X pins σ H s) (h:∀ p∈pins',s.heap.get? p.1=some p.2/\H p.1=none/\p.1≠X.env.locals/\p.1 ∉ X.fs/\∀ v,p.2.data≠.cell v):Inv X pins' σ H s :=
 ⟨I.ok,I.os,I.bare,I.base,I.loc,I.cell,I.free,I.freeC,fun p hp=>(List.mem_append.mp hp).elim (fun z=>I.pin p (List.mem_append_left _ z)) (h p),I.hok,I.len⟩
theorem QiB {N:List Str} (hN:N.Nodup) {i j:Nat} {x:Str} (a:N[i]? = some x) (b:N[j]? = some x):i=j:=by
 obtain ⟨h1,e1⟩:=List.getElem?_eq_some_iff.mp a
 obtain ⟨h2,e2⟩:=List.getElem?_eq_some_iff.mp b
 exact (List.getElem_inj hN).mp (e1.trans e2.symm)
theorem Qk4 {M:Model} {A:Around} {E:Value->Shared->Prop} {i:Nat} {x:Str} {v:V} {u:Value} {Q:Unit->Shared->Prop} (I:Inv X pins σ H s) (hN:X.N.Nodup) (hi:X.N[i]? = some x) (hx:Loc X.env.scope x) (r:RelV v u)
  (h:∀ s',Inv X pins (σ.set i (some v)) H s'->(∃ a,Heap.SameBut a s.heap s'.heap/\(a=X.env.locals\/X.env.cells.lookup x=some a))->Q () s') (hf:X.fn x=true\/X.env.scope.names.lookup x=some .local:=by first | exact .inl rfl | exact .inr rfl | assumption):wpAny M A (storeName X.env x u) Q E s:=by
 obtain ⟨m,hn,hl⟩:=id I.loc
 have hcls:(X.env.scope.kind == .class || (X.env.scope.kind == .module && X.env.locals != X.env.globals))=false:=by rw [I.ok.kind];rfl
 have hiσ:i < σ.length:=by rw [I.len];exact (List.getElem?_eq_some_iff.mp hi).1
 have cne:=I.cne
 have tracked:∀ {a:Addr} {h':Heap},(∃ o,s.heap.get? a=some o/\H a=none)->Heap.SameBut a s.heap h'->HOk X.prog X.w H h':=fun {a h'} ha hs b ob e=>by
  obtain ⟨_,_,hfree⟩:=ha
  refine (I.hok b ob e).stay (fun c w' hc q=>(hs.2 c ?_).trans q) (fun _ q=>q) fun _ _ q=>q
  rintro rfl
  rcases hc with rfl | hc
  ·rw [hfree] at e;cases e
  ·rw [hfree] at hc;cases hc
 rcases hx with hk | hk
 ·refine wpAny_storeName_local hk hn (fun h' hn' hs=>?_) hcls
  obtain ⟨oL,_,_,hoL,_⟩:=id hn
  refine h _ ⟨I.ok,I.os,I.bare,⟨fun b o e n hb hx=>?_,fun b o e n hb hx=>?_,I.base.free,fun b o e hx=>?_,I.base.tups,I.base.frzs,I.base.tbls⟩,⟨_,hn',fun j y v' e1 e2 e3=>?_⟩,fun y c e=>?_,I.free,I.freeC,fun p hp=>?_,tracked ⟨oL,hoL,I.free⟩ hs,by simpa using I.len⟩ ⟨_,hs,.inl rfl⟩
  ·exact (hs.2 b (Nat.ne_of_lt (Nat.lt_of_lt_of_le (Heap.lt_size e) I.ok.above))).trans (I.base.keep b o e n hb hx)
  ·obtain ⟨sl,e1⟩:=I.base.slot b o e n hb hx
   exact ⟨sl,(hs.2 b (Nat.ne_of_lt (Nat.lt_of_lt_of_le (Heap.lt_size e) I.ok.above))).trans e1⟩
  ·obtain ⟨o',e1⟩:=I.base.there b o e hx
   exact ⟨o',(hs.2 b (Nat.ne_of_lt (Nat.lt_of_lt_of_le (Heap.lt_size e) I.ok.above))).trans e1⟩
  ·by_cases hj:j=i
   ·subst hj
    rw [hi] at e1;cases e1
    rw [List.getElem?_set_self hiσ] at e2
    cases e2
    exact ⟨u,r,.inl ⟨hk,by simp⟩⟩
   ·rw [List.getElem?_set_ne (Ne.symm hj)] at e2
    obtain ⟨u',r',q⟩:=hl j y v' e1 e2 e3
    refine ⟨u',r',?_⟩
    rcases q with ⟨k,e⟩ | ⟨k,c,e,z⟩
    ·refine .inl ⟨k,?_⟩
     have:y≠x:=fun e=>hj (QiB hN e1 (e ▸ hi))
     simp [this,e]
    ·exact .inr ⟨k,c,e,z.sameBut hs (cne y c e)⟩
  ·obtain ⟨w',z⟩:=I.cell y c e
   exact ⟨w',z.sameBut hs (cne y c e)⟩
  ·obtain ⟨e,n,ne,nf,d⟩:=I.pin p hp
   exact ⟨(hs.2 p.1 ne).trans e,n,ne,nf,d⟩
 ·have hfn:X.fn x=true:=by
   rcases hf with z | z
   ·exact z
   ·rw [z] at hk;cases hk
  obtain ⟨c,hc⟩:=I.ok.has x (.inl hk)
  obtain ⟨w',z⟩:=I.cell x c hc
  refine wpAny_storeName_cell I.ok.kind hk hc z (fun h' hc' hs=>?_)
  obtain ⟨oc,hoc,hocd⟩:=id z
  refine h { s with heap:=h' } ⟨I.ok,I.os,I.bare,⟨fun b o e n hb hx=>?_,fun b o e n hb hx=>?_,I.base.free,fun b o e hx=>?_,I.base.tups,I.base.frzs,I.base.tbls⟩,⟨m,hn.sameBut hs (Ne.symm (cne x c hc)),fun j y v' e1 e2 e3=>?_⟩,fun y c' e=>?_,I.free,I.freeC,fun p hp=>?_,tracked ⟨oc,hoc,I.freeC x c hc⟩ hs,by simpa using I.len⟩ ⟨c,hs,.inr hc⟩
  ·exact (hs.2 b (Nat.ne_of_lt (Nat.lt_of_lt_of_le (Heap.lt_size e) (I.ok.cab x c hfn hc)))).trans (I.base.keep b o e n hb hx)
  ·obtain ⟨sl,e1⟩:=I.base.slot b o e n hb hx
   exact ⟨sl,(hs.2 b (Nat.ne_of_lt (Nat.lt_of_lt_of_le (Heap.lt_size e) (I.ok.cab x c hfn hc)))).trans e1⟩
  ·obtain ⟨o',e1⟩:=I.base.there b o e hx
   exact ⟨o',(hs.2 b (Nat.ne_of_lt (Nat.lt_of_lt_of_le (Heap.lt_size e) (I.ok.cab x c hfn hc)))).trans e1⟩
  ·by_cases hj:j=i
   ·subst hj
    rw [hi] at e1;cases e1
    rw [List.getElem?_set_self hiσ] at e2
    cases e2
    exact ⟨u,r,.inr ⟨.inl hk,c,hc,hc'⟩⟩
   ·rw [List.getElem?_set_ne (Ne.symm hj)] at e2
    obtain ⟨u',r',q⟩:=hl j y v' e1 e2 e3
    refine ⟨u',r',?_⟩
    rcases q with q | ⟨k,c',e,z'⟩
    ·exact .inl q
    ·refine .inr ⟨k,c',e,z'.sameBut hs ?_⟩
     rintro rfl
     exact hj (QiB hN e1 (I.ok.inj _ _ _ e hc ▸ hi))
  ·by_cases hcc:c'=c
   ·subst hcc;exact ⟨_,hc'⟩
   ·obtain ⟨w2,z2⟩:=I.cell y c' e
    exact ⟨w2,z2.sameBut hs hcc⟩
  ·obtain ⟨e,n,ne,nf,d⟩:=I.pin p hp
   refine ⟨(hs.2 p.1 ?_).trans e,n,ne,nf,d⟩
   intro q
   rw [q,hoc] at e
   have q':oc=p.2:=Option.some.inj e
   exact d w' (by rw [← q'];exact hocd)
theorem Qfx {M:Model} {A:Around} {E:Value->Shared->Prop} {i:Nat} {x:Str} {v:V} {u:Value} {Q:Unit->Shared->Prop} (I:Inv X pins σ H s) (hN:X.N.Nodup) (hi:X.N[i]? = some x) (hx:Loc X.env.scope x) (r:RelV v u)
  (h:∀ s',Inv X pins (σ.set i (some v)) H s'->Q () s') (hf:X.fn x=true\/X.env.scope.names.lookup x=some .local:=by first | exact .inl rfl | exact .inr rfl | assumption):wpAny M A (storeName X.env x u) Q E s :=
 Qk4 I hN hi hx r (fun s' I' _=>h s' I') hf
theorem Inv.call' {s':Shared} {ch:List Addr} (I:Inv X pins σ H s) (ho:s'.os=s.os) (u:Un (frs X.stack) ch H H' s.heap s'.heap) (hok:HOk X.prog X.w H' s'.heap) (hg:AllBare s'.gens)
  (hch:∀ b∈ch,(b∈X.ex\/X.s₀.heap.objs.size<=b)/\b≠X.env.locals/\(∀ x c,X.env.cells.lookup x=some c->c≠b)/\∀ p∈X.pn++pins,p.1≠b):Inv X pins σ H' s':=by
 obtain ⟨h',g',d',t',o'⟩:=s'
 have e:o'=s.os:=ho
 subst e
 exact I.call (g':=g') (t':=t') (d':=d') u hok hg hch
end
abbrev XK:=Value->Option Addr->Hp->Prop
abbrev St:=List (Option V)
abbrev VK:=V->Hp->Prop
abbrev TE:=St->Hp->VK->Prop
abbrev TT:=St->Hp->(Bool->Hp->Prop)->Prop
abbrev TA:=St->Hp->(List V->Hp->Prop)->Prop
structure Ends where
 nx:St->Hp->Prop
 rt:VK
 bk:St->Hp->Prop:=fun _ _=>False
 ct:St->Hp->Prop:=fun _ _=>False
abbrev TS:=Ends->St->Hp->Prop
def EP (X:Cx) (pins:List (Addr×Obj)) (σ:St) (Q:VK) (u:Value) (s':Shared):Prop:=∃ v H',Inv X pins σ H' s'/\RelV v u/\Q v H'
def TP (X:Cx) (pins:List (Addr×Obj)) (σ:St) (Q:Bool->Hp->Prop) (b:Bool) (s':Shared):Prop:=∃ H',Inv X pins σ H' s'/\Q b H'
def AP (X:Cx) (pins:List (Addr×Obj)) (σ:St) (Q:List V->Hp->Prop) (us:List Value) (s':Shared):Prop:=∃ vs H',Inv X pins σ H' s'/\Vals vs us/\Q vs H'
def SP (X:Cx) (pins:List (Addr×Obj)) (D:Ends) (f:Flow) (s':Shared):Prop :=
 match f with
 | .next=>∃ σ' H',Inv X pins σ' H' s'/\D.nx σ' H'
 | .brk=>∃ σ' H',Inv X pins σ' H' s'/\D.bk σ' H'
 | .cont=>∃ σ' H',Inv X pins σ' H' s'/\D.ct σ' H'
 | .ret u=>∃ v σ' H',Inv X pins σ' H' s'/\RelV v u/\D.rt v H'
def PE (X:Cx) (e:Expr) (t:TE):Prop :=
 ∀ (pins:List (Addr×Obj)) (s:Shared) (σ:St) (H:Hp) (Q:VK),Inv X pins σ H s->t σ H Q->wpAny (model X.prog X.w) X.A (eval e X.env) (EP X pins σ Q) X.xe s
def PT (X:Cx) (e:Expr) (t:TT):Prop :=
 ∀ (pins:List (Addr×Obj)) (s:Shared) (σ:St) (H:Hp) (Q:Bool->Hp->Prop),Inv X pins σ H s->t σ H Q->wpAny (model X.prog X.w) X.A (isTrue e X.env (eval e X.env)) (TP X pins σ Q) X.xe s
def PW (X:Cx) (e:Expr) (t:TT):Prop :=
 ∀ (whole:Sem Value) (pins:List (Addr×Obj)) (s:Shared) (σ:St) (H:Hp) (Q:Bool->Hp->Prop),Inv X pins σ H s->t σ H Q->wpAny (model X.prog X.w) X.A (isTrue e X.env whole) (TP X pins σ Q) X.xe s
theorem PW.pt {X:Cx} {e:Expr} {t:TT} (h:PW X e t):PT X e t:=h _
def PA (X:Cx) (es:List Expr) (t:TA):Prop :=
 ∀ (pos:Pos) (pins:List (Addr×Obj)) (s:Shared) (σ:St) (H:Hp) (Q:List V->Hp->Prop),Inv X pins σ H s->t σ H Q->wpAny (model X.prog X.w) X.A (spliced (backTo pos (starEach es X.env))) (AP X pins σ Q) X.xe s
def PS (X:Cx) (st:Stmt) (t:TS):Prop :=
 ∀ (pins:List (Addr×Obj)) (s:Shared) (σ:St) (H:Hp) (D:Ends),Inv X pins σ H s->t D σ H->wpAny (model X.prog X.w) X.A (exec st X.env) (SP X pins D) X.xe s
def PSs (X:Cx) (st:List Stmt) (t:TS):Prop :=
 ∀ (pins:List (Addr×Obj)) (s:Shared) (σ:St) (H:Hp) (D:Ends),Inv X pins σ H s->t D σ H->wpAny (model X.prog X.w) X.A (execs st X.env) (SP X pins D) X.xe s
theorem thn {α:Type} {t:Sem α} {Q Q':α->Shared->Prop} {M:Model} {A:Around} {E:Value->Shared->Prop} {s:Shared} (h:wpAny M A t Q E s) (hQ:∀ a s,Q a s->Q' a s):wpAny M A t Q' E s:=wpAny_mono h hQ fun _ _ x=>x
end L2
namespace L2
open PySem PySem.Spec PyProof.Rows
section
variable {X:Cx}
def tVar (i:Nat):TE:=fun σ H Q=>∃ v,σ[i]? = some (some v)/\Q v H
def tC (v:V):TE:=fun _ H Q=>Q v H
theorem Qo6 {i:Nat} {x:Str} {pos:Pos} (hN:X.N[i]? = some x) (hv:Vis X.env.scope x) (hd:(x == ("__debug__":Str))=false:=by decide) (hcd:(x == ("__classdict__":Str))=false:=by decide):PE X (.Name x pos) (tVar i):=by
 intro pins s σ H Q I h
 obtain ⟨v,e,h⟩:=h
 obtain ⟨m,hn,hl⟩:=I.loc
 obtain ⟨u,r,l⟩:=hl i x v hN e hv
 have fin:EP X pins σ Q u s:=⟨v,H,I,r,h⟩
 rcases l with ⟨hk,hm⟩ | ⟨hk,c,hc,hcell⟩
 ·exact wpAny_Name (wpAny_loadName_local I.ok.kind hk hn hm fin) hd
 ·rcases hk with hk | hk
  ·exact wpAny_Name (wpAny_loadName_cell I.ok.kind hk hc hcell fin) hd
  ·exact wpAny_Name (wpAny_loadName_free I.ok.kind hk hc hcell fin hcd) hd
theorem QoV {i j pos}:PE X (.Constant (.int i) j pos) (tC (.int i)):=fun _ _ _ H _ I h=>wpAny_Constant_int ⟨.int i,H,I.tok _,⟨_,rfl⟩,h⟩
theorem pe_bl {b j pos}:PE X (.Constant (.bool b) j pos) (tC (.bl b)):=fun _ _ _ H _ I h=>Constant_bool ⟨.bl b,H,I,rfl,h⟩
theorem Qpj {j pos}:PE X (.Constant .none j pos) (tC .non):=fun _ _ _ H _ I h=>Constant_none ⟨.non,H,I,rfl,h⟩
theorem Qo7 {x j pos}:PE X (.Constant (.str x) j pos) (tC (.str x)):=fun _ _ _ H _ I h=>Calls.Constant_str ⟨.str x,H,I.tok _,⟨_,rfl⟩,h⟩
def Gl (X:Cx) (x:Str):Prop:=X.env.kindOf x=some .globalImplicit
theorem QjZ {E:Value->Shared->Prop} {pins:List (Addr×Obj)} {s:Shared} {σ:St} {H:Hp} {x:Str} {u:Value} {pos:Pos} {Q:Value->Shared->Prop} (I:Inv X pins σ H s) (hg:Gl X x) (hm:X.mg x=some u) (h:Q u s)
  (hd:(x == ("__debug__":Str))=false:=by decide):wpAny (model X.prog X.w) X.A (eval (.Name x pos) X.env) Q E s :=
 Calls.Name_function_global I.ok.kind hg (Calls.loadGlobal_global (by rw [I.ok.glob];exact I.mod.glob.keeps I.bk) hm h) hd
theorem QcL {E:Value->Shared->Prop} {pins:List (Addr×Obj)} {s:Shared} {σ:St} {H:Hp} {x:Str} {u:Value} {pos:Pos} {Q:Value->Shared->Prop} (I:Inv X pins σ H s) (hg:Gl X x) (hm:X.mg x=none) (hv:bootBuiltins x=some u) (h:Q u s)
  (hn:x≠"__name__":=by decide) (hd:(x == ("__debug__":Str))=false:=by decide):wpAny (model X.prog X.w) X.A (eval (.Name x pos) X.env) Q E s:=by
 obtain ⟨mb,h1,h2⟩:=I.mod.blt
 exact Calls.Name_function_global I.ok.kind hg (Calls.loadGlobal_builtin (by rw [I.ok.glob];exact I.mod.glob.keeps I.bk) hm (by rw [I.ok.blt];exact h1.keeps I.bk) ((h2 x hn).trans hv) h) hd
theorem QnF {x:Str} {v:V} {u:Value} {pos:Pos} (hg:Gl X x) (hm:X.mg x=none) (hv:bootBuiltins x=some u) (r:RelV v u) (hn:x≠"__name__":=by decide) (hd:(x == ("__debug__":Str))=false:=by decide):PE X (.Name x pos) (tC v) :=
 fun _ _ _ H _ I h=>QcL I hg hm hv ⟨v,H,I,r,h⟩ hn hd
variable {a b:Expr} {ta tb:TE} {pos:Pos}
def PC (X:Cx) (op:CmpOp) (a b:Expr) (t:TE):Prop :=
 ∀ (pins:List (Addr×Obj)) (s:Shared) (σ:St) (H:Hp) (Q:VK),Inv X pins σ H s->t σ H Q ->
  wpAny (model X.prog X.w) X.A (eval a X.env) (fun v s₁=>wpAny (model X.prog X.w) X.A (eval b X.env) (fun u s₂=>wpAny (model X.prog X.w) X.A (compareOp op v u) (EP X pins σ Q) X.xe s₂) X.xe s₁) X.xe s
theorem Qif (b:Expr) {op:CmpOp} (h:op≠.In) (h2:op≠.NotIn):behindInMarks op b=false:=by
 have e1:(op == CmpOp.In)=false:=by cases op <;> first | rfl | exact absurd rfl h
 have e2:(op == CmpOp.NotIn)=false:=by cases op <;> first | rfl | exact absurd rfl h2
 cases b <;> simp [behindInMarks,e1,e2]
def tIsN (ta:TE):TE:=fun σ H Q=>ta σ H fun x H1=>Q (.bl (decide (x=.non))) H1
def tNotN (ta:TE):TE:=fun σ H Q=>ta σ H fun x H1=>Q (.bl (!decide (x=.non))) H1
theorem RelV.none_iff {x:V} {v:Value} (r:RelV x v):(v == Value.none)=decide (x=.non):=by
 cases x with
 | non=>cases r;rfl
 | bl _=>cases r;rfl
 | int _=>obtain ⟨t,rfl⟩:=r;rfl
 | str _=>obtain ⟨t,rfl⟩:=r;rfl
 | byt _=>obtain ⟨t,rfl⟩:=r;rfl
 | flt _=>obtain ⟨t,rfl⟩:=r;rfl
 | ref _=>cases r;rfl
 | ty _=>cases r;rfl
theorem QlG {j pos'} (ha:PE X a ta):PC X .Is a (.Constant .none j pos') (tIsN ta):=by
 intro pins s σ H Q I h
 refine thn (ha pins s σ H _ I h) fun v s1 ⟨x,H1,I1,r1,q1⟩=>?_
 exact Constant_none (is_none_gen ⟨.bl _,H1,I1,by rw [r1.none_iff];rfl,q1⟩)
theorem Qnf {j pos'} (ha:PE X a ta):PC X .IsNot a (.Constant .none j pos') (tNotN ta):=by
 intro pins s σ H Q I h
 refine thn (ha pins s σ H _ I h) fun v s1 ⟨x,H1,I1,r1,q1⟩=>?_
 exact Constant_none (isnot_none_gen ⟨.bl _,H1,I1,by rw [r1.none_iff];rfl,q1⟩)
def tB (t:TE):TT:=fun σ H Q=>t σ H fun x H1=>∃ c,x=.bl c/\Q c H1
theorem QoX {op:CmpOp} {t:TE} (h:PC X op a b t) (h1:behindInMarks op b=false:=by first | exact Qif _ (by decide) (by decide) | rfl):PE X (.Compare a [op] [b] pos) t:=fun pins s σ H Q I hw=>wpAny_Compare1 (h pins s σ H Q I hw) h1
theorem Qna {op:CmpOp} {t:TE} (h:PC X op a b t) (h1:behindInMarks op b=false:=by first | exact Qif _ (by decide) (by decide) | rfl):PT X (.Compare a [op] [b] pos) (tB t):=by
 intro pins s σ H Q I hw
 refine wpAny_isTrue_Compare1 (thn (h pins s σ H _ I hw) fun v s1 h1=>thn h1 fun u s2 h2=>thn h2 fun c s3 ⟨x,H1,I1,r1,q1⟩=>?_) h1
 obtain ⟨d,rfl,q⟩:=q1
 cases r1
 exact wpAny_truthy_bool ⟨H1,I1,q⟩
variable {tA tB':TT} {rest:List Expr}
def tAnd (t u:TT):TT:=fun σ H Q=>t σ H fun c H1=>if c=true then u σ H1 Q else Q false H1
def tOr (t u:TT):TT:=fun σ H Q=>t σ H fun c H1=>if c=true then Q true H1 else u σ H1 Q
def tNot (t:TT):TT:=fun σ H Q=>t σ H fun c H1=>Q (!c) H1
theorem QnG (ha:PT X a tA):PW X (.BoolOp .And [a] pos) tA:=by
 intro wh pins s σ H Q I h
 refine isTrue_and (thn (ha pins s σ H Q I h) fun c s1 e=>?_)
 cases c with
 | true=>exact isTrue_and_nil e
 | false=>exact e
theorem Qpv (ha:PT X a tA):PW X (.BoolOp .Or [a] pos) tA:=by
 intro wh pins s σ H Q I h
 refine isTrue_or (thn (ha pins s σ H Q I h) fun c s1 e=>?_)
 cases c with
 | false=>exact isTrue_or_nil e
 | true=>exact e
theorem QoQ (ha:PT X a tA) (hb:PW X (.BoolOp .And (b::rest) pos) tB'):PW X (.BoolOp .And (a::b::rest) pos) (tAnd tA tB'):=by
 intro wh pins s σ H Q I h
 refine isTrue_and (thn (ha pins s σ H _ I h) fun c s1 ⟨H1,I1,q1⟩=>?_)
 cases c with
 | true=>exact hb wh pins s1 σ H1 Q I1 q1
 | false=>exact ⟨H1,I1,q1⟩
theorem pw_or (ha:PT X a tA) (hb:PW X (.BoolOp .Or (b::rest) pos) tB'):PW X (.BoolOp .Or (a::b::rest) pos) (tOr tA tB'):=by
 intro wh pins s σ H Q I h
 refine isTrue_or (thn (ha pins s σ H _ I h) fun c s1 ⟨H1,I1,q1⟩=>?_)
 cases c with
 | true=>exact ⟨H1,I1,q1⟩
 | false=>exact hb wh pins s1 σ H1 Q I1 q1
theorem QpV (ha:PT X a tA):PT X (.UnaryOp .Not a pos) (tNot tA):=by
 intro pins s σ H Q I h
 exact isTrue_not (ha pins s σ H (fun c H1=>Q (!c) H1) I h)
def tAndV (ta tb:TE):TE:=fun σ H Q=>ta σ H fun x H1=>∃ c,x=.bl c/\if c=true then tb σ H1 Q else Q (.bl false) H1
def tNotV (ta:TE):TE:=fun σ H Q=>ta σ H fun x H1=>∃ c,x=.bl c/\Q (.bl (!c)) H1
theorem Qpk {op} {t:TE} (h:PE X a t):PE X (.BoolOp op [a] pos) t:=fun pins s σ H Q I hw=>BoolOp_one (h pins s σ H Q I hw)
theorem Qpu (ha:PE X a ta) (hb:PE X (.BoolOp .And (b::rest) pos) tb):PE X (.BoolOp .And (a::b::rest) pos) (tAndV ta tb):=by
 intro pins s σ H Q I h
 refine BoolOp_and (thn (ha pins s σ H _ I h) fun v s1 ⟨x,H1,I1,r1,q1⟩=>?_)
 obtain ⟨c,rfl,q1⟩:=q1
 cases r1
 refine wpAny_truthy_bool ?_
 cases c with
 | true=>exact hb pins s1 σ H1 Q I1 q1
 | false=>exact ⟨.bl false,H1,I1,rfl,q1⟩
theorem Qo0 (ha:PE X a ta):PE X (.UnaryOp .Not a pos) (tNotV ta):=by
 intro pins s σ H Q I h
 refine UnaryOp_ (thn (ha pins s σ H _ I h) fun v s1 ⟨x,H1,I1,r1,q1⟩=>?_)
 obtain ⟨c,rfl,q1⟩:=q1
 cases r1
 exact not_of (wpAny_truthy_bool ⟨.bl (!c),H1,I1,rfl,q1⟩)
def tIf (t:TT) (ta tb:TE):TE:=fun σ H Q=>t σ H fun c H1=>if c=true then ta σ H1 Q else tb σ H1 Q
theorem QlT {c:Expr} (hc:PT X c tA) (ha:PE X a ta) (hb:PE X b tb):PE X (.IfExp c a b pos) (tIf tA ta tb):=by
 intro pins s σ H Q I h
 refine wpAny_IfExp (thn (hc pins s σ H _ I h) fun d s1 ⟨H1,I1,q1⟩=>?_)
 cases d with
 | true=>exact ha pins s1 σ H1 Q I1 q1
 | false=>exact hb pins s1 σ H1 Q I1 q1
end
end L2
namespace L2
open PySem PySem.Spec PyProof.Rows
def SqL (K:W.Frag) (H:Hp) (a:Addr) (xs:List V):Prop :=
 Rd H a (.lst xs) \/
  ∃ (o:Obj) (its:Array Value) (n:Nat),K.lookup a=some o/\o.cls=.type "list"/\o.dict=none/\o.data=.seq its n/\its.size<=sizeLine/\Vals xs its.toList
def SqT (K:W.Frag) (H:Hp) (a:Addr) (xs:List V):Prop :=
 Rd H a (.tup xs) \/
  ∃ (o:Obj) (its:Array Value) (n:Nat),K.lookup a=some o/\o.cls=.type "tuple"/\o.data=.seq its n/\its.size<=sizeLine/\Vals xs its.toList
def absV:Value->Option V
 | .none=>some .non
 | .bool b=>some (.bl b)
 | .int i _=>some (.int i)
 | .str x _=>some (.str x)
 | .bytes b _=>some (.byt b)
 | .float b _=>some (.flt b)
 | .ref a=>some (.ref a)
 | .type n=>some (.ty n)
 | _=>none
theorem RelV.abs {x:V} {u:Value} (r:RelV x u):absV u=some x:=by
 cases x with
 | non=>cases r;rfl
 | bl _=>cases r;rfl
 | int _=>obtain ⟨t,rfl⟩:=r;rfl
 | str _=>obtain ⟨t,rfl⟩:=r;rfl
 | byt _=>obtain ⟨t,rfl⟩:=r;rfl
 | flt _=>obtain ⟨t,rfl⟩:=r;rfl
 | ref _=>cases r;rfl
 | ty _=>cases r;rfl
theorem RelV.inj {x y:V} {u:Value} (r:RelV x u) (q:RelV y u):x=y:=Option.some.inj (r.abs.symm.trans q.abs)
theorem Vals.inj:∀ {xs ys:List V} {us:List Value},Vals xs us->Vals ys us->xs=ys
 | _,_,_,.nil,.nil=>rfl
 | _,_,_,.cons r t,.cons r' t'=>by rw [r.inj r',Vals.inj t t']
section
variable {X:Cx} {pins:List (Addr×Obj)} {σ:St} {H:Hp} {s:Shared} {a:Addr} {xs ys:List V}
theorem SqL.of {K:W.Frag} (h:H a=some (.lst xs)):SqL K H a xs:=.inl (.inl h)
theorem Inv.list (I:Inv X pins σ H s) (h:SqL X.K H a xs):∃ its:List Value,Vals xs its/\PlainL s.heap a its.toArray/\xs.length<=sizeLine:=by
 rcases h with h | ⟨o,its,n,hk,hc,hd,hs,hz,r⟩
 ·obtain ⟨z,its,n,r,e⟩:=h.ok I.hok
  exact ⟨its,r,⟨_,n,e,rfl,rfl,rfl⟩,z⟩
 ·refine ⟨its.toList,r,⟨o,n,I.kIn a o hk,hc,hd,by simpa using hs⟩,?_⟩
  have e:=r.length
  simp only [Array.length_toList] at e
  omega
theorem Inv.tuple (I:Inv X pins σ H s) (h:SqT X.K H a xs):∃ its:List Value,Vals xs its/\IsTup s.heap a its.toArray/\xs.length<=sizeLine:=by
 rcases h with h | ⟨o,its,n,hk,hc,hs,hz,r⟩
 ·obtain ⟨z,its,r,p⟩:=h.ok I.hok
  exact ⟨its,r,p,z⟩
 ·refine ⟨its.toList,r,⟨o,I.kIn a o hk,hc,n,by simpa using hs⟩,?_⟩
  have e:=r.length
  simp only [Array.length_toList] at e
  omega
theorem Inv.list_inj (I:Inv X pins σ H s) (h:SqL X.K H a xs) (h':SqL X.K H a ys):xs=ys:=by
 obtain ⟨its,r,⟨o,n,e,_,_,d⟩,_⟩:=I.list h
 obtain ⟨its',r',⟨o',n',e',_,_,d'⟩,_⟩:=I.list h'
 rw [e] at e';cases e'
 rw [d] at d'
 injection d' with d1 _
 have:its=its':=by simpa using congrArg Array.toList d1
 subst this
 exact r.inj r'
theorem Inv.tuple_inj (I:Inv X pins σ H s) (h:SqT X.K H a xs) (h':SqT X.K H a ys):xs=ys:=by
 obtain ⟨its,r,⟨o,e,_,n,d⟩,_⟩:=I.tuple h
 obtain ⟨its',r',⟨o',e',_,n',d'⟩,_⟩:=I.tuple h'
 rw [e] at e';cases e'
 rw [d] at d'
 injection d' with d1 _
 have:its=its':=by simpa using congrArg Array.toList d1
 subst this
 exact r.inj r'
end
abbrev Cx.wish (X:Cx) (E:Value->Shared->Prop):Cx:={ X with xe:=E }
abbrev Cx.nox (X:Cx):Cx:=X.wish fun _ _=>False
theorem Cx.Ok.wish {X:Cx} (ok:X.Ok) (E:Value->Shared->Prop):(X.wish E).Ok :=
 ⟨ok.mod,ok.kind,ok.glob,ok.blt,ok.above,ok.inj,ok.has,ok.cab,ok.hd,ok.frames,ok.stk,ok.exf,ok.bs,ok.bsz,ok.noex,ok.exfs,ok.funs,ok.frf⟩
theorem Cx.Ok.unwish {X:Cx} {E:Value->Shared->Prop} (ok:(X.wish E).Ok):X.Ok :=
 ⟨ok.mod,ok.kind,ok.glob,ok.blt,ok.above,ok.inj,ok.has,ok.cab,ok.hd,ok.frames,ok.stk,ok.exf,ok.bs,ok.bsz,ok.noex,ok.exfs,ok.funs,ok.frf⟩
section
variable {X:Cx} {pins:List (Addr×Obj)} {σ:St} {H:Hp} {s:Shared} {E:Value->Shared->Prop}
theorem Inv.wish (I:Inv X pins σ H s) (E:Value->Shared->Prop):Inv (X.wish E) pins σ H s:=⟨I.ok.wish E,I.os,I.bare,I.base,I.loc,I.cell,I.free,I.freeC,I.pin,I.hok,I.len⟩
theorem Inv.unwish (I:Inv (X.wish E) pins σ H s):Inv X pins σ H s:=⟨I.ok.unwish,I.os,I.bare,I.base,I.loc,I.cell,I.free,I.freeC,I.pin,I.hok,I.len⟩
theorem SP.unwish {D:Ends} {f:Flow} {s':Shared} (h:SP (X.wish E) pins D f s'):SP X pins D f s':=by
 cases f with
 | next=>obtain ⟨σ',H',I,q⟩:=h;exact ⟨σ',H',I.unwish,q⟩
 | brk=>obtain ⟨σ',H',I,q⟩:=h;exact ⟨σ',H',I.unwish,q⟩
 | cont=>obtain ⟨σ',H',I,q⟩:=h;exact ⟨σ',H',I.unwish,q⟩
 | ret u=>obtain ⟨v,σ',H',I,r,q⟩:=h;exact ⟨v,σ',H',I.unwish,r,q⟩
theorem PE.nox {e:Expr} {t:TE} (h:PE X.nox e t):PE X e t:=fun pins s σ H Q I hw =>
 wpAny_mono (h pins s σ H Q (I.wish _) hw) (fun _ _ ⟨v,H',I',r,q⟩=>⟨v,H',I'.unwish,r,q⟩) fun _ _ z=>False.elim z
theorem PT.nox {e:Expr} {t:TT} (h:PT X.nox e t):PT X e t:=fun pins s σ H Q I hw =>
 wpAny_mono (h pins s σ H Q (I.wish _) hw) (fun _ _ ⟨H',I',q⟩=>⟨H',I'.unwish,q⟩) fun _ _ z=>False.elim z
theorem PSs.nox {st:List Stmt} {t:TS} (h:PSs X.nox st t):PSs X st t:=fun pins s σ H D I hw =>
 wpAny_mono (h pins s σ H D (I.wish _) hw) (fun _ _ q=>q.unwish) fun _ _ z=>False.elim z
end
section
variable {X:Cx} {st:Stmt} {rest:List Stmt} {t u:TS} {e:Expr} {te:TE} {pos:Pos}
def tNext:TS:=fun D σ H=>D.nx σ H
def tSeq (t u:TS):TS:=fun D σ H=>t { D with nx:=u D } σ H
theorem pss_nil:PSs X [] tNext:=fun _ _ σ H _ I h=>wpAny_execs_nil ⟨σ,H,I,h⟩
theorem Qfh (h1:PS X st t) (h2:PSs X rest u):PSs X (st::rest) (tSeq t u):=by
 intro pins s σ H D I h
 refine wpAny_execs_cons (thn (h1 pins s σ H { D with nx:=u D } I h) fun f s1 q=>?_)
 cases f with
 | next =>
  obtain ⟨σ',H',I',q⟩:=q
  exact h2 pins s1 σ' H' D I' q
 | ret v=>exact q
 | brk=>exact q
 | cont=>exact q
theorem Inv.quiet {pins:List (Addr×Obj)} {σ:St} {H:Hp} {s:Shared} (I:Inv X pins σ H s):interactive X.env=false:=by simp [interactive,I.ok.kind]
def tDrop (te:TE):TS:=fun D σ H=>te σ H fun _ H1=>D.nx σ H1
theorem QcV (he:PE X e te) (hs:swapsWith e none pos.line X.env=pure false:=by rfl):PS X (.Expr e pos) (tDrop te):=by
 intro pins s σ H D I h
 exact wpAny_Expr_any (thn (he pins s σ H _ I h) fun v s1 ⟨x,H1,I1,r1,q1⟩=>⟨σ,H1,I1,q1⟩) I.quiet hs
def tRet (te:TE):TS:=fun D σ H=>te σ H D.rt
theorem QjB (he:PE X e te):PS X (.Return (some e) pos) (tRet te):=by
 intro pins s σ H D I h
 exact wpAny_Return_some (thn (he pins s σ H _ I h) fun v s1 ⟨x,H1,I1,r1,q1⟩=>⟨x,σ,H1,I1,r1,q1⟩)
def tIfS (c:TT) (t u:TS):TS:=fun D σ H=>c σ H fun b H1=>if b=true then t D σ H1 else u D σ H1
theorem Qot {c:Expr} {a b:List Stmt} {tc:TT} (hc:PT X c tc) (ha:PSs X a t) (hb:PSs X b u):PS X (.If c a b pos) (tIfS tc t u):=by
 intro pins s σ H D I h
 refine wpAny_If (thn (hc pins s σ H _ I h) fun d s1 ⟨H1,I1,q1⟩=>?_)
 cases d with
 | true=>exact ha pins s1 σ H1 D I1 q1
 | false=>exact hb pins s1 σ H1 D I1 q1
end
abbrev TG:=V->St->Hp->(St->Hp->Prop)->Prop
abbrev TGs:=List V->St->Hp->(St->Hp->Prop)->Prop
def PG (X:Cx) (target:Expr) (t:TG):Prop :=
 ∀ (pins:List (Addr×Obj)) (s:Shared) (σ:St) (H:Hp) (v:V) (u:Value) (Q:St->Hp->Prop),Inv X pins σ H s->RelV v u->t v σ H Q ->
  wpAny (model X.prog X.w) X.A (assign target X.env u) (fun _ s'=>∃ σ' H',Inv X pins σ' H' s'/\Q σ' H') X.xe s
def PGs (X:Cx) (ts:List Expr) (t:TGs):Prop :=
 ∀ (pins:List (Addr×Obj)) (s:Shared) (σ:St) (H:Hp) (vs:List V) (us:List Value) (Q:St->Hp->Prop),Inv X pins σ H s->Vals vs us->t vs σ H Q ->
  wpAny (model X.prog X.w) X.A (assignInOrder ((assignEach ts X.env).map (·.2)) us) (fun _ s'=>∃ σ' H',Inv X pins σ' H' s'/\Q σ' H') X.xe s
abbrev TSet:=V->V->V->Hp->(Hp->Prop)->Prop
def PSet (X:Cx) (t:TSet):Prop :=
 ∀ (pins:List (Addr×Obj)) (s:Shared) (σ:St) (H:Hp) (o i v:V) (ov iv u:Value) (Q:Hp->Prop),Inv X pins σ H s->RelV o ov->RelV i iv->RelV v u->t o i v H Q ->
  wpAny (model X.prog X.w) X.A (setItem ov iv u) (fun _ s'=>∃ H',Inv X pins σ H' s'/\Q H') X.xe s
section
variable {X:Cx} {pos:Pos}
def Qez (i:Nat):TG:=fun v σ H Q=>Q (σ.set i (some v)) H
theorem Qdy {i:Nat} {x:Str} (hN:X.N.Nodup) (hi:X.N[i]? = some x) (hx:Loc X.env.scope x) (hf:X.fn x=true\/X.env.scope.names.lookup x=some .local:=by first | exact .inl rfl | exact .inr rfl | assumption):PG X (.Name x pos) (Qez i):=by
 intro pins s σ H v u Q I r h
 exact wpAny_assign_Name (Qfx I hN hi hx r (fun s' I'=>⟨_,H,I',h⟩) hf)
def gNil:TGs:=fun vs σ H Q=>vs=[]/\Q σ H
def gCons (t:TG) (u:TGs):TGs:=fun vs σ H Q=>∃ v r,vs=v::r/\t v σ H fun σ' H'=>u r σ' H' Q
theorem QnU:PGs X [] gNil:=by
 intro pins s σ H vs us Q I r h
 obtain ⟨e,h⟩:=h
 subst e
 cases r
 exact assignInOrder_nil ⟨σ,H,I,h⟩
theorem QiJ {e:Expr} {es:List Expr} {t:TG} {u:TGs} (h1:PG X e t) (h2:PGs X es u)
  (hs:(assignEach (e::es) X.env).map (·.2)=assign e X.env::(assignEach es X.env).map (·.2):=by rfl):PGs X (e::es) (gCons t u):=by
 intro pins s σ H vs us Q I r h
 obtain ⟨v,vr,e1,h⟩:=h
 subst e1
 cases r with
 | cons r rr =>
  rw [hs]
  refine assignInOrder_cons (thn (h1 pins s σ H _ _ _ I r h) fun _ s1 ⟨σ1,H1,I1,q1⟩=>?_)
  exact h2 pins s1 σ1 H1 _ _ Q I1 rr q1
def gTup (K:W.Frag) (n:Nat) (t:TGs):TG:=fun v σ H Q=>∃ a xs,v=.ref a/\SqT K H a xs/\xs.length=n/\t xs σ H Q
theorem QpW {es:List Expr} {k:Nat} {t:TGs} {n:Nat} (hc:X.calm=true) (h:PGs X es t)
  (hn:(assignEach es X.env).length=n:=by rfl) (hst:(assignEach es X.env).findIdx? (·.1)=none:=by rfl):PG X (.Tuple es k pos) (gTup X.K n t):=by
 intro pins s σ H v u Q I r hw
 obtain ⟨a,xs,e1,hq,hl,hw⟩:=hw
 subst e1
 cases r
 obtain ⟨its,rv,ht,hz⟩:=I.tuple hq
 refine assign_Tuple_tuple (I.ok.hd hc) ht (by simp [hn,← hl,rv.length]) hst fun h' hx=>?_
 have I1:Inv X pins σ H { s with heap:=h' }:=I.kept (t':=s.toks) fun b o e=>hx b o (Nat.ne_of_lt (Heap.lt_size e)) e
 exact h pins _ σ H xs _ Q I1 (by simpa using rv) hw
def gSub (to ti:TE) (t:TSet):TG:=fun v σ H Q=>to σ H fun o H1=>ti σ H1 fun i H2=>t o i v H2 fun H3=>Q σ H3
theorem QpD {o i:Expr} {to ti:TE} {t:TSet} (ho:PE X o to) (hi:PE X i ti) (hs:PSet X t)
  (ha:∀ v,assign (.Subscript o i pos) X.env v=(do
   let ov ← holding [v] (eval o X.env)
   let iv ← holding [v,ov] (eval i X.env)
   standAt pos
   holding [v,ov,iv] (setItem ov iv v)
   release [v,ov,iv] []):=by intro _;rfl):PG X (.Subscript o i pos) (gSub to ti t):=by
 intro pins s σ H v u Q I r h
 rw [ha]
 refine wpAny_bind (wpAny_holding (thn (ho pins s σ H _ I h) fun ov s1 ⟨x,H1,I1,r1,q1⟩=>?_))
 refine wpAny_bind (wpAny_holding (thn (hi pins s1 σ H1 _ I1 q1) fun iv s2 ⟨y,H2,I2,r2,q2⟩=>?_))
 refine wpAny_bind (wpAny_standAt (wpAny_bind (wpAny_holding (thn (hs pins s2 σ H2 x y v ov iv u _ I2 r1 r2 r q2) fun _ s3 ⟨H3,I3,q3⟩=>?_))))
 exact wpAny_release ⟨σ,H3,I3,q3⟩
def tAsg (te:TE) (g:TG):TS:=fun D σ H=>te σ H fun x H1=>g x σ H1 D.nx
theorem QlV {tg e:Expr} {te:TE} {g:TG} (he:PE X e te) (hg:PG X tg g) (hs:swapsWithSole [tg] e pos.line X.env=pure false:=by rfl) (hw:swappedStores [tg] e X.env=pure none:=by rfl)
  (h1:(assignEach [tg] X.env).map (·.2)=[assign tg X.env]:=by rfl):PS X (.Assign [tg] e pos) (tAsg te g):=by
 intro pins s σ H D I h
 refine wpAny_Assign_stores (thn (he pins s σ H _ I h) fun v s1 ⟨x,H1,I1,r1,q1⟩=>?_) hs hw
 rw [h1]
 exact thn (hg pins s1 σ H1 x v _ I1 r1 q1) fun _ s2 q=>q
theorem Qji {i:Nat} {x:Str} {e:Expr} {te:TE} {pos':Pos} (hN:X.N.Nodup) (hi:X.N[i]? = some x) (hx:Loc X.env.scope x) (he:PE X e te) (hs:swapsWith e (some (.Name x pos')) pos.line X.env=pure false:=by rfl) (hf:X.fn x=true\/X.env.scope.names.lookup x=some .local:=by first | exact .inl rfl | exact .inr rfl | assumption) :
  PS X (.Assign [.Name x pos'] e pos) (tAsg te (Qez i)):=by
 intro pins s σ H D I h
 refine wpAny_Assign_Name (thn (he pins s σ H _ I h) fun v s1 ⟨y,H1,I1,r1,q1⟩=>?_) hs
 exact Qfx I1 hN hi hx r1 (fun s2 I2=>⟨_,H1,I2,q1⟩) hf
end
section
variable {X:Cx} {pos:Pos}
def Qpn (c:TT) (tb:TS):TS:=fun D σ H=>∃ W:Nat->St->Hp->Prop,(∃ m,W m σ H)/\∀ m σ H,W m σ H ->
 c σ H fun b H1=>if b=true then ∃ N:St->Hp->Prop,(∀ σ' H',N σ' H'->∃ m',m' < m/\W m' σ' H')/\tb { D with nx:=N,ct:=N,bk:=D.nx } σ H1 else D.nx σ H1
theorem Qmo {c:Expr} {body:List Stmt} {tc:TT} {tb:TS} (hp:PassesOwn (model X.prog X.w) X.A X.env X.xe) (hc:PT X c tc) (hb:PSs X body tb):PS X (.While c body [] pos) (Qpn tc tb):=by
 intro pins s σ H D I h
 obtain ⟨W,⟨m0,w0⟩,turn⟩:=h
 refine wpAny_While (codeAny_whileLoop (fun n s'=>∃ σ' H',Inv X pins σ' H' s'/\W n σ' H') ?_ m0 ⟨σ,H,I,w0⟩)
 rintro n s1 ⟨σ1,H1,I1,w1⟩
 refine wpAny_passesOwn hp (thn (hc pins s1 σ1 H1 _ I1 (turn n σ1 H1 w1)) fun b s2 ⟨H2,I2,q2⟩=>?_)
 cases b with
 | true =>
  obtain ⟨N,hN,q2⟩:=q2
  rw [if_pos rfl]
  refine wpAny_passesOwn hp (thn (hb pins s2 σ1 H2 _ I2 q2) fun f s3 q3=>?_)
  cases f with
  | next =>
   obtain ⟨σ3,H3,I3,n3⟩:=q3
   obtain ⟨m',hm,w3⟩:=hN σ3 H3 n3
   exact ⟨m',hm,σ3,H3,I3,w3⟩
  | cont =>
   obtain ⟨σ3,H3,I3,n3⟩:=q3
   obtain ⟨m',hm,w3⟩:=hN σ3 H3 n3
   exact ⟨m',hm,σ3,H3,I3,w3⟩
  | brk=>exact q3
  | ret v=>exact q3
 | false =>
  rw [if_neg Bool.false_ne_true]
  exact wpAny_execs_nil ⟨σ1,H2,I2,q2⟩
end
structure It where
 go:Nat->Hp->Prop
 yld:Nat->Hp->V->Hp->Prop
 stop:Nat->Hp->Prop
def FpOk (X:Cx) (pins:List (Addr×Obj)) (H:Hp) (b:Addr):Prop :=
 H b=none/\b≠X.env.locals/\b ∉ X.fs/\(b∈X.ex\/X.s₀.heap.objs.size<=b)/\(∀ x c,X.env.cells.lookup x=some c->c≠b)/\∀ p∈X.pn++pins,p.1≠b
theorem Inv.fpOk {X:Cx} {pins:List (Addr×Obj)} {σ:St} {H H':Hp} {s:Shared} {b:Addr} (I:Inv X pins σ H s) (hb:s.heap.objs.size<=b) (hn:H' b=none):FpOk X pins H' b:=by
 refine ⟨hn,Nat.ne_of_gt (Nat.lt_of_lt_of_le I.lt hb),I.nofs hb,.inr (Nat.le_trans I.sz hb),fun x c e z=>?_,fun p hp z=>?_⟩
 ·obtain ⟨v,q⟩:=I.cell x c e
  exact absurd (Nat.lt_of_lt_of_le q.lt (by rw [z];exact hb)) (Nat.lt_irrefl _)
 ·exact absurd (Nat.lt_of_lt_of_le (Heap.lt_size (I.pin p hp).1) (by rw [z];exact hb)) (Nat.lt_irrefl _)
structure Turn (P:Program) (w:World) (K:W.Frag) (tg:Expr) (J:It) (fp:List Addr) (it:Addr) (tn:Nat->Heap->Prop):Prop where
 mem:it∈fp
 obj:∀ i h,tn i h->∀ b∈fp,∃ o,h.get? b=some o/\∀ v,o.data≠.cell v
 keep:∀ i h h',tn i h->(∀ b∈fp,∀ o,h.get? b=some o->h'.get? b=some o)->tn i h'
 item:∀ (X:Cx),X.prog=P->X.w=w->X.K=K->X.calm=true->∀ (i:Nat) (pins:List (Addr×Obj)) (s:Shared) (σ:St) (H:Hp) (E:Value->Shared->Prop),Inv X pins σ H s->(∀ b∈fp,FpOk X pins H b)->tn i s.heap->J.go i H ->
  wpAny (model P w) X.A (pyNext (.ref it)) (fun r s1=>∃ u,r=some u /\
   wpAny (model P w) X.A (letOwnedTupleGo tg (.ref it) u) (fun _ s2=>∃ x H',Inv X pins σ H' s2/\RelV x u/\J.yld i H x H'/\tn (i + 1) s2.heap/\∀ b∈fp,H' b=none) E s1) E s
 done:∀ (X:Cx),X.prog=P->X.w=w->X.K=K->X.calm=true->∀ (i:Nat) (pins:List (Addr×Obj)) (s:Shared) (σ:St) (H:Hp) (E:Value->Shared->Prop),Inv X pins σ H s->(∀ b∈fp,FpOk X pins H b)->tn i s.heap->J.stop i H ->
  wpAny (model P w) X.A (pyNext (.ref it)) (fun r s1=>r=none/\Inv X pins σ H s1) E s
 self:∀ (A:Around) (i:Nat) (s:Shared) (Q:Value->Shared->Prop) (E:Value->Shared->Prop),tn i s.heap->Q (.ref it) s->wpAny (model P w) A (pyIter (.ref it)) Q E s
abbrev TI:=St->Hp->(It->Hp->Prop)->Prop
def PIE (X:Cx) (pins:List (Addr×Obj)) (σ:St) (tg:Expr) (R:It->Hp->Prop) (itv:Value) (s2:Shared):Prop :=
 ∃ (it:Addr) (fp:List Addr) (tn:Nat->Heap->Prop) (J:It) (H':Hp),itv=.ref it/\Inv X pins σ H' s2/\Turn X.prog X.w X.K tg J fp it tn/\tn 0 s2.heap/\(∀ b∈fp,FpOk X pins H' b)/\R J H'
def PI (X:Cx) (tg iter:Expr) (wi:TI):Prop :=
 ∀ (pins:List (Addr×Obj)) (s:Shared) (σ:St) (H:Hp) (R:It->Hp->Prop),Inv X pins σ H s->wi σ H R ->
  wpAny (model X.prog X.w) X.A (eval iter X.env) (fun v s1=>wpAny (model X.prog X.w) X.A (pyIter v) (PIE X pins σ tg R) X.xe s1) X.xe s
theorem Qia {M : Model} {A : Around} {E : Value → Shared → Prop} {s : Shared} {tg : Expr} {it : Addr} {u : Value} {o : Obj} {n : String} {vs : Array Value} {Q : Unit → Shared → Prop} (ho : s.heap.get? it = some o) (hc : o.cls = .type n) (hd : o.data = .fields vs)
    (hn : ["enumerate", "zip", "dict_itemiterator", "dict_reverseitemiterator", "odict_iterator", "itertools.zip_longest", "itertools.pairwise"].contains n = false) (hQ : Q () s) : wpAny M A (letOwnedTupleGo tg (.ref it) u) Q E s := by
  unfold letOwnedTupleGo
  cases tg <;> first
    | exact wpAny_pure hQ
    | (cases u <;> first
        | exact wpAny_pure hQ
        | (refine wpAny_bind (wpAny_load ho ?_)
           rw [hc, hd]
           show wpAny M A (if (["enumerate", "zip", "dict_itemiterator", "dict_reverseitemiterator", "odict_iterator", "itertools.zip_longest", "itertools.pairwise"].contains n && vs[0]? == some (rawInt _)) = true then _ else _) Q E s
           rw [if_neg (by intro h; rw [hn, Bool.false_and] at h; cases h)]
           exact wpAny_pure hQ))
def Itl (K:W.Frag) (a:Addr):It :=
 ⟨fun i H=>∃ xs x,SqL K H a xs/\xs[i]? = some x,fun i H x H'=>H'=H/\∀ xs,SqL K H a xs->xs[i]? = some x,fun i H=>∃ xs,SqL K H a xs/\xs.length<=i⟩
def Itt (K:W.Frag) (a:Addr):It :=
 ⟨fun i H=>∃ xs x,SqT K H a xs/\xs[i]? = some x,fun i H x H'=>H'=H/\∀ xs,SqT K H a xs->xs[i]? = some x,fun i H=>∃ xs,SqT K H a xs/\xs.length<=i⟩
def Itr (lo:Int) (n:Nat):It:=⟨fun i _=>i < n,fun i H x H'=>H'=H/\x=.int (lo + i),fun i _=>n<=i⟩
theorem Qlo {P:Program} {w:World} {K:W.Frag} {tg:Expr} (a it:Addr):Turn P w K tg (Itl K a) [it] it (fun i h=>h.IsListIter it a i) where
 mem:=by simp
 obj:=fun i h st b hb=>by
  have e:b=it:=by simpa using hb
  subst e
  obtain ⟨o,e,c,d⟩:=st
  exact ⟨o,e,fun v z=>by rw [d] at z;cases z⟩
 keep:=fun i h h' st k=>st.at fun o e=>k it (by simp) o e
 item:=by
  intro X hP hw hK hc i pins s σ H E I hf st hg
  subst hP hw hK
  obtain ⟨xs,x,hq,hx⟩:=hg
  obtain ⟨its,rv,p,hz⟩:=I.list hq
  obtain ⟨u,hu,ru⟩:=rv.get hx
  obtain ⟨f0,f1,f2,f3,f4,f5⟩:=hf it (by simp)
  refine wpAny_pyNext_list_item st p.isList (x:=u) (by simpa using hu) fun h' st' sb=>?_
  have I1:Inv X pins σ H { s with heap:=h' }:=I.turned (t':=s.toks) (fun b o hb e=>(sb.2 b hb).trans e) f0 f1 f3 f4 f5
  obtain ⟨o,e,c,d⟩:=id st'
  exact ⟨u,rfl,Qia (s:={ s with heap:=h' }) e c d (by decide) ⟨x,H,I1,ru,⟨rfl,fun ys hy=>by rw [I.list_inj hy hq];exact hx⟩,st',fun b hb=>(hf b hb).1⟩⟩
 done:=by
  intro X hP hw hK hc i pins s σ H E I hf st hg
  subst hP hw hK
  obtain ⟨xs,hq,hx⟩:=hg
  obtain ⟨its,rv,p,hz⟩:=I.list hq
  obtain ⟨f0,f1,f2,f3,f4,f5⟩:=hf it (by simp)
  have hl:=rv.length
  exact wpAny_pyNext_list_end (I.ok.hd hc) st p.isList (by simp;omega) fun h' eb=>⟨rfl,I.turned (t':=s.toks) (fun b o hb e=>eb b o hb e) f0 f1 f3 f4 f5⟩
 self:=fun _ _ _ _ _ st h=>wpAny_pyIter_listiter st h
theorem Qjg {P:Program} {w:World} {K:W.Frag} {tg:Expr} (a it:Addr):Turn P w K tg (Itt K a) [it] it (fun i h=>h.IsTupleIter it a i) where
 mem:=by simp
 obj:=fun i h st b hb=>by
  have e:b=it:=by simpa using hb
  subst e
  obtain ⟨o,e,c,d⟩:=st
  exact ⟨o,e,fun v z=>by rw [d] at z;cases z⟩
 keep:=fun i h h' st k=>st.at fun o e=>k it (by simp) o e
 item:=by
  intro X hP hw hK hc i pins s σ H E I hf st hg
  subst hP hw hK
  obtain ⟨xs,x,hq,hx⟩:=hg
  obtain ⟨its,rv,p,hz⟩:=I.tuple hq
  obtain ⟨u,hu,ru⟩:=rv.get hx
  obtain ⟨f0,f1,f2,f3,f4,f5⟩:=hf it (by simp)
  refine wpAny_pyNext_tuple_item st (show s.heap.IsTuple a its.toArray from p) (x:=u) (by simpa using hu) fun h' st' sb=>?_
  have I1:Inv X pins σ H { s with heap:=h' }:=I.turned (t':=s.toks) (fun b o hb e=>(sb.2 b hb).trans e) f0 f1 f3 f4 f5
  obtain ⟨o,e,c,d⟩:=id st'
  exact ⟨u,rfl,Qia (s:={ s with heap:=h' }) e c d (by decide) ⟨x,H,I1,ru,⟨rfl,fun ys hy=>by rw [I.tuple_inj hy hq];exact hx⟩,st',fun b hb=>(hf b hb).1⟩⟩
 done:=by
  intro X hP hw hK hc i pins s σ H E I hf st hg
  subst hP hw hK
  obtain ⟨xs,hq,hx⟩:=hg
  obtain ⟨its,rv,p,hz⟩:=I.tuple hq
  obtain ⟨f0,f1,f2,f3,f4,f5⟩:=hf it (by simp)
  have hl:=rv.length
  exact wpAny_pyNext_tuple_end (I.ok.hd hc) st (show s.heap.IsTuple a its.toArray from p) (by simp;omega) fun h' eb=>⟨rfl,I.turned (t':=s.toks) (fun b o hb e=>eb b o hb e) f0 f1 f3 f4 f5⟩
 self:=fun _ _ _ _ _ st h=>wpAny_pyIter_tupleiter st h
theorem Qjf {P:Program} {w:World} {K:W.Frag} {tg:Expr} (it:Addr) (lo:Int) (n:Nat):Turn P w K tg (Itr lo n) [it] it (fun i h=>IsRangeIter h it (lo + (i:Nat) * 1) ((n:Int) - (i:Nat)) 1) where
 mem:=by simp
 obj:=fun i h st b hb=>by
  have e:b=it:=by simpa using hb
  subst e
  exact ⟨_,st,fun v z=>by
   have z':Data.fields _=Data.cell v:=z
   cases z'⟩
 keep:=fun i h h' st k=>k it (by simp) _ st
 item:=by
  intro X hP hw hK hc i pins s σ H E I hf st hg
  subst hP hw hK
  obtain ⟨f0,f1,f2,f3,f4,f5⟩:=hf it (by simp)
  have W:=Walks.range (prog:=X.prog) (w:=X.w) (I.ok.hd hc) it lo 1 n
  refine W.item i s _ _ hg st fun v h' tk hv st' kk=>?_
  obtain ⟨t,rfl⟩:=hv
  have I1:Inv X pins σ H { s with heap:=h',toks:=tk }:=I.turned (fun b o hb e=>kk b o (by simpa using hb) e) f0 f1 f3 f4 f5
  refine ⟨_,rfl,Qia (s:={ s with heap:=h',toks:=tk }) (n:="range_iterator") st' rfl rfl (by decide) ⟨.int (lo + i),H,I1,⟨t,?_⟩,⟨rfl,rfl⟩,st',fun b hb=>(hf b hb).1⟩⟩
  rw [Int.mul_one]
 done:=by
  intro X hP hw hK hc i pins s σ H E I hf st hg
  subst hP hw hK
  obtain ⟨f0,f1,f2,f3,f4,f5⟩:=hf it (by simp)
  exact wpAny_pyNext_range_end (I.ok.hd hc) st (by have:n<=i:=hg;omega) fun h' eb=>⟨rfl,I.turned (t':=s.toks) (fun b o hb e=>eb b o hb e) f0 f1 f3 f4 f5⟩
 self:=fun _ _ _ _ _ st h=>wpAny_pyIter_rangeiter st h
end L2
namespace L2
open PySem PySem.Spec PyProof.Rows
section
variable {X:Cx} {tg:Expr}
def iList (K:W.Frag) (tl:TE):TI:=fun σ H R=>tl σ H fun x H1=>∃ a,x=.ref a/\(∃ xs,SqL K H1 a xs)/\R (Itl K a) H1
def iTup (K:W.Frag) (tl:TE):TI:=fun σ H R=>tl σ H fun x H1=>∃ a,x=.ref a/\(∃ xs,SqT K H1 a xs)/\R (Itt K a) H1
theorem QeS {l:Expr} {tl:TE} (hl:PE X l tl):PI X tg l (iList X.K tl):=by
 intro pins s σ H R I h
 refine thn (hl pins s σ H _ I h) fun v s1 ⟨x,H1,I1,r1,q1⟩=>?_
 obtain ⟨a,e,⟨xs,hq⟩,q⟩:=q1
 subst e
 cases r1
 obtain ⟨its,rv,p,hz⟩:=I1.list hq
 refine wpAny_pyIter_list p.isList ?_
 refine ⟨s1.heap.objs.size,[s1.heap.objs.size],_,_,H1,rfl,I1.kept (t':=s1.toks) fun b o e=>Heap.get?_push_of_some _ e,Qlo a _,⟨_,Heap.get?_push_size _ rfl,rfl,rfl⟩,fun b hb=>?_,q⟩
 have e:b=s1.heap.objs.size:=by simpa using hb
 subst e
 exact I1.fpOk (Nat.le_refl _) (I1.hok.fresh (Nat.le_refl _))
theorem QmZ {l:Expr} {tl:TE} (hl:PE X l tl):PI X tg l (iTup X.K tl):=by
 intro pins s σ H R I h
 refine thn (hl pins s σ H _ I h) fun v s1 ⟨x,H1,I1,r1,q1⟩=>?_
 obtain ⟨a,e,⟨xs,hq⟩,q⟩:=q1
 subst e
 cases r1
 obtain ⟨its,rv,p,hz⟩:=I1.tuple hq
 refine wpAny_pyIter_tuple (show s1.heap.IsTuple a its.toArray from p) ?_
 refine ⟨s1.heap.objs.size,[s1.heap.objs.size],_,_,H1,rfl,I1.kept (t':=s1.toks) fun b o e=>Heap.get?_push_of_some _ e,Qjg a _,⟨_,Heap.get?_push_size _ rfl,rfl,rfl⟩,fun b hb=>?_,q⟩
 have e:b=s1.heap.objs.size:=by simpa using hb
 subst e
 exact I1.fpOk (Nat.le_refl _) (I1.hok.fresh (Nat.le_refl _))
theorem Qmm {pins:List (Addr×Obj)} {σ:St} {H:Hp} {s:Shared} {R:It->Hp->Prop} {E:Value->Shared->Prop} {lo hi:Int} {t u v:Tok} {tk:Nat} (I:Inv X pins σ H s) (h1:-(2 ^ 62)<=lo) (h2:lo < 2 ^ 62) (h3:-(2 ^ 62)<=hi) (h4:hi < 2 ^ 62)
  (q:R (Itr lo (hi - lo).toNat) H):wpAny (model X.prog X.w) X.A (pyIter (.ref s.heap.objs.size)) (PIE X pins σ tg R) E { s with heap:=s.heap.push { cls:=.type "range",data:=.fields #[.int lo t,.int hi u,.int 1 v] },toks:=tk }:=by
 refine wpAny_pyIter_range (IsRange.new ..) (small_one h1 h2 h3 h4) ?_
 have I1:Inv X pins σ H { s with heap:=s.heap.push { cls:=.type "range",data:=.fields #[.int lo t,.int hi u,.int 1 v] },toks:=tk }:=I.kept fun b o e=>Heap.get?_push_of_some _ e
 refine ⟨(s.heap.push { cls:=.type "range",data:=.fields #[.int lo t,.int hi u,.int 1 v] }).objs.size,[(s.heap.push { cls:=.type "range",data:=.fields #[.int lo t,.int hi u,.int 1 v] }).objs.size],_,_,H,rfl,
  I1.kept (t':=tk) fun b o e=>Heap.get?_push_of_some _ e,Qjf _ lo (hi - lo).toNat,?_,fun b hb=>?_,q⟩
 ·have e1:lo + ((0:Nat):Int) * 1=lo:=by simp
  have e2:(((hi - lo).toNat:Nat):Int) - ((0:Nat):Int)=Builtin.Range.rangeSize lo hi 1:=by rw [rangeSize_one];split <;> omega
  show IsRangeIter _ _ (lo + ((0:Nat):Int) * 1) ((((hi - lo).toNat:Nat):Int) - ((0:Nat):Int)) 1
  rw [e1,e2]
  exact Heap.get?_push_size _ rfl
 ·have e:b=(s.heap.push { cls:=.type "range",data:=.fields #[.int lo t,.int hi u,.int 1 v] }).objs.size:=by simpa using hb
  subst e
  exact I1.fpOk (Nat.le_refl _) (I1.hok.fresh (Nat.le_refl _))
def iRng1 (ta:TA):TI:=fun σ H R=>ta σ H fun vs H1=>∃ j:Int,vs=[.int j]/\-(2 ^ 62)<=j/\j < 2 ^ 62/\R (Itr 0 j.toNat) H1
theorem Qgs {a:Expr} {ta:TA} {p pos:Pos} (hg:Gl X "range") (hm:X.mg "range" = none) (ha:PA X [a] ta) (hs:starEach [a] X.env=[(false,eval a X.env)]:=by rfl):PI X tg (.Call (.Name "range" p) [a] [] pos) (iRng1 ta):=by
 intro pins s σ H R I h
 refine Call_ (QcL I hg hm boot_range (PyProof.Rows.callWith_type1 (thn (ha pos pins s σ H _ I h) fun us s1 ⟨vs,H1,I1,r1,q1⟩=>?_) hs rfl))
 obtain ⟨j,e,q1,q2,q⟩:=q1
 subst e
 cases r1 with
 | cons r rr =>
  cases rr
  obtain ⟨t,rfl⟩:=r
  exact call_range_1 (Qmm I1 (by omega) (by omega) q1 q2 (by simpa using q))
def tFor (wi:TI) (g:TG) (tb:TS):TS:=fun D σ H=>wi σ H fun J H1=>∃ W:Nat->Nat->St->Hp->Prop,(∃ m,W 0 m σ H1)/\∀ i m σ H,W i m σ H ->
 (J.stop i H/\D.nx σ H)\/(J.go i H/\∃ N:St->Hp->Prop,(∀ σ' H',N σ' H'->∃ m',m' < m/\W (i + 1) m' σ' H')/\∀ x H',J.yld i H x H'->g x σ H' fun σ2 H2=>tb { D with nx:=N,ct:=N,bk:=D.nx } σ2 H2)
def Qen (fp:List Addr) (h:Heap):List (Addr×Obj):=fp.filterMap fun b=>(h.get? b).map fun o=>(b,o)
theorem QbN {fp:List Addr} {h:Heap} {b:Addr} {o:Obj} (hb:b∈fp) (e:h.get? b=some o):(b,o)∈Qen fp h:=List.mem_filterMap.mpr ⟨b,hb,by rw [e];rfl⟩
theorem Qlp {fp:List Addr} {h:Heap} {p:Addr×Obj} (hp:p∈Qen fp h):p.1∈fp/\h.get? p.1=some p.2:=by
 obtain ⟨b,hb,e⟩:=List.mem_filterMap.mp hp
 cases q:h.get? b with
 | none=>rw [q] at e;cases e
 | some o =>
  rw [q] at e
  have e':(b,o)=p:=Option.some.inj e
  subst e'
  exact ⟨hb,q⟩
theorem Inv.pinned {pins:List (Addr×Obj)} {σ:St} {H:Hp} {s:Shared} {fp:List Addr} (I:Inv X pins σ H s) (hf:∀ b∈fp,FpOk X pins H b) (ho:∀ b∈fp,∃ o,s.heap.get? b=some o/\∀ v,o.data≠.cell v):Inv X (pins++Qen fp s.heap) σ H s :=
 I.pins_of fun p hp=>(List.mem_append.mp hp).elim (fun z=>I.pin p (List.mem_append_right _ z)) fun z=>by
  obtain ⟨hb,e⟩:=Qlp z
  obtain ⟨f0,f1,f2,_⟩:=hf p.1 hb
  obtain ⟨o,e',d⟩:=ho p.1 hb
  rw [e] at e';cases e'
  exact ⟨e,f0,f1,f2,d⟩
theorem Inv.unpinned {pins pl:List (Addr×Obj)} {σ:St} {H:Hp} {s:Shared} (I:Inv X (pins++pl) σ H s):Inv X pins σ H s:=I.pins_of fun p hp=>I.pin p (List.mem_append_right _ (List.mem_append_left _ hp))
theorem Qd5 {iter:Expr} {body:List Stmt} {wi:TI} {g:TG} {tb:TS} {pos:Pos} (hp:PassesOwn (model X.prog X.w) X.A X.env X.xe) (hc:X.calm=true) (hi:PI X tg iter wi) (hg:PG X tg g) (hb:PSs X body tb)
  (hs:∀ x,foldedSetIterable iter X.env x=pure x:=by intro _;rfl):PS X (.For tg iter body [] pos) (tFor wi g tb):=by
 intro pins s σ H D I h
 refine wpAny_For (thn (hi pins s σ H _ I h) fun v s1 h1=>thn h1 fun itv s2 h2=>?_) hs
 obtain ⟨it,fp,tn,J,H2,e,I2,T,st2,f2,W,⟨m0,w0⟩,turn⟩:=h2
 subst e
 have stat:∀ {H':Hp},(∀ b∈fp,H' b=none)->∀ b∈fp,FpOk X pins H' b:=fun hn b hb=>⟨hn b hb,(f2 b hb).2⟩
 refine codeAny_forLoop_any (fun n s'=>∃ i σ' H',Inv X pins σ' H' s'/\tn i s'.heap/\(∀ b∈fp,H' b=none)/\W i n σ' H') ?_ m0 ⟨0,σ,H2,I2,st2,fun b hb=>(f2 b hb).1,w0⟩
 rintro n s3 ⟨i,σ3,H3,I3,st3,fr3,w3⟩
 rcases turn i n σ3 H3 w3 with ⟨stop,qn⟩ | ⟨go,N,hN,step⟩
 ·refine wpAny_passesOwn hp (thn (T.done X rfl rfl rfl hc i pins s3 σ3 H3 X.xe I3 (stat fr3) st3 stop) fun r s4 ⟨hr,I4⟩=>?_)
  subst hr
  exact wpAny_execs_nil ⟨σ3,H3,I4,qn⟩
 ·refine wpAny_passesOwn hp (thn (T.item X rfl rfl rfl hc i pins s3 σ3 H3 X.xe I3 (stat fr3) st3 go) fun r s4 ⟨u,hr,h4⟩=>?_)
  subst hr
  refine wpAny_passesOwn hp (thn h4 fun _ s5 ⟨x,H5,I5,r5,y5,st5,fr5⟩=>?_)
  have I5':=I5.pinned (stat fr5) (T.obj _ _ st5)
  refine wpAny_passesOwn hp (thn (hg _ s5 σ3 H5 x u _ I5' r5 (step x H5 y5)) fun _ s6 ⟨σ6,H6,I6,q6⟩=>?_)
  refine wpAny_passesOwn hp (thn (hb _ s6 σ6 H6 _ I6 q6) fun f s7 q7=>?_)
  have again:∀ {σ7:St} {H7:Hp},Inv X (pins++Qen fp s5.heap) σ7 H7 s7->N σ7 H7->∃ m,m < n/\∃ i σ' H',Inv X pins σ' H' s7/\tn i s7.heap/\(∀ b∈fp,H' b=none)/\W i m σ' H':=fun {σ7 H7} I7 n7=>by
   obtain ⟨m',hm,w7⟩:=hN σ7 H7 n7
   refine ⟨m',hm,i + 1,σ7,H7,I7.unpinned,T.keep _ _ _ st5 fun b hb o e=>(I7.pin (b,o) (List.mem_append_right _ (List.mem_append_right _ (QbN hb e)))).1,fun b hb=>?_,w7⟩
   obtain ⟨o,e,d⟩:=T.obj _ _ st5 b hb
   exact (I7.pin (b,o) (List.mem_append_right _ (List.mem_append_right _ (QbN hb e)))).2.1
  cases f with
  | next=>obtain ⟨σ7,H7,I7,n7⟩:=q7;exact again I7 n7
  | cont=>obtain ⟨σ7,H7,I7,n7⟩:=q7;exact again I7 n7
  | brk=>obtain ⟨σ7,H7,I7,q7⟩:=q7;exact ⟨σ7,H7,I7.unpinned,q7⟩
  | ret v=>obtain ⟨x7,σ7,H7,I7,r7,q7⟩:=q7;exact ⟨x7,σ7,H7,I7.unpinned,r7,q7⟩
end
end L2
namespace L2
open PySem PySem.Spec PyProof.Rows
abbrev R2:=V->V->Hp->VK->Prop
def OpR (X:Cx) (f:Value->Value->Sem Value) (r:R2):Prop :=
 ∀ (pins:List (Addr×Obj)) (s:Shared) (σ:St) (H:Hp) (x y:V) (v u:Value) (Q:VK),Inv X pins σ H s->RelV x v->RelV y u->r x y H Q ->
  wpAny (model X.prog X.w) X.A (f v u) (EP X pins σ Q) X.xe s
def UnR (X:Cx) (f:Value->Sem Value) (r:V->Hp->VK->Prop):Prop :=
 ∀ (pins:List (Addr×Obj)) (s:Shared) (σ:St) (H:Hp) (x:V) (v:Value) (Q:VK),Inv X pins σ H s->RelV x v->r x H Q ->
  wpAny (model X.prog X.w) X.A (f v) (EP X pins σ Q) X.xe s
def CallR (X:Cx) (f:Value) (r:List V->Hp->VK->Prop):Prop :=
 ∀ (pins:List (Addr×Obj)) (s:Shared) (σ:St) (H:Hp) (xs:List V) (us:List Value) (Q:VK),Inv X pins σ H s->Vals xs us->r xs H Q ->
  wpAny (model X.prog X.w) X.A (call f us) (EP X pins σ Q) X.xe s
def TruR (X:Cx) (r:V->Hp->(Bool->Hp->Prop)->Prop):Prop :=
 ∀ (pins:List (Addr×Obj)) (s:Shared) (σ:St) (H:Hp) (x:V) (v:Value) (Q:Bool->Hp->Prop),Inv X pins σ H s->RelV x v->r x H Q ->
  wpAny (model X.prog X.w) X.A (truthy v) (TP X pins σ Q) X.xe s
def tOp (r:R2) (ta tb:TE):TE:=fun σ H Q=>ta σ H fun x H1=>tb σ H1 fun y H2=>r x y H2 Q
def tUn (r:V->Hp->VK->Prop) (ta:TE):TE:=fun σ H Q=>ta σ H fun x H1=>r x H1 Q
def rI (C:Int->Int->Prop) (g:Int->Int->V):R2:=fun x y H Q=>∃ i j,x=.int i/\y=.int j/\C i j/\Q (g i j) H
def rI0 (g:Int->Int->V):R2:=fun x y H Q=>∃ i j,x=.int i/\y=.int j/\Q (g i j) H
def rU (g:Int->V):V->Hp->VK->Prop:=fun x H Q=>∃ i,x=.int i/\Q (g i) H
section
variable {X:Cx} {a b c:Expr} {ta tb tc:TE} {pos:Pos}
theorem binT (ha:PE X a ta) (hb:PE X b tb) {pins:List (Addr×Obj)} {s:Shared} {σ:St} {H:Hp} {R:V->V->Hp->Prop} (I:Inv X pins σ H s)
  (h:ta σ H fun x H1=>tb σ H1 fun y H2=>R x y H2) {Q:Value->Shared->Prop} {f:Value->Value->Sem Value}
  (hf:∀ v u s2 x y H2,Inv X pins σ H2 s2->RelV x v->RelV y u->R x y H2->wpAny (model X.prog X.w) X.A (f v u) Q X.xe s2) :
  wpAny (model X.prog X.w) X.A (eval a X.env) (fun v s₁=>wpAny (model X.prog X.w) X.A (eval b X.env) (fun u s₂=>wpAny (model X.prog X.w) X.A (f v u) Q X.xe s₂) X.xe s₁) X.xe s:=by
 refine thn (ha pins s σ H _ I h) fun v s1 ⟨x,H1,I1,r1,q1⟩=>?_
 refine thn (hb pins s1 σ H1 _ I1 q1) fun u s2 ⟨y,H2,I2,r2,q2⟩=>?_
 exact hf v u s2 x y H2 I2 r1 r2 q2
theorem QlK {op:Operator} {r:R2} (ho:OpR X (binaryOp op) r) (ha:PE X a ta) (hb:PE X b tb):PE X (.BinOp a op b pos) (tOp r ta tb):=by
 intro pins s σ H Q I h
 exact wpAny_BinOp (binT ha hb I h fun v u s2 x y H2 I2 rx ry q=>ho pins s2 σ H2 x y v u Q I2 rx ry q)
theorem pe_un {op:UnaryOp} {r:V->Hp->VK->Prop} (ho:UnR X (unaryOp op) r) (ha:PE X a ta):PE X (.UnaryOp op a pos) (tUn r ta):=by
 intro pins s σ H Q I h
 exact UnaryOp_ (thn (ha pins s σ H _ I h) fun v s1 ⟨x,H1,I1,r1,q1⟩=>ho pins s1 σ H1 x v Q I1 r1 q1)
theorem opI {f:Value->Value->Sem Value} {C:Int->Int->Prop} {g:Int->Int->Int}
  (rule:∀ (i j:Int) (t u:Tok) (s:Shared) (Q:Value->Shared->Prop) (E:Value->Shared->Prop),C i j->Q (.int (g i j) s.toks) { s with toks:=s.toks + 1 }->wpAny (model X.prog X.w) X.A (f (.int i t) (.int j u)) Q E s) :
  OpR X f (rI C fun i j=>.int (g i j)):=by
 intro pins s σ H x y v u Q I rx ry h
 obtain ⟨i,j,rfl,rfl,hc,q⟩:=h
 obtain ⟨t,rfl⟩:=rx
 obtain ⟨t',rfl⟩:=ry
 exact rule i j t t' s _ _ hc ⟨.int (g i j),H,I.tok _,⟨_,rfl⟩,q⟩
theorem opI0 {f:Value->Value->Sem Value} {g:Int->Int->Int}
  (rule:∀ (i j:Int) (t u:Tok) (s:Shared) (Q:Value->Shared->Prop) (E:Value->Shared->Prop),Q (.int (g i j) s.toks) { s with toks:=s.toks + 1 }->wpAny (model X.prog X.w) X.A (f (.int i t) (.int j u)) Q E s) :
  OpR X f (rI0 fun i j=>.int (g i j)):=by
 intro pins s σ H x y v u Q I rx ry h
 obtain ⟨i,j,rfl,rfl,q⟩:=h
 obtain ⟨t,rfl⟩:=rx
 obtain ⟨t',rfl⟩:=ry
 exact rule i j t t' s _ _ ⟨.int (g i j),H,I.tok _,⟨_,rfl⟩,q⟩
theorem opB0 {f:Value->Value->Sem Value} {g:Int->Int->Bool}
  (rule:∀ (i j:Int) (t u:Tok) (s:Shared) (Q:Value->Shared->Prop) (E:Value->Shared->Prop),Q (.bool (g i j)) s->wpAny (model X.prog X.w) X.A (f (.int i t) (.int j u)) Q E s) :
  OpR X f (rI0 fun i j=>.bl (g i j)):=by
 intro pins s σ H x y v u Q I rx ry h
 obtain ⟨i,j,rfl,rfl,q⟩:=h
 obtain ⟨t,rfl⟩:=rx
 obtain ⟨t',rfl⟩:=ry
 exact rule i j t t' s _ _ ⟨.bl (g i j),H,I,rfl,q⟩
def CPow (i j:Int):Prop:=0<=j/\j<=1000000/\i.natAbs < 2 ^ 64
def CMul (i j:Int):Prop:=(-(2 ^ 64) < i/\i < 2 ^ 64)\/(-(2 ^ 64) < j/\j < 2 ^ 64)
theorem CMul.ok {i j:Int} (h:CMul i j):IntMulOk i j:=by
 rcases h with ⟨h1,h2⟩ | ⟨h1,h2⟩
 ·exact .of_left (intBits_le_64 h1 h2)
 ·exact .of_right (intBits_le_64 h1 h2)
theorem Qpq:OpR X (binaryOp .Add) (rI0 fun i j=>.int (i + j)):=opI0 fun _ _ _ _ _ _ _ q=>add_int q
theorem QpJ:OpR X (binaryOp .Sub) (rI0 fun i j=>.int (i - j)):=opI0 fun _ _ _ _ _ _ _ q=>sub_int q
theorem Qo4:OpR X (binaryOp .Mult) (rI CMul fun i j=>.int (i * j)):=opI fun _ _ _ _ _ _ _ hc q=>mul_int q hc.ok
theorem Qpg:OpR X (binaryOp .Mod) (rI (fun _ j=>0 < j) fun i j=>.int (i % j)):=opI fun i j _ _ _ _ _ hc q=>by
 have h1:(0:Int) < j:=hc
 exact mod_int' (by omega) (by rw [Int.fmod_eq_emod_of_nonneg i (by omega)];exact q)
theorem Qpl:OpR X (binaryOp .Pow) (rI CPow fun i j=>.int (i ^ j.toNat)):=opI fun _ _ _ _ _ _ _ hc q=>pow_int_small hc.1 hc.2.1 hc.2.2 q
theorem Qo9:OpR X (binaryOp .LShift) (rI CPow fun i j=>.int (i * 2 ^ j.toNat)):=opI fun _ _ _ _ _ _ _ hc q=>lshift_int_small hc.1 hc.2.1 hc.2.2 q
theorem Qp0:OpR X (binaryOp .BitXor) (rI0 fun i j=>.int (Builtin.bitXor i j)):=opI0 fun _ _ _ _ _ _ _ q=>xor_int q
theorem unI {f:Value->Sem Value} {g:Int->Int}
  (rule:∀ (i:Int) (t:Tok) (s:Shared) (Q:Value->Shared->Prop) (E:Value->Shared->Prop),Q (.int (g i) s.toks) { s with toks:=s.toks + 1 }->wpAny (model X.prog X.w) X.A (f (.int i t)) Q E s) :
  UnR X f (rU fun i=>.int (g i)):=by
 intro pins s σ H x v Q I rx h
 obtain ⟨i,rfl,q⟩:=h
 obtain ⟨t,rfl⟩:=rx
 exact rule i t s _ _ ⟨.int (g i),H,I.tok _,⟨_,rfl⟩,q⟩
theorem Qpy:UnR X (unaryOp .USub) (rU fun i=>.int (-i)):=unI fun _ _ _ _ _ q=>neg_int q
end
section
variable {X:Cx} {a b c:Expr} {ta tb tc:TE} {pos:Pos}
theorem op_lt:OpR X (compareOp .Lt) (rI0 fun i j=>.bl (decide (i < j))):=opB0 fun _ _ _ _ _ _ _ q=>lt_int q
theorem op_le:OpR X (compareOp .LtE) (rI0 fun i j=>.bl (decide (i<=j))):=opB0 fun _ _ _ _ _ _ _ q=>le_int q
theorem op_gt:OpR X (compareOp .Gt) (rI0 fun i j=>.bl (decide (j < i))):=opB0 fun _ _ _ _ _ _ _ q=>gt_int q
theorem op_ge:OpR X (compareOp .GtE) (rI0 fun i j=>.bl (decide (j<=i))):=opB0 fun _ _ _ _ _ _ _ q=>ge_int q
theorem OpR.or {f:Value->Value->Sem Value} {r r':R2} (h:OpR X f r) (h':OpR X f r'):OpR X f (fun x y H Q=>r x y H Q\/r' x y H Q):=by
 intro pins s σ H x y v u Q I rx ry q
 rcases q with q | q
 ·exact h pins s σ H x y v u Q I rx ry q
 ·exact h' pins s σ H x y v u Q I rx ry q
theorem Qj (b:Expr) {op:CmpOp} (h:op≠.In:=by decide) (h2:op≠.NotIn:=by decide):behindInMarks op b=false:=by
 have e1:(op == CmpOp.In)=false:=by cases op <;> first | rfl | exact absurd rfl h
 have e2:(op == CmpOp.NotIn)=false:=by cases op <;> first | rfl | exact absurd rfl h2
 cases b <;> simp [behindInMarks,e1,e2]
theorem QnD {op:CmpOp} {r:R2} (ho:OpR X (compareOp op) r) (ha:PE X a ta) (hb:PE X b tb) (hm:behindInMarks op b=false):PE X (.Compare a [op] [b] pos) (tOp r ta tb):=by
 intro pins s σ H Q I h
 exact wpAny_Compare1 (binT ha hb I h fun v u s2 x y H2 I2 rx ry q=>ho pins s2 σ H2 x y v u Q I2 rx ry q) hm
def tTest (t:TE):TT:=fun σ H Q=>t σ H fun x H'=>∃ k,x=.bl k/\Q k H'
theorem QnV {op:CmpOp} {r:R2} (ho:OpR X (compareOp op) r) (ha:PE X a ta) (hb:PE X b tb) (hm:behindInMarks op b=false):PT X (.Compare a [op] [b] pos) (tTest (tOp r ta tb)):=by
 intro pins s σ H Q I h
 refine wpAny_isTrue_Compare1 (thn (ha pins s σ H _ I h) fun v s1 ⟨x,H1,I1,r1,q1⟩=>thn (hb pins s1 σ H1 _ I1 q1) fun u s2 ⟨y,H2,I2,r2,q2⟩ =>
  thn (ho pins s2 σ H2 x y v u _ I2 r1 r2 q2) fun c s3 ⟨z,H3,I3,r3,k,e,q3⟩=>?_) hm
 subst e
 cases r3
 exact wpAny_truthy_bool ⟨H3,I3,q3⟩
def QlB (r r':R2) (ta tb tc:TE):TE:=fun σ H Q=>ta σ H fun x H1=>tb σ H1 fun y H2=>r x y H2 fun z H3=>∃ k,z=.bl k /\
 (if k=true then tc σ H3 fun w' H4=>r' y w' H4 Q else Q (.bl false) H3)
theorem Qmf {op op':CmpOp} {r r':R2} (ho:OpR X (compareOp op) r) (ho':OpR X (compareOp op') r') (ha:PE X a ta) (hb:PE X b tb) (hc:PE X c tc)
  (hm:lastMarks [op,op'] [b,c]=false:=by with_unfolding_all rfl):PE X (.Compare a [op,op'] [b,c] pos) (QlB r r' ta tb tc):=by
 intro pins s σ H Q I h
 refine Compare_chain (thn (ha pins s σ H _ I h) fun v s1 ⟨x,H1,I1,r1,q1⟩=>chain_link (thn (hb pins s1 σ H1 _ I1 q1) fun u s2 ⟨y,H2,I2,r2,q2⟩ =>
  thn (ho pins s2 σ H2 x y v u _ I2 r1 r2 q2) fun d s3 ⟨z,H3,I3,r3,k,e,q3⟩=>?_)) hm
 subst e
 cases r3
 refine wpAny_truthy_bool ?_
 cases k with
 | false=>exact ite_ff ⟨.bl false,H3,I3,rfl,q3⟩
 | true=>exact ite_tt (chain_last (thn (hc pins s3 σ H3 _ I3 q3) fun w' s4 ⟨z',H4,I4,r4,q4⟩=>ho' pins s4 σ H4 y z' u w' Q I4 r2 r4 q4))
def TruV (K:W.Frag) (x:V) (H:Hp) (k:Bool):Prop :=
 match x with
 | .non=>k=false
 | .bl b=>k=b
 | .int i=>k=(i != 0)
 | .str y=>y.length<=sizeLine/\k=((y.length:Int) != 0)
 | .byt y=>y.size<=sizeLine/\k=((y.size:Int) != 0)
 | .ref p=>(∃ xs,SqL K H p xs/\k=!xs.isEmpty)\/(∃ xs,SqT K H p xs/\k=!xs.isEmpty)\/∃ kvs,H p=some (.dK kvs)/\k=!kvs.isEmpty
 | _=>False
theorem QiX {κ:Type} {kvs:List (κ×V)} {vs:List (κ×Value)} (r:KV kvs vs):(!vs.isEmpty)=!kvs.isEmpty:=by
 cases r <;> rfl
theorem QfG {xs:List V} {its:List Value} (r:Vals xs its):(!its.toArray.isEmpty)=!xs.isEmpty:=by
 cases r <;> simp
theorem Qdc:(sizeLine:Nat) < 2 ^ 63:=by rw [sizeLine_eq];decide
theorem Qpd:TruR X (fun x H Q=>∃ k,TruV X.K x H k/\Q k H):=by
 intro pins s σ H x v Q I rx h
 obtain ⟨k,e,q⟩:=h
 have hl:=Qdc
 have hs:sizeLine=16777216:=sizeLine_eq
 cases x with
 | non =>
  cases rx
  have e':k=false:=e
  subst e'
  exact truthy_none ⟨H,I,q⟩
 | bl b =>
  cases rx
  have e':k=b:=e
  subst e'
  exact wpAny_truthy_bool ⟨H,I,q⟩
 | int i =>
  obtain ⟨t,rfl⟩:=rx
  have e':k=(i != 0):=e
  subst e'
  exact PySem.P.truthy_int ⟨H,I,q⟩
 | str y =>
  obtain ⟨t,rfl⟩:=rx
  obtain ⟨hy,e'⟩:y.length<=sizeLine/\k=((y.length:Int) != 0):=e
  subst e'
  exact PySem.P.truthy_str (by omega) ⟨H,I.tok _,q⟩
 | byt y =>
  obtain ⟨t,rfl⟩:=rx
  obtain ⟨hy,e'⟩:y.size<=sizeLine/\k=((y.size:Int) != 0):=e
  subst e'
  exact W.truthy_bytes (by omega) ⟨H,I.tok _,q⟩
 | ref p =>
  cases rx
  have e':(∃ xs,SqL X.K H p xs/\k=!xs.isEmpty)\/(∃ xs,SqT X.K H p xs/\k=!xs.isEmpty)\/∃ kvs,H p=some (.dK kvs)/\k=!kvs.isEmpty:=e
  rcases e' with ⟨xs,hx,e'⟩ | ⟨xs,hx,e'⟩ | ⟨kvs,hx,e'⟩
  ·subst e'
   obtain ⟨its,r,pl,hz⟩:=I.list hx
   have hlen:=r.length
   exact wpAny_truthy_list pl.isList (by simp only [List.size_toArray];omega) ⟨H,I.tok _,by rw [QfG r];exact q⟩
  ·subst e'
   obtain ⟨its,r,pl,hz⟩:=I.tuple hx
   have hlen:=r.length
   exact truthy_tuple pl (by simp only [List.size_toArray];omega) ⟨H,I.tok _,by rw [QfG r];exact q⟩
  ·subst e'
   obtain ⟨hz,hS,vs,r,m⟩:kvs.length<=sizeLine/\(p == sysModules)=false/\∃ vs,KV kvs vs/\s.heap.DictOf (QG X.prog X.w) p vs:=I.hok p _ hx
   have hlen:kvs.length=vs.length:=Paired.length r
   exact wpAny_truthy_dict hS m (by omega) ⟨H,I.tok _,by rw [QiX r];exact q⟩
 | _=>exact (show False from e).elim
theorem Qm7 (ha:PE X a ta) (he:∀ whole,isTrue a X.env whole=(do let v ← whole;standAt a.pos;holding [v] (truthy v))) :
  PT X a (fun σ H Q=>ta σ H fun x H'=>∃ k,TruV X.K x H' k/\Q k H'):=by
 intro pins s σ H Q I h
 exact isTrue_plain (thn (ha pins s σ H _ I h) fun v s1 ⟨x,H1,I1,r1,q1⟩=>Qpd pins s1 σ H1 x v Q I1 r1 q1) (he _)
theorem Qjs:OpR X (binaryOp .Add) (fun x y H Q=>∃ i j,x=.str i/\y=.str j/\i.length + j.length<=sizeLine/\Q (.str (i++j)) H):=by
 intro pins s σ H x y v u Q I rx ry h
 obtain ⟨i,j,rfl,rfl,hz,q⟩:=h
 obtain ⟨t,rfl⟩:=rx
 obtain ⟨t',rfl⟩:=ry
 exact add_str (fun t' tk=>⟨.str (i++j),H,I.tok _,⟨_,rfl⟩,q⟩) hz
theorem Qct {x:V} {us:List Value} (r:Vals [x] us):∃ u,us=[u]/\RelV x u:=by
 cases r with
 | cons r1 r2=>cases r2;exact ⟨_,rfl,r1⟩
theorem QjO {x y:V} {us:List Value} (r:Vals [x,y] us):∃ u w',us=[u,w']/\RelV x u/\RelV y w':=by
 cases r with
 | cons r1 r2 =>
  cases r2 with
  | cons r3 r4=>cases r4;exact ⟨_,_,rfl,r1,r3⟩
theorem QkL (hc:X.calm=true):CallR X (.builtin "max") (fun xs H Q=>∃ i j,xs=[.int i,.int j]/\Q (.int (if j > i then j else i)) H):=by
 intro pins s σ H xs us Q I r h
 obtain ⟨i,j,rfl,q⟩:=h
 obtain ⟨u,w',rfl,⟨t,rfl⟩,⟨t',rfl⟩⟩:=QjO r
 refine max_two_ints (I.ok.hd hc) fun h' tk k=>⟨_,H,I.kept k,?_,q⟩
 by_cases hj:j > i
 ·rw [if_pos hj,if_pos hj];exact ⟨_,rfl⟩
 ·rw [if_neg hj,if_neg hj];exact ⟨_,rfl⟩
theorem Qly (hc:X.calm=true):CallR X (.builtin "min") (fun xs H Q=>∃ i j,xs=[.int i,.int j]/\Q (.int (if j < i then j else i)) H):=by
 intro pins s σ H xs us Q I r h
 obtain ⟨i,j,rfl,q⟩:=h
 obtain ⟨u,w',rfl,⟨t,rfl⟩,⟨t',rfl⟩⟩:=QjO r
 refine min_two_ints (I.ok.hd hc) fun h' tk k=>⟨_,H,I.kept k,?_,q⟩
 by_cases hj:j < i
 ·rw [if_pos hj,if_pos hj];exact ⟨_,rfl⟩
 ·rw [if_neg hj,if_neg hj];exact ⟨_,rfl⟩
end
end L2
namespace L2
open PySem PySem.Spec PyProof.Rows
structure ObjM (h:Heap) (x dx C:Addr) (mA:Str->Option Value):Prop where
 obj:h.get? x=some (W.instObj C dx)
 ns:h.Ns1 dx mA
 ne:dx≠x
theorem Qlg {h:Heap} {dx:Addr} {mA:Str->Option Value} (n:h.Ns1 dx mA):∃ od,h.get? dx=some od/\∀ name,W.lookIn name od=some (mA name):=by
 obtain ⟨o,es,ep,ho,hd,hk,_,hm⟩:=n
 refine ⟨o,ho,fun name=>?_⟩
 have e:=hm name
 unfold nsFind findBy at e
 rw [← Array.find?_toList] at e
 unfold W.lookIn
 rw [hd]
 dsimp only
 split
 ·rename_i y q
  rw [q] at e
  exact congrArg some e
 ·rename_i q
  rw [q] at e
  have a:es.toList.any (·.refKey)=false:=by
   rw [List.any_eq_false]
   intro y hy
   obtain ⟨z,t,hkey⟩:=hk y (Array.mem_toList_iff.mp hy)
   simp [DictEntry.refKey,hkey]
  have a':¬ es.toList.any (·.refKey)=true:=by rw [a];exact Bool.false_ne_true
  rw [if_neg a']
  exact congrArg some e
theorem ObjM.look {h:Heap} {x dx C:Addr} {mA:Str->Option Value} (I:ObjM h x dx C mA):∃ od,W.InstAt h x (W.instObj C dx) C (some od)/\∀ name,W.lookIn name od=some (mA name) :=
 let ⟨od,ho,hl⟩:=Qlg I.ns
 ⟨od,⟨I.obj,rfl,rfl,ho⟩,hl⟩
section
variable {prog:Program} {w:World} {A:Around} {E:Value->Shared->Prop} {s:Shared} {K:W.Frag} {x dx C f:Addr} {mA:Str->Option Value} {name:Str} {v:Value}
theorem QmX {pl:Sem Bool} {Q:Value×List Value->Shared->Prop} (X:K.In s.heap) (I:ObjM s.heap x dx C mA) (hg:W.plainGet K C name=true)
  (hf:W.findIn K (.ref C) name=some (some (.ref f))) (ht:W.isFn K (.ref f)=true) (hv:mA name=none) (h:Q (.ref f,[.ref x]) s) :
  wpAny (model prog w) A (getMethod (.ref x) name pl) Q E s:=by
 obtain ⟨od,J,hl⟩:=I.look
 exact W.method_fn X J (W.plainGet_of hg).1 (W.plainGet_of hg).2 hf (beq_iff_eq.mp ht) (by show (W.lookIn name od).map (·.isSome)=some false;rw [hl,hv];rfl) h
theorem Qlw {R:Result->Shared->Prop} (X:K.In s.heap) (hm:W.makesIn K C=true)
  (hi:W.findIn K (.ref C) "__init__" = some (some (.builtin "object.__init__")))
  (hb:∀ self,W.Looks (model prog w) s.heap (bindSpecial (.builtin "object.__init__") self) (.builtin "object.__init__",[self]))
  (h:codeAny (model prog w) (A.under (.builtin "type.__call__" ⟨[.ref C],[]⟩)) (.call (.builtin "object.__init__") ⟨[.ref (s.heap.objs.size + 1)],[]⟩) (W.InitBack (s.heap.objs.size + 1) R)
   { s with heap:=(s.heap.push W.emptyDict).push (W.instObj C s.heap.objs.size) }) :
  codeAny (model prog w) A (.call (.ref C) ⟨[],[]⟩) R s:=by
 obtain ⟨hh,g,d,t,os⟩:=s
 exact W.make_core (W.makes_of X hm) (W.looks_findIn X hi) hb (.inr ⟨rfl,rfl⟩) h
end
theorem RelO.some_of {v:V} {o:Option Value} (r:RelO (some v) o):∃ u,o=some u/\RelV v u:=by
 cases o with
 | none=>exact (show False from r).elim
 | some u=>exact ⟨u,rfl,r⟩
theorem RelO.none_of {o:Option Value} (r:RelO none o):o=none:=by
 cases o with
 | none=>rfl
 | some u=>exact (show False from r).elim
section
variable {P:Program} {w:World} {H H':Hp} {h h':Heap} {a C dx:Addr} {fs fs':List (Str×V)}
theorem Qoc (hok:HOk P w H h) (e:H a=some (.ins C dx fs)):∃ mA,ObjM h a dx C mA/\(∀ f,RelO (fs.lookup f) (mA f))/\PySem.Within mA (fs.map (·.1))/\fs.length<=1000/\H dx=some (.own a):=by
 obtain ⟨d,z,ne,ob,mA,n,r,q⟩:=(show ObjOk P w H h a (.ins C dx fs) from hok a _ e)
 exact ⟨mA,⟨ob,n,ne⟩,r,q,z,d⟩
end
structure Cls (K:W.Frag) (C:Addr):Prop where
 pg:W.plainGet K C Str.empty=true
 hd:W.hasDictIn K C=true
 po:W.plainOver K C=true
 sa:W.findIn K (.ref C) "__setattr__" = some (some (.builtin "object.__setattr__"))
theorem Cls.get {K:W.Frag} {C:Addr} (c:Cls K C) (f:Str):W.plainGet K C f=true:=c.pg
structure Con (K:W.Frag) (C:Addr) (f:Str) (v:V) (u:Value):Prop where
 at_:W.findIn K (.ref C) f=some (some u)
 rel:RelV v u
 get:W.specialIn K u "__get__" = some none
 cp:W.copiedNames.contains f=false
structure Meth (K:W.Frag) (C:Addr) (m:Str) (f:Addr):Prop where
 at_:W.findIn K (.ref C) m=some (some (.ref f))
 fn:W.isFn K (.ref f)=true
 kp:W.keepIn K (.ref f)=true
section
variable {X:Cx} {pins:List (Addr×Obj)} {σ:St} {H:Hp} {s:Shared} {a C dx:Addr} {fs:List (Str×V)} {f:Str} {v:V} {A:Around} {E:Value->Shared->Prop}
theorem Qff {m:Str} {g:Addr} {pl:Sem Bool} {Q:Value×List Value->Shared->Prop} (I:Inv X pins σ H s) (e:H a=some (.ins C dx fs)) (c:Cls X.K C) (k:Meth X.K C m g) (l:fs.lookup m=none)
  (h:Q (.ref g,[.ref a]) s):wpAny (model X.prog X.w) A (getMethod (.ref a) m pl) Q E s:=by
 obtain ⟨mA,O,r,_,_,_⟩:=Qoc I.hok e
 have hn:mA m=none:=RelO.none_of (by rw [← l];exact r m)
 exact QmX I.kIn O (c.get m) k.at_ k.fn hn h
theorem Inv.made (I:Inv X pins σ H s):Inv X pins σ (upd (upd H s.heap.objs.size (.own (s.heap.objs.size + 1))) (s.heap.objs.size + 1) (.ins C s.heap.objs.size []))
  { s with heap:=(s.heap.push W.emptyDict).push (W.instObj C s.heap.objs.size) }:=by
 have e1:(s.heap.push W.emptyDict).get? s.heap.objs.size=some W.emptyDict:=Heap.get?_push_size s.heap rfl
 have e2:((s.heap.push W.emptyDict).push (W.instObj C s.heap.objs.size)).get? (s.heap.objs.size + 1)=some (W.instObj C s.heap.objs.size):=by
  have:=Heap.get?_push_size (s.heap.push W.emptyDict) (o:=W.instObj C s.heap.objs.size) rfl
  rwa [Heap.size_push] at this
 have e3:(s.heap.push W.emptyDict).Ns s.heap.objs.size (fun _=>none):=⟨W.emptyDict,#[],_,e1,rfl,(fun e he=>absurd he (by simp)),fun _=>rfl⟩
 have I1:=I.laid (a:=s.heap.objs.size) (o:=.own (s.heap.objs.size + 1)) (h':=s.heap.push W.emptyDict) (t':=s.toks) (fun b u q=>Heap.get?_push_of_some _ q) (Nat.le_refl _) ⟨_,e1⟩
 refine I1.laid (a:=s.heap.objs.size + 1) (o:=.ins C s.heap.objs.size []) (t':=s.toks) (fun b u q=>Heap.get?_push_of_some _ q) (Nat.le_of_eq (Heap.size_push _ _)) ?_
 have ne:s.heap.objs.size≠s.heap.objs.size + 1:=Nat.ne_of_lt (Nat.lt_succ_self _)
 refine ⟨by rw [Ql ne,Qm],Nat.zero_le _,ne,e2,fun _=>none,(Heap.Ns1.of_empty e3).at fun o q=>Heap.get?_push_of_some _ q,fun _=>True.intro,fun y hy=>absurd rfl hy⟩
end
section
variable {X:Cx} {o e value:Expr} {f:Str} {pos pos' tpos:Pos} {ta tv:TE}
end
section
variable {X:Cx} {pins:List (Addr×Obj)} {σ:St} {H:Hp} {s:Shared} {A:Around} {E:Value->Shared->Prop} {Q:Value->Shared->Prop} {c:Value} {b:Bool}
inductive TyOf (K:W.Frag) (H:Hp):V->Value->Prop where
 | non:TyOf K H .non (.type "NoneType")
 | bl (x:Bool):TyOf K H (.bl x) (.type "bool")
 | int (i:Int):TyOf K H (.int i) (.type "int")
 | str (x:Str):TyOf K H (.str x) (.type "str")
 | flt (x:UInt64):TyOf K H (.flt x) (.type "float")
 | lst {a:Addr} {xs:List V} (e:H a=some (.lst xs)):TyOf K H (.ref a) (.type "list")
 | frz {a:Addr} {o:Obj} {xs:List V} (e:H a=some (.frz o (.lst xs))):TyOf K H (.ref a) (.type "list")
 | tup {a:Addr} {xs:List V} (e:H a=some (.tup xs)):TyOf K H (.ref a) (.type "tuple")
 | dK {a:Addr} {kvs:List (Key×V)} (e:H a=some (.dK kvs)):TyOf K H (.ref a) (.type "dict")
 | dT {a:Addr} {kvs:List (List Key×V)} (e:H a=some (.dT kvs)):TyOf K H (.ref a) (.type "dict")
 | ins {a C dx:Addr} {fs:List (Str×V)} (e:H a=some (.ins C dx fs)) (cl:Cls K C) (ha:W.findIn K (.ref C) "__class__" = some (some (.builtin "object.__class__")))
   (hn:W.specialIn K (.builtin "object.__class__") "__get__" = some (some (.builtin "getset_descriptor.__get__"))) (htk:W.takesIn K (.builtin "object.__class__")=some true)
   (hm:W.mroIn K C (.type "object")=some true):TyOf K H (.ref a) (.ref C)
end
end L2
namespace L2
open PySem PySem.Spec PyProof.Rows
structure Room (k:Nat) (A:Around):Prop where
 hd:A.handled=none
 dp:A.depth + 3 * k + 5 < recursionLimit
 un:A.units + 16 * k + 200 < cLine
theorem Room.mono {j k:Nat} {A:Around} (r:Room k A) (h:j<=k):Room j A:=⟨r.hd,by have:=r.dp;omega,by have:=r.un;omega⟩
theorem Room.deeper {k:Nat} {A:Around} (r:Room (k + 1) A) (env:Env):Room k (A.deeper env) :=
 ⟨r.hd,by have:=r.dp;show A.depth + 1 + 3 * k + 5 < _;omega,by have:=r.un;show A.units + 3 + 16 * k + 200 < _;omega⟩
theorem Room.depth {k:Nat} {A:Around} (r:Room k A):A.depth < recursionLimit:=by have:=r.dp;omega
theorem Room.units {k:Nat} {A:Around} (r:Room k A):A.units + 64 < cLine:=by have:=r.un;omega
def tNil:TA:=fun _ H Q=>Q [] H
def tCons (ta:TE) (tr:TA):TA:=fun σ H Q=>ta σ H fun x H1=>tr σ H1 fun xs H2=>Q (x::xs) H2
section
variable {X:Cx} {e:Expr} {es:List Expr} {te:TE} {t:TA} {pos:Pos}
theorem pa_nil:PA X [] tNil:=fun _ _ _ _ H Q I h=>Calls.spliced_nil ⟨[],H,I,.nil,h⟩
theorem Qae (ha:PE X e te) (hr:PA X es t) (hs:starEach (e::es) X.env=(false,eval e X.env)::starEach es X.env:=by rfl):PA X (e::es) (tCons te t):=by
 intro pos pins s σ H Q I h
 rw [hs]
 show wpAny _ _ (spliced ((false,eval e X.env)::backTo pos (starEach es X.env))) _ _ s
 refine Calls.spliced_cons (thn (ha pins s σ H _ I h) fun u s1 ⟨x,H1,I1,r1,q1⟩=>?_)
 exact thn (hr pos pins s1 σ H1 _ I1 q1) fun us s2 ⟨xs,H2,I2,r2,q2⟩=>⟨x::xs,H2,I2,.cons r1 r2,q2⟩
def tTup (t:TA):TE:=fun σ H Q=>t σ H fun xs H1=>xs.length<=sizeLine/\∀ p,H1 p=none->Q (.ref p) (upd H1 p (.tup xs))
def tLst (t:TA):TE:=fun σ H Q=>t σ H fun xs H1=>xs.length<=sizeLine/\∀ p,H1 p=none->Q (.ref p) (upd H1 p (.lst xs))
theorem QoW {x1} (h:PA X es t):PE X (.Tuple es x1 pos) (tTup t):=by
 intro pins s σ H Q I hq
 refine wpAny_Tuple_spliced (thn (h pos pins s σ H _ I hq) fun us s1 ⟨xs,H1,I1,r,z,q⟩=>⟨by rw [← r.length];exact z,?_⟩)
 have hf:H1 s1.heap.objs.size=none:=I1.hok.fresh (Nat.le_refl _)
 refine ⟨.ref s1.heap.objs.size,upd H1 s1.heap.objs.size (.tup xs),I1.laid (t':=s1.toks) (fun b u e=>Heap.get?_push_of_some _ e) (Nat.le_refl _) ?_,rfl,q _ hf⟩
 exact ⟨z,us,r,⟨_,Heap.get?_push_size _ rfl,rfl,_,rfl⟩⟩
theorem Qpc (h:PA X es t):PE X (.List es pos) (tLst t):=by
 intro pins s σ H Q I hq
 refine wpAny_List_spliced (thn (h pos pins s σ H _ I hq) fun us s1 ⟨xs,H1,I1,r,z,q⟩=>⟨by rw [← r.length];exact z,?_⟩)
 have hf:H1 s1.heap.objs.size=none:=I1.hok.fresh (Nat.le_refl _)
 refine ⟨.ref s1.heap.objs.size,upd H1 s1.heap.objs.size (.lst xs),I1.laid (t':=s1.toks) (fun b u e=>Heap.get?_push_of_some _ e) (Nat.le_refl _) ?_,rfl,q _ hf⟩
 exact ⟨z,us,0,r,Heap.get?_push_size _ rfl⟩
end
abbrev Sp:=List V->Hp->VK->XK->Prop
abbrev CXT:=List Env->Hp->Shared->XK->Value->Shared->Prop
structure Env0 (P:Program) (w:World) (K:W.Frag) (mg:Str->Option Value) (base:Heap) (A:Around) (outer:List Env) (s:Shared) (H:Hp):Prop where
 frames:A.frames=some outer
 mod:Mod K mg base
 bs:∀ b o,base.get? b=some o->s.heap.get? b=some o/\H b=none
 bsz:base.objs.size<=s.heap.objs.size
 funs:s.heap.FunFrames base outer
 frf:∀ b∈frs outer,H b=none
 hok:HOk P w H s.heap
 bare:AllBare s.gens
def CE (outer:List Env) (P:Program) (w:World) (H:Hp) (s:Shared) (Q:VK) (u:Value) (s':Shared):Prop :=
 ∃ v H',s'.os=s.os/\AllBare s'.gens/\Un (frs outer) [] H H' s.heap s'.heap/\HOk P w H' s'.heap/\RelV v u/\Q v H'
def CR (CX:CXT) (outer:List Env) (P:Program) (w:World) (H:Hp) (s:Shared) (Q:VK) (E:XK) (r:Result) (s':Shared):Prop :=
 match r with
 | .ok (.ret u)=>CE outer P w H s Q u s'
 | .ok _=>False
 | .error e=>CX outer H s E e s'
structure FnOk (P:Program) (w:World) (K:W.Frag) (mg:Str->Option Value) (base:Heap) (CX:CXT) (k:Nat) (f:Addr) (fd:FuncData) (ps:List Str) (sp:Sp):Prop where
 len:∀ vs H Q E,sp vs H Q E->vs.length=ps.length
 run:∀ (A:Around) (outer:List Env) (s:Shared) (H:Hp) (args:Args) (us:List Value) (vs:List V) (Q:VK) (E:XK),Room k A->Env0 P w K mg base A outer s H->BindsTo s fd args (ps.zip us)->Vals vs us->sp vs H Q E ->
  codeAny (model P w) A (.call (.ref f) args) (CR CX outer P w H s Q E) s
theorem FnOk.mono {P:Program} {w:World} {K:W.Frag} {mg:Str->Option Value} {base:Heap} {CX:CXT} {j k:Nat} {f:Addr} {fd:FuncData} {ps:List Str} {sp:Sp} (F:FnOk P w K mg base CX j f fd ps sp) (h:j<=k) :
  FnOk P w K mg base CX k f fd ps sp:=⟨F.len,fun A outer s H args us vs Q E hr=>F.run A outer s H args us vs Q E (hr.mono h)⟩
section
variable {X:Cx} {pins:List (Addr×Obj)} {σ:St} {H:Hp} {s s':Shared}
theorem Inv.env0 (I:Inv X pins σ H s):Env0 X.prog X.w X.K X.mg X.base X.A X.stack s H :=
 ⟨I.ok.frames,I.ok.mod,I.bs,Nat.le_trans I.ok.bsz I.sz,I.stack,I.stkFree,I.hok,I.bare⟩
theorem Inv.after {Q:VK} {u:Value} (I:Inv X pins σ H s) (h:CE X.stack X.prog X.w H s Q u s'):EP X pins σ Q u s':=by
 obtain ⟨v,H',os,bare,un,hok,r,q⟩:=h
 obtain ⟨hh,g,d,t,os'⟩:=s'
 obtain rfl:os'=s.os:=os
 exact ⟨v,H',I.call (h':=hh) (g':=g) (d':=d) (t':=t) (ch:=[]) un hok bare (fun b z=>absurd z (by simp)),r,q⟩
end
def tCall (sp:Sp) (dvs:List V) (E:XK) (t:TA):TE:=fun σ H Q=>t σ H fun vs H1=>sp (vs++dvs) H1 Q E
def Qm9 (C:Addr) (m:Str) (sp:Sp) (dvs:List V) (E:XK) (ta:TE) (t:TA):TE:=fun σ H Q=>ta σ H fun x H1=>∃ a dx fs,x=.ref a/\H1 a=some (.ins C dx fs)/\fs.lookup m=none /\
 t σ H1 fun vs H2=>sp (x::(vs++dvs)) H2 Q E
def Binds (K:W.Frag) (fd:FuncData) (ps:List Str) (ds:List Value):Prop :=
 ∀ (s:Shared) (us:List Value),K.In s.heap->(us++ds).length=ps.length->BindsTo s fd ⟨us,[]⟩ (ps.zip (us++ds))
theorem Binds.all {K:W.Frag} {fd:FuncData} {ps:List Str} (h:∀ us:List Value,us.length=ps.length->bindArgs fd ⟨us,[]⟩=pure (ps.zip us)):Binds K fd ps []:=fun s us _ hl=>by
 rw [List.append_nil] at hl ⊢
 exact .of_eq (h us hl)
def Qfk (CX:CXT) (X:Cx) (E:XK):Prop:=∀ (pins:List (Addr×Obj)) (σ:St) (H:Hp) (s:Shared) (e:Value) (s':Shared),Inv X pins σ H s->CX X.stack H s E e s'->X.xe e s'
section
variable {X:Cx} {CX:CXT} {k:Nat} {f C:Addr} {fd:FuncData} {ps:List Str} {sp:Sp} {dvs:List V} {ds:List Value} {E:XK} {x m:Str} {p pos apos:Pos} {e o:Expr} {es:List Expr} {ta:TE} {t:TA}
theorem Qjc {pins:List (Addr×Obj)} {σ:St} {H:Hp} {s:Shared} {Q:VK} {us:List Value} {vs:List V} (F:FnOk X.prog X.w X.K X.mg X.base CX k f fd ps sp) (hr:Room k X.A) (hb:Binds X.K fd ps ds) (hd:Vals dvs ds) (hx:Qfk CX X E)
  (I:Inv X pins σ H s) (r:Vals vs us) (h:sp (vs++dvs) H Q E):wpAny (model X.prog X.w) X.A (call (.ref f) us) (EP X pins σ Q) X.xe s:=by
 have r2:Vals (vs++dvs) (us++ds):=r.append hd
 have hl:(us++ds).length=ps.length:=by rw [← r2.length];exact F.len _ _ _ _ h
 refine wpAny_call (codeAny_mono (F.run X.A X.stack s H ⟨us,[]⟩ (us++ds) (vs++dvs) Q E hr I.env0 (hb s us I.kIn hl) r2 h) fun r s' hq=>?_)
 cases r with
 | error e=>exact hx pins σ H s e s' I hq
 | ok fl =>
  cases fl with
  | ret u=>exact I.after hq
  | next=>exact False.elim hq
  | brk=>exact False.elim hq
  | cont=>exact False.elim hq
theorem Qhb (F:FnOk X.prog X.w X.K X.mg X.base CX k f fd ps sp) (hr:Room k X.A) (hg:Gl X x) (hm:X.mg x=some (.ref f)) (hk:W.keepIn X.K (.ref f)=true) (hb:Binds X.K fd ps ds) (hd:Vals dvs ds) (hx:Qfk CX X E)
  (ha:PA X (e::es) t) (hdb:(x == ("__debug__":Str))=false:=by decide) (he:starEach (e::es) X.env=(false,eval e X.env)::starEach es X.env:=by rfl) (hpl:(backTo pos (starEach es X.env)).any (·.1)=false:=by rfl) :
  PE X (.Call (.Name x p) (e::es) [] pos) (tCall sp dvs E t):=by
 intro pins s σ H Q I h
 refine wpAny_Call_Name_kw (QjZ I hg hm ?_ hdb)
 refine W.callWith_K (h₀:=X.base) I.ok.mod.kin hk (thn (ha pos pins s σ H _ I h) fun us s1 ⟨vs,H1,I1,r,q⟩=>⟨I1.kIn,?_⟩) he hpl
 exact Qjc F hr hb hd hx I1 r q
theorem Qnv {pl:Sem Bool} (he:PE X o ta) (c:Cls X.K C) (hm:Meth X.K C m f) (F:FnOk X.prog X.w X.K X.mg X.base CX k f fd ps sp) (hr:Room k X.A) (hb:Binds X.K fd ps ds) (hd:Vals dvs ds) (hx:Qfk CX X E) (ha:PA X (e::es) t)
  (hst:starEach (e::es) X.env=(false,eval e X.env)::starEach es X.env:=by rfl) (hpl:(backTo pos (starEach es X.env)).any (·.1)=false:=by rfl)
  (ht:eval (.Call (.Attribute o m apos) (e::es) [] pos) X.env=(do
   let ov ← eval o X.env
   standAt apos.atName
   let (f,first) ← holding [ov] (getMethod ov m pl)
   callWith pos f first (backTo pos (starEach (e::es) X.env)) (backToKw pos (keywordEach [] X.env))):=by rfl) :
  PE X (.Call (.Attribute o m apos) (e::es) [] pos) (Qm9 C m sp dvs E ta t):=by
 intro pins s σ H Q I h
 refine W.methodCall_KW (pl:=pl) (thn (he pins s σ H _ I h) fun u s1 ⟨x,H1,I1,rx,a,dx,fs,ex,ea,l,q⟩=>?_) ht
 subst ex
 obtain rfl:u=Value.ref a:=rx
 refine Qff I1 ea c hm l ?_
 refine W.callWith_K (first:=[.ref a]) (h₀:=X.base) I.ok.mod.kin hm.kp (thn (ha pos pins s1 σ H1 _ I1 q) fun us s2 ⟨vs,H2,I2,r,q2⟩=>⟨I2.kIn,?_⟩) hst hpl
 exact Qjc (us:=.ref a::us) (vs:=.ref a::vs) F hr hb hd hx I2 (.cons rfl r) q2
theorem Qms {pl:Sem Bool} (he:PE X o ta) (c:Cls X.K C) (hm:Meth X.K C m f) (F:FnOk X.prog X.w X.K X.mg X.base CX k f fd ps sp) (hr:Room k X.A) (hb:Binds X.K fd ps ds) (hd:Vals dvs ds) (hx:Qfk CX X E)
  (ht:eval (.Call (.Attribute o m apos) [] [] pos) X.env=(do
   let ov ← eval o X.env
   standAt apos.atName
   let (f,first) ← holding [ov] (getMethod ov m pl)
   callWith pos f first (backTo pos (starEach [] X.env)) (backToKw pos (keywordEach [] X.env))):=by rfl) :
  PE X (.Call (.Attribute o m apos) [] [] pos) (Qm9 C m sp dvs E ta tNil):=by
 intro pins s σ H Q I h
 refine W.methodCall_KW (pl:=pl) (thn (he pins s σ H _ I h) fun u s1 ⟨x,H1,I1,rx,a,dx,fs,ex,ea,l,q⟩=>?_) ht
 subst ex
 obtain rfl:u=Value.ref a:=rx
 refine Qff I1 ea c hm l ?_
 exact W.callWith_K0 (first:=[.ref a]) I1.kIn hm.kp (Qjc (us:=[.ref a]) (vs:=[.ref a]) F hr hb hd hx I1 (.cons rfl .nil) q)
structure Mk (K:W.Frag) (C f:Addr):Prop where
 makes:W.makesIn K C=true
 init:W.findIn K (.ref C) "__init__" = some (some (.ref f))
 fn:W.isFn K (.ref f)=true
 kp:W.keepIn K (.ref C)=true
end
section
variable {X:Cx} {CX:CXT} {k:Nat} {f C:Addr} {fd:FuncData} {ps ks:List Str} {sp:Sp} {E:XK} {x m:Str} {p pos apos kpos:Pos} {e o:Expr} {es:List Expr} {kws:List Keyword} {te ta:TE} {t tk:TA} {nm:Option Str}
structure KBinds (K:W.Frag) (fd:FuncData) (ps ks:List Str) (g:List Value->List Value->List Value) (gV:List V->List V->List V):Prop where
 to:∀ (s:Shared) (us ws:List Value),K.In s.heap->(g us ws).length=ps.length->BindsTo s fd ⟨us,ks.zip ws⟩ (ps.zip (g us ws))
 rel:∀ {vs:List V} {us:List Value} {zs:List V} {ws:List Value},Vals vs us->Vals zs ws->Vals (gV vs zs) (g us ws)
variable {g:List Value->List Value->List Value} {gV:List V->List V->List V}
end
structure FnScope (N P:List Str) (sc:Scope):Prop where
 kind:sc.kind=.function
 co:sc.isCoroutine=false
 gen:sc.isGenerator=false
 nd:N.Nodup
 pre:N.take P.length=P
 par:∀ x∈P,sc.names.lookup x=some .local\/sc.names.lookup x=some .cell
 nofree:∀ y∈sc.names,y.2≠.free
theorem QgH {kindOf:Str->Option NameKind} {x:Str}:∀ {binds:List (Str×Value)} {m:Str->Option Value},(∀ v,(x,v) ∉ binds)->bindL kindOf binds m x=m x
 | [],_,_=>rfl
 | (n,v)::r,m,h=>by
  unfold bindL
  rw [QgH fun w hw=>h w (List.mem_cons_of_mem _ hw)]
  split
  ·have:x≠n:=by rintro rfl;exact h v List.mem_cons_self
   simp [this]
  ·rfl
theorem Qgd {kindOf:Str->Option NameKind} {x:Str}:∀ {binds:List (Str×Value)} {m:Str->Option Value},(∀ v,(x,v) ∉ binds)->bindC kindOf binds m x=m x
 | [],_,_=>rfl
 | (n,v)::r,m,h=>by
  unfold bindC
  rw [Qgd fun w hw=>h w (List.mem_cons_of_mem _ hw)]
  split
  ·rfl
  ·have:x≠n:=by rintro rfl;exact h v List.mem_cons_self
   simp [this]
theorem QgD {kindOf:Str->Option NameKind} {x:Str} {v:Value}:∀ {P:List Str} {vs:List Value} {i:Nat} {m:Str->Option Value},P.Nodup->P[i]? = some x->vs[i]? = some v->kindOf x=some .local ->
  bindL kindOf (P.zip vs) m x=some v
 | [],_,_,_,_,h,_,_=>by simp at h
 | _::_,[],_,_,_,_,h,_=>by simp at h
 | p::P,w::vs,0,m,nd,h1,h2,hk=>by
  simp at h1 h2;subst h1;subst h2
  show bindL kindOf ((p,w)::P.zip vs) m p=_
  unfold bindL
  rw [QgH fun v hv=>(List.nodup_cons.mp nd).1 (List.of_mem_zip hv).1,if_pos hk]
  simp
 | p::P,w::vs,i + 1,m,nd,h1,h2,hk=>by
  show bindL kindOf ((p,w)::P.zip vs) m x=_
  unfold bindL
  exact QgD (i:=i) (List.nodup_cons.mp nd).2 (by simpa using h1) (by simpa using h2) hk
theorem Qgt {kindOf:Str->Option NameKind} {x:Str} {v:Value}:∀ {P:List Str} {vs:List Value} {i:Nat} {m:Str->Option Value},P.Nodup->P[i]? = some x->vs[i]? = some v->kindOf x≠some .local ->
  bindC kindOf (P.zip vs) m x=some v
 | [],_,_,_,_,h,_,_=>by simp at h
 | _::_,[],_,_,_,_,h,_=>by simp at h
 | p::P,w::vs,0,m,nd,h1,h2,hk=>by
  simp at h1 h2;subst h1;subst h2
  show bindC kindOf ((p,w)::P.zip vs) m p=_
  unfold bindC
  rw [Qgd fun v hv=>(List.nodup_cons.mp nd).1 (List.of_mem_zip hv).1,if_neg hk]
  simp
 | p::P,w::vs,i + 1,m,nd,h1,h2,hk=>by
  show bindC kindOf ((p,w)::P.zip vs) m x=_
  unfold bindC
  exact Qgt (i:=i) (List.nodup_cons.mp nd).2 (by simpa using h1) (by simpa using h2) hk
def start (N:List Str) (vs:List V):St:=vs.map some++List.replicate (N.length - vs.length) none
def cxOf (CX:CXT) (P:Program) (w:World) (K:W.Frag) (mg:Str->Option Value) (base:Heap) (N:List Str) (qual:Str) (scope:Scope) (f:Addr) (cd:Value) (A:Around) (outer:List Env) (s:Shared) (H:Hp) (E:XK):Cx where
 prog:=P
 w:=w
 K:=K
 mg:=mg
 base:=base
 A:=A.deeper (envOfC qual scope s.heap.objs.size f cd)
 N:=N
 s₀:=s
 H₀:=H
 env:=envOfC qual scope s.heap.objs.size f cd
 outer:=outer
 stack:=envOfC qual scope s.heap.objs.size f cd::outer
 ex:=[]
 calm:=true
 fn:=fun _=>true
 pn:=[]
 xe:=fun e s'=>wpAny (model P w) (A.deeper (envOfC qual scope s.heap.objs.size f cd)) (leaving (envOfC qual scope s.heap.objs.size f cd) e) (fun _ s''=>CX outer H s E e s'') (fun e' s''=>CX outer H s E e' s'') s'
theorem QiP {sc:Scope} {n:Nat} {x:Str} (h:sc.names.lookup x=some .cell):∃ c,(cellsFrom n sc.names []).lookup x=some c:=by
 have q:=W.cellsFrom_some sc.names n [] (.inl h)
 exact Option.isSome_iff_exists.mp q
theorem Qle {CX:CXT} {P:Program} {w:World} {K:W.Frag} {mg:Str->Option Value} {base:Heap} {N ps:List Str} {qual:Str} {scope:Scope} {f:Addr} {cd:Value} {A:Around} {outer:List Env} {s s1:Shared} {H:Hp} {E:XK} {us:List Value} {vs:List V}
  (S:FnScope N ps scope) (hd:A.handled=none) (e0:Env0 P w K mg base A outer s H) (hl:vs.length=ps.length) (r:Vals vs us)
  (x:InCallC s s.heap.objs.size (bindL (envOfC qual scope s.heap.objs.size f cd).kindOf (ps.zip us) fun _=>none) (cellsFrom (s.heap.objs.size + 1) scope.names []) (bindC (envOfC qual scope s.heap.objs.size f cd).kindOf (ps.zip us) fun _=>none) s1) :
  Inv (cxOf CX P w K mg base N qual scope f cd A outer s H E) [] (start N vs) H s1:=by
 have hpl:ps.length<=N.length:=by have:=congrArg List.length S.pre;rw [List.length_take] at this;omega
 obtain ⟨h1,tk,rfl,hk⟩:=x.done
 have noA:∀ b:Addr,b ∉ (cxOf CX P w K mg base N qual scope f cd A outer s H E).ex:=fun b z=>absurd (show b∈([]:List Addr) from z) (by simp)
 refine ⟨⟨e0.mod,S.kind,rfl,rfl,Nat.le_refl _,fun y z c h1 h2=>?_,fun y hy=>?_,fun y c _ h=>?_,fun _=>hd,Around.frames_deeper e0.frames,.inr ⟨rfl,rfl⟩,fun b z=>absurd z (noA b),e0.bs,e0.bsz,fun b _ _=>noA b,fun b z=>absurd z (noA b),e0.funs,e0.frf⟩,
  rfl,e0.bare,Un.kept hk,⟨_,x.toInCall.ns,fun i y v h1 h2 h3=>?_⟩,fun y c h=>⟨_,x.cell y c h⟩,e0.hok.fresh (Nat.le_refl _),fun y c h=>?_,fun p hp=>absurd (show p∈([]:List (Addr×Obj)) from hp) (by simp),e0.hok.kept hk,?_⟩
 ·exact name_of_addr x.apart (PySem.mem_of_lookup h1) (PySem.mem_of_lookup h2)
 ·have hy:scope.names.lookup y=some .cell\/scope.names.lookup y=some .free:=hy
  rcases hy with hy | hy
  ·exact QiP hy
  ·exact absurd rfl (S.nofree _ (PySem.mem_of_lookup hy))
 ·exact Nat.le_of_lt (x.above y c (PySem.mem_of_lookup h))
 ·have hi:i < vs.length:=by
   unfold start at h2
   by_cases hi:i < vs.length
   ·exact hi
   ·rw [List.getElem?_append_right (by simpa using hi)] at h2
    rw [List.getElem?_replicate] at h2
    split at h2 <;> cases h2
  have ha:vs[i]? = some v:=by
   unfold start at h2
   rw [List.getElem?_append_left (by simpa using hi),List.getElem?_map] at h2
   cases e:vs[i]? with
   | none=>rw [e] at h2;cases h2
   | some a=>rw [e] at h2;cases h2;rfl
  obtain ⟨u,hu,rv⟩:=r.get ha
  have hp:ps[i]? = some y:=by
   rw [← S.pre,List.getElem?_take_of_lt (by omega)];exact h1
  have ndP:ps.Nodup:=by rw [← S.pre];exact S.nd.sublist (List.take_sublist _ _)
  refine ⟨u,rv,?_⟩
  rcases S.par y (List.mem_of_getElem? hp) with k | k
  ·exact .inl ⟨k,QgD ndP hp hu k⟩
  ·obtain ⟨c,e⟩:=QiP (n:=s.heap.objs.size + 1) k
   refine .inr ⟨.inl k,c,e,?_⟩
   have q:=x.cell y c e
   rw [Qgt ndP hp hu (by show scope.names.lookup y≠_;rw [k];decide)] at q
   exact q
 ·exact e0.hok.fresh (Nat.le_of_lt (x.above y c (PySem.mem_of_lookup h)))
 ·unfold start
  show _=N.length
  rw [List.length_append,List.length_map,List.length_replicate]
  omega
theorem fn_of {CX:CXT} {P:Program} {w:World} {K:W.Frag} {mg:Str->Option Value} {base:Heap} {k:Nat} {f:Addr} {name qual:Str} {params:Arguments} {body:List Stmt} {scope:Scope} {dV kV doc pm cdv ct oc:Value} {an od:Option Addr}
  {osl:Array (Option Value)} {N ps:List Str} {sp:Sp} (lk:K.lookup f=some ⟨oc,od,.func (W.fnOf name qual params body scope dV kV doc pm an cdv ct),osl⟩) (hcd:W.codeIn K cdv qual=true) (S:FnScope N ps scope)
  (len:∀ vs H Q E,sp vs H Q E->vs.length=ps.length)
  (hbody:∀ (A:Around) (outer:List Env) (s:Shared) (H:Hp) (vs:List V) (Q:VK) (E:XK),Room k (A.deeper (envOfC qual scope s.heap.objs.size f cdv))->sp vs H Q E ->
   ∃ t,PSs (cxOf CX P w K mg base N qual scope f cdv A outer s H E) body t/\t { nx:=fun _ H'=>Q .non H',rt:=Q } (start N vs) H) :
  FnOk P w K mg base CX (k + 1) f (W.fnOf name qual params body scope dV kV doc pm an cdv ct) ps sp:=by
 refine ⟨len,fun A outer s H args us vs Q E hr e0 hb r hsp=>?_⟩
 have hl:=len _ _ _ _ hsp
 have KX:K.In s.heap:=e0.mod.kin.keeps fun b o e=>(e0.bs b o e).1
 have lim:s.heap.NoLimit:=e0.mod.nolimit.keeps fun b o e=>(e0.bs b o e).1
 have hkind:∀ y∈ps.zip us,scope.names.lookup y.1=some .local\/(scope.names.lookup y.1=some .cell/\((cellsFrom (s.heap.objs.size + 1) scope.names []).lookup y.1).isSome=true):=fun ⟨n,v⟩ hy=>by
  rcases S.par n (List.of_mem_zip hy).1 with q | q
  ·exact .inl q
  ·exact .inr ⟨q,W.cellsFrom_some _ _ _ (.inl q)⟩
 refine codeAny_call_function hr.depth (KX _ _ lk) rfl S.co S.gen rfl (W.codeRec_of KX hcd) (hb _ _ _ _ ?_)
 refine wpAny_newFunctionEnv_cells S.kind hkind fun env he s1 x=>?_
 subst he
 refine ⟨lim.keeps x.toInCall.keep,codeAny_func ?_⟩
 obtain ⟨t,ht,hq⟩:=hbody A outer s H vs Q E (hr.deeper _) hsp
 have I:Inv (cxOf CX P w K mg base N qual scope f cdv A outer s H E) [] (start N vs) H s1:=Qle S hr.hd e0 hl r x
 refine wpAny_mono (ht [] s1 (start N vs) H _ I hq) (fun fl s' hs=>?_) fun e s' hs=>hs
 have fin:∀ {σ':St} {H':Hp} {v:V} {u:Value},Inv (cxOf CX P w K mg base N qual scope f cdv A outer s H E) [] σ' H' s'->RelV v u->Q v H'->CE outer P w H s Q u s' :=
  fun {σ' H' v u} J rv q=>⟨v,H',J.os,J.bare,J.base,J.hok,rv,q⟩
 cases fl with
 | ret u =>
  obtain ⟨v,σ',H',J,rv,q⟩:=hs
  exact fin J rv q
 | next =>
  obtain ⟨σ',H',J,q⟩:=hs
  exact fin (v:=V.non) (u:=Value.none) J rfl q
 | brk =>
  obtain ⟨_,_,_,q⟩:=hs
  exact False.elim q
 | cont =>
  obtain ⟨_,_,_,q⟩:=hs
  exact False.elim q
end L2
namespace L2
open PySem PySem.Spec PyProof.Rows
section
variable {X:Cx} {x:Str} {p pos:Pos} {e:Expr} {es:List Expr} {t:TA} {id T:String} {r:List V->Hp->VK->Prop}
def tCB (r:List V->Hp->VK->Prop) (t:TA):TE:=fun σ H Q=>t σ H fun vs H1=>r vs H1 Q
theorem QcC (hc:CallR X (.builtin id) r) (hg:Gl X x) (hm:X.mg x=none) (hv:bootBuiltins x=some (.builtin id)) (ha:PA X (e::es) t) (hn:x≠"__name__":=by decide) (hdb:(x == ("__debug__":Str))=false:=by decide)
  (he:starEach (e::es) X.env=(false,eval e X.env)::starEach es X.env:=by rfl) (hpl:(backTo pos (starEach es X.env)).any (·.1)=false:=by rfl):PE X (.Call (.Name x p) (e::es) [] pos) (tCB r t):=by
 intro pins s σ H Q I h
 refine wpAny_Call_Name_kw (QcL I hg hm hv ?_ hn hdb)
 exact PyProof.Rows.callWith_builtin1 (thn (ha pos pins s σ H _ I h) fun us s1 ⟨vs,H1,I1,r1,q1⟩=>hc pins s1 σ H1 vs us Q I1 r1 q1) he hpl
theorem Qc0 (hc:CallR X (.type T) r) (hg:Gl X x) (hm:X.mg x=none) (hv:bootBuiltins x=some (.type T)) (ha:PA X (e::es) t) (hn:x≠"__name__":=by decide) (hdb:(x == ("__debug__":Str))=false:=by decide)
  (he:starEach (e::es) X.env=(false,eval e X.env)::starEach es X.env:=by rfl) (hpl:(backTo pos (starEach es X.env)).any (·.1)=false:=by rfl):PE X (.Call (.Name x p) (e::es) [] pos) (tCB r t):=by
 intro pins s σ H Q I h
 refine wpAny_Call_Name_kw (QcL I hg hm hv ?_ hn hdb)
 exact PyProof.Rows.callWith_type1 (thn (ha pos pins s σ H _ I h) fun us s1 ⟨vs,H1,I1,r1,q1⟩=>hc pins s1 σ H1 vs us Q I1 r1 q1) he hpl
end
end L2
namespace HT
open PySem PyProof.Rows
section
open PySem.SeqAt
open PySem.AutoSeq1 (wpAny_loadPart')
open PySem.MeetsSeq PySem.MeetsSeq2 PySem.MeetsSeq3
end
section
variable {prog:Program} {w:World} {A:Around} {E:Value->Shared->Prop} {s:Shared}
theorem cat_tup {t b:Addr} {vs ws:List Value} {Q:Value->Shared->Prop} (ht:IsTup s.heap t vs.toArray) (hb:IsTup s.heap b ws.toArray) (hv:vs≠[])
  (h1:ws=[]->Q (.ref t) s) (h2:ws≠[]->Q (.ref s.heap.objs.size) { s with heap:=s.heap.push { cls:=.type "tuple",data:=.seq (vs++ws).toArray } })
  (hsz:vs.length + ws.length<=sizeLine):wpAny (model prog w) A (binaryOp .Add (.ref t) (.ref b)) Q E s:=by
 obtain ⟨⟨cls,dd,data,sl⟩,ho,hc,n,hd⟩:=id ht
 obtain ⟨⟨cls2,dd2,data2,sl2⟩,ho2,hc2,n2,hd2⟩:=id hb
 simp only at hc hd hc2 hd2
 subst hc hd hc2 hd2
 have e:vs.toArray++ws.toArray=(vs++ws).toArray:=by simp
 by_cases hw:ws=[]
 ·exact concat_meets ⟨_,ho,rfl⟩ ⟨_,ho2,rfl⟩ noFill_tuple_add seq_tuple_add PySem.F.slot_tuple_add PySem.F.entry_tuple_add (PySem.F.args_tuple_add_2 _ _)
   (tuple_addW1 t b vs.toArray ws.toArray n n2 dd dd2 sl sl2 (by simpa using hv) (by simp [hw])) ⟨ho,ho2,h1 hw⟩
 ·refine concat_meets ⟨_,ho,rfl⟩ ⟨_,ho2,rfl⟩ noFill_tuple_add seq_tuple_add PySem.F.slot_tuple_add PySem.F.entry_tuple_add (PySem.F.args_tuple_add_2 _ _)
   (tuple_addW2 t b vs.toArray ws.toArray n n2 dd dd2 sl sl2 (by simpa using hv) (by simpa using hw) (by rw [List.size_toArray,List.size_toArray];exact hsz)) ⟨ho,ho2,?_⟩
  rw [e]
  exact h2 hw
def sIx (n d:Nat):Option Int->Nat
 | none=>d
 | some v=>if v < 0 then (v + (n:Int)).toNat else min v.toNat n
theorem sIx_none (n d:Nat):sIx n d none=d:=rfl
theorem sIx_nat (n d k:Nat):sIx n d (some (k:Int))=min k n:=by
 show (if (k:Int) < 0 then ((k:Int) + (n:Int)).toNat else min (k:Int).toNat n)=min k n
 rw [if_neg (by omega),Int.toNat_natCast]
end
end HT
namespace L2
open PySem PySem.Spec PyProof.Rows
abbrev TO:=St->Hp->(Option Int->Hp->Prop)->Prop
def PO (X:Cx) (e:Option Expr) (t:TO):Prop :=
 ∀ (pins:List (Addr×Obj)) (s:Shared) (σ:St) (H:Hp) (Q:Option Int->Hp->Prop),Inv X pins σ H s->t σ H Q ->
  wpAny (model X.prog X.w) X.A (evalPart e X.env) (fun u s'=>∃ o H',Inv X pins σ H' s'/\IsPart u o/\Q o H') X.xe s
def Qnj:TO:=fun _ H Q=>Q none H
def tPart (t:TE):TO:=fun σ H Q=>t σ H fun x H1=>∃ i,x=.int i/\Q (some i) H1
section
variable {X:Cx} {e:Expr} {te:TE} {lo hi:Option Expr} {tl th:TO} {pos p2:Pos}
theorem QnM:PO X none Qnj:=by
 intro pins s σ H Q I h
 rw [evalPart_none]
 exact wpAny_pure ⟨none,H,I,.none,h⟩
theorem Qnc (h:PE X e te):PO X (some e) (tPart te):=by
 intro pins s σ H Q I hw
 rw [evalPart_some]
 refine thn (h pins s σ H _ I hw) fun u s1 ⟨x,H1,I1,r1,q1⟩=>?_
 obtain ⟨i,rfl,q⟩:=q1
 obtain ⟨t,rfl⟩:=r1
 exact ⟨some i,H1,I1,.int i t,q⟩
def SlR (X:Cx) (r:V->Option Int->Option Int->Hp->VK->Prop):Prop :=
 ∀ (pins:List (Addr×Obj)) (s:Shared) (σ:St) (H:Hp) (x:V) (v vl vu:Value) (lo hi:Option Int) (sl:Addr) (Q:VK),Inv X pins σ H s->RelV x v->s.heap.IsSliceOf sl vl vu .none->IsPart vl lo->IsPart vu hi->r x lo hi H Q ->
  ∃ T id,typeLookup (.type T) "__getitem__" = pure (some (.builtin id))/\s.TypeIs v T/\wpAny (model X.prog X.w) X.A (getItem v (.ref sl)) (EP X pins σ Q) X.xe s
def tSl (r:V->Option Int->Option Int->Hp->VK->Prop) (te:TE) (tl th:TO):TE:=fun σ H Q=>te σ H fun x H1=>tl σ H1 fun l H2=>th σ H2 fun u H3=>r x l u H3 Q
theorem QlM {r:V->Option Int->Option Int->Hp->VK->Prop} (hr:SlR X r) (he:PE X e te) (hl:PO X lo tl) (hu:PO X hi th):PE X (.Subscript e (.Slice lo hi none p2) pos) (tSl r te tl th):=by
 intro pins s σ H Q I h
 refine Subscript_ (thn (he pins s σ H _ I h) fun v s1 ⟨x,H1,I1,r1,q1⟩=>?_)
 refine wpAny_Slice (thn (hl pins s1 σ H1 _ I1 q1) fun vl s2 ⟨l,H2,I2,pl,q2⟩=>thn (hu pins s2 σ H2 _ I2 q2) fun vu s3 ⟨u,H3,I3,pu,q3⟩=>?_)
 rw [evalPart_none]
 refine wpAny_pure ?_
 have I4:Inv X pins σ H3 { s3 with heap:=s3.heap.push { cls:=.type "slice",data:=.fields #[vl,vu,.none] } }:=I3.kept (t':=s3.toks) fun b ob q=>Heap.get?_push_of_some _ q
 obtain ⟨T,id,hT,ht,hg⟩:=hr pins { s3 with heap:=s3.heap.push { cls:=.type "slice",data:=.fields #[vl,vu,.none] } } σ H3 x v vl vu l u s3.heap.objs.size Q I4 r1 (Heap.IsSliceOf.new ..) pl pu q3
 show wpAny (model X.prog X.w) X.A (subscriptTail e (.Slice lo hi none p2) v (.ref s3.heap.objs.size)) (EP X pins σ Q) X.xe { s3 with heap:=s3.heap.push { cls:=.type "slice",data:=.fields #[vl,vu,.none] } }
 exact tail_any (ops:=[.ref s3.heap.objs.size,v]) ht hT hg (by with_unfolding_all rfl)
def cutV (xs:List V) (lo hi:Option Int):List V:=(xs.drop (HT.sIx xs.length 0 lo)).take (HT.sIx xs.length xs.length hi - HT.sIx xs.length 0 lo)
theorem Qir (xs:List V) (lo hi:Option Int):(cutV xs lo hi).length<=xs.length:=by
 unfold cutV
 rw [List.length_take,List.length_drop]
 omega
def rCatT (K:W.Frag):R2:=fun x y H Q=>∃ a b xs ys,x=.ref a/\y=.ref b/\SqT K H a xs/\SqT K H b ys/\xs≠[]/\xs.length + ys.length<=sizeLine /\
 (ys=[]->Q (.ref a) H)/\(ys≠[]->∀ p,H p=none->Q (.ref p) (upd H p (.tup (xs++ys))))
theorem Vals.nil_iff {xs:List V} {us:List Value} (r:Vals xs us):us=[] ↔ xs=[]:=by
 cases r with
 | nil=>simp
 | cons _ _=>simp
theorem QnL:OpR X (binaryOp .Add) (rCatT X.K):=by
 intro pins s σ H x y v u Q I rx ry h
 obtain ⟨a,b,xs,ys,rfl,rfl,ha,hb,hx,hz,q1,q2⟩:=h
 cases rx
 cases ry
 obtain ⟨its,r1,p1,_⟩:=I.tuple ha
 obtain ⟨its2,r2,p2,_⟩:=I.tuple hb
 refine HT.cat_tup p1 p2 (fun z=>hx (r1.nil_iff.mp z)) (fun z=>⟨.ref a,H,I,rfl,q1 (r2.nil_iff.mp z)⟩) (fun z=>?_) (by rw [← r1.length,← r2.length];exact hz)
 refine ⟨.ref s.heap.objs.size,_,I.laid (t':=s.toks) (o:=.tup (xs++ys)) (fun b ob q=>Heap.get?_push_of_some _ q) (Nat.le_refl _) ?_,rfl,q2 (fun w=>z (r2.nil_iff.mpr w)) _ (I.hok.fresh (Nat.le_refl _))⟩
 exact ⟨by rw [List.length_append];exact hz,_,r1.append r2,IsTup.new _ _⟩
end
end L2
namespace L2
open PySem PySem.Spec PyProof.Rows
def ixN (n:Nat) (i:Int):Option Nat:=if 0<=i then (if i < n then some i.toNat else none) else if -(n:Int)<=i then some (i + n).toNat else none
def atI {α:Type} (xs:List α) (i:Int):Option α:=(ixN xs.length i).bind fun j=>xs[j]?
theorem Qkg {n:Nat} {i:Int} {j:Nat} (h:ixN n i=some j):seqIndex? i n=some j/\j < n/\-(n:Int)<=i/\i < n:=by
 unfold ixN at h
 by_cases h0:0<=i
 ·rw [if_pos h0] at h
  by_cases h1:i < n
  ·rw [if_pos h1] at h
   have e:i.toNat=j:=Option.some.inj h
   exact ⟨by rw [seqIndex_of h0 h1,e],by omega,by omega,h1⟩
  ·rw [if_neg h1] at h;cases h
 ·rw [if_neg h0] at h
  by_cases h1:-(n:Int)<=i
  ·rw [if_pos h1] at h
   have e:(i + n).toNat=j:=Option.some.inj h
   exact ⟨by rw [seqIndex_neg (by omega) h1,e],by omega,h1,by omega⟩
  ·rw [if_neg h1] at h;cases h
theorem Qhd {α:Type} {xs:List α} {i:Int} {v:α} (h:atI xs i=some v):∃ j,seqIndex? i xs.length=some j/\xs[j]? = some v/\j < xs.length/\-(xs.length:Int)<=i/\i < xs.length:=by
 unfold atI at h
 cases e:ixN xs.length i with
 | none=>rw [e] at h;cases h
 | some j =>
  rw [e] at h
  obtain ⟨h1,h2,h3,h4⟩:=Qkg e
  exact ⟨j,h1,h,h2,h3,h4⟩
theorem QiU {α:Type} (xs:List α) (v:α):atI (xs++[v]) (-1)=some v:=by
 have hl:(xs++[v]).length=xs.length + 1:=by simp
 have e:ixN (xs++[v]).length (-1)=some xs.length:=by
  unfold ixN
  rw [hl,if_neg (by decide),if_pos (by omega)]
  congr 1
  omega
 unfold atI
 rw [e]
 show (xs++[v])[xs.length]? = some v
 simp
def Qhi (b:Expr):Prop:=∀ o i,subscripted b false o i=operate [o,i] (getItem o i)
def IxR (X:Cx) (r:R2):Prop :=
 ∀ (value slice:Expr) (pins:List (Addr×Obj)) (s:Shared) (σ:St) (H:Hp) (x y:V) (v u:Value) (Q:VK),Inv X pins σ H s->RelV x v->RelV y u->r x y H Q ->
  subscripted slice false v u=operate [v,u] (getItem v u)->wpAny (model X.prog X.w) X.A (subscriptTail value slice v u) (EP X pins σ Q) X.xe s
def MtR (X:Cx) (id:String) (r:V->List V->Hp->VK->Prop):Prop :=
 ∀ (pins:List (Addr×Obj)) (s:Shared) (σ:St) (H:Hp) (x:V) (xs:List V) (v:Value) (us:List Value) (Q:VK),Inv X pins σ H s->RelV x v->Vals xs us->r x xs H Q ->
  wpAny (model X.prog X.w) X.A (call (.builtin id) (v::us)) (EP X pins σ Q) X.xe s
section
variable {X:Cx} {a b:Expr} {ta tb:TE} {pos:Pos}
theorem IxR.or {r r':R2} (h:IxR X r) (h':IxR X r'):IxR X (fun x y H Q=>r x y H Q\/r' x y H Q):=by
 intro value slice pins s σ H x y v u Q I rx ry q hs
 rcases q with q | q
 ·exact h value slice pins s σ H x y v u Q I rx ry q hs
 ·exact h' value slice pins s σ H x y v u Q I rx ry q hs
theorem Qon {r:R2} (hr:IxR X r) (ha:PE X a ta) (hb:PE X b tb) (hs:Qhi b):PE X (.Subscript a b pos) (tOp r ta tb):=by
 intro pins s σ H Q I h
 exact Subscript_ (binT ha hb I h fun v u s2 x y H2 I2 rx ry q=>hr a b pins s2 σ H2 x y v u Q I2 rx ry q (hs _ _))
def rIxL (K:W.Frag):R2:=fun x y H Q=>∃ p xs i v,x=.ref p/\y=.int i/\SqL K H p xs/\atI xs i=some v/\Q v H
def rIxT (K:W.Frag):R2:=fun x y H Q=>∃ p xs i v,x=.ref p/\y=.int i/\SqT K H p xs/\atI xs i=some v/\Q v H
def rIxS:R2:=fun x y H Q=>∃ z i c,x=.str z/\y=.int i/\z.length<=sizeLine/\atI z.cps.toList i=some c/\Q (.str ⟨#[c]⟩) H
theorem ix_list:IxR X (rIxL X.K):=by
 intro value slice pins s σ H x y v u Q I rx ry h hs
 obtain ⟨p,xs,i,z,rfl,rfl,hq,he,q⟩:=h
 cases rx
 obtain ⟨t,rfl⟩:=ry
 obtain ⟨its,r,pl,hz⟩:=I.list hq
 obtain ⟨j,h1,h2,h3,h4,h5⟩:=Qhd he
 obtain ⟨w,ew,rw'⟩:=r.get h2
 have hl:=r.length
 have hn:=Qdc
 have fin:EP X pins σ Q w s:=⟨z,H,I,rw',q⟩
 by_cases h0:0<=i
 ·have hj:i.toNat=j:=by
   rw [seqIndex_of h0 h5] at h1
   exact Option.some.inj h1
  exact item_listR pl.isList h0 (by omega) (by rw [hj];simpa using ew) fin hs
 ·have hj:(i + (its.toArray.size:Int)).toNat=j:=by
   rw [seqIndex_neg (by omega) h4] at h1
   rw [List.size_toArray,← hl]
   exact Option.some.inj h1
  exact subscriptTail_builtinR (x:=w) pl.isList.typeIs slot_list_getitem.lookup
   (wpAny_getItem_list_neg (Q:=fun r s'=>r=w/\EP X pins σ Q r s') pl.isList (by omega) (by rw [List.size_toArray] <;> omega) (by omega) (by rw [hj];simpa using ew) ⟨rfl,fin⟩) hs
theorem ix_tup:IxR X (rIxT X.K):=by
 intro value slice pins s σ H x y v u Q I rx ry h hs
 obtain ⟨p,xs,i,z,rfl,rfl,hq,he,q⟩:=h
 cases rx
 obtain ⟨t,rfl⟩:=ry
 obtain ⟨its,r,pl,hz⟩:=I.tuple hq
 obtain ⟨j,h1,h2,h3,h4,h5⟩:=Qhd he
 obtain ⟨w,ew,rw'⟩:=r.get h2
 have hl:=r.length
 have hn:=Qdc
 have fin:EP X pins σ Q w s:=⟨z,H,I,rw',q⟩
 exact subscriptTail_builtinR (x:=w) pl.typeIs slot_tuple_getitem.lookup
  (getItem_tuple (j:=j) (Q:=fun r s'=>r=w/\EP X pins σ Q r s') pl (by omega) (by omega) (by rw [List.size_toArray,← hl];exact h1) (by simpa using ew) ⟨rfl,fin⟩) hs
theorem QoG:IxR X rIxS:=by
 intro value slice pins s σ H x y v u Q I rx ry h hs
 obtain ⟨z,i,c,rfl,rfl,hz,he,q⟩:=h
 obtain ⟨t,rfl⟩:=rx
 obtain ⟨t',rfl⟩:=ry
 obtain ⟨j,h1,h2,h3,h4,h5⟩:=Qhd he
 have hl:z.cps.toList.length=z.length:=by simp [Str.length]
 rw [hl] at h1 h4 h5
 have hn:=Qdc
 exact tail_any (typeIs_str s z t) slot_str_getitem.lookup (getItem_str (c:=c) (by
  have e1:decide (i < -(2 ^ 63:Int))=false:=decide_eq_false (by omega)
  have e2:decide (i ≥ 2 ^ 63)=false:=decide_eq_false (by omega)
  rw [e1,e2,Bool.or_false]) (by rw [h1];simpa using h2) ⟨.str ⟨#[c]⟩,H,I.tok _,⟨_,rfl⟩,q⟩) hs
def rIx (K:W.Frag):R2:=fun x y H Q=>rIxL K x y H Q\/rIxT K x y H Q\/rIxS x y H Q
theorem Ql8:IxR X (rIx X.K):=ix_list.or (ix_tup.or QoG)
theorem Qi3 (its:List Value) (n j:Nat) (u:Value):Obj.mapSeq (·.setIfInBounds j u) { cls:=.type "list",data:=.seq its.toArray n }={ cls:=.type "list",data:=.seq (its.set j u).toArray n }:=by
 simp [Obj.mapSeq]
theorem Inv.lst {pins:List (Addr×Obj)} {σ:St} {H:Hp} {s:Shared} {p:Addr} {xs:List V} (I:Inv X pins σ H s) (h:H p=some (.lst xs)) :
  ∃ (its:List Value) (n:Nat),Vals xs its/\s.heap.get? p=some { cls:=.type "list",data:=.seq its.toArray n }/\xs.length<=sizeLine:=by
 obtain ⟨z,its,n,r,e⟩:=I.hok p _ h
 exact ⟨its,n,r,e,z⟩
theorem Inv.lstUpd {pins:List (Addr×Obj)} {σ:St} {H:Hp} {s:Shared} {p:Addr} {xs ys:List V} {its its':List Value} {n n':Nat} {f:Obj->Obj} (I:Inv X pins σ H s) (h:H p=some (.lst xs))
  (ho:s.heap.get? p=some { cls:=.type "list",data:=.seq its.toArray n }) (hf:f { cls:=.type "list",data:=.seq its.toArray n }={ cls:=.type "list",data:=.seq its'.toArray n' }) (r:Vals ys its') (hz:ys.length<=sizeLine) (t:Nat) :
  Inv X pins σ (upd H p (.lst ys)) { s with heap:=s.heap.update p f,toks:=t }:=by
 have e:(s.heap.update p f).get? p=some { cls:=.type "list",data:=.seq its'.toArray n' }:=by
  rw [Heap.get?_update_self f ho (by rw [hf] <;> rfl),hf]
 refine I.write (x:=p) (e:=p) (by rw [h];trivial) (.inl rfl) (fun b u hb q=>(Heap.get?_update_other _ _ (Ne.symm hb)).trans q) ⟨_,e⟩ ?_
 exact ⟨hz,its',n',r,e⟩
def rSetL:V->V->V->Hp->(Hp->Prop)->Prop:=fun o i v H Q=>∃ p xs k j,o=.ref p/\i=.int k/\H p=some (.lst xs)/\ixN xs.length k=some j/\Q (upd H p (.lst (xs.set j v)))
theorem QmV:PSet X rSetL:=by
 intro pins s σ H o i v ov iv u Q I ro ri rv h
 obtain ⟨p,xs,k,j,rfl,rfl,hp,hj,q⟩:=h
 cases ro
 obtain ⟨t,rfl⟩:=ri
 obtain ⟨its,n,r,ho,hz⟩:=I.lst hp
 obtain ⟨h1,h2,h3,h4⟩:=Qkg hj
 have hl:=r.length
 have hn:=Qdc
 have I':Inv X pins σ (upd H p (.lst (xs.set j v))) { s with heap:=s.heap.update p (Obj.mapSeq (·.setIfInBounds j u)) } :=
  I.lstUpd hp ho (Qi3 its n j u) (r.set rv j) (by rw [List.length_set];exact hz) s.toks
 by_cases h0:0<=k
 ·have hk:k.toNat=j:=by
   rw [seqIndex_of h0 h4] at h1
   exact Option.some.inj h1
  exact W.ki_setAt ho h0 (by omega) (by rw [List.size_toArray,← hl];exact h4) (by rw [hk];exact ⟨_,I',q⟩)
 ·have hk:(k + (its.toArray.size:Int)).toNat=j:=by
   rw [seqIndex_neg (by omega) h3] at h1
   rw [List.size_toArray,← hl]
   exact Option.some.inj h1
  exact W.ki_setBack ho (by omega) (by rw [List.size_toArray,← hl];exact h3) (by omega) (by rw [hk];exact ⟨_,I',q⟩)
theorem Qg4 (lo hi:Option Int) (n:Nat):(sliceBounds lo hi none n).1=((HT.sIx n 0 lo:Nat):Int)/\(sliceBounds lo hi none n).2.1=((HT.sIx n n hi:Nat):Int)/\(sliceBounds lo hi none n).2.2=1:=by
 refine ⟨?_,?_,rfl⟩
 ·cases lo with
  | none=>simp [sliceBounds,HT.sIx]
  | some i =>
   simp only [sliceBounds,HT.sIx,Option.getD_none,show (1:Int) > 0 by decide,if_true]
   by_cases h:i < 0
   ·simp only [h,if_true] <;> omega
   ·simp only [h,if_false] <;> omega
 ·cases hi with
  | none=>simp [sliceBounds,HT.sIx]
  | some i =>
   simp only [sliceBounds,HT.sIx,Option.getD_none,show (1:Int) > 0 by decide,if_true]
   by_cases h:i < 0
   ·simp only [h,if_true] <;> omega
   ·simp only [h,if_false] <;> omega
theorem QfZ (its:List Value) (lo hi:Option Int):slicePick its.toArray lo hi none=((its.drop (HT.sIx its.length 0 lo)).take (HT.sIx its.length its.length hi - HT.sIx its.length 0 lo)).toArray:=by
 obtain ⟨h1,h2,h3⟩:=Qg4 lo hi its.toArray.size
 unfold slicePick
 rw [h1,h2,h3]
 simp only [sliceRange_one,pick_run,List.size_toArray] <;> rfl
def rSlL (K:W.Frag):V->Option Int->Option Int->Hp->VK->Prop:=fun x lo hi H Q=>∃ a xs,x=.ref a/\SqL K H a xs/\∀ p,H p=none->Q (.ref p) (upd H p (.lst (cutV xs lo hi)))
theorem QnA:SlR X (rSlL X.K):=by
 intro pins s σ H x v vl vu lo hi sl Q I rx hs pl pu h
 obtain ⟨a,xs,rfl,hx,q⟩:=h
 cases rx
 obtain ⟨its,r,ht,hz⟩:=I.list hx
 have hlen:=r.length
 refine ⟨"list",_,slot_list_getitem.lookup,ht.isList.typeIs,?_⟩
 refine wpAny_getItem_list_slice ht.isList hs pl pu .none (by simp) ?_ (by rw [List.size_toArray] <;> omega)
 rw [QfZ,← hlen]
 refine ⟨.ref s.heap.objs.size,_,I.laid (t':=s.toks) (o:=.lst (cutV xs lo hi)) (fun b ob q=>Heap.get?_push_of_some _ q) (Nat.le_refl _) ?_,rfl,q _ (I.hok.fresh (Nat.le_refl _))⟩
 exact ⟨Nat.le_trans (Qir xs lo hi) hz,_,0,(r.drop (HT.sIx xs.length 0 lo)).take (HT.sIx xs.length xs.length hi - HT.sIx xs.length 0 lo),Heap.get?_push_size _ rfl⟩
def Qbs:V->Bool
 | .non=>true
 | .bl _=>true
 | .int _=>true
 | .str _=>true
 | _=>false
def eqV:V->V->Bool
 | .non,.non=>true
 | .bl a,.bl b=>a == b
 | .bl a,.int b=>(if a then 1 else 0) == b
 | .int a,.bl b=>a == (if b then 1 else 0)
 | .int a,.int b=>a == b
 | .str a,.str b=>a == b
 | _,_=>false
theorem QoJ {A:Around} {s:Shared} {y x:V} {u v:Value} (ry:RelV y u) (rx:RelV x v) (fy:Qbs y=true) (fx:Qbs x=true):SeqAt.EqAt A s u v (eqV y x):=by
 cases y with
 | non =>
  cases ry
  cases x with
  | non=>cases rx;exact SeqAt.EqAt.same _
  | bl b=>cases rx;exact SeqAt.EqAt.none_bool b
  | int b=>obtain ⟨t,rfl⟩:=rx;exact SeqAt.EqAt.none_int b t
  | str b=>obtain ⟨t,rfl⟩:=rx;exact SeqAt.EqAt.none_str b t
  | _=>exact absurd (show false=true from fx) Bool.false_ne_true
 | bl a =>
  cases ry
  cases x with
  | non=>cases rx;exact SeqAt.EqAt.bool_none a
  | bl b=>cases rx;exact SeqAt.EqAt.bool_bool a b
  | int b=>obtain ⟨t,rfl⟩:=rx;exact SeqAt.EqAt.bool_int a b t
  | str b=>obtain ⟨t,rfl⟩:=rx;exact SeqAt.EqAt.bool_str a b t
  | _=>exact absurd (show false=true from fx) Bool.false_ne_true
 | int a =>
  obtain ⟨t',rfl⟩:=ry
  cases x with
  | non=>cases rx;exact SeqAt.EqAt.int_none a t'
  | bl b=>cases rx;exact SeqAt.EqAt.int_bool a t' b
  | int b=>obtain ⟨t,rfl⟩:=rx;exact SeqAt.EqAt.int_int a t' b t
  | str b=>obtain ⟨t,rfl⟩:=rx;exact SeqAt.EqAt.int_str a t' b t
  | _=>exact absurd (show false=true from fx) Bool.false_ne_true
 | str a =>
  obtain ⟨t',rfl⟩:=ry
  cases x with
  | non=>cases rx;exact SeqAt.EqAt.str_none a t'
  | bl b=>cases rx;exact SeqAt.EqAt.str_bool a t' b
  | int b=>obtain ⟨t,rfl⟩:=rx;exact SeqAt.EqAt.str_int a t' b t
  | str b=>obtain ⟨t,rfl⟩:=rx;exact SeqAt.EqAt.str_str a t' b t
  | _=>exact absurd (show false=true from fx) Bool.false_ne_true
 | _=>exact absurd (show false=true from fy) Bool.false_ne_true
theorem QhK:CallR X (.builtin "len") (fun xs H Q=>∃ p ys,xs=[.ref p]/\(SqL X.K H p ys\/SqT X.K H p ys)/\Q (.int ys.length) H):=by
 intro pins s σ H xs us Q I r h
 obtain ⟨p,ys,rfl,hq,q⟩:=h
 obtain ⟨u,rfl,rx⟩:=Qct r
 cases rx
 have hn:=Qdc
 rcases hq with hq | hq
 ·obtain ⟨its,r',pl,hz⟩:=I.list hq
  have hlen:=r'.length
  exact Calls.call_len_list pl.isList (by simp only [List.size_toArray] <;> omega) ⟨.int ys.length,H,I.tok _,⟨s.toks + 1,by rw [List.size_toArray,hlen]⟩,q⟩
 ·obtain ⟨its,r',pl,hz⟩:=I.tuple hq
  have hlen:=r'.length
  exact len_tuple pl (by simp only [List.size_toArray] <;> omega) ⟨.int ys.length,H,I.tok _,⟨s.toks + 1,by rw [List.size_toArray,hlen]⟩,q⟩
theorem Qhk:CallR X (.builtin "len") (fun xs H Q=>∃ z,xs=[.str z]/\z.length<=sizeLine/\Q (.int z.length) H):=by
 intro pins s σ H xs us Q I r h
 obtain ⟨z,rfl,hz,q⟩:=h
 obtain ⟨u,rfl,t,rfl⟩:=Qct r
 have hn:=Qdc
 exact len_str (by omega) ⟨.int z.length,H,I.tok _,⟨_,rfl⟩,q⟩
theorem CallR.or {f:Value} {r r':List V->Hp->VK->Prop} (h:CallR X f r) (h':CallR X f r'):CallR X f (fun xs H Q=>r xs H Q\/r' xs H Q):=by
 intro pins s σ H xs us Q I rs q
 rcases q with q | q
 ·exact h pins s σ H xs us Q I rs q
 ·exact h' pins s σ H xs us Q I rs q
theorem QdM:CallR X (.type "list") (fun xs H Q=>∃ p ys,xs=[.ref p]/\(SqL X.K H p ys\/SqT X.K H p ys)/\∀ l,H l=none->Q (.ref l) (upd H l (.lst ys))):=by
 intro pins s σ H xs us Q I r h
 obtain ⟨p,ys,rfl,hq,q⟩:=h
 obtain ⟨u,rfl,rx⟩:=Qct r
 cases rx
 have fin:∀ (its:List Value),Vals ys its->ys.length<=sizeLine->∀ (h':Heap) (c':Nat),(∀ b o',s.heap.get? b=some o'->h'.get? b=some o') ->
   h'.get? s.heap.objs.size=some { cls:=.type "list",dict:=none,data:=.seq its.toArray c',slots:=#[] }->EP X pins σ Q (.ref s.heap.objs.size) { s with heap:=h' }:=fun its r' hz h' c' kp e =>
  ⟨.ref s.heap.objs.size,_,I.laid (t':=s.toks) kp (Nat.le_refl _) (show ObjOk X.prog X.w _ h' _ (.lst ys) from ⟨hz,its,c',r',e⟩),rfl,q _ (I.hok.fresh (Nat.le_refl _))⟩
 rcases hq with hq | hq
 ·obtain ⟨its,r',pl,hz⟩:=I.list hq
  have hlen:=r'.length
  obtain ⟨o,ho,hc,n,hd⟩:=pl.isList
  exact call_list_seq p (.inl rfl) ho hc hd (fun h' c' kp e=>fin its r' hz h' c' kp e) (by simp only [List.size_toArray] <;> omega)
 ·obtain ⟨its,r',pl,hz⟩:=I.tuple hq
  have hlen:=r'.length
  obtain ⟨o,ho,hc,n,hd⟩:=pl
  exact call_list_seq p (.inr rfl) ho hc hd (fun h' c' kp e=>fin its r' hz h' c' kp e) (by simp only [List.size_toArray] <;> omega)
theorem Qf5:CallR X (.type "tuple") (fun xs H Q=>∃ p ys,xs=[.ref p]/\((SqL X.K H p ys/\∀ l,H l=none->Q (.ref l) (upd H l (.tup ys)))\/(SqT X.K H p ys/\Q (.ref p) H))):=by
 intro pins s σ H xs us Q I r h
 obtain ⟨p,ys,rfl,h⟩:=h
 obtain ⟨u,rfl,rx⟩:=Qct r
 cases rx
 rcases h with ⟨hq,q⟩ | ⟨hq,q⟩
 ·obtain ⟨its,r',pl,hz⟩:=I.list hq
  have hlen:=r'.length
  refine call_tuple_list pl.isList (fun h' kp=>?_) (by simp only [List.size_toArray] <;> omega)
  have I1:Inv X pins σ H { s with heap:=h' }:=I.kept (t':=s.toks) kp
  have I2:Inv X pins σ (upd H h'.objs.size (.tup ys)) { s with heap:=h'.push { cls:=.type "tuple",data:=.seq its.toArray } } :=
   I1.laid (t':=s.toks) (fun b o e=>Heap.get?_push_of_some _ e) (Nat.le_refl _) (show ObjOk X.prog X.w _ _ _ (.tup ys) from ⟨hz,its,r',IsTup.new _ _⟩)
  exact ⟨.ref h'.objs.size,_,I2,rfl,q _ (I1.hok.fresh (Nat.le_refl _))⟩
 ·obtain ⟨its,r',pl,hz⟩:=I.tuple hq
  exact call_tuple_same pl ⟨.ref p,H,I,rfl,q⟩
def tyV (K:W.Frag) (T:String) (x:V) (H:Hp):Prop:=match x with
 | .str _=>T = "str"
 | .int _=>T = "int"
 | .ref p=>(T = "list"/\∃ xs,SqL K H p xs)\/(T = "tuple"/\∃ o,K.lookup p=some o/\o.cls=.type "tuple"/\o.dict=none) \/
   (T = "dict"/\((∃ kvs,H p=some (.dK kvs))\/∃ kvs,H p=some (.dT kvs)))\/(T = "set"/\∃ S n,H p=some (.set S n))
 | _=>False
theorem QjE {pins:List (Addr×Obj)} {σ:St} {H:Hp} {s:Shared} {T:String} {x:V} {v:Value} (I:Inv X pins σ H s) (r:RelV x v) (ty:tyV X.K T x H) :
  s.TypeIs v T/\∀ a,v=.ref a->∃ ob,s.heap.get? a=some ob/\ob.dict=none:=by
 cases x with
 | str z =>
  obtain ⟨t,rfl⟩:=r
  cases (show T = "str" from ty)
  exact ⟨typeIs_str s z t,fun _ e=>nomatch e⟩
 | int i =>
  obtain ⟨t,rfl⟩:=r
  cases (show T = "int" from ty)
  exact ⟨typeIs_int s i t,fun _ e=>nomatch e⟩
 | ref p =>
  cases r
  rcases ty with ⟨rfl,xs,hq⟩ | ⟨rfl,o,hk,hc,hd⟩ | ⟨rfl,hk⟩ | ⟨rfl,S,n,hk⟩
  ·obtain ⟨its,_,pl,_⟩:=I.list hq
   refine ⟨pl.isList.typeIs,fun a e=>?_⟩
   cases e
   obtain ⟨o,n,e,c,hd,_⟩:=pl
   exact ⟨o,e,hd⟩
  ·refine ⟨⟨o,I.kIn p o hk,hc⟩,fun a e=>?_⟩
   cases e
   exact ⟨o,I.kIn _ o hk,hd⟩
  ·have z:∃ o,s.heap.get? p=some o/\o.ExactDict:=by
    rcases hk with ⟨kvs,hk⟩ | ⟨kvs,hk⟩
    ·obtain ⟨_,_,_,_,o,_,_,e,ex,_⟩:=I.hok p _ hk
     exact ⟨o,e,ex⟩
    ·obtain ⟨_,_,_,_,o,_,_,e,ex,_⟩:=I.hok p _ hk
     exact ⟨o,e,ex⟩
   obtain ⟨o,e,ex⟩:=z
   refine ⟨⟨o,e,ex.1⟩,fun a e2=>?_⟩
   cases e2
   exact ⟨o,e,ex.2.1⟩
  ·obtain ⟨o,_,_,_,e,ex,_⟩:=I.hok p _ hk
   refine ⟨⟨o,e,ex.1⟩,fun a e2=>?_⟩
   cases e2
   exact ⟨o,e,ex.2.1⟩
 | _=>exact False.elim ty
def tBM0 (K:W.Frag) (T:String) (r:V->List V->Hp->VK->Prop) (to:TE):TE:=fun σ H Q=>to σ H fun x H1=>tyV K T x H1/\r x [] H1 Q
def tBM (K:W.Frag) (T:String) (r:V->List V->Hp->VK->Prop) (to:TE) (t:TA):TE:=fun σ H Q=>to σ H fun x H1=>tyV K T x H1/\t σ H1 fun xs H2=>r x xs H2 Q
variable {o e:Expr} {es:List Expr} {to:TE} {t:TA} {name:Str} {apos cpos:Pos} {T id:String} {r:V->List V->Hp->VK->Prop}
theorem Qi9 (pa:PlainAttrs T) (slot:Slot T name id) (hty:typeOf (.builtin id)=pure (.type "method_descriptor")) (hm:MtR X id r) (ho:PE X o to)
  (hbase:attributeBase o name X.env (eval o X.env)=eval o X.env:=by rfl) (hline:(apos.endLine == cpos.line)=true:=by rfl):PE X (.Call (.Attribute o name apos) [] [] cpos) (tBM0 X.K T r to):=by
 intro pins s σ H Q I h
 refine wpAny_Call_method0_late hbase hline (thn (ho pins s σ H _ I h) fun v s1 ⟨x,H1,I1,r1,ty,q1⟩=>?_)
 obtain ⟨h1,h2⟩:=QjE I1 r1 ty
 exact ⟨T,id,pa,slot,hty,h1,h2,Calls.callWith_builtin rfl (PySem.evalArgs_none (hm pins s1 σ H1 x [] v [] Q I1 r1 .nil q1))⟩
theorem QjU (pa:PlainAttrs T) (slot:Slot T name id) (hty:typeOf (.builtin id)=pure (.type "method_descriptor")) (hm:MtR X id r) (ho:PE X o to) (ha:PA X (e::es) t)
  (hbase:attributeBase o name X.env (eval o X.env)=eval o X.env:=by rfl)
  (hfew:((backTo cpos (starEach (e::es) X.env)).all (fun x=>!x.1) && (backToKw cpos (keywordEach [] X.env)).all (fun x=>x.1.isSome)
   && decide ((e::es).length + ([]:List Keyword).length + (if ([]:List Keyword).isEmpty then 0 else 1) < 30))=true:=by rfl)
  (hline:(apos.endLine == cpos.line)=true:=by rfl) (hs:starEach (e::es) X.env=(false,eval e X.env)::starEach es X.env:=by rfl) (hplain:(backTo cpos (starEach es X.env)).any (·.1)=false:=by rfl) :
  PE X (.Call (.Attribute o name apos) (e::es) [] cpos) (tBM X.K T r to t):=by
 intro pins s σ H Q I h
 refine wpAny_Call_method_late hbase hfew hline rfl (thn (ho pins s σ H _ I h) fun v s1 ⟨x,H1,I1,r1,ty,q1⟩=>?_)
 obtain ⟨h1,h2⟩:=QjE I1 r1 ty
 refine ⟨T,id,pa,slot,hty,h1,h2,?_⟩
 have hA:=ha cpos pins s1 σ H1 _ I1 q1
 rw [hs] at hA ⊢
 refine Calls.callWith_builtin (by show (false || (backTo cpos (starEach es X.env)).any (·.1))=false;rw [hplain] <;> rfl) (Calls.evalArgs_plain ?_)
 exact thn hA fun us s2 ⟨vs,H2,I2,r2,q2⟩=>hm pins s2 σ H2 x vs v us Q I2 r1 r2 q2
end
end L2
namespace L2
open PySem PySem.Spec PyProof.Rows
def MtM (X:Cx) (id:String) (r:V->List V->Hp->VK->Prop):Prop :=
 ∀ (pins:List (Addr×Obj)) (s:Shared) (σ:St) (H:Hp) (x:V) (xs:List V) (v:Value) (us:List Value) (Q:VK),Inv X pins σ H s->RelV x v->Vals xs us->r x xs H Q ->
  wpAny (model X.prog X.w) X.A (call (.builtin id) (v::us)) (EP X pins σ Q) X.xe s
theorem Vals.one:∀ {x:V} {us:List Value},Vals [x] us->∃ u,us=[u]/\RelV x u
 | _,_,.cons r .nil=>⟨_,rfl,r⟩
theorem Vals.zero:∀ {us:List Value},Vals [] us->us=[]
 | _,.nil=>rfl
theorem Vals.dropLast {xs:List V} {us:List Value} (h:Vals xs us):Vals xs.dropLast us.dropLast:=by
 induction h with
 | nil=>exact .nil
 | cons r t ih =>
  cases t with
  | nil=>exact .nil
  | cons q t'=>exact .cons r ih
theorem Qjx {α:Type} (l:List α):l.eraseIdx (l.length - 1)=l.dropLast:=by
 induction l with
 | nil=>rfl
 | cons a r ih =>
  cases r with
  | nil=>rfl
  | cons b r =>
   have e:(a::b::r).length - 1=((b::r).length - 1) + 1:=by
    have h1:(a::b::r).length=r.length + 2:=rfl
    have h2:(b::r).length=r.length + 1:=rfl
    omega
   rw [e,List.eraseIdx_cons_succ,ih]
   all_goals rfl
section
variable {X:Cx} {pins:List (Addr×Obj)} {σ:St} {H:Hp} {s:Shared} {l b:Addr} {xs ys zs:List V}
theorem Inv.lset {its its':List Value} {n:Nat} {f:Array Value->Array Value} {t':Nat} (I:Inv X pins σ H s) (hH:H l=some (.lst xs))
  (e:s.heap.get? l=some { cls:=.type "list",data:=.seq its.toArray n }) (hf:f its.toArray=its'.toArray) (hv:Vals ys its') (hz:ys.length<=sizeLine) :
  Inv X pins σ (upd H l (.lst ys)) { s with heap:=s.heap.update l (Obj.mapSeq f),toks:=t' }:=by
 have q:=PySem.IsL.update e f
 rw [hf] at q
 refine I.write (x:=l) (e:=l) (by rw [hH];exact trivial) (.inl rfl) (fun b' u hb hu=>(Heap.get?_update_other s.heap (Obj.mapSeq f) (Ne.symm hb)).trans hu) ⟨_,q⟩ ?_
 exact ⟨hz,its',_,hv,q⟩
theorem Inv.lnew {its:List Value} {t':Nat} (I:Inv X pins σ H s) (hv:Vals ys its) (hz:ys.length<=sizeLine) :
  Inv X pins σ (upd H s.heap.objs.size (.lst ys)) { s with heap:=s.heap.push { cls:=.type "list",data:=.seq its.toArray },toks:=t' } :=
 I.laid (fun _ _ q=>Heap.get?_push_of_some _ q) (Nat.le_refl _) ⟨hz,its,0,hv,Heap.get?_push_size _ rfl⟩
theorem Inv.fresh (I:Inv X pins σ H s):H s.heap.objs.size=none:=I.hok.fresh (Nat.le_refl _)
theorem Inv.lstM (I:Inv X pins σ H s) (hH:H l=some (.lst xs)):xs.length<=sizeLine/\∃ (its:List Value) (n:Nat),Vals xs its/\xs.length=its.length/\s.heap.get? l=some { cls:=.type "list",data:=.seq its.toArray n }:=by
 obtain ⟨z,its,n,r,e⟩:=I.hok l _ hH
 exact ⟨z,its,n,r,r.length,e⟩
end
section
variable {X:Cx}
def Qni:V->List V->Hp->VK->Prop:=fun x vs H Q=>∃ l xs y,x=.ref l/\vs=[y]/\H l=some (.lst xs)/\xs.length < sizeLine/\Q .non (upd H l (.lst (xs++[y])))
theorem Qel:MtM X "list.append" Qni:=by
 intro pins s σ H x vs v us Q I rx rv h
 obtain ⟨l,xs,y,rfl,rfl,hH,hz,q⟩:=h
 cases rx
 obtain ⟨u,rfl,ru⟩:=rv.one
 obtain ⟨z,its,n,r,hl,e⟩:=I.lstM hH
 refine call_meets F.slot_list_append ⟨_,e,rfl⟩ F.entry_list_append (F.args_list_append_2 _ _) (PySem.list_append l its.toArray n u (by rw [List.size_toArray];omega)) ⟨e,?_⟩
 refine ⟨.non,_,I.lset (its':=its++[u]) hH e (by simp) (r.append (.cons ru .nil)) ?_,rfl,q⟩
 rw [List.length_append,List.length_singleton]
 omega
def rPop:V->List V->Hp->VK->Prop:=fun x vs H Q=>∃ l xs y,x=.ref l/\vs=[]/\H l=some (.lst xs)/\xs[xs.length - 1]? = some y/\Q y (upd H l (.lst xs.dropLast))
theorem Qmw:MtM X "list.pop" rPop:=by
 intro pins s σ H x vs v us Q I rx rv h
 obtain ⟨l,xs,y,rfl,rfl,hH,hy,q⟩:=h
 cases rx
 have hus:=rv.zero
 subst hus
 obtain ⟨z,its,n,r,hl,e⟩:=I.lstM hH
 obtain ⟨u,hu,ru⟩:=r.get hy
 have hy':its.toArray[its.toArray.size - 1]? = some u:=by
  show its.toArray[its.length - 1]? = some u
  rw [← Array.getElem?_toList,← hl]
  exact hu
 refine call_meets F.slot_list_pop ⟨_,e,rfl⟩ F.entry_list_pop (F.args_list_pop_1 _) (MeetsSeq.list_pop_last l its.toArray n u hy' (by rw [List.size_toArray];omega)) ⟨e,?_⟩
 refine ⟨y,_,I.lset (its':=its.dropLast) hH e ?_ r.dropLast ?_,ru,q⟩
 ·show its.toArray.eraseIdxIfInBounds (its.toArray.size - 1)=its.dropLast.toArray
  rw [List.size_toArray,List.eraseIdxIfInBounds_toArray,Qjx]
 ·rw [List.length_dropLast]
  omega
end
section
variable {prog:Program} {w:World} {A:Around} {E:Value->Shared->Prop} {s:Shared}
end
section
variable {X:Cx}
end
end L2
namespace Att
open PySem PySem.W PySem.Calls PyProof.Rows
theorem QeK {P:Params} {h:Heap}:∀ (ns:List Int) (vs:List Value),WellAll P h vs (ns.map WData.int)->IntsAre vs ns:=by
 intro ns
 induction ns with
 | nil =>
  intro vs w
  rw [List.map_nil] at w
  cases w
  exact .nil
 | cons n ns ih =>
  intro vs w
  rw [List.map_cons] at w
  cases w with
  | cons a b =>
   cases a
   exact .cons _ _ (ih _ b)
theorem Qlb {l:OpenLaw} {n:Nat} (hn:l.most=some n) {P:Params} {h:Heap} {args:List WData} {vals:List Value}
  (hpre:l.row.toRowW.claim.pre args=true) (hwl:WellAll P h vals args) :
  ∃ a vs ns,vals=[Value.ref a]/\args=[WData.list (ns.map WData.int)]/\h.get? a=some { cls:=.type "list",data:=.seq vs.toArray }/\IntsAre vs ns/\ns.length<=n:=by
 have hsh:WShape.hasAll [] args [.list .int]=true:=(pre_splitW hpre).1
 have hc:l.pre.holds [] { args:=args }=true:=(pre_splitW hpre).2
 obtain ⟨d,r,rfl,h1,h2⟩:=hasAllW_cons hsh
 obtain rfl:=hasAllW_nil h2
 obtain ⟨xs,rfl,h3⟩:=hasW_list h1
 obtain ⟨ns,rfl⟩:=items_int h3
 have hlen:ns.length<=n:=by
  unfold OpenLaw.pre at hc
  have h4:(WTm.not (.lt (.lit (.int (n:Int))) (.len (.arg 0)))).holds [] { args:=[.list (ns.map .int)] }=true:=by
   have h4:=(holds_andW hc).1
   rw [hn] at h4
   exact h4
  have h5:=condW_of h4 (w_not (w_lt w_lit (w_len_list (w_arg rfl))))
  rw [List.length_map] at h5
  refine Nat.le_of_not_lt fun q=>?_
  have q':(n:Int) < ((ns.length:Nat):Int):=by omega
  first
   | (rw [decide_eq_true q'] at h5;exact absurd h5 (by decide))
   | (simp at h5;omega)
 cases hwl with
 | cons w1 w2 =>
  cases w2
  cases w1 with
  | list ho hall=>exact ⟨_,_,ns,rfl,rfl,ho,QeK ns _ hall,hlen⟩
theorem Qls (l:OpenLaw) (args:List WData):l.row.toRowW.claim.post args (.bool true) args=true :=
 postW_of (r:=l.row.toRowW) (X:=(true == true))
  (show WShape.has [] (.bool true) .bool=true by first | rfl | decide | simp [WShape.has,WShape.arms,WShape.armsAll])
  (show (WTm.eq .res (.lit (.bool true))).value [] { args:=args,res:=some (.bool true),after:=args }=some (.bool (true == true)) from w_eq_bool (w_res rfl) w_lit) rfl
theorem attach_call {l:OpenLaw} {n:Nat} {q:Program} {loose:List Str} {XP:(Str->Option Value)->Heap->Prop} {YP:World->Heap->Prop} {d:DefRec}
  (hn:l.most=some n) (hdf:d.params.defaults=[])
  (call:∀ (w:World) (s₀ s₁:Shared) (mg mb:Str->Option Value) (fa:Addr) (o:Obj) (pm cd doc:Value) (a:Addr) (vs:List Value) (ns:List Int),
   Ground q loose [] XP w s₀ mg mb s₁.heap->YP w s₁.heap ->
   s₁.heap.get? fa=some o->o.data=.func (docDef d.name d.params d.body d.scope pm cd doc)->s₁.heap.CodeRec cd d.name->mg d.name=some (.ref fa) ->
   s₁.heap.get? a=some { cls:=.type "list",data:=.seq vs.toArray }->IntsAre vs ns->ns.length<=n->s₁.gens=#[] ->
   codeAny (model l.prog w) callerA (.call (.ref fa) ⟨[.ref a],[]⟩) (fun r s'=>r=.ok (.ret (.bool true))/\OldK s₁.heap s'.heap/\s'.os=s₁.os/\AllBare s'.gens) s₁) :
  WalkO q loose XP YP l.row.toRowW d [] (fun f vs=>PySem.call f vs):=by
 intro w s₀ s₁ mg mb G Y fa o pm cd doc dV kV ho hd hcd hD hmg hg args vals as hpre hlay hrd hwl hlo
 obtain rfl:dV=.none:=Dflts.none hD hdf
 obtain rfl:kV=.none:=Dflts.noKw hD
 obtain ⟨a,vs,ns,rfl,rfl,hobj,hints,hlen⟩:=Qlb hn hpre hwl
 refine enter_call (codeAny_mono (call w s₀ s₁ mg mb fa o pm cd doc a vs ns G Y ho (fd_plain hd) hcd hmg hobj hints hlen hg) fun r s' hq=>?_)
 obtain ⟨rfl,h2,h3,h4⟩:=hq
 exact ⟨.inl ⟨.bool true,.bool true,[],rfl,fun _=>rfl,.bool true,Qls l _,fun _=>⟨List.Pairwise.nil,fun _ hm=>(nomatch hm)⟩⟩,h2,h3,h4⟩
section
variable {prog:Program} {w:World} {A:Around} {E:Value->Shared->Prop} {s:Shared} {K:Frag}
end
end Att
namespace L2
open PySem PySem.Spec PyProof.Rows
theorem Qb7:∀ {vs:List Value} {ns:List Int},IntsAre vs ns->Vals (ns.map V.int) vs
 | _,_,.nil=>.nil
 | _,_,.cons n t h=>.cons ⟨t,rfl⟩ (Qb7 h)
def Only (H:Hp):Prop:=∀ b,H b=none\/∃ o xs,H b=some (.frz o (.lst xs))
theorem Qmq {P:Program} {w:World} {K:W.Frag} {mg mb:Str->Option Value} {CX:CXT} {k:Nat} {fa a:Addr} {fd:FuncData} {x:Str} {sp:Sp} {s₁:Shared} {vs:List Value} {ns:List Int}
  (KX:K.In s₁.heap) (hns:s₁.heap.Ns mainGlobals mg) (hb:s₁.heap.Ns builtinsNs mb) (hbb:∀ x:Str,x≠"__name__"->mb x=bootBuiltins x) (hlim:s₁.heap.NoLimit) (hg:s₁.gens=#[])
  (ha:s₁.heap.get? a=some { cls:=.type "list",data:=.seq vs.toArray }) (hi:IntsAre vs ns) (hl:ns.length<=sizeLine) (hr:Room k callerA)
  (F:∀ base:Heap,K.In base->base.Ns mainGlobals mg->FnOk P w K mg base CX k fa fd [x] sp) (hbind:∀ (s:Shared) (u:Value),BindsTo s fd ⟨[u],[]⟩ [(x,u)])
  (hsp:∀ H:Hp,Only H->SqL K H a (ns.map V.int)->sp [.ref a] H (fun v _=>v=.bl true) fun _ _ _=>False)
  (hCX:∀ H e s',CX [] H s₁ (fun _ _ _=>False) e s'->False) :
  codeAny (model P w) callerA (.call (.ref fa) ⟨[.ref a],[]⟩) (fun r s'=>r=.ok (.ret (.bool true))/\OldK s₁.heap s'.heap/\s'.os=s₁.os/\AllBare s'.gens) s₁:=by
 have rv:=Qb7 hi
 have lenV:=hi.length
 have core:∀ H:Hp,Only H->SqL K H a (ns.map V.int)->HOk P w H s₁.heap->(∀ b,H b≠none->b=a)->(H a≠none->K.lookup a=none) ->
   codeAny (model P w) callerA (.call (.ref fa) ⟨[.ref a],[]⟩) (fun r s'=>r=.ok (.ret (.bool true))/\OldK s₁.heap s'.heap/\s'.os=s₁.os/\AllBare s'.gens) s₁:=by
  intro H hO hS hok hA hK
  have base_of:∀ {b:Addr} {o:Obj},s₁.heap.get? b=some o->H b=none->(hidT s₁.heap H).get? b=some o:=fun e n=>Ql5 e n
  have noA:∀ {b:Addr} {o:Obj} {es:Array DictEntry} {ep:Nat},s₁.heap.get? b=some o->o.data=.dict es ep->H b=none:=fun {b o es ep} e d=>by
   cases q:H b with
   | none=>rfl
   | some u =>
    have e':b=a:=hA b (by rw [q];simp)
    subst e'
    rw [ha] at e;cases e
    have d':Data.seq vs.toArray _=Data.dict es ep:=d
    cases d'
  have nsK:∀ {b:Addr} {m:Str->Option Value},s₁.heap.Ns b m->(hidT s₁.heap H).Ns b m:=fun {b m} ⟨o,es,ep,e,d,r⟩=>⟨o,es,ep,base_of e (noA e d),d,r⟩
  have hKb:K.In (hidT s₁.heap H):=fun b o e=>base_of (KX b o e) (by
   cases q:H b with
   | none=>rfl
   | some u =>
    have e':b=a:=hA b (by rw [q];simp)
    subst e'
    rw [hK (by rw [q];simp)] at e;cases e)
  have hM:Mod K mg (hidT s₁.heap H):=⟨hKb,nsK hns,⟨mb,nsK hb,hbb⟩,let ⟨mc,h1,h2⟩:=hlim;⟨mc,nsK h1,h2⟩⟩
  have e0:Env0 P w K mg (hidT s₁.heap H) callerA [] s₁ H:=⟨rfl,hM,fun b o e=>Qoe e,Nat.le_of_eq (QkU _ _),trivial,fun b hb=>absurd (show b∈([]:List Addr) from hb) (by simp),hok,.of_eq hg⟩
  refine codeAny_mono ((F _ hKb (nsK hns)).run callerA [] s₁ H ⟨[.ref a],[]⟩ [.ref a] [.ref a] _ _ hr e0 (hbind s₁ (.ref a)) (.cons rfl .nil) (hsp H hO hS)) fun r s' h=>?_
  cases r with
  | error e=>exact (hCX H e s' h).elim
  | ok fl =>
   cases fl with
   | next=>exact False.elim h
   | brk=>exact False.elim h
   | cont=>exact False.elim h
   | ret u =>
    obtain ⟨v,H',os,bare,un,hok',r',q⟩:=h
    have q':v=.bl true:=q
    subst q'
    obtain rfl:u=Value.bool true:=r'
    refine ⟨rfl,OldK.of_keep fun b o e=>?_,os,bare⟩
    cases q:H b with
    | none=>exact un.keep b o e q (by intro z;exact absurd (show b∈([]:List Addr) from z) (by simp)) (by simp)
    | some u =>
     rcases hO b with z | ⟨ob,xs,z⟩
     ·rw [q] at z;cases z
     ·have z2:=un.frzs b ob _ z
      obtain ⟨e1,_⟩:=hok b _ z
      obtain ⟨e2,_⟩:=hok' b _ z2
      rw [e] at e1;cases e1
      exact e2
 cases hk:K.lookup a with
 | some o =>
  have e:=KX a o hk
  rw [ha] at e
  cases e
  refine core (fun _=>none) (fun _=>.inl rfl) (.inr ⟨_,vs.toArray,_,hk,rfl,rfl,rfl,by rw [List.size_toArray,lenV];exact hl,by simpa using rv⟩) (fun b u z=>by have z':(none:Option HO)=some u:=z;cases z') (fun b z=>absurd rfl z) fun z=>absurd rfl z
 | none =>
  refine core (fun b=>if b=a then some (.frz { cls:=.type "list",data:=.seq vs.toArray } (.lst (ns.map V.int))) else none) (fun b=>?_) (.inl (.inr ⟨{ cls:=.type "list",data:=.seq vs.toArray },if_pos rfl⟩)) (fun b u z=>?_) (fun b z=>?_) fun _=>hk
  ·by_cases hb:b=a
   ·exact .inr ⟨_,_,if_pos hb⟩
   ·exact .inl (if_neg hb)
  ·by_cases hb:b=a
   ·have z':=(if_pos hb).symm.trans z
    cases z'
    subst hb
    exact ⟨ha,by rw [List.length_map];exact hl,vs,_,rv,ha⟩
   ·have z':=(if_neg hb).symm.trans z
    cases z'
  ·by_cases hb:b=a
   ·exact hb
   ·exact absurd (if_neg hb) z
end L2
namespace L2
open PySem PySem.Spec PyProof.Rows
abbrev KOf {K:W.Frag} {h:Heap} (_:K.In h):W.Frag:=K
theorem walk_of {l:W.OpenLaw} {n k:Nat} {q:Program} {loose:List Str} {XP:(Str->Option Value)->Heap->Prop} {YP:World->Heap->Prop} {d:DefRec} {K:Params->W.Frag} {CX:World->CXT} {sp:World->Sp} {x:Str}
  (hn:l.most=some n) (hn2:n<=sizeLine) (hdf:d.params.defaults=[]) (hr:Room k callerA)
  (hY:∀ (w:World) (h:Heap),YP w h->(K w.params).In h)
  (F:∀ (w:World) (mg:Str->Option Value) (fa:Addr) (h:Heap),(K w.params).In h->h.Ns mainGlobals mg->mg d.name=some (.ref fa) ->
   ∃ fd:FuncData,(∀ (s:Shared) (u:Value),BindsTo s fd ⟨[u],[]⟩ [(x,u)]) /\
    ∀ base:Heap,(K w.params).In base->base.Ns mainGlobals mg->FnOk l.prog w (K w.params) mg base (CX w) k fa fd [x] (sp w))
  (hsp:∀ (w:World) (H:Hp) (a:Addr) (ns:List Int),ns.length<=n->Only H->SqL (K w.params) H a (ns.map V.int)->sp w [.ref a] H (fun v _=>v=.bl true) fun _ _ _=>False)
  (hCX:∀ (w:World) (H:Hp) (s:Shared) (e:Value) (s':Shared),CX w [] H s (fun _ _ _=>False) e s'->False) :
  W.WalkO q loose XP YP l.row.toRowW d [] (fun f vs=>PySem.call f vs):=by
 refine Att.attach_call hn hdf fun w s₀ s₁ mg mb fa o pm cd doc a vs ns G Y ho hd hcd hmg hobj hints hlen hg=>?_
 have KX:=hY w _ Y
 obtain ⟨fd,hb,hF⟩:=F w mg fa _ KX G.T.g hmg
 exact Qmq KX G.T.g G.T.b G.T.builtins G.T.nolimit hg hobj hints (Nat.le_trans hlen hn2) hr hF hb (fun H hO hS=>hsp w H a ns hlen hO hS) fun H e s'=>hCX w H s₁ e s'
end L2
namespace L2
open PySem PySem.Spec PyProof.Rows
def QN (s:Stmt) (j:Nat):Stmt:=match s with
 | .ClassDef _ _ _ body _ _ _ _ _ _ _=>body.getD j (.Pass ⟨0,0,0,0⟩)
 | _=>.Pass ⟨0,0,0,0⟩
def Qcb (s:Stmt):Arguments:=match s with
 | .FunctionDef _ a _ _ _ _ _ _ _ _=>a
 | _=>{ posonlyargs:=[],args:=[],vararg:=none,kwonlyargs:=[],kw_defaults:=[],kwarg:=none,defaults:=[] }
def Qah (s:Stmt):List Stmt:=match s with
 | .FunctionDef _ _ b _ _ _ _ _ _ _=>b
 | _=>[]
def Qo (s:Stmt):Scope:=match s with
 | .FunctionDef _ _ _ _ _ _ sc _ _ _=>sc
 | _=>{ kind:=.function,names:=[],isGenerator:=false,isCoroutine:=false }
abbrev CX0:CXT:=fun _ _ _ _ _ _=>False
abbrev E0:XK:=fun _ _ _=>False
theorem QhQ {X:Cx}:Qfk CX0 X E0:=fun _ _ _ _ _ _ _ h=>h.elim
structure Fun (K:W.Frag) (x qual:Str) (st:Stmt) (f:Addr) (fd:FuncData):Prop where
 ex:∃ (oc:Value) (od:Option Addr) (kV doc pm:Value) (an:Option Addr) (cdv ct:Value) (osl:Array (Option Value)),
  fd=W.fnOf x qual (Qcb st) (Qah st) (Qo st) .none kV doc pm an cdv ct/\K.lookup f=some ⟨oc,od,.func fd,osl⟩/\W.codeIn K cdv qual=true
 kp:W.keepIn K (.ref f)=true
section
variable {P:Program} {w:World} {K:W.Frag} {mg:Str->Option Value} {base:Heap}
theorem Fun.ok {x qual:Str} {st:Stmt} {f:Addr} {fd:FuncData} {N ps:List Str} {k:Nat} {sp:Sp} (F:Fun K x qual st f fd) (S:FnScope N ps (Qo st)) (len:∀ vs H Q E,sp vs H Q E->vs.length=ps.length)
  (hbody:∀ (cdv:Value) (A:Around) (outer:List Env) (s:Shared) (H:Hp) (vs:List V) (Q:VK) (E:XK),Room k (A.deeper (envOfC qual (Qo st) s.heap.objs.size f cdv))->sp vs H Q E ->
   ∃ t,PSs (cxOf CX0 P w K mg base N qual (Qo st) f cdv A outer s H E).nox (Qah st) t/\t { nx:=fun _ H'=>Q .non H',rt:=Q } (start N vs) H):FnOk P w K mg base CX0 (k + 1) f fd ps sp:=by
 obtain ⟨oc,od,kV,doc,pm,an,cdv,ct,osl,rfl,lk,hcd⟩:=F.ex
 refine fn_of lk hcd S len fun A outer s H vs Q E hr hsp=>?_
 obtain ⟨t,h,q⟩:=hbody cdv A outer s H vs Q E hr hsp
 exact ⟨t,h.nox,q⟩
theorem Fun.binds {x qual:Str} {st:Stmt} {f:Addr} {fd:FuncData} {ps:List Str} (F:Fun K x qual st f fd)
  (h:∀ (kV doc pm:Value) (an:Option Addr) (cdv ct:Value) (us:List Value),us.length=ps.length->bindArgs (W.fnOf x qual (Qcb st) (Qah st) (Qo st) .none kV doc pm an cdv ct) ⟨us,[]⟩=pure (ps.zip us)):Binds K fd ps []:=by
 obtain ⟨oc,od,kV,doc,pm,an,cdv,ct,osl,rfl,lk,hcd⟩:=F.ex
 exact .all (h kV doc pm an cdv ct)
theorem QmC {x qual:Str} {st:Stmt} {f:Addr} {oc:Value} {od an:Option Addr} {osl:Array (Option Value)} {kV doc pm cdv ct:Value} (l:K.lookup f=some ⟨oc,od,.func (W.fnOf x qual (Qcb st) (Qah st) (Qo st) .none kV doc pm an cdv ct),osl⟩)
  (c:W.codeIn K cdv qual=true) (k:W.keepIn K (.ref f)=true):Fun K x qual st f (W.fnOf x qual (Qcb st) (Qah st) (Qo st) .none kV doc pm an cdv ct):=⟨⟨oc,od,kV,doc,pm,an,cdv,ct,osl,rfl,l,c⟩,k⟩
end
theorem QV {n:Nat} (h:n<=1000):n < sizeLine:=Nat.lt_of_le_of_lt h (by decide)
section
variable {X:Cx}
theorem pv (i:Nat) {x:Str} {pos:Pos} (hN:X.N[i]? = some x:=by rfl) (hv:Vis X.env.scope x:=by first | exact Or.inl rfl | exact Or.inr (Or.inl rfl) | exact Or.inr (Or.inr rfl)) (hd:(x == ("__debug__":Str))=false:=by decide)
  (hcd:(x == ("__classdict__":Str))=false:=by decide):PE X (.Name x pos) (tVar i):=Qo6 hN hv hd hcd
end
def Same (H H':Hp):Prop:=∀ b o,H b=some o->H' b=some o
theorem Same.refl (H:Hp):Same H H:=fun _ _ h=>h
theorem Same.trans {H H1 H2:Hp} (a:Same H H1) (b:Same H1 H2):Same H H2:=fun c o h=>b c o (a c o h)
theorem Same.free {H H':Hp} (e:Same H H') {l:Addr} (h:H' l=Option.none):H l=Option.none:=by
 cases q:H l with
 | none=>rfl
 | some o =>
  rw [e l o q] at h
  cases h
theorem Same.seq {K:W.Frag} {H H':Hp} {a:Addr} {xs:List V} (e:Same H H') (h:SqL K H a xs):SqL K H' a xs:=by
 rcases h with (h | ⟨o,h⟩) | h
 ·exact .inl (.inl (e _ _ h))
 ·exact .inl (.inr ⟨o,e _ _ h⟩)
 ·exact .inr h
end L2
namespace L2
open PySem PySem.Spec PyProof.Rows
section
variable {κ:Type} [DecidableEq κ]
def valV (kvs:List (κ×V)) (k:κ):Option V:=(kvs.find? fun kv=>decide (kv.1=k)).map (·.2)
def putK (kvs:List (κ×V)) (k:κ) (v:V):List (κ×V) :=
 if (kvs.any fun kv=>decide (kv.1=k))=true then kvs.map (fun kv=>if kv.1=k then (kv.1,v) else kv) else kvs++[(k,v)]
def Qc6 (kvs:List (κ×V)) (k:κ):List (κ×V):=kvs.filter fun kv=>decide (kv.1≠k)
theorem Qdz {p:κ×V} {r:List (κ×V)} {k:κ} (e:p.1=k):valV (p::r) k=some p.2:=by simp [valV,List.find?_cons,e]
theorem QdU {p:κ×V} {r:List (κ×V)} {k:κ} (e:¬ p.1=k):valV (p::r) k=valV r k:=by simp [valV,List.find?_cons,e]
theorem QiI (k:κ):∀ kvs:List (κ×V),(kvs.any fun kv=>decide (kv.1=k))=(valV kvs k).isSome
 | []=>rfl
 | p::r=>by
  rw [List.any_cons]
  by_cases e:p.1=k
  ·simp only [Qdz e,decide_eq_true e,Bool.true_or,Option.isSome_some]
  ·rw [QdU e,decide_eq_false e,Bool.false_or];exact QiI k r
theorem Qer (kvs:List (κ×V)) (k:κ) (v:V):(putK kvs k v).length<=kvs.length + 1:=by
 unfold putK
 split
 ·rw [List.length_map];omega
 ·rw [List.length_append,List.length_cons,List.length_nil];omega
theorem RelO.isSome_eq {o:Option V} {u:Option Value} (r:RelO o u):o.isSome=u.isSome:=by
 cases o with
 | none=>cases u with
  | none=>rfl
  | some _=>exact (show False from r).elim
 | some _=>cases u with
  | none=>exact (show False from r).elim
  | some _=>rfl
theorem RelO.getD {o:Option V} {u:Option Value} {d:V} {d':Value} (r:RelO o u) (rd:RelV d d'):RelV (o.getD d) (u.getD d'):=by
 cases o with
 | none=>cases u with
  | none=>exact rd
  | some _=>exact (show False from r).elim
 | some _=>cases u with
  | none=>exact (show False from r).elim
  | some _=>exact r
theorem KV.val {kvs:List (κ×V)} {vs:List (κ×Value)} (r:KV kvs vs) (k:κ):RelO (valV kvs k) (valueAt vs k):=by
 unfold KV at r
 induction r with
 | nil=>exact True.intro
 | @cons p q ps qs h t ih =>
  obtain ⟨h1,h2⟩:=h
  by_cases e:p.1=k
  ·have e':q.1=k:=h1.symm.trans e
   have b:valueAt (q::qs) k=some q.2:=by simp [valueAt,List.find?_cons,e']
   rw [Qdz e,b];exact h2
  ·have e':¬ q.1=k:=fun z=>e (h1.trans z)
   have b:valueAt (q::qs) k=valueAt qs k:=by simp [valueAt,List.find?_cons,e']
   rw [QdU e,b];exact ih
theorem KV.any {kvs:List (κ×V)} {vs:List (κ×Value)} (r:KV kvs vs) (k:κ):(kvs.any fun kv=>decide (kv.1=k))=vs.any fun kv=>decide (kv.1=k):=by
 unfold KV at r
 induction r with
 | nil=>rfl
 | cons h t ih=>rw [List.any_cons,List.any_cons,ih,h.1]
theorem KV.repl {kvs:List (κ×V)} {vs:List (κ×Value)} (r:KV kvs vs) (k:κ) {y:V} {u:Value} (ry:RelV y u) :
  KV (kvs.map fun kv=>if kv.1=k then (kv.1,y) else kv) (vs.map fun kv=>if kv.1=k then (kv.1,u) else kv):=by
 unfold KV at r ⊢
 induction r with
 | nil=>exact .nil
 | @cons p q ps qs h t ih =>
  rw [List.map_cons,List.map_cons]
  refine .cons ?_ ih
  obtain ⟨h1,h2⟩:=h
  by_cases e:p.1=k
  ·rw [if_pos e,if_pos (h1.symm.trans e)];exact ⟨h1,ry⟩
  ·rw [if_neg e,if_neg (fun z=>e (h1.trans z))];exact ⟨h1,h2⟩
theorem KV.put {kvs:List (κ×V)} {vs:List (κ×Value)} (r:KV kvs vs) (k:κ) {y:V} {u:Value} (ry:RelV y u):KV (putK kvs k y) (stored vs k u):=by
 unfold putK stored
 rw [r.any k]
 by_cases e:(vs.any fun kv=>decide (kv.1=k))=true
 ·rw [if_pos e,if_pos e];exact r.repl k ry
 ·rw [if_neg e,if_neg e];exact Paired.snoc r ⟨rfl,ry⟩
theorem KV.drop {kvs:List (κ×V)} {vs:List (κ×Value)} (r:KV kvs vs) (k:κ):KV (Qc6 kvs k) (without vs k):=by
 unfold KV at r ⊢
 unfold Qc6 without
 induction r with
 | nil=>exact .nil
 | @cons p q ps qs h t ih =>
  obtain ⟨h1,h2⟩:=h
  rw [List.filter_cons,List.filter_cons]
  by_cases e:p.1=k
  ·have a:¬ decide (p.1≠k)=true:=by simp [e]
   have b:¬ decide (q.1≠k)=true:=by simp [h1.symm.trans e]
   rw [if_neg a,if_neg b];exact ih
  ·have e':¬ q.1=k:=fun z=>e (h1.trans z)
   have a:decide (p.1≠k)=true:=by simp [e]
   have b:decide (q.1≠k)=true:=by simp [e']
   rw [if_pos a,if_pos b];exact .cons ⟨h1,h2⟩ ih
theorem KV.length {kvs:List (κ×V)} {vs:List (κ×Value)} (r:KV kvs vs):kvs.length=vs.length:=Paired.length r
theorem QlE (kvs:List (κ×V)) (k:κ):(Qc6 kvs k).length<=kvs.length:=List.length_filter_le _ _
end
theorem QeB {P:Program} {w:World} {k:Key} {u:Value} (r:RelV (kV k) u):(QG P w).is k u=true:=by
 cases k with
 | inl i=>obtain ⟨t,e⟩:=(show ∃ t,u=Value.int i t from r);subst e;exact QiR P w i t
 | inr x=>obtain ⟨t,e⟩:=(show ∃ t,u=Value.str x t from r);subst e;exact QhO P w x t
theorem QgK {P:Program} {w:World}:∀ {ks:List Key} {us:List Value},Vals (ks.map kV) us->ItemsAre (QG P w) ks us
 | [],_,r=>by rw [List.map_nil] at r;cases r;exact .nil
 | k::ks,_,r=>by
  rw [List.map_cons] at r
  cases r with
  | cons h t=>exact .cons (QeB h) (QgK t)
abbrev KT (H:Hp):List (List Key×V)->List (List Key×Addr×Value)->Prop:=Paired fun p q=>p.1=q.1/\H q.2.1=some (.tup (p.1.map kV))/\RelV p.2 q.2.2
theorem KT.val {H:Hp} {kvs:List (List Key×V)} {xs:List (List Key×Addr×Value)} (r:KT H kvs xs) (k:List Key):RelO (valV kvs k) ((atKey xs k).map (·.2)):=by
 induction r with
 | nil=>exact True.intro
 | @cons p q ps qs h t ih =>
  obtain ⟨h1,_,h2⟩:=h
  by_cases e:p.1=k
  ·have e':q.1=k:=h1.symm.trans e
   have b:atKey (q::qs) k=some q.2:=by simp [atKey,List.find?_cons,e']
   rw [Qdz e,b];exact h2
  ·have e':¬ q.1=k:=fun z=>e (h1.trans z)
   have b:atKey (q::qs) k=atKey qs k:=by simp [atKey,List.find?_cons,e']
   rw [QdU e,b];exact ih
theorem KT.repl {H:Hp} {kvs:List (List Key×V)} {xs:List (List Key×Addr×Value)} (r:KT H kvs xs) (k:List Key) {y:V} {u:Value} (ry:RelV y u) :
  KT H (kvs.map fun kv=>if kv.1=k then (kv.1,y) else kv) (xs.map (putAt k u)):=by
 induction r with
 | nil=>exact .nil
 | @cons p q ps qs h t ih =>
  rw [List.map_cons,List.map_cons]
  refine .cons ?_ ih
  obtain ⟨h1,h2,h3⟩:=h
  unfold putAt
  by_cases e:p.1=k
  ·rw [if_pos e,if_pos (h1.symm.trans e)];exact ⟨h1,h2,ry⟩
  ·rw [if_neg e,if_neg (fun z=>e (h1.trans z))];exact ⟨h1,h2,h3⟩
theorem KT.put {H:Hp} {kvs:List (List Key×V)} {xs:List (List Key×Addr×Value)} (r:KT H kvs xs) (k:List Key) {b:Addr} {y:V} {u:Value} (hb:H b=some (.tup (k.map kV))) (ry:RelV y u) :
  KT H (putK kvs k y) (storedH xs k b u):=by
 have e:(kvs.any fun kv=>decide (kv.1=k))=(atKey xs k).isSome:=by
  rw [QiI,(r.val k).isSome_eq,Option.isSome_map]
 unfold putK storedH
 rw [e]
 by_cases q:(atKey xs k).isSome=true
 ·rw [if_pos q,if_pos q];exact r.repl k ry
 ·rw [if_neg q,if_neg q];exact Paired.snoc r ⟨rfl,hb,ry⟩
theorem KT.keeps {H H':Hp} {kvs:List (List Key×V)} {xs:List (List Key×Addr×Value)} (r:KT H kvs xs) (ht:∀ b ys,H b=some (.tup ys)->H' b=some (.tup ys)):KT H' kvs xs :=
 Paired.mapP r fun _ _ z=>⟨z.1,ht _ _ z.2.1,z.2.2⟩
section
variable {P:Program} {w:World} {H:Hp} {h:Heap} {a:Addr}
theorem QoE {u:HO} (ok:HOk P w H h) (e:Rd H a u):ObjOk P w H h a u:=e.ok ok
theorem QdT {kvs:List (Key×V)} (ok:HOk P w H h) (e:Rd H a (.dK kvs)):kvs.length<=sizeLine/\(a == sysModules)=false/\∃ vs,KV kvs vs/\h.DictOf (QG P w) a vs :=
 show ObjOk P w H h a (.dK kvs) from QoE ok e
theorem Qid {kvs:List (Key×V)} (ok:HOk P w H h) (e:H a=some (.dK kvs)):kvs.length<=sizeLine/\(a == sysModules)=false/\∃ vs,KV kvs vs/\h.DictOf (QG P w) a vs:=QdT ok (.inl e)
theorem Qd7 {ks:List Key} (ok:HOk P w H h) (e:H a=some (.tup (ks.map kV))):(tupleKind (QG P w)).is h ks a:=by
 obtain ⟨_,its,r,o,h1,h2,n,h3⟩:=(show ObjOk P w H h a (.tup (ks.map kV)) from ok a _ e)
 exact ⟨o,its.toArray,n,h1,h2,h3,by simpa using QgK r⟩
theorem QfX {kvs:List (List Key×V)} (ok:HOk P w H h) (e:Rd H a (.dT kvs)):kvs.length<=sizeLine/\(a == sysModules)=false /\
  ∃ xs,KT H kvs xs/\h.DictOfH (tupleKind (QG P w)) a xs:=by
 obtain ⟨z,y,xs,r,o,es,ep,h1,h2,h3,h4,h5⟩:=(show ObjOk P w H h a (.dT kvs) from QoE ok e)
 refine ⟨z,y,xs,r,o,es,ep,h1,h2,h3,h4,fun x hx=>?_,h5⟩
 have all:∀ {l:List (List Key×V)} {m:List (List Key×Addr×Value)},KT H l m->∀ x∈m,(tupleKind (QG P w)).is h x.1 x.2.1:=by
  intro l m q
  induction q with
  | nil=>intro x hx;exact nomatch hx
  | @cons p q ps qs hq t ih =>
   intro x hx
   rcases List.mem_cons.mp hx with e | hx
   ·subst e
    exact Qd7 ok (by rw [← hq.1];exact hq.2.1)
   ·exact ih x hx
 exact all r x hx
theorem dt_of {kvs:List (List Key×V)} (ok:HOk P w H h) (e:H a=some (.dT kvs)):kvs.length<=sizeLine/\(a == sysModules)=false /\
  ∃ xs,KT H kvs xs/\h.DictOfH (tupleKind (QG P w)) a xs:=QfX ok (.inl e)
end
def DGet (H:Hp) (a:Addr) (y:V) (r:Option V):Prop :=
 (∃ kvs k,Rd H a (.dK kvs)/\y=kV k/\r=valV kvs k)\/∃ kvs k b,Rd H a (.dT kvs)/\y=.ref b/\H b=some (.tup (k.map kV))/\r=valV kvs k
def DPut (H:Hp) (a:Addr) (y v:V) (H':Hp):Prop :=
 (∃ kvs k,H a=some (.dK kvs)/\y=kV k/\kvs.length < sizeLine/\H'=upd H a (.dK (putK kvs k v))) \/
 ∃ kvs k b,H a=some (.dT kvs)/\y=.ref b/\H b=some (.tup (k.map kV))/\kvs.length < sizeLine/\H'=upd H a (.dT (putK kvs k v))
theorem DGet.k {H:Hp} {a:Addr} {kvs:List (Key×V)} {k:Key} (e:H a=some (.dK kvs)):DGet H a (kV k) (valV kvs k):=.inl ⟨kvs,k,.inl e,rfl,rfl⟩
theorem DPut.k {H:Hp} {a:Addr} {kvs:List (Key×V)} {k:Key} {v:V} (e:H a=some (.dK kvs)) (hl:kvs.length < sizeLine):DPut H a (kV k) v (upd H a (.dK (putK kvs k v))):=.inl ⟨kvs,k,e,rfl,hl,rfl⟩
section
variable {X:Cx} {pins:List (Addr×Obj)} {σ:St} {H:Hp} {s:Shared} {a:Addr} {y v:V} {u r:Value} {o:Option V} {A:Around} {E:Value->Shared->Prop}
theorem Inv.big (I:Inv X pins σ H s):sysModules < s.heap.objs.size:=by
 have h:mainGlobals < s.heap.objs.size:=(I.mod.glob.keeps I.bk).lt
 exact Nat.lt_trans (by decide) h
theorem QkF {Q:Value->Shared->Prop} (hu:A.units + 1 < cLine) (I:Inv X pins σ H s) (g:DGet H a y (some v)) (ry:RelV y u) (h:∀ w' s',Inv X pins σ H s'->RelV v w'->Q w' s') :
  wpAny (model X.prog X.w) A (getItem (.ref a) u) Q E s:=by
 rcases g with ⟨kvs,k,e,ey,l⟩ | ⟨kvs,k,b,e,ey,eb,l⟩
 ·subst ey
  obtain ⟨z,hd,vs,rel,dd⟩:=QdT I.hok e
  obtain ⟨w',hw,rw'⟩:=RelO.some_of (v:=v) (o:=valueAt vs k) (by rw [l];exact rel.val k)
  exact wpAny_getItem_of (QeB ry) dd.mapOf hw (h w' _ (I.tok _) rw')
 ·subst ey
  cases (show u=Value.ref b from ry)
  obtain ⟨z,hd,xs,rel,dd⟩:=QfX I.hok e
  obtain ⟨w',hw,rw'⟩:=RelO.some_of (v:=v) (o:=(atKey xs k).map (·.2)) (by rw [l];exact rel.val k)
  obtain ⟨p,hp,hp2⟩:=Option.map_eq_some_iff.mp hw
  refine wpAny_getItem_heap (tupleKind_room_in1 hu) (Qd7 I.hok eb) dd hp ?_
  rw [hp2]
  exact h w' _ (I.tok _) rw'
theorem d_in {Q:Value->Shared->Prop} (hu:A.units + 1 < cLine) (I:Inv X pins σ H s) (g:DGet H a y o) (ry:RelV y u) (h:∀ s',Inv X pins σ H s'->Q (.bool o.isSome) s') :
  wpAny (model X.prog X.w) A (compareOp .In u (.ref a)) Q E s:=by
 rcases g with ⟨kvs,k,e,ey,l⟩ | ⟨kvs,k,b,e,ey,eb,l⟩
 ·subst ey
  obtain ⟨z,hd,vs,rel,dd⟩:=QdT I.hok e
  refine wpAny_in_of (QeB ry) hd dd.mapOf ?_
  rw [← (rel.val k).isSome_eq,← l]
  exact h _ (I.tok _)
 ·subst ey
  cases (show u=Value.ref b from ry)
  obtain ⟨z,hd,xs,rel,dd⟩:=QfX I.hok e
  refine wpAny_in_heap (tupleKind_room_in1 hu) (Qd7 I.hok eb) hd dd ?_
  have q:=(rel.val k).isSome_eq
  rw [Option.isSome_map] at q
  rw [← q,← l]
  exact h _ (I.tok _)
theorem QnP {Q:Value->Shared->Prop} (hu:A.units + 1 < cLine) (I:Inv X pins σ H s) (g:DGet H a y o) (ry:RelV y u) (h:∀ s',Inv X pins σ H s'->Q (.bool (!o.isSome)) s') :
  wpAny (model X.prog X.w) A (compareOp .NotIn u (.ref a)) Q E s:=by
 rcases g with ⟨kvs,k,e,ey,l⟩ | ⟨kvs,k,b,e,ey,eb,l⟩
 ·subst ey
  obtain ⟨z,hd,vs,rel,dd⟩:=QdT I.hok e
  refine wpAny_notIn_of (QeB ry) hd dd.mapOf ?_
  rw [← (rel.val k).isSome_eq,← l]
  exact h _ (I.tok _)
 ·subst ey
  cases (show u=Value.ref b from ry)
  obtain ⟨z,hd,xs,rel,dd⟩:=QfX I.hok e
  refine wpAny_notIn_heap (tupleKind_room_in1 hu) (Qd7 I.hok eb) hd dd ?_
  have q:=(rel.val k).isSome_eq
  rw [Option.isSome_map] at q
  rw [← q,← l]
  exact h _ (I.tok _)
theorem Qg5 {h':Heap} {t':Nat} {ob:HO} (I:Inv X pins σ H s) (mu:Mut (H a)) (hs:Heap.SameBut a s.heap h') (he:∃ q,h'.get? a=some q) (new:ObjOk X.prog X.w (upd H a ob) h' a ob) :
  Inv X pins σ (upd H a ob) { s with heap:=h',toks:=t' } :=
 I.write (x:=a) (e:=a) mu (.inl rfl) (fun b q hb z=>(hs.2 b hb).trans z) he new
theorem Qja {P:Program} {w:World} {H':Hp} {h':Heap} {kvs:List (Key×V)} {vs:List (Key×Value)} (z:kvs.length<=sizeLine) (hd:(a == sysModules)=false) (rel:KV kvs vs) (dd:h'.DictOf (QG P w) a vs) :
  ObjOk P w H' h' a (.dK kvs):=⟨z,hd,vs,rel,dd⟩
theorem Qk0 {H':Hp} {Q:Unit->Shared->Prop} (hu:A.units + 1 < cLine) (I:Inv X pins σ H s) (g:DPut H a y v H') (ry:RelV y u) (rv:RelV v r) (h:∀ s',Inv X pins σ H' s'->Q () s') :
  wpAny (model X.prog X.w) A (setItem (.ref a) u r) Q E s:=by
 rcases g with ⟨kvs,k,e,ey,l,eH⟩ | ⟨kvs,k,b,e,ey,eb,l,eH⟩
 ·subst ey eH
  obtain ⟨z,hd,vs,rel,dd⟩:=Qid I.hok e
  have hz:vs.length<=sizeLine:=by rw [← rel.length];exact z
  have hl:(putK kvs k v).length<=sizeLine:=by have:=Qer kvs k v;omega
  refine wpAny_setItem_pairs (hsz:=hz) (QeB ry) dd fun h' dd' hs=>h _ ?_
  have he:∃ q,h'.get? a=some q:=let ⟨q,_,_,hq,_⟩:=dd';⟨q,hq⟩
  exact Qg5 I (by rw [e];exact True.intro) hs he (Qja hl hd (rel.put k rv) dd')
 ·subst ey eH
  cases (show u=Value.ref b from ry)
  obtain ⟨z,hd,xs,rel,dd⟩:=dt_of I.hok e
  have hz:xs.length<=sizeLine:=by rw [← Paired.length rel];exact z
  have hl:(putK kvs k v).length<=sizeLine:=by have:=Qer kvs k v;omega
  refine wpAny_setItem_heap (hsz:=hz) (tupleKind_room_in1 hu) (Qd7 I.hok eb) dd fun h' dd' hs=>h _ ?_
  obtain ⟨q,es,ep,hq,h2,h3,h4,_,h5⟩:=dd'
  refine Qg5 I (by rw [e];exact True.intro) hs ⟨q,hq⟩ ⟨hl,hd,_,(rel.put k eb rv).keeps fun c ys ec=>?_,q,es,ep,hq,h2,h3,h4,h5⟩
  rw [Ql (Qbt ec e (fun z=>nomatch z))]
  exact ec
end
section
variable {X:Cx} {pins:List (Addr×Obj)} {σ:St} {H:Hp} {s:Shared} {a:Addr} {kvs:List (Key×V)} {k:Key} {u:Value} {A:Around} {E:Value->Shared->Prop}
theorem d_pop {v:V} {more:List Value} {Q:Value->Shared->Prop} (I:Inv X pins σ H s) (e:H a=some (.dK kvs)) (ry:RelV (kV k) u) (l:valV kvs k=some v) (hm:more=[]\/∃ x,more=[x])
  (h:∀ w' s',Inv X pins σ (upd H a (.dK (Qc6 kvs k))) s'->RelV v w'->Q w' s'):wpAny (model X.prog X.w) A (call (.builtin "dict.pop") (.ref a::u::more)) Q E s:=by
 obtain ⟨z,hd,vs,rel,dd⟩:=Qid I.hok e
 obtain ⟨w',hw,rw'⟩:=RelO.some_of (v:=v) (o:=valueAt vs k) (by rw [← l];exact rel.val k)
 have hp:(keyPart u).isSome=true:=by
  cases k with
  | inl i=>obtain ⟨t,q⟩:=(show ∃ t,u=Value.int i t from ry);subst q;rfl
  | inr x=>obtain ⟨t,q⟩:=(show ∃ t,u=Value.str x t from ry);subst q;rfl
 have ha:argsOk "dict.pop" ⟨.ref a::u::more,[]⟩:=by
  rcases hm with q | ⟨x,q⟩
  ·subst q;exact PySem.F.args_dict_pop_2 _ _
  ·subst q;exact PySem.F.args_dict_pop_3 _ _ _
 refine call_meetsIn PySem.F.slot_dict_pop dd.typeIs PySem.F.entry_dict_pop ha (meets_dict_pop_there (QG X.prog X.w) a (QeB ry) more hm hp)
  ⟨vs,w',dd,by rw [← rel.length];exact z,hw,fun h' dd' hs=>h w' _ ?_ rw'⟩
 have he:∃ q,h'.get? a=some q:=let ⟨q,_,_,hq,_⟩:=dd';⟨q,hq⟩
 exact Qg5 I (by rw [e];exact True.intro) hs he (Qja (Nat.le_trans (QlE kvs k) z) hd (rel.drop k) dd')
theorem d_len {Q:Value->Shared->Prop} (I:Inv X pins σ H s) (e:Rd H a (.dK kvs)) (h:∀ t s',Inv X pins σ H s'->Q (.int kvs.length t) s'):wpAny (model X.prog X.w) A (call (.builtin "len") [.ref a]) Q E s:=by
 obtain ⟨z,hd,vs,rel,dd⟩:=QdT I.hok e
 refine call_len_dict hd dd (by rw [← rel.length];rw [sizeLine_eq] at z;omega) ?_
 rw [← rel.length]
 exact h _ _ (I.tok _)
end
def NoSl (i:Expr):Prop:=∀ ov iv,subscripted i false ov iv=operate [ov,iv] (getItem ov iv)
theorem QnS {prog:Program} {w:World} {A:Around} {E:Value->Shared->Prop} {s:Shared} {env:Env} {value slice:Expr} {pos:Pos} {T id:String} {Q:Value->Shared->Prop}
  (hl:typeLookup (.type T) "__getitem__" = pure (some (.builtin id))) (hs:NoSl slice)
  (h:wpAny (model prog w) A (eval value env) (fun o s₁=>wpAny (model prog w) A (eval slice env) (fun i s₂=>s₂.TypeIs o T/\wpAny (model prog w) A (getItem o i) Q E s₂) E s₁) E s) :
  wpAny (model prog w) A (eval (.Subscript value slice pos) env) Q E s:=by
 refine Subscript_ (wpAny_mono h (fun o s₁ h₁=>wpAny_mono h₁ (fun i s₂ h₂=>?_) fun _ _ x=>x) fun _ _ x=>x)
 obtain ⟨hT,h₂⟩:=h₂
 unfold subscriptTail
 refine wpAny_bind ?_
 rw [getitemInPython_of_ne hT.not_modules]
 refine wpAny_bind (wpAny_specialOf hT hl ?_)
 have fin:wpAny (model prog w) A (subscripted slice false o i) (fun r s₃=>wpAny (model prog w) A (letTemporaryGo value o r >>= fun _=>pure r) Q E s₃) E s₂:=by
  rw [hs o i]
  exact wpAny_operating (wpAny_mono h₂ (fun r s₃ h₃=>wpAny_bind (wpAny_letTemporaryGo (wpAny_pure h₃))) fun _ _ x=>x)
 first
  | exact wpAny_pure (wpAny_bind fin)
  | exact wpAny_bind (wpAny_pure (wpAny_bind fin))
  | exact wpAny_bind fin
theorem Qim {X:Cx} {pins:List (Addr×Obj)} {σ:St} {H:Hp} {s:Shared} {a:Addr} {y:V} {o:Option V} (I:Inv X pins σ H s) (g:DGet H a y o):s.TypeIs (.ref a) "dict":=by
 rcases g with ⟨kvs,k,e,_,_⟩ | ⟨kvs,k,b,e,_,_,_⟩
 ·obtain ⟨_,_,vs,_,dd⟩:=QdT I.hok e
  exact dd.typeIs
 ·obtain ⟨_,_,xs,_,dd⟩:=QfX I.hok e
  exact dd.typeIs
def tDGet (td ty:TE):TE:=fun σ H Q=>td σ H fun x H1=>ty σ H1 fun y H2=>∃ a v,x=.ref a/\DGet H2 a y (some v)/\Q v H2
def sDPut (td ty tv:TE):TS:=fun D σ H=>tv σ H fun v H1=>td σ H1 fun x H2=>ty σ H2 fun y H3=>∃ a H4,x=.ref a/\DPut H3 a y v H4/\D.nx σ H4
section
variable {X:Cx} {o i e value:Expr} {pos pos' tpos:Pos} {td ty tv:TE}
theorem Qkx (hu:X.A.units + 1 < cLine) (ho:PE X o td) (hi:PE X i ty) (hs:NoSl i):PE X (.Subscript o i pos) (tDGet td ty):=by
 intro pins s σ H Q I h
 refine QnS PySem.F.slot_dict_getitem.lookup hs (thn (ho pins s σ H _ I h) fun u s1 ⟨x,H1,I1,rx,q1⟩=>thn (hi pins s1 σ H1 _ I1 q1) fun iv s2 ⟨y,H2,I2,ry,a,v,ex,g,q2⟩=>?_)
 subst ex
 obtain rfl:u=Value.ref a:=rx
 exact ⟨Qim I2 g,QkF hu I2 g ry fun w' s3 I3 rw'=>⟨v,H2,I3,rw',q2⟩⟩
theorem QnJ (hu:X.A.units + 1 < cLine) (ho:PE X o td) (hi:PE X i ty) (hv:PE X value tv) (hs:swapsWith value (some (.Subscript o i pos')) pos.line X.env=pure false) :
  PS X (.Assign [.Subscript o i pos'] value pos) (sDPut td ty tv):=by
 intro pins s σ H D I h
 refine wpAny_Assign_Subscript (thn (hv pins s σ H _ I h) fun r s1 ⟨v,H1,I1,rv,q1⟩=>thn (ho pins s1 σ H1 _ I1 q1) fun u s2 ⟨x,H2,I2,rx,q2⟩=>thn (hi pins s2 σ H2 _ I2 q2) fun iv s3 ⟨y,H3,I3,ry,a,H4,ex,g,q3⟩=>?_) hs
 subst ex
 obtain rfl:u=Value.ref a:=rx
 exact Qk0 hu I3 g ry rv fun s4 I4=>⟨σ,H4,I4,q3⟩
end
theorem QlD {P:Program} {w:World} {H:Hp} (h:Heap) (hb:sysModules < h.objs.size):ObjOk P w H (h.push { cls:=.type "dict",data:=.dict #[] }) h.objs.size (.dK []) :=
 ⟨Nat.zero_le _,beq_eq_false_iff_ne.mpr (Ne.symm (Nat.ne_of_lt hb)),[],.nil,Heap.DictOf.new h⟩
def QpN:TE:=fun _ H Q=>∀ p,H p=none->Q (.ref p) (upd H p (.dK []))
section
variable {X:Cx} {pos:Pos}
theorem pe_dnewK:PE X (.Dict [] [] pos) QpN:=fun pins s σ H Q I h =>
 wpAny_Dict_empty ⟨.ref s.heap.objs.size,_,I.laid (a:=s.heap.objs.size) (o:=.dK []) (t':=s.toks) (fun _ _ q=>Heap.get?_push_of_some _ q) (Nat.le_refl _) (QlD s.heap I.big),rfl,h _ (I.hok.fresh (Nat.le_refl _))⟩
end
structure M1 (X:Cx) (o:Expr) (m:Str) (apos:Pos) (e:Expr) (cpos:Pos):Prop where
 base:attributeBase o m X.env (eval o X.env)=eval o X.env
 few:((backTo cpos (starEach [e] X.env)).all (fun x=>!x.1) && (backToKw cpos (keywordEach [] X.env)).all (fun x=>x.1.isSome)
  && decide (([e]:List Expr).length + ([]:List Keyword).length + (if ([]:List Keyword).isEmpty then 0 else 1) < 30))=true
 line:(apos.endLine == cpos.line)=true
 trees:backTo cpos (starEach [e] X.env)=[(false,eval e X.env)]
structure M2 (X:Cx) (o:Expr) (m:Str) (apos:Pos) (e f:Expr) (cpos:Pos):Prop where
 base:attributeBase o m X.env (eval o X.env)=eval o X.env
 few:((backTo cpos (starEach [e,f] X.env)).all (fun x=>!x.1) && (backToKw cpos (keywordEach [] X.env)).all (fun x=>x.1.isSome)
  && decide (([e,f]:List Expr).length + ([]:List Keyword).length + (if ([]:List Keyword).isEmpty then 0 else 1) < 30))=true
 line:(apos.endLine == cpos.line)=true
 trees:backTo cpos (starEach [e,f] X.env)=[(false,eval e X.env),(false,eval f X.env)]
def IsD (H:Hp) (a:Addr):Prop:=(∃ kvs,Rd H a (.dK kvs))\/∃ kvs,Rd H a (.dT kvs)
theorem QmK {X:Cx} {pins:List (Addr×Obj)} {σ:St} {H:Hp} {s:Shared} {a:Addr} (I:Inv X pins σ H s) (d:IsD H a) :
  s.TypeIs (.ref a) "dict"/\(∀ b,Value.ref a=.ref b->∃ ob,s.heap.get? b=some ob/\ob.dict=none)/\(a == sysModules)=false:=by
 rcases d with ⟨kvs,e⟩ | ⟨kvs,e⟩
 ·obtain ⟨_,hd,vs,_,dd⟩:=QdT I.hok e
  refine ⟨dd.typeIs,fun b q=>?_,hd⟩
  cases q
  obtain ⟨ob,_,_,h1,h2,_⟩:=dd
  exact ⟨ob,h1,h2.2.1⟩
 ·obtain ⟨_,hd,xs,_,dd⟩:=QfX I.hok e
  refine ⟨dd.typeIs,fun b q=>?_,hd⟩
  cases q
  obtain ⟨ob,_,_,h1,h2,_⟩:=dd
  exact ⟨ob,h1,h2.2.1⟩
section
variable {X:Cx} {pins:List (Addr×Obj)} {σ:St} {H:Hp} {s:Shared} {a:Addr} {y d:V} {u r:Value} {o:Option V} {A:Around} {E:Value->Shared->Prop}
theorem QpP {Q:Value->Shared->Prop} (hu:A.units + 1 < cLine) (I:Inv X pins σ H s) (g:DGet H a y o) (ry:RelV y u) (rd:RelV d r) (h:∀ w' s',Inv X pins σ H s'->RelV (o.getD d) w'->Q w' s') :
  wpAny (model X.prog X.w) A (call (.builtin "dict.get") [.ref a,u,r]) Q E s:=by
 rcases g with ⟨kvs,k,e,ey,l⟩ | ⟨kvs,k,b,e,ey,eb,l⟩
 ·subst ey
  obtain ⟨z,hd,vs,rel,dd⟩:=QdT I.hok e
  refine call_meetsIn PySem.F.slot_dict_get dd.typeIs PySem.F.entry_dict_get (PySem.F.args_dict_get_3 _ _ _) (meets_dict_get_default (QG X.prog X.w) a (QeB ry) hd r) ⟨_,dd.mapOf,h _ _ (I.tok _) ?_⟩
  rw [l]
  exact (rel.val k).getD rd
 ·subst ey
  cases (show u=Value.ref b from ry)
  obtain ⟨z,hd,xs,rel,dd⟩:=QfX I.hok e
  refine call_meetsIn PySem.F.slot_dict_get dd.typeIs PySem.F.entry_dict_get (PySem.F.args_dict_get_3 _ _ _) (meetsH_dict_get_default (tupleKind (QG X.prog X.w)) a b hd r) ⟨tupleKind_room_in1 hu,k,xs,Qd7 I.hok eb,dd,h _ _ (I.tok _) ?_⟩
  rw [l]
  exact (rel.val k).getD rd
end
def Qpi (td ty tx:TE):TE:=fun σ H Q=>td σ H fun x H1=>∃ a,x=.ref a/\IsD H1 a/\ty σ H1 fun y H2=>tx σ H2 fun z H3=>∃ o,DGet H3 a y o/\Q (o.getD z) H3
def Qo5 (td ty:TE):TE:=fun σ H Q=>td σ H fun x H1=>∃ a,x=.ref a/\IsD H1 a/\ty σ H1 fun y H2=>∃ kvs k v,H2 a=some (.dK kvs)/\y=kV k/\valV kvs k=some v/\Q v (upd H2 a (.dK (Qc6 kvs k)))
section
variable {X:Cx} {o e f:Expr} {apos cpos:Pos} {td ty tx:TE}
theorem Qm4 (hu:X.A.units + 1 < cLine) (ho:PE X o td) (he:PE X e ty) (hf:PE X f tx) (m:M2 X o "get" apos e f cpos):PE X (.Call (.Attribute o "get" apos) [e,f] [] cpos) (Qpi td ty tx):=by
 intro pins s σ H Q I h
 refine wpAny_Call_method m.base m.few m.line PySem.F.plainAttrs_dict PySem.F.slot_dict_get PySem.F.type_dict_get (thn (ho pins s σ H _ I h) fun u s1 ⟨x,H1,I1,rx,a,ex,d,q1⟩=>?_)
 subst ex
 obtain rfl:u=Value.ref a:=rx
 obtain ⟨t1,t2,_⟩:=QmK I1 d
 refine ⟨t1,t2,?_⟩
 rw [m.trees]
 refine Calls.callWith_builtin rfl (Calls.evalArgs_plain (Calls.spliced_cons (thn (he pins s1 σ H1 _ I1 q1) fun iv s2 ⟨y,H2,I2,ry,q2⟩ =>
  Calls.spliced_cons (thn (hf pins s2 σ H2 _ I2 q2) fun fv s3 ⟨z,H3,I3,rz,ov,g,q3⟩=>Calls.spliced_nil ?_))))
 exact QpP hu I3 g ry rz fun w' s4 I4 rw'=>⟨_,H3,I4,rw',q3⟩
theorem Qlz (ho:PE X o td) (he:PE X e ty) (m:M1 X o "pop" apos e cpos):PE X (.Call (.Attribute o "pop" apos) [e] [] cpos) (Qo5 td ty):=by
 intro pins s σ H Q I h
 refine wpAny_Call_method m.base m.few m.line PySem.F.plainAttrs_dict PySem.F.slot_dict_pop PySem.F.type_dict_pop (thn (ho pins s σ H _ I h) fun u s1 ⟨x,H1,I1,rx,a,ex,d,q1⟩=>?_)
 subst ex
 obtain rfl:u=Value.ref a:=rx
 obtain ⟨t1,t2,_⟩:=QmK I1 d
 refine ⟨t1,t2,?_⟩
 rw [m.trees]
 refine Calls.callWith_builtin rfl (Calls.evalArgs_plain (Calls.spliced_cons (thn (he pins s1 σ H1 _ I1 q1) fun iv s2 ⟨y,H2,I2,ry,kvs,k,v,ea,ey,l,q2⟩=>Calls.spliced_nil ?_)))
 subst ey
 exact d_pop I2 ea ry l (.inl rfl) fun w' s3 I3 rw'=>⟨v,_,I3,rw',q2⟩
end
section
variable {X:Cx} {pins:List (Addr×Obj)} {σ:St} {H:Hp} {s:Shared} {a:Addr} {kvs:List (Key×V)} {A:Around} {E:Value->Shared->Prop}
end
section
variable {X:Cx} {pins:List (Addr×Obj)} {σ:St} {H:Hp} {s:Shared} {a:Addr} {y:V} {u:Value} {A:Around} {E:Value->Shared->Prop}
end
section
variable {X:Cx}
end
section
variable {κ:Type} [DecidableEq κ]
end
end L2
set_option maxRecDepth 100000
namespace L2
open PySem PySem.Spec PyProof.Rows
section
variable {X:Cx}
theorem PE.imp {e:Expr} {t t':TE} (h:PE X e t) (hi:∀ σ H Q,t' σ H Q->t σ H Q):PE X e t':=fun pins s σ H Q I q=>h pins s σ H Q I (hi _ _ _ q)
theorem PT.imp {e:Expr} {t t':TT} (h:PT X e t) (hi:∀ σ H Q,t' σ H Q->t σ H Q):PT X e t':=fun pins s σ H Q I q=>h pins s σ H Q I (hi _ _ _ q)
theorem PW.imp {e:Expr} {t t':TT} (h:PW X e t) (hi:∀ σ H Q,t' σ H Q->t σ H Q):PW X e t':=fun wh pins s σ H Q I q=>h wh pins s σ H Q I (hi _ _ _ q)
theorem PA.imp {e:List Expr} {t t':TA} (h:PA X e t) (hi:∀ σ H Q,t' σ H Q->t σ H Q):PA X e t':=fun pos pins s σ H Q I q=>h pos pins s σ H Q I (hi _ _ _ q)
theorem PS.imp {e:Stmt} {t t':TS} (h:PS X e t) (hi:∀ D σ H,t' D σ H->t D σ H):PS X e t':=fun pins s σ H D I q=>h pins s σ H D I (hi _ _ _ q)
theorem PSs.imp {e:List Stmt} {t t':TS} (h:PSs X e t) (hi:∀ D σ H,t' D σ H->t D σ H):PSs X e t':=fun pins s σ H D I q=>h pins s σ H D I (hi _ _ _ q)
theorem PG.imp {e:Expr} {t t':TG} (h:PG X e t) (hi:∀ v σ H Q,t' v σ H Q->t v σ H Q):PG X e t':=fun pins s σ H v u Q I r q=>h pins s σ H v u Q I r (hi _ _ _ _ q)
end
end L2
namespace L2
open PySem PySem.Spec PyProof.Rows
section
variable {prog:Program} {w:World} {A:Around} {R:Result->Shared->Prop} {s:Shared}
theorem QkI {elt target iter:Expr} {ifs:List Expr} {scope:Scope} {pos:Pos} {it acc:Value} {env:Env} (I:Nat->Shared->Prop)
  (turn:∀ n s,I n s->wpAny (model prog w) A (pyNext it) (fun r s₁=>match r with
   | none=>R (.ok .next) s₁
   | some v=>wpAny (model prog w) A (letOwnedTupleGo target it v) (fun _ s₁'=>wpAny (model prog w) A (assign target env v) (fun _ s₂ =>
     wpAny (model prog w) A (forIn ifs true fun c r=>if r=true then do let ok ← isTrue c env (eval c env);pure (ForInStep.yield ok) else pure (ForInStep.yield r)) (fun ok s₃ =>
      if ok=true then wpAny (model prog w) A (eval elt env) (fun x s₄ =>
       wpAny (model prog w) A (call (.builtin "list.append") [acc,x]) (fun _ s₅=>∃ m,m < n/\I m s₅) (fun _ _=>False) s₄) (fun _ _=>False) s₃
      else ∃ m,m < n/\I m s₃) (fun _ _=>False) s₂) (fun _ _=>False) s₁') (fun _ _=>False) s₁) (fun _ _=>False) s)
  (n:Nat) (h:I n s):codeAny (model prog w) A (.compLoop (.ListComp elt [⟨target,iter,ifs,0⟩] scope pos) 0 it acc env) R s:=by
 refine codeAny_loop rfl I (fun n s hI=>?_) n h
 show wpAny _ A ((compTurn (.ListComp elt [⟨target,iter,ifs,0⟩] scope pos) 0 it acc env).onRaise (fun x=>do noteFrame x env;theTreesLotGoes x)) _ _ s
 refine wpAny_noted ?_
 rw [compTurn_list]
 refine wpAny_mono (E:=fun _ _=>False) ?_ (fun _ _ q=>q) (fun _ _ q=>q.elim)
 refine wpAny_bind (wpAny_standAt (wpAny_bind (wpAny_mono (turn n s hI) (fun r s₁ h₁=>?_) fun _ _ h'=>h')))
 cases r with
 | none=>exact wpAny_pure h₁
 | some v =>
  refine wpAny_bind (wpAny_mono h₁ (fun _ s₁' h₁'=>?_) fun _ _ h'=>h')
  refine wpAny_bind (wpAny_mono h₁' (fun _ s₂ h₂=>wpAny_bind (wpAny_mono h₂ (fun ok s₃ h₃=>?_) fun _ _ h'=>h')) fun _ _ h'=>h')
  cases ok with
  | false=>exact wpAny_pure ⟨rfl,h₃⟩
  | true =>
   exact wpAny_bind (wpAny_bind (wpAny_mono h₃ (fun x s₄ h₄=>wpAny_bind (wpAny_mono h₄ (fun _ s₅ h₅=>wpAny_pure (wpAny_pure ⟨rfl,h₅⟩)) fun _ _ h'=>h')) fun _ _ h'=>h'))
end
def clOf (f:Str->Option Addr):List (Str×NameKind)->List (Str×Addr)->List (Str×Addr)
 | [],acc=>acc
 | (n,k)::r,acc=>if k == .free then (match f n with
  | some c=>clOf f r ((n,c)::acc)
  | none=>clOf f r acc) else clOf f r acc
theorem QdZ {f:Str->Option Addr}:∀ {names:List (Str×NameKind)} {acc:List (Str×Addr)} {x:Str} {c:Addr},(x,c)∈clOf f names acc->(x,c)∈acc\/f x=some c
 | [],acc,x,c,h=>.inl h
 | (n,k)::r,acc,x,c,h=>by
  unfold clOf at h
  split at h
  ·cases e:f n with
   | none=>rw [e] at h;exact QdZ h
   | some c' =>
    rw [e] at h
    rcases QdZ h with z | z
    ·rcases List.mem_cons.mp z with z | z
     ·cases z;exact .inr e
     ·exact .inl z
    ·exact .inr z
  ·exact QdZ h
theorem QdD {f:Str->Option Addr}:∀ {names:List (Str×NameKind)} {acc:List (Str×Addr)} {p:Str×Addr},p∈acc->p∈clOf f names acc
 | [],acc,p,h=>h
 | (n,k)::r,acc,p,h=>by
  unfold clOf
  split
  ·cases e:f n with
   | none=>exact QdD h
   | some c'=>exact QdD (List.mem_cons_of_mem _ h)
  ·exact QdD h
theorem Qdu {f:Str->Option Addr}:∀ {names:List (Str×NameKind)} {acc:List (Str×Addr)} {x:Str} {c:Addr},(x,NameKind.free)∈names->f x=some c->∃ c',(x,c')∈clOf f names acc
 | [],acc,x,c,h,_=>nomatch h
 | (n,k)::r,acc,x,c,h,hf=>by
  unfold clOf
  rcases List.mem_cons.mp h with z | z
  ·cases z
   rw [if_pos (by decide),hf]
   exact ⟨c,QdD List.mem_cons_self⟩
  ·split
   ·cases e:f n with
    | none=>exact Qdu z hf
    | some c'=>exact Qdu z hf
   ·exact Qdu z hf
theorem QjA {scope:Scope} {env:Env} (h:∀ y∈scope.names,y.2=.free->∃ c,env.cells.lookup y.1=some c):closureFor scope env=pure (clOf (fun x=>env.cells.lookup x) scope.names []):=by
 unfold closureFor
 suffices H:∀ (names:List (Str×NameKind)) (acc:List (Str×Addr)),(∀ y∈names,y.2=.free->∃ c,env.cells.lookup y.1=some c) ->
   (forIn names acc fun x cs=>do
    match x with
    | (name,kind)=>if (kind == .free)=true then do
      let a ← cellOf env name
      pure (ForInStep.yield ((name,a)::cs)) else pure (ForInStep.yield cs):Sem (List (Str×Addr)))=pure (clOf (fun x=>env.cells.lookup x) names acc) by
  have:=H scope.names [] h
  simp only [bind_pure] at this ⊢
  exact this
 intro names
 induction names with
 | nil=>intro acc _;rfl
 | cons y r ih =>
  intro acc hh
  obtain ⟨n,k⟩:=y
  rw [List.forIn_cons]
  by_cases hk:(k == NameKind.free)=true
  ·obtain ⟨c,hc⟩:=hh (n,k) List.mem_cons_self (by simpa using hk)
   simp only [hk,if_true,cellOf,hc,pure_bind,clOf]
   exact ih _ fun z hz=>hh z (List.mem_cons_of_mem _ hz)
  ·have hk':(k == NameKind.free)=false:=by simpa using hk
   simp only [hk',Bool.false_eq_true,if_false,pure_bind,clOf]
   exact ih _ fun z hz=>hh z (List.mem_cons_of_mem _ hz)
theorem QdG {env:Env}:∀ {names:List (Str×NameKind)} {x:Str},(∀ y∈names,y.2≠.cell) ->
  ((names.map fun (n,k)=>if (k == NameKind.free && env.scope.kind == .function && env.kindOf n == some .cell) then (n,NameKind.cell) else (n,k)).lookup x=some .cell \/
   (names.map fun (n,k)=>if (k == NameKind.free && env.scope.kind == .function && env.kindOf n == some .cell) then (n,NameKind.cell) else (n,k)).lookup x=some .free)->(x,NameKind.free)∈names
 | [],x,_,h=>by simp at h
 | (n,k)::r,x,hc,h=>by
  have ih:=@QdG env r x fun y hy=>hc y (List.mem_cons_of_mem _ hy)
  simp only [List.map_cons] at h
  by_cases hk:(k == NameKind.free && env.scope.kind == .function && env.kindOf n == some .cell)=true
  ·rw [if_pos hk] at h
   by_cases hx:(x == n)=true
   ·have:x=n:=by simpa using hx
    subst this
    have hkf:k=.free:=by
     simp only [Bool.and_eq_true,beq_iff_eq] at hk
     exact hk.1.1
    subst hkf
    exact List.mem_cons_self
   ·have hx':(x == n)=false:=by simpa using hx
    simp only [List.lookup_cons,hx'] at h
    exact List.mem_cons_of_mem _ (ih h)
  ·rw [if_neg hk] at h
   by_cases hx:(x == n)=true
   ·have:x=n:=by simpa using hx
    subst this
    simp only [List.lookup_cons,beq_self_eq_true] at h
    rcases h with h | h
    ·have:=hc (x,k) List.mem_cons_self
     exact absurd (Option.some.inj h) this
    ·have hkf:k=.free:=Option.some.inj h
     subst hkf
     exact List.mem_cons_self
   ·have hx':(x == n)=false:=by simpa using hx
    simp only [List.lookup_cons,hx'] at h
    exact List.mem_cons_of_mem _ (ih h)
theorem Qjp {l:List (Str×Addr)} {x:Str} {c:Addr} (h:(x,c)∈l):∃ c',l.lookup x=some c':=by
 induction l with
 | nil=>cases h
 | cons p r ih =>
  obtain ⟨n,a⟩:=p
  by_cases hx:(x == n)=true
  ·exact ⟨a,by simp only [List.lookup_cons,hx]⟩
  ·have hx':(x == n)=false:=by simpa using hx
   simp only [List.lookup_cons,hx']
   rcases List.mem_cons.mp h with z | z
   ·cases z;simp at hx
   ·exact ih z
structure CNames (X:Cx) (scope:Scope) (N':List Str) (k:Nat) (ix:List Nat):Prop where
 cell:∀ y∈scope.names,y.2≠.cell
 kind:scope.kind=.function
 loc:∀ y∈scope.names,y.2=.local->scope.names.lookup y.1=some .local
 fre:∀ y∈scope.names,y.2=.free->X.env.kindOf y.1=some .cell\/X.env.kindOf y.1=some .free
 len:N'.length=k + ix.length
 ref:∀ (j i:Nat) (x:Str),ix[j]? = some i->N'[k + j]? = some x->X.N[i]? = some x/\(X.env.kindOf x=some .cell\/X.env.kindOf x=some .free)/\(relabel scope X.env).names.lookup x≠some .local
abbrev clX (X:Cx) (scope:Scope):List (Str×Addr):=clOf (fun x=>X.env.cells.lookup x) scope.names []
def blk (X:Cx) (N':List Str) (scope:Scope) (C:Addr) (s2:Shared) (H2:Hp) (fp:List Addr) (pins:List (Addr×Obj)):Cx :=
 { X with N:=N',s₀:=s2,H₀:=H2,env:=compEnvC scope (clX X scope) C X.env,outer:=X.stack,ex:=fp,fn:=fun _=>false,pn:=X.pn++pins,xe:=fun _ _=>False }
def σin (k:Nat) (ix:List Nat) (σ:St):St:=List.replicate k none++ix.map fun i=>(σ[i]?).join
section
variable {X:Cx} {pins:List (Addr×Obj)} {σ:St} {H2:Hp} {s2:Shared} {scope:Scope} {N':List Str} {k:Nat} {ix:List Nat} {fp:List Addr}
theorem Qch {x:Str} {c:Addr} (h:(clX X scope).lookup x=some c):X.env.cells.lookup x=some c:=by
 rcases QdZ (PySem.mem_of_lookup h) with z | z
 ·cases z
 ·exact z
theorem Qlk {C D:Addr} {h1:Heap} {tk:Nat} {m0:Str->Option Value} (I:Inv X pins σ H2 s2) (hf:∀ b∈fp,FpOk X pins H2 b) (hfo:∀ b∈fp,b < s2.heap.objs.size) (S:CNames X scope N' k ix) (hD:D=s2.heap.objs.size) (hC:s2.heap.objs.size < C)
  (hns:h1.Ns C m0) (hk:∀ b o,s2.heap.get? b=some o->h1.get? b=some o) (hl:h1.get? D=some { cls:=.type "list",data:=.seq ([]:List Value).toArray }) :
  Inv (blk X N' scope C s2 H2 fp pins) [] (σin k ix σ) (upd H2 D (.lst [])) { s2 with heap:=h1,toks:=tk }:=by
 have hDn:H2 D=none:=I.hok.fresh (by rw [hD];exact Nat.le_refl _)
 have hCD:C≠D:=by rw [hD];exact Nat.ne_of_gt hC
 have freshC:H2 C=none:=I.hok.fresh (Nat.le_of_lt hC)
 have has:∀ x,((compEnvC scope (clX X scope) C X.env).kindOf x=some .cell\/(compEnvC scope (clX X scope) C X.env).kindOf x=some .free)->∃ c,(clX X scope).lookup x=some c:=fun x hx=>by
  have hm:=QdG (env:=X.env) S.cell hx
  obtain ⟨c,hc⟩:=I.ok.has x (S.fre _ hm rfl)
  obtain ⟨c',hc'⟩:=Qdu (f:=fun x=>X.env.cells.lookup x) (acc:=[]) hm hc
  exact Qjp hc'
 refine ⟨⟨I.ok.mod,S.kind,I.ok.glob,I.ok.blt,Nat.le_of_lt hC,fun x y c h1 h2=>I.ok.inj x y c (Qch h1) (Qch h2),has,fun x c z _=>absurd z Bool.false_ne_true,I.ok.hd,I.ok.frames,.inl rfl,fun b hb=>?_,I.bs,Nat.le_trans I.ok.bsz I.sz,fun b o e hb=>?_,fun b hb hs=>?_,I.stack,I.stkFree⟩,
  rfl,I.bare,?_,⟨m0,hns,fun i x v e1 e2 e3=>?_⟩,fun x c e=>?_,?_,fun x c e=>?_,fun p hp=>?_,?_,?_⟩
 ·exact ⟨Nat.ne_of_lt (Nat.lt_trans (hfo b hb) hC),fun x c e z=>(hf b hb).2.2.2.2.1 x c (Qch e) z⟩
 ·rcases (hf b hb).2.2.2.1 with z | z
  ·exact I.ok.noex b o e z
  ·exact absurd (Nat.lt_of_lt_of_le (Heap.lt_size e) (Nat.le_trans I.ok.bsz z)) (Nat.lt_irrefl _)
 ·rcases List.mem_cons.mp (I.stkSub b hs) with z | z
  ·exact (hf b hb).2.1 z
  ·exact (hf b hb).2.2.1 z
 ·exact (Un.laid (fun b u q=>hk b u q) (by rw [hD];exact Nat.le_refl _) hDn)
 ·have e2':(List.replicate k none++ix.map fun i=>(σ[i]?).join)[i]? = some (some v):=e2
  have hik:k<=i:=by
   rcases Nat.lt_or_ge i k with z | z
   ·rw [List.getElem?_append_left (by simpa using z),List.getElem?_replicate,if_pos z] at e2'
    cases e2'
   ·exact z
  obtain ⟨j,rfl⟩:∃ j,i=k + j:=⟨i - k,by lia⟩
  rw [List.getElem?_append_right (by simp),List.length_replicate,Nat.add_sub_cancel_left,List.getElem?_map] at e2'
  cases ej:ix[j]? with
  | none=>rw [ej] at e2';cases e2'
  | some i0 =>
   rw [ej] at e2'
   have e4:(σ[i0]?).join=some v:=Option.some.inj e2'
   have e5:σ[i0]? = some (some v):=by
    cases q:σ[i0]? with
    | none=>rw [q] at e4;cases e4
    | some z=>rw [q] at e4;exact congrArg some e4
   obtain ⟨r1,r2,r3⟩:=S.ref j i0 x ej e1
   obtain ⟨m,_,hl'⟩:=I.loc
   obtain ⟨u,hu,lk⟩:=hl' i0 x v r1 e5 (by rcases r2 with z | z;exact .inr (.inl z);exact .inr (.inr z))
   refine ⟨u,hu,?_⟩
   rcases lk with ⟨z,_⟩ | ⟨_,c,hc,hcell⟩
   ·rcases r2 with q | q <;> rw [z] at q <;> cases q
   ·have kk:(compEnvC scope (clX X scope) C X.env).kindOf x=some .cell\/(compEnvC scope (clX X scope) C X.env).kindOf x=some .free:=by
     rcases e3 with q | q
     ·exact absurd q r3
     ·exact q
    obtain ⟨c',hc'⟩:=has x kk
    have:=Qch hc'
    rw [hc] at this;cases this
    obtain ⟨o,ho,hd⟩:=hcell
    exact .inr ⟨kk,c,hc',o,hk _ _ ho,hd⟩
 ·obtain ⟨v,hv⟩:=I.cell x c (Qch e)
  obtain ⟨o,ho,hd⟩:=hv
  exact ⟨v,o,hk _ _ ho,hd⟩
 ·show upd H2 D (.lst []) C=none
  rw [Ql hCD];exact freshC
 ·have e':=Qch (X:=X) e
  show upd H2 D (.lst []) c=none
  obtain ⟨v,o,ho,_⟩:=I.cell x c e'
  rw [Ql (by rw [hD];exact Nat.ne_of_lt (Heap.lt_size ho))]
  exact I.freeC x c e'
 ·have hp':p∈X.pn++pins:=by
   have z:p∈(X.pn++pins)++[]:=hp
   rwa [List.append_nil] at z
  obtain ⟨q1,q2,q3,q4,q5⟩:=I.pin p hp'
  have lt:=Heap.lt_size q1
  refine ⟨hk _ _ q1,?_,Nat.ne_of_lt (Nat.lt_trans lt hC),fun z=>?_,q5⟩
  ·show upd H2 D (.lst []) p.1=none
   rw [Ql (by rw [hD];exact Nat.ne_of_lt lt)];exact q2
  ·rcases List.mem_cons.mp (I.stkSub p.1 z) with y | y
   ·exact q3 y
   ·exact q4 y
 ·exact I.hok.laid hk (by rw [hD];exact Nat.le_refl _) ⟨by simp,[],0,.nil,hl⟩
 ·show (List.replicate k none++ix.map fun i=>(σ[i]?).join).length=N'.length
  rw [S.len];simp
def PCs (X:Cx) (ifs:List Expr) (t:TT):Prop:=∀ (pins:List (Addr×Obj)) (s:Shared) (σ:St) (H:Hp) (Q:Bool->Hp->Prop),Inv X pins σ H s->t σ H Q ->
 wpAny (model X.prog X.w) X.A (forIn ifs true fun c r=>if r=true then do let ok ← isTrue c X.env (eval c X.env);pure (ForInStep.yield ok) else pure (ForInStep.yield r)) (TP X pins σ Q) X.xe s
def tYes:TT:=fun _ H Q=>Q true H
theorem Qn3 {X:Cx}:PCs X [] tYes:=fun pins s σ H Q I h=>wpAny_tests_nil ⟨H,I,h⟩
def Qgc (wi:TI) (g:TG) (gt:TT) (te:TE) (k:Nat) (ix:List Nat):TE:=fun σ H Q=>wi σ H fun J H1=>∀ D,H1 D=none->∃ W:Nat->Nat->St->List V->Hp->Prop,(∃ m,W 0 m (σin k ix σ) [] (upd H1 D (.lst []))) /\
 ∀ i m σ ys H,W i m σ ys H->H D=some (.lst ys)/\((J.stop i H/\Q (.ref D) H)\/(J.go i H/\ys.length < sizeLine/\∃ N:St->List V->Hp->Prop,(∀ σ' ys' H',N σ' ys' H'->∃ m',m' < m/\W (i + 1) m' σ' ys' H') /\
  ∀ x H',J.yld i H x H'->g x σ H' fun σ2 H2=>gt σ2 H2 fun b H3=>if b=true then te σ2 H3 fun y H4=>H4 D=some (.lst ys)/\N σ2 (ys++[y]) (upd H4 D (.lst (ys++[y]))) else N σ2 ys H3))
theorem QhX {iter elt tg:Expr} {ifs:List Expr} {pos cpos:Pos} {wi:TI} {g:TG} {gt:TT} {te:TE} (hc:X.calm=true) (S:CNames X scope N' k ix) (hi:PI X tg iter wi)
  (hb:∀ C s2 H2 fp pins,PG (blk X N' scope C s2 H2 fp pins) tg g/\PCs (blk X N' scope C s2 H2 fp pins) ifs gt/\PE (blk X N' scope C s2 H2 fp pins) elt te)
  (hs:∀ x,foldedSetIterable iter X.env x=pure x) {use:Option (Value->Sem Unit)} {Q':Value->Shared->Prop} {pins:List (Addr×Obj)} {s:Shared} {σ:St} {H:Hp} {Q:VK} (I:Inv X pins σ H s) (h:Qgc wi g gt te k ix σ H Q)
  (fin:∀ (D C:Addr) (H4:Hp) (s5:Shared),FpOk X pins H4 C->(∃ m,s5.heap.Ns C m)->(∀ h',Heap.SameBut C s5.heap h'->Inv X pins σ H4 { s5 with heap:=h' })->Q (.ref D) H4->compPost (model X.prog X.w) X.A X.xe use Q' (.ref D) C (.ok .next) s5) :
  wpAny (model X.prog X.w) X.A (comprehension (.ListComp elt [⟨tg,iter,ifs,0⟩] scope pos) scope X.env cpos (newList []) false (eval iter X.env) use) Q' X.xe s:=by
 have hcl:closureFor scope X.env=pure (clX X scope):=QjA fun y hy hk=>I.ok.has y.1 (S.fre y hy hk)
 refine wpAny_comprehension_free (use:=use) rfl hs hcl S.kind S.loc (wpAny_mono (hi pins s σ H _ I h) (fun v s1 h1=>wpAny_mono h1 (fun itv s2 h2=>?_) fun _ _ e=>e) fun _ _ e=>e)
 obtain ⟨it,fp,tn,J,H2,e,I2,T,st2,f2,q⟩:=h2
 subst e
 refine wpAny_newObj_type (wpAny_newFunctionEnv S.cell (by intro y hy;simp at hy) (fun h₁ hns₁ hsb₁=>?_) S.kind)
 dsimp only at hns₁ hsb₁ ⊢
 generalize hH2:s2.heap.push { cls:=.type "list",dict:=none,data:=.seq ([]:List Value).toArray }=G2 at hns₁ hsb₁ ⊢
 have hC:G2.objs.size=s2.heap.objs.size + 1:=by rw [← hH2,Heap.size_push]
 have hDC:s2.heap.objs.size≠G2.objs.size:=by rw [hC];exact Nat.ne_of_lt (Nat.lt_succ_self _)
 have below:∀ b,b < s2.heap.objs.size->b≠G2.objs.size:=fun b hb=>by rw [hC];exact Nat.ne_of_lt (Nat.lt_succ_of_lt hb)
 have old:∀ b o,s2.heap.get? b=some o->h₁.get? b=some o:=fun b o e=>hsb₁.extBut b o (below b (Heap.lt_size e)) (Heap.get?_push_of_some _ (hH2 ▸ Heap.get?_push_of_some _ e))
 have hacc:h₁.get? s2.heap.objs.size=some { cls:=.type "list",data:=.seq ([]:List Value).toArray }:=hsb₁.extBut _ _ hDC (Heap.get?_push_of_some _ (hH2 ▸ Heap.get?_push_size _ rfl))
 obtain ⟨W,⟨m0,w0⟩,turn⟩:=q s2.heap.objs.size (I2.hok.fresh (Nat.le_refl _))
 have hfo:∀ b∈fp,b < s2.heap.objs.size:=fun b hb=>by
  obtain ⟨o,ho,_⟩:=T.obj _ _ st2 b hb
  exact Heap.lt_size ho
 have I3:=Qlk (C:=G2.objs.size) (D:=s2.heap.objs.size) (h1:=h₁) (tk:=s2.toks + ([]:List (Str×Value)).length) I2 f2 hfo S rfl (by rw [hC];exact Nat.lt_succ_self _) hns₁ old hacc
 have st3:tn 0 h₁:=T.keep _ _ _ st2 fun b hb o e=>old b o e
 obtain ⟨hg,hcs,he⟩:=hb G2.objs.size s2 H2 fp pins
 have fpo:∀ {H':Hp},(∀ b∈fp,H' b=none)->∀ b∈fp,FpOk (blk X N' scope G2.objs.size s2 H2 fp pins) [] H' b:=fun hn b hb=>by
  obtain ⟨_,q1,q2,_,q4,q5⟩:=f2 b hb
  refine ⟨hn b hb,Nat.ne_of_lt (Nat.lt_trans (hfo b hb) (by rw [hC];exact Nat.lt_succ_self _)),fun z=>?_,.inl hb,fun x c e z=>q4 x c (Qch e) z,fun p hp=>?_⟩
  ·rcases List.mem_cons.mp (I2.stkSub b z) with y | y
   ·exact q1 y
   ·exact q2 y
  ·have z:p∈(X.pn++pins)++[]:=hp
   rw [List.append_nil] at z
   exact q5 p z
 have loop:∀ s3:Shared,s3={ s2 with heap:=h₁,toks:=s2.toks + ([]:List (Str×Value)).length } ->
   codeAny (model X.prog X.w) X.A (.compLoop (.ListComp elt [⟨tg,iter,ifs,0⟩] scope pos) 0 (.ref it) (.ref s2.heap.objs.size) (compEnvC scope (clX X scope) G2.objs.size X.env))
    (compPost (model X.prog X.w) X.A X.xe use Q' (.ref s2.heap.objs.size) G2.objs.size) s3:=by
  rintro s3 rfl
  refine QkI (fun n s'=>∃ i σ' ys H',Inv (blk X N' scope G2.objs.size s2 H2 fp pins) [] σ' H' s'/\tn i s'.heap/\(∀ b∈fp,H' b=none)/\W i n σ' ys H') ?_ m0 ⟨0,_,[],_,I3,st3,fun b hb=>?_,w0⟩
  ·rintro n s4 ⟨i,σ4,ys,H4,I4,st4,fr4,w4⟩
   obtain ⟨hD4,w5⟩:=turn i n σ4 ys H4 w4
   rcases w5 with ⟨stop,qn⟩ | ⟨go,hlen,N,hN,step⟩
   ·refine thn (T.done (blk X N' scope G2.objs.size s2 H2 fp pins) rfl rfl rfl hc i [] s4 σ4 H4 (fun _ _=>False) I4 (fpo fr4) st4 stop) fun r s5 ⟨hr,I5⟩=>?_
    subst hr
    obtain ⟨m5,ns5,_⟩:=I5.loc
    have nC0:H4 G2.objs.size=none:=I5.free
    refine fin _ _ H4 s5 (I2.fpOk (by rw [hC];exact Nat.le_succ _) nC0) ⟨m5,ns5⟩ (fun h' hs'=>?_) qn
    have off:∀ b o,b≠G2.objs.size->s5.heap.get? b=some o->h'.get? b=some o:=fun b o hb e=>hs'.extBut b o hb e
    have nC:H4 G2.objs.size=none:=I5.free
    have ne2:∀ b o,s2.heap.get? b=some o->b≠G2.objs.size:=fun b o e=>below b (Heap.lt_size e)
    have u5:=I5.base
    have un:Un (frs X.stack) fp H2 H4 s2.heap h':=⟨fun b o e n hb hx=>off b o (ne2 b o e) (u5.keep b o e n hb hx),fun b o e n hb hx=>by
      obtain ⟨sl,q⟩:=u5.slot b o e n hb hx
      exact ⟨sl,off b _ (ne2 b o e) q⟩,u5.free,fun b o e hx=>by
      obtain ⟨o',q⟩:=u5.there b o e hx
      exact ⟨o',off b o' (ne2 b o e) q⟩,u5.tups,u5.frzs,u5.tbls⟩
    have hok:HOk X.prog X.w H4 h':=fun b u e=>(I5.hok b u e).stay (fun c v hc q=>off c v (fun z=>by
      rcases hc with y | y
      ·rw [← y,z,nC] at e;cases e
      ·rw [z,nC] at y;cases y) q) (fun _ q=>q) fun _ _ q=>q
    exact I2.call' (s':={ s5 with heap:=h' }) (ch:=fp) I5.os un hok I5.bare (fun b hb=>by
     obtain ⟨_,q1,_,q3,q4,q5⟩:=f2 b hb
     exact ⟨q3,q1,q4,q5⟩)
   ·refine thn (T.item (blk X N' scope G2.objs.size s2 H2 fp pins) rfl rfl rfl hc i [] s4 σ4 H4 (fun _ _=>False) I4 (fpo fr4) st4 go) fun r s5 ⟨u,hr,h5⟩=>?_
    subst hr
    refine thn h5 fun _ s6 ⟨x,H6,I6,r6,y6,st6,fr6⟩=>?_
    have I6':=I6.pinned (fpo fr6) (T.obj _ _ st6)
    refine thn (hg _ s6 σ4 H6 x u _ I6' r6 (step x H6 y6)) fun _ s7 ⟨σ7,H7,I7,q7⟩=>?_
    refine thn (hcs _ s7 σ7 H7 _ I7 q7) fun ok s8 ⟨H8,I8,q8⟩=>?_
    have again:∀ {σ9:St} {zs:List V} {H9:Hp} {s9:Shared},Inv (blk X N' scope G2.objs.size s2 H2 fp pins) ([]++Qen fp s6.heap) σ9 H9 s9->N σ9 zs H9 ->
      ∃ m,m < n/\∃ i σ' ys H',Inv (blk X N' scope G2.objs.size s2 H2 fp pins) [] σ' H' s9/\tn i s9.heap/\(∀ b∈fp,H' b=none)/\W i m σ' ys H':=fun {σ9 zs H9 s9} I9 n9=>by
     obtain ⟨m',hm,w9⟩:=hN σ9 zs H9 n9
     refine ⟨m',hm,i + 1,σ9,zs,H9,I9.unpinned,T.keep _ _ _ st6 fun b hb o e=>(I9.pin (b,o) (List.mem_append_right _ (List.mem_append_right _ (QbN hb e)))).1,fun b hb=>?_,w9⟩
     obtain ⟨o,e,d⟩:=T.obj _ _ st6 b hb
     exact (I9.pin (b,o) (List.mem_append_right _ (List.mem_append_right _ (QbN hb e)))).2.1
    cases ok with
    | false=>exact again I8 q8
    | true =>
     refine thn (he _ s8 σ7 H8 _ I8 q8) fun xv s9 ⟨y,H9,I9,r9,hD9,n9⟩=>?_
     exact thn (Qel (X:=blk X N' scope G2.objs.size s2 H2 fp pins) _ s9 σ7 H9 (.ref s2.heap.objs.size) [y] _ _ (fun v H'=>H'=upd H9 s2.heap.objs.size (.lst (ys++[y]))) I9 rfl (.cons r9 .nil) ⟨_,ys,y,rfl,rfl,hD9,hlen,rfl⟩)
      fun _ s10 ⟨v10,H10,I10,_,e10⟩=>by subst e10;exact again I10 n9
  ·show upd H2 s2.heap.objs.size (.lst []) b=none
   rw [Ql (Nat.ne_of_lt (hfo b hb))]
   exact (f2 b hb).1
 exact codeAny_compStart_list (loop _ rfl) (T.self _ 0 _ _ _ st3 (loop _ rfl))
theorem QnH {iter elt tg:Expr} {ifs:List Expr} {pos:Pos} {wi:TI} {g:TG} {gt:TT} {te:TE} (hc:X.calm=true) (S:CNames X scope N' k ix) (hi:PI X tg iter wi)
  (hb:∀ C s2 H2 fp pins,PG (blk X N' scope C s2 H2 fp pins) tg g/\PCs (blk X N' scope C s2 H2 fp pins) ifs gt/\PE (blk X N' scope C s2 H2 fp pins) elt te)
  (hs:∀ x,foldedSetIterable iter X.env x=pure x:=by intro _;rfl):PE X (.ListComp elt [⟨tg,iter,ifs,0⟩] scope pos) (Qgc wi g gt te k ix):=by
 intro pins s σ H Q I h
 rw [eval_ListComp]
 refine QhX hc S hi hb hs I h fun D C H4 s5 _ ⟨m5,ns5⟩ iv q=>⟨m5,ns5,fun h' hs'=>⟨.ref D,H4,iv h' hs',rfl,q⟩⟩
theorem Qok {i:Nat} {x:Str} {pos' spos:Pos} {iter elt tg:Expr} {ifs:List Expr} {pos:Pos} {wi:TI} {g:TG} {gt:TT} {te:TE} (hN:X.N.Nodup) (hx0:X.N[i]? = some x) (hx:Loc X.env.scope x)
  (hsw:swapsWith (.ListComp elt [⟨tg,iter,ifs,0⟩] scope pos) (some (.Name x pos')) spos.line X.env=pure true)
  (hf:X.fn x=true\/X.env.scope.names.lookup x=some .local) (hc:X.calm=true) (S:CNames X scope N' k ix) (hi:PI X tg iter wi)
  (hb:∀ C s2 H2 fp pins,PG (blk X N' scope C s2 H2 fp pins) tg g/\PCs (blk X N' scope C s2 H2 fp pins) ifs gt/\PE (blk X N' scope C s2 H2 fp pins) elt te)
  (hs:∀ x,foldedSetIterable iter X.env x=pure x:=by intro _;rfl):PS X (.Assign [.Name x pos'] (.ListComp elt [⟨tg,iter,ifs,0⟩] scope pos) spos) (tAsg (Qgc wi g gt te k ix) (Qez i)):=by
 intro pins s σ H D I h
 rw [exec_Assign_Name_used _ _ _ _ hsw]
 refine wpAny_bind (wpAny_standAt (wpAny_bind ?_))
 show wpAny _ X.A (do let _ ← comprehension (.ListComp elt [⟨tg,iter,ifs,0⟩] scope pos) scope X.env _ (newList []) false (eval iter X.env) (some (assign (.Name x pos') X.env))) _ _ s
 refine wpAny_bind (wpAny_mono (QhX (use:=some (assign (.Name x pos') X.env)) (Q':=fun _ s'=>SP X pins D .next s') hc S hi hb hs I h fun D' C H4 s5 fp ⟨m5,ns5⟩ iv q=>?_) (fun _ s' hq=>wpAny_pure (wpAny_pure hq)) fun _ _ e=>e)
 show wpAny _ X.A (assign (.Name x pos') X.env (.ref D')) _ _ s5
 have J:Inv X pins σ H4 s5:=iv s5.heap (Heap.SameBut.refl _ _)
 obtain ⟨oC,e1,e2,hoC,e3⟩:=id ns5
 have J':Inv X (pins++Qen [C] s5.heap) σ H4 s5:=J.pinned (fp:=[C]) (fun b hb=>by rw [List.mem_singleton.mp hb];exact fp) fun b hb=>by
  rw [List.mem_singleton.mp hb]
  refine ⟨oC,hoC,fun v hv=>?_⟩
  rw [hv] at e3
  simp at e3
 refine wpAny_assign_Name (Qfx J' hN hx0 hx (show RelV (.ref D') (.ref D') from rfl) (fun s6 I6=>?_) hf)
 have pC:=I6.pin (C,oC) (List.mem_append_right _ (List.mem_append_right _ (QbN List.mem_cons_self hoC)))
 refine ⟨m5,⟨oC,e1,e2,pC.1,e3⟩,fun h' hs'=>?_⟩
 obtain ⟨q0,q1,q2,q3,q4,q5⟩:=fp
 have off:∀ b o,b≠C->s6.heap.get? b=some o->h'.get? b=some o:=fun b o hb e=>hs'.extBut b o hb e
 have un:Un (frs X.stack) [C] H4 H4 s6.heap h':=⟨fun b o e _ _ hx=>off b o (fun z=>hx (by rw [z];exact List.mem_cons_self)) e,fun b o e _ _ hx=>⟨o.slots,off b o (fun z=>hx (by rw [z];exact List.mem_cons_self)) e⟩,
  fun _ _ _ n _=>n,fun b o e hx=>⟨o,off b o (fun z=>hx (by rw [z];exact List.mem_cons_self)) e⟩,fun _ _ e=>e,fun _ _ _ e=>e,fun b ps e=>⟨#[],by rw [Array.append_empty];exact e⟩⟩
 have hok:HOk X.prog X.w H4 h':=fun b u e=>(I6.hok b u e).stay (fun c v hc q=>off c v (fun z=>by
   rcases hc with y | y
   ·rw [← y,z,q0] at e;cases e
   ·rw [z,q0] at y;cases y) q) (fun _ q=>q) fun _ _ q=>q
 exact ⟨_,H4,I6.unpinned.call' (s':={ s6 with heap:=h' }) (ch:=[C]) rfl un hok I6.bare (fun b hb=>by
  rw [List.mem_singleton.mp hb]
  exact ⟨q3,q1,q4,q5⟩),q⟩
structure CompR (X:Cx) (e:Expr) (te:TE):Prop where
 pe:PE X e te
 ps:∀ (i:Nat) (x:Str) (pos' spos:Pos),X.N.Nodup->X.N[i]? = some x->Loc X.env.scope x->swapsWith e (some (.Name x pos')) spos.line X.env=pure true->(X.fn x=true\/X.env.scope.names.lookup x=some .local)->PS X (.Assign [.Name x pos'] e spos) (tAsg te (Qez i))
theorem CompR.imp {e:Expr} {te te':TE} (h:CompR X e te) (k:∀ σ H Q,te' σ H Q->te σ H Q):CompR X e te' :=
 ⟨h.pe.imp k,fun i x pos' spos a b c d f=>(h.ps i x pos' spos a b c d f).imp fun D σ H q=>k σ H _ q⟩
theorem Qhf {iter elt tg:Expr} {ifs:List Expr} {pos:Pos} {wi:TI} {g:TG} {gt:TT} {te:TE} (hc:X.calm=true) (S:CNames X scope N' k ix) (hi:PI X tg iter wi)
  (hb:∀ C s2 H2 fp pins,PG (blk X N' scope C s2 H2 fp pins) tg g/\PCs (blk X N' scope C s2 H2 fp pins) ifs gt/\PE (blk X N' scope C s2 H2 fp pins) elt te)
  (hs:∀ x,foldedSetIterable iter X.env x=pure x:=by intro _;rfl):CompR X (.ListComp elt [⟨tg,iter,ifs,0⟩] scope pos) (Qgc wi g gt te k ix) :=
 ⟨QnH hc S hi hb hs,fun i x pos' spos a b c d f=>Qok a b c d f hc S hi hb hs⟩
end
end L2
namespace DL
open PySem PySem.Spec PyProof.Rows L2
abbrev St:=L2.St
inductive D where
 | non | bl (b:Bool) | int (i:Int) | str (x:Str) | tup (xs:List D) | lst (xs:List D) | frl (xs:List D) | dic (ks:List Key) (ds:List D) | obj (c:Str) | dip (ks:List (List Key)) (ds:List D) | exc (c:Str) (ks:List Str) (ds:List D)
 deriving Inhabited
structure Exn where
 cls:Str
 args:List D
inductive Ou (α:Type) where
 | ok (a:α) | ex (e:Exn) | bad
def Ou.bind {α β:Type}:Ou α->(α->Ou β)->Ou β
 | .ok a,f=>f a
 | .ex e,_=>.ex e
 | .bad,_=>.bad
@[simp] theorem Qau {α β:Type} (a:α) (f:α->Ou β):(Ou.ok a).bind f=f a:=rfl
@[simp] theorem bind_ex {α β:Type} (e:Exn) (f:α->Ou β):(Ou.ex e:Ou α).bind f=.ex e:=rfl
@[simp] theorem bind_bad {α β:Type} (f:α->Ou β):(Ou.bad:Ou α).bind f=.bad:=rfl
inductive Sl where
 | un | val (d:D) | own (d:D)
abbrev DS:=List Sl
abbrev Fn:=DS->Ou D
def FrK (K:W.Frag) (H:Hp) (a:Addr) (xs:List V):Prop :=
 (∃ o,H a=some (.frz o (.lst xs))) \/
  ∃ (o:Obj) (its:Array Value) (n:Nat),K.lookup a=some o/\o.cls=.type "list"/\o.dict=none/\o.data=.seq its n/\its.size<=sizeLine/\Vals xs its.toList
theorem FrK.sq {K:W.Frag} {H:Hp} {a:Addr} {xs:List V} (h:FrK K H a xs):SqL K H a xs:=by
 rcases h with ⟨o,h⟩ | h
 ·exact .inl (.inr ⟨o,h⟩)
 ·exact .inr h
def ExcAt (H:Hp) (a C:Addr) (dx:Option Addr):Prop:=∃ φ,H a=some (.ext φ)/\∀ h:Heap,φ h->∃ o,h.get? a=some o/\o.cls=.ref C/\o.dict=dx
mutual
def Rep (K:W.Frag) (B:Addr->Prop) (H:Hp):D->V->Prop
 | .non,v=>v=.non
 | .bl b,v=>v=.bl b
 | .int i,v=>v=.int i
 | .str x,v=>v=.str x
 | .tup ds,v=>∃ a xs,v=.ref a/\SqT K H a xs/\Reps K B H ds xs
 | .lst ds,v=>∃ a xs,v=.ref a/\B a/\H a=some (.lst xs)/\Reps K B H ds xs
 | .frl ds,v=>∃ a xs,v=.ref a/\FrK K H a xs/\Reps K B H ds xs
 | .dic ks ds,v=>∃ a kvs,v=.ref a/\B a/\Rd H a (.dK kvs)/\kvs.map (·.1)=ks/\Reps K B H ds (kvs.map (·.2))
 | .obj c,v=>∃ a C dx,v=.ref a/\W.nsIn K mainGlobals c=some (some (.ref C))/\B a/\H a=some (.ins C dx [])
 | .dip ks ds,v=>∃ a kvs,v=.ref a/\B a/\H a=some (.dT kvs)/\kvs.map (·.1)=ks/\Reps K B H ds (kvs.map (·.2))
 | .exc c ks ds,v=>∃ a C dx fs,v=.ref a/\W.nsIn K mainGlobals c=some (some (.ref C))/\B a/\ExcAt H a C dx/\fs.map (·.1)=ks/\(ks=[]\/∃ d,dx=some d/\B d/\H d=some (.xd fs))/\Reps K B H ds (fs.map (·.2))
def Reps (K:W.Frag) (B:Addr->Prop) (H:Hp):List D->List V->Prop
 | [],vs=>vs=[]
 | d::ds,vs=>∃ v r,vs=v::r/\Rep K B H d v/\Reps K B H ds r
end
section
variable {K:W.Frag} {B B':Addr->Prop} {H H':Hp}
theorem QcK (e:Same H H') {a:Addr} {xs:List V} (h:SqT K H a xs):SqT K H' a xs:=by
 rcases h with (h | ⟨o,h⟩) | h
 ·exact .inl (.inl (e _ _ h))
 ·exact .inl (.inr ⟨o,e _ _ h⟩)
 ·exact .inr h
structure Stay (K:W.Frag) (B:Addr->Prop) (H H':Hp):Prop where
 tup:∀ a xs,SqT K H a xs->SqT K H' a xs
 frz:∀ a xs,FrK K H a xs->FrK K H' a xs
 keep:∀ a o,B a->H a=some o->H' a=some o
theorem QlZ (e:Same H H') {a:Addr} {xs:List V} (h:FrK K H a xs):FrK K H' a xs:=by
 rcases h with ⟨o,h⟩ | h
 ·exact .inl ⟨o,e _ _ h⟩
 ·exact .inr h
theorem Stay.of_same (e:Same H H'):Stay K B H H':=⟨fun _ _ h=>QcK e h,fun _ _ h=>QlZ e h,fun _ _ _ h=>e _ _ h⟩
mutual
theorem Rep.mono (hB:∀ a o,B a->H a=some o->B' a) (hs:Stay K B H H'):∀ (d:D) (v:V),Rep K B H d v->Rep K B' H' d v
 | .non,_,h=>by simpa [Rep] using h
 | .bl _,_,h=>by simpa [Rep] using h
 | .int _,_,h=>by simpa [Rep] using h
 | .str _,_,h=>by simpa [Rep] using h
 | .tup ds,v,h=>by
  simp only [Rep] at h ⊢
  obtain ⟨a,xs,e,h1,h2⟩:=h
  exact ⟨a,xs,e,hs.tup _ _ h1,Reps.mono hB hs ds xs h2⟩
 | .lst ds,v,h=>by
  simp only [Rep] at h ⊢
  obtain ⟨a,xs,e,hb,h1,h2⟩:=h
  exact ⟨a,xs,e,hB _ _ hb h1,hs.keep _ _ hb h1,Reps.mono hB hs ds xs h2⟩
 | .frl ds,v,h=>by
  simp only [Rep] at h ⊢
  obtain ⟨a,xs,e,h1,h2⟩:=h
  exact ⟨a,xs,e,hs.frz _ _ h1,Reps.mono hB hs ds xs h2⟩
 | .dic ks ds,v,h=>by
  simp only [Rep] at h ⊢
  obtain ⟨a,kvs,e,hb,h1,hk,h2⟩:=h
  rcases h1 with h1 | ⟨o,h1⟩
  ·exact ⟨a,kvs,e,hB _ _ hb h1,.inl (hs.keep _ _ hb h1),hk,Reps.mono hB hs ds _ h2⟩
  ·exact ⟨a,kvs,e,hB _ _ hb h1,.inr ⟨o,hs.keep _ _ hb h1⟩,hk,Reps.mono hB hs ds _ h2⟩
 | .obj c,v,h=>by
  simp only [Rep] at h ⊢
  obtain ⟨a,C,dx,e,hn,hb,h1⟩:=h
  exact ⟨a,C,dx,e,hn,hB _ _ hb h1,hs.keep _ _ hb h1⟩
 | .dip ks ds,v,h=>by
  simp only [Rep] at h ⊢
  obtain ⟨a,kvs,e,hb,h1,hk,h2⟩:=h
  exact ⟨a,kvs,e,hB _ _ hb h1,hs.keep _ _ hb h1,hk,Reps.mono hB hs ds _ h2⟩
 | .exc c ks ds,v,h=>by
  simp only [Rep] at h ⊢
  obtain ⟨a,C,dx,fs,e,hn,hb,⟨φ,h1,h2⟩,hk,h3,h4⟩:=h
  refine ⟨a,C,dx,fs,e,hn,hB _ _ hb h1,⟨φ,hs.keep _ _ hb h1,h2⟩,hk,?_,Reps.mono hB hs ds _ h4⟩
  rcases h3 with h3 | ⟨d,h5,h6,h7⟩
  ·exact .inl h3
  ·exact .inr ⟨d,h5,hB _ _ h6 h7,hs.keep _ _ h6 h7⟩
theorem Reps.mono (hB:∀ a o,B a->H a=some o->B' a) (hs:Stay K B H H'):∀ (ds:List D) (vs:List V),Reps K B H ds vs->Reps K B' H' ds vs
 | [],_,h=>by simpa [Reps] using h
 | d::ds,vs,h=>by
  simp only [Reps] at h ⊢
  obtain ⟨v,r,e,h1,h2⟩:=h
  exact ⟨v,r,e,Rep.mono hB hs d v h1,Reps.mono hB hs ds r h2⟩
end
theorem Rep.same {d:D} {v:V} (r:Rep K B H d v) (e:Same H H'):Rep K B H' d v:=Rep.mono (fun _ _ h _=>h) (.of_same e) d v r
theorem Reps.same {ds:List D} {vs:List V} (r:Reps K B H ds vs) (e:Same H H'):Reps K B H' ds vs:=Reps.mono (fun _ _ h _=>h) (.of_same e) ds vs r
theorem Rep.weak {d:D} {v:V} (r:Rep K B H d v) (hB:∀ a,B a->B' a):Rep K B' H d v:=Rep.mono (fun a _ h _=>hB a h) (.of_same (Same.refl H)) d v r
theorem Reps.length:∀ {ds:List D} {vs:List V},Reps K B H ds vs->vs.length=ds.length
 | [],_,h=>by simp only [Reps] at h;rw [h];rfl
 | d::ds,vs,h=>by
  simp only [Reps] at h
  obtain ⟨v,r,rfl,_,h2⟩:=h
  simp [Reps.length h2]
theorem Reps.get:∀ {ds:List D} {vs:List V},Reps K B H ds vs->∀ (i:Nat) (d:D),ds[i]? = some d->∃ v,vs[i]? = some v/\Rep K B H d v
 | [],_,_=>fun i d e=>by simp at e
 | d0::ds,vs,h=>fun i d e=>by
  simp only [Reps] at h
  obtain ⟨v,r,rfl,h1,h2⟩:=h
  cases i with
  | zero=>simp at e;subst e;exact ⟨v,rfl,h1⟩
  | succ i=>simpa using Reps.get h2 i d (by simpa using e)
theorem Reps.append:∀ {ds es:List D} {vs us:List V},Reps K B H ds vs->Reps K B H es us->Reps K B H (ds++es) (vs++us)
 | [],es,vs,us,h,h'=>by simp only [Reps] at h;subst h;simpa using h'
 | d::ds,es,vs,us,h,h'=>by
  simp only [Reps] at h
  obtain ⟨v,r,rfl,h1,h2⟩:=h
  show Reps K B H (d::(ds++es)) (v::(r++us))
  simp only [Reps]
  exact ⟨v,r++us,rfl,h1,Reps.append h2 h'⟩
theorem Reps.one {d:D} {v:V} (h:Rep K B H d v):Reps K B H [d] [v]:=by
 simp only [Reps];exact ⟨v,[],rfl,h,rfl⟩
theorem Reps.take:∀ {ds:List D} {vs:List V} (n:Nat),Reps K B H ds vs->Reps K B H (ds.take n) (vs.take n)
 | [],_,n,h=>by simp only [Reps] at h;subst h;simp [Reps]
 | d::ds,vs,0,h=>by simp [Reps]
 | d::ds,vs,n + 1,h=>by
  simp only [Reps] at h
  obtain ⟨v,r,rfl,h1,h2⟩:=h
  simp only [List.take_succ_cons,Reps]
  exact ⟨v,r.take n,rfl,h1,Reps.take n h2⟩
theorem Reps.drop:∀ {ds:List D} {vs:List V} (n:Nat),Reps K B H ds vs->Reps K B H (ds.drop n) (vs.drop n)
 | [],_,n,h=>by simp only [Reps] at h;subst h;simp [Reps]
 | d::ds,vs,0,h=>by simpa using h
 | d::ds,vs,n + 1,h=>by
  simp only [Reps] at h
  obtain ⟨v,r,rfl,h1,h2⟩:=h
  simpa using Reps.drop n h2
theorem Reps.set:∀ {ds:List D} {vs:List V} (i:Nat) {d:D} {v:V},Reps K B H ds vs->Rep K B H d v->Reps K B H (ds.set i d) (vs.set i v)
 | [],_,i,_,_,h,_=>by simp only [Reps] at h;subst h;simp [Reps]
 | d0::ds,vs,0,d,v,h,h'=>by
  simp only [Reps] at h
  obtain ⟨v0,r,rfl,h1,h2⟩:=h
  simp only [List.set_cons_zero,Reps]
  exact ⟨v,r,rfl,h',h2⟩
 | d0::ds,vs,i + 1,d,v,h,h'=>by
  simp only [Reps] at h
  obtain ⟨v0,r,rfl,h1,h2⟩:=h
  simp only [List.set_cons_succ,Reps]
  exact ⟨v0,r.set i v,rfl,h1,Reps.set i h2 h'⟩
theorem Reps.ints (ns:List Int):Reps K B H (ns.map D.int) (ns.map V.int):=by
 induction ns with
 | nil=>simp [Reps]
 | cons n r ih=>simp only [List.map_cons,Reps];exact ⟨_,_,rfl,by simp [Rep],ih⟩
end
def toV:D->V
 | .bl b=>.bl b
 | .int i=>.int i
 | .str x=>.str x
 | _=>.non
def isS:D->Bool
 | .non=>true
 | .bl _=>true
 | .int _=>true
 | .str _=>true
 | _=>false
theorem Rep.ofS {K:W.Frag} {B:Addr->Prop} {H:Hp} {d:D} (h:isS d=true):Rep K B H d (toV d):=by
 cases d <;> simp [isS,Rep,toV] at h ⊢
mutual
def imm:D->Bool
 | .tup ds=>imms ds
 | .frl ds=>imms ds
 | .lst _=>false
 | .dic _ _=>false
 | .obj _=>false
 | .dip _ _=>false
 | .exc _ _ _=>false
 | _=>true
def imms:List D->Bool
 | []=>true
 | d::ds=>imm d && imms ds
end
mutual
theorem Rep.imm {K:W.Frag} {B B':Addr->Prop} {H:Hp}:∀ (d:D) (v:V),imm d=true->Rep K B H d v->Rep K B' H d v
 | .non,_,_,h=>by simpa [Rep] using h
 | .bl _,_,_,h=>by simpa [Rep] using h
 | .int _,_,_,h=>by simpa [Rep] using h
 | .str _,_,_,h=>by simpa [Rep] using h
 | .tup ds,v,hi,h=>by
  simp only [Rep] at h ⊢
  obtain ⟨a,xs,e,h1,h2⟩:=h
  exact ⟨a,xs,e,h1,Reps.imm ds xs (by simpa [DL.imm] using hi) h2⟩
 | .frl ds,v,hi,h=>by
  simp only [Rep] at h ⊢
  obtain ⟨a,xs,e,h1,h2⟩:=h
  exact ⟨a,xs,e,h1,Reps.imm ds xs (by simpa [DL.imm] using hi) h2⟩
 | .lst ds,v,hi,h=>by simp [DL.imm] at hi
 | .dic ks ds,v,hi,h=>by simp [DL.imm] at hi
 | .obj C,v,hi,h=>by simp [DL.imm] at hi
 | .dip ks ds,v,hi,h=>by simp [DL.imm] at hi
 | .exc c ks ds,v,hi,h=>by simp [DL.imm] at hi
theorem Reps.imm {K:W.Frag} {B B':Addr->Prop} {H:Hp}:∀ (ds:List D) (vs:List V),imms ds=true->Reps K B H ds vs->Reps K B' H ds vs
 | [],_,_,h=>by simpa [Reps] using h
 | d::ds,vs,hi,h=>by
  simp only [Reps] at h ⊢
  obtain ⟨v,r,e,h1,h2⟩:=h
  simp only [imms,Bool.and_eq_true] at hi
  exact ⟨v,r,e,Rep.imm d v hi.1 h1,Reps.imm ds r hi.2 h2⟩
end
def RepO (K:W.Frag) (B:Addr->Prop) (H:Hp):D->HO->Prop
 | .lst ds,o=>∃ xs,o=.lst xs/\Reps K B H ds xs
 | .dic ks ds,o=>∃ kvs,o=.dK kvs/\kvs.map (·.1)=ks/\Reps K B H ds (kvs.map (·.2))
 | .dip ks ds,o=>∃ kvs,o=.dT kvs/\kvs.map (·.1)=ks/\Reps K B H ds (kvs.map (·.2))
 | _,_=>False
section
variable {K:W.Frag} {B B':Addr->Prop} {H H':Hp}
theorem RepO.mono {d:D} {o:HO} (hB:∀ a o,B a->H a=some o->B' a) (hs:Stay K B H H') (r:RepO K B H d o):RepO K B' H' d o:=by
 cases d <;> first | exact r.elim | skip
 ·obtain ⟨xs,h1,h2⟩:=r
  exact ⟨xs,h1,Reps.mono hB hs _ _ h2⟩
 ·obtain ⟨kvs,h1,h2,h3⟩:=r
  exact ⟨kvs,h1,h2,Reps.mono hB hs _ _ h3⟩
 ·obtain ⟨kvs,h1,h2,h3⟩:=r
  exact ⟨kvs,h1,h2,Reps.mono hB hs _ _ h3⟩
theorem RepO.same {d:D} {o:HO} (r:RepO K B H d o) (e:Same H H'):RepO K B H' d o:=r.mono (fun _ _ h _=>h) (.of_same e)
theorem RepO.weak {d:D} {o:HO} (r:RepO K B H d o) (hB:∀ a,B a->B' a):RepO K B' H d o:=r.mono (fun a _ h _=>hB a h) (.of_same (Same.refl H))
theorem RepO.rep {d:D} {o:HO} {p:Addr} (r:RepO K B H d o) (h:H p=some o) (hp:B p):Rep K B H d (.ref p):=by
 cases d <;> first | exact r.elim | skip
 ·obtain ⟨xs,rfl,h2⟩:=r
  simp only [Rep]
  exact ⟨p,xs,rfl,hp,h,h2⟩
 ·obtain ⟨kvs,rfl,h2,h3⟩:=r
  simp only [Rep]
  exact ⟨p,kvs,rfl,hp,.inl h,h2,h3⟩
 ·obtain ⟨kvs,rfl,h2,h3⟩:=r
  simp only [Rep]
  exact ⟨p,kvs,rfl,hp,h,h2,h3⟩
theorem RepO.noT {d:D} {o:HO} (r:RepO K B H d o) (xs:List V):HO.tup xs≠o:=by
 cases d <;> first | exact r.elim | skip
 ·obtain ⟨xs,rfl,h2⟩:=r;intro w;cases w
 ·obtain ⟨kvs,rfl,h2,h3⟩:=r;intro w;cases w
 ·obtain ⟨kvs,rfl,h2,h3⟩:=r;intro w;cases w
theorem RepO.noF {d:D} {o:HO} (r:RepO K B H d o) (ob:Obj) (u:HO):HO.frz ob u≠o:=by
 cases d <;> first | exact r.elim | skip
 ·obtain ⟨xs,rfl,h2⟩:=r;intro w;cases w
 ·obtain ⟨kvs,rfl,h2,h3⟩:=r;intro w;cases w
 ·obtain ⟨kvs,rfl,h2,h3⟩:=r;intro w;cases w
end
structure Cn where
 K:W.Frag
 B:Addr->Prop
 H₀:Hp
 G:List (D×V)
 P:Option (Nat×Addr):=none
def Own (σ:St) (δ:DS) (p:Addr):Prop:=∃ (i:Nat) (ds:D),δ[i]? = some (Sl.own ds)/\σ[i]? = some (some (V.ref p))
def Av (c:Cn) (σ:St) (δ:DS) (a:Addr):Prop:=c.B a/\¬ Own σ δ a
structure Abs (c:Cn) (σ:St) (δ:DS) (H:Hp):Prop where
 same:Same c.H₀ H
 fr:∀ a,H a=none->c.B a
 len:δ.length=σ.length
 val:∀ (i:Nat) (d:D),δ[i]? = some (Sl.val d)->∃ v,σ[i]? = some (some v)/\Rep c.K (Av c σ δ) H d v
 own:∀ (i:Nat) (ds:D),δ[i]? = some (Sl.own ds)->∃ p xs,σ[i]? = some (some (V.ref p))/\H p=some xs/\(c.H₀ p=none/\c.B p)/\RepO c.K (Av c σ δ) H ds xs
 gho:∀ d v,(d,v)∈c.G->Rep c.K (Av c σ δ) H d v
 inj:∀ (i j:Nat) (di dj:D) (p:Addr),δ[i]? = some (Sl.own di)->δ[j]? = some (Sl.own dj)->σ[i]? = some (some (V.ref p))->σ[j]? = some (some (V.ref p))->i=j
 pin:∀ (i:Nat) (p:Addr),c.P=some (i,p)->∀ d,δ[i]? = some (Sl.own d)->σ[i]? = some (some (V.ref p))
section
variable {c:Cn} {σ:St} {δ:DS} {H H':Hp}
theorem Abs.grow (a:Abs c σ δ H) (e:Same H H'):Abs c σ δ H' where
 same:=a.same.trans e
 fr:=fun b h=>a.fr b (e.free h)
 len:=a.len
 val:=fun i d h=>by obtain ⟨v,h1,h2⟩:=a.val i d h;exact ⟨v,h1,h2.same e⟩
 own:=fun i ds h=>by obtain ⟨p,xs,h1,h2,h3,h4⟩:=a.own i ds h;exact ⟨p,xs,h1,e _ _ h2,h3,h4.same e⟩
 gho:=fun d v h=>(a.gho d v h).same e
 inj:=a.inj
 pin:=a.pin
theorem Own.is (a:Abs c σ δ H) {p:Addr} (o:Own σ δ p):∃ xs,H p=some xs/\c.H₀ p=none:=by
 obtain ⟨i,ds,h1,h2⟩:=o
 obtain ⟨p',xs,h3,h4,h5,_⟩:=a.own i ds h1
 rw [h2] at h3;cases h3
 exact ⟨xs,h4,h5.1⟩
theorem Abs.av_new (a:Abs c σ δ H) {p:Addr} (h:H p=none):Av c σ δ p:=by
 refine ⟨a.fr p h,fun o=>?_⟩
 obtain ⟨xs,h1,_⟩:=Own.is a o
 rw [h] at h1;cases h1
end
inductive Md where
 | W | S | F
def Post (c:Cn) (σ:St) (δ:DS) (H:Hp) (m:Md) (d:D) (v:V) (H':Hp):Prop :=
 match m with
 | .W=>Rep c.K c.B H' d v
 | .S=>Rep c.K (Av c σ δ) H' d v
 | .F=>∃ p xs,v=.ref p/\H p=none/\H' p=some xs/\RepO c.K (fun a=>Av c σ δ a/\a≠p) H' d xs
def Wish (K:W.Frag) (E:XK) (H₀:Hp) (e:Exn):Prop:=∃ C,W.nsIn K mainGlobals e.cls=some (some (.ref C))/\∀ H',Same H₀ H'->E (.ref C) none H'
def Res {α:Type} (K:W.Frag) (E:XK) (H₀:Hp) (o:Ou α) (k:α->Prop):Prop :=
 match o with
 | .ok a=>k a
 | .ex e=>Wish K E H₀ e
 | .bad=>False
theorem Res.bind {α β:Type} {K:W.Frag} {E:XK} {H₀:Hp} {o:Ou α} {f:α->Ou β} {k:β->Prop} (h:Res K E H₀ (o.bind f) k):Res K E H₀ o fun a=>Res K E H₀ (f a) k:=by
 cases o with
 | ok a=>exact h
 | ex e=>exact h
 | bad=>exact h
theorem Res.imp {α:Type} {K:W.Frag} {E:XK} {H₀:Hp} {o:Ou α} {k k':α->Prop} (h:Res K E H₀ o k) (hi:∀ a,o=.ok a->k a->k' a):Res K E H₀ o k':=by
 cases o with
 | ok a=>exact hi a rfl h
 | ex e=>exact h
 | bad=>exact h
def tX (K:W.Frag) (E:XK) (m:Md) (f:Fn):TE:=fun σ H Q=>∃ c δ,c.K=K/\Abs c σ δ H/\Res K E c.H₀ (f δ) fun d=>∀ v H',Same H H'->Post c σ δ H m d v H'->Q v H'
theorem Post.toW {c:Cn} {σ:St} {δ:DS} {H H':Hp} {m:Md} {d:D} {v:V} (a:Abs c σ δ H) (e:Same H H') (p:Post c σ δ H m d v H'):Rep c.K c.B H' d v:=by
 cases m with
 | W=>exact p
 | S=>exact Rep.weak p fun _ h=>h.1
 | F =>
  obtain ⟨p,xs,rfl,h1,h2,h3⟩:=p
  exact (h3.weak fun _ h=>h.1.1).rep h2 (a.fr p h1)
theorem Post.toS {c:Cn} {σ:St} {δ:DS} {H H':Hp} {d:D} {v:V} (a:Abs c σ δ H) (p:Post c σ δ H .F d v H'):Post c σ δ H .S d v H':=by
 obtain ⟨p,xs,rfl,h1,h2,h3⟩:=p
 show Rep _ _ _ _ _
 exact (h3.weak fun _ h=>h.1).rep h2 (a.av_new h1)
def notF:Md->Bool
 | .F=>false
 | _=>true
theorem Post.ofS {c:Cn} {σ:St} {δ:DS} {H H':Hp} {m:Md} {d:D} (hm:notF m=true) (h:isS d=true):Post c σ δ H m d (toV d) H':=by
 cases m with
 | W=>exact Rep.ofS h
 | S=>exact Rep.ofS h
 | F=>simp [notF] at hm
def fVar (i:Nat):Fn:=fun δ=>match δ[i]? with
 | some (.val d)=>.ok d
 | some (.own d)=>.ok d
 | _=>.bad
def Qe (i:Nat):Fn:=fun δ=>match δ[i]? with
 | some (.val d)=>.ok d
 | _=>.bad
def fC (d:D):Fn:=fun _=>.ok d
section
variable {X:Cx} {E:XK} {m:Md} {a b:Expr} {fa fb:Fn} {pos:Pos}
theorem Qpw {K:W.Frag} {i:Nat} {σ:St} {H:Hp} {Q:VK} (h:tX K E .W (fVar i) σ H Q):tVar i σ H Q:=by
 obtain ⟨c,δ,rfl,ab,h⟩:=h
 unfold fVar at h
 cases e:δ[i]? with
 | none=>rw [e] at h;exact h.elim
 | some s =>
  rw [e] at h
  cases s with
  | un=>exact h.elim
  | val d =>
   obtain ⟨v,h1,h2⟩:=ab.val i d e
   exact ⟨v,h1,h v H (Same.refl H) (Rep.weak h2 fun _ z=>z.1)⟩
  | own ds =>
   obtain ⟨p,xs,h1,h2,h3,h4⟩:=ab.own i ds e
   refine ⟨.ref p,h1,h (.ref p) H (Same.refl H) ?_⟩
   show Rep _ _ _ _ _
   exact (h4.weak fun _ z=>z.1).rep h2 h3.2
theorem Qn9 {K:W.Frag} {i:Nat} {σ:St} {H:Hp} {Q:VK} (h:tX K E .S (Qe i) σ H Q):tVar i σ H Q:=by
 obtain ⟨c,δ,rfl,ab,h⟩:=h
 unfold Qe at h
 cases e:δ[i]? with
 | none=>rw [e] at h;exact h.elim
 | some s =>
  rw [e] at h
  cases s with
  | un=>exact h.elim
  | val d =>
   obtain ⟨v,h1,h2⟩:=ab.val i d e
   exact ⟨v,h1,h v H (Same.refl H) h2⟩
  | own ds=>exact h.elim
theorem xv (i:Nat) {x:Str} (hN:X.N[i]? = some x:=by rfl) (hv:Vis X.env.scope x:=by first | exact Or.inl rfl | exact Or.inr (Or.inl rfl) | exact Or.inr (Or.inr rfl)) (hd:(x == ("__debug__":Str))=false:=by decide)
  (hcd:(x == ("__classdict__":Str))=false:=by decide):PE X (.Name x pos) (tX X.K E .W (fVar i)):=PE.imp (pv i hN hv hd hcd) fun _ _ _ h=>Qpw h
theorem xvS (i:Nat) {x:Str} (hN:X.N[i]? = some x:=by rfl) (hv:Vis X.env.scope x:=by first | exact Or.inl rfl | exact Or.inr (Or.inl rfl) | exact Or.inr (Or.inr rfl)) (hd:(x == ("__debug__":Str))=false:=by decide)
  (hcd:(x == ("__classdict__":Str))=false:=by decide):PE X (.Name x pos) (tX X.K E .S (Qe i)):=PE.imp (pv i hN hv hd hcd) fun _ _ _ h=>Qn9 h
theorem rd_c {K:W.Frag} {d:D} {σ:St} {H:Hp} {Q:VK} (hm:notF m=true) (hs:isS d=true) (h:tX K E m (fC d) σ H Q):tC (toV d) σ H Q:=by
 obtain ⟨c,δ,rfl,ab,h⟩:=h
 exact h _ H (Same.refl H) (Post.ofS hm hs)
theorem xint {i j} (hm:notF m=true:=by rfl):PE X (.Constant (.int i) j pos) (tX X.K E m (fC (.int i))):=PE.imp QoV fun _ _ _ h=>rd_c hm rfl h
theorem xbl {i j} (hm:notF m=true:=by rfl):PE X (.Constant (.bool i) j pos) (tX X.K E m (fC (.bl i))):=PE.imp pe_bl fun _ _ _ h=>rd_c hm rfl h
theorem xnon {j} (hm:notF m=true:=by rfl):PE X (.Constant .none j pos) (tX X.K E m (fC .non)):=PE.imp Qpj fun _ _ _ h=>rd_c hm rfl h
theorem xstr {i j} (hm:notF m=true:=by rfl):PE X (.Constant (.str i) j pos) (tX X.K E m (fC (.str i))):=PE.imp Qo7 fun _ _ _ h=>rd_c hm rfl h
theorem toW (h:PE X a (tX X.K E m fa)):PE X a (tX X.K E .W fa):=h.imp fun σ H Q q=>by
 obtain ⟨c,δ,hK,ab,q⟩:=q
 exact ⟨c,δ,hK,ab,q.imp fun d _ k v H' e p=>k v H' e (Post.toW ab e p)⟩
theorem toS (h:PE X a (tX X.K E .F fa)):PE X a (tX X.K E .S fa):=h.imp fun σ H Q q=>by
 obtain ⟨c,δ,hK,ab,q⟩:=q
 exact ⟨c,δ,hK,ab,q.imp fun d _ k v H' e p=>k v H' e (Post.toS ab p)⟩
def fUp (f:Fn):Fn:=fun δ=>(f δ).bind fun d=>if imm d=true then .ok d else .bad
def f2 (g:D->D->Ou D) (fa fb:Fn):Fn:=fun δ=>(fa δ).bind fun x=>(fb δ).bind fun y=>g x y
def OpD (X:Cx) (f:Value->Value->Sem Value) (g:D->D->Ou D):Prop :=
 ∃ r,OpR X f r/\∀ (B:Addr->Prop) (H:Hp) (dx dy:D) (x y:V) (Q:VK),Rep X.K B H dx x->Rep X.K B H dy y->match g dx dy with
  | .ok d=>isS d=true/\(Q (toV d) H->r x y H Q)
  | .ex _=>False
  | .bad=>True
theorem rd_2 {r:R2} {g:D->D->Ou D} {σ:St} {H:Hp} {Q:VK} (hr:∀ (B:Addr->Prop) (H:Hp) (dx dy:D) (x y:V) (Q:VK),Rep X.K B H dx x->Rep X.K B H dy y->match g dx dy with
  | .ok d=>isS d=true/\(Q (toV d) H->r x y H Q)
  | .ex _=>False
  | .bad=>True) (hm:notF m=true) (h:tX X.K E m (f2 g fa fb) σ H Q):tOp r (tX X.K E .W fa) (tX X.K E .W fb) σ H Q:=by
 obtain ⟨c,δ,hK,ab,h⟩:=h
 refine ⟨c,δ,hK,ab,(Res.bind h).imp fun dx _ k x H1 e1 r1=>?_⟩
 refine ⟨c,δ,hK,ab.grow e1,(Res.bind k).imp fun dy _ k y H2 e2 r2=>?_⟩
 have r1':Rep X.K c.B H2 dx x:=by
  have z:Rep c.K c.B H1 dx x:=r1
  rw [hK] at z;exact z.same e2
 have r2':Rep X.K c.B H2 dy y:=by
  have z:Rep c.K c.B H2 dy y:=r2
  rw [hK] at z;exact z
 have q:=hr c.B H2 dx dy x y Q r1' r2'
 cases e:g dx dy with
 | ok d =>
  rw [e] at q k
  exact q.2 (k (toV d) H2 (e1.trans e2) (Post.ofS hm q.1))
 | ex z=>rw [e] at q;exact q.elim
 | bad=>rw [e] at k;exact k.elim
theorem xop {op:Operator} {g:D->D->Ou D} (ho:OpD X (binaryOp op) g) (ha:PE X a (tX X.K E .W fa)) (hb:PE X b (tX X.K E .W fb)) (hm:notF m=true:=by rfl):PE X (.BinOp a op b pos) (tX X.K E m (f2 g fa fb)):=by
 obtain ⟨r,h1,h2⟩:=ho
 exact (QlK h1 ha hb).imp fun σ H Q q=>rd_2 h2 hm q
theorem xcmp {op:CmpOp} {g:D->D->Ou D} (ho:OpD X (compareOp op) g) (ha:PE X a (tX X.K E .W fa)) (hb:PE X b (tX X.K E .W fb)) (hk:behindInMarks op b=false) (hm:notF m=true:=by rfl):PE X (.Compare a [op] [b] pos) (tX X.K E m (f2 g fa fb)):=by
 obtain ⟨r,h1,h2⟩:=ho
 exact (QnD h1 ha hb hk).imp fun σ H Q q=>rd_2 h2 hm q
def gAdd:D->D->Ou D
 | .int i,.int j=>.ok (.int (i + j))
 | .str x,.str y=>if x.length + y.length<=sizeLine then .ok (.str (x++y)) else .bad
 | _,_=>.bad
theorem Q1:OpD X (binaryOp .Add) gAdd:=by
 refine ⟨_,OpR.or Qpq Qjs,fun B H dx dy x y Q rx ry=>?_⟩
 cases dx <;> cases dy <;> simp only [gAdd]
 ·rename_i i j
  simp only [Rep] at rx ry
  subst rx;subst ry
  exact ⟨rfl,fun q=>.inl ⟨i,j,rfl,rfl,q⟩⟩
 ·rename_i i j
  simp only [Rep] at rx ry
  subst rx;subst ry
  by_cases hl:i.length + j.length<=sizeLine
  ·rw [if_pos hl]
   exact ⟨rfl,fun q=>.inr ⟨i,j,rfl,rfl,hl,q⟩⟩
  ·rw [if_neg hl]
   trivial
def tT (K:W.Frag) (E:XK) (f:DS->Ou Bool):TT:=fun σ H Q=>∃ c δ,c.K=K/\Abs c σ δ H/\Res K E c.H₀ (f δ) fun b=>∀ H',Same H H'->Q b H'
def asB:D->Ou Bool
 | .bl b=>.ok b
 | _=>.bad
def Qgj (fa fb:Fn):Fn:=fun δ=>(fa δ).bind fun x=>(asB x).bind fun b=>if b=true then fb δ else .ok (.bl false)
def fOrV (fa fb:Fn):Fn:=fun δ=>(fa δ).bind fun x=>(asB x).bind fun b=>if b=true then .ok (.bl true) else fb δ
def QlW (fa:Fn):Fn:=fun δ=>(fa δ).bind fun x=>(asB x).bind fun b=>.ok (.bl (!b))
theorem Res.asB {K K':W.Frag} {H₀:Hp} {B:Addr->Prop} {H:Hp} {d:D} {v:V} {k:Bool->Prop} (h:Res K E H₀ (asB d) k) (r:Rep K' B H d v):∃ b,d=.bl b/\v=.bl b/\k b:=by
 cases d <;> first | exact h.elim | skip
 rename_i b
 simp only [Rep] at r
 exact ⟨b,rfl,r,h⟩
variable {rest:List Expr}
theorem xone {op} (h:PE X a (tX X.K E m fa)):PE X (.BoolOp op [a] pos) (tX X.K E m fa):=Qpk h
theorem xand (ha:PE X a (tX X.K E .W fa)) (hb:PE X (.BoolOp .And (b::rest) pos) (tX X.K E m fb)) (hm:notF m=true:=by rfl):PE X (.BoolOp .And (a::b::rest) pos) (tX X.K E m (Qgj fa fb)):=(Qpu ha hb).imp fun σ H Q q=>by
 obtain ⟨c,δ,hK,ab,q⟩:=q
 refine ⟨c,δ,hK,ab,(Res.bind q).imp fun dx _ k x H1 e1 r1=>?_⟩
 obtain ⟨z,rfl,rfl,k⟩:=Res.asB (Res.bind k) (show Rep c.K c.B H1 dx x from r1)
 refine ⟨z,rfl,?_⟩
 cases z with
 | true=>exact ⟨c,δ,hK,ab.grow e1,k.imp fun d _ k v H' e p=>k v H' (e1.trans e) (by
   cases m with
   | W=>exact p
   | S=>exact p
   | F=>simp [notF] at hm)⟩
 | false=>exact k _ H1 e1 (Post.ofS hm rfl)
theorem xnot (ha:PE X a (tX X.K E .W fa)) (hm:notF m=true:=by rfl):PE X (.UnaryOp .Not a pos) (tX X.K E m (QlW fa)):=(Qo0 ha).imp fun σ H Q q=>by
 obtain ⟨c,δ,hK,ab,q⟩:=q
 refine ⟨c,δ,hK,ab,(Res.bind q).imp fun dx _ k x H1 e1 r1=>?_⟩
 obtain ⟨z,rfl,rfl,k⟩:=Res.asB (Res.bind k) (show Rep c.K c.B H1 dx x from r1)
 exact ⟨z,rfl,k _ H1 e1 (Post.ofS hm rfl)⟩
def truD:D->Ou Bool
 | .non=>.ok false
 | .bl b=>.ok b
 | .int i=>.ok (i != 0)
 | .str y=>if y.length<=sizeLine then .ok ((y.length:Int) != 0) else .bad
 | .tup ds=>.ok (!ds.isEmpty)
 | .lst ds=>.ok (!ds.isEmpty)
 | .frl ds=>.ok (!ds.isEmpty)
 | .dic _ _=>.bad
 | .obj _=>.bad
 | .dip _ _=>.bad
 | .exc _ _ _=>.bad
def fTru (fa:Fn):DS->Ou Bool:=fun δ=>(fa δ).bind truD
def fAsB (fa:Fn):DS->Ou Bool:=fun δ=>(fa δ).bind asB
theorem QfV {K:W.Frag} {B:Addr->Prop} {H:Hp} {ds:List D} {xs:List V} (r:Reps K B H ds xs):(!ds.isEmpty)=!xs.isEmpty:=by
 have h:=r.length
 cases ds <;> cases xs <;> simp at h ⊢
theorem Qpa {K:W.Frag} {H₀:Hp} {B:Addr->Prop} {H:Hp} {d:D} {v:V} {k:Bool->Prop} (h:Res K E H₀ (truD d) k) (r:Rep K B H d v):∃ b,TruV K v H b/\k b:=by
 cases d <;> simp only [Rep] at r
 ·subst r;exact ⟨_,rfl,h⟩
 ·subst r;exact ⟨_,rfl,h⟩
 ·subst r;exact ⟨_,rfl,h⟩
 ·subst r
  rename_i y
  simp only [truD] at h
  by_cases hl:y.length<=sizeLine
  ·rw [if_pos hl] at h;exact ⟨_,⟨hl,rfl⟩,h⟩
  ·rw [if_neg hl] at h;exact h.elim
 ·obtain ⟨a,xs,rfl,h1,h2⟩:=r
  exact ⟨_,.inr (.inl ⟨xs,h1,rfl⟩),by rw [← QfV h2];exact h⟩
 ·obtain ⟨a,xs,rfl,hb,h1,h2⟩:=r
  exact ⟨_,.inl ⟨xs,.of h1,rfl⟩,by rw [← QfV h2];exact h⟩
 ·obtain ⟨a,xs,rfl,h1,h2⟩:=r
  exact ⟨_,.inl ⟨xs,h1.sq,rfl⟩,by rw [← QfV h2];exact h⟩
 ·exact h.elim
 ·exact h.elim
 ·exact h.elim
 ·exact h.elim
theorem xt (ha:PE X a (tX X.K E .W fa)) (he:∀ whole,isTrue a X.env whole=(do let v ← whole;standAt a.pos;holding [v] (truthy v)):=by intro _;rfl):PT X a (tT X.K E (fTru fa)):=(Qm7 ha he).imp fun σ H Q q=>by
 obtain ⟨c,δ,hK,ab,q⟩:=q
 refine ⟨c,δ,hK,ab,(Res.bind q).imp fun dx _ k x H1 e1 r1=>?_⟩
 obtain ⟨z,h1,h2⟩:=Qpa k (show Rep X.K c.B H1 dx x by rw [← hK];exact r1)
 exact ⟨z,h1,h2 H1 e1⟩
theorem Qn {op:CmpOp} {g:D->D->Ou D} (ho:OpD X (compareOp op) g) (ha:PE X a (tX X.K E .W fa)) (hb:PE X b (tX X.K E .W fb)) (hk:behindInMarks op b=false):PT X (.Compare a [op] [b] pos) (tT X.K E (fAsB (f2 g fa fb))):=by
 obtain ⟨r,h1,h2⟩:=ho
 refine (QnV h1 ha hb hk).imp fun σ H Q q=>?_
 refine rd_2 (m:=.W) (E:=E) (fa:=fa) (fb:=fb) h2 rfl ?_
 obtain ⟨c,δ,hK,ab,q⟩:=q
 refine ⟨c,δ,hK,ab,(Res.bind q).imp fun d _ k v H' e p=>?_⟩
 obtain ⟨z,rfl,rfl,k⟩:=Res.asB k (show Rep c.K c.B H' d v from p)
 exact ⟨z,rfl,k H' e⟩
variable {ga gb:DS->Ou Bool}
def Qbp (ga gb:DS->Ou Bool):DS->Ou Bool:=fun δ=>(ga δ).bind fun b=>if b=true then gb δ else .ok false
def fOrT (ga gb:DS->Ou Bool):DS->Ou Bool:=fun δ=>(ga δ).bind fun b=>if b=true then .ok true else gb δ
def Qeq (ga:DS->Ou Bool):DS->Ou Bool:=fun δ=>(ga δ).bind fun b=>.ok (!b)
theorem QcX (ha:PT X a (tT X.K E ga)):PW X (.BoolOp .And [a] pos) (tT X.K E ga):=QnG ha
theorem Qjo (ha:PT X a (tT X.K E ga)):PW X (.BoolOp .Or [a] pos) (tT X.K E ga):=Qpv ha
theorem Qdn (ha:PT X a (tT X.K E ga)) (hb:PW X (.BoolOp .And (b::rest) pos) (tT X.K E gb)):PW X (.BoolOp .And (a::b::rest) pos) (tT X.K E (Qbp ga gb)):=(QoQ ha hb).imp fun σ H Q q=>by
 obtain ⟨c,δ,hK,ab,q⟩:=q
 refine ⟨c,δ,hK,ab,(Res.bind q).imp fun z _ k H1 e1=>?_⟩
 cases z with
 | true=>exact ⟨c,δ,hK,ab.grow e1,k.imp fun d _ k H' e=>k H' (e1.trans e)⟩
 | false=>exact k H1 e1
theorem QlS (ha:PT X a (tT X.K E ga)) (hb:PW X (.BoolOp .Or (b::rest) pos) (tT X.K E gb)):PW X (.BoolOp .Or (a::b::rest) pos) (tT X.K E (fOrT ga gb)):=(pw_or ha hb).imp fun σ H Q q=>by
 obtain ⟨c,δ,hK,ab,q⟩:=q
 refine ⟨c,δ,hK,ab,(Res.bind q).imp fun z _ k H1 e1=>?_⟩
 cases z with
 | false=>exact ⟨c,δ,hK,ab.grow e1,k.imp fun d _ k H' e=>k H' (e1.trans e)⟩
 | true=>exact k H1 e1
theorem QjC (ha:PT X a (tT X.K E ga)):PT X (.UnaryOp .Not a pos) (tT X.K E (Qeq ga)):=(QpV ha).imp fun σ H Q q=>by
 obtain ⟨c,δ,hK,ab,q⟩:=q
 exact ⟨c,δ,hK,ab,(Res.bind q).imp fun z _ k H1 e1=>k H1 e1⟩
def fIfE (gc:DS->Ou Bool) (fa fb:Fn):Fn:=fun δ=>(gc δ).bind fun b=>if b=true then fa δ else fb δ
theorem Post.early {c:Cn} {σ:St} {δ:DS} {H H1 H':Hp} {d:D} {v:V} (e:Same H H1) (p:Post c σ δ H1 m d v H'):Post c σ δ H m d v H':=by
 cases m with
 | W=>exact p
 | S=>exact p
 | F =>
  obtain ⟨p,xs,rfl,h1,h2,h3⟩:=p
  exact ⟨p,xs,rfl,e.free h1,h2,h3⟩
theorem xife {t:Expr} (hc:PT X t (tT X.K E ga)) (ha:PE X a (tX X.K E m fa)) (hb:PE X b (tX X.K E m fb)):PE X (.IfExp t a b pos) (tX X.K E m (fIfE ga fa fb)):=(QlT hc ha hb).imp fun σ H Q q=>by
 obtain ⟨c,δ,hK,ab,q⟩:=q
 refine ⟨c,δ,hK,ab,(Res.bind q).imp fun z _ k H1 e1=>?_⟩
 cases z with
 | true=>exact ⟨c,δ,hK,ab.grow e1,k.imp fun d _ k v H' e p=>k v H' (e1.trans e) (p.early e1)⟩
 | false=>exact ⟨c,δ,hK,ab.grow e1,k.imp fun d _ k v H' e p=>k v H' (e1.trans e) (p.early e1)⟩
def BOf (c:Cn) (σ:St) (δ:DS):Md->Addr->Prop
 | .W=>c.B
 | _=>Av c σ δ
def Qaq:List Fn->DS->Ou (List D)
 | [],_=>.ok []
 | f::fs,δ=>(f δ).bind fun d=>(Qaq fs δ).bind fun ds=>.ok (d::ds)
def tXA (K:W.Frag) (E:XK) (m:Md) (fs:List Fn):TA:=fun σ H Q=>∃ c δ,c.K=K/\Abs c σ δ H/\Res K E c.H₀ (Qaq fs δ) fun ds=>∀ vs H',Same H H'->Reps c.K (BOf c σ δ m) H' ds vs->Q vs H'
variable {es:List Expr} {fs:List Fn} {e:Expr} {fe:Fn}
theorem Qc:PA X [] (tXA X.K E m []):=pa_nil.imp fun σ H Q q=>by
 obtain ⟨c,δ,hK,ab,q⟩:=q
 exact q [] H (Same.refl H) (by simp [Reps])
theorem Post.bOf {c:Cn} {σ:St} {δ:DS} {H H':Hp} {d:D} {v:V} (hm:notF m=true) (p:Post c σ δ H m d v H'):Rep c.K (BOf c σ δ m) H' d v:=by
 cases m with
 | W=>exact p
 | S=>exact p
 | F=>simp [notF] at hm
theorem Qa (ha:PE X e (tX X.K E m fe)) (hr:PA X es (tXA X.K E m fs)) (hs:starEach (e::es) X.env=(false,eval e X.env)::starEach es X.env:=by rfl) (hm:notF m=true:=by rfl):PA X (e::es) (tXA X.K E m (fe::fs)):=(Qae ha hr hs).imp fun σ H Q q=>by
 obtain ⟨c,δ,hK,ab,q⟩:=q
 refine ⟨c,δ,hK,ab,(Res.bind q).imp fun d _ k v H1 e1 r1=>?_⟩
 refine ⟨c,δ,hK,ab.grow e1,(Res.bind k).imp fun ds _ k vs H2 e2 r2=>?_⟩
 refine k (v::vs) H2 (e1.trans e2) ?_
 simp only [Reps]
 exact ⟨v,vs,rfl,(Post.bOf hm r1).same e2,r2⟩
theorem Qax:∀ {fs:List Fn} {δ:DS} {ds:List D},Qaq fs δ=.ok ds->ds.length=fs.length
 | [],δ,ds,h=>by simp only [Qaq] at h;cases h;rfl
 | f::fs,δ,ds,h=>by
  simp only [Qaq] at h
  cases e:f δ with
  | ok d =>
   rw [e] at h
   cases e2:Qaq fs δ with
   | ok r=>rw [e2] at h;simp only [Qau] at h;cases h;simp [Qax e2]
   | ex z=>rw [e2] at h;simp at h
   | bad=>rw [e2] at h;simp at h
  | ex z=>rw [e] at h;simp at h
  | bad=>rw [e] at h;simp at h
def fTup (fs:List Fn):Fn:=fun δ=>(Qaq fs δ).bind fun ds=>.ok (.tup ds)
def fLst (fs:List Fn):Fn:=fun δ=>(Qaq fs δ).bind fun ds=>.ok (.lst ds)
theorem Qp {H:Hp} {p:Addr} (h:H p=none) (o:HO):Same H (upd H p o):=fun b u q=>by rw [Ql (QQ q h)];exact q
theorem xtup {x1} (h:PA X es (tXA X.K E m fs)) (hl:fs.length<=sizeLine:=by decide) (hm:notF m=true:=by rfl):PE X (.Tuple es x1 pos) (tX X.K E m (fTup fs)):=(QoW h).imp fun σ H Q q=>by
 obtain ⟨c,δ,hK,ab,q⟩:=q
 refine ⟨c,δ,hK,ab,(Res.bind q).imp fun ds hds k vs H1 e1 r1=>⟨by rw [r1.length,Qax hds];exact hl,fun p hp=>?_⟩⟩
 refine k (.ref p) _ (e1.trans (Qp hp _)) ?_
 have r2:Rep c.K (BOf c σ δ m) (upd H1 p (.tup vs)) (.tup ds) (.ref p):=by
  simp only [Rep]
  exact ⟨p,vs,rfl,.inl (.inl Qm),r1.same (Qp hp _)⟩
 cases m with
 | W=>exact r2
 | S=>exact r2
 | F=>simp [notF] at hm
theorem Reps.off {K:W.Frag} {B:Addr->Prop} {H:Hp} {ds:List D} {vs:List V} {p:Addr} (r:Reps K B H ds vs) (hp:H p=none):Reps K (fun a=>B a/\a≠p) H ds vs :=
 Reps.mono (fun a o h z=>⟨h,fun e=>by subst e;rw [hp] at z;cases z⟩) (.of_same (Same.refl H)) ds vs r
theorem xlst (h:PA X es (tXA X.K E .S fs)) (hl:fs.length<=sizeLine:=by decide):PE X (.List es pos) (tX X.K E .F (fLst fs)):=(Qpc h).imp fun σ H Q q=>by
 obtain ⟨c,δ,hK,ab,q⟩:=q
 refine ⟨c,δ,hK,ab,(Res.bind q).imp fun ds hds k vs H1 e1 r1=>⟨by rw [r1.length,Qax hds];exact hl,fun p hp=>?_⟩⟩
 exact k (.ref p) _ (e1.trans (Qp hp _)) ⟨p,_,rfl,e1.free hp,Qm,vs,rfl,(Reps.off r1 hp).same (Qp hp _)⟩
def gIx:D->D->Ou D
 | .tup ds,.int i=>match atI ds i with
  | some d=>.ok d
  | none=>.bad
 | .lst ds,.int i=>match atI ds i with
  | some d=>.ok d
  | none=>.bad
 | .frl ds,.int i=>match atI ds i with
  | some d=>.ok d
  | none=>.bad
 | .str z,.int i=>if z.length<=sizeLine then (match atI z.cps.toList i with
  | some c=>.ok (.str ⟨#[c]⟩)
  | none=>.bad) else .bad
 | _,_=>.bad
theorem Reps.at {K:W.Frag} {B:Addr->Prop} {H:Hp} {ds:List D} {vs:List V} {i:Int} {d:D} (r:Reps K B H ds vs) (h:atI ds i=some d):∃ v,atI vs i=some v/\Rep K B H d v:=by
 unfold atI at h ⊢
 rw [r.length]
 cases e:ixN ds.length i with
 | none=>rw [e] at h;cases h
 | some j =>
  rw [e] at h
  exact r.get j d h
theorem rd_ix {K:W.Frag} {H₀:Hp} {B:Addr->Prop} {H:Hp} {dx dy:D} {x y:V} {Q:VK} (rx:Rep K B H dx x) (ry:Rep K B H dy y) (h:Res K E H₀ (gIx dx dy) fun d=>∀ v,Rep K B H d v->Q v H):rIx K x y H Q:=by
 cases dy <;> first | (cases dx <;> exact h.elim) | skip
 rename_i i
 simp only [Rep] at ry
 subst ry
 cases dx <;> first | exact h.elim | skip
 ·rename_i z
  simp only [Rep] at rx
  subst rx
  simp only [gIx] at h
  by_cases hl:z.length<=sizeLine
  ·rw [if_pos hl] at h
   cases e:atI z.cps.toList i with
   | none=>rw [e] at h;exact h.elim
   | some ch=>rw [e] at h;exact .inr (.inr ⟨z,i,ch,rfl,rfl,hl,e,h _ (by simp [Rep])⟩)
  ·rw [if_neg hl] at h;exact h.elim
 ·rename_i ds
  simp only [Rep] at rx
  obtain ⟨a,xs,rfl,h1,h2⟩:=rx
  simp only [gIx] at h
  cases e:atI ds i with
  | none=>simp only [e] at h;exact h.elim
  | some d =>
   simp only [e] at h
   obtain ⟨v,e2,r2⟩:=h2.at e
   exact .inr (.inl ⟨a,xs,i,v,rfl,rfl,h1,e2,h v r2⟩)
 ·rename_i ds
  simp only [Rep] at rx
  obtain ⟨a,xs,rfl,hb,h1,h2⟩:=rx
  simp only [gIx] at h
  cases e:atI ds i with
  | none=>simp only [e] at h;exact h.elim
  | some d =>
   simp only [e] at h
   obtain ⟨v,e2,r2⟩:=h2.at e
   exact .inl ⟨a,xs,i,v,rfl,rfl,.of h1,e2,h v r2⟩
 ·rename_i ds
  simp only [Rep] at rx
  obtain ⟨a,xs,rfl,h1,h2⟩:=rx
  simp only [gIx] at h
  cases e:atI ds i with
  | none=>simp only [e] at h;exact h.elim
  | some d =>
   simp only [e] at h
   obtain ⟨v,e2,r2⟩:=h2.at e
   exact .inl ⟨a,xs,i,v,rfl,rfl,h1.sq,e2,h v r2⟩
theorem xix (ha:PE X a (tX X.K E m fa)) (hb:PE X b (tX X.K E .W fb)) (hs:Qhi b:=by exact fun _ _=>rfl) (hm:notF m=true:=by rfl):PE X (.Subscript a b pos) (tX X.K E m (f2 gIx fa fb)):=(Qon Ql8 ha hb hs).imp fun σ H Q q=>by
 obtain ⟨c,δ,hK,ab,q⟩:=q
 refine ⟨c,δ,hK,ab,(Res.bind q).imp fun dx _ k x H1 e1 r1=>?_⟩
 refine ⟨c,δ,hK,ab.grow e1,(Res.bind k).imp fun dy hy k y H2 e2 r2=>?_⟩
 have z1:Rep X.K (BOf c σ δ m) H2 dx x:=by rw [← hK];exact (Post.bOf hm r1).same e2
 by_cases hd:∃ i,dy=.int i
 ·obtain ⟨i,rfl⟩:=hd
  have z2:Rep X.K (BOf c σ δ m) H2 (.int i) y:=by
   have z:Rep c.K c.B H2 (.int i) y:=r2
   simp only [Rep] at z ⊢;exact z
  refine rd_ix z1 z2 (k.imp fun d _ k v r=>k v H2 (e1.trans e2) ?_)
  rw [← hK] at r
  cases m with
  | W=>exact r
  | S=>exact r
  | F=>simp [notF] at hm
 ·exfalso
  have:gIx dx dy=.bad:=by
   cases dy <;> first | (cases dx <;> rfl) | exact absurd ⟨_,rfl⟩ hd
  rw [this] at k
  exact k
def fIxO (i:Nat) (fb:Fn):Fn:=fun δ=>match δ[i]? with
 | some (.own (.lst ds))=>(fb δ).bind fun y=>gIx (.lst ds) y
 | _=>.bad
theorem xixO (i:Nat) {x:Str} {px:Pos} (hb:PE X b (tX X.K E .W fb)) (hN:X.N[i]? = some x:=by rfl) (hv:Vis X.env.scope x:=by first | exact Or.inl rfl | exact Or.inr (Or.inl rfl) | exact Or.inr (Or.inr rfl)) (hd:(x == ("__debug__":Str))=false:=by decide)
  (hcd:(x == ("__classdict__":Str))=false:=by decide) (hs:Qhi b:=by exact fun _ _=>rfl):PE X (.Subscript (.Name x px) b pos) (tX X.K E .S (fIxO i fb)):=(Qon Ql8 (pv i hN hv hd hcd) hb hs).imp fun σ H Q q=>by
 obtain ⟨c,δ,hK,ab,q⟩:=q
 unfold fIxO at q
 cases e:δ[i]? with
 | none=>rw [e] at q;exact q.elim
 | some s =>
  rw [e] at q
  cases s with
  | un=>exact q.elim
  | val d=>exact q.elim
  | own d =>
   cases d <;> first | exact q.elim | skip
   rename_i ds
   obtain ⟨p,o,h1,h2,h3,xs,rfl,h4⟩:=ab.own i _ e
   refine ⟨.ref p,h1,c,δ,hK,ab,(Res.bind q).imp fun dy _ k y H2 e2 r2=>?_⟩
   by_cases hdy:∃ i,dy=.int i
   ·obtain ⟨j,rfl⟩:=hdy
    have z:Rep c.K c.B H2 (.int j) y:=r2
    simp only [Rep] at z
    subst z
    simp only [gIx] at k
    cases e3:atI ds j with
    | none=>simp only [e3] at k;exact k.elim
    | some d =>
     simp only [e3] at k
     obtain ⟨v,e4,r4⟩:=(h4.same e2).at e3
     exact .inl ⟨p,xs,j,v,rfl,rfl,.inl (.inl (e2 _ _ h2)),e4,k v H2 e2 r4⟩
   ·exfalso
    have:gIx (.lst ds) dy=.bad:=by
     cases dy <;> first | rfl | exact absurd ⟨_,rfl⟩ hdy
    rw [this] at k
    exact k
inductive Fl where
 | nx (δ:DS) | rt (d:D) | bk (δ:DS) | ct (δ:DS)
abbrev Sm:=DS->Ou Fl
structure Rm where
 new:Bool
 pin:Option Nat
instance:Coe Bool Rm:=⟨fun b=>⟨b,none⟩⟩
def RtP (K:W.Frag) (B:Addr->Prop) (H₀:Hp) (fr:Bool) (d:D) (v:V) (H':Hp):Prop :=
 match fr with
 | true=>∃ p xs,v=.ref p/\H₀ p=none/\H' p=some xs/\RepO K (fun a=>B a/\a≠p) H' d xs
 | false=>Rep K B H' d v
def RtM (c:Cn) (fr:Rm) (d:D) (v:V) (H':Hp):Prop :=
 match c.P with
 | none=>RtP c.K c.B c.H₀ fr.new d v H'
 | some (_,p)=>∃ dv dO o,d=.tup [dv,dO]/\Rep c.K (fun a=>c.B a/\a≠p) H' dv v/\H' p=some o/\RepO c.K (fun a=>c.B a/\a≠p) H' dO o
def EndP (c:Cn) (fr:Rm) (D:Ends):Fl->Prop
 | .nx δ'=>∀ σ' H',Abs c σ' δ' H'->D.nx σ' H'
 | .bk δ'=>∀ σ' H',Abs c σ' δ' H'->D.bk σ' H'
 | .ct δ'=>∀ σ' H',Abs c σ' δ' H'->D.ct σ' H'
 | .rt d=>∀ v H',Same c.H₀ H'->RtM c fr d v H'->D.rt v H'
structure AbsF (rm:Rm) (c:Cn) (σ:St) (δ:DS) (H:Hp):Prop extends Abs c σ δ H where
 pi:c.P.map (·.1)=rm.pin
instance {fr:Rm} {c:Cn} {σ:St} {δ:DS} {H:Hp}:CoeOut (AbsF fr c σ δ H) (Abs c σ δ H):=⟨AbsF.toAbs⟩
def tS (K:W.Frag) (E:XK) (fr:Rm) (F:Sm):TS:=fun D σ H=>∃ c δ,c.K=K/\AbsF fr c σ δ H/\Res K E c.H₀ (F δ) (EndP c fr D)
theorem AbsF.none {fr:Rm} {c:Cn} {σ:St} {δ:DS} {H:Hp} (a:AbsF fr c σ δ H) (h:fr.pin=Option.none):c.P=Option.none:=by
 have:=a.pi
 rw [h] at this
 cases e:c.P with
 | none=>rfl
 | some x=>rw [e] at this;cases this
theorem AbsF.ne {fr:Rm} {c:Cn} {σ:St} {δ:DS} {H:Hp} (a:AbsF fr c σ δ H) {i:Nat} (h:fr.pin≠some i) (q:Addr):c.P≠some (i,q):=fun z=>h (by rw [← a.pi,z];rfl)
theorem RtM.of {c:Cn} {fr:Rm} {d:D} {v:V} {H':Hp} (h:c.P=Option.none) (r:RtP c.K c.B c.H₀ fr.new d v H'):RtM c fr d v H':=by
 unfold RtM;rw [h];exact r
variable {fr:Rm} {F G:Sm} {st:Stmt} {sts:List Stmt}
def Qb:Sm:=fun δ=>.ok (.nx δ)
def sSeq (F G:Sm):Sm:=fun δ=>(F δ).bind fun r=>match r with
 | .nx δ'=>G δ'
 | r=>.ok r
def sIf (gc:DS->Ou Bool) (F G:Sm):Sm:=fun δ=>(gc δ).bind fun b=>if b=true then F δ else G δ
def Qps:Sm:=fun δ=>.ok (.bk δ)
def sCont:Sm:=fun δ=>.ok (.ct δ)
def sRet (f:Fn):Sm:=fun δ=>(f δ).bind fun d=>.ok (.rt d)
def sDrop (f:Fn):Sm:=fun δ=>(f δ).bind fun _=>.ok (.nx δ)
theorem Qd:PSs X [] (tS X.K E fr Qb):=pss_nil.imp fun D σ H q=>by
 obtain ⟨c,δ,hK,ab,q⟩:=q
 exact q σ H ab
theorem QdI (h1:PS X st (tS X.K E fr F)) (h2:PSs X sts (tS X.K E fr G)):PSs X (st::sts) (tS X.K E fr (sSeq F G)):=(Qfh h1 h2).imp fun D σ H q=>by
 obtain ⟨c,δ,hK,ab,q⟩:=q
 refine ⟨c,δ,hK,ab,(Res.bind q).imp fun r _ k=>?_⟩
 cases r with
 | nx δ'=>exact fun σ' H' ab'=>⟨c,δ',hK,⟨ab',ab.pi⟩,k⟩
 | rt d=>exact k
 | bk δ'=>exact k
 | ct δ'=>exact k
theorem Qt {t:Expr} {sa sb:List Stmt} (hc:PT X t (tT X.K E ga)) (ha:PSs X sa (tS X.K E fr F)) (hb:PSs X sb (tS X.K E fr G)):PS X (.If t sa sb pos) (tS X.K E fr (sIf ga F G)):=(Qot hc ha hb).imp fun D σ H q=>by
 obtain ⟨c,δ,hK,ab,q⟩:=q
 refine ⟨c,δ,hK,ab,(Res.bind q).imp fun z _ k H1 e1=>?_⟩
 cases z with
 | true=>exact ⟨c,δ,hK,⟨ab.grow e1,ab.pi⟩,k⟩
 | false=>exact ⟨c,δ,hK,⟨ab.grow e1,ab.pi⟩,k⟩
theorem Qh (h:PE X e (tX X.K E .W fe)):PS X (.Return (some e) pos) (tS X.K E false (sRet fe)):=(QjB h).imp fun D σ H q=>by
 obtain ⟨c,δ,hK,ab,q⟩:=q
 exact ⟨c,δ,hK,ab,(Res.bind q).imp fun d _ k v H1 e1 r1=>k v H1 (ab.same.trans e1) (.of (ab.none rfl) r1)⟩
def QjR (i:Nat):Sm:=fun δ=>match δ[i]? with
 | some (.own ds)=>.ok (.rt ds)
 | _=>.bad
theorem Qn8 (i:Nat) {x:Str} {px:Pos} (hN:X.N[i]? = some x:=by rfl) (hv:Vis X.env.scope x:=by first | exact Or.inl rfl | exact Or.inr (Or.inl rfl) | exact Or.inr (Or.inr rfl)) (hd:(x == ("__debug__":Str))=false:=by decide)
  (hcd:(x == ("__classdict__":Str))=false:=by decide):PS X (.Return (some (.Name x px)) pos) (tS X.K E true (QjR i)):=(QjB (pv i hN hv hd hcd)).imp fun D σ H q=>by
 obtain ⟨c,δ,hK,ab,q⟩:=q
 unfold QjR at q
 cases e:δ[i]? with
 | none=>rw [e] at q;exact q.elim
 | some s =>
  rw [e] at q
  cases s with
  | un=>exact q.elim
  | val d=>exact q.elim
  | own ds =>
   obtain ⟨p,xs,h1,h2,h3,h4⟩:=ab.own i ds e
   refine ⟨.ref p,h1,q (.ref p) H ab.same (.of (ab.none rfl) ⟨p,xs,rfl,h3.1,h2,h4.weak fun a z=>⟨z.1,fun w=>z.2 ⟨i,ds,e,by rw [w];exact h1⟩⟩⟩)⟩
theorem Qv {α:Type} {l:List α} {i j:Nat} {x y:α} (h:(l.set i x)[j]? = some y):(j=i/\y=x/\i < l.length)\/(j≠i/\l[j]? = some y):=by
 rw [List.getElem?_set] at h
 by_cases e:i=j
 ·rw [if_pos e] at h
  by_cases hl:i < l.length
  ·rw [if_pos hl] at h
   exact .inl ⟨e.symm,(Option.some.inj h).symm,hl⟩
  ·rw [if_neg hl] at h;cases h
 ·rw [if_neg e] at h
  exact .inr ⟨fun z=>e z.symm,h⟩
theorem Qa5 {α:Type} {l:List α} {i j:Nat} {x:α} (h:j≠i):(l.set i x)[j]? = l[j]?:=by
 rw [List.getElem?_set,if_neg fun z=>h z.symm]
theorem QmE {α:Type} {l:List α} {i:Nat} {x:α} (h:i < l.length):(l.set i x)[i]? = some x:=by
 rw [List.getElem?_set,if_pos rfl,if_pos h]
theorem Qes {σ:St} {δ:DS} {i:Nat} {v:V} {d:D} {q:Addr} (o:Own (σ.set i (some v)) (δ.set i (.val d)) q):Own σ δ q:=by
 obtain ⟨j,ds,h1,h2⟩:=o
 rcases Qv h1 with ⟨_,z,_⟩ | ⟨ne,h1⟩
 ·cases z
 ·rw [Qa5 ne] at h2
  exact ⟨j,ds,h1,h2⟩
theorem Abs.set_val {c:Cn} {σ:St} {δ:DS} {H H':Hp} {i:Nat} {d:D} {v:V} (a:Abs c σ δ H) (e:Same H H') (r:Rep c.K (Av c σ δ) H' d v):Abs c (σ.set i (some v)) (δ.set i (.val d)) H':=by
 have av:∀ q,Av c σ δ q->Av c (σ.set i (some v)) (δ.set i (.val d)) q:=fun q h=>⟨h.1,fun o=>h.2 (Qes o)⟩
 refine ⟨a.same.trans e,fun b h=>a.fr b (e.free h),by rw [List.length_set,List.length_set];exact a.len,fun j d' h=>?_,fun j ds h=>?_,fun d' v' h=>?_,fun j k dj dk p h1 h2 h3 h4=>?_,fun j p hP d' h=>?_⟩
 ·rcases Qv h with ⟨rfl,z,hl⟩ | ⟨ne,h⟩
  ·cases z
   exact ⟨v,QmE (by rw [← a.len];exact hl),r.weak av⟩
  ·obtain ⟨u,h1,h2⟩:=a.val j d' h
   exact ⟨u,by rw [Qa5 ne];exact h1,(h2.same e).weak av⟩
 ·rcases Qv h with ⟨rfl,z,hl⟩ | ⟨ne,h⟩
  ·cases z
  ·obtain ⟨p,xs,h1,h2,h3,h4⟩:=a.own j ds h
   exact ⟨p,xs,by rw [Qa5 ne];exact h1,e _ _ h2,h3,(h4.same e).weak av⟩
 ·exact ((a.gho d' v' h).same e).weak av
 ·rcases Qv h1 with ⟨_,z,_⟩ | ⟨n1,h1⟩
  ·cases z
  rcases Qv h2 with ⟨_,z,_⟩ | ⟨n2,h2⟩
  ·cases z
  rw [Qa5 n1] at h3
  rw [Qa5 n2] at h4
  exact a.inj j k dj dk p h1 h2 h3 h4
 ·rcases Qv h with ⟨_,z,_⟩ | ⟨ne,h⟩
  ·cases z
  ·rw [Qa5 ne];exact a.pin j p hP d' h
theorem QiK {σ:St} {δ:DS} {i:Nat} {p:Addr} {ds:D} {q:Addr} (o:Own (σ.set i (some (.ref p))) (δ.set i (.own ds)) q):Own σ δ q\/q=p:=by
 obtain ⟨j,es,h1,h2⟩:=o
 rcases Qv h1 with ⟨rfl,z,_⟩ | ⟨ne,h1⟩
 ·rcases Qv h2 with ⟨_,z2,_⟩ | ⟨n2,_⟩
  ·cases z2;exact .inr rfl
  ·exact absurd rfl n2
 ·rw [Qa5 ne] at h2
  exact .inl ⟨j,es,h1,h2⟩
theorem Abs.set_own {c:Cn} {σ:St} {δ:DS} {H H':Hp} {i:Nat} {ds:D} {p:Addr} {xs:HO} (a:Abs c σ δ H) (e:Same H H') (hp:H p=none) (h':H' p=some xs) (r:RepO c.K (fun q=>Av c σ δ q/\q≠p) H' ds xs) (hj:∀ q,c.P≠some (i,q)) :
  Abs c (σ.set i (some (.ref p))) (δ.set i (.own ds)) H':=by
 have av:∀ q,Av c σ δ q/\q≠p->Av c (σ.set i (some (.ref p))) (δ.set i (.own ds)) q:=fun q h=>⟨h.1.1,fun o=>(QiK o).elim h.1.2 h.2⟩
 have avH:∀ (q:Addr) (o:HO),Av c σ δ q->H q=some o->Av c (σ.set i (some (.ref p))) (δ.set i (.own ds)) q:=fun q o h z=>av q ⟨h,QQ z hp⟩
 have up:∀ d v,Rep c.K (Av c σ δ) H d v->Rep c.K (Av c (σ.set i (some (.ref p))) (δ.set i (.own ds))) H' d v:=fun d v h=>Rep.mono avH (.of_same e) d v h
 have ups:∀ d v,RepO c.K (Av c σ δ) H d v->RepO c.K (Av c (σ.set i (some (.ref p))) (δ.set i (.own ds))) H' d v:=fun d v h=>RepO.mono avH (.of_same e) h
 have no:∀ (j:Nat) dj,δ[j]? = some (Sl.own dj)->σ[j]? = some (some (.ref p))->False:=fun j dj h1 h2=>by
  obtain ⟨p',ys,h3,h4,_⟩:=a.own j dj h1
  rw [h2] at h3;cases h3
  rw [hp] at h4;cases h4
 refine ⟨a.same.trans e,fun b h=>a.fr b (e.free h),by rw [List.length_set,List.length_set];exact a.len,fun j d' h=>?_,fun j es h=>?_,fun d' v' h=>up _ _ (a.gho d' v' h),fun j k dj dk q h1 h2 h3 h4=>?_,fun j q hP d' h=>?_⟩
 ·rcases Qv h with ⟨rfl,z,hl⟩ | ⟨ne,h⟩
  ·cases z
  ·obtain ⟨u,h1,h2⟩:=a.val j d' h
   exact ⟨u,by rw [Qa5 ne];exact h1,up _ _ h2⟩
 ·rcases Qv h with ⟨rfl,z,hl⟩ | ⟨ne,h⟩
  ·cases z
   exact ⟨p,xs,QmE (by rw [← a.len];exact hl),h',⟨a.same.free hp,a.fr p hp⟩,r.weak av⟩
  ·obtain ⟨q,ys,h1,h2,h3,h4⟩:=a.own j es h
   exact ⟨q,ys,by rw [Qa5 ne];exact h1,e _ _ h2,h3,ups _ _ h4⟩
 ·rcases Qv h1 with ⟨e1,_,_⟩ | ⟨n1,h1⟩
  ·rcases Qv h2 with ⟨e2,_,_⟩ | ⟨n2,h2⟩
   ·rw [e1,e2]
   ·subst e1
    rcases Qv h3 with ⟨_,z,_⟩ | ⟨n3,_⟩
    ·cases z
     rw [Qa5 n2] at h4
     exact (no k dk (by assumption) h4).elim
    ·exact absurd rfl n3
  ·rw [Qa5 n1] at h3
   rcases Qv h2 with ⟨e2,_,_⟩ | ⟨n2,h2⟩
   ·subst e2
    rcases Qv h4 with ⟨_,z,_⟩ | ⟨n3,_⟩
    ·cases z
     exact (no j dj (by assumption) h3).elim
    ·exact absurd rfl n3
   ·rw [Qa5 n2] at h4
    exact a.inj j k dj dk q h1 h2 h3 h4
 ·rcases Qv h with ⟨rfl,_,_⟩ | ⟨ne,h⟩
  ·exact absurd hP (hj q)
  ·rw [Qa5 ne];exact a.pin j q hP d' h
theorem Abs.mut {c:Cn} {σ:St} {δ:DS} {H:Hp} {i:Nat} {ds ds':D} {p:Addr} {xs':HO} (a:Abs c σ δ H) (h:δ[i]? = some (Sl.own ds)) (hs:σ[i]? = some (some (V.ref p))) (r:RepO c.K (Av c σ δ) H ds' xs') :
  Abs c σ (δ.set i (.own ds')) (upd H p xs'):=by
 have hi:i < δ.length:=(List.getElem?_eq_some_iff.mp h).1
 have ow:Own σ δ p:=⟨i,ds,h,hs⟩
 have oi:∀ {q},Own σ (δ.set i (.own ds')) q->Own σ δ q:=fun {q} o=>by
  obtain ⟨j,es,h1,h2⟩:=o
  rcases Qv h1 with ⟨rfl,_,_⟩ | ⟨_,h1⟩
  ·exact ⟨j,ds,h,h2⟩
  ·exact ⟨j,es,h1,h2⟩
 have av:∀ q,Av c σ δ q->Av c σ (δ.set i (.own ds')) q:=fun q z=>⟨z.1,fun o=>z.2 (oi o)⟩
 have hne:∀ q,Av c σ δ q->q≠p:=fun q z e=>by subst e;exact z.2 ow
 obtain ⟨p',ys,g1,g2,g3,g4⟩:=a.own i ds h
 rw [hs] at g1;cases g1
 have st:Stay c.K (Av c σ δ) H (upd H p xs'):=⟨fun q ys z=>by
   rcases z with (z | ⟨o,z⟩) | z
   ·exact .inl (.inl (by rw [Ql (Qbt z g2 (g4.noT _))];exact z))
   ·exact .inl (.inr ⟨o,by rw [Ql (Qbt z g2 (g4.noF _ _))];exact z⟩)
   ·exact .inr z,fun q ys z=>by
   rcases z with ⟨o,z⟩ | z
   ·exact .inl ⟨o,by rw [Ql (Qbt z g2 (g4.noF _ _))];exact z⟩
   ·exact .inr z,fun q o z w=>by rw [Ql (hne q z)];exact w⟩
 have up:∀ d v,Rep c.K (Av c σ δ) H d v->Rep c.K (Av c σ (δ.set i (.own ds'))) (upd H p xs') d v:=fun d v z=>Rep.mono (fun q _ w _=>av q w) st d v z
 have ups:∀ d v,RepO c.K (Av c σ δ) H d v->RepO c.K (Av c σ (δ.set i (.own ds'))) (upd H p xs') d v:=fun d v z=>RepO.mono (fun q _ w _=>av q w) st z
 refine ⟨fun b o z=>?_,fun b z=>a.fr b (by
   by_cases hb:b=p
   ·subst hb;rw [Qm] at z;cases z
   ·rw [Ql hb] at z;exact z),by rw [List.length_set];exact a.len,fun j d' z=>?_,fun j es z=>?_,fun d' v' z=>up _ _ (a.gho d' v' z),fun j k dj dk q h1 h2 h3 h4=>?_,fun j q hP d' z=>?_⟩
 ·rw [Ql (QQ z g3.1)];exact a.same b o z
 ·rcases Qv z with ⟨_,w,_⟩ | ⟨ne,z⟩
  ·cases w
  ·obtain ⟨u,z1,z2⟩:=a.val j d' z
   exact ⟨u,z1,up _ _ z2⟩
 ·rcases Qv z with ⟨rfl,w,_⟩ | ⟨ne,z⟩
  ·cases w
   exact ⟨p,xs',hs,Qm,g3,ups _ _ r⟩
  ·obtain ⟨q,zs,z1,z2,z3,z4⟩:=a.own j es z
   refine ⟨q,zs,z1,?_,z3,ups _ _ z4⟩
   rw [Ql fun w=>ne (a.inj j i es ds p z h (by rw [← w];exact z1) hs)]
   exact z2
 ·have go:∀ {j:Nat} {dj:D},(δ.set i (.own ds'))[j]? = some (Sl.own dj)->∃ dj',δ[j]? = some (Sl.own dj'):=fun {j dj} z=>by
   rcases Qv z with ⟨rfl,_,_⟩ | ⟨_,z⟩
   ·exact ⟨ds,h⟩
   ·exact ⟨_,z⟩
  obtain ⟨dj',h1⟩:=go h1
  obtain ⟨dk',h2⟩:=go h2
  exact a.inj j k dj' dk' q h1 h2 h3 h4
 ·rcases Qv z with ⟨rfl,_,_⟩ | ⟨_,z⟩
  ·exact a.pin j q hP ds h
  ·exact a.pin j q hP d' z
def thaw (i:Nat) (δ:DS):DS:=match δ[i]? with
 | some (.own ds)=>δ.set i (.val ds)
 | _=>δ
theorem Abs.thaw {c:Cn} {σ:St} {δ:DS} {H:Hp} (i:Nat) (a:Abs c σ δ H):Abs c σ (thaw i δ) H:=by
 unfold DL.thaw
 cases e:δ[i]? with
 | none=>exact a
 | some s =>
  cases s with
  | un=>exact a
  | val d=>exact a
  | own ds =>
   obtain ⟨p,xs,h1,h2,h3,h4⟩:=a.own i ds e
   have oi:∀ {q},Own σ (δ.set i (.val ds)) q->Own σ δ q/\q≠p:=fun {q} o=>by
    obtain ⟨j,es,z1,z2⟩:=o
    rcases Qv z1 with ⟨_,w,_⟩ | ⟨ne,z1⟩
    ·cases w
    ·exact ⟨⟨j,es,z1,z2⟩,fun w=>ne (a.inj j i es ds p z1 e (by rw [← w];exact z2) h1)⟩
   have av:∀ q,Av c σ δ q->Av c σ (δ.set i (.val ds)) q:=fun q z=>⟨z.1,fun o=>z.2 (oi o).1⟩
   refine ⟨a.same,a.fr,by rw [List.length_set];exact a.len,fun j d' z=>?_,fun j es z=>?_,fun d' v' z=>(a.gho d' v' z).weak av,fun j k dj dk q z1 z2 z3 z4=>?_,fun j q hP d' z=>?_⟩
   ·rcases Qv z with ⟨rfl,w,_⟩ | ⟨ne,z⟩
    ·cases w
     refine ⟨.ref p,h1,?_⟩
     exact (h4.weak av).rep h2 ⟨h3.2,fun o=>(oi o).2 rfl⟩
    ·obtain ⟨u,z1,z2⟩:=a.val j d' z
     exact ⟨u,z1,z2.weak av⟩
   ·rcases Qv z with ⟨_,w,_⟩ | ⟨ne,z⟩
    ·cases w
    ·obtain ⟨q,zs,z1,z2,z3,z4⟩:=a.own j es z
     exact ⟨q,zs,z1,z2,z3,z4.weak av⟩
   ·rcases Qv z1 with ⟨_,w,_⟩ | ⟨_,z1⟩
    ·cases w
    rcases Qv z2 with ⟨_,w,_⟩ | ⟨_,z2⟩
    ·cases w
    exact a.inj j k dj dk q z1 z2 z3 z4
   ·rcases Qv z with ⟨_,w,_⟩ | ⟨_,z⟩
    ·cases w
    ·exact a.pin j q hP d' z
theorem QdJ (i:Nat) (h:PS X st (tS X.K E fr F)):PS X st (tS X.K E fr fun δ=>F (thaw i δ)):=h.imp fun D σ H q=>by
 obtain ⟨c,δ,hK,ab,q⟩:=q
 exact ⟨c,_,hK,⟨ab.toAbs.thaw i,ab.pi⟩,q⟩
def sSet (i:Nat) (f:Fn):Sm:=fun δ=>(f δ).bind fun d=>.ok (.nx (δ.set i (.val d)))
def sOwn (i:Nat) (f:Fn):Sm:=fun δ=>(f δ).bind fun d=>.ok (.nx (δ.set i (.own d)))
theorem Qq (i:Nat) {x:Str} {pos':Pos} (hN:X.N.Nodup) (he:PE X e (tX X.K E .S fe)) (hi:X.N[i]? = some x:=by rfl) (hx:Loc X.env.scope x:=by first | exact Or.inl rfl | exact Or.inr rfl) (hs:swapsWith e (some (.Name x pos')) pos.line X.env=pure false:=by rfl)
  (hf:X.fn x=true\/X.env.scope.names.lookup x=some .local:=by first | exact .inl rfl | exact .inr rfl):PS X (.Assign [.Name x pos'] e pos) (tS X.K E fr (sSet i fe)):=(Qji hN hi hx he hs hf).imp fun D σ H q=>by
 obtain ⟨c,δ,hK,ab,q⟩:=q
 exact ⟨c,δ,hK,ab,(Res.bind q).imp fun d _ k v H1 e1 r1=>k _ H1 (ab.set_val e1 r1)⟩
theorem Qc9 (i:Nat) {x:Str} {pos':Pos} (hN:X.N.Nodup) (he:PE X e (tX X.K E .F fe)) (hi:X.N[i]? = some x:=by rfl) (hx:Loc X.env.scope x:=by first | exact Or.inl rfl | exact Or.inr rfl) (hs:swapsWith e (some (.Name x pos')) pos.line X.env=pure false:=by rfl)
  (hf:X.fn x=true\/X.env.scope.names.lookup x=some .local:=by first | exact .inl rfl | exact .inr rfl) (hpi:fr.pin≠some i:=by decide):PS X (.Assign [.Name x pos'] e pos) (tS X.K E fr (sOwn i fe)):=(Qji hN hi hx he hs hf).imp fun D σ H q=>by
 obtain ⟨c,δ,hK,ab,q⟩:=q
 refine ⟨c,δ,hK,ab,(Res.bind q).imp fun d _ k v H1 e1 r1=>?_⟩
 obtain ⟨p,xs,rfl,h1,h2,h3⟩:=r1
 exact k _ H1 (ab.set_own e1 h1 h2 h3 (ab.ne hpi))
def tG (K:W.Frag) (E:XK) (g:D->DS->Ou DS):TG:=fun v σ H Q=>∃ c δ d,c.K=K/\Abs c σ δ H/\Rep c.K (Av c σ δ) H d v/\Res K E c.H₀ (g d δ) fun δ'=>∀ σ' H',Same H H'->Abs c σ' δ' H'->Q σ' H'
def gNm (i:Nat):D->DS->Ou DS:=fun d δ=>.ok (δ.set i (.val d))
theorem Qbx (i:Nat) {x:Str} (hN:X.N.Nodup) (hi:X.N[i]? = some x:=by rfl) (hx:Loc X.env.scope x:=by first | exact Or.inl rfl | exact Or.inr rfl) (hf:X.fn x=true\/X.env.scope.names.lookup x=some .local:=by first | exact .inl rfl | exact .inr rfl):PG X (.Name x pos) (tG X.K E (gNm i)):=(Qdy hN hi hx hf).imp fun v σ H Q q=>by
 obtain ⟨c,δ,d,hK,ab,r,q⟩:=q
 exact q _ H (Same.refl H) (ab.set_val (Same.refl H) r)
def forL (g:D->DS->Ou DS) (body:Sm):List D->DS->Ou Fl
 | [],δ=>.ok (.nx δ)
 | x::xs,δ=>(g x δ).bind fun δ1=>(body δ1).bind fun r=>match r with
  | .nx δ2=>forL g body xs δ2
  | .ct δ2=>forL g body xs δ2
  | .bk δ2=>.ok (.nx δ2)
  | .rt d=>.ok (.rt d)
def sFor (fl:Fn) (g:D->DS->Ou DS) (body:Sm):Sm:=fun δ=>(fl δ).bind fun d=>match d with
 | .lst ds=>forL g body ds δ
 | .frl ds=>forL g body ds δ
 | _=>.bad
def QlJ (fl:Fn) (g:D->DS->Ou DS) (body:Sm):Sm:=fun δ=>(fl δ).bind fun d=>match d with
 | .tup ds=>forL g body ds δ
 | _=>.bad
theorem Abs.drop {c:Cn} {σ:St} {δ:DS} {H:Hp} {g:List (D×V)} (a:Abs { c with G:=g } σ δ H) (hg:∀ z∈c.G,z∈g):Abs c σ δ H :=
 ⟨a.same,a.fr,a.len,a.val,a.own,fun d v h=>a.gho d v (hg _ h),a.inj,a.pin⟩
theorem Qmb {c:Cn} {g:D->DS->Ou DS} {body:Sm} {tg:TG} {tb:TS} {D:Ends} {K:W.Frag} {gh:List (DL.D×V)} (htg:∀ v σ H Q,tG K E g v σ H Q->tg v σ H Q) (htb:∀ D σ H,tS K E fr body D σ H->tb D σ H) (hK:c.K=K) (hg:∀ z∈c.G,z∈gh)
  {d:DL.D} {ds:List DL.D} {v:V} {σ:St} {δ:DS} {H:Hp} (ab:Abs { c with G:=gh } σ δ H) (r:Rep c.K (Av c σ δ) H d v) (h:Res K E c.H₀ (forL g body (d::ds) δ) (EndP c fr D)) (hp:c.P.map (·.1)=fr.pin:=by assumption) :
  tg v σ H fun σ2 H2=>tb { D with nx:=fun σ' H'=>∃ δ',Abs { c with G:=gh } σ' δ' H'/\Res K E c.H₀ (forL g body ds δ') (EndP c fr D),ct:=fun σ' H'=>∃ δ',Abs { c with G:=gh } σ' δ' H'/\Res K E c.H₀ (forL g body ds δ') (EndP c fr D),bk:=D.nx } σ2 H2:=by
 refine htg _ _ _ _ ⟨{ c with G:=gh },δ,d,hK,ab,r,(Res.bind h).imp fun δ1 _ k σ2 H2 _ ab2=>htb _ _ _ ⟨{ c with G:=gh },δ1,hK,⟨ab2,hp⟩,(Res.bind k).imp fun r _ k=>?_⟩⟩
 cases r with
 | nx δ2=>exact fun σ' H' ab'=>⟨δ2,ab',k⟩
 | ct δ2=>exact fun σ' H' ab'=>⟨δ2,ab',k⟩
 | bk δ2=>exact fun σ' H' ab'=>k σ' H' (ab'.drop hg)
 | rt z=>exact k
theorem QcQ {c:Cn} {g:D->DS->Ou DS} {body:Sm} {J:It} {tg:TG} {tb:TS} {D:Ends} {K:W.Frag} {gh:List (DL.D×V)} (htg:∀ v σ H Q,tG K E g v σ H Q->tg v σ H Q) (htb:∀ D σ H,tS K E fr body D σ H->tb D σ H) (hK:c.K=K) (hg:∀ z∈c.G,z∈gh)
  {ds:List DL.D} {σ:St} {δ:DS} {H:Hp} (ab:Abs { c with G:=gh } σ δ H) (h:Res K E c.H₀ (forL g body ds δ) (EndP c fr D))
  (go:∀ (i:Nat) σ δ H d,Abs { c with G:=gh } σ δ H->ds[i]? = some d->J.go i H/\∀ x H',J.yld i H x H'->H'=H/\Rep c.K (Av c σ δ) H d x)
  (stop:∀ σ δ H,Abs { c with G:=gh } σ δ H->J.stop ds.length H) (hp:c.P.map (·.1)=fr.pin:=by assumption) :
  ∃ W:Nat->Nat->St->Hp->Prop,(∃ m,W 0 m σ H)/\∀ i m σ H,W i m σ H ->
   (J.stop i H/\D.nx σ H)\/(J.go i H/\∃ N:St->Hp->Prop,(∀ σ' H',N σ' H'->∃ m',m' < m/\W (i + 1) m' σ' H')/\∀ x H',J.yld i H x H'->tg x σ H' fun σ2 H2=>tb { D with nx:=N,ct:=N,bk:=D.nx } σ2 H2):=by
 refine ⟨fun i m σ H=>m=ds.length - i/\i<=ds.length/\∃ δ,Abs { c with G:=gh } σ δ H/\Res K E c.H₀ (forL g body (ds.drop i) δ) (EndP c fr D),⟨ds.length,by simp,Nat.zero_le _,δ,ab,by simpa using h⟩,?_⟩
 rintro i m σ H ⟨rfl,hi,δ,ab,h⟩
 by_cases hlt:i < ds.length
 ·have hd:ds[i]? = some ds[i]:=by simp [hlt]
  obtain ⟨g1,g2⟩:=go i σ δ H _ ab hd
  rw [List.drop_eq_getElem_cons hlt] at h
  refine .inr ⟨g1,_,fun σ' H' p'=>⟨ds.length - (i + 1),by lia,rfl,hlt,p'⟩,fun x H' y=>?_⟩
  obtain ⟨rfl,r⟩:=g2 x H' y
  exact Qmb htg htb hK hg ab r h
 ·have e:i=ds.length:=by lia
  subst e
  rw [List.drop_length] at h
  exact .inl ⟨stop σ δ H ab,h σ H (ab.drop hg)⟩
theorem Qmx {c:Cn} {g:D->DS->Ou DS} {D:Ends} {K:W.Frag} {σ:St} {δ:DS} {H:Hp} {a:Addr} {d:DL.D} {ds:List DL.D} (hK:c.K=K) (ab:Abs c σ δ H) (r:Rep c.K (Av c σ δ) H d (.ref a))
  (all:∀ B H,Rep c.K B H d (.ref a)->∃ xs,SqL K H a xs/\Reps c.K B H ds xs) (h:Res K E c.H₀ (forL g F ds δ) (EndP c fr D)) (hp:c.P.map (·.1)=fr.pin:=by assumption) :
  ∃ W:Nat->Nat->St->Hp->Prop,(∃ m,W 0 m σ H)/\∀ i m σ H,W i m σ H ->
   ((Itl K a).stop i H/\D.nx σ H)\/((Itl K a).go i H/\∃ N:St->Hp->Prop,(∀ σ' H',N σ' H'->∃ m',m' < m/\W (i + 1) m' σ' H')/\∀ x H',(Itl K a).yld i H x H'->tG K E g x σ H' fun σ2 H2=>tS K E fr F { D with nx:=N,ct:=N,bk:=D.nx } σ2 H2):=by
 have ab':Abs { c with G:=(d,.ref a)::c.G } σ δ H:=by
  refine ⟨ab.same,ab.fr,ab.len,ab.val,ab.own,fun d' v' hm=>?_,ab.inj,ab.pin⟩
  rcases List.mem_cons.mp hm with e | hm
  ·cases e;exact r
  ·exact ab.gho d' v' hm
 refine QcQ (gh:=(d,.ref a)::c.G) (fun _ _ _ _ z=>z) (fun _ _ _ z=>z) hK (fun _ z=>List.mem_cons_of_mem _ z) ab' h (fun i σ δ H d z hd=>?_) fun σ δ H z=>?_
 ·obtain ⟨ys,w1,w2⟩:=all _ _ (z.gho _ _ List.mem_cons_self)
  obtain ⟨u,w3,w4⟩:=w2.get i d hd
  refine ⟨⟨ys,u,w1,w3⟩,fun x H' y=>⟨y.1,?_⟩⟩
  have w5:=y.2 ys w1
  rw [w3] at w5;cases w5
  exact w4
 ·obtain ⟨ys,w1,w2⟩:=all _ _ (z.gho _ _ List.mem_cons_self)
  exact ⟨ys,w1,Nat.le_of_eq w2.length⟩
theorem QpO {tg iter:Expr} {body:List Stmt} {fl:Fn} {g:D->DS->Ou DS} (hp:PassesOwn (model X.prog X.w) X.A X.env X.xe) (hc:X.calm=true) (hi:PE X iter (tX X.K E .S fl)) (hg:PG X tg (tG X.K E g)) (hb:PSs X body (tS X.K E fr F))
  (hs:∀ x,foldedSetIterable iter X.env x=pure x:=by intro _;rfl):PS X (.For tg iter body [] pos) (tS X.K E fr (sFor fl g F)):=(Qd5 hp hc (QeS hi) hg hb hs).imp fun D σ H q=>by
 obtain ⟨c,δ,hK,ab,q⟩:=q
 have hp:=ab.pi
 refine ⟨c,δ,hK,ab,(Res.bind q).imp fun d hd0 k v H1 e1 r1=>?_⟩
 have r1':Rep c.K (Av c σ δ) H1 d v:=r1
 cases d <;> first | exact k.elim | skip
 ·rename_i ds
  have r2:=r1'
  simp only [Rep] at r2
  obtain ⟨a,xs,rfl,hb,h1,h2⟩:=r2
  refine ⟨a,rfl,⟨xs,.of h1⟩,Qmx hK (ab.grow e1) r1' (fun B H z=>?_) k⟩
  simp only [Rep] at z
  obtain ⟨b,ys,e,_,w1,w2⟩:=z
  cases e
  exact ⟨ys,.of w1,w2⟩
 ·rename_i ds
  have r2:=r1'
  simp only [Rep] at r2
  obtain ⟨a,xs,rfl,h1,h2⟩:=r2
  refine ⟨a,rfl,⟨xs,by rw [← hK];exact h1.sq⟩,Qmx hK (ab.grow e1) r1' (fun B H z=>?_) k⟩
  simp only [Rep] at z
  obtain ⟨b,ys,e,w1,w2⟩:=z
  cases e
  exact ⟨ys,by rw [← hK];exact w1.sq,w2⟩
theorem Qnl {tg iter:Expr} {body:List Stmt} {fl:Fn} {g:D->DS->Ou DS} (hp:PassesOwn (model X.prog X.w) X.A X.env X.xe) (hc:X.calm=true) (hi:PE X iter (tX X.K E .S fl)) (hg:PG X tg (tG X.K E g)) (hb:PSs X body (tS X.K E fr F))
  (hs:∀ x,foldedSetIterable iter X.env x=pure x:=by intro _;rfl):PS X (.For tg iter body [] pos) (tS X.K E fr (QlJ fl g F)):=(Qd5 hp hc (QmZ hi) hg hb hs).imp fun D σ H q=>by
 obtain ⟨c,δ,hK,ab,q⟩:=q
 have hp:=ab.pi
 refine ⟨c,δ,hK,ab,(Res.bind q).imp fun d hd0 k v H1 e1 r1=>?_⟩
 cases d <;> first | exact k.elim | skip
 rename_i ds
 have r1':Rep c.K (Av c σ δ) H1 (.tup ds) v:=r1
 have r2:=r1'
 simp only [Rep] at r2
 obtain ⟨a,xs,rfl,h1,h2⟩:=r2
 have ab':Abs { c with G:=(.tup ds,.ref a)::c.G } σ δ H1:=by
  have z:=ab.grow e1
  refine ⟨z.same,z.fr,z.len,z.val,z.own,fun d' v' hm=>?_,z.inj,z.pin⟩
  rcases List.mem_cons.mp hm with e | hm
  ·cases e;exact r1'
  ·exact z.gho d' v' hm
 have all:∀ σ δ H,Abs { c with G:=(.tup ds,.ref a)::c.G } σ δ H->∃ xs,SqT X.K H a xs/\Reps c.K (Av c σ δ) H ds xs:=fun σ δ H z=>by
  have w:=z.gho (.tup ds) (.ref a) List.mem_cons_self
  simp only [Rep] at w
  obtain ⟨b,ys,e,w1,w2⟩:=w
  cases e
  exact ⟨ys,by rw [← hK];exact w1,w2⟩
 refine ⟨a,rfl,⟨xs,by rw [← hK];exact h1⟩,QcQ (gh:=(.tup ds,.ref a)::c.G) (fun _ _ _ _ z=>z) (fun _ _ _ z=>z) hK (fun _ z=>List.mem_cons_of_mem _ z) ab' k (fun i σ δ H d z hd=>?_) fun σ δ H z=>?_⟩
 ·obtain ⟨ys,w1,w2⟩:=all σ δ H z
  obtain ⟨u,w3,w4⟩:=w2.get i d hd
  refine ⟨⟨ys,u,w1,w3⟩,fun x H' y=>⟨y.1,?_⟩⟩
  have w5:=y.2 ys w1
  rw [w3] at w5;cases w5
  exact w4
 ·obtain ⟨ys,w1,w2⟩:=all σ δ H z
  exact ⟨ys,w1,Nat.le_of_eq w2.length⟩
def rng (lo:Int) (n:Nat):List D:=(List.range n).map fun (k:Nat)=>D.int (lo + (k:Int))
theorem Qj4 {lo:Int} {n i:Nat} {d:D} (h:(rng lo n)[i]? = some d):i < n/\d=.int (lo + (i:Int)):=by
 unfold rng at h
 rw [List.getElem?_map] at h
 cases e:(List.range n)[i]? with
 | none=>rw [e] at h;cases h
 | some k =>
  rw [e] at h
  have e2:=List.getElem?_eq_some_iff.mp e
  obtain ⟨hl,e3⟩:=e2
  simp at e3 hl
  subst e3
  exact ⟨hl,(Option.some.inj h).symm⟩
theorem Qc1 (lo:Int) (n:Nat):(rng lo n).length=n:=by simp [rng]
def rOk (i:Int):Bool:=decide (-(2 ^ 62)<=i/\i < 2 ^ 62)
def sRng (fs:List Fn) (g:D->DS->Ou DS) (body:Sm):Sm:=fun δ=>(Qaq fs δ).bind fun ds=>match ds with
 | [.int j]=>if rOk j=true then forL g body (rng 0 j.toNat) δ else .bad
 | [.int i,.int j]=>if rOk i=true/\rOk j=true then forL g body (rng i (j - i).toNat) δ else .bad
 | _=>.bad
theorem Qoi {c:Cn} {g:D->DS->Ou DS} {D:Ends} {K:W.Frag} {σ:St} {δ:DS} {H:Hp} {lo:Int} {n:Nat} (hK:c.K=K) (ab:Abs c σ δ H) (h:Res K E c.H₀ (forL g F (rng lo n) δ) (EndP c fr D)) (hp:c.P.map (·.1)=fr.pin:=by assumption) :
  ∃ W:Nat->Nat->St->Hp->Prop,(∃ m,W 0 m σ H)/\∀ i m σ H,W i m σ H ->
   ((Itr lo n).stop i H/\D.nx σ H)\/((Itr lo n).go i H/\∃ N:St->Hp->Prop,(∀ σ' H',N σ' H'->∃ m',m' < m/\W (i + 1) m' σ' H')/\∀ x H',(Itr lo n).yld i H x H'->tG K E g x σ H' fun σ2 H2=>tS K E fr F { D with nx:=N,ct:=N,bk:=D.nx } σ2 H2):=by
 refine QcQ (gh:=c.G) (fun _ _ _ _ z=>z) (fun _ _ _ z=>z) hK (fun _ z=>z) ab h (fun i σ δ H d z hd=>?_) fun σ δ H z=>?_
 ·obtain ⟨h1,rfl⟩:=Qj4 hd
  exact ⟨h1,fun x H' y=>⟨y.1,by rw [y.2];simp [Rep]⟩⟩
 ·show n<=_
  rw [Qc1];exact Nat.le_refl _
def Qap (gc:DS->Ou Bool) (body:Sm):Nat->Sm
 | 0,_=>.bad
 | n + 1,δ=>(gc δ).bind fun b=>if b=true then (body δ).bind fun r=>match r with
   | .nx δ2=>Qap gc body n δ2
   | .ct δ2=>Qap gc body n δ2
   | .bk δ2=>.ok (.nx δ2)
   | .rt d=>.ok (.rt d)
  else .ok (.nx δ)
theorem QhY (n:Nat) {t:Expr} {body:List Stmt} (hp:PassesOwn (model X.prog X.w) X.A X.env X.xe) (hc:PT X t (tT X.K E ga)) (hb:PSs X body (tS X.K E fr F)):PS X (.While t body [] pos) (tS X.K E fr (Qap ga F n)):=(Qmo hp hc hb).imp fun D σ H q=>by
 obtain ⟨c,δ,hK,ab,q⟩:=q
 have hp:=ab.pi
 refine ⟨fun m σ H=>∃ δ,Abs c σ δ H/\Res X.K E c.H₀ (Qap ga F m δ) (EndP c fr D),⟨n,δ,ab.toAbs,q⟩,?_⟩
 rintro m σ H ⟨δ,ab,q⟩
 cases m with
 | zero=>exact q.elim
 | succ m =>
  refine ⟨c,δ,hK,ab,(Res.bind q).imp fun z _ k H1 e1=>?_⟩
  cases z with
  | true =>
   refine ⟨fun σ' H'=>∃ δ',Abs c σ' δ' H'/\Res X.K E c.H₀ (Qap ga F m δ') (EndP c fr D),fun σ' H' z=>⟨m,Nat.lt_succ_self m,z⟩,c,δ,hK,⟨ab.grow e1,hp⟩,(Res.bind k).imp fun r _ k=>?_⟩
   cases r with
   | nx δ2=>exact fun σ' H' ab'=>⟨δ2,ab',k⟩
   | ct δ2=>exact fun σ' H' ab'=>⟨δ2,ab',k⟩
   | bk δ2=>exact k
   | rt d=>exact k
  | false=>exact k σ H1 (ab.grow e1)
end
section
variable {X:Cx} {E:XK} {m:Md} {a b e:Expr} {fa fb fe:Fn} {pos:Pos} {es:List Expr} {fs:List Fn} {fr:Rm} {F G:Sm} {ga gb:DS->Ou Bool} {st:Stmt}
def gI (C:Int->Int->Bool) (g:Int->Int->D):D->D->Ou D
 | .int i,.int j=>if C i j=true then .ok (g i j) else .bad
 | _,_=>.bad
def gI0 (g:Int->Int->D):D->D->Ou D
 | .int i,.int j=>.ok (g i j)
 | _,_=>.bad
theorem od_I {f:Value->Value->Sem Value} {C':Int->Int->Prop} {C:Int->Int->Bool} {g:Int->Int->D} (h:OpR X f (rI C' fun i j=>toV (g i j))) (hC:∀ i j,C i j=true->C' i j) (hs:∀ i j,isS (g i j)=true):OpD X f (gI C g):=by
 refine ⟨_,h,fun B H dx dy x y Q rx ry=>?_⟩
 cases dx <;> cases dy <;> simp only [gI]
 rename_i i j
 simp only [Rep] at rx ry
 subst rx;subst ry
 by_cases hc:C i j=true
 ·rw [if_pos hc]
  exact ⟨hs i j,fun q=>⟨i,j,rfl,rfl,hC i j hc,q⟩⟩
 ·rw [if_neg hc];trivial
theorem Qgw {f:Value->Value->Sem Value} {g:Int->Int->D} (h:OpR X f (rI0 fun i j=>toV (g i j))) (hs:∀ i j,isS (g i j)=true):OpD X f (gI0 g):=by
 refine ⟨_,h,fun B H dx dy x y Q rx ry=>?_⟩
 cases dx <;> cases dy <;> simp only [gI0]
 rename_i i j
 simp only [Rep] at rx ry
 subst rx;subst ry
 exact ⟨hs i j,fun q=>⟨i,j,rfl,rfl,q⟩⟩
def gSub:=gI0 fun i j=>.int (i - j)
def cMul (i j:Int):Bool:=decide ((-(2 ^ 64) < i/\i < 2 ^ 64)\/(-(2 ^ 64) < j/\j < 2 ^ 64))
def gMul:=gI cMul fun i j=>.int (i * j)
def cDiv (_ j:Int):Bool:=decide (0 < j/\j < 2 ^ 64)
def gDiv:=gI cDiv fun i j=>.int (i / j)
def cMod (_ j:Int):Bool:=decide (0 < j)
def gMod:=gI cMod fun i j=>.int (i % j)
def cPow (i j:Int):Bool:=decide (0<=j/\j<=1000000/\i.natAbs < 2 ^ 64)
def gPow:=gI cPow fun i j=>.int (i ^ j.toNat)
def gShl:=gI cPow fun i j=>.int (i * 2 ^ j.toNat)
def cShr (_ j:Int):Bool:=decide (0<=j)
def gShr:=gI cShr fun i j=>.int (i / 2 ^ j.toNat)
def gAnd:=gI0 fun i j=>.int (Builtin.bitAnd i j)
def gXor:=gI0 fun i j=>.int (Builtin.bitXor i j)
theorem Qb8:OpD X (binaryOp .Sub) gSub:=Qgw QpJ fun _ _=>rfl
theorem Qfq:OpD X (binaryOp .Mult) gMul:=od_I Qo4 (fun i j h=>by have z:=of_decide_eq_true h;exact z) fun _ _=>rfl
theorem Qob {j:Int} (h0:0 < j) (h:j < 2 ^ 64):j.natAbs.log2 < 9000:=by
 have h1:j.natAbs≠0:=by lia
 have h2:j.natAbs < 2 ^ 64:=by lia
 have:=(Nat.log2_lt h1).mpr h2
 lia
theorem Qlc:OpR X (binaryOp .FloorDiv) (rI (fun _ j=>0 < j/\j < 2 ^ 64) fun i j=>.int (i / j)):=opI fun i j _ _ _ _ _ hc q=>by
 have h1:(0:Int) < j:=hc.1
 exact floordiv_int (by lia) (by rw [Int.fdiv_eq_ediv_of_nonneg i (by lia)];exact q) (.inl (PyProof.noPylong_of_log2 (Qob hc.1 hc.2)))
theorem QF:OpD X (binaryOp .FloorDiv) gDiv:=od_I Qlc (fun _ _ h=>of_decide_eq_true h) fun _ _=>rfl
theorem Qz:OpD X (binaryOp .Mod) gMod:=od_I Qpg (fun _ _ h=>of_decide_eq_true h) fun _ _=>rfl
theorem Qco:OpD X (binaryOp .Pow) gPow:=od_I Qpl (fun i j h=>by have z:=of_decide_eq_true h;exact z) fun _ _=>rfl
theorem Qg3:OpD X (binaryOp .LShift) gShl:=od_I Qo9 (fun i j h=>by have z:=of_decide_eq_true h;exact z) fun _ _=>rfl
theorem QpK:OpD X (binaryOp .BitXor) gXor:=Qgw Qp0 fun _ _=>rfl
def gLt:=gI0 fun i j=>.bl (decide (i < j))
def gLe:=gI0 fun i j=>.bl (decide (i<=j))
def gGt:=gI0 fun i j=>.bl (decide (j < i))
def gGe:=gI0 fun i j=>.bl (decide (j<=i))
theorem QfJ:OpD X (compareOp .Lt) gLt:=Qgw op_lt fun _ _=>rfl
theorem QoB:OpD X (compareOp .LtE) gLe:=Qgw op_le fun _ _=>rfl
theorem Qkc:OpD X (compareOp .Gt) gGt:=Qgw op_gt fun _ _=>rfl
theorem Qks:OpD X (compareOp .GtE) gGe:=Qgw op_ge fun _ _=>rfl
def f1 (g:D->Ou D) (fa:Fn):Fn:=fun δ=>(fa δ).bind g
def gNeg:D->Ou D
 | .int i=>.ok (.int (-i))
 | _=>.bad
theorem xneg (ha:PE X a (tX X.K E .W fa)) (hm:notF m=true:=by rfl):PE X (.UnaryOp .USub a pos) (tX X.K E m (f1 gNeg fa)):=(pe_un Qpy ha).imp fun σ H Q q=>by
 obtain ⟨c,δ,hK,ab,q⟩:=q
 refine ⟨c,δ,hK,ab,(Res.bind q).imp fun d _ k v H1 e1 r1=>?_⟩
 have r1':Rep c.K c.B H1 d v:=r1
 cases d <;> first | exact k.elim | skip
 simp only [Rep] at r1'
 subst r1'
 exact ⟨_,rfl,k _ H1 e1 (Post.ofS hm rfl)⟩
def gIsN:D->Ou D
 | .non=>.ok (.bl true)
 | _=>.ok (.bl false)
def Qbr:D->Ou D
 | .non=>.ok (.bl false)
 | _=>.ok (.bl true)
theorem QhE {K:W.Frag} {B:Addr->Prop} {H:Hp} {d:D} {v:V} (r:Rep K B H d v):gIsN d=.ok (.bl (decide (v=.non)))/\Qbr d=.ok (.bl (!decide (v=.non))):=by
 cases d <;> simp only [Rep] at r <;> first | (subst r;exact ⟨rfl,rfl⟩) | (obtain ⟨a,_,rfl,_⟩:=r;exact ⟨rfl,rfl⟩) | (obtain ⟨a,_,_,rfl,_⟩:=r;exact ⟨rfl,rfl⟩) | (obtain ⟨a,_,_,_,rfl,_⟩:=r;exact ⟨rfl,rfl⟩)
theorem xisN {j p} (ha:PE X a (tX X.K E .W fa)) (hm:notF m=true:=by rfl):PE X (.Compare a [.Is] [.Constant .none j p] pos) (tX X.K E m (f1 gIsN fa)):=(QoX (QlG ha)).imp fun σ H Q q=>by
 obtain ⟨c,δ,hK,ab,q⟩:=q
 refine ⟨c,δ,hK,ab,(Res.bind q).imp fun d _ k v H1 e1 r1=>?_⟩
 rw [(QhE (show Rep c.K c.B H1 d v from r1)).1] at k
 exact k _ H1 e1 (Post.ofS hm rfl)
theorem QfM {j p} (ha:PE X a (tX X.K E .W fa)):PT X (.Compare a [.Is] [.Constant .none j p] pos) (tT X.K E (fAsB (f1 gIsN fa))):=(Qna (QlG ha)).imp fun σ H Q q=>by
 obtain ⟨c,δ,hK,ab,q⟩:=q
 refine ⟨c,δ,hK,ab,(Res.bind (Res.bind q)).imp fun d _ k v H1 e1 r1=>?_⟩
 rw [(QhE (show Rep c.K c.B H1 d v from r1)).1] at k
 exact ⟨_,rfl,k H1 e1⟩
theorem QhH {j p} (ha:PE X a (tX X.K E .W fa)):PT X (.Compare a [.IsNot] [.Constant .none j p] pos) (tT X.K E (fAsB (f1 Qbr fa))):=(Qna (Qnf ha)).imp fun σ H Q q=>by
 obtain ⟨c,δ,hK,ab,q⟩:=q
 refine ⟨c,δ,hK,ab,(Res.bind (Res.bind q)).imp fun d _ k v H1 e1 r1=>?_⟩
 rw [(QhE (show Rep c.K c.B H1 d v from r1)).2] at k
 exact ⟨_,rfl,k H1 e1⟩
def fChn (g g':D->D->Ou D) (fa fb fc:Fn):Fn:=fun δ=>(fa δ).bind fun x=>(fb δ).bind fun y=>(g x y).bind fun z=>(asB z).bind fun k=>if k=true then (fc δ).bind fun w=>g' y w else .ok (.bl false)
theorem Qo1 {r r':R2} {g g':D->D->Ou D} {fc:Fn} {σ:St} {H:Hp} {Q:VK} (hr:∀ (B:Addr->Prop) (H:Hp) (dx dy:D) (x y:V) (Q:VK),Rep X.K B H dx x->Rep X.K B H dy y->match g dx dy with
  | .ok d=>isS d=true/\(Q (toV d) H->r x y H Q)
  | .ex _=>False
  | .bad=>True) (hr':∀ (B:Addr->Prop) (H:Hp) (dx dy:D) (x y:V) (Q:VK),Rep X.K B H dx x->Rep X.K B H dy y->match g' dx dy with
  | .ok d=>isS d=true/\(Q (toV d) H->r' x y H Q)
  | .ex _=>False
  | .bad=>True) (hm:notF m=true) (h:tX X.K E m (fChn g g' fa fb fc) σ H Q):QlB r r' (tX X.K E .W fa) (tX X.K E .W fb) (tX X.K E .W fc) σ H Q:=by
 obtain ⟨c,δ,hK,ab,h⟩:=h
 refine ⟨c,δ,hK,ab,(Res.bind h).imp fun dx _ k x H1 e1 r1=>?_⟩
 refine ⟨c,δ,hK,ab.grow e1,(Res.bind k).imp fun dy _ k y H2 e2 r2=>?_⟩
 have r1':Rep X.K c.B H2 dx x:=by
  have z:Rep c.K c.B H1 dx x:=r1
  rw [hK] at z;exact z.same e2
 have r2':Rep X.K c.B H2 dy y:=by
  have z:Rep c.K c.B H2 dy y:=r2
  rw [hK] at z;exact z
 have q:=hr c.B H2 dx dy x y (fun z H3=>∃ k,z=.bl k/\(if k=true then tX X.K E .W fc σ H3 fun w' H4=>r' y w' H4 Q else Q (.bl false) H3)) r1' r2'
 cases e:g dx dy with
 | ex z=>rw [e] at q;exact q.elim
 | bad=>rw [e] at k;exact k.elim
 | ok d =>
  rw [e] at q k
  refine q.2 ?_
  simp only [Qau] at k
  cases d <;> first | exact k.elim | skip
  rename_i z
  refine ⟨z,rfl,?_⟩
  cases z with
  | false=>exact k _ H2 (e1.trans e2) (Post.ofS hm rfl)
  | true =>
   refine ⟨c,δ,hK,(ab.grow e1).grow e2,(Res.bind (show Res X.K E c.H₀ ((fc δ).bind fun w=>g' dy w) _ from k)).imp fun dw _ k w H3 e3 r3=>?_⟩
   have r3':Rep X.K c.B H3 dw w:=by
    have z:Rep c.K c.B H3 dw w:=r3
    rw [hK] at z;exact z
   have q':=hr' c.B H3 dy dw y w Q (r2'.same e3) r3'
   cases e':g' dy dw with
   | ex z=>rw [e'] at q';exact q'.elim
   | bad=>rw [e'] at k;exact k.elim
   | ok d =>
    rw [e'] at q' k
    exact q'.2 (k (toV d) H3 ((e1.trans e2).trans e3) (Post.ofS hm q'.1))
theorem xchn {op op':CmpOp} {g g':D->D->Ou D} {c:Expr} {fc:Fn} (ho:OpD X (compareOp op) g) (ho':OpD X (compareOp op') g') (ha:PE X a (tX X.K E .W fa)) (hb:PE X b (tX X.K E .W fb)) (hc:PE X c (tX X.K E .W fc)) (hk:lastMarks [op,op'] [b,c]=false:=by rfl) (hm:notF m=true:=by rfl) :
  PE X (.Compare a [op,op'] [b,c] pos) (tX X.K E m (fChn g g' fa fb fc)):=by
 obtain ⟨r,h1,h2⟩:=ho
 obtain ⟨r',h1',h2'⟩:=ho'
 exact (Qmf h1 h1' ha hb hc hk).imp fun σ H Q q=>Qo1 h2 h2' hm q
end
def zipO (f:D->D->Option Bool):List D->List D->Option (List Bool)
 | x::xs,y::ys=>(f x y).bind fun b=>(zipO f xs ys).bind fun bs=>some (b::bs)
 | _,_=>some []
def eqT (f:D->D->Option Bool) (xs ys:List D):Option Bool:=(zipO f xs ys).bind fun bs=>some (bs.all id && xs.length == ys.length)
def eqL (f:D->D->Option Bool) (xs ys:List D):Option Bool:=if xs.length=ys.length then (zipO f xs ys).bind fun bs=>some (bs.all id) else some false
def rk:D->Nat
 | .tup _=>1
 | .lst _=>2
 | .frl _=>2
 | .dic _ _=>3
 | .obj _=>3
 | .dip _ _=>3
 | .exc _ _ _=>3
 | _=>0
def its:D->List D
 | .tup xs=>xs
 | .lst xs=>xs
 | .frl xs=>xs
 | _=>[]
def eqF (f:D->D->Option Bool) (x y:D):Option Bool :=
 match rk x,rk y with
 | 0,0=>some (eqV (toV x) (toV y))
 | 1,1=>eqT f (its x) (its y)
 | 2,2=>eqL f (its x) (its y)
 | 3,_=>none
 | _,3=>none
 | _,_=>some false
def eqD:Nat->D->D->Option Bool
 | 0=>fun _ _=>none
 | n + 1=>eqF (eqD n)
theorem QdW {f:D->D->Option Bool}:∀ {xs ys:List D} {bs:List Bool},zipO f xs ys=some bs->bs.length=min xs.length ys.length
 | [],ys,bs,h=>by
  have:bs=[]:=by simpa [zipO] using h.symm
  subst this;simp
 | x::xs,[],bs,h=>by
  have:bs=[]:=by simpa [zipO] using h.symm
  subst this;simp
 | x::xs,y::ys,bs,h=>by
  simp only [zipO] at h
  cases e:f x y with
  | none=>rw [e] at h;cases h
  | some b =>
   rw [e] at h
   cases e2:zipO f xs ys with
   | none=>rw [e2] at h;cases h
   | some bs' =>
    rw [e2] at h
    cases h
    have:=QdW e2
    simp only [List.length_cons,this]
    lia
theorem Qfc {f:D->D->Option Bool}:∀ {xs ys:List D} {bs:List Bool},zipO f xs ys=some bs->∀ (j:Nat) (x y:D),xs[j]? = some x->ys[j]? = some y->∃ b,bs[j]? = some b/\f x y=some b
 | [],ys,bs,h,j,x,y,hx,hy=>by simp at hx
 | x::xs,[],bs,h,j,_,y,hx,hy=>by simp at hy
 | x::xs,y::ys,bs,h,j,x',y',hx,hy=>by
  simp only [zipO] at h
  cases e:f x y with
  | none=>rw [e] at h;cases h
  | some b =>
   rw [e] at h
   cases e2:zipO f xs ys with
   | none=>rw [e2] at h;cases h
   | some bs' =>
    rw [e2] at h
    cases h
    cases j with
    | zero =>
     simp at hx hy
     subst hx;subst hy
     exact ⟨b,rfl,e⟩
    | succ j =>
     obtain ⟨b',h1,h2⟩:=Qfc e2 j x' y' (by simpa using hx) (by simpa using hy)
     exact ⟨b',by simpa using h1,h2⟩
theorem QgG {bs:List Bool} {n:Nat} (h:bs.length=n):(List.range n).all (fun j=>bs.getD j true)=bs.all id:=by
 subst h
 rw [Bool.eq_iff_iff]
 simp only [List.all_eq_true,List.mem_range,id]
 constructor
 ·intro h b hb
  obtain ⟨j,hj,rfl⟩:=List.getElem_of_mem hb
  have:=h j hj
  simpa [List.getD,hj] using this
 ·intro h j hj
  have:=h bs[j] (List.getElem_mem hj)
  simpa [List.getD,hj] using this
section
variable {X:Cx} {pins:List (Addr×Obj)} {σ:St} {H:Hp} {s:Shared} {B:Addr->Prop} {A:Around}
structure Eq3 (A:Around) (s:Shared) (u v:Value) (b:Bool):Prop where
 rc:SeqAt.RcAt A s u v b
 ne:SeqAt.RcNeAt A s u v (!b)
 eq:SeqAt.EqAt A s u v b
theorem rc_sc {x y:V} {u v:Value} (rx:L2.RelV x u) (ry:L2.RelV y v) (fx:Qbs x=true) (fy:Qbs y=true):SeqAt.RcAt A s u v (eqV x y):=by
 cases x with
 | non =>
  cases rx
  cases y with
  | non=>cases ry;exact .none_none
  | bl b=>cases ry;exact .none_bool b
  | int b=>obtain ⟨tb,rfl⟩:=ry;exact .none_int b tb
  | str b=>obtain ⟨tb,rfl⟩:=ry;exact .none_str b tb
  | _=>exact absurd (show false=true from fy) Bool.false_ne_true
 | bl a =>
  cases rx
  cases y with
  | non=>cases ry;exact .bool_none a
  | bl b=>cases ry;exact .bool_bool a b
  | int b=>obtain ⟨tb,rfl⟩:=ry;exact .bool_int a b tb
  | str b=>obtain ⟨tb,rfl⟩:=ry;exact .bool_str a b tb
  | _=>exact absurd (show false=true from fy) Bool.false_ne_true
 | int a =>
  obtain ⟨ta,rfl⟩:=rx
  cases y with
  | non=>cases ry;exact .int_none a ta
  | bl b=>cases ry;exact .int_bool a ta b
  | int b=>obtain ⟨tb,rfl⟩:=ry;exact .int_int a ta b tb
  | str b=>obtain ⟨tb,rfl⟩:=ry;exact .int_str a ta b tb
  | _=>exact absurd (show false=true from fy) Bool.false_ne_true
 | str a =>
  obtain ⟨ta,rfl⟩:=rx
  cases y with
  | non=>cases ry;exact .str_none a ta
  | bl b=>cases ry;exact .str_bool a ta b
  | int b=>obtain ⟨tb,rfl⟩:=ry;exact .str_int a ta b tb
  | str b=>obtain ⟨tb,rfl⟩:=ry;exact .str_str a ta b tb
  | _=>exact absurd (show false=true from fy) Bool.false_ne_true
 | _=>exact absurd (show false=true from fx) Bool.false_ne_true
theorem QpR {x y:V} {u v:Value} (rx:L2.RelV x u) (ry:L2.RelV y v) (fx:Qbs x=true) (fy:Qbs y=true):SeqAt.RcNeAt A s u v (!eqV x y):=by
 cases x with
 | non =>
  cases rx
  cases y with
  | non=>cases ry;exact .none_none
  | bl b=>cases ry;exact .none_bool b
  | int b=>obtain ⟨tb,rfl⟩:=ry;exact .none_int b tb
  | str b=>obtain ⟨tb,rfl⟩:=ry;exact .none_str b tb
  | _=>exact absurd (show false=true from fy) Bool.false_ne_true
 | bl a =>
  cases rx
  cases y with
  | non=>cases ry;exact .bool_none a
  | bl b=>cases ry;exact .bool_bool a b
  | int b=>obtain ⟨tb,rfl⟩:=ry;exact .bool_int a b tb
  | str b=>obtain ⟨tb,rfl⟩:=ry;exact .bool_str a b tb
  | _=>exact absurd (show false=true from fy) Bool.false_ne_true
 | int a =>
  obtain ⟨ta,rfl⟩:=rx
  cases y with
  | non=>cases ry;exact .int_none a ta
  | bl b=>cases ry;exact .int_bool a ta b
  | int b=>obtain ⟨tb,rfl⟩:=ry;exact .int_int a ta b tb
  | str b=>obtain ⟨tb,rfl⟩:=ry;exact .int_str a ta b tb
  | _=>exact absurd (show false=true from fy) Bool.false_ne_true
 | str a =>
  obtain ⟨ta,rfl⟩:=rx
  cases y with
  | non=>cases ry;exact .str_none a ta
  | bl b=>cases ry;exact .str_bool a ta b
  | int b=>obtain ⟨tb,rfl⟩:=ry;exact .str_int a ta b tb
  | str b=>obtain ⟨tb,rfl⟩:=ry;exact .str_str a ta b tb
  | _=>exact absurd (show false=true from fy) Bool.false_ne_true
 | _=>exact absurd (show false=true from fx) Bool.false_ne_true
theorem QoK {x y:V} {u v:Value} (rx:L2.RelV x u) (ry:L2.RelV y v) (fx:Qbs x=true) (fy:Qbs y=true):Eq3 A s u v (eqV x y):=⟨rc_sc rx ry fx fy,QpR rx ry fx fy,QoJ rx ry fx fy⟩
theorem QfD {l:Addr} {items:Array Value} {y:V} {v:Value} (hl:s.heap.IsTuple l items) (hu:A.units < cLine) (ry:L2.RelV y v) (fy:Qbs y=true):Eq3 A s (.ref l) v false/\Eq3 A s v (.ref l) false:=by
 cases y <;> first | exact absurd (show false=true from fy) Bool.false_ne_true | skip
 all_goals simp only [L2.RelV] at ry
 all_goals first | subst ry | (obtain ⟨t',rfl⟩:=ry)
 ·exact ⟨⟨.tuple_none hl hu,.tuple_none hl hu,.tuple_none hl hu⟩,.none_tuple hl hu,.none_tuple hl hu,.none_tuple hl hu⟩
 ·exact ⟨⟨.tuple_bool _ hl hu,.tuple_bool _ hl hu,.tuple_bool _ hl hu⟩,.bool_tuple _ hl hu,.bool_tuple _ hl hu,.bool_tuple _ hl hu⟩
 ·exact ⟨⟨.tuple_int _ _ hl hu,.tuple_int _ _ hl hu,.tuple_int _ _ hl hu⟩,.int_tuple _ _ hl hu,.int_tuple _ _ hl hu,.int_tuple _ _ hl hu⟩
 ·exact ⟨⟨.tuple_str _ _ hl hu,.tuple_str _ _ hl hu,.tuple_str _ _ hl hu⟩,.str_tuple _ _ hl hu,.str_tuple _ _ hl hu,.str_tuple _ _ hl hu⟩
theorem QfP {l:Addr} {items:Array Value} {y:V} {v:Value} (hl:s.heap.IsList l items) (hu:A.units < cLine) (ry:L2.RelV y v) (fy:Qbs y=true):Eq3 A s (.ref l) v false/\Eq3 A s v (.ref l) false:=by
 cases y <;> first | exact absurd (show false=true from fy) Bool.false_ne_true | skip
 all_goals simp only [L2.RelV] at ry
 all_goals first | subst ry | (obtain ⟨t',rfl⟩:=ry)
 ·exact ⟨⟨.list_none hl hu,.list_none hl hu,.list_none hl hu⟩,.none_list hl hu,.none_list hl hu,.none_list hl hu⟩
 ·exact ⟨⟨.list_bool _ hl hu,.list_bool _ hl hu,.list_bool _ hl hu⟩,.bool_list _ hl hu,.bool_list _ hl hu,.bool_list _ hl hu⟩
 ·exact ⟨⟨.list_int _ _ hl hu,.list_int _ _ hl hu,.list_int _ _ hl hu⟩,.int_list _ _ hl hu,.int_list _ _ hl hu,.int_list _ _ hl hu⟩
 ·exact ⟨⟨.list_str _ _ hl hu,.list_str _ _ hl hu,.list_str _ _ hl hu⟩,.str_list _ _ hl hu,.str_list _ _ hl hu,.str_list _ _ hl hu⟩
theorem rk0 {K:W.Frag} {d:D} {x:V} (h:rk d=0) (r:Rep K B H d x):x=toV d/\Qbs x=true:=by
 cases d <;> simp [rk] at h <;> simp only [Rep] at r <;> subst r <;> exact ⟨rfl,rfl⟩
theorem rk1 {K:W.Frag} {d:D} {x:V} (h:rk d=1) (r:Rep K B H d x):∃ a xs,x=.ref a/\SqT K H a xs/\Reps K B H (its d) xs:=by
 cases d <;> simp [rk] at h
 simpa only [Rep,its] using r
theorem rk2 {K:W.Frag} {d:D} {x:V} (h:rk d=2) (r:Rep K B H d x):∃ a xs,x=.ref a/\SqL K H a xs/\Reps K B H (its d) xs:=by
 cases d <;> simp [rk] at h <;> simp only [Rep] at r
 ·obtain ⟨a,xs,e,_,h1,h2⟩:=r;exact ⟨a,xs,e,.of h1,h2⟩
 ·obtain ⟨a,xs,e,h1,h2⟩:=r;exact ⟨a,xs,e,h1.sq,h2⟩
theorem Qj9 (d:D):rk d=0\/rk d=1\/rk d=2\/rk d=3:=by cases d <;> simp [rk]
theorem Qiv {f:D->D->Option Bool} {dxs dys:List D} {xs ys:List V} {us vs:List Value} {bs:List Bool} (hz:zipO f dxs dys=some bs) (rx:Reps X.K B H dxs xs) (ry:Reps X.K B H dys ys) (ru:Vals xs us) (rv:Vals ys vs)
  (ih:∀ dx dy x y u v b,Rep X.K B H dx x->Rep X.K B H dy y->L2.RelV x u->L2.RelV y v->f dx dy=some b->SeqAt.EqAt A s u v b) :
  ∀ j (h1:j < us.toArray.size) (h2:j < vs.toArray.size),SeqAt.EqAt A s us.toArray[j] vs.toArray[j] (bs.getD j true):=by
 intro j h1 h2
 have hl1:=rx.length;have hl2:=ry.length;have hl3:=ru.length;have hl4:=rv.length
 have h1':j < us.length:=by simpa using h1
 have h2':j < vs.length:=by simpa using h2
 have k1:dxs[j]? = some (dxs[j]'(by lia)):=List.getElem?_eq_getElem (by lia)
 have k2:dys[j]? = some (dys[j]'(by lia)):=List.getElem?_eq_getElem (by lia)
 obtain ⟨b,e1,e2⟩:=Qfc hz j _ _ k1 k2
 obtain ⟨x,g1,g2⟩:=rx.get j _ k1
 obtain ⟨y,g3,g4⟩:=ry.get j _ k2
 obtain ⟨u,g5,g6⟩:=ru.get g1
 obtain ⟨v,g7,g8⟩:=rv.get g3
 have eu:us.toArray[j]=u:=by
  have:=List.getElem?_eq_getElem h1'
  rw [g5] at this
  simpa using (Option.some.inj this).symm
 have ev:vs.toArray[j]=v:=by
  have:=List.getElem?_eq_getElem h2'
  rw [g7] at this
  simpa using (Option.some.inj this).symm
 have eb:bs.getD j true=b:=by simp [List.getD,e1]
 rw [eu,ev,eb]
 exact ih _ _ x y u v b g2 g4 g6 g8 e2
theorem Qej (I : Inv X pins σ H s) : ∀ (n : Nat) (dx dy : D) (x : V) (b : Bool), Rep X.K B H dx x → Rep X.K B H dy x → eqD n dx dy = some b → b = true
  | 0, _, _, _, _, _, _, e => nomatch e
  | n + 1, dx, dy, x, b, rx, ry, e => by
    have go : ∀ (dxs dys : List D) (xs : List V) (bs : List Bool), Reps X.K B H dxs xs → Reps X.K B H dys xs → zipO (eqD n) dxs dys = some bs → bs.all id = true := by
      intro dxs dys xs bs r1 r2 hz
      have hl := QdW hz
      have l1 := r1.length; have l2 := r2.length
      rw [List.all_eq_true]
      intro b hb
      obtain ⟨j, hj, rfl⟩ := List.getElem_of_mem hb
      have k1 : dxs[j]? = some (dxs[j]'(by lia)) := List.getElem?_eq_getElem (by lia)
      have k2 : dys[j]? = some (dys[j]'(by lia)) := List.getElem?_eq_getElem (by lia)
      obtain ⟨b', e1, e2⟩ := Qfc hz j _ _ k1 k2
      obtain ⟨v, g1, g2⟩ := r1.get j _ k1
      obtain ⟨v', g3, g4⟩ := r2.get j _ k2
      rw [g1] at g3; cases g3
      have := Qej I n _ _ _ _ g2 g4 e2
      subst this
      rw [List.getElem?_eq_getElem hj] at e1
      simpa using Option.some.inj e1
    have e' : eqF (eqD n) dx dy = some b := e
    unfold eqF at e'
    rcases Qj9 dx with hx | hx | hx | hx <;> rcases Qj9 dy with hy | hy | hy | hy <;> rw [hx, hy] at e' <;> simp only at e'
    all_goals try cases e'
    · obtain ⟨h1, h2⟩ := rk0 hx rx
      obtain ⟨h3, _⟩ := rk0 hy ry
      rw [← h1, ← h3]
      cases x <;> simp [eqV, Qbs] at h2 ⊢
    all_goals first
      | (obtain ⟨_, h2⟩ := rk0 hx rx
         first | (obtain ⟨a, xs, rfl, _⟩ := rk1 hy ry; simp [Qbs] at h2) | (obtain ⟨a, xs, rfl, _⟩ := rk2 hy ry; simp [Qbs] at h2))
      | (obtain ⟨_, h2⟩ := rk0 hy ry
         first | (obtain ⟨a, xs, rfl, _⟩ := rk1 hx rx; simp [Qbs] at h2) | (obtain ⟨a, xs, rfl, _⟩ := rk2 hx rx; simp [Qbs] at h2))
      | skip
    · obtain ⟨a, xs, rfl, h1, h2⟩ := rk1 hx rx
      obtain ⟨a', xs', z, h3, h4⟩ := rk1 hy ry
      cases z
      have := I.tuple_inj h1 h3
      subst this
      unfold eqT at e'
      cases ez : zipO (eqD n) (its dx) (its dy) with
      | none => rw [ez] at e'; cases e'
      | some bs =>
        rw [ez] at e'
        cases e'
        have l1 := h2.length; have l2 := h4.length
        rw [go _ _ _ _ h2 h4 ez]
        simp; lia
    · obtain ⟨a, xs, rfl, h1, h2⟩ := rk1 hx rx
      obtain ⟨a', xs', z, h3, h4⟩ := rk2 hy ry
      cases z
      obtain ⟨_, _, p1, _⟩ := I.tuple h1
      obtain ⟨_, _, p2, _⟩ := I.list h3
      exact absurd rfl (SeqAt.ne_of_list_tuple p2.isList p1)
    · obtain ⟨a, xs, rfl, h1, h2⟩ := rk2 hx rx
      obtain ⟨a', xs', z, h3, h4⟩ := rk1 hy ry
      cases z
      obtain ⟨_, _, p1, _⟩ := I.tuple h3
      obtain ⟨_, _, p2, _⟩ := I.list h1
      exact absurd rfl (SeqAt.ne_of_list_tuple p2.isList p1)
    · obtain ⟨a, xs, rfl, h1, h2⟩ := rk2 hx rx
      obtain ⟨a', xs', z, h3, h4⟩ := rk2 hy ry
      cases z
      have := I.list_inj h1 h3
      subst this
      have l1 := h2.length; have l2 := h4.length
      unfold eqL at e'
      rw [if_pos (by lia)] at e'
      cases ez : zipO (eqD n) (its dx) (its dy) with
      | none => rw [ez] at e'; cases e'
      | some bs =>
        rw [ez] at e'
        cases e'
        exact go _ _ _ _ h2 h4 ez
theorem Qj2 (I:Inv X pins σ H s):∀ (n:Nat) (A:Around) (dx dy:D) (x y:V) (u v:Value) (b:Bool),A.units + n < cLine->Rep X.K B H dx x->Rep X.K B H dy y->L2.RelV x u->L2.RelV y v->eqD n dx dy=some b->Eq3 A s u v b
 | 0,_,_,_,_,_,_,_,_,_,_,_,_,_,e=>nomatch e
 | n + 1,A,dx,dy,x,y,u,v,b,hu,rx,ry,ru,rv,e=>by
  have hu0:A.units < cLine:=by lia
  have ih:=fun dx dy x y u v b=>fun h1 h2 h3 h4 h5=>(Qj2 I n A.in1 dx dy x y u v b (by show A.units + 1 + n < cLine;lia) h1 h2 h3 h4 h5).eq
  have e0:=e
  have e':eqF (eqD n) dx dy=some b:=e
  unfold eqF at e'
  rcases Qj9 dx with hx | hx | hx | hx <;> rcases Qj9 dy with hy | hy | hy | hy <;> rw [hx,hy] at e' <;> simp only at e'
  all_goals try cases e'
  ·obtain ⟨h1,h2⟩:=rk0 hx rx
   obtain ⟨h3,h4⟩:=rk0 hy ry
   rw [← h1,← h3]
   exact QoK ru rv h2 h4
  ·obtain ⟨h1,h2⟩:=rk0 hx rx
   obtain ⟨a,xs,rfl,h3,h4⟩:=rk1 hy ry
   obtain rfl:v=Value.ref a:=rv
   obtain ⟨_,_,p,_⟩:=I.tuple h3
   exact (QfD p hu0 ru h2).2
  ·obtain ⟨h1,h2⟩:=rk0 hx rx
   obtain ⟨a,xs,rfl,h3,h4⟩:=rk2 hy ry
   obtain rfl:v=Value.ref a:=rv
   obtain ⟨_,_,p,_⟩:=I.list h3
   exact (QfP p.isList hu0 ru h2).2
  ·obtain ⟨h1,h2⟩:=rk0 hy ry
   obtain ⟨a,xs,rfl,h3,h4⟩:=rk1 hx rx
   obtain rfl:u=Value.ref a:=ru
   obtain ⟨_,_,p,_⟩:=I.tuple h3
   exact (QfD p hu0 rv h2).1
  ·obtain ⟨a,xs,rfl,h1,h2⟩:=rk1 hx rx
   obtain ⟨a',ys,rfl,h3,h4⟩:=rk1 hy ry
   obtain rfl:u=Value.ref a:=ru
   obtain rfl:v=Value.ref a':=rv
   obtain ⟨us,r1,p1,_⟩:=I.tuple h1
   obtain ⟨vs,r2,p2,_⟩:=I.tuple h3
   unfold eqT at e'
   cases ez:zipO (eqD n) (its dx) (its dy) with
   | none=>rw [ez] at e';cases e'
   | some bs =>
    rw [ez] at e'
    have eb:=Option.some.inj e'
    have hit:=Qiv (A:=A.in1) (s:=s) ez h2 h4 r1 r2 ih
    have hl:=QdW ez
    have l1:=h2.length;have l2:=h4.length;have l3:=r1.length;have l4:=r2.length
    have el:bs.length=min us.toArray.size vs.toArray.size:=by simp;lia
    have es:(us.toArray.size == vs.toArray.size)=((its dx).length == (its dy).length):=by
     rw [Bool.eq_iff_iff];simp;lia
    have h5:=SeqAt.RcAt.tuples p1 p2 hu0 hit
    have h6:=SeqAt.RcNeAt.tuples p1 p2 hu0 hit
    rw [QgG el,es,eb] at h5 h6
    refine ⟨h5,h6,?_⟩
    by_cases ha:a=a'
    ·subst ha
     rw [Qej I (n + 1) dx dy (.ref a) b rx ry e0]
     exact .same _
    ·exact .of_refs ha h5
  ·obtain ⟨a,xs,rfl,h1,h2⟩:=rk1 hx rx
   obtain ⟨a',ys,rfl,h3,h4⟩:=rk2 hy ry
   obtain rfl:u=Value.ref a:=ru
   obtain rfl:v=Value.ref a':=rv
   obtain ⟨us,r1,p1,_⟩:=I.tuple h1
   obtain ⟨vs,r2,p2,_⟩:=I.list h3
   exact ⟨.tuple_list p1 p2.isList hu0,.tuple_list p1 p2.isList hu0,.tuple_list p1 p2.isList hu0⟩
  ·obtain ⟨h1,h2⟩:=rk0 hy ry
   obtain ⟨a,xs,rfl,h3,h4⟩:=rk2 hx rx
   obtain rfl:u=Value.ref a:=ru
   obtain ⟨_,_,p,_⟩:=I.list h3
   exact (QfP p.isList hu0 rv h2).1
  ·obtain ⟨a,xs,rfl,h1,h2⟩:=rk2 hx rx
   obtain ⟨a',ys,rfl,h3,h4⟩:=rk1 hy ry
   obtain rfl:u=Value.ref a:=ru
   obtain rfl:v=Value.ref a':=rv
   obtain ⟨us,r1,p1,_⟩:=I.list h1
   obtain ⟨vs,r2,p2,_⟩:=I.tuple h3
   exact ⟨.list_tuple p1.isList p2 hu0,.list_tuple p1.isList p2 hu0,.list_tuple p1.isList p2 hu0⟩
  ·obtain ⟨a,xs,rfl,h1,h2⟩:=rk2 hx rx
   obtain ⟨a',ys,rfl,h3,h4⟩:=rk2 hy ry
   obtain rfl:u=Value.ref a:=ru
   obtain rfl:v=Value.ref a':=rv
   obtain ⟨us,r1,p1,_⟩:=I.list h1
   obtain ⟨vs,r2,p2,_⟩:=I.list h3
   have l1:=h2.length;have l2:=h4.length;have l3:=r1.length;have l4:=r2.length
   have key:SeqAt.RcAt A s (.ref a) (.ref a') b/\SeqAt.RcNeAt A s (.ref a) (.ref a') (!b):=by
    unfold eqL at e'
    by_cases hl:(its dx).length=(its dy).length
    ·rw [if_pos hl] at e'
     cases ez:zipO (eqD n) (its dx) (its dy) with
     | none=>rw [ez] at e';cases e'
     | some bs =>
      rw [ez] at e'
      have eb:=Option.some.inj e'
      have hit:=Qiv (A:=A.in1) (s:=s) ez h2 h4 r1 r2 ih
      have hlz:=QdW ez
      have el:bs.length=us.toArray.size:=by simp;lia
      have esz:us.toArray.size=vs.toArray.size:=by simp;lia
      have h5:=SeqAt.RcAt.lists p1.isList p2.isList esz hu0 hit
      have h6:=SeqAt.RcNeAt.lists p1.isList p2.isList esz hu0 hit
      rw [QgG el,eb] at h5 h6
      exact ⟨h5,h6⟩
    ·rw [if_neg hl] at e'
     cases e'
     have esz:(us.toArray.size != vs.toArray.size)=true:=by simp;lia
     exact ⟨.lists_lengths p1.isList p2.isList esz hu0,.lists_lengths p1.isList p2.isList esz hu0⟩
   refine ⟨key.1,key.2,?_⟩
   by_cases ha:a=a'
   ·subst ha
    rw [Qej I (n + 1) dx dy (.ref a) b rx ry e0]
    exact .same _
   ·exact .of_refs ha key.1
end
section
variable {X:Cx}
def gEq (x y:D):Ou D:=match eqD 60 x y with
 | some b=>.ok (.bl b)
 | none=>.bad
def gNe (x y:D):Ou D:=match eqD 60 x y with
 | some b=>.ok (.bl (!b))
 | none=>.bad
def rEqD (K:W.Frag) (neg:Bool):R2:=fun x y H Q=>∃ (B:Addr->Prop) (dx dy:D) (b:Bool),Rep K B H dx x/\Rep K B H dy y/\eqD 60 dx dy=some b/\Q (.bl (if neg then !b else b)) H
theorem QpI (hu:X.A.units + 64 < cLine):OpR X (compareOp .Eq) (rEqD X.K false):=by
 intro pins s σ H x y v u Q I rx ry h
 obtain ⟨B,dx,dy,b,h1,h2,h3,q⟩:=h
 exact EqBoolInt.of_rc (Qj2 I 60 X.A dx dy x y v u b (by lia) h1 h2 rx ry h3).rc ⟨.bl b,H,I,rfl,q⟩
theorem QoO (hu:X.A.units + 64 < cLine):OpR X (compareOp .NotEq) (rEqD X.K true):=by
 intro pins s σ H x y v u Q I rx ry h
 obtain ⟨B,dx,dy,b,h1,h2,h3,q⟩:=h
 exact EqBoolInt.of_rcne (Qj2 I 60 X.A dx dy x y v u b (by lia) h1 h2 rx ry h3).ne ⟨.bl (!b),H,I,rfl,q⟩
theorem QA (hu:X.A.units + 64 < cLine):OpD X (compareOp .Eq) gEq:=by
 refine ⟨_,QpI hu,fun B H dx dy x y Q rx ry=>?_⟩
 unfold gEq
 cases e:eqD 60 dx dy with
 | none=>trivial
 | some b=>exact ⟨rfl,fun q=>⟨B,dx,dy,b,rx,ry,e,q⟩⟩
theorem od_ne (hu:X.A.units + 64 < cLine):OpD X (compareOp .NotEq) gNe:=by
 refine ⟨_,QoO hu,fun B H dx dy x y Q rx ry=>?_⟩
 unfold gNe
 cases e:eqD 60 dx dy with
 | none=>trivial
 | some b=>exact ⟨rfl,fun q=>⟨B,dx,dy,b,rx,ry,e,q⟩⟩
end
structure Src (K:W.Frag) (mg:Str->Option Value) (x:Str) (st:Stmt) (ps:List Str):Prop where
 ex:∃ f fd,Fun K x x st f fd/\Binds K fd ps []/\mg x=some (.ref f)
def spD (K:W.Frag) (fr:Bool) (n:Nat) (mm:List D->Ou D):Sp:=fun vs H Q _=>∃ (B:Addr->Prop) (ds:List D),ds.length=n/\Reps K B H ds vs /\
 Res K E0 H (mm ds) fun d=>∀ v H',Same H H'->RtP K (fun a=>B a\/H a=none) H fr d v H'->Q v H'
structure Df (P:Program) (w:World) (K:W.Frag) (mg:Str->Option Value) (base:Heap) (x:Str) (k:Nat) (ps:List Str) (fr:Bool) (mm:List D->Ou D):Prop where
 ex:∃ f fd,FnOk P w K mg base CX0 k f fd ps (spD K fr ps.length mm)/\Binds K fd ps []/\W.keepIn K (.ref f)=true/\mg x=some (.ref f)
section
variable {P:Program} {w:World} {K:W.Frag} {mg:Str->Option Value} {base:Heap}
theorem Df.mono {x:Str} {j k:Nat} {ps:List Str} {fr:Bool} {mm:List D->Ou D} (h:Df P w K mg base x j ps fr mm) (hj:j<=k):Df P w K mg base x k ps fr mm:=by
 obtain ⟨f,fd,h1,h2⟩:=h.ex
 exact ⟨f,fd,h1.mono hj,h2⟩
def QL (n:Nat) (ds:List D):DS:=ds.map Sl.val++List.replicate (n - ds.length) Sl.un
def runD (fr:Bool) (n:Nat) (F:Sm) (ds:List D):Ou D:=(F (QL n ds)).bind fun r=>match r with
 | .rt d=>.ok d
 | .nx _=>(match fr with
  | true=>.bad
  | false=>.ok .non)
 | _=>.bad
theorem QgP {N:List Str} {B:Addr->Prop} {H:Hp} {ds:List D} {vs:List V} (r:Reps K B H ds vs) (hl:ds.length<=N.length):Abs { K:=K,B:=fun a=>B a\/H a=none,H₀:=H,G:=[] } (start N vs) (QL N.length ds) H:=by
 have hv:=r.length
 have no:∀ (i:Nat) (z:D),(QL N.length ds)[i]? = some (Sl.own z)->False:=fun i z h=>by
  unfold QL at h
  rw [List.getElem?_append] at h
  split at h
  ·rw [List.getElem?_map] at h
   cases e:ds[i]? with
   | none=>rw [e] at h;cases h
   | some d=>rw [e] at h;cases h
  ·rw [List.getElem?_replicate] at h
   split at h <;> cases h
 have nown:∀ q,¬ Own (start N vs) (QL N.length ds) q:=fun q ⟨i,z,h,_⟩=>no i z h
 refine ⟨Same.refl H,fun a h=>.inr h,?_,fun i d h=>?_,fun i z h=>(no i z h).elim,fun d v h=>(nomatch h),fun i j di dj p h=>(no i di h).elim,fun i p hP=>(nomatch hP)⟩
 ·unfold QL L2.start
  simp [hv]
 ·unfold QL at h
  rw [List.getElem?_append] at h
  split at h
  ·rename_i hi
   rw [List.getElem?_map] at h
   cases e:ds[i]? with
   | none=>rw [e] at h;cases h
   | some d' =>
    rw [e] at h
    cases h
    obtain ⟨v,h1,h2⟩:=r.get i d e
    refine ⟨v,?_,h2.weak fun a z=>⟨.inl z,nown a⟩⟩
    unfold L2.start
    rw [List.getElem?_append_left (by rw [List.length_map];exact (List.getElem?_eq_some_iff.mp h1).1),List.getElem?_map,h1]
    rfl
  ·rw [List.getElem?_replicate] at h
   split at h <;> cases h
theorem QpH {N ps:List Str} {st:Stmt} {x:Str} {k:Nat} {fr:Bool} {F:Sm} {f:Addr} {fd:FuncData} (Fn:Fun K x x st f fd) (sc:FnScope N ps (Qo st)) (hn:ps.length<=N.length)
  (hbody:∀ (f:Addr) (cdv:Value) (A:Around) (outer:List Env) (s:Shared) (H:Hp) (E:XK),Room k (A.deeper (envOfC x (Qo st) s.heap.objs.size f cdv)) ->
   PSs (cxOf CX0 P w K mg base N x (Qo st) f cdv A outer s H E).nox (Qah st) (tS K E0 fr F)):FnOk P w K mg base CX0 (k + 1) f fd ps (spD K fr ps.length (runD fr N.length F)):=by
 refine Fn.ok sc (fun vs H Q E h=>?_) (fun cdv A outer s H vs Q E hr h=>⟨_,hbody f cdv A outer s H E hr,?_⟩)
 ·obtain ⟨B,ds,hl,r,_⟩:=h
  rw [r.length];exact hl
 ·obtain ⟨B,ds,hl,r,h⟩:=h
  refine ⟨_,QL N.length ds,rfl,⟨QgP r (by rw [hl];exact hn),rfl⟩,(Res.bind h).imp fun z _ k=>?_⟩
  cases z with
  | rt d=>exact k
  | nx δ =>
   cases fr with
   | true=>exact k.elim
   | false=>exact fun σ' H' ab=>k .non H' ab.same (by show Rep _ _ _ _ _;simp [Rep])
  | bk δ=>exact k.elim
  | ct δ=>exact k.elim
theorem Qpz {N ps:List Str} {st:Stmt} {x qual:Str} {k:Nat} {fr:Bool} {F:Sm} {f:Addr} {fd:FuncData} (Fn:Fun K x qual st f fd) (sc:FnScope N ps (Qo st)) (hn:ps.length<=N.length)
  (hbody:∀ (f:Addr) (cdv:Value) (A:Around) (outer:List Env) (s:Shared) (H:Hp) (E:XK),Room k (A.deeper (envOfC qual (Qo st) s.heap.objs.size f cdv)) ->
   PSs (cxOf CX0 P w K mg base N qual (Qo st) f cdv A outer s H E).nox (Qah st) (tS K E0 fr F)):FnOk P w K mg base CX0 (k + 1) f fd ps (spD K fr ps.length (runD fr N.length F)):=by
 refine Fn.ok sc (fun vs H Q E h=>?_) (fun cdv A outer s H vs Q E hr h=>⟨_,hbody f cdv A outer s H E hr,?_⟩)
 ·obtain ⟨B,ds,hl,r,_⟩:=h
  rw [r.length];exact hl
 ·obtain ⟨B,ds,hl,r,h⟩:=h
  refine ⟨_,QL N.length ds,rfl,⟨QgP r (by rw [hl];exact hn),rfl⟩,(Res.bind h).imp fun z _ k=>?_⟩
  cases z with
  | rt d=>exact k
  | nx δ =>
   cases fr with
   | true=>exact k.elim
   | false=>exact fun σ' H' ab=>k .non H' ab.same (by show Rep _ _ _ _ _;simp [Rep])
  | bk δ=>exact k.elim
  | ct δ=>exact k.elim
theorem df_of {N ps:List Str} {st:Stmt} {x:Str} {k:Nat} {fr:Bool} {F:Sm} (S:Src K mg x st ps) (sc:FnScope N ps (Qo st)) (hn:ps.length<=N.length)
  (hbody:∀ (f:Addr) (cdv:Value) (A:Around) (outer:List Env) (s:Shared) (H:Hp) (E:XK),Room k (A.deeper (envOfC x (Qo st) s.heap.objs.size f cdv)) ->
   PSs (cxOf CX0 P w K mg base N x (Qo st) f cdv A outer s H E).nox (Qah st) (tS K E0 fr F)):Df P w K mg base x (k + 1) ps fr (runD fr N.length F):=by
 obtain ⟨f,fd,Fn,b,hm⟩:=S.ex
 exact ⟨f,fd,QpH Fn sc hn hbody,b,Fn.kp,hm⟩
end
section
variable {X:Cx} {m:Md} {e:Expr} {es:List Expr} {fs:List Fn} {p pos:Pos} {x:Str} {ps:List Str} {k:Nat} {mm:List D->Ou D}
def Qf (mm:List D->Ou D) (fs:List Fn):Fn:=fun δ=>(Qaq fs δ).bind mm
theorem QaG {α:Type} {K:W.Frag} {E:XK} {H H':Hp} {o:Ou α} {q:α->Prop} (h:Res K E H o q) (e:Same H H'):Res K E H' o q:=by
 cases o with
 | ok a=>exact h
 | ex z =>
  obtain ⟨C,hc,h⟩:=h
  exact ⟨C,hc,fun H2 e2=>h H2 (e.trans e2)⟩
 | bad=>exact h
theorem xcall (h:Df X.prog X.w X.K X.mg X.base x k ps false mm) (hr:Room k X.A) (ha:PA X (e::es) (tXA X.K E0 m fs)) (hl:fs.length=ps.length:=by rfl) (hg:Gl X x:=by rfl) (hdb:(x == ("__debug__":Str))=false:=by decide)
  (he:starEach (e::es) X.env=(false,eval e X.env)::starEach es X.env:=by rfl) (hpl:(backTo pos (starEach es X.env)).any (·.1)=false:=by rfl) (hm:notF m=true:=by rfl):PE X (.Call (.Name x p) (e::es) [] pos) (tX X.K E0 m (Qf mm fs)):=by
 obtain ⟨f,fd,h1,h2,h3,h4⟩:=h.ex
 refine (Qhb h1 hr hg h4 h3 h2 .nil QhQ ha hdb he hpl).imp fun σ H Q q=>?_
 obtain ⟨c,δ,hK,ab,q⟩:=q
 refine ⟨c,δ,hK,ab,(Res.bind q).imp fun ds hds k vs H1 e1 r1=>?_⟩
 refine ⟨BOf c σ δ m,ds,by rw [Qax hds];exact hl,by rw [List.append_nil,← hK];exact r1,(QaG k (ab.same.trans e1)).imp fun d _ k v H' e2 r2=>k v H' (e1.trans e2) ?_⟩
 have ab1:=ab.grow e1
 rw [← hK] at r2
 have r3:Rep c.K (BOf c σ δ m) H' d v:=Rep.weak r2 fun a z=>by
  rcases z with z | z
  ·exact z
  ·have:=ab1.av_new z
   cases m with
   | W=>exact this.1
   | S=>exact this
   | F=>simp [notF] at hm
 cases m with
 | W=>exact r3
 | S=>exact r3
 | F=>simp [notF] at hm
theorem Qpt (h:Df X.prog X.w X.K X.mg X.base x k ps true mm) (hr:Room k X.A) (ha:PA X (e::es) (tXA X.K E0 .S fs)) (hl:fs.length=ps.length:=by rfl) (hg:Gl X x:=by rfl) (hdb:(x == ("__debug__":Str))=false:=by decide)
  (he:starEach (e::es) X.env=(false,eval e X.env)::starEach es X.env:=by rfl) (hpl:(backTo pos (starEach es X.env)).any (·.1)=false:=by rfl):PE X (.Call (.Name x p) (e::es) [] pos) (tX X.K E0 .F (Qf mm fs)):=by
 obtain ⟨f,fd,h1,h2,h3,h4⟩:=h.ex
 refine (Qhb h1 hr hg h4 h3 h2 .nil QhQ ha hdb he hpl).imp fun σ H Q q=>?_
 obtain ⟨c,δ,hK,ab,q⟩:=q
 refine ⟨c,δ,hK,ab,(Res.bind q).imp fun ds hds k vs H1 e1 r1=>?_⟩
 refine ⟨Av c σ δ,ds,by rw [Qax hds];exact hl,by rw [List.append_nil,← hK];exact r1,(QaG k (ab.same.trans e1)).imp fun d _ k v H' e2 r2=>k v H' (e1.trans e2) ?_⟩
 have ab1:=ab.grow e1
 rw [← hK] at r2
 obtain ⟨q,xs,rfl,z1,z2,z3⟩:=r2
 exact ⟨q,xs,rfl,e1.free z1,z2,z3.weak fun a z=>⟨z.1.elim id fun w=>ab1.av_new w,z.2⟩⟩
end
theorem QpY {K:W.Frag} {H:Hp} {a:Addr} {ns:List Int} {mm:List D->Ou D} (hO:Only H) (hS:SqL K H a (ns.map V.int)) (h:mm [.frl (ns.map D.int)]=.ok (.bl true)):spD K false 1 mm [.ref a] H (fun v _=>v=.bl true) fun _ _ _=>False:=by
 refine ⟨fun _=>True,[.frl (ns.map D.int)],rfl,?_,?_⟩
 ·simp only [Reps]
  refine ⟨.ref a,[],rfl,?_,rfl⟩
  simp only [Rep]
  refine ⟨a,_,rfl,?_,Reps.ints ns⟩
  rcases hS with (z | z) | z
  ·rcases hO a with w | ⟨o,xs,w⟩
   ·rw [w] at z;cases z
   ·rw [w] at z;cases z
  ·exact .inl z
  ·exact .inr z
 ·rw [h]
  intro v H' _ r
  have r':Rep K (fun a=>True\/H a=none) H' (.bl true) v:=r
  simpa [Rep] using r'
section
variable {X:Cx} {E:XK} {m:Md} {a b e:Expr} {fa fb fe:Fn} {pos p:Pos} {es:List Expr} {fs:List Fn} {fr:Rm} {F G:Sm} {ga gb:DS->Ou Bool} {st:Stmt} {x:Str}
def Qkz (X:Cx) (f:Value) (g:List D->Ou D):Prop :=
 ∃ r,CallR X f r/\∀ (B:Addr->Prop) (H:Hp) (ds:List D) (vs:List V) (Q:VK),Reps X.K B H ds vs->(∀ d,g ds=.ok d->isS d=true/\(Q (toV d) H->r vs H Q))/\∀ z,g ds≠.ex z
theorem rd_cb {r:List V->Hp->VK->Prop} {g:List D->Ou D} {σ:St} {H:Hp} {Q:VK} (hr:∀ (B:Addr->Prop) (H:Hp) (ds:List D) (vs:List V) (Q:VK),Reps X.K B H ds vs->(∀ d,g ds=.ok d->isS d=true/\(Q (toV d) H->r vs H Q))/\∀ z,g ds≠.ex z) (hm:notF m=true) (h:tX X.K E m (Qf g fs) σ H Q):tCB r (tXA X.K E .W fs) σ H Q:=by
 obtain ⟨c,δ,hK,ab,h⟩:=h
 refine ⟨c,δ,hK,ab,(Res.bind h).imp fun ds _ k vs H1 e1 r1=>?_⟩
 have r1':Reps X.K c.B H1 ds vs:=by rw [← hK];exact r1
 have q:=hr c.B H1 ds vs Q r1'
 cases e:g ds with
 | ok d =>
  rw [e] at k
  exact (q.1 d e).2 (k (toV d) H1 e1 (Post.ofS hm (q.1 d e).1))
 | ex z=>exact (q.2 z e).elim
 | bad=>rw [e] at k;exact k.elim
theorem xb {id:String} {g:List D->Ou D} (hc:Qkz X (.builtin id) g) (hm:X.mg x=none) (ha:PA X (e::es) (tXA X.K E .W fs)) (hg:Gl X x:=by rfl) (hv:bootBuiltins x=some (.builtin id):=by decide +kernel) (hn:x≠"__name__":=by decide) (hdb:(x == ("__debug__":Str))=false:=by decide)
  (he:starEach (e::es) X.env=(false,eval e X.env)::starEach es X.env:=by rfl) (hpl:(backTo pos (starEach es X.env)).any (·.1)=false:=by rfl) (hf:notF m=true:=by rfl):PE X (.Call (.Name x p) (e::es) [] pos) (tX X.K E m (Qf g fs)):=by
 obtain ⟨r,h1,h2⟩:=hc
 exact (QcC h1 hg hm hv ha hn hdb he hpl).imp fun σ H Q q=>rd_cb h2 hf q
def gLen:List D->Ou D
 | [.tup ds]=>.ok (.int (ds.length:Nat))
 | [.lst ds]=>.ok (.int (ds.length:Nat))
 | [.frl ds]=>.ok (.int (ds.length:Nat))
 | [.dic _ ds]=>.ok (.int (ds.length:Nat))
 | [.str z]=>if z.length<=sizeLine then .ok (.int (z.length:Nat)) else .bad
 | _=>.bad
theorem Reps.one' {K:W.Frag} {B:Addr->Prop} {H:Hp} {d:D} {vs:List V} (r:Reps K B H [d] vs):∃ v,vs=[v]/\Rep K B H d v:=by
 simp only [Reps] at r
 obtain ⟨v,r',rfl,h1,rfl⟩:=r
 exact ⟨v,rfl,h1⟩
theorem Reps.two' {K:W.Frag} {B:Addr->Prop} {H:Hp} {d d':D} {vs:List V} (r:Reps K B H [d,d'] vs):∃ v v',vs=[v,v']/\Rep K B H d v/\Rep K B H d' v':=by
 simp only [Reps] at r
 obtain ⟨v,r',rfl,h1,v',r'',rfl,h2,rfl⟩:=r
 exact ⟨v,v',rfl,h1,h2⟩
theorem QkY:CallR X (.builtin "len") (fun xs H Q=>∃ a kvs,xs=[V.ref a]/\Rd H a (.dK kvs)/\Q (.int kvs.length) H):=by
 intro pins s σ H xs us Q I r h
 obtain ⟨a,kvs,rfl,ha,q⟩:=h
 obtain ⟨u,rfl,ru⟩:=Qct r
 cases ru
 exact d_len I ha fun t s' I'=>⟨.int kvs.length,H,I',⟨t,rfl⟩,q⟩
theorem Qbn:Qkz X (.builtin "len") gLen:=by
 refine ⟨_,CallR.or QhK (CallR.or Qhk QkY),fun B H ds vs Q r=>⟨fun d h=>?_,fun z h=>?_⟩⟩
 ·unfold gLen at h
  split at h
  ·cases h
   obtain ⟨v,rfl,r2⟩:=r.one'
   simp only [Rep] at r2
   obtain ⟨a,xs,rfl,h1,h2⟩:=r2
   exact ⟨rfl,fun q=>.inl ⟨a,xs,rfl,.inr h1,by rw [h2.length];exact q⟩⟩
  ·cases h
   obtain ⟨v,rfl,r2⟩:=r.one'
   simp only [Rep] at r2
   obtain ⟨a,xs,rfl,_,h1,h2⟩:=r2
   exact ⟨rfl,fun q=>.inl ⟨a,xs,rfl,.inl (.of h1),by rw [h2.length];exact q⟩⟩
  ·cases h
   obtain ⟨v,rfl,r2⟩:=r.one'
   simp only [Rep] at r2
   obtain ⟨a,xs,rfl,h1,h2⟩:=r2
   exact ⟨rfl,fun q=>.inl ⟨a,xs,rfl,.inl h1.sq,by rw [h2.length];exact q⟩⟩
  ·cases h
   obtain ⟨v,rfl,r2⟩:=r.one'
   simp only [Rep] at r2
   obtain ⟨a,kvs,rfl,_,h1,_,h2⟩:=r2
   have hl:=h2.length
   rw [List.length_map] at hl
   exact ⟨rfl,fun q=>.inr (.inr ⟨a,kvs,rfl,h1,by rw [hl];exact q⟩)⟩
  ·split at h
   ·rename_i z hl
    cases h
    obtain ⟨v,rfl,r2⟩:=r.one'
    simp only [Rep] at r2
    subst r2
    exact ⟨rfl,fun q=>.inr (.inl ⟨_,rfl,hl,q⟩)⟩
   ·cases h
  ·cases h
 ·unfold gLen at h
  split at h <;> first | cases h | (split at h <;> cases h)
def gMin:List D->Ou D
 | [.int i,.int j]=>.ok (.int (if j < i then j else i))
 | _=>.bad
def gMax:List D->Ou D
 | [.int i,.int j]=>.ok (.int (if j > i then j else i))
 | _=>.bad
theorem Qe5 (hc:X.calm=true:=by rfl):Qkz X (.builtin "min") gMin:=by
 refine ⟨_,Qly hc,fun B H ds vs Q r=>⟨fun d h=>?_,fun z h=>?_⟩⟩
 ·unfold gMin at h
  split at h
  ·cases h
   obtain ⟨v,v',rfl,r1,r2⟩:=r.two'
   simp only [Rep] at r1 r2
   subst r1;subst r2
   exact ⟨rfl,fun q=>⟨_,_,rfl,q⟩⟩
  ·cases h
 ·unfold gMin at h
  split at h <;> cases h
theorem Qfi (hc:X.calm=true:=by rfl):Qkz X (.builtin "max") gMax:=by
 refine ⟨_,QkL hc,fun B H ds vs Q r=>⟨fun d h=>?_,fun z h=>?_⟩⟩
 ·unfold gMax at h
  split at h
  ·cases h
   obtain ⟨v,v',rfl,r1,r2⟩:=r.two'
   simp only [Rep] at r1 r2
   subst r1;subst r2
   exact ⟨rfl,fun q=>⟨_,_,rfl,q⟩⟩
  ·cases h
 ·unfold gMax at h
  split at h <;> cases h
def Qoq (t T:String):Option Bool:=if (Value.type t == Value.type T)=true then some true else if W.kitMeta T=true then (PySem.fastBuiltinMro t).map (·.contains (.type T)) else none
inductive TyV (K:W.Frag) (H:Hp):V->String->Prop where
 | non:TyV K H .non "NoneType"
 | bl (x:Bool):TyV K H (.bl x) "bool"
 | int (i:Int):TyV K H (.int i) "int"
 | str (x:Str):TyV K H (.str x) "str"
 | lst {a:Addr} {xs:List V} (e:SqL K H a xs):TyV K H (.ref a) "list"
 | tup {a:Addr} {xs:List V} (e:SqT K H a xs):TyV K H (.ref a) "tuple"
theorem QmI:CallR X (.builtin "isinstance") (fun vs H Q=>∃ v t T k,vs=[v,.ty T]/\TyV X.K H v t/\Qoq t T=some k/\Q (.bl k) H):=by
 intro pins s σ H xs us Q I r h
 obtain ⟨v,t,T,k,rfl,ty,hk,q⟩:=h
 obtain ⟨u,w',rfl,ru,rw'⟩:=QjO r
 obtain rfl:w'=Value.type T:=rw'
 have e:W.kitOne X.K (.type t) (.type T)=some k:=hk
 have fin:∀ tk,EP X pins σ Q (.bool k) { s with toks:=tk }:=fun tk=>⟨.bl k,H,I.tok tk,rfl,q⟩
 cases ty with
 | non=>cases (show u=Value.none from ru);exact W.kia_one W.kitx_none I.kIn True.intro e (fun z=>nomatch z) fin
 | bl y=>cases (show u=Value.bool y from ru);exact W.kia_one W.kitx_bool I.kIn True.intro e (fun z=>nomatch z) fin
 | int i=>obtain ⟨t,z⟩:=(show ∃ t,u=Value.int i t from ru);cases z;exact W.kia_one W.kitx_int I.kIn True.intro e (fun z=>nomatch z) fin
 | str y=>obtain ⟨t,z⟩:=(show ∃ t,u=Value.str y t from ru);cases z;exact W.kia_one W.kitx_str I.kIn True.intro e (fun z=>nomatch z) fin
 | @lst a xs ea =>
  cases (show u=Value.ref a from ru)
  obtain ⟨its,_,⟨o,n,h1,h2,_⟩,_⟩:=I.list ea
  exact W.kia_one W.kitx_list I.kIn ⟨o,h1,h2⟩ e (fun z=>nomatch z) fin
 | @tup a xs ea =>
  cases (show u=Value.ref a from ru)
  obtain ⟨its,_,⟨o,h1,h2,_⟩,_⟩:=I.tuple ea
  exact W.kia_one W.kitx_tuple I.kIn ⟨o,h1,h2⟩ e (fun z=>nomatch z) fin
def tyN:D->String
 | .non=>"NoneType"
 | .bl _=>"bool"
 | .int _=>"int"
 | .str _=>"str"
 | .tup _=>"tuple"
 | .lst _=>"list"
 | .frl _=>"list"
 | .dic _ _=>"dict"
 | .obj _=>"object"
 | .dip _ _=>"dict"
 | .exc _ _ _=>"object"
def isT (t T:String):Bool:=t == T || (t == "bool" && T == "int")
def gIs (T:String):D->Ou D
 | .obj _=>.bad
 | .dic _ _=>.bad
 | .dip _ _=>.bad
 | .exc _ _ _=>.bad
 | d=>.ok (.bl (isT (tyN d) T))
theorem ty_of {K:W.Frag} {B:Addr->Prop} {H:Hp} {d:D} {v:V} (r:Rep K B H d v) (hd:rk d≠3):TyV K H v (tyN d)/\tyN d∈["NoneType","bool","int","str","tuple","list"]:=by
 cases d <;> simp only [Rep] at r
 ·subst r;exact ⟨.non,by decide⟩
 ·subst r;exact ⟨.bl _,by simp [tyN]⟩
 ·subst r;exact ⟨.int _,by simp [tyN]⟩
 ·subst r;exact ⟨.str _,by simp [tyN]⟩
 ·obtain ⟨a,xs,rfl,h1,_⟩:=r;exact ⟨.tup h1,by simp [tyN]⟩
 ·obtain ⟨a,xs,rfl,_,h1,_⟩:=r;exact ⟨.lst (.of h1),by simp [tyN]⟩
 ·obtain ⟨a,xs,rfl,h1,_⟩:=r;exact ⟨.lst h1.sq,by simp [tyN]⟩
 ·exact absurd rfl hd
 ·exact absurd rfl hd
 ·exact absurd rfl hd
 ·exact absurd rfl hd
theorem xis {T:String} {tx:Str} {p2:Pos} (z1:X.mg "isinstance" = none) (z2:X.mg tx=none) (ha:PE X a (tX X.K E .W fa)) (hb:bootBuiltins tx=some (.type T):=by decide +kernel)
  (hT:∀ t∈["NoneType","bool","int","str","tuple","list"],Qoq t T=some (isT t T):=by decide +kernel) (hg1:Gl X "isinstance":=by rfl) (hg2:Gl X tx:=by rfl) (hn:tx≠"__name__":=by decide) (hdb:(tx == ("__debug__":Str))=false:=by decide)
  (he:starEach [a,.Name tx p2] X.env=(false,eval a X.env)::starEach [.Name tx p2] X.env:=by rfl) (he2:starEach [.Name tx p2] X.env=(false,eval (.Name tx p2) X.env)::starEach [] X.env:=by rfl) (hpl:(backTo pos (starEach [.Name tx p2] X.env)).any (·.1)=false:=by rfl) (hf:notF m=true:=by rfl) :
  PE X (.Call (.Name "isinstance" p) [a,.Name tx p2] [] pos) (tX X.K E m (f1 (gIs T) fa)):=by
 have hty:PE X (.Name tx p2) (tC (.ty T)):=QnF hg2 z2 hb rfl hn hdb
 refine (QcC QmI hg1 z1 (by decide +kernel) (Qae ha (Qae hty pa_nil he2) he) (by decide) (by decide) he hpl).imp fun σ H Q q=>?_
 obtain ⟨c,δ,hK,ab,q⟩:=q
 refine ⟨c,δ,hK,ab,(Res.bind q).imp fun d _ k v H1 e1 r1=>?_⟩
 have r1':Rep X.K c.B H1 d v:=by rw [← hK];exact r1
 by_cases hd:rk d=3
 ·cases d <;> first | exact k.elim | (simp [rk] at hd)
 ·have hg:gIs T d=.ok (.bl (isT (tyN d) T)):=by
   cases d <;> first | rfl | exact absurd rfl hd
  rw [hg] at k
  obtain ⟨t1,t2⟩:=ty_of r1' hd
  exact ⟨v,tyN d,T,_,rfl,t1,hT _ t2,k _ H1 e1 (Post.ofS hf rfl)⟩
def QlY:D->Ou D
 | .int i=>.ok (.int (Builtin.Int.intBits i:Nat))
 | _=>.bad
theorem Qnu:MtR X "int.bit_length" (fun x xs H Q=>∃ i,x=.int i/\xs=[]/\Q (.int (Builtin.Int.intBits i:Nat)) H):=by
 intro pins s σ H x xs v us Q I rx rs h
 obtain ⟨i,rfl,rfl,q⟩:=h
 obtain ⟨t,rfl⟩:=rx
 cases rs
 exact call_int_bit_length ⟨.int _,H,I.tok _,⟨_,rfl⟩,q⟩
theorem xbits {apos cpos:Pos} (ha:PE X a (tX X.K E .W fa)) (hbase:attributeBase a "bit_length" X.env (eval a X.env)=eval a X.env:=by rfl) (hline:(apos.endLine == cpos.line)=true:=by rfl) (hf:notF m=true:=by rfl):PE X (.Call (.Attribute a "bit_length" apos) [] [] cpos) (tX X.K E m (f1 QlY fa)) :=
 (Qi9 PySem.F.plainAttrs_int PySem.F.slot_int_bit_length PySem.F.type_int_bit_length Qnu ha hbase hline).imp fun σ H Q q=>by
 obtain ⟨c,δ,hK,ab,q⟩:=q
 refine ⟨c,δ,hK,ab,(Res.bind q).imp fun d _ k v H1 e1 r1=>?_⟩
 have r1':Rep c.K c.B H1 d v:=r1
 cases d <;> first | exact k.elim | skip
 simp only [Rep] at r1'
 subst r1'
 exact ⟨rfl,_,rfl,rfl,k _ H1 e1 (Post.ofS hf rfl)⟩
theorem Qg2 {tg:Expr} {body:List Stmt} {g:D->DS->Ou DS} (hp:PassesOwn (model X.prog X.w) X.A X.env X.xe) (hc:X.calm=true) (hm:X.mg "range" = none) (ha:PA X [a] (tXA X.K E .W [fa])) (hg:PG X tg (tG X.K E g)) (hb:PSs X body (tS X.K E fr F))
  (hgl:Gl X "range":=by rfl) (hse:starEach [a] X.env=[(false,eval a X.env)]:=by rfl) (hs:∀ x,foldedSetIterable (.Call (.Name "range" p) [a] [] pos) X.env x=pure x:=by intro _;rfl) {fpos:Pos} :
  PS X (.For tg (.Call (.Name "range" p) [a] [] pos) body [] fpos) (tS X.K E fr (sRng [fa] g F)):=(Qd5 hp hc (Qgs hgl hm ha hse) hg hb hs).imp fun D σ H q=>by
 obtain ⟨c,δ,hK,ab,q⟩:=q
 refine ⟨c,δ,hK,ab,(Res.bind q).imp fun ds hds k vs H1 e1 r1=>?_⟩
 have hl:ds.length=1:=Qax hds
 obtain ⟨d,rfl⟩:∃ d,ds=[d]:=by
  cases ds with
  | nil=>cases hl
  | cons d r =>
   cases r with
   | nil=>exact ⟨d,rfl⟩
   | cons d' r=>simp at hl
 obtain ⟨v,rfl,r2⟩:=r1.one'
 cases d <;> first | exact k.elim | skip
 simp only [Rep] at r2
 subst r2
 rename_i j
 by_cases hj:rOk j=true
 ·simp only [hj,if_true] at k
  have hj':=of_decide_eq_true hj
  exact ⟨j,rfl,hj'.1,hj'.2,Qoi hK (ab.grow e1) k ab.pi⟩
 ·simp only [if_neg hj] at k
  exact k.elim
def QjV:Option Fn->DS->Ou (Option Int)
 | none,_=>.ok none
 | some f,δ=>(f δ).bind fun d=>match d with
  | .int i=>.ok (some i)
  | _=>.bad
def tP (K:W.Frag) (E:XK) (f:Option Fn):TO:=fun σ H Q=>∃ c δ,c.K=K/\Abs c σ δ H/\Res K E c.H₀ (QjV f δ) fun i=>∀ H',Same H H'->Q i H'
theorem PO.imp {e:Option Expr} {t t':TO} (h:PO X e t) (hi:∀ σ H Q,t' σ H Q->t σ H Q):PO X e t':=fun pins s σ H Q I q=>h pins s σ H Q I (hi _ _ _ q)
theorem QiG:PO X none (tP X.K E none):=PO.imp QnM fun σ H Q q=>by
 obtain ⟨c,δ,hK,ab,q⟩:=q
 exact q H (Same.refl H)
theorem QiA (h:PE X e (tX X.K E .W fe)):PO X (some e) (tP X.K E (some fe)):=PO.imp (Qnc h) fun σ H Q q=>by
 obtain ⟨c,δ,hK,ab,q⟩:=q
 refine ⟨c,δ,hK,ab,(Res.bind q).imp fun d _ k v H1 e1 r1=>?_⟩
 have r1':Rep c.K c.B H1 d v:=r1
 cases d <;> first | exact k.elim | skip
 simp only [Rep] at r1'
 exact ⟨_,r1',k H1 e1⟩
def cutD (xs:List D) (lo hi:Option Int):List D:=(xs.drop (HT.sIx xs.length 0 lo)).take (HT.sIx xs.length xs.length hi - HT.sIx xs.length 0 lo)
def fSl (f:Fn) (lo hi:Option Fn):Fn:=fun δ=>(f δ).bind fun d=>(QjV lo δ).bind fun l=>(QjV hi δ).bind fun u=>match d with
 | .lst ds=>.ok (.lst (cutD ds l u))
 | .frl ds=>.ok (.lst (cutD ds l u))
 | _=>.bad
theorem Reps.cut {K:W.Frag} {B:Addr->Prop} {H:Hp} {ds:List D} {vs:List V} (lo hi:Option Int) (r:Reps K B H ds vs):Reps K B H (cutD ds lo hi) (cutV vs lo hi):=by
 unfold cutD cutV
 rw [r.length]
 exact Reps.take _ (Reps.drop _ r)
theorem xsl {lo hi:Option Expr} {flo fhi:Option Fn} {p2:Pos} (he:PE X e (tX X.K E .S fe)) (hl:PO X lo (tP X.K E flo)) (hu:PO X hi (tP X.K E fhi)):PE X (.Subscript e (.Slice lo hi none p2) pos) (tX X.K E .F (fSl fe flo fhi)):=(QlM QnA he hl hu).imp fun σ H Q q=>by
 obtain ⟨c,δ,hK,ab,q⟩:=q
 refine ⟨c,δ,hK,ab,(Res.bind q).imp fun d hd k v H1 e1 r1=>?_⟩
 refine ⟨c,δ,hK,ab.grow e1,(Res.bind k).imp fun l _ k H2 e2=>?_⟩
 refine ⟨c,δ,hK,(ab.grow e1).grow e2,(Res.bind k).imp fun u _ k H3 e3=>?_⟩
 have r1':Rep c.K (Av c σ δ) H3 d v:=Rep.same (Rep.same (show Rep c.K (Av c σ δ) H1 d v from r1) e2) e3
 have e13:=(e1.trans e2).trans e3
 cases d <;> first | exact k.elim | skip
 ·rename_i ds
  simp only [Rep] at r1'
  obtain ⟨a,xs,rfl,_,h1,h2⟩:=r1'
  exact ⟨a,xs,rfl,.of h1,fun p hp=>k (.ref p) _ (e13.trans (Qp hp _)) ⟨p,_,rfl,e13.free hp,Qm,_,rfl,(Reps.off (Reps.cut l u h2) hp).same (Qp hp _)⟩⟩
 ·rename_i ds
  simp only [Rep] at r1'
  obtain ⟨a,xs,rfl,h1,h2⟩:=r1'
  exact ⟨a,xs,rfl,by rw [← hK];exact h1.sq,fun p hp=>k (.ref p) _ (e13.trans (Qp hp _)) ⟨p,_,rfl,e13.free hp,Qm,_,rfl,(Reps.off (Reps.cut l u h2) hp).same (Qp hp _)⟩⟩
theorem Qn1:OpR X (binaryOp .Add) (fun x y H Q=>∃ a b xs ys,x=.ref a/\y=.ref b/\SqL X.K H a xs/\SqL X.K H b ys/\xs.length + ys.length<=sizeLine/\∀ p,H p=none->Q (.ref p) (upd H p (.lst (xs++ys)))):=by
 intro pins s σ H x y v u Q I rx ry h
 obtain ⟨a,b,xs,ys,rfl,rfl,h1,h2,hz,q⟩:=h
 cases rx
 cases ry
 obtain ⟨us,r1,⟨⟨cls,dd,data,sl⟩,n,ho,hc,hdn,hd⟩,_⟩:=I.list h1
 obtain ⟨ws,r2,⟨⟨cls2,dd2,data2,sl2⟩,n2,ho2,hc2,hdn2,hd2⟩,_⟩:=I.list h2
 simp only at hc hd hc2 hd2
 subst hc hd hc2 hd2
 have l1:=r1.length
 have l2:=r2.length
 have ea:us.toArray++ws.toArray=(us++ws).toArray:=by simp
 refine concat_meets ⟨_,ho,rfl⟩ ⟨_,ho2,rfl⟩ noFill_list_add seq_list_add PySem.F.slot_list_add PySem.F.entry_list_add (PySem.F.args_list_add_2 _ _) (list_addW a b us.toArray ws.toArray n n2 dd dd2 sl sl2 (by rw [List.size_toArray,List.size_toArray];lia)) ⟨ho,ho2,?_⟩
 rw [ea]
 exact ⟨.ref _,_,I.lnew (t':=s.toks) (r1.append r2) (by rw [List.length_append];lia),rfl,q _ I.fresh⟩
def gCat:D->D->Ou D
 | .lst xs,.lst ys=>if xs.length + ys.length<=sizeLine then .ok (.lst (xs++ys)) else .bad
 | .frl xs,.lst ys=>if xs.length + ys.length<=sizeLine then .ok (.lst (xs++ys)) else .bad
 | _,_=>.bad
theorem xcat (ha:PE X a (tX X.K E .S fa)) (hb:PE X b (tX X.K E .S fb)):PE X (.BinOp a .Add b pos) (tX X.K E .F (f2 gCat fa fb)):=(QlK Qn1 ha hb).imp fun σ H Q q=>by
 obtain ⟨c,δ,hK,ab,q⟩:=q
 refine ⟨c,δ,hK,ab,(Res.bind q).imp fun dx hx0 k x H1 e1 r1=>?_⟩
 refine ⟨c,δ,hK,ab.grow e1,(Res.bind k).imp fun dy hy0 k2 y H2 e2 r2=>?_⟩
 have r1':Rep c.K (Av c σ δ) H2 dx x:=Rep.same (show Rep c.K (Av c σ δ) H1 dx x from r1) e2
 have r2':Rep c.K (Av c σ δ) H2 dy y:=r2
 cases dx <;> first | (cases dy <;> exact k2.elim) | skip
 ·rename_i xs
  cases dy <;> first | exact k2.elim | skip
  rename_i ys
  simp only [Rep] at r1' r2'
  obtain ⟨a,vs,rfl,_,h1,h2⟩:=r1'
  obtain ⟨b,us,rfl,_,h3,h4⟩:=r2'
  unfold gCat at k2
  by_cases hl:xs.length + ys.length<=sizeLine
  ·simp only [if_pos hl] at k2
   exact ⟨a,b,vs,us,rfl,rfl,.of h1,.of h3,by rw [h2.length,h4.length];exact hl,fun p hp=>k2 (.ref p) _ ((e1.trans e2).trans (Qp hp _)) ⟨p,_,rfl,(e1.trans e2).free hp,Qm,_,rfl,(Reps.off (Reps.append h2 h4) hp).same (Qp hp _)⟩⟩
  ·simp only [if_neg hl] at k2
   exact k2.elim
 ·rename_i xs
  cases dy <;> first | exact k2.elim | skip
  rename_i ys
  simp only [Rep] at r1' r2'
  obtain ⟨a,vs,rfl,h1,h2⟩:=r1'
  obtain ⟨b,us,rfl,_,h3,h4⟩:=r2'
  unfold gCat at k2
  by_cases hl:xs.length + ys.length<=sizeLine
  ·simp only [if_pos hl] at k2
   exact ⟨a,b,vs,us,rfl,rfl,(by rw [← hK];exact h1.sq),.of h3,by rw [h2.length,h4.length];exact hl,fun p hp=>k2 (.ref p) _ ((e1.trans e2).trans (Qp hp _)) ⟨p,_,rfl,(e1.trans e2).free hp,Qm,_,rfl,(Reps.off (Reps.append h2 h4) hp).same (Qp hp _)⟩⟩
  ·simp only [if_neg hl] at k2
   exact k2.elim
def sApp (i:Nat) (f:Fn):Sm:=fun δ=>match δ[i]? with
 | some (.own (.lst ds))=>(f δ).bind fun d=>if ds.length < sizeLine then .ok (.nx (δ.set i (.own (.lst (ds++[d]))))) else .bad
 | _=>.bad
theorem QgY (i:Nat) {px apos cpos:Pos} (he:PE X e (tX X.K E .S fe)) (hN:X.N[i]? = some x:=by rfl) (hv:Vis X.env.scope x:=by first | exact Or.inl rfl | exact Or.inr (Or.inl rfl) | exact Or.inr (Or.inr rfl)) (hd:(x == ("__debug__":Str))=false:=by decide) (hcd:(x == ("__classdict__":Str))=false:=by decide)
  (hst:starEach [e] X.env=(false,eval e X.env)::starEach [] X.env:=by rfl) (hs:swapsWith (.Call (.Attribute (.Name x px) "append" apos) [e] [] cpos) none pos.line X.env=pure false:=by rfl) (hb:attributeBase (.Name x px) "append" X.env (eval (.Name x px) X.env)=eval (.Name x px) X.env:=by rfl) (h1:(apos.endLine == cpos.line)=true:=by rfl)
  (h2:(backTo cpos (starEach ([]:List Expr) X.env)).any (·.1)=false:=by rfl)
  (hfew:((backTo cpos (starEach [e] X.env)).all (fun x=>!x.1) && (backToKw cpos (keywordEach [] X.env)).all (fun x=>x.1.isSome) && decide (([e]:List Expr).length + ([]:List Keyword).length + (if ([]:List Keyword).isEmpty then 0 else 1) < 30))=true:=by rfl) :
  PS X (.Expr (.Call (.Attribute (.Name x px) "append" apos) [e] [] cpos) pos) (tS X.K E fr (sApp i fe)) :=
 (QcV (QjU PySem.F.plainAttrs_list PySem.F.slot_list_append PySem.F.type_list_append Qel (pv i hN hv hd hcd) (Qae he pa_nil hst) hb hfew h1 hst h2) hs).imp fun D σ H q=>by
 obtain ⟨c,δ,hK,ab,q⟩:=q
 unfold sApp at q
 cases e0:δ[i]? with
 | none=>rw [e0] at q;exact q.elim
 | some s =>
  rw [e0] at q
  cases s with
  | un=>exact q.elim
  | val d=>exact q.elim
  | own d =>
   cases d <;> first | exact q.elim | skip
   rename_i ds
   obtain ⟨p,o,g1,g2,g3,xs,rfl,g4⟩:=ab.own i _ e0
   refine ⟨.ref p,g1,.inl ⟨rfl,xs,.of g2⟩,c,δ,hK,ab,(Res.bind q).imp fun d _ k v H1 e1 r1=>?_⟩
   by_cases hl:ds.length < sizeLine
   ·simp only [if_pos hl] at k
    have z2:=e1 _ _ g2
    exact ⟨p,xs,v,rfl,rfl,z2,by rw [g4.length];exact hl,k σ _ ((ab.grow e1).mut e0 g1 ⟨_,rfl,Reps.append (g4.same e1) (Reps.one r1)⟩)⟩
   ·simp only [if_neg hl] at k
    exact k.elim
def sPut (i:Nat) (fk fv:Fn):Sm:=fun δ=>(fv δ).bind fun d=>match δ[i]? with
 | some (.own (.lst ds))=>(fk δ).bind fun k=>match k with
  | .int j=>(match ixN ds.length j with
   | some n=>.ok (.nx (δ.set i (.own (.lst (ds.set n d)))))
   | none=>.bad)
  | _=>.bad
 | _=>.bad
theorem Qpe (i:Nat) {px tpos:Pos} (hk:PE X b (tX X.K E .W fb)) (he:PE X e (tX X.K E .S fe)) (hN:X.N[i]? = some x:=by rfl) (hv:Vis X.env.scope x:=by first | exact Or.inl rfl | exact Or.inr (Or.inl rfl) | exact Or.inr (Or.inr rfl)) (hd:(x == ("__debug__":Str))=false:=by decide) (hcd:(x == ("__classdict__":Str))=false:=by decide)
  (ha:∀ v,assign (.Subscript (.Name x px) b tpos) X.env v=(do
   let ov ← holding [v] (eval (.Name x px) X.env)
   let iv ← holding [v,ov] (eval b X.env)
   standAt tpos
   holding [v,ov,iv] (setItem ov iv v)
   release [v,ov,iv] []):=by intro _;rfl)
  (hs:swapsWithSole [.Subscript (.Name x px) b tpos] e pos.line X.env=pure false:=by rfl) (hw:swappedStores [.Subscript (.Name x px) b tpos] e X.env=pure none:=by rfl) (ha1:(assignEach [.Subscript (.Name x px) b tpos] X.env).map (·.2)=[assign (.Subscript (.Name x px) b tpos) X.env]:=by rfl) :
  PS X (.Assign [.Subscript (.Name x px) b tpos] e pos) (tS X.K E fr (sPut i fb fe)):=(QlV he (QpD (pv i hN hv hd hcd) hk QmV ha) hs hw ha1).imp fun D σ H q=>by
 obtain ⟨c,δ,hK,ab,q⟩:=q
 refine ⟨c,δ,hK,ab,(Res.bind q).imp fun d _ k v H1 e1 r1=>?_⟩
 cases e0:δ[i]? with
 | none=>rw [e0] at k;exact k.elim
 | some s =>
  rw [e0] at k
  cases s with
  | un=>exact k.elim
  | val d=>exact k.elim
  | own dd =>
   cases dd <;> first | exact k.elim | skip
   rename_i ds
   obtain ⟨p,o,g1,g2,g3,xs,rfl,g4⟩:=ab.own i _ e0
   refine ⟨.ref p,g1,c,δ,hK,ab.grow e1,(Res.bind k).imp fun dk hk0 k kv H2 e2 r2=>?_⟩
   have r2':Rep c.K c.B H2 dk kv:=r2
   cases dk <;> first | exact k.elim | skip
   rename_i j
   simp only [Rep] at r2'
   subst r2'
   cases e3:ixN ds.length j with
   | none=>simp only [e3] at k;exact k.elim
   | some n =>
    simp only [e3] at k
    have z2:=e2 _ _ (e1 _ _ g2)
    have z3:=(g4.same e1).same e2
    refine ⟨p,xs,j,n,rfl,rfl,z2,by rw [z3.length];exact e3,k σ _ (((ab.grow e1).grow e2).mut e0 g1 ⟨_,rfl,Reps.set n z3 (Rep.same (show Rep c.K (Av c σ δ) H1 d v from r1) e2)⟩)⟩
def gNm2 (i j:Nat):D->DS->Ou DS:=fun d δ=>match d with
 | .tup [x,y]=>.ok ((δ.set i (.val x)).set j (.val y))
 | _=>.bad
theorem xg_2 (i j:Nat) {y:Str} {px py:Pos} {k2:_} (hN:X.N.Nodup) (hc:X.calm=true:=by rfl) (hi:X.N[i]? = some x:=by rfl) (hj:X.N[j]? = some y:=by rfl) (hx:Loc X.env.scope x:=by first | exact Or.inl rfl | exact Or.inr rfl) (hy:Loc X.env.scope y:=by first | exact Or.inl rfl | exact Or.inr rfl)
  (hfx:X.fn x=true\/X.env.scope.names.lookup x=some .local:=by first | exact .inl rfl | exact .inr rfl) (hfy:X.fn y=true\/X.env.scope.names.lookup y=some .local:=by first | exact .inl rfl | exact .inr rfl)
  (h1:(assignEach [.Name x px,.Name y py] X.env).map (·.2)=assign (.Name x px) X.env::(assignEach [.Name y py] X.env).map (·.2):=by rfl) (h2:(assignEach [.Name y py] X.env).map (·.2)=assign (.Name y py) X.env::(assignEach [] X.env).map (·.2):=by rfl)
  (hn:(assignEach [.Name x px,.Name y py] X.env).length=2:=by rfl) (hst:(assignEach [.Name x px,.Name y py] X.env).findIdx? (·.1)=none:=by rfl):PG X (.Tuple [.Name x px,.Name y py] k2 pos) (tG X.K E (gNm2 i j)) :=
 (QpW hc (QiJ (Qdy hN hi hx hfx) (QiJ (Qdy hN hj hy hfy) QnU h2) h1) hn hst).imp fun v σ H Q q=>by
 obtain ⟨c,δ,d,hK,ab,r,q⟩:=q
 unfold gNm2 at q
 split at q
 ·rename_i d1 d2
  simp only [Rep] at r
  obtain ⟨a,xs,rfl,h1,h2⟩:=r
  obtain ⟨v1,v2,rfl,r1,r2⟩:=h2.two'
  refine ⟨a,[v1,v2],rfl,by rw [← hK];exact h1,rfl,v1,[v2],rfl,v2,[],rfl,rfl,?_⟩
  have ab1:=ab.set_val (i:=i) (Same.refl H) r1
  exact q _ H (Same.refl H) (ab1.set_val (i:=j) (Same.refl H) (r2.weak fun a z=>⟨z.1,fun o=>z.2 (Qes o)⟩))
 ·exact q.elim
def sAsg (f:Fn) (g:D->DS->Ou DS):Sm:=fun δ=>(f δ).bind fun d=>(g d δ).bind fun δ'=>.ok (.nx δ')
theorem Qp2 {tg:Expr} {g:D->DS->Ou DS} (he:PE X e (tX X.K E .S fe)) (hg:PG X tg (tG X.K E g)) (hs:swapsWithSole [tg] e pos.line X.env=pure false:=by rfl) (hw:swappedStores [tg] e X.env=pure none:=by rfl) (h1:(assignEach [tg] X.env).map (·.2)=[assign tg X.env]:=by rfl):PS X (.Assign [tg] e pos) (tS X.K E fr (sAsg fe g)):=(QlV he hg hs hw h1).imp fun D σ H q=>by
 obtain ⟨c,δ,hK,ab,q⟩:=q
 refine ⟨c,δ,hK,ab,(Res.bind q).imp fun d _ k v H1 e1 r1=>?_⟩
 exact ⟨c,δ,d,hK,ab.grow e1,r1,(Res.bind k).imp fun δ' _ k σ' H' _ ab'=>k σ' H' ab'⟩
end
def Qbq (g:D->DS->Ou DS) (gc:DS->Ou Bool) (fe:Fn):List D->DS->Ou (List D)
 | [],_=>.ok []
 | x::xs,δ=>(g x δ).bind fun δ1=>(gc δ1).bind fun b=>if b=true then (fe δ1).bind fun y=>(Qbq g gc fe xs δ1).bind fun ys=>.ok (y::ys) else Qbq g gc fe xs δ1
def slIn:Option Sl->Sl
 | some (.val d)=>.val d
 | _=>.un
def dsIn (k:Nat) (ix:List Nat) (δ:DS):DS:=List.replicate k .un++ix.map fun i=>slIn δ[i]?
def fYes:DS->Ou Bool:=fun _=>.ok true
def QbS (fi:DS->Ou (List D)) (g:D->DS->Ou DS) (gc:DS->Ou Bool) (fe:Fn) (k:Nat) (ix:List Nat):Fn:=fun δ=>(fi δ).bind fun ds=>if ds.length<=sizeLine then (Qbq g gc fe ds (dsIn k ix δ)).bind fun ys=>.ok (.lst ys) else .bad
def QgT (f:Fn):DS->Ou (List D):=fun δ=>(f δ).bind fun d=>match d with
 | .lst ds=>.ok ds
 | .frl ds=>.ok ds
 | _=>.bad
def QeP (f:Fn):DS->Ou (List D):=fun δ=>(f δ).bind fun d=>match d with
 | .tup ds=>.ok ds
 | _=>.bad
def Qfs (fs:List Fn):DS->Ou (List D):=fun δ=>(Qaq fs δ).bind fun ds=>match ds with
 | [.int j]=>if rOk j=true then .ok (rng 0 j.toNat) else .bad
 | [.int i,.int j]=>if rOk i=true/\rOk j=true then .ok (rng i (j - i).toNat) else .bad
 | _=>.bad
section
variable {c:Cn} {σ:St} {δ:DS} {H H1:Hp}
theorem Abs.off {p:Addr} {ys zs:List V} (a:Abs c σ δ H) (hp:H p=some (.lst ys)) (h0:c.H₀ p=none) (hB:¬ c.B p):Abs c σ δ (upd H p (.lst zs)):=by
 have hne:∀ q,Av c σ δ q->q≠p:=fun q z e=>by subst e;exact hB z.1
 have st:Stay c.K (Av c σ δ) H (upd H p (.lst zs)):=⟨fun q ys z=>by
   rcases z with (z | ⟨o,z⟩) | z
   ·exact .inl (.inl (by rw [Ql (Qbt z hp (by intro w;cases w))];exact z))
   ·exact .inl (.inr ⟨o,by rw [Ql (Qbt z hp (by intro w;cases w))];exact z⟩)
   ·exact .inr z,fun q ys z=>by
   rcases z with ⟨o,z⟩ | z
   ·exact .inl ⟨o,by rw [Ql (Qbt z hp (by intro w;cases w))];exact z⟩
   ·exact .inr z,fun q o z w=>by rw [Ql (hne q z)];exact w⟩
 refine ⟨fun b o z=>?_,fun b z=>a.fr b ?_,a.len,fun j d z=>?_,fun j d z=>?_,fun d v z=>Rep.mono (fun _ _ w _=>w) st d v (a.gho d v z),a.inj,a.pin⟩
 ·rw [Ql (QQ z h0)];exact a.same b o z
 ·by_cases hb:b=p
  ·subst hb;rw [Qm] at z;cases z
  ·rw [Ql hb] at z;exact z
 ·obtain ⟨v,z1,z2⟩:=a.val j d z
  exact ⟨v,z1,Rep.mono (fun _ _ w _=>w) st d v z2⟩
 ·obtain ⟨q,o,z1,z2,z3,z4⟩:=a.own j d z
  refine ⟨q,o,z1,?_,z3,RepO.mono (fun _ _ w _=>w) st z4⟩
  rw [Ql fun e=>by subst e;exact hB z3.2]
  exact z2
theorem Abs.block {p:Addr} {k:Nat} {ix:List Nat} (a:Abs c σ δ H) (hp:H p=none) :
  Abs { K:=c.K,B:=fun q=>Av c σ δ q/\q≠p,H₀:=H,G:=[] } (σin k ix σ) (dsIn k ix δ) (upd H p (.lst [])):=by
 have no:∀ (i:Nat) (z:D),(dsIn k ix δ)[i]? = some (Sl.own z)->False:=fun i z h=>by
  unfold dsIn at h
  rw [List.getElem?_append] at h
  split at h
  ·rw [List.getElem?_replicate] at h
   split at h <;> cases h
  ·rw [List.getElem?_map] at h
   cases e:ix[i - (List.replicate k Sl.un).length]? with
   | none=>rw [e] at h;cases h
   | some j =>
    rw [e] at h
    have h':slIn δ[j]? = Sl.own z:=Option.some.inj h
    unfold slIn at h'
    split at h' <;> cases h'
 have nown:∀ q,¬ Own (σin k ix σ) (dsIn k ix δ) q:=fun q ⟨i,z,h,_⟩=>no i z h
 refine ⟨Qp hp _,fun b hb=>?_,?_,fun i d h=>?_,fun i z h=>(no i z h).elim,fun d v h=>(nomatch h),fun i j di dj q h=>(no i di h).elim,fun i q hP=>(nomatch hP)⟩
 ·by_cases e:b=p
  ·subst e;rw [Qm] at hb;cases hb
  ·rw [Ql e] at hb
   exact ⟨a.av_new hb,e⟩
 ·unfold dsIn σin;simp
 ·unfold dsIn at h
  rw [List.getElem?_append] at h
  split at h
  ·rw [List.getElem?_replicate] at h
   split at h <;> cases h
  ·rename_i hik
   rw [List.length_replicate] at hik h
   rw [List.getElem?_map] at h
   cases e:ix[i - k]? with
   | none=>rw [e] at h;cases h
   | some j =>
    rw [e] at h
    have h':slIn δ[j]? = Sl.val d:=Option.some.inj h
    have hj:δ[j]? = some (Sl.val d):=by
     unfold slIn at h'
     split at h'
     ·cases h';assumption
     ·cases h'
    obtain ⟨v,z1,z2⟩:=a.val j d hj
    refine ⟨v,?_,?_⟩
    ·unfold σin
     rw [List.getElem?_append_right (by rw [List.length_replicate];lia),List.length_replicate,List.getElem?_map,e]
     show some ((σ[j]?).join)=_
     rw [z1];rfl
    ·refine Rep.mono (fun q o w1 w2=>⟨⟨w1,QQ w2 hp⟩,nown q⟩) (.of_same (Qp hp _)) d v z2
structure SrcI (J:It) (K:W.Frag) (B:Addr->Prop) (H1:Hp) (ds:List D):Prop where
 go:∀ (i:Nat) (H':Hp),Same H1 H'->i < ds.length->J.go i H'
 yld:∀ (i:Nat) (H':Hp) (x:V) (H'':Hp) (d:D),Same H1 H'->ds[i]? = some d->J.yld i H' x H''->H''=H'/\Rep K B H1 d x
 stop:∀ H':Hp,Same H1 H'->J.stop ds.length H'
theorem Qli {K:W.Frag} {J:It} {ds:List DL.D} {g:DL.D->DS->Ou DS} {gc:DS->Ou Bool} {fe:Fn} {k:Nat} {ix:List Nat} {Q:VK} (hK:c.K=K) (ab:Abs c σ δ H1) (src:SrcI J c.K (Av c σ δ) H1 ds) (hl:ds.length<=sizeLine)
  (kq:Res K E0 c.H₀ (Qbq g gc fe ds (dsIn k ix δ)) fun es=>∀ D xs H',H1 D=none->Same H1 H'->H' D=some (.lst xs)->Reps c.K (fun a=>Av c σ δ a/\a≠D) H' es xs->Q (.ref D) H') :
  ∀ D,H1 D=none->∃ W:Nat->Nat->St->List V->Hp->Prop,(∃ m,W 0 m (σin k ix σ) [] (upd H1 D (.lst []))) /\
   ∀ i m σ ys H,W i m σ ys H->H D=some (.lst ys)/\((J.stop i H/\Q (.ref D) H)\/(J.go i H/\ys.length < sizeLine/\∃ N:St->List V->Hp->Prop,(∀ σ' ys' H',N σ' ys' H'->∃ m',m' < m/\W (i + 1) m' σ' ys' H') /\
    ∀ x H',J.yld i H x H'->tG K E0 g x σ H' fun σ2 H2=>tT K E0 gc σ2 H2 fun b H3=>if b=true then tX K E0 .S fe σ2 H3 fun y H4=>H4 D=some (.lst ys)/\N σ2 (ys++[y]) (upd H4 D (.lst (ys++[y]))) else N σ2 ys H3)):=by
 intro D hD
 let c':Cn:={ K:=c.K,B:=fun q=>Av c σ δ q/\q≠D,H₀:=H1,G:=[] }
 have hB':¬ c'.B D:=fun z=>z.2 rfl
 refine ⟨fun i m σ' ys H'=>∃ δ' es,Abs c' σ' δ' H'/\H' D=some (.lst ys)/\Reps c.K c'.B H' es ys/\m=ds.length - i/\i<=ds.length/\es.length<=i /\
  Res K E0 c.H₀ (Qbq g gc fe (ds.drop i) δ') fun rest=>∀ xs H'',Same H1 H''->H'' D=some (.lst xs)->Reps c.K c'.B H'' (es++rest) xs->Q (.ref D) H'',
  ⟨ds.length,dsIn k ix δ,[],ab.block hD,Qm,by simp [Reps],by simp,Nat.zero_le _,Nat.zero_le _,?_⟩,?_⟩
 ·exact kq.imp fun es _ z xs H'' e1 e2 e3=>z D xs H'' hD e1 e2 e3
 ·rintro i m σ' ys H' ⟨δ',es,ab',hDy,hr,rfl,hi,hes,q⟩
  refine ⟨hDy,?_⟩
  by_cases hlt:i < ds.length
  ·refine .inr ⟨src.go i H' ab'.same hlt,?_,fun σ' ys' H'=>∃ δ' es,Abs c' σ' δ' H'/\H' D=some (.lst ys')/\Reps c.K c'.B H' es ys'/\ds.length - (i + 1)=ds.length - (i + 1)/\i + 1<=ds.length/\es.length<=i + 1 /\
    Res K E0 c.H₀ (Qbq g gc fe (ds.drop (i + 1)) δ') fun rest=>∀ xs H'',Same H1 H''->H'' D=some (.lst xs)->Reps c.K c'.B H'' (es++rest) xs->Q (.ref D) H'',fun σ' ys' H' n=>⟨ds.length - (i + 1),by lia,n⟩,fun x H2 y=>?_⟩
   ·have:=hr.length;lia
   have hd:ds[i]? = some ds[i]:=by simp [hlt]
   obtain ⟨rfl,rx⟩:=src.yld i H' x H2 _ ab'.same hd y
   rw [List.drop_eq_getElem_cons hlt] at q
   have rx':Rep c'.K (Av c' σ' δ') H2 ds[i] x:=Rep.mono (fun a o w1 w2=>⟨⟨w1,QQ w2 hD⟩,fun ow=>by
    obtain ⟨_,_,z⟩:=Own.is ab' ow
    have w3:=(show c'.H₀ a=some o from w2).symm.trans z
    cases w3⟩) (.of_same ab'.same) _ x rx
   refine ⟨c',δ',ds[i],hK,ab',rx',(QaG (Res.bind q) ab.same).imp fun δ2 _ k2 σ2 H3 e3 ab2=>?_⟩
   refine ⟨c',δ2,hK,ab2,(QaG (Res.bind k2) ab.same).imp fun b _ k3 H4 e4=>?_⟩
   cases b with
   | false=>exact ⟨δ2,es,ab2.grow e4,e4 _ _ (e3 _ _ hDy),(hr.same e3).same e4,rfl,hlt,by lia,k3⟩
   | true =>
    have k3':Res K E0 c.H₀ ((fe δ2).bind fun y=>(Qbq g gc fe (ds.drop (i + 1)) δ2).bind fun ys=>.ok (y::ys)) _:=k3
    refine ⟨c',δ2,hK,ab2.grow e4,(QaG (Res.bind k3') ab.same).imp fun dy _ k4 y H5 e5 r5=>?_⟩
    have hD5:=e5 _ _ (e4 _ _ (e3 _ _ hDy))
    have r5':Rep c.K c'.B H5 dy y:=Rep.weak (show Rep c'.K (Av c' σ2 δ2) H5 dy y from r5) fun a z=>z.1
    have st:Stay c.K c'.B H5 (upd H5 D (.lst (ys++[y]))):=⟨fun q ys z=>by
      rcases z with (z | ⟨o,z⟩) | z
      ·exact .inl (.inl (by rw [Ql (Qbt z hD5 (by intro w;cases w))];exact z))
      ·exact .inl (.inr ⟨o,by rw [Ql (Qbt z hD5 (by intro w;cases w))];exact z⟩)
      ·exact .inr z,fun q ys z=>by
      rcases z with ⟨o,z⟩ | z
      ·exact .inl ⟨o,by rw [Ql (Qbt z hD5 (by intro w;cases w))];exact z⟩
      ·exact .inr z,fun q o z w=>by rw [Ql z.2];exact w⟩
    refine ⟨hD5,δ2,es++[dy],((ab2.grow e4).grow e5).off hD5 hD hB',Qm,Reps.mono (fun _ _ w _=>w) st _ _ (Reps.append (((hr.same e3).same e4).same e5) (Reps.one r5')),rfl,hlt,by simp;lia,(Res.bind k4).imp fun rest _ k5 xs H'' s1 s2 s3=>k5 xs H'' s1 s2 ?_⟩
    rw [List.append_assoc] at s3
    exact s3
  ·have e:i=ds.length:=by lia
   subst e
   rw [List.drop_length] at q
   exact .inl ⟨src.stop H' ab'.same,q ys H' ab'.same hDy (by rw [List.append_nil];exact hr)⟩
end
section
variable {X:Cx} {iter elt tg:Expr} {ifs:List Expr} {scope:Scope} {N':List Str} {k:Nat} {ix:List Nat} {pos:Pos} {g:D->DS->Ou DS} {gc:DS->Ou Bool} {fe fl:Fn} {fs:List Fn} {a b:Expr} {p:Pos}
theorem QhJ:PCs X [] (tT X.K E0 fYes):=fun pins s σ H Q I q=>Qn3 pins s σ H Q I (by
 obtain ⟨c,δ,hK,ab,q⟩:=q
 exact q H (Same.refl H))
theorem Qed {wi:TI} {fi:DS->Ou (List D)} {σ:St} {H:Hp} {Q:VK} (q:tX X.K E0 .F (QbS fi g gc fe k ix) σ H Q)
  (hw:∀ (c:Cn) (δ:DS) (R:It->Hp->Prop),c.K=X.K->Abs c σ δ H->Res X.K E0 c.H₀ (fi δ) (fun ds=>∀ J H1,Same H H1->SrcI J c.K (Av c σ δ) H1 ds->R J H1)->wi σ H R) :
  Qgc wi (tG X.K E0 g) (tT X.K E0 gc) (tX X.K E0 .S fe) k ix σ H Q:=by
 obtain ⟨c,δ,hK,ab,q⟩:=q
 refine hw c δ _ hK ab ((Res.bind q).imp fun ds _ kq J H1 e1 src=>?_)
 by_cases hl:ds.length<=sizeLine
 ·rw [if_pos hl] at kq
  refine Qli hK (ab.grow e1) src hl ((Res.bind kq).imp fun es _ z D xs H' hD e2 h1 h2=>z (.ref D) H' (e1.trans e2) ⟨D,_,rfl,e1.free hD,h1,xs,rfl,h2⟩)
 ·rw [if_neg hl] at kq
  exact kq.elim
theorem srcL {c:Cn} {σ:St} {δ:DS} {H1:Hp} {p:Addr} {xs:List V} {ds:List D} (h1:SqL c.K H1 p xs) (h2:Reps c.K (Av c σ δ) H1 ds xs):SrcI (Itl c.K p) c.K (Av c σ δ) H1 ds :=
 ⟨fun i H' e hi=>⟨xs,xs[i]'(by rw [h2.length];exact hi),e.seq h1,List.getElem?_eq_getElem _⟩,fun i H' x H'' d e hd y=>⟨y.1,by
  obtain ⟨v,z1,z2⟩:=h2.get i d hd
  have:=y.2 xs (e.seq h1)
  rw [z1] at this;cases this
  exact z2⟩,fun H' e=>⟨xs,e.seq h1,by rw [h2.length];exact Nat.le_refl _⟩⟩
theorem Qpf (S:CNames X scope N' k ix) (hi:PE X iter (tX X.K E0 .S fl))
  (hb:∀ C s2 H2 fp pins,PG (blk X N' scope C s2 H2 fp pins) tg (tG X.K E0 g)/\PCs (blk X N' scope C s2 H2 fp pins) ifs (tT X.K E0 gc)/\PE (blk X N' scope C s2 H2 fp pins) elt (tX X.K E0 .S fe))
  (hc:X.calm=true:=by rfl) (hs:∀ x,foldedSetIterable iter X.env x=pure x:=by intro _;rfl):CompR X (.ListComp elt [⟨tg,iter,ifs,0⟩] scope pos) (tX X.K E0 .F (QbS (QgT fl) g gc fe k ix)) :=
 (Qhf hc S (QeS hi) hb hs).imp fun σ H Q q=>Qed q fun c δ R hK ab kq=>by
  refine ⟨c,δ,hK,ab,(Res.bind kq).imp fun d _ z v H1 e1 r1=>?_⟩
  have r1':Rep c.K (Av c σ δ) H1 d v:=r1
  cases d <;> first | exact z.elim | skip
  ·simp only [Rep] at r1'
   obtain ⟨p,xs,rfl,_,h1,h2⟩:=r1'
   exact ⟨p,rfl,⟨xs,by rw [← hK];exact .of h1⟩,by rw [← hK];exact z _ H1 e1 (srcL (.of h1) h2)⟩
  ·simp only [Rep] at r1'
   obtain ⟨p,xs,rfl,h1,h2⟩:=r1'
   exact ⟨p,rfl,⟨xs,by rw [← hK];exact h1.sq⟩,by rw [← hK];exact z _ H1 e1 (srcL h1.sq h2)⟩
theorem srcR {K:W.Frag} {B:Addr->Prop} {H1:Hp} {lo:Int} {n:Nat}:SrcI (Itr lo n) K B H1 (rng lo n) :=
 ⟨fun i H' _ hi=>by rw [Qc1] at hi;exact hi,fun i H' x H'' d _ hd y=>by
  obtain ⟨h1,rfl⟩:=Qj4 hd
  exact ⟨y.1,by rw [y.2];simp [Rep]⟩,fun H' _=>by
  show n<=_
  rw [Qc1];exact Nat.le_refl _⟩
theorem Qn2 (S:CNames X scope N' k ix) (hm:X.mg "range" = none) (ha:PA X [a] (tXA X.K E0 .W [fl]))
  (hb:∀ C s2 H2 fp pins,PG (blk X N' scope C s2 H2 fp pins) tg (tG X.K E0 g)/\PCs (blk X N' scope C s2 H2 fp pins) ifs (tT X.K E0 gc)/\PE (blk X N' scope C s2 H2 fp pins) elt (tX X.K E0 .S fe))
  (hc:X.calm=true:=by rfl) (hgl:Gl X "range":=by rfl) (hse:starEach [a] X.env=[(false,eval a X.env)]:=by rfl) {rp:Pos} (hs:∀ x,foldedSetIterable (.Call (.Name "range" p) [a] [] rp) X.env x=pure x:=by intro _;rfl) :
  CompR X (.ListComp elt [⟨tg,.Call (.Name "range" p) [a] [] rp,ifs,0⟩] scope pos) (tX X.K E0 .F (QbS (Qfs [fl]) g gc fe k ix)) :=
 (Qhf hc S (Qgs hgl hm ha hse) hb hs).imp fun σ H Q q=>Qed q fun c δ R hK ab kq=>by
  refine ⟨c,δ,hK,ab,(Res.bind kq).imp fun ds hds z vs H1 e1 r1=>?_⟩
  have hl:ds.length=1:=Qax hds
  obtain ⟨d,rfl⟩:∃ d,ds=[d]:=by
   match ds,hl with
   | [d],_=>exact ⟨d,rfl⟩
  obtain ⟨v,rfl,r2⟩:=r1.one'
  cases d <;> first | exact z.elim | skip
  simp only [Rep] at r2
  subst r2
  rename_i j
  by_cases hj:rOk j=true
  ·simp only [hj,if_true] at z
   have hj':=of_decide_eq_true hj
   exact ⟨j,rfl,hj'.1,hj'.2,z _ H1 e1 srcR⟩
  ·simp only [if_neg hj] at z
   exact z.elim
theorem srcT {c:Cn} {σ:St} {δ:DS} {H1:Hp} {p:Addr} {xs:List V} {ds:List D} (h1:SqT c.K H1 p xs) (h2:Reps c.K (Av c σ δ) H1 ds xs):SrcI (Itt c.K p) c.K (Av c σ δ) H1 ds :=
 ⟨fun i H' e hi=>⟨xs,xs[i]'(by rw [h2.length];exact hi),QcK e h1,List.getElem?_eq_getElem _⟩,fun i H' x H'' d e hd y=>⟨y.1,by
  obtain ⟨v,z1,z2⟩:=h2.get i d hd
  have:=y.2 xs (QcK e h1)
  rw [z1] at this;cases this
  exact z2⟩,fun H' e=>⟨xs,QcK e h1,by rw [h2.length];exact Nat.le_refl _⟩⟩
theorem QpF (S:CNames X scope N' k ix) (hi:PE X iter (tX X.K E0 .S fl))
  (hb:∀ C s2 H2 fp pins,PG (blk X N' scope C s2 H2 fp pins) tg (tG X.K E0 g)/\PCs (blk X N' scope C s2 H2 fp pins) ifs (tT X.K E0 gc)/\PE (blk X N' scope C s2 H2 fp pins) elt (tX X.K E0 .S fe))
  (hc:X.calm=true:=by rfl) (hs:∀ x,foldedSetIterable iter X.env x=pure x:=by intro _;rfl):CompR X (.ListComp elt [⟨tg,iter,ifs,0⟩] scope pos) (tX X.K E0 .F (QbS (QeP fl) g gc fe k ix)) :=
 (Qhf hc S (QmZ hi) hb hs).imp fun σ H Q q=>Qed q fun c δ R hK ab kq=>by
  refine ⟨c,δ,hK,ab,(Res.bind kq).imp fun d _ z v H1 e1 r1=>?_⟩
  have r1':Rep c.K (Av c σ δ) H1 d v:=r1
  cases d <;> first | exact z.elim | skip
  simp only [Rep] at r1'
  obtain ⟨p,xs,rfl,h1,h2⟩:=r1'
  exact ⟨p,rfl,⟨xs,by rw [← hK];exact h1⟩,by rw [← hK];exact z _ H1 e1 (srcT h1 h2)⟩
theorem QnT (i:Nat) {e:Expr} {x:Str} {pos':Pos} {fr:Rm} (hN:X.N.Nodup) (he:CompR X e (tX X.K E0 .F fe)) (hi:X.N[i]? = some x:=by rfl) (hx:Loc X.env.scope x:=by first | exact Or.inl rfl | exact Or.inr rfl) (hs:swapsWith e (some (.Name x pos')) pos.line X.env=pure true:=by rfl)
  (hf:X.fn x=true\/X.env.scope.names.lookup x=some .local:=by first | exact .inl rfl | exact .inr rfl):PS X (.Assign [.Name x pos'] e pos) (tS X.K E0 fr (sSet i fe)):=(he.ps i x pos' pos hN hi hx hs hf).imp fun D σ H q=>by
 obtain ⟨c,δ,hK,ab,q⟩:=q
 exact ⟨c,δ,hK,ab,(Res.bind q).imp fun d _ k v H1 e1 r1=>k _ H1 (ab.set_val e1 (Post.toS ab r1))⟩
theorem Qnz (i:Nat) {e:Expr} {x:Str} {pos':Pos} {fr:Rm} (hN:X.N.Nodup) (he:CompR X e (tX X.K E0 .F fe)) (hi:X.N[i]? = some x:=by rfl) (hx:Loc X.env.scope x:=by first | exact Or.inl rfl | exact Or.inr rfl) (hs:swapsWith e (some (.Name x pos')) pos.line X.env=pure true:=by rfl)
  (hf:X.fn x=true\/X.env.scope.names.lookup x=some .local:=by first | exact .inl rfl | exact .inr rfl) (hpi:fr.pin≠some i:=by decide):PS X (.Assign [.Name x pos'] e pos) (tS X.K E0 fr (sOwn i fe)):=(he.ps i x pos' pos hN hi hx hs hf).imp fun D σ H q=>by
 obtain ⟨c,δ,hK,ab,q⟩:=q
 refine ⟨c,δ,hK,ab,(Res.bind q).imp fun d _ k v H1 e1 r1=>?_⟩
 obtain ⟨p,xs,rfl,h1,h2,h3⟩:=r1
 exact k _ H1 (ab.set_own e1 h1 h2 h3 (ab.ne hpi))
end
end DL
namespace L2
open PySem PySem.Spec PyProof.Rows
structure Mk0 (K:W.Frag) (C:Addr):Prop where
 makes:W.makesIn K C=true
 init:W.findIn K (.ref C) "__init__" = some (some (.builtin "object.__init__"))
 kp:W.keepIn K (.ref C)=true
section
variable {X:Cx} {C:Addr} {x:Str} {p pos:Pos}
def QpZ (C:Addr):TE:=fun _ H Q=>∀ x dx,H x=none->H dx=none->dx≠x->Q (.ref x) (upd (upd H dx (.own x)) x (.ins C dx []))
theorem Qk2 {pins:List (Addr×Obj)} {σ:St} {H:Hp} {s:Shared} {Q:VK} (M:Mk0 X.K C) (I:Inv X pins σ H s)
  (h:∀ x dx,H x=none->H dx=none->dx≠x->Q (.ref x) (upd (upd H dx (.own x)) x (.ins C dx []))):wpAny (model X.prog X.w) X.A (call (.ref C) []) (EP X pins σ Q) X.xe s:=by
 have hq:=h (s.heap.objs.size + 1) s.heap.objs.size (I.hok.fresh (Nat.le_succ _)) (I.hok.fresh (Nat.le_refl _)) (Nat.ne_of_lt (Nat.lt_succ_self _))
 have I2:=Inv.made (C:=C) I
 have Y:=W.makes_of (M:=model X.prog X.w) I.kIn M.makes
 refine wpAny_call (Qlw I.kIn M.makes M.init (fun self=>W.Looks.of_pure (W.oi_bind self)) ?_)
 have hx:((s.heap.push W.emptyDict).push (W.instObj C s.heap.objs.size)).get? (s.heap.objs.size + 1)=some (W.instObj C s.heap.objs.size):=by
  have:=Heap.get?_push_size (s.heap.push W.emptyDict) (o:=W.instObj C s.heap.objs.size) rfl
  rwa [Heap.size_push] at this
 have t1:W.Looks (model X.prog X.w) ((s.heap.push W.emptyDict).push (W.instObj C s.heap.objs.size)) (typeOf (.ref (s.heap.objs.size + 1))) (.ref C):=(W.Looks.ld hx).andThen .now
 have t2:W.Looks (model X.prog X.w) ((s.heap.push W.emptyDict).push (W.instObj C s.heap.objs.size)) (isInstance (.ref (s.heap.objs.size + 1)) (.type "object")) true:=t1.andThen (Y.top.keeps fun b o e=>Heap.get?_push_of_some _ (Heap.get?_push_of_some _ e))
 refine codeAny_call_builtin W.oi_plain W.entry_oi (@W.check_slot (model X.prog X.w) _ _ _ "object.__init__" "object" "__init__" (.ref (s.heap.objs.size + 1)) [] [] _ W.oi_kind W.oi_split t2 (W.oi_args (.ref (s.heap.objs.size + 1))) ?_)
 rw [W.oi_run]
 exact wpAny_pure (And.intro rfl ⟨V.ref (s.heap.objs.size + 1),_,I2,rfl,hq⟩)
theorem Ql7 (M:Mk0 X.K C) (hg:Gl X x) (hm:X.mg x=some (.ref C)) (hdb:(x == ("__debug__":Str))=false:=by decide):PE X (.Call (.Name x p) [] [] pos) (QpZ C):=by
 intro pins s σ H Q I h
 refine wpAny_Call_Name_kw (QjZ I hg hm ?_ hdb)
 exact W.callWith_K0 I.kIn M.kp (Qk2 M I h)
end
end L2
namespace DL
open PySem PySem.Spec PyProof.Rows L2
section
variable {X:Cx} {E:XK} {m:Md} {x:Str} {p pos apos:Pos} {e o:Expr} {es:List Expr} {fs:List Fn} {fo:Fn} {k:Nat} {ps:List Str} {fr:Bool} {mt:Str}
structure ClsOk (K:W.Frag) (mg:Str->Option Value) (x:Str):Prop where
 ex:∃ C,Cls K C/\W.nsIn K mainGlobals x=some (some (.ref C))/\mg x=some (.ref C)
def Qa4 (x:Str):Fn:=fun _=>.ok (.obj x)
theorem Qdb {C:Addr} (M:Mk0 X.K C) (hn:W.nsIn X.K mainGlobals x=some (some (.ref C))) (hm:X.mg x=some (.ref C)) (hg:Gl X x:=by rfl) (hf:notF m=true:=by rfl) (hdb:(x == ("__debug__":Str))=false:=by decide) :
  PE X (.Call (.Name x p) [] [] pos) (tX X.K E m (Qa4 x)):=(Ql7 M hg hm hdb).imp fun σ H Q q=>by
 obtain ⟨c,δ,hK,ab,q⟩:=q
 intro a dx ha hd hne
 have e1:Same H (upd (upd H dx (.own a)) a (.ins C dx [])):=(Qp hd _).trans (Qp (by rw [Ql (Ne.symm hne)];exact ha) _)
 refine q (.ref a) _ e1 ?_
 have r:∀ B:Addr->Prop,B a->Rep c.K B (upd (upd H dx (.own a)) a (.ins C dx [])) (.obj x) (.ref a):=fun B hB=>by
  simp only [Rep]
  exact ⟨a,C,dx,rfl,by rw [hK];exact hn,hB,Qm⟩
 cases m with
 | W=>exact r _ (ab.fr a ha)
 | S=>exact r _ (ab.av_new ha)
 | F=>simp [notF] at hf
structure MDf (P:Program) (w:World) (K:W.Frag) (mg:Str->Option Value) (base:Heap) (c m:Str) (k:Nat) (ps:List Str) (fr:Bool) (mm:List D->Ou D):Prop where
 ex:∃ C f fd,Cls K C/\W.nsIn K mainGlobals c=some (some (.ref C))/\Meth K C m f/\FnOk P w K mg base CX0 k f fd ps (spD K fr ps.length mm)/\Binds K fd ps []
theorem MDf.mono {P:Program} {w:World} {K:W.Frag} {mg:Str->Option Value} {base:Heap} {c m:Str} {j k:Nat} {ps:List Str} {fr:Bool} {mm:List D->Ou D} (h:MDf P w K mg base c m j ps fr mm) (hj:j<=k):MDf P w K mg base c m k ps fr mm:=by
 obtain ⟨C,f,fd,h1,h2,h3,h4,h5⟩:=h.ex
 exact ⟨C,f,fd,h1,h2,h3,h4.mono hj,h5⟩
abbrev MTab:=List (Str×(List D->Ou D))
def tbM (tb:MTab):D->Option (List D->Ou D)
 | .obj c=>(tb.find? fun z=>z.1 == c).map (·.2)
 | _=>none
def Qag (tb:MTab) (fo:Fn) (fs:List Fn):Fn:=fun δ=>(fo δ).bind fun d=>match tbM tb d with
 | some mm=>(Qaq fs δ).bind fun ds=>mm (d::ds)
 | none=>.bad
inductive MAll (P:Program) (w:World) (K:W.Frag) (mg:Str->Option Value) (base:Heap) (m:Str) (k:Nat) (n:Nat) (fr:Bool):MTab->Prop where
 | nil:MAll P w K mg base m k n fr []
 | cons {c:Str} {ps:List Str} {mm:List D->Ou D} {tb:MTab} (h:MDf P w K mg base c m k ps fr mm) (hn:ps.length=n) (r:MAll P w K mg base m k n fr tb):MAll P w K mg base m k n fr ((c,mm)::tb)
theorem MAll.at {P:Program} {w:World} {K:W.Frag} {mg:Str->Option Value} {base:Heap} {m:Str} {k n:Nat} {fr:Bool} {tb:MTab} (h:MAll P w K mg base m k n fr tb) {c:Str} {z:Str×(List D->Ou D)} (hz:(tb.find? fun z=>z.1 == c)=some z) :
  ∃ ps,MDf P w K mg base c m k ps fr z.2/\ps.length=n:=by
 induction h with
 | nil=>cases hz
 | @cons c' ps mm tb h hn r ih =>
  rw [List.find?_cons] at hz
  by_cases e:(c' == c)=true
  ·rw [e] at hz
   cases hz
   have:c'=c:=by simpa using e
   subst this
   exact ⟨ps,h,hn⟩
  ·have e':(c' == c)=false:=by simpa using e
   rw [e'] at hz
   exact ih hz
theorem QpQ {K:W.Frag} {B:Addr->Prop} {H:Hp} {c:Str} {v:V} {C:Addr} (r:Rep K B H (.obj c) v) (hC:W.nsIn K mainGlobals c=some (some (.ref C))):∃ a dx,v=.ref a/\H a=some (.ins C dx []):=by
 simp only [Rep] at r
 obtain ⟨a,C',dx,rfl,h1,_,h2⟩:=r
 rw [hC] at h1
 cases h1
 exact ⟨a,dx,rfl,h2⟩
theorem Post.bOf' {c:Cn} {σ:St} {δ:DS} {H H':Hp} {d:D} {v:V} {m:Md} (hm:notF m=true) (r:Rep c.K (BOf c σ δ m) H' d v):Post c σ δ H m d v H':=by
 cases m with
 | W=>exact r
 | S=>exact r
 | F=>simp [notF] at hm
theorem QgE {tb:MTab} {n:Nat} {fr:Bool} {σ:St} {H:Hp} {Q:VK} {c:Cn} {δ:DS} {cn:Str} {t:TA} (hb:MAll X.prog X.w X.K X.mg X.base mt k n fr tb) (hm:notF m=true) (hl:fs.length + 1=n) (hK:c.K=X.K) (ab:Abs c σ δ H) (e1:fo δ=.ok (.obj cn))
  {z:Str×(List D->Ou D)} (hz:(tb.find? fun z=>z.1 == cn)=some z) (hta:∀ σ H Q,tXA X.K E0 m fs σ H Q->t σ H Q)
  (q:Res X.K E0 c.H₀ ((Qaq fs δ).bind fun ds=>z.2 (.obj cn::ds)) fun d=>∀ v H',Same H H'->RtP c.K (BOf c σ δ m) H fr d v H'->Q v H') :
  ∃ C f fd ps mm,Cls X.K C/\Meth X.K C mt f/\FnOk X.prog X.w X.K X.mg X.base CX0 k f fd ps (spD X.K fr ps.length mm)/\Binds X.K fd ps []/\Qm9 C mt (spD X.K fr ps.length mm) [] E0 (tX X.K E0 m fo) t σ H Q:=by
 obtain ⟨ps,h,hn⟩:=hb.at hz
 obtain ⟨C,f,fd,h1,h2,h3,h4,h5⟩:=h.ex
 refine ⟨C,f,fd,ps,z.2,h1,h3,h4,h5,c,δ,hK,ab,?_⟩
 rw [e1]
 intro v H1 s1 r1
 have r1':Rep c.K (BOf c σ δ m) H1 (.obj cn) v:=Post.bOf hm r1
 obtain ⟨a,dx,rfl,ha⟩:=QpQ r1' (by rw [hK];exact h2)
 refine ⟨a,dx,[],rfl,ha,rfl,hta _ _ _ ⟨c,δ,hK,ab.grow s1,(Res.bind q).imp fun ds hds kq vs H2 e2 r2=>?_⟩⟩
 have ab2:=(ab.grow s1).grow e2
 refine ⟨BOf c σ δ m,.obj cn::ds,by rw [List.length_cons,Qax hds,hl,hn],?_,(QaG kq (ab2.same)).imp fun d _ kd v H' e3 r3=>kd v H' ((s1.trans e2).trans e3) ?_⟩
 ·simp only [Reps,List.append_nil]
  rw [← hK]
  exact ⟨.ref a,vs,rfl,r1'.same e2,r2⟩
 ·rw [← hK] at r3
  have up:∀ b,(BOf c σ δ m b\/H2 b=none)->BOf c σ δ m b:=fun b w=>by
   rcases w with w | w
   ·exact w
   ·have:=ab2.av_new w
    cases m with
    | W=>exact this.1
    | S=>exact this
    | F=>simp [notF] at hm
  cases fr with
  | false=>exact Rep.weak (show Rep _ _ _ _ _ from r3) up
  | true =>
   obtain ⟨p',xs,rfl,w1,w2,w3⟩:=r3
   exact ⟨p',xs,rfl,(s1.trans e2).free w1,w2,w3.weak fun b y=>⟨up b y.1,y.2⟩⟩
theorem RtP.post {c:Cn} {σ:St} {δ:DS} {H H':Hp} {d:D} {v:V} {m:Md} (hm:notF m=true) (r:RtP c.K (BOf c σ δ m) H false d v H'):Post c σ δ H m d v H':=Post.bOf' hm r
theorem Qeu {tb:MTab} {δ:DS} {kq:D->Prop} {K:W.Frag} {H₀:Hp} {d:D} (e1:fo δ=.ok d) (q:Res K E0 H₀ (Qag tb fo fs δ) kq) :
  ∃ cn z,d=.obj cn/\(tb.find? fun z=>z.1 == cn)=some z/\Res K E0 H₀ ((Qaq fs δ).bind fun ds=>z.2 (.obj cn::ds)) kq:=by
 unfold Qag at q
 rw [e1] at q
 have q':Res K E0 H₀ (match tbM tb d with
  | some mm=>(Qaq fs δ).bind fun ds=>mm (d::ds)
  | none=>.bad) kq:=q
 cases d <;> first | exact q'.elim | skip
 rename_i cn
 cases e2:(tb.find? fun z=>z.1 == cn) with
 | none=>simp only [tbM,e2,Option.map_none] at q';exact q'.elim
 | some z =>
  simp only [tbM,e2,Option.map_some] at q'
  exact ⟨cn,z,rfl,e2,q'⟩
theorem Qe0 {pl:Sem Bool} {tb:MTab} {n:Nat} (hb:MAll X.prog X.w X.K X.mg X.base mt k n false tb) (hr:Room k X.A) (ho:PE X o (tX X.K E0 m fo)) (ha:PA X (e::es) (tXA X.K E0 m fs)) (hl:fs.length + 1=n:=by rfl) (hm:notF m=true:=by rfl)
  (hst:starEach (e::es) X.env=(false,eval e X.env)::starEach es X.env:=by rfl) (hpl:(backTo pos (starEach es X.env)).any (·.1)=false:=by rfl)
  (ht:eval (.Call (.Attribute o mt apos) (e::es) [] pos) X.env=(do
   let ov ← eval o X.env
   standAt apos.atName
   let (f,first) ← holding [ov] (getMethod ov mt pl)
   callWith pos f first (backTo pos (starEach (e::es) X.env)) (backToKw pos (keywordEach [] X.env))):=by rfl) :
  PE X (.Call (.Attribute o mt apos) (e::es) [] pos) (tX X.K E0 m (Qag tb fo fs)):=by
 intro pins s σ H Q I q
 obtain ⟨c,δ,hK,ab,q⟩:=q
 cases e1:fo δ with
 | bad=>unfold Qag at q;rw [e1] at q;exact q.elim
 | ex z =>
  unfold Qag at q;rw [e1] at q
  exact W.methodCall_KW (pl:=pl) (thn (ho pins s σ H (fun _ _=>False) I ⟨c,δ,hK,ab,by rw [e1];exact q⟩) fun u s1 ⟨_,_,_,_,w⟩=>w.elim) ht
 | ok d =>
  obtain ⟨cn,z,rfl,hz,q⟩:=Qeu e1 q
  obtain ⟨C,f,fd,ps,mm,h1,h2,h3,h4,h5⟩:=QgE (m:=m) (fs:=fs) hb hm hl hK ab e1 hz (fun _ _ _ z=>z) (q.imp fun d _ kd v H' e2 r2=>kd v H' e2 (RtP.post hm r2))
  exact Qnv ho h1 h2 h3 hr h4 .nil QhQ ha hst hpl ht pins s σ H Q I h5
theorem QgS {pl:Sem Bool} {tb:MTab} {n:Nat} (hb:MAll X.prog X.w X.K X.mg X.base mt k n false tb) (hr:Room k X.A) (ho:PE X o (tX X.K E0 m fo)) (hl:0 + 1=n:=by rfl) (hm:notF m=true:=by rfl)
  (ht:eval (.Call (.Attribute o mt apos) [] [] pos) X.env=(do
   let ov ← eval o X.env
   standAt apos.atName
   let (f,first) ← holding [ov] (getMethod ov mt pl)
   callWith pos f first (backTo pos (starEach [] X.env)) (backToKw pos (keywordEach [] X.env))):=by rfl) :
  PE X (.Call (.Attribute o mt apos) [] [] pos) (tX X.K E0 m (Qag tb fo [])):=by
 intro pins s σ H Q I q
 obtain ⟨c,δ,hK,ab,q⟩:=q
 cases e1:fo δ with
 | bad=>unfold Qag at q;rw [e1] at q;exact q.elim
 | ex z =>
  unfold Qag at q;rw [e1] at q
  exact W.methodCall_KW (pl:=pl) (thn (ho pins s σ H (fun _ _=>False) I ⟨c,δ,hK,ab,by rw [e1];exact q⟩) fun u s1 ⟨_,_,_,_,w⟩=>w.elim) ht
 | ok d =>
  obtain ⟨cn,z,rfl,hz,q⟩:=Qeu e1 q
  obtain ⟨C,f,fd,ps,mm,h1,h2,h3,h4,h5⟩:=QgE (m:=m) (fs:=[]) hb hm hl hK ab e1 hz (fun _ _ _ w=>by
   obtain ⟨c,δ,hK,ab,w⟩:=w
   exact w [] _ (Same.refl _) (by simp [Reps])) (q.imp fun d _ kd v H' e2 r2=>kd v H' e2 (RtP.post hm r2))
  exact Qms ho h1 h2 h3 hr h4 .nil QhQ ht pins s σ H Q I h5
end
section
variable {X:Cx} {E:XK} {m:Md} {a b e:Expr} {fa fb fe:Fn} {pos p:Pos} {es:List Expr} {fs:List Fn} {fr:Rm} {F G:Sm} {st:Stmt} {x:Str}
def isBl (k:Bool):D->Bool
 | .bl k'=>k' == k
 | _=>false
def gIsB:D->D->Ou D
 | d,.bl k=>.ok (.bl (isBl k d))
 | _,_=>.bad
def gNotB:D->D->Ou D
 | d,.bl k=>.ok (.bl (!isBl k d))
 | _,_=>.bad
def Qc3:D->Ou D
 | .lst ds=>.ok (.lst ds)
 | .frl ds=>.ok (.lst ds)
 | .tup ds=>.ok (.lst ds)
 | _=>.bad
theorem Qkj (hm:X.mg "list" = none) (ha:PE X e (tX X.K E .S fe)) (hg:Gl X "list":=by rfl) (he:starEach [e] X.env=(false,eval e X.env)::starEach [] X.env:=by rfl) (hpl:(backTo pos (starEach ([]:List Expr) X.env)).any (·.1)=false:=by rfl) :
  PE X (.Call (.Name "list" p) [e] [] pos) (tX X.K E .F (f1 Qc3 fe)) :=
 (Qc0 QdM hg hm (by decide +kernel) (Qae ha pa_nil he) (by decide) (by decide) he hpl).imp fun σ H Q q=>by
 obtain ⟨c,δ,hK,ab,q⟩:=q
 refine ⟨c,δ,hK,ab,(Res.bind q).imp fun d _ k v H1 e1 r1=>?_⟩
 have r1':Rep c.K (Av c σ δ) H1 d v:=r1
 have fin:∀ {ds:List D} {xs:List V} (l:Addr),H1 l=none->Reps c.K (Av c σ δ) H1 ds xs->Post c σ δ H .F (.lst ds) (.ref l) (upd H1 l (.lst xs)):=fun l hl h2=>⟨l,_,rfl,e1.free hl,Qm,_,rfl,(Reps.off h2 hl).same (Qp hl _)⟩
 cases d <;> first | exact k.elim | skip
 ·simp only [Rep] at r1'
  obtain ⟨a,xs,rfl,h1,h2⟩:=r1'
  exact ⟨a,xs,rfl,.inr (by rw [← hK];exact h1),fun l hl=>k (.ref l) _ (e1.trans (Qp hl _)) (fin l hl h2)⟩
 ·simp only [Rep] at r1'
  obtain ⟨a,xs,rfl,_,h1,h2⟩:=r1'
  exact ⟨a,xs,rfl,.inl (.of h1),fun l hl=>k (.ref l) _ (e1.trans (Qp hl _)) (fin l hl h2)⟩
 ·simp only [Rep] at r1'
  obtain ⟨a,xs,rfl,h1,h2⟩:=r1'
  exact ⟨a,xs,rfl,.inl (by rw [← hK];exact h1.sq),fun l hl=>k (.ref l) _ (e1.trans (Qp hl _)) (fin l hl h2)⟩
def sBad:Sm:=fun _=>.bad
theorem QmQ {exc cause:Option Expr}:PS X (.Raise exc cause pos) (tS X.K E fr sBad):=fun pins s σ H D I q=>by
 obtain ⟨c,δ,hK,ab,q⟩:=q
 exact q.elim
def sPop (i j:Nat):Sm:=fun δ=>match δ[i]? with
 | some (.own (.lst ds))=>(match ds[ds.length - 1]? with
  | some d=>.ok (.nx ((δ.set i (.own (.lst ds.dropLast))).set j (.val d)))
  | none=>.bad)
 | _=>.bad
theorem Reps.dropLast {K:W.Frag} {B:Addr->Prop} {H:Hp} {ds:List D} {vs:List V} (r:Reps K B H ds vs):Reps K B H ds.dropLast vs.dropLast:=by
 rw [List.dropLast_eq_take,List.dropLast_eq_take,r.length]
 exact r.take _
theorem Abs.ghost {c:Cn} {σ:St} {δ:DS} {H:Hp} {d:D} {v:V} (a:Abs c σ δ H) (r:Rep c.K (Av c σ δ) H d v):Abs { c with G:=(d,v)::c.G } σ δ H :=
 ⟨a.same,a.fr,a.len,a.val,a.own,fun d' v' hm=>by
  rcases List.mem_cons.mp hm with e | hm
  ·cases e;exact r
  ·exact a.gho d' v' hm,a.inj,a.pin⟩
theorem QkG (i j:Nat) {y:Str} {px py apos cpos:Pos} (hN:X.N.Nodup) (hi:X.N[i]? = some x:=by rfl) (hv:Vis X.env.scope x:=by first | exact Or.inl rfl | exact Or.inr (Or.inl rfl) | exact Or.inr (Or.inr rfl)) (hd:(x == ("__debug__":Str))=false:=by decide)
  (hcd:(x == ("__classdict__":Str))=false:=by decide) (hj:X.N[j]? = some y:=by rfl) (hy:Loc X.env.scope y:=by first | exact Or.inl rfl | exact Or.inr rfl) (hs:swapsWith (.Call (.Attribute (.Name x px) "pop" apos) [] [] cpos) (some (.Name y py)) pos.line X.env=pure false:=by rfl)
  (hf:X.fn y=true\/X.env.scope.names.lookup y=some .local:=by first | exact .inl rfl | exact .inr rfl) (hb:attributeBase (.Name x px) "pop" X.env (eval (.Name x px) X.env)=eval (.Name x px) X.env:=by rfl) (h1:(apos.endLine == cpos.line)=true:=by rfl) :
  PS X (.Assign [.Name y py] (.Call (.Attribute (.Name x px) "pop" apos) [] [] cpos) pos) (tS X.K E fr (sPop i j)) :=
 (Qji hN hj hy (Qi9 PySem.F.plainAttrs_list PySem.F.slot_list_pop PySem.F.type_list_pop Qmw (pv i hi hv hd hcd) hb h1) hs hf).imp fun D σ H q=>by
 obtain ⟨c,δ,hK,ab,q⟩:=q
 unfold sPop at q
 cases e0:δ[i]? with
 | none=>rw [e0] at q;exact q.elim
 | some s =>
  rw [e0] at q
  cases s with
  | un=>exact q.elim
  | val d=>exact q.elim
  | own d =>
   cases d <;> first | exact q.elim | skip
   rename_i ds
   obtain ⟨p,o,g1,g2,g3,xs,rfl,g4⟩:=ab.own i _ e0
   cases e1:ds[ds.length - 1]? with
   | none=>simp only [e1] at q;exact q.elim
   | some d =>
    simp only [e1] at q
    obtain ⟨v,z1,z2⟩:=g4.get _ d e1
    refine ⟨.ref p,g1,.inl ⟨rfl,xs,.of g2⟩,p,xs,v,rfl,rfl,g2,by rw [g4.length];exact z1,?_⟩
    have ab2:=(ab.ghost z2).mut (ds':=.lst ds.dropLast) (xs':=.lst xs.dropLast) e0 g1 ⟨_,rfl,g4.dropLast⟩
    have r2:=ab2.gho d v List.mem_cons_self
    exact q _ _ ((ab2.drop (fun z hz=>List.mem_cons_of_mem _ hz)).set_val (Same.refl _) r2)
end
theorem QlA {P:Program} {w:World} {K:W.Frag} {mg:Str->Option Value} {base:Heap} {x:Str} {st:Stmt} {ps:List Str} {k:Nat} {fr:Bool} (S:Src K mg x st ps):Df P w K mg base x k ps fr (fun _=>.bad):=by
 obtain ⟨f,fd,Fn,b,hm⟩:=S.ex
 refine ⟨f,fd,⟨fun vs H Q E h=>?_,fun A outer s H args us vs Q E _ _ _ _ h=>?_⟩,b,Fn.kp,hm⟩
 ·obtain ⟨_,_,_,_,z⟩:=h;exact z.elim
 ·obtain ⟨_,_,_,_,z⟩:=h;exact z.elim
def relab (sc0 scope:Scope):List (Str×NameKind):=scope.names.map fun (n,k)=>if (k == .free && sc0.kind == .function && sc0.names.lookup n == some .cell) then (n,.cell) else (n,k)
def cnOk (sc0 scope:Scope) (N0 N':List Str) (k:Nat) (ix:List Nat):Bool :=
 scope.names.all (fun y=>y.2 != .cell) && (scope.kind == .function) && scope.names.all (fun y=>y.2 != .local || scope.names.lookup y.1 == some .local) &&
 scope.names.all (fun y=>y.2 != .free || (sc0.names.lookup y.1 == some .cell || sc0.names.lookup y.1 == some .free)) && N'.length == k + ix.length &&
 (List.range ix.length).all (fun j=>match ix[j]?,N'[k + j]? with
  | some i,some x=>N0[i]? == some x && (sc0.names.lookup x == some .cell || sc0.names.lookup x == some .free) && (relab sc0 scope).lookup x != some .local
  | _,_=>false)
theorem QhI {X:Cx} {scope:Scope} {N':List Str} {k:Nat} {ix:List Nat} (sc0:Scope) (N0:List Str) (h:cnOk sc0 scope N0 N' k ix=true) (hs:X.env.scope=sc0:=by rfl) (hN:X.N=N0:=by rfl):CNames X scope N' k ix:=by
 unfold cnOk at h
 simp only [Bool.and_eq_true] at h
 obtain ⟨⟨⟨⟨⟨h1,h2⟩,h3⟩,h4⟩,h5⟩,h6⟩:=h
 subst hs;subst hN
 refine ⟨fun y hy=>by simpa using List.all_eq_true.mp h1 y hy,by simpa using h2,fun y hy hk=>?_,fun y hy hk=>?_,by simpa using h5,fun j i x e1 e2=>?_⟩
 ·have:=List.all_eq_true.mp h3 y hy
  rw [hk] at this
  simpa using this
 ·have:=List.all_eq_true.mp h4 y hy
  rw [hk] at this
  have z:List.lookup y.fst X.env.scope.names=some NameKind.cell\/List.lookup y.fst X.env.scope.names=some NameKind.free:=by simpa using this
  exact z
 ·have:=List.all_eq_true.mp h6 j (List.mem_range.mpr (List.getElem?_eq_some_iff.mp e1).1)
  rw [e1,e2] at this
  simp only [Bool.and_eq_true,Bool.or_eq_true,beq_iff_eq,bne_iff_ne] at this
  exact ⟨this.1.1,this.1.2,this.2⟩
def keyD:D->Option Key
 | .int i=>some (.inl i)
 | .str x=>some (.inr x)
 | _=>none
def dGet:List Key->List D->Key->Option D
 | k::ks,d::ds,q=>if k=q then some d else dGet ks ds q
 | _,_,_=>none
def dSet:List Key->List D->Key->D->List D
 | k::ks,d::ds,q,v=>(if k=q then v else d)::dSet ks ds q v
 | _,ds,_,_=>ds
theorem QbP {K:W.Frag} {B:Addr->Prop} {H:Hp} {d:D} {v:V} {k:Key} (h:keyD d=some k) (r:Rep K B H d v):v=kV k:=by
 cases d <;> simp [keyD] at h <;> simp only [Rep] at r <;> subst r <;> subst h <;> rfl
section
variable {K:W.Frag} {B:Addr->Prop} {H:Hp}
theorem Qb4:∀ {kvs:List (Key×V)} {ds:List D} {q:Key},Reps K B H ds (kvs.map (·.2))->match dGet (kvs.map (·.1)) ds q with
  | some d=>∃ v,valV kvs q=some v/\Rep K B H d v
  | none=>valV kvs q=none
 | [],ds,q,r=>by
  simp only [List.map_nil] at r
  have:ds=[]:=by
   cases ds with
   | nil=>rfl
   | cons d r'=>simp [Reps] at r
  subst this
  rfl
 | (k,v)::kvs,ds,q,r=>by
  cases ds with
  | nil=>simp [Reps] at r
  | cons d ds =>
   simp only [List.map_cons,Reps] at r
   obtain ⟨v',r',e,h1,h2⟩:=r
   cases e
   simp only [List.map_cons,dGet]
   by_cases hk:k=q
   ·rw [if_pos hk]
    exact ⟨v,Qdz hk,h1⟩
   ·rw [if_neg hk,QdU (p:=(k,v)) hk]
    exact Qb4 h2
def QeD (ks:List Key) (q:Key):List Key:=if (ks.any fun k=>decide (k=q))=true then ks else ks++[q]
def Qew (ks:List Key) (ds:List D) (q:Key) (d:D):List D:=if (ks.any fun k=>decide (k=q))=true then dSet ks ds q d else ds++[d]
theorem QgM {d:D} {v:V} {q:Key} (hd:Rep K B H d v):∀ {kvs:List (Key×V)} {ds:List D},Reps K B H ds (kvs.map (·.2))->Reps K B H (dSet (kvs.map (·.1)) ds q d) ((kvs.map fun kv=>if kv.1=q then (kv.1,v) else kv).map (·.2))
 | [],ds,r=>by
  simp only [List.map_nil] at r ⊢
  have:ds=[]:=by
   cases ds with
   | nil=>rfl
   | cons d r'=>simp [Reps] at r
  subst this
  exact r
 | (k,v')::kvs,ds,r=>by
  cases ds with
  | nil=>simp [Reps] at r
  | cons d' ds =>
   simp only [List.map_cons,Reps] at r
   obtain ⟨v'',r',e,h1,h2⟩:=r
   cases e
   simp only [List.map_cons,dSet,Reps]
   refine ⟨_,_,rfl,?_,QgM hd h2⟩
   by_cases hk:k=q
   ·rw [if_pos hk,if_pos hk];exact hd
   ·rw [if_neg hk,if_neg hk];exact h1
theorem Qnm {kvs:List (Key×V)} {ds:List D} {q:Key} {d:D} {v:V} (r:Reps K B H ds (kvs.map (·.2))) (hd:Rep K B H d v) :
  (putK kvs q v).map (·.1)=QeD (kvs.map (·.1)) q/\Reps K B H (Qew (kvs.map (·.1)) ds q d) ((putK kvs q v).map (·.2)):=by
 have e:((kvs.map (·.1)).any fun k=>decide (k=q))=kvs.any fun kv=>decide (kv.1=q):=by rw [List.any_map];rfl
 unfold putK QeD Qew
 rw [e]
 by_cases h:(kvs.any fun kv=>decide (kv.1=q))=true
 ·rw [if_pos h,if_pos h,if_pos h]
  refine ⟨?_,QgM hd r⟩
  rw [List.map_map]
  refine List.map_congr_left fun kv _=>?_
  show (if kv.1=q then (kv.1,v) else kv).1=kv.1
  by_cases hk:kv.1=q
  ·rw [if_pos hk]
  ·rw [if_neg hk]
 ·rw [if_neg h,if_neg h,if_neg h]
  refine ⟨by rw [List.map_append];rfl,?_⟩
  rw [List.map_append]
  exact Reps.append r (Reps.one hd)
end
section
variable {X:Cx} {E:XK} {m:Md} {a b e o i:Expr} {fa fb fe fo fi:Fn} {pos p:Pos} {fr:Rm} {x:Str}
def QjM:Fn:=fun _=>.ok (.dic [] [])
theorem Qou:PE X (.Dict [] [] pos) (tX X.K E .F QjM):=pe_dnewK.imp fun σ H Q q=>by
 obtain ⟨c,δ,hK,ab,q⟩:=q
 intro p hp
 exact q (.ref p) _ (Qp hp _) ⟨p,_,rfl,hp,Qm,[],rfl,rfl,by simp [Reps]⟩
theorem DGet.r {H:Hp} {a:Addr} {kvs:List (Key×V)} {k:Key} (e:Rd H a (.dK kvs)):DGet H a (kV k) (valV kvs k):=.inl ⟨kvs,k,e,rfl,rfl⟩
def gDIx:D->D->Ou D
 | .dic ks ds,k=>(match keyD k with
  | some q=>(match dGet ks ds q with
   | some d=>.ok d
   | none=>.bad)
  | none=>.bad)
 | _,_=>.bad
theorem xdix (hu:X.A.units + 64 < cLine) (ho:PE X o (tX X.K E m fo)) (hi:PE X i (tX X.K E .W fi)) (hm:notF m=true:=by rfl) (hs:NoSl i:=by exact fun _ _=>rfl):PE X (.Subscript o i pos) (tX X.K E m (f2 gDIx fo fi)) :=
 (Qkx (by lia) ho hi hs).imp fun σ H Q q=>by
 obtain ⟨c,δ,hK,ab,q⟩:=q
 refine ⟨c,δ,hK,ab,(Res.bind q).imp fun d _ k v H1 e1 r1=>?_⟩
 refine ⟨c,δ,hK,ab.grow e1,(Res.bind k).imp fun dk _ k2 y H2 e2 r2=>?_⟩
 have r1':Rep c.K (BOf c σ δ m) H2 d v:=(Post.bOf hm r1).same e2
 have r2':Rep c.K c.B H2 dk y:=r2
 obtain ⟨ks,ds,rfl⟩:∃ ks ds,d=.dic ks ds:=by
  cases d <;> first | exact k2.elim | exact ⟨_,_,rfl⟩
 simp only [Rep] at r1'
 obtain ⟨p,kvs,rfl,_,h1,rfl,h3⟩:=r1'
 unfold gDIx at k2
 cases ek:keyD dk with
 | none=>simp only [ek] at k2;exact k2.elim
 | some q' =>
  simp only [ek] at k2
  have hv:=Qb4 (q:=q') h3
  cases eg:dGet (kvs.map (·.1)) ds q' with
  | none=>simp only [eg] at k2;exact k2.elim
  | some d' =>
   simp only [eg] at k2 hv
   obtain ⟨w',z1,z2⟩:=hv
   rw [QbP ek r2']
   refine ⟨p,w',rfl,?_,k2 w' H2 (e1.trans e2) (Post.bOf' hm z2)⟩
   rw [← z1];exact DGet.r h1
def fIxD (j:Nat) (fk:Fn):Fn:=fun δ=>match δ[j]? with
 | some (.own (.dic ks ds))=>(fk δ).bind fun k=>gDIx (.dic ks ds) k
 | _=>.bad
theorem xixOD (j:Nat) {px:Pos} (hu:X.A.units + 64 < cLine) (hi:PE X i (tX X.K E .W fi)) (hN:X.N[j]? = some x:=by rfl) (hv:Vis X.env.scope x:=by first | exact Or.inl rfl | exact Or.inr (Or.inl rfl) | exact Or.inr (Or.inr rfl)) (hd:(x == ("__debug__":Str))=false:=by decide)
  (hcd:(x == ("__classdict__":Str))=false:=by decide) (hs:NoSl i:=by exact fun _ _=>rfl):PE X (.Subscript (.Name x px) i pos) (tX X.K E .S (fIxD j fi)) :=
 (Qkx (by lia) (pv j hN hv hd hcd) hi hs).imp fun σ H Q q=>by
 obtain ⟨c,δ,hK,ab,q⟩:=q
 unfold fIxD at q
 cases e0:δ[j]? with
 | none=>rw [e0] at q;exact q.elim
 | some s =>
  rw [e0] at q
  cases s with
  | un=>exact q.elim
  | val d=>exact q.elim
  | own d =>
   cases d <;> first | exact q.elim | skip
   rename_i ks ds
   obtain ⟨p,o,g1,g2,g3,kvs,rfl,rfl,g4⟩:=ab.own j _ e0
   refine ⟨.ref p,g1,c,δ,hK,ab,(Res.bind q).imp fun dk _ k2 y H2 e2 r2=>?_⟩
   have r2':Rep c.K c.B H2 dk y:=r2
   unfold gDIx at k2
   cases ek:keyD dk with
   | none=>simp only [ek] at k2;exact k2.elim
   | some q' =>
    simp only [ek] at k2
    have hv:=Qb4 (q:=q') (g4.same e2)
    cases eg:dGet (kvs.map (·.1)) ds q' with
    | none=>simp only [eg] at k2;exact k2.elim
    | some d' =>
     simp only [eg] at k2 hv
     obtain ⟨w',z1,z2⟩:=hv
     rw [QbP ek r2']
     refine ⟨p,w',rfl,?_,k2 w' H2 e2 z2⟩
     rw [← z1];exact DGet.k (e2 _ _ g2)
def gDIn (neg:Bool):D->D->Ou D
 | k,.dic ks ds=>(match keyD k with
  | some q=>if ds.length=ks.length then .ok (.bl (let z:=(dGet ks ds q).isSome;if neg then !z else z)) else .bad
  | none=>.bad)
 | _,_=>.bad
theorem QoI (hu:X.A.units + 64 < cLine):OpR X (compareOp .In) (fun x y H Q=>∃ a o,y=.ref a/\DGet H a x o/\Q (.bl o.isSome) H):=by
 intro pins s σ H x y v u Q I rx ry h
 obtain ⟨a,o,rfl,g,q⟩:=h
 obtain rfl:u=Value.ref a:=ry
 exact d_in (by lia) I g rx fun s' I'=>⟨.bl o.isSome,H,I',rfl,q⟩
theorem Qlf (hu:X.A.units + 64 < cLine):OpR X (compareOp .NotIn) (fun x y H Q=>∃ a o,y=.ref a/\DGet H a x o/\Q (.bl (!o.isSome)) H):=by
 intro pins s σ H x y v u Q I rx ry h
 obtain ⟨a,o,rfl,g,q⟩:=h
 obtain rfl:u=Value.ref a:=ry
 exact QnP (by lia) I g rx fun s' I'=>⟨.bl (!o.isSome),H,I',rfl,q⟩
theorem Qh7 {K:W.Frag} {B:Addr->Prop} {H:Hp} {dx:D} {ks:List Key} {ds:List D} {x y:V} {q:Key} (hk:keyD dx=some q) (rx:Rep K B H dx x) (ry:Rep K B H (.dic ks ds) y):∃ a o,y=.ref a/\DGet H a x o/\o.isSome=(dGet ks ds q).isSome:=by
 simp only [Rep] at ry
 obtain ⟨a,kvs,rfl,_,h1,rfl,h3⟩:=ry
 have hv:=Qb4 (q:=q) h3
 rw [QbP hk rx]
 refine ⟨a,_,rfl,DGet.r h1,?_⟩
 cases eg:dGet (kvs.map (·.1)) ds q with
 | none=>rw [eg] at hv;rw [show valV kvs q=none from hv];rfl
 | some d' =>
  rw [eg] at hv
  obtain ⟨w',z1,_⟩:=hv
  rw [z1];rfl
theorem QpL (hu:X.A.units + 64 < cLine):OpD X (compareOp .In) (gDIn false):=by
 refine ⟨_,QoI hu,fun B H dx dy x y Q rx ry=>?_⟩
 cases dy <;> simp only [gDIn]
 rename_i ks ds
 cases ek:keyD dx with
 | none=>trivial
 | some q =>
  by_cases hl:ds.length=ks.length
  ·simp only [if_pos hl]
   refine ⟨rfl,fun w=>?_⟩
   obtain ⟨a,o,h1,h2,h3⟩:=Qh7 ek rx ry
   exact ⟨a,o,h1,h2,by rw [h3];exact w⟩
  ·simp only [if_neg hl]
theorem QgL (hu:X.A.units + 64 < cLine):OpD X (compareOp .NotIn) (gDIn true):=by
 refine ⟨_,Qlf hu,fun B H dx dy x y Q rx ry=>?_⟩
 cases dy <;> simp only [gDIn]
 rename_i ks ds
 cases ek:keyD dx with
 | none=>trivial
 | some q =>
  by_cases hl:ds.length=ks.length
  ·simp only [if_pos hl]
   refine ⟨rfl,fun w=>?_⟩
   obtain ⟨a,o,h1,h2,h3⟩:=Qh7 ek rx ry
   exact ⟨a,o,h1,h2,by rw [h3];exact w⟩
  ·simp only [if_neg hl]
def sDPut (j:Nat) (fk fv:Fn):Sm:=fun δ=>(fv δ).bind fun d=>match δ[j]? with
 | some (.own (.dic ks ds))=>(fk δ).bind fun k=>(match keyD k with
  | some q=>if ks.length < sizeLine then .ok (.nx (δ.set j (.own (.dic (QeD ks q) (Qew ks ds q d))))) else .bad
  | none=>.bad)
 | _=>.bad
theorem QeT (j:Nat) {px tpos:Pos} (hu:X.A.units + 64 < cLine) (hk:PE X b (tX X.K E .W fb)) (he:PE X e (tX X.K E .S fe)) (hN:X.N[j]? = some x:=by rfl) (hv:Vis X.env.scope x:=by first | exact Or.inl rfl | exact Or.inr (Or.inl rfl) | exact Or.inr (Or.inr rfl)) (hd:(x == ("__debug__":Str))=false:=by decide) (hcd:(x == ("__classdict__":Str))=false:=by decide)
  (hs:swapsWith e (some (.Subscript (.Name x px) b tpos)) pos.line X.env=pure false:=by rfl):PS X (.Assign [.Subscript (.Name x px) b tpos] e pos) (tS X.K E fr (sDPut j fb fe)) :=
 (QnJ (by lia) (pv j hN hv hd hcd) hk he hs).imp fun D σ H q=>by
 obtain ⟨c,δ,hK,ab,q⟩:=q
 refine ⟨c,δ,hK,ab,(Res.bind q).imp fun d _ k v H1 e1 r1=>?_⟩
 cases e0:δ[j]? with
 | none=>rw [e0] at k;exact k.elim
 | some s =>
  rw [e0] at k
  cases s with
  | un=>exact k.elim
  | val d=>exact k.elim
  | own dd =>
   cases dd <;> first | exact k.elim | skip
   rename_i ks ds
   obtain ⟨p,o,g1,g2,g3,kvs,rfl,rfl,g4⟩:=ab.own j _ e0
   refine ⟨.ref p,g1,c,δ,hK,ab.grow e1,(Res.bind k).imp fun dk _ k2 kv H2 e2 r2=>?_⟩
   have r2':Rep c.K c.B H2 dk kv:=r2
   cases ek:keyD dk with
   | none=>simp only [ek] at k2;exact k2.elim
   | some q' =>
    simp only [ek] at k2
    by_cases hl:(kvs.map (·.1)).length < sizeLine
    ·simp only [if_pos hl] at k2
     have z2:=e2 _ _ (e1 _ _ g2)
     obtain ⟨w1,w2⟩:=Qnm (q:=q') ((g4.same e1).same e2) (Rep.same (show Rep c.K (Av c σ δ) H1 d v from r1) e2)
     rw [QbP ek r2']
     exact ⟨p,_,rfl,DPut.k z2 (by simpa using hl),k2 σ _ (((ab.grow e1).grow e2).mut e0 g1 ⟨_,rfl,w1,w2⟩)⟩
    ·simp only [if_neg hl] at k2
     exact k2.elim
theorem Qmj {c:Cn} {σ:St} {δ:DS} {H H1:Hp} {kvs:List (Key×V)} {ds:List D} {l:Addr} (e1:Same H H1) (hl:H1 l=none) (h2:Reps c.K (Av c σ δ) H1 ds (kvs.map (·.2))):Post c σ δ H .F (.dic (kvs.map (·.1)) ds) (.ref l) (upd H1 l (.dK kvs)) :=
 ⟨l,_,rfl,e1.free hl,Qm,kvs,rfl,rfl,(Reps.off h2 hl).same (Qp hl _)⟩
end
def ins (n:Int):List Int->List Int
 | []=>[n]
 | m::r=>if n<=m then n::m::r else m::ins n r
def QdN:List Int->List Int
 | []=>[]
 | n::r=>ins n (QdN r)
theorem Qe2 (n:Int):∀ r:List Int,(ins n r).Perm (n::r)
 | []=>List.Perm.refl _
 | m::r=>by
  unfold ins
  by_cases h:n<=m
  ·rw [if_pos h]
  ·rw [if_neg h]
   exact ((Qe2 n r).cons m).trans (List.Perm.swap n m r)
theorem Qdj:∀ r:List Int,(QdN r).Perm r
 | []=>List.Perm.refl _
 | n::r=>(Qe2 n _).trans ((Qdj r).cons n)
theorem Qfm (n:Int):∀ {r:List Int},r.Pairwise (·<=·)->(ins n r).Pairwise (·<=·)
 | [],_=>by simp [ins]
 | m::r,h=>by
  unfold ins
  have h':=List.pairwise_cons.mp h
  by_cases hn:n<=m
  ·rw [if_pos hn]
   refine List.pairwise_cons.mpr ⟨fun x hx=>?_,h⟩
   rcases List.mem_cons.mp hx with rfl | hx
   ·exact hn
   ·exact Int.le_trans hn (h'.1 x hx)
  ·rw [if_neg hn]
   refine List.pairwise_cons.mpr ⟨fun x hx=>?_,Qfm n h'.2⟩
   rcases List.mem_cons.mp ((Qe2 n r).mem_iff.mp hx) with rfl | hx
   ·lia
   ·exact h'.1 x hx
theorem QdH:∀ r:List Int,(QdN r).Pairwise (·<=·)
 | []=>List.Pairwise.nil
 | n::r=>Qfm n (QdH r)
theorem Qhs (r:List Int):(QdN r).length=r.length:=(Qdj r).length_eq
theorem QfH {a ns:List Int} (hp:a.Perm ns) (ha:a.Pairwise (·<=·)):a=QdN ns:=W.ksm_same (hp.trans (Qdj ns).symm) ha (QdH ns)
theorem Qb7:∀ {ns:List Int} {us:List Value},Vals (ns.map V.int) us->IntsAre us ns
 | [],us,r=>by cases r;exact .nil
 | n::ns,us,r=>by
  cases r with
  | cons h t =>
   obtain ⟨tk,rfl⟩:=h
   exact .cons n tk (Qb7 t)
theorem QgC:∀ {us:List Value} {ns:List Int},IntsAre us ns->Vals (ns.map V.int) us
 | _,_,.nil=>.nil
 | _,_,.cons n t h=>.cons ⟨t,rfl⟩ (QgC h)
section
variable {X:Cx} {E:XK} {m:Md} {a b e o i:Expr} {fa fb fe fo fi:Fn} {pos p:Pos} {fr:Rm} {x:Str}
theorem QjY:∀ {us:List Value} {ns:List Int},us.length=ns.length->(∀ (j:Nat) (v:Value),us[j]? = some v->∃ n,ns[j]? = some n/\∃ t,v=Value.int n t)->IntsAre us ns
 | [],[],_,_=>.nil
 | [],_::_,h,_=>by simp at h
 | _::_,[],h,_=>by simp at h
 | u::us,n::ns,h,g=>by
  obtain ⟨n',h1,t,rfl⟩:=g 0 u rfl
  cases h1
  exact .cons _ t (QjY (by simpa using h) fun j v hj=>g (j + 1) v hj)
theorem Qmy {kvs:List (Key×V)} {vs:List (Key×Value)} (r:KV kvs vs):∀ {j:Nat} {k:Key} {x:Value},vs[j]? = some (k,x)->(kvs.map (·.1))[j]? = some k:=by
 induction r with
 | nil=>intro j k x h;simp at h
 | cons h t ih =>
  intro j k x hx
  cases j with
  | zero =>
   simp only [List.getElem?_cons_zero,Option.some.injEq] at hx
   subst hx
   simp only [List.map_cons,List.getElem?_cons_zero,Option.some.injEq]
   exact h.1
  | succ j =>
   simp only [List.getElem?_cons_succ] at hx
   simp only [List.map_cons,List.getElem?_cons_succ]
   exact ih hx
theorem Qd0 {n:Int} {v:Value} (h:Qey (.inl n) v=true):∃ t,v=Value.int n t:=by
 have h':Value.isInt n v=true:=h
 cases v <;> simp [Value.isInt] at h'
 subst h'
 exact ⟨_,rfl⟩
def Qep:List D->Option (List Int)
 | []=>some []
 | .int n::r=>(Qep r).map (n::·)
 | _=>none
theorem QkR (ns:List Int):Qep (ns.map D.int)=some ns:=by
 induction ns with
 | nil=>rfl
 | cons n r ih=>simp [Qep,ih]
theorem QiV:∀ {ds:List D} {ns:List Int},Qep ds=some ns->ds=ns.map D.int
 | [],ns,h=>by cases h;rfl
 | d::r,ns,h=>by
  cases d <;> simp [Qep] at h
  obtain ⟨a,h1,rfl⟩:=h
  rw [QiV h1];rfl
theorem Qgq {K:W.Frag} {B:Addr->Prop} {H:Hp}:∀ {ns:List Int} {vs:List V},Reps K B H (ns.map D.int) vs->vs=ns.map V.int
 | [],vs,r=>by simpa [Reps] using r
 | n::ns,vs,r=>by
  simp only [List.map_cons,Reps] at r
  obtain ⟨v,r',rfl,h1,h2⟩:=r
  simp only [Rep] at h1
  subst h1
  rw [Qgq h2];rfl
theorem Qgo {K:W.Frag} {B:Addr->Prop} {H:Hp}:∀ {ns:List Int},Reps K B H (ns.map D.int) (ns.map V.int)
 | []=>by simp [Reps]
 | n::ns=>by
  simp only [List.map_cons,Reps]
  exact ⟨_,_,rfl,by simp only [Rep],Qgo⟩
def QfS:List Key->Option (List Int)
 | []=>some []
 | .inl n::r=>(QfS r).map (n::·)
 | _=>none
theorem QkV (ns:List Int):QfS (ns.map Sum.inl)=some ns:=by
 induction ns with
 | nil=>rfl
 | cons n r ih=>simp [QfS,ih]
theorem QhS:∀ {ks:List Key} {ns:List Int},QfS ks=some ns->ks=ns.map Sum.inl
 | [],ns,h=>by cases h;rfl
 | d::r,ns,h=>by
  cases d <;> simp [QfS] at h
  obtain ⟨a,h1,rfl⟩:=h
  rw [QhS h1];rfl
end
end DL
namespace Tim
open PySem PyProof.Rows
def R (ρ:Keyed->Int) (xs:Array Keyed) (i:Nat):Int:=(xs[i]?.map ρ).getD 0
def Up (ρ:Keyed->Int) (xs:Array Keyed) (lo hi:Nat):Prop:=∀ i j,lo<=i->i<=j->j < hi->R ρ xs i<=R ρ xs j
def Dn (ρ:Keyed->Int) (xs:Array Keyed) (lo hi:Nat):Prop:=∀ i j,lo<=i->i<=j->j < hi->R ρ xs j<=R ρ xs i
def Stays (xs ys:Array Keyed) (lo hi:Nat):Prop:=∀ i,i < lo\/hi<=i->ys[i]? = xs[i]?
theorem Stays.refl (xs:Array Keyed) (lo hi:Nat):Stays xs xs lo hi:=fun _ _=>rfl
theorem Stays.trans {xs ys zs:Array Keyed} {lo hi:Nat} (h:Stays xs ys lo hi) (k:Stays ys zs lo hi):Stays xs zs lo hi:=fun i hi=>(k i hi).trans (h i hi)
theorem R_of {ρ:Keyed->Int} {xs ys:Array Keyed} {i j:Nat} (h:xs[i]? = ys[j]?):R ρ xs i=R ρ ys j:=by unfold R;rw [h]
theorem QfA {ρ:Keyed->Int} {xs:Array Keyed} {i j:Nat} (hj:j<=xs.size) (k:Nat):R ρ (mirror xs i j ((j - i) / 2)) k=if i<=k/\k < j then R ρ xs (i + j - 1 - k) else R ρ xs k:=by
 have e:=getElem?_mirror_all (i:=i) hj k
 by_cases c:i<=k/\k < j
 ·rw [if_pos c] at e ⊢;exact R_of e
 ·rw [if_neg c] at e ⊢;exact R_of e
theorem QaO {ρ:Keyed->Int} {xs:Array Keyed} {i j:Nat} (hj:j<=xs.size) (he:∀ k,i<=k->k < j->R ρ xs k=R ρ xs (j - 1)) (k:Nat):R ρ (mirror xs i j ((j - i) / 2)) k=R ρ xs k:=by
 rw [QfA hj]
 by_cases c:i<=k/\k < j
 ·rw [if_pos c,he _ (by lia) (by lia),he k c.1 c.2]
 ·rw [if_neg c]
theorem Stays.mirror {xs:Array Keyed} {i j lo hi:Nat} (hj:j<=xs.size) (h1:lo<=i) (h2:j<=hi):Stays xs (mirror xs i j ((j - i) / 2)) lo hi:=fun k hk=>by
 rw [getElem?_mirror_all hj,if_neg (by lia)]
theorem Qh3 {ρ:Keyed->Int} {xs:Array Keyed} {src d:Nat} (hs:src < xs.size) (hd:d<=src) (k:Nat):R ρ (bubble xs src d) k=if k=src - d then R ρ xs src else if src - d < k/\k<=src then R ρ xs (k - 1) else R ρ xs k:=by
 have e:=getElem?_bubble hs d hd k
 by_cases c1:k=src - d
 ·rw [if_pos c1] at e ⊢;exact R_of e
 ·rw [if_neg c1] at e ⊢
  by_cases c2:src - d < k/\k<=src
  ·rw [if_pos c2] at e ⊢;exact R_of e
  ·rw [if_neg c2] at e ⊢;exact R_of e
theorem Stays.bubble {xs:Array Keyed} {src d lo hi:Nat} (hs:src < xs.size) (hd:d<=src) (h1:lo<=src - d) (h2:src < hi):Stays xs (bubble xs src d) lo hi:=fun k hk=>by
 rw [getElem?_bubble hs d hd,if_neg (by lia),if_neg (by lia)]
structure Bs (κ:SortKind) (a₀:Array Keyed) (st:SortSt):Prop where
 perm:(arrOf st).Perm a₀
 kind:kindOf st=κ
 fine:failedOf st=none
theorem Bs.size {κ:SortKind} {a₀:Array Keyed} {st:SortSt} (h:Bs κ a₀ st):(arrOf st).size=a₀.size:=h.perm.size_eq
theorem Bs.put {κ:SortKind} {a₀:Array Keyed} {st:SortSt} (h:Bs κ a₀ st) {xs:Array Keyed} (hp:xs.Perm (arrOf st)):Bs κ a₀ (setArr st xs):=⟨hp.trans h.perm,h.kind,h.fine⟩
theorem Bs.has {κ:SortKind} {a₀:Array Keyed} {st:SortSt} (h:Bs κ a₀ st) {i:Nat} (hi:i < a₀.size):∃ x,(arrOf st)[i]? = some x/\x∈a₀.toList:=by
 have hi':i < (arrOf st).size:=by rw [h.size];exact hi
 exact ⟨(arrOf st)[i],getElem?_pos _ i hi',(Array.perm_iff_toList_perm.mp h.perm).mem_iff.mp (by simp)⟩
section
variable {prog:Program} {w:World} {A:Around} {E:Value->Shared->Prop} {s:Shared} {κ:SortKind} {ρ:Keyed->Int} {a₀:Array Keyed}
def Told (prog:Program) (w:World) (A:Around) (s:Shared) (κ:SortKind) (ρ:Keyed->Int) (a₀:Array Keyed):Prop :=
 ∀ x,x∈a₀.toList->∀ y,y∈a₀.toList->∀ (E:Value->Shared->Prop) (Q:Bool->Shared->Prop),Q (decide (ρ x < ρ y)) s->wpAny (model prog w) A (keyLt' κ x.1 y.1) Q E s
theorem lt_ {st:SortSt} {x y:Keyed} {Q:Option Bool->SortSt->Prop} (T:Told prog w A s κ ρ a₀) (hk:kindOf st=κ) (hx:x∈a₀.toList) (hy:y∈a₀.toList) (h:Q (some (decide (ρ x < ρ y))) st) :
  wpS (model prog w) A E s (lt' x y) Q st:=by
 rw [lt'_eq]
 refine wpS_bind (wpS_get ?_)
 rw [hk]
 refine wpS_bind (wpS_lift (wpAny_attempt (T x hx y hy _ _ ⟨rfl,?_⟩)))
 exact wpS_pure h
theorem Qox {st:SortSt} {xs:Array Keyed} {i:Nat} {x:Keyed} {Q:Keyed->SortSt->Prop} (hx:xs[i]? = some x) (h:Q x st):wpS (model prog w) A E s (elem' xs i) Q st:=by
 rw [elem'_eq,hx]
 exact wpS_pure h
theorem QhZ {st:SortSt} {i j:Nat} {Q:Option Bool->SortSt->Prop} (T:Told prog w A s κ ρ a₀) (hB:Bs κ a₀ st) (hi:i < a₀.size) (hj:j < a₀.size)
  (h:Q (some (decide (R ρ (arrOf st) i < R ρ (arrOf st) j))) st):wpS (model prog w) A E s (ltAt' i j) Q st:=by
 obtain ⟨x,ex,mx⟩:=hB.has hi
 obtain ⟨y,ey,my⟩:=hB.has hj
 rw [ltAt'_eq]
 refine wpS_bind (wpS_get (wpS_bind (Qox ex (wpS_bind (Qox ey (lt_ T hB.kind mx my ?_))))))
 have e1:R ρ (arrOf st) i=ρ x:=by unfold R;rw [ex];rfl
 have e2:R ρ (arrOf st) j=ρ y:=by unfold R;rw [ey];rfl
 rw [e1,e2] at h
 exact h
abbrev St1:=Option (Option Nat)×Nat
abbrev St2:=Option (Option Nat)×Nat×Nat
def upL (lo a m:Nat):StateT SortSt Sem St1:=forIn [a:m] ((none,a):St1) fun _ r=>do
 let x ← ltAt' (lo + r.snd) (lo + r.snd - 1)
 match x with
 | some b=>if b=true then pure (.done (none,r.snd)) else pure (.yield (none,r.snd + 1))
 | _=>pure (.done (some none,r.snd))
def endL (lo n m:Nat):StateT SortSt Sem (Option Nat):=do
 reverseSlice' lo (lo + n)
 let r ← upL lo n m
 match r.fst with
 | some z=>pure z
 | none=>pure (some r.snd)
def dnL (lo n m:Nat):StateT SortSt Sem St2:=forIn [n:m] ((none,n,0):St2) fun _ r=>do
 let x ← ltAt' (lo + r.snd.fst) (lo + r.snd.fst - 1)
 match x with
 | some b =>
  if b=true then
   if r.snd.snd > 0 then do
    reverseSlice' (lo + r.snd.fst - (r.snd.snd + 1)) (lo + r.snd.fst)
    pure (.yield (none,r.snd.fst + 1,0))
   else pure (.yield (none,r.snd.fst + 1,0))
  else do
   let y ← ltAt' (lo + r.snd.fst - 1) (lo + r.snd.fst)
   match y with
   | some c=>if c=true then pure (.done (none,r.snd.fst,r.snd.snd)) else pure (.yield (none,r.snd.fst + 1,r.snd.snd + 1))
   | _=>pure (.done (some none,r.snd.fst,r.snd.snd))
 | _=>pure (.done (some none,r.snd.fst,r.snd.snd))
def Qge (lo n m:Nat):StateT SortSt Sem (Option Nat):=do
 liftM (rule "list.sort.descending-run")
 let r ← dnL lo (n + 1) m
 match r.fst with
 | some z=>pure z
 | none =>
  if r.snd.snd > 0 then do
   reverseSlice' (lo + r.snd.fst - (r.snd.snd + 1)) (lo + r.snd.fst)
   endL lo r.snd.fst m
  else endL lo r.snd.fst m
def runL (lo m:Nat):StateT SortSt Sem (Option Nat):=do
 let r ← upL lo 1 m
 match r.fst with
 | some z=>pure z
 | none =>
  if (r.snd == m)=true then pure (some r.snd)
  else if r.snd > 1 then do
   let x ← ltAt' lo (lo + r.snd - 1)
   match x with
   | some b=>if b=true then pure (some r.snd) else do
     reverseSlice' lo (lo + r.snd)
     Qge lo r.snd m
   | _=>pure none
  else Qge lo r.snd m
theorem QoL (lo m:Nat):countRun' lo m=runL lo m:=by
 rw [countRun'_eq]
 unfold runL
 dsimp only
 congr 1
 funext r
 obtain ⟨z,n⟩:=r
 cases z with
 | some z=>rfl
 | none =>
  dsimp only
  by_cases c1:(n == m)=true
  ·rw [if_pos c1,if_pos c1]
  ·rw [if_neg c1,if_neg c1]
   by_cases c2:n > 1
   ·rw [if_pos c2,if_pos c2]
    congr 1
    funext x
    cases x with
    | none=>rfl
    | some b =>
     dsimp only
     cases b with
     | true=>rfl
     | false =>
      simp only [Bool.false_eq_true,if_false]
      congr 1
      funext u
      unfold Qge
      congr 1
      funext v
      congr 1
      funext r
      obtain ⟨z,n',q⟩:=r
      cases z with
      | some z=>rfl
      | none =>
       dsimp only
       by_cases c3:q > 0
       ·rw [if_pos c3,if_pos c3]
        congr 1
        funext y
        unfold endL
        congr 1
        funext y'
        congr 1
        funext r
        obtain ⟨z,k⟩:=r
        cases z <;> rfl
       ·rw [if_neg c3,if_neg c3]
        unfold endL
        congr 1
        funext y'
        congr 1
        funext r
        obtain ⟨z,k⟩:=r
        cases z <;> rfl
   ·rw [if_neg c2,if_neg c2]
    unfold Qge
    congr 1
    funext v
    congr 1
    funext r
    obtain ⟨z,n',q⟩:=r
    cases z with
    | some z=>rfl
    | none =>
     dsimp only
     by_cases c3:q > 0
     ·rw [if_pos c3,if_pos c3]
      congr 1
      funext y
      unfold endL
      congr 1
      funext y'
      congr 1
      funext r
      obtain ⟨z,k⟩:=r
      cases z <;> rfl
     ·rw [if_neg c3,if_neg c3]
      unfold endL
      congr 1
      funext y'
      congr 1
      funext r
      obtain ⟨z,k⟩:=r
      cases z <;> rfl
theorem rev_ {st:SortSt} {i j:Nat} {Q:Unit->SortSt->Prop} (h:Q () (setArr st (mirror (arrOf st) i j ((j - i) / 2)))):wpS (model prog w) A E s (reverseSlice' i j) Q st:=by
 rw [reverseSlice'_eq]
 exact wpS_modify h
theorem upL_ {st:SortSt} {lo a m:Nat} {Q:St1->SortSt->Prop} (T:Told prog w A s κ ρ a₀) (hB:Bs κ a₀ st) (hm:lo + m<=a₀.size) (h1:1<=a) (ha:a<=m) (hu:Up ρ (arrOf st) lo (lo + a))
  (h:∀ n,a<=n->n<=m->Up ρ (arrOf st) lo (lo + n)->(n=m\/R ρ (arrOf st) (lo + n) < R ρ (arrOf st) (lo + n - 1))->Q (none,n) st):wpS (model prog w) A E s (upL lo a m) Q st:=by
 unfold upL
 refine wpS_forRange (I:=fun x c st'=>st'=st/\c=(none,x)/\Up ρ (arrOf st) lo (lo + x)) ?_ ?_ ⟨rfl,rfl,hu⟩
 ·rintro x c st' hx1 hx2 ⟨rfl,rfl,hs⟩
  dsimp only
  refine wpS_bind (QhZ T hB (by lia) (by lia) ?_)
  by_cases hl:R ρ (arrOf st') (lo + x) < R ρ (arrOf st') (lo + x - 1)
  ·rw [decide_eq_true hl]
   exact wpS_pure (h x hx1 (by lia) hs (.inr hl))
  ·rw [decide_eq_false hl]
   refine wpS_pure ⟨rfl,rfl,fun i j q1 q2 q3=>?_⟩
   by_cases c:j < lo + x
   ·exact hs i j q1 q2 c
   ·obtain rfl:j=lo + x:=by lia
    by_cases c2:i=lo + x
    ·rw [c2];exact Int.le_refl _
    ·have:=hs i (lo + x - 1) q1 (by lia) (by lia)
     lia
 ·rintro c st' ⟨rfl,rfl,hs⟩
  rw [Nat.max_eq_right ha] at hs ⊢
  exact h m ha (Nat.le_refl _) hs (.inl rfl)
theorem Qom {st:SortSt} {lo n m:Nat} {Q:Option Nat->SortSt->Prop} (T:Told prog w A s κ ρ a₀) (hB:Bs κ a₀ st) (hm:lo + m<=a₀.size) (h1:1<=n) (hn:n<=m) (hd:Dn ρ (arrOf st) lo (lo + n))
  (h:∀ k st',Bs κ a₀ st'->Stays (arrOf st) (arrOf st') lo (lo + m)->pendingOf st'=pendingOf st->1<=k->k<=m->Up ρ (arrOf st') lo (lo + k)->Q (some k) st'):wpS (model prog w) A E s (endL lo n m) Q st:=by
 unfold endL
 have hz:lo + n<=(arrOf st).size:=by rw [hB.size];lia
 refine wpS_bind (rev_ ?_)
 have hB':Bs κ a₀ (setArr st (mirror (arrOf st) lo (lo + n) ((lo + n - lo) / 2))):=hB.put (mirror_perm _ _ _ _)
 refine wpS_bind (upL_ T hB' hm h1 hn (fun i j q1 q2 q3=>?_) fun k k1 k2 k3 _=>wpS_pure (h k _ hB' (Stays.mirror hz (Nat.le_refl _) (by lia)) rfl (by lia) k2 k3))
 show R ρ (mirror (arrOf st) lo (lo + n) _) i<=R ρ (mirror (arrOf st) lo (lo + n) _) j
 rw [QfA hz,QfA hz,if_pos (by lia),if_pos (by lia)]
 exact hd _ _ (by lia) (by lia) (by lia)
theorem dnL_ {st:SortSt} {lo n m:Nat} {Q:St2->SortSt->Prop} (T:Told prog w A s κ ρ a₀) (hB:Bs κ a₀ st) (hm:lo + m<=a₀.size) (h1:1<=n) (hn:n<=m) (hd:Dn ρ (arrOf st) lo (lo + n))
  (h:∀ k q st',Bs κ a₀ st'->Stays (arrOf st) (arrOf st') lo (lo + m)->pendingOf st'=pendingOf st->n<=k->k<=m->Dn ρ (arrOf st') lo (lo + k)->q + 1<=k ->
   (∀ i,lo + k - (q + 1)<=i->i < lo + k->R ρ (arrOf st') i=R ρ (arrOf st') (lo + k - 1))->Q (none,k,q) st'):wpS (model prog w) A E s (dnL lo n m) Q st:=by
 unfold dnL
 refine wpS_forRange (I:=fun x c st'=>∃ q,c=(none,x,q)/\Bs κ a₀ st'/\Stays (arrOf st) (arrOf st') lo (lo + m)/\pendingOf st'=pendingOf st/\Dn ρ (arrOf st') lo (lo + x)/\q + 1<=x /\
   (∀ i,lo + x - (q + 1)<=i->i < lo + x->R ρ (arrOf st') i=R ρ (arrOf st') (lo + x - 1))) ?_ ?_ ⟨0,rfl,hB,Stays.refl _ _ _,rfl,hd,h1,fun i q1 q2=>by congr 1;lia⟩
 ·rintro x c st' hx1 hx2 ⟨q,rfl,hB',hst,hpe,hs,hq,he⟩
  dsimp only
  have hz:lo + x<=(arrOf st').size:=by rw [hB'.size];lia
  refine wpS_bind (QhZ T hB' (by lia) (by lia) ?_)
  have more:∀ xs:Array Keyed,(∀ k,R ρ xs k=R ρ (arrOf st') k)->R ρ (arrOf st') (lo + x)<=R ρ (arrOf st') (lo + x - 1)->Dn ρ xs lo (lo + (x + 1)):=by
   intro xs hk hl i j q1 q2 q3
   rw [hk,hk]
   by_cases c:j < lo + x
   ·exact hs i j q1 q2 c
   ·obtain rfl:j=lo + x:=by lia
    by_cases c2:i=lo + x
    ·rw [c2];exact Int.le_refl _
    ·have:=hs i (lo + x - 1) q1 (by lia) (by lia)
     lia
  by_cases hl:R ρ (arrOf st') (lo + x) < R ρ (arrOf st') (lo + x - 1)
  ·rw [decide_eq_true hl]
   by_cases hq0:q > 0
   ·simp only [if_true]
    rw [if_pos hq0]
    refine wpS_bind (rev_ (wpS_pure ⟨0,rfl,hB'.put (mirror_perm _ _ _ _),hst.trans (Stays.mirror hz (by lia) (by lia)),hpe,more _ (QaO hz he) (Int.le_of_lt hl),by lia,fun i q1 q2=>by congr 1;lia⟩))
   ·simp only [if_true]
    rw [if_neg hq0]
    exact wpS_pure ⟨0,rfl,hB',hst,hpe,more _ (fun _=>rfl) (Int.le_of_lt hl),by lia,fun i q1 q2=>by congr 1;lia⟩
  ·rw [decide_eq_false hl]
   simp only [Bool.false_eq_true,if_false]
   refine wpS_bind (QhZ T hB' (by lia) (by lia) ?_)
   by_cases hg:R ρ (arrOf st') (lo + x - 1) < R ρ (arrOf st') (lo + x)
   ·rw [decide_eq_true hg]
    exact wpS_pure (h x q st' hB' hst hpe hx1 (by lia) hs hq he)
   ·rw [decide_eq_false hg]
    have ee:R ρ (arrOf st') (lo + x)=R ρ (arrOf st') (lo + x - 1):=by lia
    refine wpS_pure ⟨q + 1,rfl,hB',hst,hpe,more _ (fun _=>rfl) (by lia),by lia,fun i q1 q2=>?_⟩
    rw [show lo + (x + 1) - 1=lo + x by lia]
    by_cases c:i=lo + x
    ·rw [c]
    ·rw [ee];exact he i (by lia) (by lia)
 ·rintro c st' ⟨q,rfl,hB',hst,hpe,hs,hq,he⟩
  rw [Nat.max_eq_right hn] at hs hq he ⊢
  exact h m q st' hB' hst hpe hn (Nat.le_refl _) hs hq he
theorem Ql3 {st:SortSt} {lo n m:Nat} {Q:Option Nat->SortSt->Prop} (T:Told prog w A s κ ρ a₀) (hB:Bs κ a₀ st) (hm:lo + m<=a₀.size) (hn:n + 1<=m) (hd:Dn ρ (arrOf st) lo (lo + (n + 1)))
  (h:∀ k st',Bs κ a₀ st'->Stays (arrOf st) (arrOf st') lo (lo + m)->pendingOf st'=pendingOf st->1<=k->k<=m->Up ρ (arrOf st') lo (lo + k)->Q (some k) st'):wpS (model prog w) A E s (Qge lo n m) Q st:=by
 unfold Qge
 refine wpS_bind (wpS_lift (wpAny_rule ⟨rfl,?_⟩))
 refine wpS_bind (dnL_ T hB hm (by lia) hn hd fun k q st' hB' hst hpe k1 k2 hs hq he=>?_)
 dsimp only
 have hz:lo + k<=(arrOf st').size:=by rw [hB'.size];lia
 by_cases hq0:q > 0
 ·rw [if_pos hq0]
  refine wpS_bind (rev_ (Qom T (hB'.put (mirror_perm _ _ _ _)) hm (by lia) k2 (fun i j q1 q2 q3=>?_) fun k' st'' b1 b2 b3=>h k' st'' b1 ((hst.trans (Stays.mirror hz (by lia) (by lia))).trans b2) (b3.trans hpe)))
  show R ρ (mirror (arrOf st') _ _ _) j<=R ρ (mirror (arrOf st') _ _ _) i
  rw [QaO hz he,QaO hz he]
  exact hs i j q1 q2 q3
 ·rw [if_neg hq0]
  exact Qom T hB' hm (by lia) k2 hs fun k' st'' b1 b2 b3=>h k' st'' b1 (hst.trans b2) (b3.trans hpe)
theorem run_ {st:SortSt} {lo m:Nat} {Q:Option Nat->SortSt->Prop} (T:Told prog w A s κ ρ a₀) (hB:Bs κ a₀ st) (hm:lo + m<=a₀.size) (h1:1<=m)
  (h:∀ k st',Bs κ a₀ st'->Stays (arrOf st) (arrOf st') lo (lo + m)->pendingOf st'=pendingOf st->1<=k->k<=m->Up ρ (arrOf st') lo (lo + k)->Q (some k) st'):wpS (model prog w) A E s (countRun' lo m) Q st:=by
 rw [QoL]
 unfold runL
 refine wpS_bind (upL_ T hB hm (Nat.le_refl 1) h1 (fun i j q1 q2 q3=>by rw [show i=j by lia];exact Int.le_refl _) fun n n1 n2 hu hor=>?_)
 dsimp only
 by_cases c:n=m
 ·rw [if_pos (by simpa using c)]
  exact wpS_pure (h n st hB (Stays.refl _ _ _) rfl n1 n2 hu)
 ·rw [if_neg (by simpa using c)]
  have hl:=hor.resolve_left c
  by_cases c1:n > 1
  ·rw [if_pos c1]
   refine wpS_bind (QhZ T hB (by lia) (by lia) ?_)
   by_cases hr:R ρ (arrOf st) lo < R ρ (arrOf st) (lo + n - 1)
   ·rw [decide_eq_true hr]
    exact wpS_pure (h n st hB (Stays.refl _ _ _) rfl n1 n2 hu)
   ·rw [decide_eq_false hr]
    have hz:lo + n<=(arrOf st).size:=by rw [hB.size];lia
    have all:∀ k,lo<=k->k < lo + n->R ρ (arrOf st) k=R ρ (arrOf st) (lo + n - 1):=by
     intro k k1 k2
     have a1:=hu lo k (Nat.le_refl _) k1 k2
     have a2:=hu k (lo + n - 1) k1 (by lia) (by lia)
     lia
    simp only [Bool.false_eq_true,if_false]
    refine wpS_bind (rev_ (Ql3 T (hB.put (mirror_perm _ _ _ _)) hm (by lia) (fun i j q1 q2 q3=>?_) fun k st' b1 b2=>h k st' b1 ((Stays.mirror hz (Nat.le_refl _) (by lia)).trans b2)))
    show R ρ (mirror (arrOf st) _ _ _) j<=R ρ (mirror (arrOf st) _ _ _) i
    rw [QaO hz all,QaO hz all]
    by_cases cj:j < lo + n
    ·rw [all i (by lia) (by lia),all j (by lia) cj];exact Int.le_refl _
    ·obtain rfl:j=lo + n:=by lia
     by_cases ci:i=lo + n
     ·rw [ci];exact Int.le_refl _
     ·rw [all i q1 (by lia)];exact Int.le_of_lt hl
  ·rw [if_neg c1]
   obtain rfl:n=1:=by lia
   refine Ql3 T hB hm (by lia) (fun i j q1 q2 q3=>?_) h
   by_cases ci:i=j
   ·rw [ci];exact Int.le_refl _
   ·obtain rfl:i=lo:=by lia
    obtain rfl:j=i + 1:=by lia
    exact Int.le_of_lt hl
theorem ins_ {st:SortSt} {lo n ok:Nat} {Q:Bool->SortSt->Prop} (T:Told prog w A s κ ρ a₀) (hB:Bs κ a₀ st) (hn:lo + n<=a₀.size) (hok:ok<=n) (hu:Up ρ (arrOf st) lo (lo + ok))
  (h:∀ st',Bs κ a₀ st'->Stays (arrOf st) (arrOf st') lo (lo + n)->pendingOf st'=pendingOf st->Up ρ (arrOf st') lo (lo + n)->Q true st'):wpS (model prog w) A E s (binarySort' lo n ok) Q st:=by
 rw [binarySort'_eq]
 refine wpS_bind (wpS_mono (wpS_forRange (I:=fun k c st'=>c=(none,())/\Bs κ a₀ st'/\Stays (arrOf st) (arrOf st') lo (lo + n)/\pendingOf st'=pendingOf st/\Up ρ (arrOf st') lo (lo + min k n))
  (Q:=fun c st'=>c=(none,())/\Bs κ a₀ st'/\Stays (arrOf st) (arrOf st') lo (lo + n)/\pendingOf st'=pendingOf st/\Up ρ (arrOf st') lo (lo + n)) ?_ ?_ ?_) ?_)
 ·rintro k c st' k1 k2 ⟨rfl,hB',hst,hpe,hs⟩
  rw [Nat.min_eq_left (by lia)] at hs
  refine wpS_bind (wpS_mono (wpS_forRange (I:=fun x c st''=>st''=st'/\∃ l r,c=(none,l,r)/\l<=r/\r<=k/\r - l<=k - x /\
    (∀ i,i < l->R ρ (arrOf st') (lo + i)<=R ρ (arrOf st') (lo + k))/\(∀ i,r<=i->i < k->R ρ (arrOf st') (lo + k) < R ρ (arrOf st') (lo + i)))
   (Q:=fun c st''=>st''=st'/\∃ l r,c=(none,l,r)/\l<=k /\
    (∀ i,i < l->R ρ (arrOf st') (lo + i)<=R ρ (arrOf st') (lo + k))/\(∀ i,l<=i->i < k->R ρ (arrOf st') (lo + k) < R ρ (arrOf st') (lo + i))) ?_ ?_ ?_) ?_)
  ·rintro x c st'' _ hx ⟨rfl,l,r,rfl,hlr,hrk,hm,h1,h2⟩
   dsimp only
   by_cases hge:l ≥ r
   ·rw [if_pos hge]
    obtain rfl:l=r:=by lia
    exact wpS_pure ⟨rfl,l,l,rfl,hrk,h1,h2⟩
   ·rw [if_neg hge]
    refine wpS_bind (QhZ T hB' (by lia) (by lia) ?_)
    by_cases hl:R ρ (arrOf st'') (lo + k) < R ρ (arrOf st'') (lo + (l + r) / 2)
    ·rw [decide_eq_true hl]
     refine wpS_pure ⟨rfl,l,(l + r) / 2,rfl,by lia,by lia,by lia,h1,fun i q1 q2=>?_⟩
     exact Int.lt_of_lt_of_le hl (hs _ _ (by lia) (by lia) (by lia))
    ·rw [decide_eq_false hl]
     refine wpS_pure ⟨rfl,(l + r) / 2 + 1,r,rfl,by lia,by lia,by lia,fun i q1=>?_,h2⟩
     exact Int.le_trans (hs (lo + i) (lo + (l + r) / 2) (by lia) (by lia) (by lia)) (Int.not_lt.mp hl)
  ·rintro c st'' ⟨rfl,l,r,rfl,hlr,hrk,hm,h1,h2⟩
   obtain rfl:l=r:=by lia
   exact ⟨rfl,l,l,rfl,hrk,h1,h2⟩
  ·exact ⟨rfl,0,k,rfl,by lia,by lia,by lia,fun i hi=>by lia,fun i q1 q2=>by lia⟩
  ·rintro c st'' ⟨rfl,l,r,rfl,hlk,h1,h2⟩
   have hz:lo + k < (arrOf st'').size:=by rw [hB'.size];lia
   dsimp only
   rw [moveDown'_eq]
   refine wpS_bind (wpS_modify (wpS_pure ⟨rfl,hB'.put (bubble_perm _ _ _),hst.trans (Stays.bubble hz (by lia) (by lia) (by lia)),hpe,fun i j q1 q2 q3=>?_⟩))
   rw [Nat.min_eq_left (show k + 1<=n by lia)] at q3
   show R ρ (bubble (arrOf st'') (lo + k) (lo + k - (lo + l))) i<=R ρ (bubble (arrOf st'') (lo + k) (lo + k - (lo + l))) j
   rw [Qh3 hz (by lia),Qh3 hz (by lia),show lo + k - (lo + k - (lo + l))=lo + l by lia]
   have g1:∀ i,lo<=i->i < lo + l->R ρ (arrOf st'') i<=R ρ (arrOf st'') (lo + k):=fun i a b=>by
    have:=h1 (i - lo) (by lia)
    rwa [show lo + (i - lo)=i by lia] at this
   have g2:∀ i,lo + l<=i->i < lo + k->R ρ (arrOf st'') (lo + k) < R ρ (arrOf st'') i:=fun i a b=>by
    have:=h2 (i - lo) (by lia) (by lia)
    rwa [show lo + (i - lo)=i by lia] at this
   repeat' split
   all_goals first
    | (exfalso;lia)
    | exact Int.le_refl _
    | exact g1 _ (by lia) (by lia)
    | exact Int.le_of_lt (g2 _ (by lia) (by lia))
    | exact hs _ _ (by lia) (by lia) (by lia)
 ·rintro c st' ⟨hc,hB',hst,hpe,hs⟩
  refine ⟨hc,hB',hst,hpe,?_⟩
  rwa [show min (max (max ok 1) n) n=n by lia] at hs
 ·refine ⟨rfl,hB,Stays.refl _ _ _,rfl,fun i j q1 q2 q3=>?_⟩
  by_cases c:ok=0
  ·rw [show i=j by lia];exact Int.le_refl _
  ·exact hu i j q1 q2 (by lia)
 ·rintro c st' ⟨rfl,hB',hst,hpe,hs⟩
  exact wpS_pure (h st' hB' hst hpe hs)
end
section
variable {prog:Program} {w:World} {A:Around} {E:Value->Shared->Prop} {s:Shared} {κ:SortKind} {ρ:Keyed->Int} {a₀:Array Keyed}
theorem QmA {ρ:Keyed->Int} {a:Array Keyed} {j:Nat} {x:Keyed} (h:a[j]? = some x):R ρ a j=ρ x:=by unfold R;rw [h];rfl
theorem Qhw {n:Nat} (h1:1<=n) (h2:n < 64):minRun' n n 0=n:=by
 obtain ⟨f,rfl⟩:∃ f,n=f + 1:=⟨n - 1,by lia⟩
 rw [minRun'_succ,if_pos h2]
inductive Runs (ρ:Keyed->Int) (a₀:Array Keyed) (st:SortSt):Nat->Nat->Prop
 | none (h:pendingOf st=#[]):Runs ρ a₀ st 0 0
 | one (x:Nat) (h:pendingOf st=#[(0,a₀.size,0)]) (hx:1<=x) (u:Up ρ (arrOf st) 0 a₀.size):Runs ρ a₀ st x a₀.size
def Qop (κ:SortKind) (ρ:Keyed->Int) (a₀:Array Keyed) (x:Nat):ForInStep (Option Unit×Nat)->SortSt->Prop
 | .done c',st'=>c'=(none,a₀.size)/\Bs κ a₀ st'/\∃ x,Runs ρ a₀ st' x a₀.size
 | .yield c',st'=>∃ lo,c'=(none,lo)/\Bs κ a₀ st'/\Runs ρ a₀ st' (x + 1) lo
theorem QkS {st:SortSt} {Q:Unit->SortSt->Prop} (T:Told prog w A s κ ρ a₀) (hB:Bs κ a₀ st) (hp:pendingOf st=#[]) (h2:2<=a₀.size) (h128:a₀.size < 64)
  (h:∀ st',(arrOf st').Perm a₀->failedOf st'=none->Up ρ (arrOf st') 0 a₀.size->Q () st'):wpS (model prog w) A E s sortRuns' Q st:=by
 have hmr:minRun' a₀.size a₀.size 0=a₀.size:=Qhw (by lia) h128
 rw [sortRuns'_eq]
 refine wpS_bind (wpS_get ?_)
 dsimp -zeta only
 rw [hB.size]
 refine wpS_bind (wpS_mono (wpS_forRange (I:=fun x c st'=>∃ lo,c=(none,lo)/\Bs κ a₀ st'/\Runs ρ a₀ st' x lo)
  (Q:=fun c st'=>c=(none,a₀.size)/\Bs κ a₀ st'/\∃ x,Runs ρ a₀ st' x a₀.size) ?_ ?_ ?_) ?_)
 ·rintro x c st' _ hx ⟨lo,rfl,hB',r⟩
  refine wpS_mono (Q:=Qop κ ρ a₀ x) ?_ fun r st' hr=>by cases r <;> exact hr
  generalize hmrE:minRun' a₀.size a₀.size 0=mr at *
  cases r with
  | none hpe =>
   dsimp -zeta only
   extract_lets -merge -underBinder lo'
   show wpS _ _ _ _ (if 0 ≥ a₀.size then _ else _) _ _
   rw [if_neg (by lia)]
   refine wpS_bind (run_ (lo:=0) (m:=a₀.size - 0) T hB' (by lia) (by lia) fun k st2 b1 b2 b3 k1 k2 k3=>?_)
   dsimp -zeta only
   extract_lets -merge -underBinder n jp
   have hj:∀ n st',Bs κ a₀ st'->pendingOf st'=#[]->n=a₀.size->Up ρ (arrOf st') 0 n->wpS (model prog w) A E s (jp () n) (Qop κ ρ a₀ 0) st':=by
    intro n st' hB' hpe n1 u
    subst n1
    refine wpS_bind (wpS_get ?_)
    have hb:(pendingOf st').back? = none:=by rw [hpe];rfl
    extract_lets -merge -underBinder jp2
    rw [hb]
    refine wpS_bind (wpS_modify (wpS_pure ⟨_,rfl,⟨hB'.perm,hB'.kind,hB'.fine⟩,?_⟩))
    show Runs ρ a₀ _ (0 + 1) (0 + a₀.size)
    rw [Nat.zero_add a₀.size]
    exact .one _ (by show (pendingOf st').push _=_;rw [hpe];rfl) (by lia) u
   clear_value jp
   by_cases c1:k < mr
   ·show wpS _ _ _ _ (if k < mr then _ else _) _ _
    rw [if_pos c1]
    refine wpS_bind (wpS_lift (wpAny_rule ⟨rfl,?_⟩))
    refine wpS_bind (ins_ (lo:=0) (n:=min (a₀.size - 0) mr) T b1 (by lia) (by lia) k3 fun st3 d1 d2 d3 d4=>?_)
    exact hj (min (a₀.size - 0) mr) st3 d1 (d3.trans (b3.trans hpe)) (by lia) (by simpa using d4)
   ·show wpS _ _ _ _ (if k < mr then _ else _) _ _
    rw [if_neg c1]
    exact hj k st2 b1 (b3.trans hpe) (by lia) (by simpa using k3)
  | one _ hpe hx u =>
   dsimp -zeta only
   extract_lets -merge -underBinder lo'
   show wpS _ _ _ _ (if a₀.size ≥ a₀.size then _ else _) _ _
   rw [if_pos (Nat.le_refl _)]
   exact wpS_pure ⟨rfl,hB',_,.one _ hpe hx u⟩
 ·rintro c st' ⟨lo,rfl,hB',r⟩
  rw [Nat.max_eq_right (Nat.zero_le _)] at r
  obtain ⟨y,hy⟩:∃ y,y=a₀.size:=⟨_,rfl⟩
  rw [← hy] at r
  cases r with
  | none _=>lia
  | one _ hpe hx u=>exact ⟨rfl,hB',y,.one _ hpe hx u⟩
 ·exact ⟨0,rfl,hB,.none hp⟩
 ·rintro c st' ⟨rfl,hB',x,r⟩
  dsimp only
  refine wpS_bind (wpS_mono (wpS_forRange (I:=fun y c st'=>c=(none,())/\Bs κ a₀ st'/\Runs ρ a₀ st' x a₀.size)
   (Q:=fun c st'=>c=(none,())/\Bs κ a₀ st'/\Up ρ (arrOf st') 0 a₀.size) ?_ ?_ ⟨rfl,hB',r⟩) ?_)
  ·rintro y c st'' _ _ ⟨rfl,hB'',q⟩
   refine wpS_bind (wpS_get ?_)
   generalize hz:a₀.size=z at q
   cases q with
   | none _=>lia
   | one _ hpe hx u =>
    have cs:(pendingOf st'').size<=1:=by rw [hpe];exact Nat.le_refl 1
    rw [if_pos cs]
    exact wpS_pure ⟨rfl,hB'',u⟩
  ·rintro c st'' ⟨rfl,hB'',q⟩
   refine ⟨rfl,hB'',?_⟩
   generalize hz:a₀.size=z at q
   cases q with
   | none _=>lia
   | one _ hpe hx u=>exact u
  ·rintro c st'' ⟨rfl,hB'',u⟩
   exact wpS_pure (h _ hB''.perm hB''.fine u)
end
section
variable {prog:Program} {w:World} {A:Around} {E:Value->Shared->Prop} {s:Shared} {κ:SortKind} {ρ:Keyed->Int}
def QaT (h:Heap) (a:Addr) (vs:List Value):Heap:=((h.update a (Obj.mapSeq fun _=>#[])).push (seqObj "tuple" vs.toArray 0)).push (seqObj "list" #[] 0)
theorem Qk3 {vs:List Value} {xs:Array Keyed} (hp:xs.Perm (pairsOf vs)) (hu:Up ρ xs 0 (pairsOf vs).size):(xs.map (·.2)).toList.Perm vs/\(xs.map (·.2)).toList.Pairwise fun x y=>ρ (x,x)<=ρ (y,y):=by
 have hl:xs.toList.Perm (vs.zip vs):=by rw [← pairsOf_toList];exact Array.perm_iff_toList_perm.mp hp
 have hm:∀ p,p∈xs.toList->p=(p.2,p.2):=fun p hq=>by
  have:=(mem_zip_self (hl.mem_iff.mp hq)).1
  exact Prod.ext this rfl
 constructor
 ·rw [Array.toList_map]
  have:=hl.map Prod.snd
  rwa [List.map_snd_zip (Nat.le_refl _)] at this
 ·rw [Array.toList_map,List.pairwise_map,List.pairwise_iff_getElem]
  intro i j hi hj hij
  have hi':i < xs.size:=by simpa using hi
  have hj':j < xs.size:=by simpa using hj
  have q:=hu i j (Nat.zero_le _) (Nat.le_of_lt hij) (by rw [← hp.size_eq];exact hj')
  rw [QmA (Array.getElem?_eq_getElem hi'),QmA (Array.getElem?_eq_getElem hj')] at q
  have e1:=hm _ (List.getElem_mem hi)
  have e2:=hm _ (List.getElem_mem hj)
  simp only [Array.getElem_toList] at e1 e2 ⊢
  rw [← e1,← e2]
  exact q
theorem Qdl {a:Addr} {vs:List Value} {n:Nat} {P:PySem.Fin->Shared->Prop} (ho:s.heap.get? a=some (seqObj "list" vs.toArray n)) (hlen:vs.length < 64)
  (hkind:2<=vs.length->∀ Q:SortKind->Shared->Prop,Q κ { s with heap:=QaT s.heap a vs }->wpAny (model prog w) A (keyKind' vs.toArray) Q E { s with heap:=QaT s.heap a vs })
  (T:Told prog w A { s with heap:=QaT s.heap a vs } κ ρ (pairsOf vs))
  (h:∀ out:Array Value,out.toList.Perm vs->out.toList.Pairwise (fun x y=>ρ (x,x)<=ρ (y,y))->P (.done (.ret .none)) { s with heap:=sortedHeap s.heap a vs out }) :
  wpAny (model prog w) A (Builtin.«list.sort» ⟨[.ref a],[]⟩) P E s:=by
 have hz:=sizeLine_eq
 rw [list_sort_plain]
 have ha:a < s.heap.objs.size:=Heap.lt_size ho
 refine wpAny_bind (listItems_at ho rfl (wpAny_bind (listUpdate_at ho rfl ?_ (by rw [List.size_toArray];lia) (Nat.zero_le _))))
 obtain ⟨e1,ho1⟩:∃ e1,(s.heap.update a (Obj.mapSeq fun _=>#[])).get? a=some (seqObj "list" #[] e1):=⟨_,get?_update_seq ho (fun _=>#[])⟩
 refine wpAny_bind (seqEpoch_at ho1 rfl (wpAny_bind (wpAny_newTuple (wpAny_bind (wpAny_newList (wpAny_holding ?_) (Nat.zero_le _))) (by show vs.length<=_;lia))))
 have ho6:(QaT s.heap a vs).get? a=some (seqObj "list" #[] e1):=by
  unfold QaT
  rw [Heap.get?_push_ne _ _ _ (show a≠_ by rw [size_push',Heap.size_update];exact Nat.ne_of_lt (Nat.lt_succ_of_lt ha)),Heap.get?_push_ne _ _ _ (show a≠_ by rw [Heap.size_update];exact Nat.ne_of_lt ha)]
  exact ho1
 show wpAny (model prog w) A _ P E { s with heap:=QaT s.heap a vs }
 have fin:∀ st':SortSt,(arrOf st').Perm (pairsOf vs)->Up ρ (arrOf st') 0 (pairsOf vs).size->P (.done (.ret .none)) { s with heap:=sortedHeap s.heap a vs ((arrOf st').map (·.2)) }:=fun st' hp hs=>by
  obtain ⟨q1,q2⟩:=Qk3 hp hs
  exact h _ q1 q2
 have hsz:vs.toArray.size=vs.length:=List.size_toArray
 by_cases h2:vs.toArray.size < 2
 ·rw [if_pos h2,if_pos h2]
  refine wpAny_bind (wpAny_pure ?_)
  dsimp only
  rw [StateT.run_pure]
  refine wpAny_bind (wpAny_pure ?_)
  dsimp only
  refine wpAny_bind (seqEpoch_at ho6 rfl (wpAny_bind (listUpdate_at ho6 rfl ?_ (Nat.zero_le _) (by rw [Array.size_map];show (pairsOf vs).size<=_;rw [pairsOf_size];lia))))
  simp only [bne_self_eq_false,Bool.false_eq_true,if_false]
  refine wpAny_pure (fin (SortSt.mk' general' (vs.toArray.zip vs.toArray) #[] 7 none) (Array.Perm.refl _) fun i j _ q2 q3=>?_)
  rw [pairsOf_size] at q3
  rw [show i=j by lia]
  exact Int.le_refl _
 ·rw [if_neg h2,if_neg h2]
  refine wpAny_bind (hkind (by lia) _ ?_)
  refine wpAny_bind (wpAny_mono (QkS (E:=E) (st:=SortSt.mk' κ (vs.toArray.zip vs.toArray) #[] 7 none) (Q:=fun _ st'=>(arrOf st').Perm (pairsOf vs)/\failedOf st'=none/\Up ρ (arrOf st') 0 (pairsOf vs).size) T ⟨Array.Perm.refl _,rfl,rfl⟩ rfl
   (by rw [pairsOf_size];lia) (by rw [pairsOf_size];exact hlen) fun st' b1 b2 b3=>⟨b1,b2,b3⟩) ?_ fun _ _ e=>e)
  rintro ⟨⟨⟩,st'⟩ s' ⟨rfl,hp,hf,hs⟩
  dsimp only
  refine wpAny_bind (seqEpoch_at ho6 rfl (wpAny_bind (listUpdate_at ho6 rfl ?_ (Nat.zero_le _) (by have e:=hp.size_eq;rw [pairsOf_size] at e;refine Nat.le_trans (Nat.le_of_eq ((Array.size_map ..).trans e)) ?_;lia))))
  rw [hf]
  simp only [bne_self_eq_false,Bool.false_eq_true,if_false]
  exact wpAny_pure (fin st' hp hs)
def Qar (h:Heap) (vs:List Value):Heap:=((h.push (seqObj "list" #[] 0)).update h.objs.size (Obj.mapSeq (·++vs.toArray))).push (seqObj "list" vs.toArray 0)
theorem Qns {l:Addr} {vs:List Value} {Q:Value->Shared->Prop} (hcol:∀ {A:Around} {Q:List Value->Shared->Prop},Q vs { s with heap:=(s.heap.push (seqObj "list" #[] 0)).update s.heap.objs.size (Obj.mapSeq (·++vs.toArray)) }->wpAny (model prog w) A (collect (.ref l)) Q E s) (hlen:vs.length < 64)
  (hkind:2<=vs.length->∀ Q:SortKind->Shared->Prop,Q κ { s with heap:=QaT (Qar s.heap vs) (s.heap.objs.size + 1) vs }->wpAny (model prog w) A.in1.in1 (keyKind' vs.toArray) Q E { s with heap:=QaT (Qar s.heap vs) (s.heap.objs.size + 1) vs })
  (T:Told prog w A.in1.in1 { s with heap:=QaT (Qar s.heap vs) (s.heap.objs.size + 1) vs } κ ρ (pairsOf vs))
  (h:∀ out:Array Value,out.toList.Perm vs->out.toList.Pairwise (fun x y=>ρ (x,x)<=ρ (y,y))->Q (.ref (s.heap.objs.size + 1)) { s with heap:=sortedAll s.heap vs out }) :
  wpAny (model prog w) A (call (.builtin "sorted") [.ref l]) Q E s:=by
 have hz:=sizeLine_eq
 refine Calls.call_function_entry kind_sorted plain_sorted entry_sorted (args_sorted1 _) ?_
 unfold Builtin.«sorted»
 refine wpAny_bind (m:=checkCount "sorted" 1 1 _) (wpAny_pure ?_)
 refine wpAny_bind (hcol (wpAny_bind (wpAny_newList ?_ (by lia))))
 have hsz:((s.heap.push (seqObj "list" #[] 0)).update s.heap.objs.size (Obj.mapSeq (·++vs.toArray))).objs.size=s.heap.objs.size + 1:=by
  rw [Heap.size_update,size_push']
 have hoL:(Qar s.heap vs).get? (s.heap.objs.size + 1)=some (seqObj "list" vs.toArray 0):=by
  unfold Qar
  rw [← hsz];exact Heap.get?_push_size _ rfl
 show wpAny _ _ _ _ _ { s with heap:=Qar s.heap vs }
 rw [hsz]
 refine wpAny_bind (wpAny_holding (wpAny_call_entry slot_list_sort ⟨_,hoL,rfl⟩ entry_list_sort (Qdl hoL hlen hkind T fun out b1 b2=>⟨_,rfl,?_⟩) (args_list_sort _)))
 exact wpAny_pure ⟨_,rfl,h out b1 b2⟩
theorem Qk8 {vs:List Value} {ns:List Int} (hI:IntsAre vs ns):Told prog w A s oneType' (fun p=>numOf p.1) (pairsOf vs):=by
 intro x hx y hy E Q q
 rw [pairsOf_toList] at hx hy
 obtain ⟨n,t,en⟩:=hI.all _ (mem_zip_self hx).2
 obtain ⟨m,u,em⟩:=hI.all _ (mem_zip_self hy).2
 obtain ⟨x1,x2⟩:=x
 obtain ⟨y1,y2⟩:=y
 dsimp only at en em ⊢
 subst en em
 rw [keyLt'_oneType]
 exact oneLt_int q
theorem Qlm {vs:List Value} {ns:List Int} (hI:IntsAre vs ns) (h2:2<=vs.length) (Q:SortKind->Shared->Prop) (q:Q oneType' s):wpAny (model prog w) A (keyKind' vs.toArray) Q E s:=by
 match vs,h2,hI with
 | v₁::v₂::r,_,hI =>
  rw [keyKind_ints hI]
  exact wpAny_pure q
theorem QmB {vs out:List Value} {ns:List Int} (hI:IntsAre vs ns) (hp:out.Perm vs) (hs:out.Pairwise fun x y=>numOf x<=numOf y):∃ ns',IntsAre out ns'/\ns'.Perm ns/\ns'.Pairwise (·<=·):=by
 refine ⟨out.map numOf,intsAre_map out fun v hv=>hI.all v (hp.mem_iff.mp hv),?_,List.pairwise_map.mpr hs⟩
 have:=hp.map numOf
 rwa [hI.nums] at this
theorem list_sort_tree {a:Addr} {vs:List Value} {ns:List Int} {n:Nat} {P:PySem.Fin->Shared->Prop} (ho:s.heap.get? a=some (seqObj "list" vs.toArray n)) (hI:IntsAre vs ns) (hl:vs.length < 64)
  (h:∀ (out:Array Value) (ns':List Int),IntsAre out.toList ns'->ns'.Perm ns->ns'.Pairwise (·<=·)->P (.done (.ret .none)) { s with heap:=sortedHeap s.heap a vs out }):wpAny (model prog w) A (Builtin.«list.sort» ⟨[.ref a],[]⟩) P E s :=
 Qdl ho hl (fun h2=>Qlm hI h2) (Qk8 hI) fun out b1 b2=>by
  obtain ⟨ns',c1,c2,c3⟩:=QmB hI b1 b2
  exact h out ns' c1 c2 c3
end
end Tim
namespace DL
open PySem PySem.Spec PyProof.Rows L2
section
variable {X:Cx} {E:XK} {m:Md} {a b e o i:Expr} {fa fb fe fo fi:Fn} {pos p:Pos} {fr:Rm} {x:Str}
theorem Qf0 (hc:X.calm=true):CallR X (.builtin "sorted") (fun xs H Q=>∃ p kvs ns,xs=[.ref p]/\Rd H p (.dK kvs)/\kvs.map (·.1)=ns.map Sum.inl/\ns.length < 64/\∀ l,H l=none->Q (.ref l) (upd H l (.lst ((QdN ns).map V.int)))):=by
 intro pins s σ H xs us Q I r h
 obtain ⟨p,kvs,ns,rfl,hp,hks,h64,q⟩:=h
 obtain ⟨u,rfl,rx⟩:=Qct r
 obtain rfl:u=Value.ref p:=rx
 obtain ⟨hz,lo,vs,rel,dd⟩:=QdT I.hok hp
 have hlen:vs.length=ns.length:=by
  have h1:=rel.length
  have h2:=congrArg List.length hks
  simp only [List.length_map] at h2
  lia
 obtain ⟨ep,hat⟩:=dd.dictAt
 refine Calls.call_function_entry kind_sorted plain_sorted entry_sorted (args_sorted1 _) ?_
 unfold Builtin.«sorted»
 refine wpAny_bind (m:=checkCount "sorted" 1 1 _) (wpAny_pure ?_)
 refine wpAny_bind (W.kdu_collect (W.kdl_dict (knd:=QG X.prog X.w) (kvs:=vs) (ep:=ep) lo) (by exact I.ok.hd hc) hat (by have:=sizeLine_eq;lia) fun h' tk acc hk hacc=>?_)
 have hal:acc.toList.length=vs.length:=by rw [Array.length_toList];exact hacc.1
 have hI:IntsAre acc.toList ns:=by
  refine QjY (by lia) fun j v hj=>?_
  obtain ⟨k,x,hx,hk'⟩:=hacc.2 j v (by rw [← Array.getElem?_toList];exact hj)
  have hj2:j < ns.length:=by
   have:=(List.getElem?_eq_some_iff.mp hx).1
   lia
  refine ⟨ns[j],List.getElem?_eq_getElem hj2,?_⟩
  have hkey:=Qmy rel hx
  rw [hks,List.getElem?_map,List.getElem?_eq_getElem hj2] at hkey
  cases hkey
  exact Qd0 hk'
 refine wpAny_bind (wpAny_newList ?_ (by have hrl:kvs.length=vs.length:=rel.length;rw [hal,← hrl];exact hz))
 have hoL:(h'.push { cls:=.type "list",data:=.seq acc.toList.toArray }).get? h'.objs.size=some (seqObj "list" acc.toList.toArray 0):=Heap.get?_push_size _ rfl
 refine wpAny_bind (wpAny_holding (wpAny_call_entry slot_list_sort ⟨_,hoL,rfl⟩ entry_list_sort (Tim.list_sort_tree hoL hI (by lia) fun out ns' a1 a2 a3=>⟨_,rfl,?_⟩) (args_list_sort _)))
 refine wpAny_pure ⟨_,rfl,?_⟩
 have e:=QfH a2 a3
 obtain ⟨c,hat2⟩:=sortedHeap_at (out:=out) hoL
 subst e
 have I1:Inv X pins σ H { s with heap:=h',toks:=tk }:=I.kept hk
 have kp:∀ b o',h'.get? b=some o'->(sortedHeap (h'.push { cls:=.type "list",data:=.seq acc.toList.toArray }) h'.objs.size acc.toList out).get? b=some o':=fun b o' hb'=>by
  have hlt:=Heap.lt_size hb'
  rw [sortedHeap_old (Nat.ne_of_lt hlt) (by rw [size_push'];exact Nat.lt_succ_of_lt hlt)]
  exact Heap.get?_push_of_some _ hb'
 exact ⟨.ref h'.objs.size,_,I1.laid (t':=tk) kp (Nat.le_refl _) (show ObjOk X.prog X.w _ _ _ (.lst _) from ⟨by have hrl:kvs.length=vs.length:=rel.length;rw [List.length_map,Qhs,← hlen,← hrl];exact hz,out.toList,c,QgC a1,hat2⟩),rfl,q _ (I1.hok.fresh (Nat.le_refl _))⟩
def Qdq:D->Ou D
 | .dic ks _=>(match QfS ks with
  | some ns=>if ns.length < 64 then .ok (.lst ((QdN ns).map D.int)) else .bad
  | none=>.bad)
 | _=>.bad
theorem Qoh (hm:X.mg "sorted" = none) (ha:PE X e (tX X.K E m fe)) (hn:notF m=true:=by rfl) (hc:X.calm=true:=by rfl) (hg:Gl X "sorted":=by rfl) (he:starEach [e] X.env=(false,eval e X.env)::starEach [] X.env:=by rfl) (hpl:(backTo pos (starEach ([]:List Expr) X.env)).any (·.1)=false:=by rfl) :
  PE X (.Call (.Name "sorted" p) [e] [] pos) (tX X.K E .F (f1 Qdq fe)) :=
 (QcC (Qf0 hc) hg hm (by decide +kernel) (Qae ha pa_nil he) (by decide) (by decide) he hpl).imp fun σ H Q q=>by
 obtain ⟨c,δ,hK,ab,q⟩:=q
 refine ⟨c,δ,hK,ab,(Res.bind q).imp fun d _ k v H1 e1 r1=>?_⟩
 have r1':Rep c.K (BOf c σ δ m) H1 d v:=Post.bOf hn r1
 cases d <;> first | exact k.elim | skip
 simp only [Rep] at r1'
 obtain ⟨a,kvs,rfl,_,h1,rfl,h2⟩:=r1'
 unfold Qdq at k
 cases ei:QfS (kvs.map (·.1)) with
 | none=>simp only [ei] at k;exact k.elim
 | some ns =>
  simp only [ei] at k
  by_cases h64:ns.length < 64
  ·simp only [if_pos h64] at k
   exact ⟨a,kvs,ns,rfl,h1,QhS ei,h64,fun l hl=>k (.ref l) _ (e1.trans (Qp hl _)) ⟨l,_,rfl,e1.free hl,Qm,_,rfl,Qgo⟩⟩
  ·simp only [if_neg h64] at k;exact k.elim
end
section
variable {X:Cx} {E:XK} {tg:Expr} {e:Expr} {fl:Fn} {F:Sm} {fr:Rm} {p pos rp:Pos}
theorem Reps.three' {K:W.Frag} {B:Addr->Prop} {H:Hp} {a b c:D} {vs:List V} (r:Reps K B H [a,b,c] vs):∃ x y z,vs=[x,y,z]/\Rep K B H a x/\Rep K B H b y/\Rep K B H c z:=by
 simp only [Reps] at r
 obtain ⟨x,r1,rfl,h1,y,r2,rfl,h2,z,r3,rfl,h3,rfl⟩:=r
 exact ⟨x,y,z,rfl,h1,h2,h3⟩
def Its (lo st:Int) (n:Nat):It:=⟨fun i _=>i < n,fun i H x H'=>H'=H/\x=.int (lo + i * st),fun i _=>n<=i⟩
theorem Qla {P:Program} {w:World} {K:W.Frag} {tg:Expr} (it:Addr) (lo st:Int) (n:Nat):Turn P w K tg (Its lo st n) [it] it (fun i h=>IsRangeIter h it (lo + (i:Nat) * st) ((n:Int) - (i:Nat)) st) where
 mem:=by simp
 obj:=fun i h st b hb=>by
  have e:b=it:=by simpa using hb
  subst e
  exact ⟨_,st,fun v z=>by
   have z':Data.fields _=Data.cell v:=z
   cases z'⟩
 keep:=fun i h h' st k=>k it (by simp) _ st
 item:=by
  intro X hP hw hK hc i pins s σ H E I hf st' hg
  subst hP hw hK
  obtain ⟨f0,f1,f2,f3,f4,f5⟩:=hf it (by simp)
  have W:=Walks.range (prog:=X.prog) (w:=X.w) (I.ok.hd hc) it lo st n
  refine W.item i s _ _ hg st' fun v h' tk hv st' kk=>?_
  obtain ⟨t,rfl⟩:=hv
  have I1:Inv X pins σ H { s with heap:=h',toks:=tk }:=I.turned (fun b o hb e=>kk b o (by simpa using hb) e) f0 f1 f3 f4 f5
  exact ⟨_,rfl,Qia (s:={ s with heap:=h',toks:=tk }) (n:="range_iterator") st' rfl rfl (by decide) ⟨.int (lo + i * st),H,I1,⟨t,rfl⟩,⟨rfl,rfl⟩,st',fun b hb=>(hf b hb).1⟩⟩
 done:=by
  intro X hP hw hK hc i pins s σ H E I hf st' hg
  subst hP hw hK
  obtain ⟨f0,f1,f2,f3,f4,f5⟩:=hf it (by simp)
  exact wpAny_pyNext_range_end (I.ok.hd hc) st' (by have:n<=i:=hg;lia) fun h' eb=>⟨rfl,I.turned (t':=s.toks) (fun b o hb e=>eb b o hb e) f0 f1 f3 f4 f5⟩
 self:=fun _ _ _ _ _ st h=>wpAny_pyIter_rangeiter st h
def Qb1 (a b c:Int):Nat:=if a < b then ((b - a - 1) / c + 1).toNat else 0
theorem QgJ {a b c:Int} (hc:0 < c):Builtin.Range.rangeSize a b c=(Qb1 a b c:Int):=by
 unfold Builtin.Range.rangeSize Qb1
 rw [if_pos hc]
 by_cases h:a < b
 ·rw [if_pos h,if_pos h]
  have:0<=(b - a - 1) / c:=Int.ediv_nonneg (by lia) (by lia)
  lia
 ·rw [if_neg h,if_neg h];rfl
def rOk3 (a b c:Int):Bool:=decide (-1000000000<=a/\a<=1000000000/\-1000000000<=b/\b<=1000000000/\0 < c/\c<=1000000000)
theorem QiW {a b c:Int} (h:rOk3 a b c=true):Builtin.Range.small a b c=true:=by
 obtain ⟨h1,h2,h3,h4,h5,h6⟩:=of_decide_eq_true h
 have hs:Builtin.Range.rangeSize a b c<=2000000000/\0<=Builtin.Range.rangeSize a b c:=by
  rw [QgJ h5]
  unfold Qb1
  by_cases hab:a < b
  ·rw [if_pos hab]
   have g1:0<=(b - a - 1) / c:=Int.ediv_nonneg (by lia) (by lia)
   have g2:(b - a - 1) / c<=b - a - 1:=Int.ediv_le_self _ (by lia)
   lia
  ·rw [if_neg hab];lia
 unfold Builtin.Range.small
 generalize hS:Builtin.Range.rangeSize a b c=S at hs ⊢
 rw [if_pos h5]
 simp only [Builtin.Range.rangeFitsLong,Bool.and_eq_true,Bool.or_eq_true,decide_eq_true_eq,beq_iff_eq]
 lia
def iRng3 (ta:TA):TI:=fun σ H R=>ta σ H fun vs H1=>∃ i j k:Int,vs=[.int i,.int j,.int k]/\rOk3 i j k=true/\R (Its i k (Qb1 i j k)) H1
theorem QkP {a b c:Expr} {ta:TA} (hg:Gl X "range") (hm:X.mg "range" = none) (ha:PA X [a,b,c] ta) (hs:starEach [a,b,c] X.env=(false,eval a X.env)::starEach [b,c] X.env:=by rfl) (hpl:(backTo pos (starEach [b,c] X.env)).any (·.1)=false:=by rfl) :
  PI X tg (.Call (.Name "range" p) [a,b,c] [] pos) (iRng3 ta):=by
 intro pins s σ H R I h
 refine Call_ (QcL I hg hm boot_range (PyProof.Rows.callWith_type1 (thn (ha pos pins s σ H _ I h) fun us s1 ⟨vs,H1,I1,r1,q1⟩=>?_) hs hpl))
 obtain ⟨i,j,k,e,hk,q⟩:=q1
 subst e
 obtain ⟨h1,h2,h3,h4,h5,h6⟩:=of_decide_eq_true hk
 cases r1 with
 | cons r rr =>
  cases rr with
  | cons r' rr =>
   cases rr with
   | cons r'' rr =>
    cases rr
    obtain ⟨t,rfl⟩:=r
    obtain ⟨t',rfl⟩:=r'
    obtain ⟨t'',rfl⟩:=r''
    refine call_range_3 (by lia) ?_ (.inl (PyProof.noPylong_small (by lia)))
    refine wpAny_pyIter_range (IsRange.new ..) (QiW hk) ?_
    have I2:Inv X pins σ H1 { s1 with heap:=s1.heap.push { cls:=.type "range",data:=.fields #[.int i t,.int j t',.int k t''] },toks:=s1.toks }:=I1.kept fun b o e=>Heap.get?_push_of_some _ e
    refine ⟨(s1.heap.push { cls:=.type "range",data:=.fields #[.int i t,.int j t',.int k t''] }).objs.size,[(s1.heap.push { cls:=.type "range",data:=.fields #[.int i t,.int j t',.int k t''] }).objs.size],_,_,H1,rfl,
     I2.kept (t':=s1.toks) fun b o e=>Heap.get?_push_of_some _ e,Qla _ i k (Qb1 i j k),?_,fun b hb=>?_,q⟩
    ·have e1:i + ((0:Nat):Int) * k=i:=by simp
     have e2:((Qb1 i j k:Nat):Int) - ((0:Nat):Int)=Builtin.Range.rangeSize i j k:=by rw [QgJ h5];simp
     show IsRangeIter _ _ (i + ((0:Nat):Int) * k) (((Qb1 i j k:Nat):Int) - ((0:Nat):Int)) k
     rw [e1,e2]
     exact Heap.get?_push_size _ rfl
    ·have e:b=(s1.heap.push { cls:=.type "range",data:=.fields #[.int i t,.int j t',.int k t''] }).objs.size:=by simpa using hb
     subst e
     exact I2.fpOk (Nat.le_refl _) (I2.hok.fresh (Nat.le_refl _))
def rngS (lo st:Int) (n:Nat):List D:=(List.range n).map fun (k:Nat)=>D.int (lo + (k:Int) * st)
theorem Qdv {lo st:Int} {n:Nat}:(rngS lo st n).length=n:=by simp [rngS]
theorem QiS {lo st:Int} {n i:Nat} {d:D} (h:(rngS lo st n)[i]? = some d):i < n/\d=.int (lo + (i:Int) * st):=by
 have hi:i < n:=by
  have:=(List.getElem?_eq_some_iff.mp h).1
  rwa [Qdv] at this
 refine ⟨hi,?_⟩
 unfold rngS at h
 rw [List.getElem?_map,List.getElem?_range hi] at h
 exact (Option.some.inj h).symm
def Qkb (fs:List Fn) (g:D->DS->Ou DS) (body:Sm):Sm:=fun δ=>(Qaq fs δ).bind fun ds=>match ds with
 | [.int i,.int j,.int k]=>if rOk3 i j k=true then forL g body (rngS i k (Qb1 i j k)) δ else .bad
 | _=>.bad
theorem Qnq {a b c:Expr} {fa fb fc:Fn} {body:List Stmt} {g:D->DS->Ou DS} (hp:PassesOwn (model X.prog X.w) X.A X.env X.xe) (hc:X.calm=true) (hm:X.mg "range" = none) (ha:PA X [a,b,c] (tXA X.K E .W [fa,fb,fc])) (hg:PG X tg (tG X.K E g)) (hb:PSs X body (tS X.K E fr F))
  (hgl:Gl X "range":=by rfl) (hse:starEach [a,b,c] X.env=(false,eval a X.env)::starEach [b,c] X.env:=by rfl) (hpl:(backTo pos (starEach [b,c] X.env)).any (·.1)=false:=by rfl) (hs:∀ x,foldedSetIterable (.Call (.Name "range" p) [a,b,c] [] pos) X.env x=pure x:=by intro _;rfl) {fpos:Pos} :
  PS X (.For tg (.Call (.Name "range" p) [a,b,c] [] pos) body [] fpos) (tS X.K E fr (Qkb [fa,fb,fc] g F)):=(Qd5 hp hc (QkP hgl hm ha hse hpl) hg hb hs).imp fun D σ H q=>by
 obtain ⟨cc,δ,hK,ab,q⟩:=q
 have hpi:=ab.pi
 refine ⟨cc,δ,hK,ab,(Res.bind q).imp fun ds hds k vs H1 e1 r1=>?_⟩
 have hl:ds.length=3:=Qax hds
 obtain ⟨d,d',d'',rfl⟩:∃ d d' d'',ds=[d,d',d'']:=by
  match ds,hl with
  | [d,d',d''],_=>exact ⟨d,d',d'',rfl⟩
 obtain ⟨v,v',v'',rfl,r2,r3,r4⟩:=Reps.three' r1
 cases d <;> first | exact k.elim | skip
 cases d' <;> first | exact k.elim | skip
 cases d'' <;> first | exact k.elim | skip
 simp only [Rep] at r2 r3 r4
 subst r2;subst r3;subst r4
 rename_i i j l
 by_cases hj:rOk3 i j l=true
 ·simp only [if_pos hj] at k
  refine ⟨i,j,l,rfl,hj,QcQ (gh:=cc.G) (fun _ _ _ _ z=>z) (fun _ _ _ z=>z) hK (fun _ z=>z) (ab.grow e1) k (fun i' σ δ H d z hd=>?_) fun σ δ H z=>?_⟩
  ·obtain ⟨h1,rfl⟩:=QiS hd
   exact ⟨h1,fun x H' y=>⟨y.1,by rw [y.2];simp [Rep]⟩⟩
  ·show Qb1 i j l<=_
   rw [Qdv];exact Nat.le_refl _
 ·simp only [if_neg hj] at k
  exact k.elim
def kD:Key->D
 | .inl n=>.int n
 | .inr x=>.str x
theorem QkE {k:Key} {v:Value} (h:Qey k v=true):RelV (kV k) v:=by
 rcases Q8 h with ⟨i,t,rfl,rfl⟩ | ⟨x,t,rfl,rfl⟩
 ·exact ⟨t,rfl⟩
 ·exact ⟨t,rfl⟩
theorem Qj1:∀ {vs:List V} {us:List Value},us.length=vs.length->(∀ (j:Nat) (u:Value),us[j]? = some u->∃ v,vs[j]? = some v/\RelV v u)->Vals vs us
 | [],[],_,_=>.nil
 | [],_::_,h,_=>by simp at h
 | _::_,[],h,_=>by simp at h
 | v::vs,u::us,h,g=>by
  obtain ⟨v',h1,r⟩:=g 0 u rfl
  cases h1
  exact .cons r (Qj1 (by simpa using h) fun j v hj=>g (j + 1) v hj)
end
section
variable {prog:Program} {w:World} {A:Around} {E:Value->Shared->Prop} {s:Shared} {I l S:Addr} {items:Array Value}
theorem Qnk:typeLookup (.type "list_reverseiterator") "__len__" = pure none:=by rw [typeLookup_type,builtinLookup_eq_fast];kernel_rfl
theorem Qm5:typeLookup (.type "list_reverseiterator") "__length_hint__" = pure (some (.builtin "list_reverseiterator.__length_hint__")):=by rw [typeLookup_type,builtinLookup_eq_fast];kernel_rfl
theorem Qm3 {i:Int} {Q:Bool->Shared->Prop} (hI:s.heap.IsRevIter I l i) (h:Q false s):wpAny (model prog w) A (Builtin.List.listLengthHint (.ref I)) Q E s:=by
 unfold Builtin.List.listLengthHint
 have hT:=hI.typeIs
 refine wpAny_bind (wpAny_specialOf hT Qnk ?_)
 refine wpAny_ite_split (fun hab=>absurd hab (by decide +kernel)) (fun _=>?_)
 refine wpAny_ite_split (fun hab=>absurd hab (by decide +kernel)) (fun _=>?_)
 refine wpAny_bind (wpAny_specialOf hT Qm5 ?_)
 generalize hid:("list_reverseiterator.__length_hint__":String)=id0
 wp_delta
 rw [show splitId id0=some ("list_reverseiterator","__length_hint__") from by subst hid;decide +kernel]
 subst hid
 refine wpAny_bind (wpAny_isInstance (T:="list_reverseiterator") (b:=true) hT (by rw [isSubtype_type];kernel_rfl) ?_)
 refine wpAny_ite_split (fun hab=>absurd hab (by decide)) (fun _=>?_)
 refine wpAny_ite_split (fun _=>?_) (fun hab=>absurd (by decide +kernel) hab)
 refine wpAny_ite_split (fun hab=>absurd hab (by decide +kernel)) (fun _=>?_)
 exact wpAny_pure h
theorem Qjy {R:Result->Shared->Prop} (hh:A.handled=none) (hI:s.heap.IsRevIter I l ((items.size:Int) - 1)) (hl:s.heap.IsList l items) (hne:l≠I) (hSI:S≠I) (hSl:S≠l) (res:Value) (c₀:Nat) (hS:s.heap.get? S=some { cls:=.type "list",data:=.seq #[] c₀ }) (hn:items.size<=sizeLine)
  (hR:∀ h' tk acc' c',(∀ b o,b≠S->b≠I->s.heap.get? b=some o->h'.get? b=some o)->h'.get? S=some { cls:=.type "list",dict:=none,data:=.seq acc' c',slots:=#[] }->ItemsOf (fun i v=>items[items.size - 1 - i]? = some v) acc' items.size->R (.ok (.ret res)) { s with heap:=h',toks:=tk }) :
  wpAny (model prog w) A.in1 (Builtin.List.listExtendWith (.ref S) (.ref I) res)
   (fun fin s'=>match fin with | .done f=>R (.ok f) s' | .again c'=>c'.quiet=true/\codeAny (model prog w) A c' R s') (fun e s'=>R (.error e) s') s:=by
 have W:=Walks.listRev (prog:=prog) (w:=w) (A:=A.in1) hh I l hne items
 have hSf:S ∉ [I,l]:=by
  intro z
  rcases List.mem_cons.mp z with z | z
  ·exact hSI z
  ·exact hSl (List.mem_singleton.mp z)
 unfold Builtin.List.listExtendWith
 refine wpAny_bind (wpAny_typeOf (T:="list_reverseiterator") hI.typeIs ?_)
 have e1:Builtin.List.listSameRef (.ref S) (.ref I)=false:=by simp [Builtin.List.listSameRef,hSI]
 have e2:(Value.type "list_reverseiterator" == Value.type "list")=false:=by decide
 have e3:(Value.type "list_reverseiterator" == Value.type "tuple")=false:=by decide
 simp only [e1,e2,e3,Bool.or_false,Bool.false_eq_true,if_false]
 refine wpAny_bind (wpAny_pyIter_revIter hI ?_)
 refine wpAny_bind (wpAny_holding (Qm3 hI ?_))
 refine wpAny_ite_split (fun hab=>absurd hab (by decide)) (fun _=>wpAny_pure ⟨plainId_quiet PySem.F.plain_extend_loop _,?_⟩)
 refine codeAny_extend_loopS W.toS hn S hSf res items.size 0 _ #[] c₀ rfl (Nat.zero_le _) ⟨Nat.zero_le _,by rw [show (items.size:Int) - 1 - ((0:Nat):Int)=(items.size:Int) - 1 by lia];exact hI,hl⟩ hS (ItemsOf.nil _) fun s' acc' c' hm hS' hacc=>?_
 rw [Moved.eq_with hm]
 refine hR s'.heap s'.toks acc' c' (fun b o hb hb' e=>hm.heap b o (fun z=>?_) e) hS' hacc
 rcases List.mem_cons.mp z with z | z
 ·exact hb z
 ·exact hb' (List.mem_singleton.mp z)
theorem Qm0 {R:Result->Shared->Prop} (hh:A.handled=none) (hI:s.heap.IsRevIter I l ((items.size:Int) - 1)) (hl:s.heap.IsList l items) (hne:l≠I) (hSI:S≠I) (hSl:S≠l) (hS:s.heap.get? S=some { cls:=.type "list",data:=.seq #[] }) (hn:items.size<=sizeLine)
  (hR:∀ h' tk acc' c',(∀ b o,b≠S->b≠I->s.heap.get? b=some o->h'.get? b=some o)->h'.get? S=some { cls:=.type "list",dict:=none,data:=.seq acc' c',slots:=#[] }->ItemsOf (fun i v=>items[items.size - 1 - i]? = some v) acc' items.size->R (.ok (.ret .none)) { s with heap:=h',toks:=tk }) :
  wpAny (model prog w) A.in1 (Builtin.«list.__init__» ⟨[.ref S,.ref I],[]⟩)
   (fun fin s'=>match fin with | .done f=>R (.ok f) s' | .again c'=>c'.quiet=true/\codeAny (model prog w) A c' R s') (fun e s'=>R (.error e) s') s:=by
 show wpAny _ _ (do let old ← Builtin.List.listItems (.ref S);Builtin.List.listUpdate (.ref S) (fun _=>#[]);letGo old.toList.reverse;Builtin.List.listExtendWith (.ref S) (.ref I) .none) _ _ s
 refine wpAny_bind (listItems_at hS rfl ?_)
 refine wpAny_bind (listUpdate_at hS rfl ?_)
 have hS2:=get?_update_seq hS (fun _=>(#[]:Array Value))
 have oth:∀ b o,b≠S->s.heap.get? b=some o->(s.heap.update S (Obj.mapSeq (fun _=>(#[]:Array Value)))).get? b=some o:=fun b o hb e=>by
  rw [Heap.get?_update_ne _ _ _ _ hb];exact e
 refine wpAny_bind (wpAny_letGo ?_)
 exact Qjy (s:={ s with heap:=s.heap.update S (Obj.mapSeq (fun _=>(#[]:Array Value))) }) hh (hI.at fun o e=>oth _ o (Ne.symm hSI) e) (hl.at fun o e=>oth _ o (Ne.symm hSl) e) hne hSI hSl .none _ hS2 hn fun h' tk acc' c' hk hS' hacc =>
  hR h' tk acc' c' (fun b o hb hb' e=>hk b o hb hb' (oth b o hb e)) hS' hacc
theorem QmW {Q:Value->Shared->Prop} (hh:A.handled=none) (hI:s.heap.IsRevIter I l ((items.size:Int) - 1)) (hl:s.heap.IsList l items) (hne:l≠I) (hn:items.size<=sizeLine)
  (hQ:∀ h' tk acc' c',(∀ b o,b≠I->s.heap.get? b=some o->h'.get? b=some o)->h'.get? s.heap.objs.size=some { cls:=.type "list",dict:=none,data:=.seq acc' c',slots:=#[] }->ItemsOf (fun i v=>items[items.size - 1 - i]? = some v) acc' items.size->Q (.ref s.heap.objs.size) { s with heap:=h',toks:=tk }) :
  wpAny (model prog w) A (call (.type "list") [.ref I]) Q E s:=by
 refine callType_codes (Q₁:=fun obj s₁=>obj=.ref s.heap.objs.size/\s₁={ s with heap:=s.heap.push { cls:=.type "list",data:=.seq #[] } }) PySem.F.called_list (PySem.F.typeCall_list_1 _) PySem.F.entry_list_init (code_list_new _ ⟨rfl,rfl⟩) fun obj s₁ h₁=>?_
 obtain ⟨rfl,rfl⟩:=h₁
 have hS:(s.heap.push { cls:=.type "list",data:=.seq #[] }).get? s.heap.objs.size=some { cls:=.type "list",data:=.seq #[] }:=Heap.get?_push_size _ rfl
 obtain ⟨oI,hoI,_⟩:=id hI
 obtain ⟨ol,hol,_⟩:=id hl
 refine ⟨⟨_,hS,rfl⟩,PySem.F.args_list_init_2 _ _,?_⟩
 exact Qm0 (A:=A.in1) (s:={ s with heap:=s.heap.push { cls:=.type "list",data:=.seq #[] } }) hh (hI.at fun o e=>Heap.get?_push_of_some _ e) (hl.at fun o e=>Heap.get?_push_of_some _ e) hne (Nat.ne_of_gt (Heap.lt_size hoI)) (Nat.ne_of_gt (Heap.lt_size hol)) hS hn fun h' tk acc' c' hk hS' hacc =>
  ⟨rfl,hQ h' tk acc' c' (fun b o hb e=>hk b o (Nat.ne_of_lt (Heap.lt_size e)) hb (Heap.get?_push_of_some _ e)) hS' hacc⟩
end
section
variable {X:Cx} {E:XK} {m:Md} {e:Expr} {fe:Fn} {p p2 pos pos2:Pos}
theorem Reps.rev {K:W.Frag} {B:Addr->Prop} {H:Hp}:∀ {ds:List D} {xs:List V},Reps K B H ds xs->Reps K B H ds.reverse xs.reverse
 | [],xs,r=>by
  simp only [Reps] at r
  subst r
  simp [Reps]
 | d::ds,xs,r=>by
  simp only [Reps] at r
  obtain ⟨v,r',rfl,h1,h2⟩:=r
  rw [List.reverse_cons,List.reverse_cons]
  exact Reps.append (Reps.rev h2) (Reps.one h1)
def tRevL (K:W.Frag) (ta:TA):TE:=fun σ H Q=>ta σ H fun vs H1=>∃ a xs,vs=[.ref a]/\SqL K H1 a xs/\∀ l,H1 l=none->Q (.ref l) (upd H1 l (.lst xs.reverse))
theorem Qjk {ta:TA} (hc:X.calm=true) (hml:X.mg "list" = none) (hmr:X.mg "reversed" = none) (hgl:Gl X "list") (hgr:Gl X "reversed") (ha:PA X [e] ta)
  (he:starEach [e] X.env=(false,eval e X.env)::starEach [] X.env:=by rfl) (he0:starEach ([]:List Expr) X.env=[]:=by rfl)
  (he2:starEach [.Call (.Name "reversed" p2) [e] [] pos2] X.env=(false,eval (.Call (.Name "reversed" p2) [e] [] pos2) X.env)::starEach [] X.env:=by rfl) :
  PE X (.Call (.Name "list" p) [.Call (.Name "reversed" p2) [e] [] pos2] [] pos) (tRevL X.K ta):=by
 intro pins s σ H Q I h
 refine wpAny_Call_Name_kw (QcL I hgl hml (by decide +kernel:bootBuiltins "list" = some (.type "list")) ?_ (by decide) (by decide))
 refine PyProof.Rows.callWith_type1 ?_ he2 (by rw [he0];rfl)
 rw [he2]
 show wpAny _ _ (spliced ((false,eval (.Call (.Name "reversed" p2) [e] [] pos2) X.env)::backTo pos (starEach [] X.env))) _ _ s
 refine Calls.spliced_cons ?_
 refine wpAny_Call_Name_kw (QcL I hgr hmr (by decide +kernel:bootBuiltins "reversed" = some (.type "reversed")) ?_ (by decide) (by decide))
 refine PyProof.Rows.callWith_type1 (thn (ha pos2 pins s σ H _ I h) fun us s1 ⟨vs,H1,I1,r1,q1⟩=>?_) he (by rw [he0];rfl)
 obtain ⟨a,xs,rfl,hq,q⟩:=q1
 obtain ⟨u,rfl,rx⟩:=Qct r1
 obtain rfl:u=Value.ref a:=rx
 obtain ⟨its,rv,pl,hz⟩:=I1.list hq
 have hl:=rv.length
 obtain ⟨oa,hoa,_⟩:=pl.isList
 refine call_reversed_list pl.isList ?_
 rw [he0]
 refine Calls.spliced_nil ?_
 have hI:(s1.heap.push (revObj a ((its.toArray.size:Int) - 1))).IsRevIter s1.heap.objs.size a ((its.toArray.size:Int) - 1):=⟨_,Heap.get?_push_size _ rfl,rfl,rfl⟩
 have hsz:(s1.heap.push (revObj a ((its.toArray.size:Int) - 1))).objs.size=s1.heap.objs.size + 1:=by rw [Heap.size_push]
 refine QmW (s:={ s1 with heap:=s1.heap.push (revObj a ((its.toArray.size:Int) - 1)) }) (I1.ok.hd hc) hI (pl.isList.at fun o e=>Heap.get?_push_of_some _ e) (Nat.ne_of_lt (Heap.lt_size hoa)) (by rw [List.size_toArray,← hl];exact hz) fun h' tk acc c hk hS hacc=>?_
 have hal:acc.toList.length=xs.length:=by rw [Array.length_toList,hacc.1,List.size_toArray];exact hl.symm
 have hv:Vals xs.reverse acc.toList:=by
  refine Qj1 (by rw [List.length_reverse];exact hal) fun j u hj=>?_
  have hj':its.toArray[its.toArray.size - 1 - j]? = some u:=hacc.2 j u (by rw [← Array.getElem?_toList];exact hj)
  have hlt:j < xs.length:=by
   have:=(List.getElem?_eq_some_iff.mp hj).1
   lia
  rw [List.getElem?_toArray,List.size_toArray,← hl] at hj'
  have hx:xs[xs.length - 1 - j]? = some (xs[xs.length - 1 - j]'(by lia)):=List.getElem?_eq_getElem _
  obtain ⟨u',hu',ru⟩:=rv.get hx
  rw [hj'] at hu'
  cases hu'
  exact ⟨_,by rw [List.getElem?_reverse hlt];exact hx,ru⟩
 rw [hsz] at hS ⊢
 exact ⟨.ref (s1.heap.objs.size + 1),_,I1.laid (t':=tk) (fun b o e=>hk b o (Nat.ne_of_lt (Heap.lt_size e)) (Heap.get?_push_of_some _ e)) (Nat.le_succ _) (show ObjOk X.prog X.w _ _ _ (.lst _) from ⟨by rw [List.length_reverse];exact hz,acc.toList,c,hv,hS⟩),rfl,q _ (I1.hok.fresh (Nat.le_succ _))⟩
end
def QcI (ks:List Key) (q:Key):List Key:=ks.filter fun k=>decide (k≠q)
def Qbm:List Key->List D->Key->List D
 | k::ks,d::ds,q=>if k=q then Qbm ks ds q else d::Qbm ks ds q
 | _,_,_=>[]
theorem Qgl {q:Key}:∀ {kvs:List (Key×V)},(Qc6 kvs q).map (·.1)=QcI (kvs.map (·.1)) q
 | []=>rfl
 | (k,v)::r=>by
  have ih:=Qgl (q:=q) (kvs:=r)
  unfold Qc6 QcI at ih ⊢
  simp only [List.map_cons,List.filter_cons]
  by_cases h:k=q
  ·simp only [h,ne_eq,not_true_eq_false,decide_false,Bool.false_eq_true,if_false];exact ih
  ·simp only [ne_eq,h,not_false_eq_true,decide_true,if_true,List.map_cons];rw [ih]
theorem Qgy {K:W.Frag} {B:Addr->Prop} {H:Hp} {q:Key}:∀ {kvs:List (Key×V)} {ds:List D},Reps K B H ds (kvs.map (·.2))->Reps K B H (Qbm (kvs.map (·.1)) ds q) ((Qc6 kvs q).map (·.2))
 | [],ds,r=>by simp [Qbm,Qc6,Reps]
 | (k,v)::kvs,ds,r=>by
  cases ds with
  | nil=>simp [Reps] at r
  | cons d ds =>
   simp only [List.map_cons,Reps] at r
   obtain ⟨v',r',e,h1,h2⟩:=r
   cases e
   have ih:=Qgy (q:=q) h2
   unfold Qc6 at ih ⊢
   simp only [List.map_cons,List.filter_cons,Qbm]
   by_cases h:k=q
   ·simp only [h,ne_eq,not_true_eq_false,decide_false,Bool.false_eq_true,if_false,if_true];exact ih
   ·simp only [ne_eq,h,not_false_eq_true,decide_true,if_true,if_false,List.map_cons,Reps]
    exact ⟨_,_,rfl,h1,ih⟩
section
variable {X:Cx} {E:XK} {e:Expr} {fe:Fn} {fr:Rm} {x:Str} {pos:Pos}
def sDPop (j:Nat) (fk:Fn):Sm:=fun δ=>match δ[j]? with
 | some (.own (.dic ks ds))=>(fk δ).bind fun k=>match keyD k with
  | some q=>(match dGet ks ds q with
   | some _=>.ok (.nx (δ.set j (.own (.dic (QcI ks q) (Qbm ks ds q)))))
   | none=>.bad)
  | none=>.bad
 | _=>.bad
theorem QjS (j:Nat) {px apos cpos:Pos} (he:PE X e (tX X.K E .W fe)) (hN:X.N[j]? = some x:=by rfl) (hv:Vis X.env.scope x:=by first | exact Or.inl rfl | exact Or.inr (Or.inl rfl) | exact Or.inr (Or.inr rfl)) (hd:(x == ("__debug__":Str))=false:=by decide) (hcd:(x == ("__classdict__":Str))=false:=by decide)
  (h:M1 X (.Name x px) "pop" apos e cpos:=by exact ⟨rfl,rfl,rfl,rfl⟩) (hs:swapsWith (.Call (.Attribute (.Name x px) "pop" apos) [e] [] cpos) none pos.line X.env=pure false:=by rfl) :
  PS X (.Expr (.Call (.Attribute (.Name x px) "pop" apos) [e] [] cpos) pos) (tS X.K E fr (sDPop j fe)) :=
 (QcV (Qlz (pv j hN hv hd hcd) he h) hs).imp fun D σ H q=>by
 obtain ⟨c,δ,hK,ab,q⟩:=q
 unfold sDPop at q
 cases e0:δ[j]? with
 | none=>rw [e0] at q;exact q.elim
 | some s =>
  rw [e0] at q
  cases s with
  | un=>exact q.elim
  | val d=>exact q.elim
  | own dd =>
   cases dd <;> first | exact q.elim | skip
   rename_i ks ds
   obtain ⟨p,o,g1,g2,g3,kvs,rfl,rfl,g4⟩:=ab.own j _ e0
   refine ⟨.ref p,g1,p,rfl,.inl ⟨kvs,.inl g2⟩,c,δ,hK,ab,(Res.bind q).imp fun dk _ k2 y H2 e2 r2=>?_⟩
   have r2':Rep c.K c.B H2 dk y:=r2
   cases ek:keyD dk with
   | none=>simp only [ek] at k2;exact k2.elim
   | some q' =>
    simp only [ek] at k2
    have hv':=Qb4 (q:=q') (g4.same e2)
    cases eg:dGet (kvs.map (·.1)) ds q' with
    | none=>simp only [eg] at k2;exact k2.elim
    | some d' =>
     simp only [eg] at k2 hv'
     obtain ⟨w',z1,z2⟩:=hv'
     refine ⟨kvs,q',w',e2 _ _ g2,QbP ek r2',z1,k2 σ _ ((ab.grow e2).mut e0 g1 ⟨_,rfl,Qgl,Qgy (g4.same e2)⟩)⟩
end
section
variable {X:Cx} {E:XK} {m:Md} {e:Expr} {fe:Fn} {pos:Pos}
end
section
variable {X:Cx} {E:XK} {e:Expr} {fe:Fn} {fr:Rm} {x:Str} {p pos pos':Pos} {op:Operator} {g:D->D->Ou D}
def gAddI:D->D->Ou D
 | .int i,.int j=>.ok (.int (i + j))
 | _,_=>.bad
def gSubI:D->D->Ou D
 | .int i,.int j=>.ok (.int (i - j))
 | _,_=>.bad
def Qea:D->Ou D
 | .lst ds=>.ok (.tup ds)
 | .frl ds=>.ok (.tup ds)
 | .tup ds=>.ok (.tup ds)
 | _=>.bad
theorem Qi7 (hm:X.mg "tuple" = none) (ha:PE X e (tX X.K E .S fe)) (hg:Gl X "tuple":=by rfl) (he:starEach [e] X.env=(false,eval e X.env)::starEach [] X.env:=by rfl) (hpl:(backTo pos (starEach ([]:List Expr) X.env)).any (·.1)=false:=by rfl) :
  PE X (.Call (.Name "tuple" p) [e] [] pos) (tX X.K E .S (f1 Qea fe)) :=
 (Qc0 Qf5 hg hm (by decide +kernel) (Qae ha pa_nil he) (by decide) (by decide) he hpl).imp fun σ H Q q=>by
 obtain ⟨c,δ,hK,ab,q⟩:=q
 refine ⟨c,δ,hK,ab,(Res.bind q).imp fun d _ k v H1 e1 r1=>?_⟩
 have r1':Rep c.K (Av c σ δ) H1 d v:=r1
 have fin:∀ {ds:List D} {xs:List V} (l:Addr),H1 l=none->Reps c.K (Av c σ δ) H1 ds xs->Post c σ δ H .S (.tup ds) (.ref l) (upd H1 l (.tup xs)):=fun l hl h2=>by
  show Rep c.K (Av c σ δ) _ _ _
  simp only [Rep]
  exact ⟨l,_,rfl,.inl (.inl Qm),h2.same (Qp hl _)⟩
 cases d <;> first | exact k.elim | skip
 ·have r2:=r1'
  simp only [Rep] at r2
  obtain ⟨a,xs,rfl,h1,h2⟩:=r2
  exact ⟨a,xs,rfl,.inr ⟨by rw [← hK];exact h1,k (.ref a) H1 e1 r1'⟩⟩
 ·simp only [Rep] at r1'
  obtain ⟨a,xs,rfl,_,h1,h2⟩:=r1'
  exact ⟨a,xs,rfl,.inl ⟨.of h1,fun l hl=>k (.ref l) _ (e1.trans (Qp hl _)) (fin l hl h2)⟩⟩
 ·simp only [Rep] at r1'
  obtain ⟨a,xs,rfl,h1,h2⟩:=r1'
  exact ⟨a,xs,rfl,.inl ⟨by rw [← hK];exact h1.sq,fun l hl=>k (.ref l) _ (e1.trans (Qp hl _)) (fin l hl h2)⟩⟩
end
section
variable {X:Cx} {E:XK} {e:Expr} {fe:Fn} {p p2 pos pos2:Pos}
end
section
variable {X:Cx} {E:XK} {fr:Rm} {x:Str} {pos:Pos}
def Qkp (i:Nat):Sm:=fun δ=>match δ[i]? with
 | some (.own (.lst ds))=>(match ds[ds.length - 1]? with
  | some _=>.ok (.nx (δ.set i (.own (.lst ds.dropLast))))
  | none=>.bad)
 | _=>.bad
theorem Qnx (i:Nat) {px apos cpos:Pos} (hi:X.N[i]? = some x:=by rfl) (hv:Vis X.env.scope x:=by first | exact Or.inl rfl | exact Or.inr (Or.inl rfl) | exact Or.inr (Or.inr rfl)) (hd:(x == ("__debug__":Str))=false:=by decide)
  (hcd:(x == ("__classdict__":Str))=false:=by decide) (hs:swapsWith (.Call (.Attribute (.Name x px) "pop" apos) [] [] cpos) none pos.line X.env=pure false:=by rfl)
  (hb:attributeBase (.Name x px) "pop" X.env (eval (.Name x px) X.env)=eval (.Name x px) X.env:=by rfl) (h1:(apos.endLine == cpos.line)=true:=by rfl) :
  PS X (.Expr (.Call (.Attribute (.Name x px) "pop" apos) [] [] cpos) pos) (tS X.K E fr (Qkp i)) :=
 (QcV (Qi9 PySem.F.plainAttrs_list PySem.F.slot_list_pop PySem.F.type_list_pop Qmw (pv i hi hv hd hcd) hb h1) hs).imp fun D σ H q=>by
 obtain ⟨c,δ,hK,ab,q⟩:=q
 unfold Qkp at q
 cases e0:δ[i]? with
 | none=>rw [e0] at q;exact q.elim
 | some s =>
  rw [e0] at q
  cases s with
  | un=>exact q.elim
  | val d=>exact q.elim
  | own d =>
   cases d <;> first | exact q.elim | skip
   rename_i ds
   obtain ⟨p,o,g1,g2,g3,xs,rfl,g4⟩:=ab.own i _ e0
   cases e1:ds[ds.length - 1]? with
   | none=>simp only [e1] at q;exact q.elim
   | some d =>
    simp only [e1] at q
    obtain ⟨v,z1,z2⟩:=g4.get _ d e1
    exact ⟨.ref p,g1,.inl ⟨rfl,xs,.of g2⟩,p,xs,v,rfl,rfl,g2,by rw [g4.length];exact z1,q _ _ (ab.mut (ds':=.lst ds.dropLast) (xs':=.lst xs.dropLast) e0 g1 ⟨_,rfl,g4.dropLast⟩)⟩
end
section
variable {X:Cx}
inductive EqRow (A:Around) (s:Shared) (v:Value):List Value->List Bool->Prop
 | nil:EqRow A s v [] []
 | cons {u:Value} {b:Bool} {us:List Value} {bs:List Bool}:SeqAt.EqAt A s u v b->EqRow A s v us bs->EqRow A s v (u::us) (b::bs)
theorem EqRow.fn {A:Around} {s:Shared} {v:Value} {us:List Value} {bs:List Bool} (h:EqRow A s v us bs):∃ f:Value->Bool,(∀ u∈us,SeqAt.EqAt A s u v (f u))/\us.any f=bs.any id:=by
 classical
 refine ⟨fun u=>decide (∃ j:Nat,us[j]? = some u/\bs[j]? = some true),?_,?_⟩
 ·intro u hu
  show SeqAt.EqAt A s u v (decide (∃ j:Nat,us[j]? = some u/\bs[j]? = some true))
  by_cases hc:∃ j:Nat,us[j]? = some u/\bs[j]? = some true
  ·rw [decide_eq_true hc]
   obtain ⟨j,h1,h2⟩:=hc
   induction h generalizing j with
   | nil=>simp at h1
   | cons e t ih =>
    cases j with
    | zero=>simp at h1 h2;subst h1;subst h2;exact e
    | succ j =>
     refine ih ?_ j (by simpa using h1) (by simpa using h2)
     exact List.mem_of_getElem? (by simpa using h1)
  ·rw [decide_eq_false hc]
   obtain ⟨j,hj⟩:=List.getElem?_of_mem hu
   have hf:∀ j:Nat,us[j]? = some u->bs[j]?≠some true:=fun j h1 h2=>hc ⟨j,h1,h2⟩
   clear hc
   induction h generalizing j with
   | nil=>simp at hj
   | @cons u0 b us bs e t ih =>
    cases j with
    | zero =>
     simp at hj
     subst hj
     have:=hf 0 rfl
     have hb:b=false:=by
      cases b with
      | false=>rfl
      | true=>exact absurd rfl this
     subst hb
     exact e
    | succ j =>
     have hj':us[j]? = some u:=by simpa using hj
     exact ih (List.mem_of_getElem? hj') j hj' fun i h1=>by
      have:=hf (i + 1) (by simpa using h1)
      simpa using this
 ·rw [Bool.eq_iff_iff]
  simp only [List.any_eq_true,decide_eq_true_eq,id]
  constructor
  ·rintro ⟨u,_,j,_,h2⟩
   exact ⟨true,List.mem_of_getElem? h2,rfl⟩
  ·rintro ⟨b,hb,rfl⟩
   obtain ⟨j,hj⟩:=List.getElem?_of_mem hb
   have hl:us.length=bs.length:=by
    clear hb hj
    induction h with
    | nil=>rfl
    | cons _ _ ih=>simp [ih]
   have hj2:j < us.length:=by
    have:=(List.getElem?_eq_some_iff.mp hj).1
    lia
   exact ⟨us[j],List.getElem_mem hj2,j,List.getElem?_eq_getElem hj2,hj⟩
end
section
variable {X:Cx} {E:XK} {pos p2:Pos}
end
section
variable {X:Cx} {E:XK} {a b:Expr} {fa fb:Fn} {pos:Pos}
end
section
variable {X:Cx}
end
section
variable {X:Cx}
def Qow (i j:Int):Bool:=decide (i.natAbs < 2 ^ 2000/\j.natAbs < 2 ^ 2000)
def gMulB:=gI Qow fun i j=>.int (i * j)
end
def slW:Option Sl->Sl
 | some (.val d)=>.val d
 | some (.own d)=>.val d
 | _=>.un
section
variable {c:Cn} {σ:St} {δ:DS} {H1 H':Hp}
theorem Abs.ask {ix:List Nat} {d:D} {x:V} (a:Abs c σ δ H1) (e:Same H1 H') (r:Rep c.K (Av c σ δ) H1 d x) :
  Abs { K:=c.K,B:=fun _=>True,H₀:=H1,G:=[] } (some x::ix.map fun i=>(σ[i]?).join) (.val d::ix.map fun i=>slW δ[i]?) H':=by
 have no:∀ (i:Nat) (z:D),(Sl.val d::ix.map fun i=>slW δ[i]?)[i]? = some (Sl.own z)->False:=fun i z h=>by
  cases i with
  | zero=>cases h
  | succ i =>
   rw [List.getElem?_cons_succ,List.getElem?_map] at h
   cases e:ix[i]? with
   | none=>rw [e] at h;cases h
   | some j =>
    rw [e] at h
    have h':slW δ[j]? = Sl.own z:=Option.some.inj h
    unfold slW at h'
    split at h' <;> cases h'
 have nown:∀ q,¬ Own (some x::ix.map fun i=>(σ[i]?).join) (.val d::ix.map fun i=>slW δ[i]?) q:=fun q ⟨i,z,h,_⟩=>no i z h
 refine ⟨e,fun _ _=>trivial,by simp,fun i d' h=>?_,fun i z h=>(no i z h).elim,fun d v h=>(nomatch h),fun i j di dj q h=>(no i di h).elim,fun i q hP=>(nomatch hP)⟩
 cases i with
 | zero =>
  have hd:d=d':=by cases h;rfl
  subst hd
  exact ⟨x,rfl,(r.same e).weak fun q _=>⟨trivial,nown q⟩⟩
 | succ i =>
  rw [List.getElem?_cons_succ,List.getElem?_map] at h
  cases ej:ix[i]? with
  | none=>rw [ej] at h;cases h
  | some j =>
   rw [ej] at h
   have h':slW δ[j]? = Sl.val d':=Option.some.inj h
   have key:∃ v,σ[j]? = some (some v)/\Rep c.K c.B H1 d' v:=by
    unfold slW at h'
    split at h'
    ·rename_i z hz
     cases h'
     obtain ⟨v,z1,z2⟩:=a.val j d' hz
     exact ⟨v,z1,z2.weak fun _ w=>w.1⟩
    ·rename_i z hz
     cases h'
     obtain ⟨p,o,z1,z2,z3,z4⟩:=a.own j d' hz
     exact ⟨.ref p,z1,(z4.weak fun _ w=>w.1).rep z2 z3.2⟩
    ·cases h'
   obtain ⟨v,z1,z2⟩:=key
   refine ⟨v,?_,(z2.same e).weak fun q _=>⟨trivial,nown q⟩⟩
   rw [List.getElem?_cons_succ,List.getElem?_map,ej]
   show some ((σ[j]?).join)=_
   rw [z1];rfl
end
section
variable {X:Cx} {iter elt tg:Expr} {ifs:List Expr} {scope:Scope} {N':List Str} {ix:List Nat} {pos:Pos} {gc:DS->Ou Bool} {fe fl:Fn}
theorem xg0 {x:Str} (hN:X.N.Nodup) (hi:X.N[0]? = some x:=by rfl) (hx:Loc X.env.scope x:=by first | exact Or.inl rfl | exact Or.inr rfl) (hf:X.fn x=true\/X.env.scope.names.lookup x=some .local:=by first | exact .inl rfl | exact .inr rfl):PG X (.Name x pos) (Qez 0):=Qdy hN hi hx hf
end
section
variable {X:Cx} {E:XK} {p pos:Pos}
def Qdm (i:Nat):Fn:=fun δ=>match δ[i]? with
 | some (.own (.lst ds))=>.ok (.lst ds)
 | _=>.bad
theorem Qpm (i:Nat) {x:Str} {px:Pos} (hm:X.mg "list" = none) (hN:X.N[i]? = some x:=by rfl) (hv:Vis X.env.scope x:=by first | exact Or.inl rfl | exact Or.inr (Or.inl rfl) | exact Or.inr (Or.inr rfl)) (hd:(x == ("__debug__":Str))=false:=by decide)
  (hcd:(x == ("__classdict__":Str))=false:=by decide) (hg:Gl X "list":=by rfl) (he:starEach [.Name x px] X.env=(false,eval (.Name x px) X.env)::starEach [] X.env:=by rfl) (hpl:(backTo pos (starEach ([]:List Expr) X.env)).any (·.1)=false:=by rfl) :
  PE X (.Call (.Name "list" p) [.Name x px] [] pos) (tX X.K E .F (Qdm i)) :=
 (Qc0 QdM hg hm (by decide +kernel) (Qae (pv i hN hv hd hcd) pa_nil he) (by decide) (by decide) he hpl).imp fun σ H Q q=>by
 obtain ⟨c,δ,hK,ab,q⟩:=q
 unfold Qdm at q
 cases e:δ[i]? with
 | none=>rw [e] at q;exact q.elim
 | some s =>
  rw [e] at q
  cases s with
  | un=>exact q.elim
  | val d=>exact q.elim
  | own d =>
   cases d <;> first | exact q.elim | skip
   rename_i ds
   obtain ⟨a,o,h1,h2,h3,xs,rfl,h4⟩:=ab.own i _ e
   exact ⟨.ref a,h1,a,xs,rfl,.inl (.of h2),fun l hl=>q (.ref l) _ (Qp hl _) ⟨l,_,rfl,hl,Qm,_,rfl,(Reps.off h4 hl).same (Qp hl _)⟩⟩
end
section
variable {X:Cx} {E:XK} {pos p2:Pos}
end
section
open HT
variable {prog:Program} {w:World} {A:Around} {E:Value->Shared->Prop} {s:Shared}
end
section
variable {X:Cx} {E:XK} {pos p2:Pos} {e:Expr} {fe:Fn} {m:Md}
end
end DL
namespace Tim
open PySem PyProof.Rows
section
variable {α:Type}
structure Ord (lt:α->α->Bool):Prop where
 irr:∀ a,lt a a=false
 tr:∀ {a b c},lt a b=true->lt b c=true->lt a c=true
 neg:∀ {a b c},lt a b=false->lt b c=false->lt a c=false
def rank (lt:α->α->Bool) (ks:List α) (k:α):Nat:=ks.countP (lt · k)
theorem Qgh {lt:α->α->Bool} (O:Ord lt) {a b:α} (h:lt b a=false) (ks:List α):rank lt ks a<=rank lt ks b :=
 List.countP_mono_left fun x _ hx=>by
  cases e:lt x b with
  | true=>rfl
  | false=>rw [O.neg e h] at hx;cases hx
theorem Qka {lt:α->α->Bool} (O:Ord lt) {a b:α} (h:lt a b=true):∀ {ks:List α},a∈ks->rank lt ks a < rank lt ks b
 | [],hm=>by cases hm
 | k::ks,hm=>by
  have hba:lt b a=false:=by
   cases e:lt b a with
   | false=>rfl
   | true=>have:=O.tr h e;rw [O.irr] at this;cases this
  have hr:=Qgh O hba ks
  unfold rank at hr ⊢
  simp only [List.countP_cons]
  rcases List.mem_cons.mp hm with rfl | hm
  ·rw [O.irr,h];simp only [Bool.false_eq_true,if_false,if_true];lia
  ·have:=Qka O h hm
   unfold rank at this
   cases e:lt k a with
   | false=>simp only [Bool.false_eq_true,if_false];split <;> lia
   | true=>rw [O.tr e h];simp only [if_true];lia
theorem Qh0 {lt:α->α->Bool} (O:Ord lt) {a b:α} {ks:List α} (ha:a∈ks):decide (((rank lt ks a:Nat):Int) < (rank lt ks b:Nat))=lt a b:=by
 cases e:lt a b with
 | true=>exact decide_eq_true (by have:=Qka O e ha;lia)
 | false=>exact decide_eq_false (by have:=Qgh O e ks;lia)
def insB (lt:α->α->Bool) (x:α):List α->List α
 | []=>[x]
 | y::r=>if lt y x=true then y::insB lt x r else x::y::r
def srt (lt:α->α->Bool):List α->List α
 | []=>[]
 | x::r=>insB lt x (srt lt r)
theorem Qd8 (lt:α->α->Bool) (x:α):∀ r:List α,(insB lt x r).Perm (x::r)
 | []=>.refl _
 | y::r=>by
  unfold insB
  split
  ·exact ((Qd8 lt x r).cons y).trans (.swap x y r)
  ·exact .refl _
theorem srt_perm (lt:α->α->Bool):∀ r:List α,(srt lt r).Perm r
 | []=>.refl _
 | x::r=>(Qd8 lt x _).trans ((srt_perm lt r).cons x)
abbrev SB (lt:α->α->Bool) (r:List α):Prop:=r.Pairwise fun a b=>lt b a=false
theorem QeC {lt:α->α->Bool} (O:Ord lt) (x:α):∀ {r:List α},SB lt r->SB lt (insB lt x r)
 | [],_=>List.pairwise_singleton _ _
 | y::r,h=>by
  obtain ⟨h1,h2⟩:=List.pairwise_cons.mp h
  unfold insB
  split
  ·rename_i c
   refine List.pairwise_cons.mpr ⟨fun z hz=>?_,QeC O x h2⟩
   rcases List.mem_cons.mp ((Qd8 lt x r).mem_iff.mp hz) with rfl | hz
   ·cases e:lt z y with
    | false=>rfl
    | true=>have:=O.tr c e;rw [O.irr] at this;cases this
   ·exact h1 z hz
  ·rename_i c
   have c':lt y x=false:=by simpa using c
   refine List.pairwise_cons.mpr ⟨fun z hz=>?_,h⟩
   rcases List.mem_cons.mp hz with rfl | hz
   ·exact c'
   ·exact O.neg (h1 z hz) c'
theorem srt_sorted {lt:α->α->Bool} (O:Ord lt):∀ r:List α,SB lt (srt lt r)
 | []=>List.Pairwise.nil
 | x::r=>QeC O x (srt_sorted O r)
theorem srt_len (lt:α->α->Bool) (r:List α):(srt lt r).length=r.length:=(srt_perm lt r).length_eq
theorem QiN {lt:α->α->Bool} (O:Ord lt) (T:∀ {a b},lt a b=false->lt b a=false->a=b):∀ {r q:List α},r.Perm q->SB lt r->SB lt q->r=q
 | [],q,hp,_,_=>hp.nil_eq
 | x::r,[],hp,_,_=>by have:=hp.length_eq;simp at this
 | x::r,y::q,hp,hr,hq=>by
  obtain ⟨r1,r2⟩:=List.pairwise_cons.mp hr
  obtain ⟨q1,q2⟩:=List.pairwise_cons.mp hq
  have e:x=y:=by
   rcases List.mem_cons.mp (hp.mem_iff.mp (List.mem_cons_self ..)) with h | h
   ·exact h
   ·rcases List.mem_cons.mp (hp.mem_iff.mpr (List.mem_cons_self ..)) with h' | h'
    ·exact h'.symm
    ·exact T (q1 x h) (r1 y h')
  subst e
  rw [QiN O T hp.cons_inv r2 q2]
theorem srt_uniq {lt:α->α->Bool} (O:Ord lt) (T:∀ {a b},lt a b=false->lt b a=false->a=b) {r q:List α} (hp:r.Perm q) (hr:SB lt r):r=srt lt q:=QiN O T (hp.trans (srt_perm lt q).symm) hr (srt_sorted O q)
theorem perm_lift {β:Type} (f:α->β):∀ {out ys:List β},out.Perm ys->∀ {zs:List α},zs.map f=ys->∃ zs':List α,zs'.Perm zs/\zs'.map f=out:=by
 intro out ys h
 induction h with
 | nil=>intro zs e;exact ⟨zs,.refl _,e⟩
 | cons x _ ih =>
  intro zs e
  cases zs with
  | nil=>simp at e
  | cons z zs =>
   simp only [List.map_cons,List.cons.injEq] at e
   obtain ⟨zs',p,e'⟩:=ih e.2
   exact ⟨z::zs',p.cons z,by rw [List.map_cons,e',e.1]⟩
 | swap x y l =>
  intro zs e
  match zs,e with
  | [],e=>simp at e
  | [_],e=>simp at e
  | a::b::zs,e =>
   simp only [List.map_cons,List.cons.injEq] at e
   exact ⟨b::a::zs,.swap a b zs,by simp only [List.map_cons,e.1,e.2.1,e.2.2]⟩
 | trans _ _ ih1 ih2 =>
  intro zs e
  obtain ⟨z2,p2,e2⟩:=ih2 e
  obtain ⟨z1,p1,e1⟩:=ih1 e2
  exact ⟨z1,p1.trans p2,e1⟩
end
def plt (a b:Int×Int):Bool:=if a.1=b.1 then decide (a.2 < b.2) else decide (a.1 < b.1)
theorem plt_iff {a b:Int×Int}:plt a b=true ↔ a.1 < b.1\/(a.1=b.1/\a.2 < b.2):=by
 unfold plt
 split <;> simp <;> lia
theorem plt_false {a b:Int×Int}:plt a b=false ↔ b.1 < a.1\/(a.1=b.1/\b.2<=a.2):=by
 rw [← Bool.not_eq_true,plt_iff];lia
theorem plt_ord:Ord plt:=⟨fun a=>plt_false.mpr (by lia),fun h1 h2=>plt_iff.mpr (by have:=plt_iff.mp h1;have:=plt_iff.mp h2;lia),fun h1 h2=>plt_false.mpr (by have:=plt_false.mp h1;have:=plt_false.mp h2;lia)⟩
theorem plt_tot {a b:Int×Int} (h1:plt a b=false) (h2:plt b a=false):a=b:=by
 have:=plt_false.mp h1
 have:=plt_false.mp h2
 exact Prod.ext (by lia) (by lia)
end Tim
namespace DL
open PySem PySem.Spec PyProof.Rows L2
abbrev Qr (ps:List (Int×Int)):List (Int×Int):=Tim.srt Tim.plt ps
def Qi (p:Int×Int):D:=.tup [.int p.1,.int p.2]
def Qa8:List D->Option (List (Int×Int))
 | []=>some []
 | .tup [.int a,.int b]::r=>(Qa8 r).map ((a,b)::·)
 | _=>none
theorem Qcr (ps:List (Int×Int)):Qa8 (ps.map Qi)=some ps:=by
 induction ps with
 | nil=>rfl
 | cons n r ih=>simp only [List.map_cons,Qi,Qa8,ih];rfl
theorem Qc2:∀ {ds:List D} {ps:List (Int×Int)},Qa8 ds=some ps->ds=ps.map Qi
 | [],ps,h=>by cases h;rfl
 | d::r,ps,h=>by
  unfold Qa8 at h
  split at h
  ·rename_i e;cases e
  ·rename_i a b r' e
   cases e
   cases e2:Qa8 r with
   | none=>rw [e2] at h;cases h
   | some q=>rw [e2] at h;cases h;rw [Qc2 e2];rfl
  ·cases h
def QbD (d:D):Ou D:=if rk d=1\/rk d=2 then (match Qa8 (its d) with
  | some ps=>if ps.length < 64 then .ok (.lst ((Qr ps).map Qi)) else .bad
  | none=>.bad) else .bad
theorem Qdg {ps:List (Int×Int)} (h:ps.length < 64):QbD (.lst (ps.map Qi))=.ok (.lst ((Qr ps).map Qi)):=by
 simp [QbD,rk,its,Qcr,h]
theorem QjI {ps:List (Int×Int)} (h:ps.length < 64):QbD (.tup (ps.map Qi))=.ok (.lst ((Qr ps).map Qi)):=by
 simp [QbD,rk,its,Qcr,h]
def Qib:D->D->Ou D
 | .tup xs,.tup ys=>if xs.length + ys.length<=sizeLine then .ok (.tup (xs++ys)) else .bad
 | _,_=>.bad
def QkD (i:Nat) (f:Fn):Sm:=fun δ=>match δ[i]? with
 | some (.own (.lst ds))=>(f δ).bind fun d=>match Qa8 ds,Qa8 [d] with
  | some ps,some [p]=>if p∈ps then .ok (.nx (δ.set i (.own (.lst ((ps.erase p).map Qi))))) else .bad
  | _,_=>.bad
 | _=>.bad
end DL
namespace Tim
open PySem PyProof.Rows
section
variable {α:Type}
theorem Qkv {prog:Program} {w:World} {A:Around} {s:Shared} {κ:SortKind} {vs:List Value} {k:Value->α} {lt:α->α->Bool} (O:Ord lt)
  (T:∀ x,x∈vs->∀ y,y∈vs->∀ (E:Value->Shared->Prop) (Q:Bool->Shared->Prop),Q (lt (k x) (k y)) s->wpAny (model prog w) A (keyLt' κ x y) Q E s) :
  Told prog w A s κ (fun p=>((rank lt (vs.map k) (k p.1):Nat):Int)) (pairsOf vs):=by
 intro x hx y hy E Q q
 rw [pairsOf_toList] at hx hy
 have e1:=mem_zip_self hx
 have e2:=mem_zip_self hy
 refine T _ e1.2 _ e2.2 E Q ?_
 rw [← Qh0 O (List.mem_map_of_mem e1.2)]
 exact q
theorem Qmt {vs out:List Value} {k:Value->α} {lt:α->α->Bool} (O:Ord lt) (hp:out.Perm vs) (hs:out.Pairwise fun x y=>((rank lt (vs.map k) (k x):Nat):Int)<=((rank lt (vs.map k) (k y):Nat):Int)):(out.map k).Pairwise fun a b=>lt b a=false:=by
 rw [List.pairwise_map]
 refine List.pairwise_iff_forall_sublist.mpr fun {a b} hab=>?_
 have hb:b∈vs:=hp.mem_iff.mp (hab.subset (by simp))
 have:=List.pairwise_iff_forall_sublist.mp hs hab
 rw [← Qh0 O (List.mem_map_of_mem hb)]
 exact decide_eq_false (by lia)
end
section
variable {prog:Program} {w:World} {A:Around} {E:Value->Shared->Prop} {s:Shared}
def TupAt (h:Heap) (v:Value) (p:Int×Int):Prop:=∃ a t u,v=.ref a/\IsTup h a #[.int p.1 t,.int p.2 u]
def pairOf (h:Heap):Value->Int×Int
 | .ref a=>match h.get? a with
  | some o=>match o.data with
   | .seq xs _=>(numOf (xs.getD 0 .none),numOf (xs.getD 1 .none))
   | _=>(0,0)
  | none=>(0,0)
 | _=>(0,0)
theorem TupAt.pair {h:Heap} {v:Value} {p:Int×Int} (t:TupAt h v p):pairOf h v=p:=by
 obtain ⟨a,t,u,rfl,o,ho,_,n,hd⟩:=t
 simp only [pairOf,ho,hd]
 rfl
theorem QnE {x y:Value} {p q:Int×Int} {Q:Bool->Shared->Prop} (hx:TupAt s.heap x p) (hy:TupAt s.heap y q) (h:Q (plt p q) s):wpAny (model prog w) A (keyLt' (tuples' true) x y) Q E s:=by
 obtain ⟨a,t,u,rfl,o,ho,_,n,hd⟩:=hx
 obtain ⟨b,t',u',rfl,o',ho',_,n',hd'⟩:=hy
 refine W.kat_lt ho hd ho' hd' ?_
 show W.KatLex _ _ _ _ _ _ [(Value.int p.1 t,Value.int q.1 t'),(Value.int p.2 u,Value.int q.2 u')] 0 s
 refine W.kat_cons (wpAny_eqBool_int (W.kat_go (fun e=>?_) (fun e=>?_)))
 ·have e1:p.1=q.1:=by simpa using e
  refine W.kat_yes (W.kat_cons (wpAny_eqBool_int (W.kat_go (fun e'=>?_) (fun e'=>?_))))
  ·refine W.kat_yes (W.kat_nil ?_)
   have e2:p.2=q.2:=by simpa using e'
   have:plt p q=false:=plt_false.mpr (by lia)
   rw [this] at h
   exact h
  ·refine W.kat_no (W.kat_one _ _ (lt_int ?_))
   show Q (decide (p.2 < q.2)) s
   unfold plt at h
   rw [if_pos e1] at h
   exact h
 ·have e1:¬ p.1=q.1:=by simpa using e
  refine W.kat_no (oneLt_int ?_)
  unfold plt at h
  rw [if_neg e1] at h
  exact h
theorem collect_tuple {l:Addr} {vs:List Value} {Q:List Value->Shared->Prop} (hl:IsTup s.heap l vs.toArray)
  (h:Q vs { s with heap:=(s.heap.push (seqObj "list" #[] 0)).update s.heap.objs.size (Obj.mapSeq (·++vs.toArray)) }) (hsz:vs.length<=sizeLine) :
  wpAny (model prog w) A (collect (.ref l)) Q E s:=by
 obtain ⟨o,ho,hc,n,hd⟩:=id hl
 unfold collect
 refine wpAny_bind (wpAny_runValue (codeAny_builtin entry_proto_collect' ?_))
 show wpAny _ _ (do again (.builtin "list.__iadd__" ⟨[← newList [],.ref l],[]⟩)) _ _ s
 refine wpAny_bind (wpAny_newList (wpAny_pure ⟨Code.quiet_builtin _ (by decide +kernel),codeAny_builtin entry_list_iadd' ?_⟩))
 show wpAny _ _ (Builtin.List.listExtendWith (.ref s.heap.objs.size) (.ref l) (.ref s.heap.objs.size)) _ _ { s with heap:=s.heap.push (seqObj "list" #[] 0) }
 unfold Builtin.List.listExtendWith
 have ho':(s.heap.push (seqObj "list" #[] 0)).get? l=some o:=Heap.get?_push_of_some _ ho
 refine wpAny_bind (wpAny_typeOf (T:="tuple") ⟨o,ho',hc⟩ ?_)
 have ht:(Value.type "tuple" == Value.type "tuple")=true:=by rfl
 rw [if_pos (by rw [ht];simp)]
 refine wpAny_bind (listItems_at ho' hd ?_)
 refine wpAny_bind (listItems_at (xs:=#[]) (n:=0) (Heap.get?_push_size _ rfl) rfl ?_)
 rw [if_neg (by simp)]
 refine wpAny_bind (listUpdate_at (xs:=#[]) (n:=0) (Heap.get?_push_size _ rfl) rfl ?_ (Nat.zero_le _) (by show (#[]++vs.toArray).size<=sizeLine + 1;simp only [Array.size_append,List.size_toArray,List.length_nil];lia))
 refine wpAny_pure ?_
 show wpAny (model prog w) A (do
   let o ← load s.heap.objs.size
   match o.data with
   | .seq xs _=>pure xs.toList
   | _=>unsupported "internal:collect") Q E { s with heap:=(s.heap.push (seqObj "list" #[] 0)).update s.heap.objs.size (Obj.mapSeq (·++vs.toArray)) }
 refine wpAny_bind (wpAny_load (get?_update_seq (Heap.get?_push_size _ rfl) _) ?_)
 show wpAny _ _ (pure ((#[]:Array Value)++vs.toArray).toList) Q E _
 rw [show ((#[]:Array Value)++vs.toArray).toList=vs by simp]
 exact wpAny_pure h
def TupsAt (h:Heap):List Value->List (Int×Int)->Prop
 | [],[]=>True
 | v::vs,p::ps=>TupAt h v p/\TupsAt h vs ps
 | _,_=>False
theorem TupsAt.mem {h:Heap}:∀ {vs:List Value} {ps:List (Int×Int)},TupsAt h vs ps->∀ v,v∈vs->∃ p,TupAt h v p
 | [],[],_,v,hv=>by cases hv
 | [],_::_,t,_,_=>t.elim
 | _::_,[],t,_,_=>t.elim
 | x::vs,p::ps,t,v,hv=>by
  rcases List.mem_cons.mp hv with rfl | hv
  ·exact ⟨p,t.1⟩
  ·exact TupsAt.mem t.2 v hv
theorem TupsAt.kat {h:Heap}:∀ {vs:List Value} {ps:List (Int×Int)},TupsAt h vs ps->∃ fs,W.KatTups h vs fs/\fs.length=vs.length/\∀ f,f∈fs->∃ n t,f=Value.int n t
 | [],[],_=>⟨[],trivial,rfl,fun f hf=>by cases hf⟩
 | [],_::_,t=>t.elim
 | _::_,[],t=>t.elim
 | x::vs,p::ps,t=>by
  obtain ⟨⟨a,t1,u,rfl,o,ho,hc,n,hd⟩,t2⟩:=t
  obtain ⟨fs,k1,k2,k3⟩:=TupsAt.kat t2
  refine ⟨Value.int p.1 t1::fs,W.KatTups.cons ho hc hd rfl k1,by simp [k2],fun f hf=>?_⟩
  rcases List.mem_cons.mp hf with rfl | hf
  ·exact ⟨_,_,rfl⟩
  ·exact k3 f hf
theorem TupsAt.keep {h h':Heap} (k:∀ b o,h.get? b=some o->h'.get? b=some o):∀ {vs:List Value} {ps:List (Int×Int)},TupsAt h vs ps->TupsAt h' vs ps
 | [],[],_=>trivial
 | [],_::_,t=>t.elim
 | _::_,[],t=>t.elim
 | x::vs,p::ps,t=>by
  obtain ⟨⟨a,t1,u,rfl,o,ho,hc,n,hd⟩,t2⟩:=t
  exact ⟨⟨a,t1,u,rfl,o,k _ _ ho,hc,n,hd⟩,TupsAt.keep k t2⟩
theorem Qjb {vs:List Value} {ps:List (Int×Int)} (t:TupsAt s.heap vs ps) (h2:2<=vs.length) (Q:SortKind->Shared->Prop) (q:Q (tuples' true) s):wpAny (model prog w) A (keyKind' vs.toArray) Q E s:=by
 obtain ⟨fs,k1,k2,k3⟩:=t.kat
 refine W.kat_kind (T:=Value.type "int") k1 (by lia) (fun v hv=>?_) rfl q
 obtain ⟨n,t,rfl⟩:=k3 v hv
 exact W.Looks.of_pure rfl
theorem Qe3 {h:Heap} {vs:List Value} {b:Addr} {o:Obj} (q:h.get? b=some o):(QaT (Qar h vs) (h.objs.size + 1) vs).get? b=some o:=by
 have hlt:b < h.objs.size:=Heap.lt_size q
 have hsz:((h.push (seqObj "list" #[] 0)).update h.objs.size (Obj.mapSeq (·++vs.toArray))).objs.size=h.objs.size + 1:=by rw [Heap.size_update,size_push']
 unfold QaT Qar
 rw [Heap.get?_push_ne _ _ _ (by rw [size_push',Heap.size_update,size_push',hsz];exact Nat.ne_of_lt (Nat.lt_succ_of_lt (Nat.lt_succ_of_lt (Nat.lt_succ_of_lt hlt)))),Heap.get?_push_ne _ _ _ (by rw [Heap.size_update,size_push',hsz];exact Nat.ne_of_lt (Nat.lt_succ_of_lt (Nat.lt_succ_of_lt hlt))),Heap.get?_update_ne _ _ _ _ (Nat.ne_of_lt (Nat.lt_succ_of_lt hlt)),
  Heap.get?_push_ne _ _ _ (by rw [hsz];exact Nat.ne_of_lt (Nat.lt_succ_of_lt hlt)),Heap.get?_update_ne _ _ _ _ (Nat.ne_of_lt hlt),Heap.get?_push_ne _ _ _ (Nat.ne_of_lt hlt)]
 exact q
theorem sorted_pairs {l:Addr} {vs:List Value} {ps:List (Int×Int)} {Q:Value->Shared->Prop} (hcol:∀ {A:Around} {Q:List Value->Shared->Prop},Q vs { s with heap:=(s.heap.push (seqObj "list" #[] 0)).update s.heap.objs.size (Obj.mapSeq (·++vs.toArray)) }->wpAny (model prog w) A (collect (.ref l)) Q E s)
  (t:TupsAt s.heap vs ps) (hlen:vs.length < 64)
  (h:∀ out:Array Value,out.toList.Perm vs->SB plt (out.toList.map (pairOf s.heap))->Q (.ref (s.heap.objs.size + 1)) { s with heap:=sortedAll s.heap vs out }):wpAny (model prog w) A (call (.builtin "sorted") [.ref l]) Q E s:=by
 have t':TupsAt (QaT (Qar s.heap vs) (s.heap.objs.size + 1) vs) vs ps:=t.keep fun b o q=>Qe3 q
 refine Qns (κ:=tuples' true) (ρ:=fun p=>((rank plt (vs.map (pairOf s.heap)) (pairOf s.heap p.1):Nat):Int)) hcol hlen (fun h2 Q q=>Qjb t' h2 Q q) (Qkv plt_ord fun x hx y hy E Q q=>?_) fun out b1 b2=>h out b1 (Qmt plt_ord b1 b2)
 obtain ⟨p1,h1⟩:=t'.mem x hx
 obtain ⟨p2,h2⟩:=t'.mem y hy
 obtain ⟨p3,h3⟩:=t.mem x hx
 obtain ⟨p4,h4⟩:=t.mem y hy
 have e3:pairOf s.heap x=p1:=by
  obtain ⟨a,t1,u,rfl,o,ho,hc,n,hd⟩:=h3
  have:=(show TupAt (QaT (Qar s.heap vs) (s.heap.objs.size + 1) vs) (.ref a) p3 from ⟨a,t1,u,rfl,o,Qe3 ho,hc,n,hd⟩).pair
  rw [h1.pair] at this
  rw [(show TupAt s.heap (.ref a) p3 from ⟨a,t1,u,rfl,o,ho,hc,n,hd⟩).pair,this]
 have e4:pairOf s.heap y=p2:=by
  obtain ⟨a,t1,u,rfl,o,ho,hc,n,hd⟩:=h4
  have:=(show TupAt (QaT (Qar s.heap vs) (s.heap.objs.size + 1) vs) (.ref a) p4 from ⟨a,t1,u,rfl,o,Qe3 ho,hc,n,hd⟩).pair
  rw [h2.pair] at this
  rw [(show TupAt s.heap (.ref a) p4 from ⟨a,t1,u,rfl,o,ho,hc,n,hd⟩).pair,this]
 rw [e3,e4] at q
 exact QnE h1 h2 q
end
end Tim
namespace DL
open PySem PySem.Spec PyProof.Rows L2
def PrV (K:W.Frag) (H:Hp) (v:V) (p:Int×Int):Prop:=∃ a,v=.ref a/\SqT K H a [.int p.1,.int p.2]
theorem Qog {X:Cx} {pins:List (Addr×Obj)} {σ:St} {H:Hp} {s:Shared} (I:Inv X pins σ H s) {v:V} {u:Value} {p:Int×Int} (r:L2.RelV v u) (h:PrV X.K H v p):Tim.TupAt s.heap u p:=by
 obtain ⟨a,rfl,hq⟩:=h
 obtain ⟨its,r',pl,_⟩:=I.tuple hq
 obtain ⟨u1,u2,rfl,⟨t1,rfl⟩,t2,rfl⟩:=QjO r'
 obtain rfl:u=Value.ref a:=r
 exact ⟨a,t1,t2,rfl,pl⟩
theorem Qm1 {X:Cx} {pins:List (Addr×Obj)} {σ:St} {H:Hp} {s:Shared} (I:Inv X pins σ H s) {vs:List V} {us:List Value} (r:Vals vs us):∀ {ps:List (Int×Int)},vs.length=ps.length->(∀ (i:Nat) v p,vs[i]? = some v->ps[i]? = some p->PrV X.K H v p) ->
  ∃ zs:List (V×Value×(Int×Int)),zs.map (·.1)=vs/\zs.map (·.2.1)=us/\zs.map (·.2.2)=ps/\∀ z∈zs,L2.RelV z.1 z.2.1/\PrV X.K H z.1 z.2.2/\Tim.TupAt s.heap z.2.1 z.2.2:=by
 induction r with
 | nil =>
  intro ps h g
  obtain rfl:ps=[]:=List.length_eq_zero_iff.mp h.symm
  exact ⟨[],rfl,rfl,rfl,fun z hz=>by cases hz⟩
 | @cons v u vs us r t ih =>
  intro ps h g
  cases ps with
  | nil=>simp at h
  | cons p ps =>
   obtain ⟨zs,e1,e2,e3,f⟩:=ih (ps:=ps) (by simpa using h) fun i v' p' h1 h2=>g (i + 1) v' p' h1 h2
   have h0:=g 0 v p rfl rfl
   refine ⟨(v,u,p)::zs,by simp [e1],by simp [e2],by simp [e3],fun z hz=>?_⟩
   rcases List.mem_cons.mp hz with rfl | hz
   ·exact ⟨r,h0,Qog I r h0⟩
   ·exact f z hz
theorem Qke {h:Heap}:∀ {zs:List (V×Value×(Int×Int))},(∀ z∈zs,Tim.TupAt h z.2.1 z.2.2)->Tim.TupsAt h (zs.map (·.2.1)) (zs.map (·.2.2))
 | [],_=>trivial
 | z::zs,f=>⟨f z (List.mem_cons_self ..),Qke fun z' hz=>f z' (List.mem_cons_of_mem _ hz)⟩
theorem Qio:∀ {zs:List (V×Value×(Int×Int))},(∀ z∈zs,L2.RelV z.1 z.2.1)->Vals (zs.map (·.1)) (zs.map (·.2.1))
 | [],_=>.nil
 | z::zs,f=>.cons (f z (List.mem_cons_self ..)) (Qio fun z' hz=>f z' (List.mem_cons_of_mem _ hz))
section
variable {X:Cx} {E:XK} {m:Md} {a b e o i:Expr} {fa fb fe fo fi:Fn} {pos p:Pos} {fr:Rm} {x:Str}
theorem QhF:CallR X (.builtin "sorted") (fun xs H Q=>∃ p vs ps,xs=[.ref p]/\(SqL X.K H p vs\/SqT X.K H p vs)/\vs.length=ps.length/\(∀ (i:Nat) v p,vs[i]? = some v->ps[i]? = some p->PrV X.K H v p)/\vs.length < 64 /\
  ∀ l,H l=none->∀ vs',vs'.length=(Qr ps).length->(∀ (i:Nat) v p,vs'[i]? = some v->(Qr ps)[i]? = some p->PrV X.K H v p)->Q (.ref l) (upd H l (.lst vs'))):=by
 intro pins s σ H xs us Q I r h
 obtain ⟨p,vs,ps,rfl,hq,hl,hp,h128,q⟩:=h
 obtain ⟨u,rfl,rx⟩:=Qct r
 cases rx
 have col:∃ its:List Value,Vals vs its/\vs.length<=sizeLine/\∀ {E:Value->Shared->Prop} {A:Around} {Q:List Value->Shared->Prop},Q its { s with heap:=(s.heap.push (seqObj "list" #[] 0)).update s.heap.objs.size (Obj.mapSeq (·++its.toArray)) }->wpAny (model X.prog X.w) A (collect (.ref p)) Q E s:=by
  rcases hq with hq | hq
  ·obtain ⟨its,r',pl,hz⟩:=I.list hq
   have hl':=r'.length
   exact ⟨its,r',hz,fun q=>collect_list pl.isList q (by lia)⟩
  ·obtain ⟨its,r',pl,hz⟩:=I.tuple hq
   have hl':=r'.length
   exact ⟨its,r',hz,fun q=>Tim.collect_tuple pl q (by lia)⟩
 obtain ⟨its,r',hz,col⟩:=col
 obtain ⟨zs,e1,e2,e3,f⟩:=Qm1 I r' hl hp
 have hl':=r'.length
 subst e1 e2 e3
 refine Tim.sorted_pairs col (Qke fun z hz=>(f z hz).2.2) (by lia) fun out b1 b2=>?_
 obtain ⟨zs',p1,e⟩:=Tim.perm_lift (fun z:V×Value×(Int×Int)=>z.2.1) b1 rfl
 obtain ⟨c,hat⟩:=sortedAll_at s.heap (zs.map (·.2.1)) out
 have f':∀ z∈zs',L2.RelV z.1 z.2.1/\PrV X.K H z.1 z.2.2/\Tim.TupAt s.heap z.2.1 z.2.2:=fun z hz=>f z (p1.mem_iff.mp hz)
 have ek:out.toList.map (Tim.pairOf s.heap)=zs'.map (·.2.2):=by
  rw [← e,List.map_map]
  exact List.map_congr_left fun z hz=>(f' z hz).2.2.pair
 rw [ek] at b2
 have es:zs'.map (·.2.2)=Qr (zs.map (·.2.2)):=Tim.srt_uniq Tim.plt_ord Tim.plt_tot (p1.map (·.2.2)) b2
 have hln:(zs'.map (·.1)).length=(zs.map (·.1)).length:=by rw [List.length_map,List.length_map];exact p1.length_eq
 refine ⟨.ref (s.heap.objs.size + 1),_,I.laid (t':=s.toks) (fun b o'=>sortedAll_old) (Nat.le_succ _) (show ObjOk X.prog X.w _ _ _ (.lst (zs'.map (·.1))) from ⟨by rw [hln];exact hz,out.toList,c,by rw [← e];exact Qio fun z hz=>(f' z hz).1,hat⟩),rfl,q _ (I.hok.fresh (Nat.le_succ _)) _ ?_ ?_⟩
 ·rw [← es,List.length_map,List.length_map]
 ·intro i v p h1 h2
  rw [← es] at h2
  rw [List.getElem?_map] at h1 h2
  cases ez:zs'[i]? with
  | none=>rw [ez] at h1;cases h1
  | some z =>
   rw [ez] at h1 h2
   cases h1
   cases h2
   exact (f' z (List.mem_of_getElem? ez)).2.1
theorem Qdk {K:W.Frag} {B:Addr->Prop} {H:Hp}:∀ {ps:List (Int×Int)} {vs:List V},Reps K B H (ps.map Qi) vs->vs.length=ps.length/\∀ (i:Nat) v p,vs[i]? = some v->ps[i]? = some p->PrV K H v p
 | [],vs,r=>by
  have:vs=[]:=by simpa [Reps] using r
  subst this
  exact ⟨rfl,fun i v p h=>by simp at h⟩
 | n::ns,vs,r=>by
  simp only [List.map_cons,Reps] at r
  obtain ⟨v,r',rfl,h1,h2⟩:=r
  obtain ⟨g1,g2⟩:=Qdk h2
  refine ⟨by simp [g1],fun i v' p e1 e2=>?_⟩
  cases i with
  | zero =>
   cases e1;cases e2
   simp only [Qi,Rep,Reps] at h1
   obtain ⟨a,xs,rfl,hq,_,_,rfl,rfl,_,_,rfl,rfl,rfl⟩:=h1
   exact ⟨a,rfl,hq⟩
  | succ i=>exact g2 i v' p e1 e2
theorem Qfb {K:W.Frag} {B:Addr->Prop} {H:Hp}:∀ {ps:List (Int×Int)} {vs:List V},vs.length=ps.length->(∀ (i:Nat) v p,vs[i]? = some v->ps[i]? = some p->PrV K H v p)->Reps K B H (ps.map Qi) vs
 | [],[],_,_=>by simp [Reps]
 | [],_::_,h,_=>by simp at h
 | _::_,[],h,_=>by simp at h
 | p::ps,v::vs,h,g=>by
  simp only [List.map_cons,Reps]
  refine ⟨_,_,rfl,?_,Qfb (by simpa using h) fun i v' p' e1 e2=>g (i + 1) v' p' e1 e2⟩
  obtain ⟨a,rfl,hq⟩:=g 0 v p rfl rfl
  simp only [Qi,Rep,Reps]
  exact ⟨a,_,rfl,hq,_,_,rfl,rfl,_,_,rfl,rfl,rfl⟩
theorem PrV.same {K:W.Frag} {H H':Hp} {v:V} {p:Int×Int} (h:PrV K H v p) (e:Same H H'):PrV K H' v p:=by
 obtain ⟨a,rfl,h⟩:=h
 exact ⟨a,rfl,QcK e h⟩
theorem Qg0 (hm:X.mg "sorted" = none) (ha:PE X e (tX X.K E m fe)) (hn:notF m=true:=by rfl) (hg:Gl X "sorted":=by rfl) (he:starEach [e] X.env=(false,eval e X.env)::starEach [] X.env:=by rfl) (hpl:(backTo pos (starEach ([]:List Expr) X.env)).any (·.1)=false:=by rfl) :
  PE X (.Call (.Name "sorted" p) [e] [] pos) (tX X.K E .F (f1 QbD fe)) :=
 (QcC QhF hg hm (by decide +kernel) (Qae ha pa_nil he) (by decide) (by decide) he hpl).imp fun σ H Q q=>by
 obtain ⟨c,δ,hK,ab,q⟩:=q
 refine ⟨c,δ,hK,ab,(Res.bind q).imp fun d _ k v H1 e1 r1=>?_⟩
 have r1':Rep c.K (BOf c σ δ m) H1 d v:=Post.bOf hn r1
 unfold QbD at k
 by_cases hr:rk d=1\/rk d=2
 ·rw [if_pos hr] at k
  cases ei:Qa8 (its d) with
  | none=>rw [ei] at k;exact k.elim
  | some ps =>
   rw [ei] at k
   by_cases h64:ps.length < 64
   ·simp only [if_pos h64] at k
    have sq:∃ a xs,v=V.ref a/\(SqL c.K H1 a xs\/SqT c.K H1 a xs)/\Reps c.K (BOf c σ δ m) H1 (its d) xs:=by
     rcases hr with hr | hr
     ·obtain ⟨a,xs,e,h1,h2⟩:=rk1 hr r1';exact ⟨a,xs,e,.inr h1,h2⟩
     ·obtain ⟨a,xs,e,h1,h2⟩:=rk2 hr r1';exact ⟨a,xs,e,.inl h1,h2⟩
    obtain ⟨a,xs,rfl,h1,h2⟩:=sq
    rw [Qc2 ei] at h2
    obtain ⟨g1,g2⟩:=Qdk h2
    rw [hK] at h1 g2
    exact ⟨a,xs,ps,rfl,h1,g1,g2,by lia,fun l hl vs' l1 l2=>k (.ref l) _ (e1.trans (Qp hl _)) ⟨l,_,rfl,e1.free hl,Qm,_,rfl,Qfb l1 fun i v p q1 q2=>by rw [hK];exact (l2 i v p q1 q2).same (Qp hl _)⟩⟩
   ·simp only [if_neg h64] at k;exact k.elim
 ·rw [if_neg hr] at k;exact k.elim
end
section
variable {X:Cx} {E:XK} {pos:Pos}
def rCatU (K:W.Frag):V->V->Hp->VK->Prop:=fun x y H Q=>∃ a b xs ys,x=.ref a/\y=.ref b/\SqT K H a xs/\SqT K H b ys/\xs.length + ys.length<=sizeLine/\(xs=[]->Q (.ref b) H)/\(ys=[]->Q (.ref a) H)/\∀ p,H p=none->Q (.ref p) (upd H p (.tup (xs++ys)))
theorem QnI:OpR X (binaryOp .Add) (rCatU X.K):=by
 intro pins s σ H x y v u Q I rx ry h
 obtain ⟨a,b,xs,ys,rfl,rfl,ha,hb,hz,q0,q1,q2⟩:=h
 by_cases hx:xs=[]
 ·subst hx
  cases rx
  cases ry
  obtain ⟨its,r1,p1,_⟩:=I.tuple ha
  obtain ⟨its2,r2,p2,_⟩:=I.tuple hb
  cases r1
  obtain ⟨⟨cls,dd,data,sl⟩,ho,hc,n,hd⟩:=id p1
  obtain ⟨⟨cls2,dd2,data2,sl2⟩,ho2,hc2,n2,hd2⟩:=id p2
  simp only at hc hd hc2 hd2
  subst hc hd hc2 hd2
  exact concat_meets ⟨_,ho,rfl⟩ ⟨_,ho2,rfl⟩ noFill_tuple_add seq_tuple_add PySem.F.slot_tuple_add PySem.F.entry_tuple_add (PySem.F.args_tuple_add_2 _ _)
   (tuple_addW0 a b #[] its2.toArray n n2 dd dd2 sl sl2 rfl) ⟨ho,ho2,.ref b,H,I,rfl,q0 rfl⟩
 ·exact QnL _ _ _ H _ _ _ _ Q I rx ry ⟨a,b,xs,ys,rfl,rfl,ha,hb,hx,hz,q1,fun _=>q2⟩
theorem xcatU {a b:Expr} {fa fb:Fn} (ha:PE X a (tX X.K E .S fa)) (hb:PE X b (tX X.K E .S fb)):PE X (.BinOp a .Add b pos) (tX X.K E .S (f2 Qib fa fb)):=(QlK QnI ha hb).imp fun σ H Q q=>by
 obtain ⟨c,δ,hK,ab,q⟩:=q
 refine ⟨c,δ,hK,ab,(Res.bind q).imp fun dx hx0 k x H1 e1 r1=>?_⟩
 refine ⟨c,δ,hK,ab.grow e1,(Res.bind k).imp fun dy hy0 k2 y H2 e2 r2=>?_⟩
 have r1':Rep c.K (Av c σ δ) H2 dx x:=Rep.same (show Rep c.K (Av c σ δ) H1 dx x from r1) e2
 have r2':Rep c.K (Av c σ δ) H2 dy y:=r2
 obtain ⟨xs,rfl⟩:∃ xs,dx=.tup xs:=by
  cases dx <;> first | exact ⟨_,rfl⟩ | (cases dy <;> exact k2.elim)
 obtain ⟨ys,rfl⟩:∃ ys,dy=.tup ys:=by
  cases dy <;> first | exact ⟨_,rfl⟩ | exact k2.elim
 unfold Qib at k2
 by_cases hc:xs.length + ys.length<=sizeLine
 ·simp only [if_pos hc] at k2
  have r0:=r1'
  have r0':=r2'
  simp only [Rep] at r1' r2'
  obtain ⟨a1,us,rfl,h1,h2⟩:=r1'
  obtain ⟨b1,ws,rfl,h3,h4⟩:=r2'
  have e12:=e1.trans e2
  refine ⟨a1,b1,us,ws,rfl,rfl,by rw [← hK];exact h1,by rw [← hK];exact h3,by rw [h2.length,h4.length];exact hc,fun z=>?_,fun z=>?_,fun p hp=>?_⟩
  ·have hx:xs=[]:=by
    have:=h2.length
    rw [z] at this
    exact List.length_eq_zero_iff.mp this.symm
   subst hx
   exact k2 (.ref b1) H2 e12 r0'
  ·have hy:ys=[]:=by
    have:=h4.length
    rw [z] at this
    exact List.length_eq_zero_iff.mp this.symm
   subst hy
   refine k2 (.ref a1) H2 e12 ?_
   rw [List.append_nil]
   exact r0
  ·refine k2 (.ref p) _ (e12.trans (Qp hp _)) ?_
   show Rep c.K (Av c σ δ) (upd H2 p (.tup (us++ws))) (.tup (xs++ys)) (.ref p)
   simp only [Rep]
   exact ⟨p,_,rfl,.inl (.inl Qm),(Reps.append h2 h4).same (Qp hp _)⟩
 ·simp only [if_neg hc] at k2
  exact k2.elim
end
end DL
namespace Tim
open PySem PyProof.Rows
section
variable {prog:Program} {w:World} {A:Around} {E:Value->Shared->Prop} {R:Result->Shared->Prop} {I S:Addr} {fp wr:List Addr} {n:Nat} {P:Nat->Value->Prop} {St:Nat->Heap->Prop} {h₀:Heap} {bt:Nat->Nat->Bool}
end
end Tim
namespace DL
open PySem PySem.Spec PyProof.Rows L2
section
variable {X:Cx} {E:XK} {m:Md} {a b e o i:Expr} {fa fb fe fo fi:Fn} {pos p:Pos} {fr:Rm} {x:Str}
theorem PrV.rep {K:W.Frag} {B:Addr->Prop} {H:Hp} {v:V} {p:Int×Int} (h:PrV K H v p):Rep K B H (Qi p) v:=by
 obtain ⟨a,rfl,h⟩:=h
 simp only [Qi,Rep,Reps]
 exact ⟨a,_,rfl,h,_,_,rfl,rfl,_,_,rfl,rfl,rfl⟩
theorem Qki {l:Addr} {items:Array Value} {n:Nat} {x:Value} {e:Nat->Bool} {j:Nat} (hj:j < items.size) (hit:e j=true) (hz:items.size<=sizeLine):∀ (k i:Nat),i + k=j->(∀ m,i<=m->m < j->e m=false)->Meets (Builtin.«list.remove.loop» ⟨[.ref l,x,rawInt i],[]⟩)
  (fun A R s=>s.heap.get? l=some (seqObj "list" items n)/\(∀ m (hm:m < items.size),SeqAt.EqAt A.in1 s items[m] x (e m))/\R (.ok (.ret .none)) { s with heap:=s.heap.update l (Obj.mapSeq fun xs=>xs.eraseIdxIfInBounds j) })
 | 0,i,hi,hno=>by
  intro prog w A R s h
  obtain ⟨hp,g,d,tk,os⟩:=s
  obtain ⟨hl,he,h⟩:=h
  obtain rfl:i=j:=by lia
  wp_walk using AutoSeq1.wpAny_loadPart' hl
  rw [show items[((i:Nat):Int).toNat]? = some items[i] by simp [hj]]
  refine wpAny_bind (he i hj prog w _ _ ?_)
  rw [hit]
  have hz':(items.eraseIdxIfInBounds i).size<=sizeLine + 1:=Nat.le_trans (MeetsSeq.size_erased items _) (Nat.le_succ_of_le hz)
  wp_walk using (wpAny_updateSeq hl rfl (hz:=hz) (_hz':=hz')),AutoSeq1.wpAny_loadPart' hl
  simpa using h
 | k + 1,i,hi,hno=>by
  intro prog w A R s h
  obtain ⟨hp,g,d,tk,os⟩:=s
  obtain ⟨hl,he,h⟩:=h
  have hlt:i < items.size:=by lia
  wp_walk using AutoSeq1.wpAny_loadPart' hl
  rw [show items[((i:Nat):Int).toNat]? = some items[i] by simp [hlt]]
  refine wpAny_bind (he i hlt prog w _ _ ?_)
  rw [hno i (Nat.le_refl _) (by lia)]
  wp_walk
  rw [show ((i:Int) + 1)=((i + 1:Nat):Int) by lia]
  exact ⟨plainId_quiet MeetsSeq.plain_remove_loop _,codeAny_builtin MeetsSeq.entry_remove_loop (by
   rw [Around.under_plainId MeetsSeq.plain_remove_loop _]
   exact Qki hj hit hz k (i + 1) (by lia) (fun m h1 h2=>hno m (by lia) h2) prog w A R _ ⟨hl,he,h⟩)⟩
theorem QmN {l:Addr} {items:Array Value} {n:Nat} {x:Value} {e:Nat->Bool} {j:Nat} (hj:j < items.size) (hit:e j=true) (hz:items.size<=sizeLine) (hno:∀ m,m < j->e m=false):Meets (Builtin.«list.remove» ⟨[.ref l,x],[]⟩)
  (fun A R s=>s.heap.get? l=some (seqObj "list" items n)/\(∀ m (hm:m < items.size),SeqAt.EqAt A.in1 s items[m] x (e m))/\R (.ok (.ret .none)) { s with heap:=s.heap.update l (Obj.mapSeq fun xs=>xs.eraseIdxIfInBounds j) }):=by
 intro prog w A R s h
 obtain ⟨hp,g,d,tk,os⟩:=s
 obtain ⟨hl,he,h⟩:=h
 wp_walk using AutoSeq1.wpAny_loadPart' hl
 exact ⟨plainId_quiet MeetsSeq.plain_remove_loop _,codeAny_builtin MeetsSeq.entry_remove_loop (by
  rw [Around.under_plainId MeetsSeq.plain_remove_loop _]
  exact Qki hj hit hz j 0 (by lia) (fun m _ h2=>hno m h2) prog w A R _ ⟨hl,he,h⟩)⟩
theorem QnC (p q:Int×Int):eqD 3 (Qi p) (Qi q)=some (decide (p=q)):=by
 obtain ⟨a,b⟩:=p
 obtain ⟨c,d⟩:=q
 simp only [Prod.mk.injEq,Bool.decide_and]
 simp [Qi,eqD,eqF,rk,its,eqT,zipO,toV,eqV]
 by_cases h1:a=c <;> by_cases h2:b=d <;> simp [h1,h2]
theorem Vals.erase {xs:List V} {us:List Value} (r:Vals xs us):∀ j,Vals (xs.eraseIdx j) (us.eraseIdx j):=by
 induction r with
 | nil=>intro j;exact .nil
 | cons h t ih =>
  intro j
  cases j with
  | zero=>exact t
  | succ j=>exact .cons h (ih j)
theorem Qi4 (hu:X.A.units + 64 < cLine):MtM X "list.remove" (fun x vs H Q=>∃ (l:Addr) (xs:List V) (ps:List (Int×Int)) (v:V) (p:Int×Int),x=.ref l/\vs=[v]/\H l=some (.lst xs)/\xs.length=ps.length/\(∀ (i:Nat) v p,xs[i]? = some v->ps[i]? = some p->PrV X.K H v p)/\PrV X.K H v p/\p∈ps /\
  Q .non (upd H l (.lst (xs.eraseIdx (ps.idxOf p))))):=by
 intro pins s σ H x vs v us Q I rx rv h
 obtain ⟨l,xs,ps,y,p,rfl,rfl,hH,hl,hp,hy,hm,q⟩:=h
 cases rx
 obtain ⟨u,rfl,ru⟩:=rv.one
 obtain ⟨z,its,n,r,hli,e⟩:=I.lstM hH
 obtain ⟨zs,e1,e2,e3,f⟩:=Qm1 I r hl hp
 subst e1 e2 e3
 have hj:=List.idxOf_lt_length_of_mem hm
 rw [List.length_map] at hj
 have hz:(zs.map (·.2.1)).toArray.size<=sizeLine:=by rw [List.size_toArray,← hli];exact z
 refine call_meets PySem.F.slot_list_remove ⟨_,e,rfl⟩ PySem.F.entry_list_remove (PySem.F.args_list_remove_2 _ _) (QmN (e:=fun m=>decide (((zs.map (·.2.2))[m]?)=some p)) (j:=(zs.map (·.2.2)).idxOf p) (by rw [List.size_toArray,List.length_map];exact hj) ?_ hz fun m hm'=>?_) ⟨e,fun m hm'=>?_,?_⟩
 ·have:=List.getElem_idxOf (List.idxOf_lt_length_of_mem hm)
  exact decide_eq_true (by rw [List.getElem?_eq_getElem (List.idxOf_lt_length_of_mem hm),this])
 ·refine decide_eq_false fun h=>?_
  obtain ⟨h1,h2⟩:=List.getElem?_eq_some_iff.mp h
  have:=List.not_of_lt_findIdx (p:=(· == p)) hm'
  rw [h2] at this
  simp at this
 ·have hm2:m < zs.length:=by simpa using hm'
  have fz:=f _ (List.getElem_mem hm2)
  have ev:(zs.map (·.2.1)).toArray[m]=zs[m].2.1:=by simp
  rw [ev,List.getElem?_map,List.getElem?_eq_getElem hm2,Option.map_some]
  have:=(Qj2 (B:=fun _=>True) I 3 X.A.in1.in1 (Qi zs[m].2.2) (Qi p) zs[m].1 y zs[m].2.1 u _ (by show X.A.units + 1 + 1 + 3 < cLine;lia) fz.2.1.rep hy.rep fz.1 ru (QnC _ _)).eq
  have ed:decide (some zs[m].2.2=some p)=decide (zs[m].2.2=p):=by simp
  rw [ed]
  exact this.of_in1
 ·refine ⟨.non,_,I.lset (its':=(zs.map (·.2.1)).eraseIdx ((zs.map (·.2.2)).idxOf p)) hH e ?_ (Vals.erase r _) ?_,rfl,q⟩
  ·simp
  ·rw [List.length_eraseIdx];split <;> lia
theorem Reps.erase {K:W.Frag} {B:Addr->Prop} {H:Hp}:∀ {ds:List D} {vs:List V} (j:Nat),Reps K B H ds vs->Reps K B H (ds.eraseIdx j) (vs.eraseIdx j)
 | [],vs,j,r=>by
  have:vs=[]:=by simpa [Reps] using r
  subst this
  simp [Reps]
 | d::ds,vs,j,r=>by
  simp only [Reps] at r
  obtain ⟨v,r',rfl,h1,h2⟩:=r
  cases j with
  | zero=>exact h2
  | succ j =>
   simp only [List.eraseIdx_cons_succ,Reps]
   exact ⟨_,_,rfl,h1,Reps.erase j h2⟩
theorem Qgg {α β:Type} (f:α->β):∀ (l:List α) (j:Nat),(l.map f).eraseIdx j=(l.eraseIdx j).map f
 | [],j=>rfl
 | a::l,0=>rfl
 | a::l,j + 1=>by simp only [List.map_cons,List.eraseIdx_cons_succ,Qgg f l j]
theorem Qnn (i:Nat) {px apos cpos:Pos} (hu:X.A.units + 64 < cLine) (he:PE X e (tX X.K E .S fe)) (hN:X.N[i]? = some x:=by rfl) (hv:Vis X.env.scope x:=by first | exact Or.inl rfl | exact Or.inr (Or.inl rfl) | exact Or.inr (Or.inr rfl)) (hd:(x == ("__debug__":Str))=false:=by decide) (hcd:(x == ("__classdict__":Str))=false:=by decide)
  (hst:starEach [e] X.env=(false,eval e X.env)::starEach [] X.env:=by rfl) (hs:swapsWith (.Call (.Attribute (.Name x px) "remove" apos) [e] [] cpos) none pos.line X.env=pure false:=by rfl) (hb:attributeBase (.Name x px) "remove" X.env (eval (.Name x px) X.env)=eval (.Name x px) X.env:=by rfl) (h1:(apos.endLine == cpos.line)=true:=by rfl)
  (h2:(backTo cpos (starEach ([]:List Expr) X.env)).any (·.1)=false:=by rfl)
  (hfew:((backTo cpos (starEach [e] X.env)).all (fun x=>!x.1) && (backToKw cpos (keywordEach [] X.env)).all (fun x=>x.1.isSome) && decide (([e]:List Expr).length + ([]:List Keyword).length + (if ([]:List Keyword).isEmpty then 0 else 1) < 30))=true:=by rfl) :
  PS X (.Expr (.Call (.Attribute (.Name x px) "remove" apos) [e] [] cpos) pos) (tS X.K E fr (QkD i fe)) :=
 (QcV (QjU PySem.F.plainAttrs_list PySem.F.slot_list_remove PySem.F.type_list_remove (Qi4 hu) (pv i hN hv hd hcd) (Qae he pa_nil hst) hb hfew h1 hst h2) hs).imp fun D σ H q=>by
 obtain ⟨c,δ,hK,ab,q⟩:=q
 unfold QkD at q
 cases e0:δ[i]? with
 | none=>rw [e0] at q;exact q.elim
 | some s =>
  rw [e0] at q
  cases s with
  | un=>exact q.elim
  | val d=>exact q.elim
  | own d =>
   cases d <;> first | exact q.elim | skip
   rename_i ds
   obtain ⟨p,o,g1,g2,g3,xs,rfl,g4⟩:=ab.own i _ e0
   refine ⟨.ref p,g1,.inl ⟨rfl,xs,.of g2⟩,c,δ,hK,ab,(Res.bind q).imp fun d _ k v H1 e1 r1=>?_⟩
   cases ep:Qa8 ds with
   | none=>simp only [ep] at k;exact k.elim
   | some ps =>
    cases eq:Qa8 [d] with
    | none=>simp only [ep,eq] at k;exact k.elim
    | some qs =>
     simp only [ep,eq] at k
     have ed:=Qc2 eq
     obtain ⟨q0,rfl⟩:∃ q0,qs=[q0]:=List.length_eq_one_iff.mp (by have:=congrArg List.length ed;simpa using this.symm)
     simp only [List.map_cons,List.map_nil,List.cons.injEq,and_true] at ed
     subst ed
     by_cases hm:q0∈ps
     ·simp only [if_pos hm] at k
      have hds:=Qc2 ep
      subst hds
      obtain ⟨l1,l2⟩:=Qdk (g4.same e1)
      have r1':Rep c.K (Av c σ δ) H1 (Qi q0) v:=r1
      have pv:PrV c.K H1 v q0:=by
       simp only [Qi,Rep,Reps] at r1'
       obtain ⟨a,xs,rfl,hq,_,_,rfl,rfl,_,_,rfl,rfl,rfl⟩:=r1'
       exact ⟨a,rfl,hq⟩
      rw [hK] at l2 pv
      refine ⟨p,xs,ps,v,q0,rfl,rfl,e1 _ _ g2,l1,l2,pv,hm,k σ _ ((ab.grow e1).mut e0 g1 ⟨_,rfl,?_⟩)⟩
      have hre:=Reps.erase (ps.idxOf q0) (g4.same e1)
      rw [Qgg,← List.erase_eq_eraseIdx_of_idxOf rfl] at hre
      exact hre
     ·simp only [if_neg hm] at k;exact k.elim
end
section
variable {X:Cx} {E:XK} {tg:Expr} {e:Expr} {fl:Fn} {F:Sm} {fr:Rm} {p pos:Pos}
def Qgm:D->D->Ou D
 | .str x,.int n=>if 0 < n/\n<=1000/\x.length<=1000 then .ok (.str (Txt.mul x n)) else .bad
 | _,_=>.bad
theorem QnQ:OpR X (binaryOp .Mult) (fun x y H Q=>∃ i n,x=.str i/\y=.int n/\(0 < n/\n<=1000/\i.length<=1000)/\Q (.str (Txt.mul i n)) H):=by
 intro pins s σ H x y v u Q I rx ry h
 obtain ⟨i,n,rfl,rfl,⟨h1,h2,h3⟩,q⟩:=h
 obtain ⟨t,rfl⟩:=rx
 obtain ⟨t',rfl⟩:=ry
 refine SB.mul ⟨?_,fun _ _=>?_,fun _ _=>?_⟩ fun t' k=>⟨.str _,H,I.tok _,⟨_,rfl⟩,q⟩
 ·simp only [Bool.or_eq_false_iff,decide_eq_false_iff_not];lia
 ·have:(1000:Int)<=(2 ^ 63 - 1) / n:=(Int.le_ediv_iff_mul_le h1).mpr (by lia)
  lia
 ·unfold Builtin.Str.tooLong
  have:i.length * n.toNat<=1000 * 1000:=Nat.mul_le_mul h3 (by lia)
  have:(1000000:Nat)<=sizeLine:=by decide
  simp only [decide_eq_false_iff_not];lia
theorem QnN:OpD X (binaryOp .Mult) Qgm:=by
 refine ⟨_,QnQ,fun B H dx dy x y Q rx ry=>?_⟩
 cases dx <;> cases dy <;> simp only [Qgm]
 rename_i i n
 simp only [Rep] at rx ry
 subst rx;subst ry
 by_cases hl:0 < n/\n<=1000/\i.length<=1000
 ·rw [if_pos hl]
  exact ⟨rfl,fun q=>⟨i,n,rfl,rfl,hl,q⟩⟩
 ·rw [if_neg hl]
  trivial
end
end DL
namespace PySem
theorem Qhg:typeLookup (.type "list") "keys" = pure none:=by rw [typeLookup_type,builtinLookup_eq_fast];kernel_rfl
theorem Qe7 {prog:Program} {w:World} {A:Around} {E:Value->Shared->Prop} {s:Shared} {a:Addr} {o:Obj} {xs:Array Value} {k:Nat} {Q:Option Value->Shared->Prop}
  (hx:s.heap.get? a=some o) (hc:o.cls=.type "list") (hdat:o.data=.seq xs k) (hd:o.dict=none) (hA:A.handled=none)
  (h:∀ h' tk,(∀ b ob,s.heap.get? b=some ob->h'.get? b=some ob)->Q none { s with heap:=h',toks:=tk }) :
  wpAny (model prog w) A (getAttr? (.ref a) "keys") Q E s:=by
 obtain ⟨c,dct,dat,sl⟩:=o
 simp only at hc hdat hd
 subst hc hdat hd
 obtain ⟨hp,g,d,tk,os⟩:=s
 have hT:∀ tk',(⟨hp,g,d,tk',os⟩:Shared).TypeIs (.ref a) "list":=fun _=>⟨_,hx,rfl⟩
 have f1:=sub_AttributeError
 have f3:=F.slot_list_getattribute.lookup
 have f4:=F.slot_list_getattribute.bind (.ref a)
 have f5:=am_list_getattr_none
 unfold getAttr? getAttrBy? getAttrBy
 repeat (any_goals (first | assumption | exact hT _ | ((with_reducible show wpAny _ _ (call (Value.builtin "list.__getattribute__") _ _) _ _ _);refine call_meets F.slot_list_getattribute (hT _) am_entry_list_getattribute (F.args_list_getattribute_2 _ _) (meets_getattribute_miss_list a xs k sl "keys" _ Qhg (by decide +kernel) (by decide +kernel)) ⟨hx,hA,fun h' tk' e hx'=>?_⟩) | wp_step))
 obtain ⟨t',u',he⟩:=hx'.there
 show wpAny _ _ (getattributeRaised _ _ _ _ _ _ _) _ _ _
 unfold getattributeRaised
 repeat (any_goals (first | assumption | wp_step))
 exact h _ _ hx'.keeps
end PySem
namespace PySem
namespace F
theorem entry_upd_loop:entryFor table "dict.update.loop" = some Builtin.«dict.update.loop»:=entryFor_of_tree (by kernel_rfl)
theorem plain_upd_loop:plainId "dict.update.loop" = true:=by decide +kernel
end F
section
variable {prog:Program} {w:World} {K:Type} [DecidableEq K] {knd:KeyKind prog w K} {A:Around} {E:Value->Shared->Prop} {s:Shared}
theorem QeM {b:Addr} {items:Array Value} {Q:List Value->Shared->Prop} (ht:s.heap.IsTuple b items) (h:Q items.toList s):wpAny (model prog w) A (Builtin.Dict.pairItems (.ref b)) Q E s:=by
 obtain ⟨o,ho,hc,n,hd⟩:=id ht
 unfold Builtin.Dict.pairItems
 refine wpAny_bind (wpAny_typeOf ⟨o,ho,hc⟩ ?_)
 rw [if_pos (by decide)]
 refine wpAny_bind (wpAny_seqItems ho hd ?_)
 exact wpAny_pure h
def Qnd (knd:KeyKind prog w K) (d I:Addr) (items:Array Value) (more:List (K×Value)) (h:Heap):Prop :=
 ∀ (j:Nat) (kv:K×Value),more[j]? = some kv->∃ b key,items[j]? = some (.ref b)/\b≠d/\b≠I/\h.IsTuple b #[key,kv.2]/\knd.is kv.1 key=true
theorem Ql9 {I l d:Addr} {items:Array Value} {more:List (K×Value)} (hdI:d≠I) (hlI:l≠I) (hld:l≠d) (hlen:more.length=items.size) (hsz:more.length<=sizeLine) (hnd:(more.map (·.1)).Nodup) {A:Around} (hh:A.handled=none) {R:Result->Shared->Prop} :
  ∀ (k i:Nat) (s:Shared),items.size - i=k->i<=items.size->s.heap.IsListIter I l i->s.heap.IsList l items->s.heap.DictOf knd d (more.take i)->Qnd knd d I items more s.heap ->
   (∀ h' tk,h'.DictOf knd d more->(∀ b o,b≠I->b≠d->s.heap.get? b=some o->h'.get? b=some o)->R (.ok (.ret .none)) { s with heap:=h',toks:=tk }) ->
   codeAny (model prog w) A (.builtin "dict.update.loop" ⟨[.ref d,.ref I,rawInt i,.none],[]⟩) R s:=by
 intro k
 induction k with
 | zero =>
  intro i s hk hi hit hl hd hp hR
  have hin:i=items.size:=by omega
  subst hin
  refine codeAny_builtin F.entry_upd_loop ?_
  rw [Around.under_plainId F.plain_upd_loop _]
  show wpAny _ A.in1 (pyNext (.ref I) >>= _) _ _ s
  refine wpAny_bind (wpAny_pyNext_list_end hh hit hl (by simp) fun h' he=>?_)
  show wpAny _ _ (Builtin.Dict.addKeywords d [] >>= _) _ _ _
  refine wpAny_bind (wpAny_pure (wpAny_pure ?_))
  rw [List.take_of_length_le (by omega)] at hd
  exact hR h' s.toks (hd.extBut he hdI) fun b o hb _ e=>he b o hb e
 | succ k ih =>
  intro i s hk hi hit hl hd hp hR
  have hlt:i < items.size:=by omega
  have hml:i < more.length:=by omega
  obtain ⟨b,key,hb,hbd,hbI,hbt,hkey⟩:=hp i more[i] (List.getElem?_eq_getElem hml)
  refine codeAny_builtin F.entry_upd_loop ?_
  rw [Around.under_plainId F.plain_upd_loop _]
  show wpAny _ A.in1 (pyNext (.ref I) >>= _) _ _ s
  refine wpAny_bind (wpAny_pyNext_list_item hit hl hb fun h1 hit1 hs1=>?_)
  refine wpAny_bind (wpAny_holding (wpAny_bind (wpAny_tryCatch (QeM (hbt.extBut hs1.extBut hbI) ?_))))
  refine wpAny_holding (wpAny_dictSet_pairs hkey (hd.extBut hs1.extBut hdI) (fun h2 hd2 hs2=>?_) (by rw [List.length_take];omega))
  have hst:stored (more.take i) more[i].1 more[i].2=more.take (i + 1):=by
   have hnot:¬ ((more.take i).any fun kv=>decide (kv.1=more[i].1))=true:=by
    rw [List.any_eq_true]
    rintro ⟨kv,hkv,he⟩
    obtain ⟨j,hj,rfl⟩:=List.getElem_of_mem hkv
    rw [List.length_take] at hj
    rw [List.getElem_take] at he
    have hij:j < i:=by omega
    have:=List.pairwise_iff_getElem.mp hnd j i (by rw [List.length_map];omega) (by rw [List.length_map];omega) hij
    simp only [List.getElem_map] at this
    exact this (of_decide_eq_true he)
   unfold stored
   rw [if_neg hnot,List.take_add_one,List.getElem?_eq_getElem hml]
   rfl
  rw [hst] at hd2
  refine wpAny_pure ⟨plainId_quiet F.plain_upd_loop _,?_⟩
  have keep:∀ c o,c≠I->c≠d->s.heap.get? c=some o->h2.get? c=some o:=fun c o h1' h2' e=>hs2.extBut c o h2' (hs1.extBut c o h1' e)
  refine ih (i + 1) _ (by omega) (by omega) ?_ ?_ hd2 ?_ fun h' tk hd' hk'=>?_
  ·obtain ⟨oi,ho,hr⟩:=hit1
   exact ⟨oi,hs2.extBut I oi (Ne.symm hdI) ho,hr⟩
  ·obtain ⟨ol,ho,hr⟩:=hl
   exact ⟨ol,keep l ol hlI hld ho,hr⟩
  ·intro j kv hj
   obtain ⟨b',key',g1,g2,g3,g4,g5⟩:=hp j kv hj
   obtain ⟨ob,ho,hr⟩:=g4
   exact ⟨b',key',g1,g2,g3,⟨ob,keep b' ob g3 g2 ho,hr⟩,g5⟩
  ·exact hR h' tk hd' fun c o h1' h2' e=>hk' c o h1' h2' (keep c o h1' h2' e)
end
end PySem
namespace PySem
section
variable {prog:Program} {w:World} {K:Type} [DecidableEq K] {knd:KeyKind prog w K} {A:Around} {E:Value->Shared->Prop} {s:Shared}
theorem QeG {l:Addr} {o:Obj} {items:Array Value} {n:Nat} {more:List (K×Value)} {Q:Value->Shared->Prop} (ho:s.heap.get? l=some o) (hc:o.cls=.type "list") (hdat:o.data=.seq items n) (hdn:o.dict=none) (hA:A.handled=none)
  (hlen:more.length=items.size) (hsz:more.length<=sizeLine) (hnd:(more.map (·.1)).Nodup)
  (hp:∀ (j:Nat) (kv:K×Value),more[j]? = some kv->∃ b key,items[j]? = some (.ref b)/\s.heap.IsTuple b #[key,kv.2]/\knd.is kv.1 key=true)
  (h:∀ h' tk,h'.DictOf knd s.heap.objs.size more->(∀ b ob,s.heap.get? b=some ob->h'.get? b=some ob)->Q (.ref s.heap.objs.size) { s with heap:=h',toks:=tk }) :
  wpAny (model prog w) A (call (.type "dict") [.ref l]) Q E s:=by
 refine callType_codes (Q₁:=fun obj s₁=>obj=.ref s.heap.objs.size/\s₁={ s with heap:=s.heap.push { cls:=.type "dict",data:=.dict #[] } }) F.kt_called_dict (F.kt_typeCall_dict_1 _) F.entry_dict_init (kt_code_dict_new _ ⟨rfl,rfl⟩) ?_
 rintro obj s₁ ⟨rfl,rfl⟩
 have hnew:(s.heap.push { cls:=.type "dict",data:=.dict #[] }).DictOf knd s.heap.objs.size []:=Heap.DictOf.new s.heap
 have ho':(s.heap.push { cls:=.type "dict",data:=.dict #[] }).get? l=some o:=Heap.get?_push_of_some _ ho
 refine ⟨hnew.typeIs,F.args_dict_init_2 _ _,?_⟩
 unfold Builtin.«dict.__init__»
 refine wpAny_bind ?_
 unfold Builtin.Dict.selfAndRest
 refine wpAny_bind (wpAny_notOrdered_dict hnew.typeIs ?_)
 show wpAny _ _ (pure (s.heap.objs.size,[Value.ref l])) _ _ _
 refine wpAny_pure ?_
 show wpAny _ _ (Builtin.Dict.updateFrom "dict.__init__" s.heap.objs.size (.ref l) [] .none) _ _ _
 unfold Builtin.Dict.updateFrom
 refine wpAny_bind (wpAny_typeOf (T:="list") ⟨o,ho',hc⟩ ?_)
 rw [if_pos (by decide)]
 refine wpAny_bind (Qe7 ho' hc hdat hdn (by exact hA) fun h1 tk hk=>?_)
 rw [if_pos (show (none:Option Value).isNone=true from rfl)]
 refine wpAny_bind (wpAny_rule ?_)
 have hl1:h1.IsList l items:=⟨o,hk l o ho',hc,n,hdat⟩
 refine wpAny_bind (wpAny_pyIter_list hl1 ?_)
 have hsl:l < s.heap.objs.size:=Heap.lt_size ho
 have hd1:h1.DictOf knd s.heap.objs.size []:=by
  obtain ⟨od,es,ep,g,r⟩:=hnew
  exact ⟨od,es,ep,hk _ _ g,r⟩
 have hds:s.heap.objs.size < h1.objs.size:=by
  obtain ⟨od,es,ep,g,r⟩:=hd1
  exact Heap.lt_size g
 refine wpAny_pure ⟨plainId_quiet F.plain_upd_loop _,?_⟩
 refine Ql9 (I:=h1.objs.size) (l:=l) (d:=s.heap.objs.size) (items:=items) (more:=more) (Nat.ne_of_lt hds) (Nat.ne_of_lt (Nat.lt_trans hsl hds)) (Nat.ne_of_lt hsl) hlen hsz hnd (by exact hA) items.size 0 _ rfl (Nat.zero_le _) ⟨_,Heap.get?_push_size _ rfl,rfl,rfl⟩ ⟨o,Heap.get?_push_of_some _ (hk l o ho'),hc,n,hdat⟩ (by rw [List.take_zero];exact hd1.push _) (fun j kv hj=>?_) fun h' tk' hd' hk'=>?_
 ·obtain ⟨b,key,g1,⟨ob,hob,hr⟩,g3⟩:=hp j kv hj
  have hbs:=Heap.lt_size hob
  exact ⟨b,key,g1,Nat.ne_of_lt hbs,Nat.ne_of_lt (Nat.lt_trans hbs hds),⟨ob,Heap.get?_push_of_some _ (hk b ob (Heap.get?_push_of_some _ hob)),hr⟩,g3⟩
 ·refine ⟨rfl,h h' tk' hd' fun b ob hob=>?_⟩
  have hbs:=Heap.lt_size hob
  exact hk' b ob (Nat.ne_of_lt (Nat.lt_trans hbs hds)) (Nat.ne_of_lt hbs) (Heap.get?_push_of_some _ (hk b ob (Heap.get?_push_of_some _ hob)))
end
end PySem
namespace DL
open PySem PySem.Spec PyProof.Rows L2
section
variable {X:Cx} {E:XK} {m:Md} {e:Expr} {fe:Fn} {p pos:Pos} {x:Str}
def QcB (j:Nat) (fk fd:Fn):Fn:=fun δ=>match δ[j]? with
 | some (.own (.dic ks ds))=>(fk δ).bind fun k=>(match keyD k with
  | some q=>(fd δ).bind fun z=>.ok ((dGet ks ds q).getD z)
  | none=>.bad)
 | _=>.bad
theorem QoS (j:Nat) {px apos cpos:Pos} {i f:Expr} {fi ff:Fn} (hu:X.A.units + 64 < cLine) (hi:PE X i (tX X.K E .W fi)) (hf:PE X f (tX X.K E .S ff)) (hN:X.N[j]? = some x:=by rfl) (hv:Vis X.env.scope x:=by first | exact Or.inl rfl | exact Or.inr (Or.inl rfl) | exact Or.inr (Or.inr rfl)) (hd:(x == ("__debug__":Str))=false:=by decide)
  (hcd:(x == ("__classdict__":Str))=false:=by decide) (h:M2 X (.Name x px) "get" apos i f cpos:=by exact ⟨rfl,rfl,rfl,rfl⟩):PE X (.Call (.Attribute (.Name x px) "get" apos) [i,f] [] cpos) (tX X.K E .S (QcB j fi ff)) :=
 (Qm4 (by omega) (pv j hN hv hd hcd) hi hf h).imp fun σ H Q q=>by
 obtain ⟨c,δ,hK,ab,q⟩:=q
 unfold QcB at q
 cases e0:δ[j]? with
 | none=>rw [e0] at q;exact q.elim
 | some s =>
  rw [e0] at q
  cases s with
  | un=>exact q.elim
  | val d=>exact q.elim
  | own d =>
   cases d <;> first | exact q.elim | skip
   rename_i ks ds
   obtain ⟨a,o,g1,g2,g3,kvs,rfl,rfl,g4⟩:=ab.own j _ e0
   refine ⟨.ref a,g1,a,rfl,.inl ⟨kvs,.inl g2⟩,c,δ,hK,ab,(Res.bind q).imp fun dk _ k2 y H2 e2 r2=>?_⟩
   have r2':Rep c.K c.B H2 dk y:=r2
   cases ek:keyD dk with
   | none=>simp only [ek] at k2;exact k2.elim
   | some q' =>
    simp only [ek] at k2
    refine ⟨c,δ,hK,ab.grow e2,(Res.bind k2).imp fun dz _ k3 z H3 e3 r3=>?_⟩
    have r3':Rep c.K (Av c σ δ) H3 dz z:=r3
    have hv:=Qb4 (q:=q') ((g4.same e2).same e3)
    rw [QbP ek r2']
    refine ⟨_,DGet.k (e3 _ _ (e2 _ _ g2)),k3 _ H3 (e2.trans e3) ?_⟩
    show Rep c.K (Av c σ δ) H3 _ _
    cases eg:dGet (kvs.map (·.1)) ds q' with
    | none=>rw [eg] at hv;rw [show valV kvs q'=none from hv];exact r3'
    | some d' =>
     rw [eg] at hv
     obtain ⟨w',z1,z2⟩:=hv
     rw [z1];exact z2
theorem QjK (hc:X.calm=true):CallR X (.type "dict") (fun xs H Q=>∃ (p:Addr) (vs:List V) (kvs:List (Key×V)),xs=[.ref p]/\SqL X.K H p vs/\vs.length=kvs.length/\(∀ (i:Nat) (kv:Key×V),kvs[i]? = some kv->∃ b,vs[i]? = some (.ref b)/\SqT X.K H b [kV kv.1,kv.2])/\(kvs.map (·.1)).Nodup /\
  ∀ l,H l=none->Q (.ref l) (upd H l (.dK kvs))):=by
 intro pins s σ H xs us Q I r h
 obtain ⟨p,vs,kvs,rfl,hq,hlen,hp,hnd,q⟩:=h
 obtain ⟨u,rfl,rx⟩:=Qct r
 obtain rfl:u=Value.ref p:=rx
 obtain ⟨its,rv,⟨o,n,ho,hcl,hdn,hdat⟩,hz⟩:=I.list hq
 have hl:=rv.length
 obtain ⟨more,rel,hmore⟩:∃ more:List (Key×Value),KV kvs more/\∀ (j:Nat) (kv:Key×Value),more[j]? = some kv->∃ b key,its[j]? = some (.ref b)/\s.heap.IsTuple b #[key,kv.2]/\(QG X.prog X.w).is kv.1 key=true:=by
  have gen:∀ (kvs:List (Key×V)) (n:Nat),(∀ (i:Nat) (kv:Key×V),kvs[i]? = some kv->∃ b,vs[n + i]? = some (.ref b)/\SqT X.K H b [kV kv.1,kv.2])->∃ more:List (Key×Value),KV kvs more/\∀ (j:Nat) (kv:Key×Value),more[j]? = some kv->∃ b key,its[n + j]? = some (.ref b)/\s.heap.IsTuple b #[key,kv.2]/\(QG X.prog X.w).is kv.1 key=true:=by
   intro kvs
   induction kvs with
   | nil=>intro n _;exact ⟨[],.nil,fun j kv hj=>by simp at hj⟩
   | cons kv r ih =>
    intro n hp
    obtain ⟨b,hb,ht⟩:=hp 0 kv rfl
    obtain ⟨more,rel,hm⟩:=ih (n + 1) fun i kv hi=>by
     have:=hp (i + 1) kv (by simpa using hi)
     rwa [show n + (i + 1)=n + 1 + i by omega] at this
    obtain ⟨u,hu,ru⟩:=rv.get hb
    obtain rfl:u=Value.ref b:=ru
    obtain ⟨tis,tv,hT,_⟩:=I.tuple ht
    obtain ⟨key,t2,rfl,rk,tv2⟩:∃ key t2,tis=key::t2/\RelV (kV kv.1) key/\Vals [kv.2] t2:=by
     cases tv with
     | cons a b=>exact ⟨_,_,rfl,a,b⟩
    obtain ⟨val,rfl,rval⟩:=Qct tv2
    refine ⟨(kv.1,val)::more,.cons ⟨rfl,rval⟩ rel,fun j kv' hj=>?_⟩
    cases j with
    | zero =>
     cases hj
     exact ⟨b,key,hu,hT,QeB rk⟩
    | succ j =>
     obtain ⟨b',key',g1,g2,g3⟩:=hm j kv' (by simpa using hj)
     exact ⟨b',key',by rw [show n + (j + 1)=n + 1 + j by omega];exact g1,g2,g3⟩
  obtain ⟨more,rel,hm⟩:=gen kvs 0 fun i kv hi=>by rw [Nat.zero_add];exact hp i kv hi
  exact ⟨more,rel,fun j kv hj=>by have:=hm j kv hj;rwa [Nat.zero_add] at this⟩
 have hml:kvs.length=more.length:=rel.length
 have hkeys:more.map (·.1)=kvs.map (·.1):=by
  clear hmore hml hp hnd hlen q
  induction rel with
  | nil=>rfl
  | cons a b ih=>simp only [List.map_cons,ih,a.1]
 refine QeG (knd:=QG X.prog X.w) (items:=its.toArray) (more:=more) ho hcl hdat hdn (I.ok.hd hc) (by rw [List.size_toArray];omega) (by omega) (by rw [hkeys];exact hnd) (fun j kv hj=>?_) fun h' tk hd hk=>?_
 ·obtain ⟨b,key,g1,g2,g3⟩:=hmore j kv hj
  exact ⟨b,key,by simpa using g1,g2,g3⟩
 ·exact ⟨.ref s.heap.objs.size,_,I.laid (a:=s.heap.objs.size) (o:=.dK kvs) (t':=tk) hk (Nat.le_refl _) (Qja (by omega) (beq_eq_false_iff_ne.mpr (Ne.symm (Nat.ne_of_lt I.big))) rel hd),rfl,q _ (I.hok.fresh (Nat.le_refl _))⟩
def Qko:D->Option (Key×D)
 | .tup [k,v]=>(keyD k).map fun q=>(q,v)
 | _=>none
def Qcg:List D->Option (List (Key×D))
 | []=>some []
 | d::ds=>match Qko d,Qcg ds with
  | some p,some ps=>some (p::ps)
  | _,_=>none
def Qec:D->Ou D
 | .lst ds=>(match Qcg ds with
  | some ps=>if (ps.map (·.1)).Nodup then .ok (.dic (ps.map (·.1)) (ps.map (·.2))) else .bad
  | none=>.bad)
 | _=>.bad
theorem Qgv {K:W.Frag} {B:Addr->Prop} {H:Hp}:∀ {ds:List D} {ps:List (Key×D)} {vs:List V},Qcg ds=some ps->Reps K B H ds vs->∃ kvs:List (Key×V),kvs.map (·.1)=ps.map (·.1)/\Reps K B H (ps.map (·.2)) (kvs.map (·.2))/\vs.length=kvs.length/\∀ (i:Nat) (kv:Key×V),kvs[i]? = some kv->∃ b,vs[i]? = some (.ref b)/\SqT K H b [kV kv.1,kv.2]
 | [],ps,vs,hp,r=>by
  simp only [Qcg,Option.some.injEq] at hp
  subst hp
  simp only [Reps] at r
  subst r
  exact ⟨[],rfl,by simp [Reps],rfl,fun i kv h=>by simp at h⟩
 | d::ds,ps,vs,hp,r=>by
  simp only [Qcg] at hp
  simp only [Reps] at r
  obtain ⟨v,r',rfl,h1,h2⟩:=r
  cases e1:Qko d with
  | none=>rw [e1] at hp;cases hp
  | some p =>
   cases e2:Qcg ds with
   | none=>rw [e1,e2] at hp;cases hp
   | some ps' =>
    rw [e1,e2] at hp
    cases hp
    obtain ⟨kvs,g1,g2,g3,g4⟩:=Qgv e2 h2
    obtain ⟨k,dv,rfl,ek⟩:∃ k dv,d=.tup [k,dv]/\(keyD k).map (fun q=>(q,dv))=some p:=by
     unfold Qko at e1
     split at e1
     ·exact ⟨_,_,rfl,e1⟩
     ·cases e1
    cases ek':keyD k with
    | none=>rw [ek'] at ek;cases ek
    | some q =>
     rw [ek'] at ek
     cases ek
     simp only [Rep] at h1
     obtain ⟨b,ys,rfl,hs,hr⟩:=h1
     simp only [Reps] at hr
     obtain ⟨y1,r1,rfl,hy1,y2,r2,rfl,hy2,rfl⟩:=hr
     have hk:=QbP ek' hy1
     subst hk
     refine ⟨(q,y2)::kvs,by simp [g1],?_,by simp [g3],fun i kv hi=>?_⟩
     ·simp only [List.map_cons,Reps]
      exact ⟨y2,kvs.map (·.2),rfl,hy2,g2⟩
     ·cases i with
      | zero=>cases hi;exact ⟨b,rfl,hs⟩
      | succ i=>simpa using g4 i kv (by simpa using hi)
theorem Qo2 {fe:Fn} (hm:X.mg "dict" = none) (ha:PE X e (tX X.K E .S fe)) (hc:X.calm=true:=by rfl) (hg:Gl X "dict":=by rfl) (he:starEach [e] X.env=(false,eval e X.env)::starEach [] X.env:=by rfl) (hpl:(backTo pos (starEach ([]:List Expr) X.env)).any (·.1)=false:=by rfl) :
  PE X (.Call (.Name "dict" p) [e] [] pos) (tX X.K E .F (f1 Qec fe)) :=
 (Qc0 (QjK hc) hg hm (by decide +kernel) (Qae ha pa_nil he) (by decide) (by decide) he hpl).imp fun σ H Q q=>by
 obtain ⟨c,δ,hK,ab,q⟩:=q
 refine ⟨c,δ,hK,ab,(Res.bind q).imp fun d hd0 k v H1 e1 r1=>?_⟩
 have r1':Rep c.K (Av c σ δ) H1 d v:=r1
 cases d <;> first | exact k.elim | skip
 rename_i ds
 simp only [Rep] at r1'
 obtain ⟨a,vs,rfl,_,h1,h2⟩:=r1'
 simp only [Qec] at k
 cases ep:Qcg ds with
 | none=>rw [ep] at k;exact k.elim
 | some ps =>
  rw [ep] at k
  by_cases hn:(ps.map (·.1)).Nodup
  ·simp only [if_pos hn] at k
   obtain ⟨kvs,g1,g2,g3,g4⟩:=Qgv ep h2
   refine ⟨a,vs,kvs,rfl,.of h1,g3,fun i kv hi=>by rw [← hK];exact g4 i kv hi,by rw [g1];exact hn,fun l hl=>k (.ref l) _ (e1.trans (Qp hl _)) ?_⟩
   have:=Qmj (c:=c) (σ:=σ) (δ:=δ) e1 hl g2
   rw [g1] at this
   exact this
  ·simp only [if_neg hn] at k
   exact k.elim
end
end DL
namespace Tim
open PySem PyProof.Rows
def slt (x y:Str):Bool:=decide (x.cps.toList < y.cps.toList)
theorem slt_tot {a b:Str} (h1:slt a b=false) (h2:slt b a=false):a=b:=by
 have h1:=of_decide_eq_false h1
 have h2:=of_decide_eq_false h2
 have h3:a.cps.toList=b.cps.toList:=List.le_antisymm h2 h1
 obtain ⟨⟨a⟩⟩:=a
 obtain ⟨⟨b⟩⟩:=b
 simp only at h3
 rw [h3]
theorem slt_ord:Ord slt where
 irr a:=decide_eq_false (List.lt_irrefl _)
 tr:=fun h1 h2=>decide_eq_true (List.lt_trans (of_decide_eq_true h1) (of_decide_eq_true h2))
 neg:=fun h1 h2=>decide_eq_false (List.not_lt.mpr (List.le_trans (List.not_lt.mp (of_decide_eq_false h2)) (List.not_lt.mp (of_decide_eq_false h1))))
section
variable {prog:Program} {w:World} {A:Around} {E:Value->Shared->Prop} {s:Shared} {α:Type}
theorem sorted_src {T:String} {r d:Addr} {n:Nat} {P:Nat->Value->Prop} {OK:Heap->Prop} (K:W.KdlSrc prog w T r d n P OK) (hh:A.handled=none) (hok:OK s.heap) (hn:n < 64) {κ:SortKind} {k:Value->α} {lt:α->α->Bool} (O:Ord lt) {Q:Value->Shared->Prop}
  (prep:∀ (h':Heap) (us:List Value),(∀ b o,s.heap.get? b=some o->h'.get? b=some o)->ItemsOf P us.toArray n->∀ h2:Heap,(∀ b o,h'.get? b=some o->h2.get? b=some o)->∀ (A:Around) (tk:Nat),
   (2<=us.length->∀ (E:Value->Shared->Prop) (Q:SortKind->Shared->Prop),Q κ { s with heap:=h2,toks:=tk }->wpAny (model prog w) A (keyKind' us.toArray) Q E { s with heap:=h2,toks:=tk }) /\
   ∀ x,x∈us->∀ y,y∈us->∀ (E:Value->Shared->Prop) (Q:Bool->Shared->Prop),Q (lt (k x) (k y)) { s with heap:=h2,toks:=tk }->wpAny (model prog w) A (keyLt' κ x y) Q E { s with heap:=h2,toks:=tk })
  (h:∀ (h':Heap) (tk:Nat) (us:List Value) (out:Array Value),(∀ b o,s.heap.get? b=some o->h'.get? b=some o)->ItemsOf P us.toArray n->out.toList.Perm us->SB lt (out.toList.map k) ->
   Q (.ref h'.objs.size) { s with heap:=sortedHeap (h'.push { cls:=.type "list",data:=.seq us.toArray }) h'.objs.size us out,toks:=tk }):wpAny (model prog w) A (call (.builtin "sorted") [.ref r]) Q E s:=by
 refine Calls.call_function_entry kind_sorted plain_sorted entry_sorted (args_sorted1 _) ?_
 unfold Builtin.«sorted»
 refine wpAny_bind (m:=checkCount "sorted" 1 1 _) (wpAny_pure ?_)
 refine wpAny_bind (W.kdu_collect K (by exact hh) hok (by have:=sizeLine_eq;omega) fun h' tk acc hk hacc=>?_)
 have hal:acc.toList.length=n:=by rw [Array.length_toList];exact hacc.1
 refine wpAny_bind (wpAny_newList ?_ (by have:=sizeLine_eq;omega))
 have hoL:(h'.push { cls:=.type "list",data:=.seq acc.toList.toArray }).get? h'.objs.size=some (seqObj "list" acc.toList.toArray 0):=Heap.get?_push_size _ rfl
 have hacc':ItemsOf P acc.toList.toArray n:=by rw [Array.toArray_toList];exact hacc
 have kd:∀ b o,h'.get? b=some o->(QaT (h'.push { cls:=.type "list",data:=.seq acc.toList.toArray }) h'.objs.size acc.toList).get? b=some o:=fun b o q=>by
  have hlt:=Heap.lt_size q
  exact Heap.get?_push_of_some _ (Heap.get?_push_of_some _ ((Heap.get?_update_ne _ _ _ _ (Nat.ne_of_lt hlt)).trans (Heap.get?_push_of_some _ q)))
 refine wpAny_bind (wpAny_holding (wpAny_call_entry slot_list_sort ⟨_,hoL,rfl⟩ entry_list_sort (Qdl (κ:=κ) (ρ:=fun p=>((rank lt (acc.toList.map k) (k p.1):Nat):Int)) hoL (by omega)
  (fun h2 Q q=>(prep h' acc.toList hk hacc' _ kd _ tk).1 h2 _ Q q) (Qkv O fun x hx y hy E Q q=>(prep h' acc.toList hk hacc' _ kd _ tk).2 x hx y hy E Q q) fun out b1 b2=>⟨_,rfl,?_⟩) (args_list_sort _)))
 exact wpAny_pure ⟨_,rfl,h h' tk acc.toList out hk hacc' b1 (Qmt O b1 b2)⟩
end
end Tim
namespace Tim
open PySem PyProof.Rows
section
variable {prog:Program} {w:World} {A:Around} {E:Value->Shared->Prop} {s:Shared}
def NmAt (h:Heap) (v:Value) (x:Str):Prop:=∃ a o xs n t,v=.ref a/\h.get? a=some o/\o.cls=.type "tuple"/\o.data=.seq xs n/\xs[0]? = some (.str x t)
theorem NmAt.keep {h h':Heap} {v:Value} {x:Str} (k:∀ b o,h.get? b=some o->h'.get? b=some o) (n:NmAt h v x):NmAt h' v x:=by
 obtain ⟨a,o,xs,n,t,rfl,ho,r⟩:=n
 exact ⟨a,o,xs,n,t,rfl,k _ _ ho,r⟩
def nmOf (h:Heap):Value->Str
 | .ref a=>match h.get? a with
  | some o=>match o.data with
   | .seq xs _=>strOf (xs.getD 0 .none)
   | _=>""
  | none=>""
 | _=>""
theorem NmAt.nm {h:Heap} {v:Value} {x:Str} (n:NmAt h v x):nmOf h v=x:=by
 obtain ⟨a,o,xs,n,t,rfl,ho,hc,hd,hx⟩:=n
 have e:xs.getD 0 .none=.str x t:=by
  rw [Array.getD_eq_getD_getElem?,hx];rfl
 simp only [nmOf,ho,hd,e]
 rfl
theorem nm_lt {x y:Value} {p q:Str} {Q:Bool->Shared->Prop} (hx:NmAt s.heap x p) (hy:NmAt s.heap y q) (hne:p≠q) (h:Q (slt p q) s):wpAny (model prog w) A (keyLt' (tuples' true) x y) Q E s:=by
 obtain ⟨a,o,xs,n,t,rfl,ho,_,hd,h0⟩:=hx
 obtain ⟨b,o',ys,n',t',rfl,ho',_,hd',h0'⟩:=hy
 refine W.kat_lt ho hd ho' hd' ?_
 obtain ⟨x0,hx0⟩:∃ r,xs.toList=.str p t::r:=by
  cases e:xs.toList with
  | nil=>rw [← Array.getElem?_toList,e] at h0;cases h0
  | cons z r=>rw [← Array.getElem?_toList,e] at h0;cases h0;exact ⟨r,rfl⟩
 obtain ⟨y0,hy0⟩:∃ r,ys.toList=.str q t'::r:=by
  cases e:ys.toList with
  | nil=>rw [← Array.getElem?_toList,e] at h0';cases h0'
  | cons z r=>rw [← Array.getElem?_toList,e] at h0';cases h0';exact ⟨r,rfl⟩
 rw [hx0,hy0,List.zip_cons_cons]
 refine W.kat_cons (wpAny_eqBool_str (W.kat_go (fun e=>?_) (fun e=>?_)))
 ·exact absurd (by simpa using e) hne
 ·exact W.kat_no (oneLt_str h)
theorem kind_names {vs:List Value} (hS:∀ v,v∈vs->∃ x,NmAt s.heap v x) (h2:2<=vs.length) (Q:SortKind->Shared->Prop) (q:Q (tuples' true) s):wpAny (model prog w) A (keyKind' vs.toArray) Q E s:=by
 have gen:∀ vs:List Value,(∀ v,v∈vs->∃ x,NmAt s.heap v x)->∃ fs,W.KatTups s.heap vs fs/\fs.length=vs.length/\∀ f,f∈fs->∃ x t,f=Value.str x t:=by
  intro vs
  induction vs with
  | nil=>intro _;exact ⟨[],trivial,rfl,fun f hf=>by cases hf⟩
  | cons v r ih =>
   intro hS
   obtain ⟨x,a,o,xs,n,t,rfl,ho,hc,hd,h0⟩:=hS v List.mem_cons_self
   obtain ⟨fs,k1,k2,k3⟩:=ih fun v hv=>hS v (List.mem_cons_of_mem _ hv)
   refine ⟨.str x t::fs,W.KatTups.cons ho hc hd h0 k1,by simp [k2],fun f hf=>?_⟩
   rcases List.mem_cons.mp hf with rfl | hf
   ·exact ⟨_,_,rfl⟩
   ·exact k3 f hf
 obtain ⟨fs,k1,k2,k3⟩:=gen vs hS
 refine W.kat_kind (T:=Value.type "str") k1 (by omega) (fun v hv=>?_) rfl q
 obtain ⟨x,t,rfl⟩:=k3 v hv
 exact W.Looks.of_pure rfl
end
end Tim
namespace DL
open PySem PySem.Spec PyProof.Rows L2
section
variable {X:Cx} {E:XK} {m:Md} {e:Expr} {fe:Fn} {p pos:Pos} {x:Str}
def nmD:D->Option Str
 | .tup (.str x::_)=>some x
 | _=>none
def nmsD:List D->Option (List Str)
 | []=>some []
 | d::ds=>match nmD d,nmsD ds with
  | some x,some xs=>some (x::xs)
  | _,_=>none
def QcH (a b:D):Bool:=Tim.slt ((nmD a).getD "") ((nmD b).getD "")
def QfT (j:Nat):Fn:=fun δ=>match δ[j]? with
 | some (.own (.dic _ ds))=>(match nmsD ds with
  | some xs=>if xs.Nodup/\xs.length < 64 then .ok (.lst (Tim.srt QcH ds)) else .bad
  | none=>.bad)
 | _=>.bad
end
end DL
namespace Tim
open PySem PyProof.Rows
section
variable {α β:Type}
theorem same_on {lt:α->α->Bool}:∀ {r q:List α},(∀ a,a∈r->∀ b,b∈r->lt a b=false->lt b a=false->a=b)->r.Perm q->SB lt r->SB lt q->r=q
 | [],q,_,hp,_,_=>hp.nil_eq
 | x::r,[],_,hp,_,_=>by have:=hp.length_eq;simp at this
 | x::r,y::q,T,hp,hr,hq=>by
  obtain ⟨r1,r2⟩:=List.pairwise_cons.mp hr
  obtain ⟨q1,q2⟩:=List.pairwise_cons.mp hq
  have e:x=y:=by
   rcases List.mem_cons.mp (hp.mem_iff.mp (List.mem_cons_self ..)) with h | h
   ·exact h
   ·rcases List.mem_cons.mp (hp.mem_iff.mpr (List.mem_cons_self ..)) with h' | h'
    ·exact h'.symm
    ·exact T x List.mem_cons_self y (List.mem_cons_of_mem _ h') (q1 x h) (r1 y h')
  subst e
  rw [same_on (fun a ha b hb=>T a (List.mem_cons_of_mem _ ha) b (List.mem_cons_of_mem _ hb)) hp.cons_inv r2 q2]
theorem Qit {lt:α->α->Bool} {lt':β->β->Bool} {f:α->β} (h:∀ a b,lt' (f a) (f b)=lt a b) (x:α):∀ r:List α,insB lt' (f x) (r.map f)=(insB lt x r).map f
 | []=>rfl
 | y::r=>by
  simp only [List.map_cons,insB,h]
  split
  ·rw [List.map_cons,Qit h x r]
  ·rfl
theorem srt_map {lt:α->α->Bool} {lt':β->β->Bool} {f:α->β} (h:∀ a b,lt' (f a) (f b)=lt a b):∀ r:List α,srt lt' (r.map f)=(srt lt r).map f
 | []=>rfl
 | x::r=>by
  simp only [List.map_cons,srt]
  rw [srt_map h r,Qit h]
end
section
variable {prog:Program} {w:World} {A:Around} {E:Value->Shared->Prop} {s:Shared}
theorem Qiq {v:Value} {Q:Bool->Shared->Prop} (h:Q true s):wpAny (model prog w) A (eqBool v v) Q E s:=by
 unfold eqBool
 refine wpAny_holding ?_
 rw [if_pos (by simp)]
 exact wpAny_bind (wpAny_rule (wpAny_pure h))
theorem Qic {b:Bool} {Q:Bool->Shared->Prop} (h:Q false s):∀ (l:List Value) (i:Nat),W.KatLex prog w A b false Q (l.zip l) i s
 | [],i=>W.kat_nil h
 | v::l,i=>W.kat_cons (Qiq (W.kat_yes (Qic h l (i + 1))))
theorem nm_le {x y:Value} {p q:Str} {Q:Bool->Shared->Prop} (hx:NmAt s.heap x p) (hy:NmAt s.heap y q) (hs:p=q->x=y) (h:Q (slt p q) s):wpAny (model prog w) A (keyLt' (tuples' true) x y) Q E s:=by
 by_cases hne:p=q
 ·have:=hs hne
  subst this
  subst hne
  rw [slt_ord.irr] at h
  obtain ⟨a,o,xs,n,t,rfl,ho,_,hd,h0⟩:=hx
  refine W.kat_lt ho hd ho hd ?_
  rw [decide_eq_false (Nat.lt_irrefl _)]
  exact Qic h _ _
 ·exact nm_lt hx hy hne h
end
end Tim
namespace DL
open PySem PySem.Spec PyProof.Rows L2
section
variable {X:Cx} {E:XK} {m:Md} {e:Expr} {fe:Fn} {p pos:Pos} {x:Str}
theorem QoZ {kvs:List (Key×V)} {vs:List (Key×Value)} (r:KV kvs vs):∀ {j:Nat} {k:Key} {x:Value},vs[j]? = some (k,x)->∃ v,kvs[j]? = some (k,v)/\RelV v x:=by
 induction r with
 | nil=>intro j k x h;simp at h
 | @cons a b ra rb h t ih =>
  intro j k x hj
  cases j with
  | zero =>
   cases hj
   exact ⟨a.2,by obtain ⟨a1,a2⟩:=a;have e:a1=_:=h.1;subst e;rfl,h.2⟩
  | succ j=>simpa using ih (by simpa using hj)
theorem Qkf:∀ {ds:List D} {xs:List Str},nmsD ds=some xs->∀ (i:Nat) (d:D),ds[i]? = some d->∃ y r,d=.tup (.str y::r)/\xs[i]? = some y
 | [],xs,h,i,d,hd=>by simp at hd
 | d0::ds,xs,h,i,d,hd=>by
  simp only [nmsD] at h
  cases e1:nmD d0 with
  | none=>rw [e1] at h;cases h
  | some y =>
   cases e2:nmsD ds with
   | none=>rw [e1,e2] at h;cases h
   | some ys =>
    rw [e1,e2] at h
    cases h
    cases i with
    | zero =>
     cases hd
     unfold nmD at e1
     split at e1
     ·cases e1;exact ⟨_,_,rfl,rfl⟩
     ·cases e1
    | succ i=>simpa using Qkf e2 i d (by simpa using hd)
theorem Qj5:∀ {ds:List D} {xs:List Str},nmsD ds=some xs->xs.length=ds.length
 | [],xs,h=>by cases h;rfl
 | d0::ds,xs,h=>by
  simp only [nmsD] at h
  cases e1:nmD d0 with
  | none=>rw [e1] at h;cases h
  | some y =>
   cases e2:nmsD ds with
   | none=>rw [e1,e2] at h;cases h
   | some ys=>rw [e1,e2] at h;cases h;simp [Qj5 e2]
theorem QhL {pins:List (Addr×Obj)} {s:Shared} {σ:St} {H:Hp} {Q:VK} {B:Addr->Prop} {v a:Addr} {kvs:List (Key×V)} {ds:List D} {ns:List Str} (hc:X.calm=true) (I:Inv X pins σ H s) (hv:s.heap.IsValuesView v a) (ha:H a=some (.dK kvs)) (hr:Reps X.K B H ds (kvs.map (·.2))) (hn:nmsD ds=some ns) (hnd:ns.Nodup) (hl:ns.length < 64)
  (q:∀ l ys,H l=none->Reps X.K B H (Tim.srt QcH ds) ys->Q (.ref l) (upd H l (.lst ys))):wpAny (model X.prog X.w) X.A (call (.builtin "sorted") [.ref v]) (EP X pins σ Q) X.xe s:=by
 obtain ⟨hz,lo,vs,rel,dd⟩:=Qid I.hok ha
 obtain ⟨ep,hat⟩:=dd.dictAt
 have hkl:=rel.length
 have hdl:kvs.length=ds.length:=by have:=hr.length;rw [List.length_map] at this;exact this
 have hnl:=Qj5 hn
 have place:∀ (i:Nat) (k:Key) (u:Value),vs[i]? = some (k,u)->∃ d y n,ds[i]? = some d/\ns[i]? = some n/\nmD d=some n/\Rep X.K B H d y/\RelV y u/\Tim.NmAt s.heap u n:=fun i k u hi=>by
  have hi':i < ds.length:=by
   have:=(List.getElem?_eq_some_iff.mp hi).1
   omega
  obtain ⟨n,r,e1,e2⟩:=Qkf hn i ds[i] (List.getElem?_eq_getElem hi')
  obtain ⟨y,hy,ry⟩:=hr.get i ds[i] (List.getElem?_eq_getElem hi')
  obtain ⟨y',ek,rv⟩:=QoZ rel hi
  rw [List.getElem?_map,ek] at hy
  cases hy
  refine ⟨ds[i],y',n,List.getElem?_eq_getElem hi',e2,by rw [e1];rfl,ry,rv,?_⟩
  rw [e1] at ry
  simp only [Rep] at ry
  obtain ⟨b,zs,e3,hs,hz⟩:=ry
  rw [e3] at rv
  obtain rfl:u=Value.ref b:=rv
  simp only [Reps] at hz
  obtain ⟨z1,r1,rfl,hz1,_⟩:=hz
  simp only [Rep] at hz1
  subst hz1
  obtain ⟨its,vv,⟨o,ho,hcl,m,hd⟩,_⟩:=I.tuple hs
  cases vv with
  | cons a b =>
   obtain ⟨t,rfl⟩:=a
   exact ⟨_,o,_,m,t,rfl,ho,hcl,hd,rfl⟩
 obtain ⟨z,hz1,hz2,hz3,hz4⟩:∃ z:List (D×V×Value),z.map (·.1)=ds/\z.map (fun t=>t.2.2)=vs.map (·.2)/\(z.map fun t=>(nmD t.1).getD "")=ns/\∀ t∈z,Rep X.K B H t.1 t.2.1/\RelV t.2.1 t.2.2/\Tim.NmAt s.heap t.2.2 ((nmD t.1).getD ""):=by
  have gen:∀ (vs':List (Key×Value)) (n:Nat),(∀ (i:Nat) (kv:Key×Value),vs'[i]? = some kv->vs[n + i]? = some kv)->∃ z:List (D×V×Value),z.length=vs'.length/\z.map (fun t=>t.2.2)=vs'.map (·.2)/\(∀ (i:Nat) (t:D×V×Value),z[i]? = some t->ds[n + i]? = some t.1/\ns[n + i]? = some ((nmD t.1).getD ""))/\∀ t∈z,Rep X.K B H t.1 t.2.1/\RelV t.2.1 t.2.2/\Tim.NmAt s.heap t.2.2 ((nmD t.1).getD ""):=by
   intro vs'
   induction vs' with
   | nil=>intro n _;exact ⟨[],rfl,rfl,fun i t h=>by simp at h,fun t ht=>by cases ht⟩
   | cons kv r ih =>
    intro n hsub
    obtain ⟨d,y,nm,g1,g2,g3,g4,g5,g6⟩:=place n kv.1 kv.2 (hsub 0 kv rfl)
    obtain ⟨z,l1,l2,l3,l4⟩:=ih (n + 1) fun i kv hi=>by
     have:=hsub (i + 1) kv (by simpa using hi)
     rwa [show n + (i + 1)=n + 1 + i by omega] at this
    refine ⟨(d,y,kv.2)::z,by simp [l1],by simp [l2],fun i t ht=>?_,fun t ht=>?_⟩
    ·cases i with
     | zero=>cases ht;exact ⟨g1,by rw [g3];exact g2⟩
     | succ i =>
      have:=l3 i t (by simpa using ht)
      rw [show n + (i + 1)=n + 1 + i by omega]
      exact this
    ·rcases List.mem_cons.mp ht with rfl | ht
     ·exact ⟨g4,g5,by rw [g3];exact g6⟩
     ·exact l4 t ht
  obtain ⟨z,l1,l2,l3,l4⟩:=gen vs 0 fun i kv hi=>by rw [Nat.zero_add];exact hi
  refine ⟨z,?_,l2,?_,l4⟩
  ·refine List.ext_getElem? fun i=>?_
   rw [List.getElem?_map]
   cases ei:z[i]? with
   | none =>
    have:=List.getElem?_eq_none_iff.mp ei
    rw [List.getElem?_eq_none (by omega)];rfl
   | some t=>have:=(l3 i t ei).1;rw [Nat.zero_add] at this;rw [this];rfl
  ·refine List.ext_getElem? fun i=>?_
   rw [List.getElem?_map]
   cases ei:z[i]? with
   | none =>
    have:=List.getElem?_eq_none_iff.mp ei
    rw [List.getElem?_eq_none (by omega)];rfl
   | some t=>have:=(l3 i t ei).2;rw [Nat.zero_add] at this;rw [this];rfl
 have hnz:(z.map fun t=>(nmD t.1).getD "").Nodup:=by rw [hz3];exact hnd
 have apart:∀ a,a∈z->∀ b,b∈z->(nmD a.1).getD "" = (nmD b.1).getD ""->a=b:=fun a ha b hb e=>by
  obtain ⟨i,hi,rfl⟩:=List.getElem_of_mem ha
  obtain ⟨j,hj,rfl⟩:=List.getElem_of_mem hb
  have le:∀ (i j:Nat) (hi:i < z.length) (hj:j < z.length),(nmD z[i].1).getD "" = (nmD z[j].1).getD ""->¬ i < j:=fun i j hi hj e hlt=>by
   have:=List.pairwise_iff_getElem.mp hnz i j (by rw [List.length_map];exact hi) (by rw [List.length_map];exact hj) hlt
   simp only [List.getElem_map] at this
   exact this e
  have h1:=le i j hi hj e
  have h2:=le j i hj hi e.symm
  have:i=j:=by omega
  subst this;rfl
 have items:∀ us:List Value,ItemsOf (fun i v=>∃ k,vs[i]? = some (k,v)) us.toArray vs.length->us=z.map fun t=>t.2.2:=fun us hI=>by
  rw [hz2]
  have hal:us.length=vs.length:=by have:=hI.1;simpa using this
  refine List.ext_getElem? fun i=>?_
  rw [List.getElem?_map]
  cases ei:us[i]? with
  | none =>
   have:=List.getElem?_eq_none_iff.mp ei
   rw [List.getElem?_eq_none (by omega)];rfl
  | some v =>
   obtain ⟨k,hk⟩:=hI.2 i v (by simpa using ei)
   rw [hk];rfl
 refine Tim.sorted_src (κ:=tuples' true) (k:=Tim.nmOf s.heap) (lt:=Tim.slt) (W.kdl_values (knd:=QG X.prog X.w) (kvs:=vs) (ep:=ep)) (I.ok.hd hc) ⟨hv,hat⟩ (by omega) Tim.slt_ord (fun h' us hk hI h2 hk2 A tk=>?_) fun h' tk us out hk hI hp' hs=>?_
 ·have e:=items us hI
  subst e
  have at2:∀ t∈z,Tim.NmAt h2 t.2.2 ((nmD t.1).getD ""):=fun t ht=>(hz4 t ht).2.2.keep fun b o q=>hk2 b o (hk b o q)
  refine ⟨fun l2 E Q q=>Tim.kind_names (s:={ s with heap:=h2,toks:=tk }) (fun v hv=>?_) l2 Q q,fun x hx y hy E Q q=>?_⟩
  ·obtain ⟨t,ht,rfl⟩:=List.mem_map.mp hv
   exact ⟨_,at2 t ht⟩
  ·obtain ⟨t,ht,rfl⟩:=List.mem_map.mp hx
   obtain ⟨t',ht',rfl⟩:=List.mem_map.mp hy
   rw [(hz4 t ht).2.2.nm,(hz4 t' ht').2.2.nm] at q
   exact Tim.nm_le (s:={ s with heap:=h2,toks:=tk }) (at2 t ht) (at2 t' ht') (fun e=>by rw [apart t ht t' ht' e]) q
 ·have e:=items us hI
  subst e
  obtain ⟨z',hp2,hm⟩:=Tim.perm_lift (fun t:D×V×Value=>t.2.2) hp' (zs:=z) rfl
  have inz:∀ t,t∈z'->t∈z:=fun t ht=>hp2.mem_iff.mp ht
  have hs':Tim.SB (fun a b:D×V×Value=>QcH a.1 b.1) z':=by
   have hs2:(out.toList.map (Tim.nmOf s.heap)).Pairwise fun a b=>Tim.slt b a=false:=hs
   rw [← hm,List.map_map,List.pairwise_map] at hs2
   refine hs2.imp_of_mem fun {a b} ha hb hab=>?_
   simp only [Function.comp] at hab
   rw [(hz4 a (inz a ha)).2.2.nm,(hz4 b (inz b hb)).2.2.nm] at hab
   exact hab
  have byO:Tim.Ord (fun a b:D×V×Value=>QcH a.1 b.1):=⟨fun a=>Tim.slt_ord.irr _,fun h1 h2=>Tim.slt_ord.tr h1 h2,fun h1 h2=>Tim.slt_ord.neg h1 h2⟩
  have ez:z'=Tim.srt (fun a b:D×V×Value=>QcH a.1 b.1) z:=Tim.same_on (fun a ha b hb h1 h2=>apart a (inz a ha) b (inz b hb) (Tim.slt_tot h1 h2)) (hp2.trans (Tim.srt_perm _ _).symm) hs' (Tim.srt_sorted byO _)
  have ed:z'.map (·.1)=Tim.srt QcH ds:=by
   rw [ez,← hz1]
   exact (Tim.srt_map (f:=fun t:D×V×Value=>t.1) (fun a b=>rfl) z).symm
  have hoL:(h'.push { cls:=.type "list",data:=.seq (z.map fun t=>t.2.2).toArray }).get? h'.objs.size=some (seqObj "list" (z.map fun t=>t.2.2).toArray 0):=Heap.get?_push_size _ rfl
  obtain ⟨c,hat2⟩:=sortedHeap_at (out:=out) hoL
  have I1:Inv X pins σ H { s with heap:=h',toks:=tk }:=I.kept hk
  have kp:∀ b o',h'.get? b=some o'->(sortedHeap (h'.push { cls:=.type "list",data:=.seq (z.map fun t=>t.2.2).toArray }) h'.objs.size (z.map fun t=>t.2.2) out).get? b=some o':=fun b o' hb'=>by
   have hlt:=Heap.lt_size hb'
   rw [sortedHeap_old (Nat.ne_of_lt hlt) (by rw [size_push'];exact Nat.lt_succ_of_lt hlt)]
   exact Heap.get?_push_of_some _ hb'
  have rl:∀ l:List (D×V×Value),(∀ t∈l,t∈z)->Vals (l.map fun t=>t.2.1) (l.map fun t=>t.2.2)/\Reps X.K B H (l.map (·.1)) (l.map fun t=>t.2.1):=by
   intro l
   induction l with
   | nil=>intro _;exact ⟨.nil,by simp [Reps]⟩
   | cons t r ih =>
    intro hl
    have h1:=hz4 t (hl t List.mem_cons_self)
    have h2:=ih fun t ht=>hl t (List.mem_cons_of_mem _ ht)
    refine ⟨.cons h1.2.1 h2.1,?_⟩
    simp only [List.map_cons,Reps]
    exact ⟨_,_,rfl,h1.1,h2.2⟩
  obtain ⟨hv1,hr1⟩:=rl z' inz
  rw [hm] at hv1
  rw [ed] at hr1
  have hzl:z'.length<=sizeLine:=by
   have h1:=hp2.length_eq
   have h2:=congrArg List.length hz1
   rw [List.length_map] at h2
   have:=sizeLine_eq
   omega
  exact ⟨.ref h'.objs.size,_,I1.laid (t':=tk) kp (Nat.le_refl _) (show ObjOk X.prog X.w _ _ _ (.lst _) from ⟨by rw [List.length_map];exact hzl,out.toList,c,hv1,hat2⟩),rfl,q _ _ (I1.hok.fresh (Nat.le_refl _)) hr1⟩
end
section
variable {X:Cx} {E:XK} {p px pos apos cpos:Pos} {x:Str}
def Qo3 (K:W.Frag) (j:Nat):TE:=fun σ H Q=>∃ (a:Addr) (kvs:List (Key×V)) (B:Addr->Prop) (ds:List D) (ns:List Str),σ[j]? = some (some (.ref a))/\H a=some (.dK kvs)/\Reps K B H ds (kvs.map (·.2))/\nmsD ds=some ns/\ns.Nodup/\ns.length < 64 /\
 ∀ l ys,H l=none->Reps K B H (Tim.srt QcH ds) ys->Q (.ref l) (upd H l (.lst ys))
theorem Qmu (j:Nat) (hc:X.calm=true) (hm:X.mg "sorted" = none) (hN:X.N[j]? = some x) (hv:Vis X.env.scope x) (hd:(x == ("__debug__":Str))=false) (hcd:(x == ("__classdict__":Str))=false) (hg:Gl X "sorted")
  (hbase:attributeBase (.Name x px) "values" X.env (eval (.Name x px) X.env)=eval (.Name x px) X.env) (hline:(apos.endLine == cpos.line)=true)
  (he:starEach [.Call (.Attribute (.Name x px) "values" apos) [] [] cpos] X.env=(false,eval (.Call (.Attribute (.Name x px) "values" apos) [] [] cpos) X.env)::starEach [] X.env) (he0:starEach ([]:List Expr) X.env=[]) :
  PE X (.Call (.Name "sorted" p) [.Call (.Attribute (.Name x px) "values" apos) [] [] cpos] [] pos) (Qo3 X.K j):=by
 intro pins s σ H Q I h
 obtain ⟨a,kvs,B,ds,ns,g1,g2,g3,g4,g5,g6,q⟩:=h
 refine wpAny_Call_Name_kw (QcL I hg hm (by decide +kernel:bootBuiltins "sorted" = some (.builtin "sorted")) ?_ (by decide) (by decide))
 refine PyProof.Rows.callWith_builtin1 ?_ he (by rw [he0];rfl)
 rw [he]
 show wpAny _ _ (spliced ((false,eval (.Call (.Attribute (.Name x px) "values" apos) [] [] cpos) X.env)::backTo pos (starEach [] X.env))) _ _ s
 refine Calls.spliced_cons ?_
 refine wpAny_Call_method0_late hbase hline (thn (pv j hN hv hd hcd pins s σ H (fun v H1=>v=.ref a/\H1=H) I ⟨_,g1,rfl,rfl⟩) fun v s1 ⟨x1,H1,I1,r1,e1,e2⟩=>?_)
 subst e1
 subst e2
 obtain rfl:v=Value.ref a:=r1
 obtain ⟨hz,lo,vs,rel,dd⟩:=Qid I1.hok g2
 refine ⟨"dict","dict.values",PySem.F.plainAttrs_dict,PySem.F.slot_dict_values,PySem.F.type_dict_values,dd.typeIs,?_,Calls.callWith_builtin rfl (PySem.evalArgs_none (call_meetsIn PySem.F.slot_dict_values dd.typeIs PySem.F.entry_dict_values (PySem.F.args_dict_values_1 _) (meets_dict_values (QG X.prog X.w) a lo) ⟨⟨vs,dd⟩,?_⟩))⟩
 ·exact (QjE I1 (show RelV (.ref a) (.ref a) from rfl) (show tyV X.K "dict" (.ref a) H1 from .inr (.inr (.inl ⟨rfl,.inl ⟨kvs,g2⟩⟩)))).2
 ·rw [he0]
  refine Calls.spliced_nil ?_
  have I2:Inv X pins σ H1 { s1 with heap:=s1.heap.push { cls:=.type "dict_values",data:=.fields #[.ref a] } }:=I1.kept (t':=s1.toks) fun b o q=>Heap.get?_push_of_some _ q
  exact QhL hc I2 ⟨_,Heap.get?_push_size _ rfl,rfl,rfl⟩ g2 g3 g4 g5 g6 q
theorem QpE (j:Nat) (hm:X.mg "sorted" = none) (hN:X.N[j]? = some x:=by rfl) (hv:Vis X.env.scope x:=by first | exact Or.inl rfl | exact Or.inr (Or.inl rfl) | exact Or.inr (Or.inr rfl)) (hd:(x == ("__debug__":Str))=false:=by decide) (hcd:(x == ("__classdict__":Str))=false:=by decide) (hc:X.calm=true:=by rfl) (hg:Gl X "sorted":=by rfl)
  (hbase:attributeBase (.Name x px) "values" X.env (eval (.Name x px) X.env)=eval (.Name x px) X.env:=by rfl) (hline:(apos.endLine == cpos.line)=true:=by rfl)
  (he:starEach [.Call (.Attribute (.Name x px) "values" apos) [] [] cpos] X.env=(false,eval (.Call (.Attribute (.Name x px) "values" apos) [] [] cpos) X.env)::starEach [] X.env:=by rfl) (he0:starEach ([]:List Expr) X.env=[]:=by rfl) :
  PE X (.Call (.Name "sorted" p) [.Call (.Attribute (.Name x px) "values" apos) [] [] cpos] [] pos) (tX X.K E .F (QfT j)) :=
 (Qmu j hc hm hN hv hd hcd hg hbase hline he he0).imp fun σ H Q q=>by
 obtain ⟨c,δ,hK,ab,q⟩:=q
 unfold QfT at q
 cases e0:δ[j]? with
 | none=>rw [e0] at q;exact q.elim
 | some s =>
  rw [e0] at q
  cases s with
  | un=>exact q.elim
  | val d=>exact q.elim
  | own d =>
   cases d <;> first | exact q.elim | skip
   rename_i ks ds
   obtain ⟨a,o,g1,g2,g3,kvs,rfl,rfl,g4⟩:=ab.own j _ e0
   simp only at q
   cases en:nmsD ds with
   | none=>rw [en] at q;exact q.elim
   | some ns =>
    rw [en] at q
    by_cases hn:ns.Nodup/\ns.length < 64
    ·simp only [if_pos hn] at q
     refine ⟨a,kvs,Av c σ δ,ds,ns,g1,g2,by rw [← hK];exact g4,en,hn.1,hn.2,fun l ys hl hr=>q (.ref l) _ (Qp hl _) ⟨l,_,rfl,hl,Qm,ys,rfl,?_⟩⟩
     rw [← hK] at hr
     exact (Reps.off hr hl).same (Qp hl _)
    ·simp only [if_neg hn] at q
     exact q.elim
end
section
variable {X:Cx} {E:XK} {fr:Rm} {x y:Str} {pos:Pos} {ga:DS->Ou Bool} {fe:Fn}
end
section
variable {K:W.Frag} {B:Addr->Prop} {H:Hp}
end
section
variable {X:Cx} {E:XK} {m:Md} {e o:Expr} {fe fo:Fn} {pos p:Pos} {fr:Rm} {x:Str} {es:List Expr} {fs:List Fn}
end
section
variable {X:Cx} {E:XK} {fr:Bool} {x:Str} {pos:Pos} {F:Sm}
def Itd (a:Addr) (o:Obj) (kvs:List (Key×V)):It :=
 ⟨fun i H=>H a=some (.frz o (.dK kvs))/\i < kvs.length,fun i H x H'=>H'=H/\∃ k,(kvs.map (·.1))[i]? = some k/\x=kV k,fun i H=>H a=some (.frz o (.dK kvs))/\kvs.length<=i⟩
theorem Qj8 {P:Program} {w:World} {H:Hp} {h:Heap} {a:Addr} {o:Obj} {es:Array DictEntry} {ep:Nat} {kvs:List (Key×V)} (hd:o.data=.dict es ep) (ok:HOk P w H h) (e:H a=some (.frz o (.dK kvs))):∃ vs,KV kvs vs/\h.DictAt (QG P w) a vs ep:=by
 obtain ⟨ho,_,_,vs,rel,dd⟩:=(show ObjOk P w H h a (.frz o (.dK kvs)) from ok a _ e)
 obtain ⟨ep',o',es',q1,q2,q3,q4⟩:=dd.dictAt
 rw [ho] at q1;cases q1
 rw [hd] at q3;cases q3
 exact ⟨vs,rel,o,es,ho,q2,hd,q4⟩
theorem Qlu {P:Program} {w:World} {K:W.Frag} {tg:Expr} {a it:Addr} {o:Obj} {es:Array DictEntry} {ep:Nat} {kvs:List (Key×V)} (hd:o.data=.dict es ep):Turn P w K tg (Itd a o kvs) [it] it (fun i h=>h.IsKeyIter it a i kvs.length ep) where
 mem:=by simp
 obj:=fun i h st b hb=>by
  have e:b=it:=by simpa using hb
  subst e
  obtain ⟨o,e,c,d⟩:=st
  exact ⟨o,e,fun v z=>by rw [d] at z;cases z⟩
 keep:=fun i h h' st k=>st.at fun o e=>k it (by simp) o e
 item:=by
  intro X hP hw hK hc i pins s σ H E I hf st hg
  subst hP hw hK
  obtain ⟨hg1,hg2⟩:=hg
  obtain ⟨vs,rel,hat⟩:=Qj8 hd I.hok hg1
  have hl:kvs.length=vs.length:=rel.length
  have hi:i < vs.length:=by lia
  obtain ⟨f0,f1,f2,f3,f4,f5⟩:=hf it (by simp)
  rw [hl] at st
  refine wpAny_pyNext_dict_item st hat (k:=vs[i].1) (v:=vs[i].2) (by simp [hi]) fun key h' hkey st' sb=>?_
  have I1:Inv X pins σ H { s with heap:=h' }:=I.turned (t':=s.toks) (fun b o hb e=>(sb.2 b hb).trans e) f0 f1 f3 f4 f5
  obtain ⟨o',e,c,d⟩:=id st'
  rw [← hl] at st'
  have hk1:(kvs.map (·.1))[i]? = some vs[i].1:=Qmy rel (x:=vs[i].2) (by simp [hi])
  exact ⟨key,rfl,Qia (s:={ s with heap:=h' }) e c d (by decide) ⟨kV vs[i].1,H,I1,QkE hkey,⟨rfl,vs[i].1,hk1,rfl⟩,st',fun b hb=>(hf b hb).1⟩⟩
 done:=by
  intro X hP hw hK hc i pins s σ H E I hf st hg
  subst hP hw hK
  obtain ⟨hg1,hg2⟩:=hg
  obtain ⟨vs,rel,hat⟩:=Qj8 hd I.hok hg1
  have hl:kvs.length=vs.length:=rel.length
  obtain ⟨f0,f1,f2,f3,f4,f5⟩:=hf it (by simp)
  rw [hl] at st
  exact wpAny_pyNext_dict_end (I.ok.hd hc) st hat (List.getElem?_eq_none (by lia)) fun h' eb=>⟨rfl,I.turned (t':=s.toks) (fun b o hb e=>eb b o hb e) f0 f1 f3 f4 f5⟩
 self:=fun _ _ _ _ _ st h=>wpAny_pyIter_keyiter st h
end
end DL
namespace Bt
theorem b2 (a b:Nat) (ha:a < 2) (hb:b < 2):(a ||| b)=(a ^^^ b) + (a &&& b):=by
 have h1:a=0\/a=1:=by lia
 have h2:b=0\/b=1:=by lia
 rcases h1 with rfl | rfl <;> rcases h2 with rfl | rfl <;> rfl
theorem or_xor_and:∀ (x y:Nat),(x ||| y)=(x ^^^ y) + (x &&& y):=by
 intro x
 induction x using Nat.strongRecOn with
 | _ x ih =>
  intro y
  by_cases hx:x=0
  ·subst hx;simp
  ·have h:=ih (x / 2) (by lia) (y / 2)
   have e1:(x ||| y) / 2=x / 2 ||| y / 2:=Nat.or_div_two
   have e2:(x ^^^ y) / 2=x / 2 ^^^ y / 2:=Nat.xor_div_two
   have e3:(x &&& y) / 2=x / 2 &&& y / 2:=Nat.and_div_two
   have m1:(x ||| y) % 2=x % 2 ||| y % 2:=Nat.or_mod_two_pow (n:=1)
   have m2:(x ^^^ y) % 2=x % 2 ^^^ y % 2:=Nat.xor_mod_two_pow (n:=1)
   have m3:(x &&& y) % 2=x % 2 &&& y % 2:=Nat.and_mod_two_pow (n:=1)
   rw [← e1,← e2,← e3] at h
   have b:=b2 (x % 2) (y % 2) (by lia) (by lia)
   rw [← m1,← m2,← m3] at b
   lia
theorem QcG {a b:Nat} (h:a ^^^ b=0):a=b:=by
 refine Nat.eq_of_testBit_eq fun i=>?_
 have:(a ^^^ b).testBit i=false:=by rw [h];simp
 rw [Nat.testBit_xor] at this
 simpa using this
def bits (z:Nat):Nat:=if z=0 then 0 else z.log2 + 1
theorem Qoa (z:Nat):z < 2 ^ bits z:=by
 unfold bits
 by_cases h:z=0
 ·rw [if_pos h,h];simp
 ·rw [if_neg h];exact Nat.lt_log2_self
theorem bits_le {z k:Nat} (h:z < 2 ^ k):bits z<=k:=by
 unfold bits
 by_cases h0:z=0
 ·rw [if_pos h0];lia
 ·rw [if_neg h0]
  have:=(Nat.log2_lt h0).mpr h
  lia
theorem QhP {f l:Nat}:f / 2 ^ bits (f ^^^ l)=l / 2 ^ bits (f ^^^ l):=by
 refine QcG ?_
 rw [← Nat.xor_div_two_pow]
 exact Nat.div_eq_of_lt (Qoa _)
theorem half {f l:Nat} (h:f<=l) (hz:f ^^^ l≠0):∃ m q,bits (f ^^^ l)=m + 1/\f / 2 ^ (m + 1)=q/\f < q * 2 ^ (m + 1) + 2 ^ m/\q * 2 ^ (m + 1) + 2 ^ m<=l:=by
 have hb:bits (f ^^^ l)=(f ^^^ l).log2 + 1:=by unfold bits;rw [if_neg hz]
 refine ⟨(f ^^^ l).log2,f / 2 ^ ((f ^^^ l).log2 + 1),hb,rfl,?_⟩
 have hs:=QhP (f:=f) (l:=l)
 rw [hb] at hs
 generalize hm:(f ^^^ l).log2=m at hs
 have hne:f / 2 ^ m≠l / 2 ^ m:=by
  intro e
  have:(f ^^^ l) / 2 ^ m=0:=by rw [Nat.xor_div_two_pow,e];simp
  have h1:2 ^ m<=f ^^^ l:=by rw [← hm];exact Nat.log2_self_le hz
  have:=Nat.div_pos h1 (Nat.two_pow_pos m)
  lia
 have hle:f / 2 ^ m<=l / 2 ^ m:=Nat.div_le_div_right h
 rw [Nat.pow_succ,← Nat.div_div_eq_div_mul,← Nat.div_div_eq_div_mul] at hs
 have e1:f / 2 ^ m=2 * (f / 2 ^ m / 2):=by lia
 have e2:l / 2 ^ m=2 * (f / 2 ^ m / 2) + 1:=by lia
 have p:=Nat.two_pow_pos m
 rw [Nat.pow_succ,← Nat.div_div_eq_div_mul]
 generalize f / 2 ^ m / 2=q at e1 e2
 have ea:q * (2 ^ m * 2)=(2 * q) * 2 ^ m:=by rw [Nat.mul_comm (2 ^ m) 2,← Nat.mul_assoc,Nat.mul_comm q 2]
 have h1:f < (f / 2 ^ m + 1) * 2 ^ m:=by
  have:=Nat.lt_succ_self (f / 2 ^ m)
  exact (Nat.div_lt_iff_lt_mul p).mp this
 have h2:(l / 2 ^ m) * 2 ^ m<=l:=Nat.div_mul_le_self l _
 rw [e1,Nat.add_mul,Nat.one_mul] at h1
 rw [e2,Nat.add_mul,Nat.one_mul] at h2
 lia
theorem block {f n:Nat} (hf:f < 2 ^ 30) (hn:n<=30):f / 2 ^ n * 2 ^ n + 2 ^ n<=2 ^ 30:=by
 have e:2 ^ 30=2 ^ (30 - n) * 2 ^ n:=by rw [← Nat.pow_add];congr 1;lia
 have h:f / 2 ^ n < 2 ^ (30 - n):=by
  rw [Nat.div_lt_iff_lt_mul (Nat.two_pow_pos n),← e];exact hf
 have h2:(f / 2 ^ n + 1) * 2 ^ n<=2 ^ (30 - n) * 2 ^ n:=Nat.mul_le_mul_right _ h
 rw [Nat.add_mul,Nat.one_mul,← e] at h2
 exact h2
end Bt
namespace DL
open PySem L2
section
variable {F G:Sm} {δ:DS} {fa fb fc:Fn} {g g':D->D->Ou D} {ga gb:DS->Ou Bool}
@[simp] theorem Qov:sSeq F G δ=(F δ).bind fun r=>match r with
 | .nx δ'=>G δ'
 | r=>.ok r:=rfl
@[simp] theorem e_next:Qb δ=.ok (.nx δ):=rfl
@[simp] theorem e_if:sIf ga F G δ=(ga δ).bind fun b=>if b=true then F δ else G δ:=rfl
@[simp] theorem e_ret:sRet fa δ=(fa δ).bind fun d=>.ok (.rt d):=rfl
@[simp] theorem e_drop:sDrop fa δ=(fa δ).bind fun _=>.ok (.nx δ):=rfl
@[simp] theorem e_set {i:Nat}:sSet i fa δ=(fa δ).bind fun d=>.ok (.nx (δ.set i (.val d))):=rfl
@[simp] theorem e_break:Qps δ=.ok (.bk δ):=rfl
@[simp] theorem e_cont:sCont δ=.ok (.ct δ):=rfl
@[simp] theorem e_f2:f2 g fa fb δ=(fa δ).bind fun x=>(fb δ).bind fun y=>g x y:=rfl
@[simp] theorem e_f1 {h:D->Ou D}:f1 h fa δ=(fa δ).bind h:=rfl
@[simp] theorem e_c {d:D}:fC d δ=.ok d:=rfl
@[simp] theorem e_asB:fAsB fa δ=(fa δ).bind asB:=rfl
@[simp] theorem e_tru:fTru fa δ=(fa δ).bind truD:=rfl
@[simp] theorem e_notT:Qeq ga δ=(ga δ).bind fun b=>.ok (!b):=rfl
@[simp] theorem e_andT:Qbp ga gb δ=(ga δ).bind fun b=>if b=true then gb δ else .ok false:=rfl
@[simp] theorem e_orT:fOrT ga gb δ=(ga δ).bind fun b=>if b=true then .ok true else gb δ:=rfl
@[simp] theorem e_andV:Qgj fa fb δ=(fa δ).bind fun x=>(asB x).bind fun b=>if b=true then fb δ else .ok (.bl false):=rfl
@[simp] theorem e_orV:fOrV fa fb δ=(fa δ).bind fun x=>(asB x).bind fun b=>if b=true then .ok (.bl true) else fb δ:=rfl
@[simp] theorem e_notV:QlW fa δ=(fa δ).bind fun x=>(asB x).bind fun b=>.ok (.bl (!b)):=rfl
@[simp] theorem e_ife:fIfE ga fa fb δ=(ga δ).bind fun b=>if b=true then fa δ else fb δ:=rfl
@[simp] theorem e_chn:fChn g g' fa fb fc δ=(fa δ).bind fun x=>(fb δ).bind fun y=>(g x y).bind fun z=>(asB z).bind fun k=>if k=true then (fc δ).bind fun w=>g' y w else .ok (.bl false):=rfl
@[simp] theorem e_tup {fs:List Fn}:fTup fs δ=(Qaq fs δ).bind fun ds=>.ok (.tup ds):=rfl
@[simp] theorem e_lst {fs:List Fn}:fLst fs δ=(Qaq fs δ).bind fun ds=>.ok (.lst ds):=rfl
@[simp] theorem e_call {mm:List D->Ou D} {fs:List Fn}:Qf mm fs δ=(Qaq fs δ).bind mm:=rfl
@[simp] theorem e_args0:Qaq [] δ=.ok []:=rfl
@[simp] theorem e_args {f:Fn} {fs:List Fn}:Qaq (f::fs) δ=(f δ).bind fun d=>(Qaq fs δ).bind fun ds=>.ok (d::ds):=rfl
@[simp] theorem e_meth {tb:MTab} {fo:Fn} {fs:List Fn}:Qag tb fo fs δ=(fo δ).bind fun d=>match tbM tb d with
 | some mm=>(Qaq fs δ).bind fun ds=>mm (d::ds)
 | none=>.bad:=rfl
@[simp] theorem e_make0 {c:PySem.Str}:Qa4 c δ=.ok (.obj c):=rfl
@[simp] theorem QD {c:PySem.Str} {f:List D->Ou D} {tb:MTab}:tbM ((c,f)::tb) (.obj c)=some f:=by simp [tbM]
theorem Qg {c c':PySem.Str} {f:List D->Ou D} {tb:MTab} (h:(c' == c)=false):tbM ((c',f)::tb) (.obj c)=tbM tb (.obj c):=by simp [tbM,h]
@[simp] theorem e_listL {ds:List D}:Qc3 (.lst ds)=.ok (.lst ds):=rfl
@[simp] theorem e_listF {ds:List D}:Qc3 (.frl ds)=.ok (.lst ds):=rfl
@[simp] theorem e_listT {ds:List D}:Qc3 (.tup ds)=.ok (.lst ds):=rfl
@[simp] theorem e_isBl {d:D} {k:Bool}:gIsB d (.bl k)=.ok (.bl (isBl k d)):=rfl
@[simp] theorem e_notBl {d:D} {k:Bool}:gNotB d (.bl k)=.ok (.bl (!isBl k d)):=rfl
@[simp] theorem e_isBl2 {k k':Bool}:isBl k (.bl k')=(k' == k):=rfl
@[simp] theorem e_isNn:gIsN .non=.ok (.bl true):=rfl
@[simp] theorem e_notNn:Qbr .non=.ok (.bl false):=rfl
@[simp] theorem e_sown {i:Nat}:sOwn i fa δ=(fa δ).bind fun d=>.ok (.nx (δ.set i (.own d))):=rfl
@[simp] theorem e_asBb {b:Bool}:asB (.bl b)=.ok b:=rfl
@[simp] theorem e_truB {b:Bool}:truD (.bl b)=.ok b:=rfl
@[simp] theorem e_up:fUp fa δ=(fa δ).bind fun d=>if imm d=true then .ok d else .bad:=rfl
@[simp] theorem e_imm_i {i:Int}:imm (.int i)=true:=rfl
@[simp] theorem e_imm_b {i:Bool}:imm (.bl i)=true:=rfl
@[simp] theorem e_imm_s {i:Str}:imm (.str i)=true:=rfl
@[simp] theorem e_imm_n:imm .non=true:=rfl
@[simp] theorem e_imm_t {ds:List D}:imm (.tup ds)=imms ds:=by simp [imm]
@[simp] theorem e_imms0:imms []=true:=by simp [imms]
@[simp] theorem e_imms {d:D} {ds:List D}:imms (d::ds)=(imm d && imms ds):=by simp [imms]
@[simp] theorem e_add {i j:Int}:gAdd (.int i) (.int j)=.ok (.int (i + j)):=rfl
@[simp] theorem e_sub {i j:Int}:gSub (.int i) (.int j)=.ok (.int (i - j)):=rfl
@[simp] theorem e_mul {i j:Int}:gMul (.int i) (.int j)=if cMul i j=true then .ok (.int (i * j)) else .bad:=rfl
@[simp] theorem e_div {i j:Int}:gDiv (.int i) (.int j)=if cDiv i j=true then .ok (.int (i / j)) else .bad:=rfl
@[simp] theorem e_mod {i j:Int}:gMod (.int i) (.int j)=if cMod i j=true then .ok (.int (i % j)) else .bad:=rfl
@[simp] theorem e_pow {i j:Int}:gPow (.int i) (.int j)=if cPow i j=true then .ok (.int (i ^ j.toNat)) else .bad:=rfl
@[simp] theorem e_shl {i j:Int}:gShl (.int i) (.int j)=if cPow i j=true then .ok (.int (i * 2 ^ j.toNat)) else .bad:=rfl
@[simp] theorem e_shr {i j:Int}:gShr (.int i) (.int j)=if cShr i j=true then .ok (.int (i / 2 ^ j.toNat)) else .bad:=rfl
@[simp] theorem e_xor {i j:Int}:gXor (.int i) (.int j)=.ok (.int (Builtin.bitXor i j)):=rfl
@[simp] theorem e_and {i j:Int}:gAnd (.int i) (.int j)=.ok (.int (Builtin.bitAnd i j)):=rfl
@[simp] theorem e_lt {i j:Int}:gLt (.int i) (.int j)=.ok (.bl (decide (i < j))):=rfl
@[simp] theorem e_le {i j:Int}:gLe (.int i) (.int j)=.ok (.bl (decide (i<=j))):=rfl
@[simp] theorem e_gt {i j:Int}:gGt (.int i) (.int j)=.ok (.bl (decide (j < i))):=rfl
@[simp] theorem e_ge {i j:Int}:gGe (.int i) (.int j)=.ok (.bl (decide (j<=i))):=rfl
theorem QoY {x y:D}:gEq x y=match eqF (eqF (eqF (eqD 57))) x y with
 | some b=>.ok (.bl b)
 | none=>.bad:=rfl
theorem QoR {x y:D}:gNe x y=match eqF (eqF (eqF (eqD 57))) x y with
 | some b=>.ok (.bl (!b))
 | none=>.bad:=rfl
@[simp] theorem e_eqI {i j:Int}:gEq (.int i) (.int j)=.ok (.bl (decide (i=j))):=rfl
@[simp] theorem e_eqB {i j:Bool}:gEq (.bl i) (.bl j)=.ok (.bl (decide (i=j))):=rfl
@[simp] theorem e_neI {i j:Int}:gNe (.int i) (.int j)=.ok (.bl (!decide (i=j))):=rfl
@[simp] theorem e_neg {i:Int}:gNeg (.int i)=.ok (.int (-i)):=rfl
@[simp] theorem e_min {i j:Int}:gMin [.int i,.int j]=.ok (.int (if j < i then j else i)):=rfl
@[simp] theorem e_max {i j:Int}:gMax [.int i,.int j]=.ok (.int (if j > i then j else i)):=rfl
@[simp] theorem e_lenL {ds:List D}:gLen [.lst ds]=.ok (.int (ds.length:Nat)):=rfl
@[simp] theorem e_lenF {ds:List D}:gLen [.frl ds]=.ok (.int (ds.length:Nat)):=rfl
@[simp] theorem e_lenT {ds:List D}:gLen [.tup ds]=.ok (.int (ds.length:Nat)):=rfl
@[simp] theorem e_ixT {ds:List D} {i:Int}:gIx (.tup ds) (.int i)=match atI ds i with
 | some d=>.ok d
 | none=>.bad:=rfl
@[simp] theorem e_ixL {ds:List D} {i:Int}:gIx (.lst ds) (.int i)=match atI ds i with
 | some d=>.ok d
 | none=>.bad:=rfl
@[simp] theorem e_ixF {ds:List D} {i:Int}:gIx (.frl ds) (.int i)=match atI ds i with
 | some d=>.ok d
 | none=>.bad:=rfl
@[simp] theorem e_isI {i:Int} {T:String}:gIs T (.int i)=.ok (.bl (isT "int" T)):=rfl
@[simp] theorem e_isB {i:Bool} {T:String}:gIs T (.bl i)=.ok (.bl (isT "bool" T)):=rfl
@[simp] theorem e_isS {i:Str} {T:String}:gIs T (.str i)=.ok (.bl (isT "str" T)):=rfl
@[simp] theorem e_isN {T:String}:gIs T .non=.ok (.bl (isT "NoneType" T)):=rfl
@[simp] theorem e_isT {ds:List D} {T:String}:gIs T (.tup ds)=.ok (.bl (isT "tuple" T)):=rfl
@[simp] theorem e_isL {ds:List D} {T:String}:gIs T (.lst ds)=.ok (.bl (isT "list" T)):=rfl
@[simp] theorem e_isF {ds:List D} {T:String}:gIs T (.frl ds)=.ok (.bl (isT "list" T)):=rfl
@[simp] theorem e_run {n:Nat} {ds:List D}:runD false n F ds=(F (QL n ds)).bind fun r=>match r with
 | .rt d=>.ok d
 | .nx _=>.ok .non
 | _=>.bad:=by unfold runD;rfl
@[simp] theorem e_runF {n:Nat} {ds:List D}:runD true n F ds=(F (QL n ds)).bind fun r=>match r with
 | .rt d=>.ok d
 | _=>.bad:=by
 unfold runD
 congr 1
 funext r
 cases r <;> rfl
@[simp] theorem Qll {α β γ:Type} {o:Ou α} {f:α->Ou β} {h:β->Ou γ}:(o.bind f).bind h=o.bind fun a=>(f a).bind h:=by
 cases o <;> rfl
@[simp] theorem ite_bl {p:Prop} [Decidable p] {q:Bool}:(if p then Ou.ok (D.bl q) else Ou.ok (D.bl false))=.ok (.bl (decide p && q)):=by
 by_cases h:p <;> simp [h]
@[simp] theorem ite_bl' {p:Prop} [Decidable p] {q:Bool}:(if p then Ou.ok (D.bl true) else Ou.ok (D.bl q))=.ok (.bl (decide p || q)):=by
 by_cases h:p <;> simp [h]
@[simp] theorem ite_b {p:Prop} [Decidable p] {q:Bool}:(if p then Ou.ok q else Ou.ok false)=.ok (decide p && q):=by
 by_cases h:p <;> simp [h]
@[simp] theorem ite_b' {p:Prop} [Decidable p] {q:Bool}:(if p then Ou.ok true else Ou.ok q)=.ok (decide p || q):=by
 by_cases h:p <;> simp [h]
@[simp] theorem cDiv_ok {i j:Int} (h:0 < j) (h2:j < 2 ^ 64):cDiv i j=true:=by simp [cDiv];lia
@[simp] theorem cMod_ok {i j:Int} (h:0 < j):cMod i j=true:=by simp [cMod];lia
@[simp] theorem cMul_l {i j:Int} (h:-(2 ^ 64) < i) (h2:i < 2 ^ 64):cMul i j=true:=by simp [cMul];lia
@[simp] theorem cMul_r {i j:Int} (h:-(2 ^ 64) < j) (h2:j < 2 ^ 64):cMul i j=true:=by simp [cMul];lia
theorem at_0 {α:Type} {x:α} {r:List α}:atI (x::r) 0=some x:=by
 unfold atI ixN
 simp
theorem QfR {α:Type} {xs:List α} {k:Nat} (h:k < xs.length):atI xs (k:Int)=some xs[k]:=by
 unfold atI ixN
 have h1:(0:Int)<=(k:Int):=by lia
 have h2:(k:Int) < (xs.length:Int):=by lia
 simp [h1,h2,h]
theorem at_1 {α:Type} {x y:α} {r:List α}:atI (x::y::r) 1=some y:=QfR (xs:=x::y::r) (k:=1) (by simp)
theorem at_2 {α:Type} {x y z:α} {r:List α}:atI (x::y::z::r) 2=some z:=QfR (xs:=x::y::z::r) (k:=2) (by simp)
theorem at_3 {α:Type} {x y z u:α} {r:List α}:atI (x::y::z::u::r) 3=some u:=QfR (xs:=x::y::z::u::r) (k:=3) (by simp)
theorem at_4 {α:Type} {x y z u v:α} {r:List α}:atI (x::y::z::u::v::r) 4=some v:=QfR (xs:=x::y::z::u::v::r) (k:=4) (by simp)
def Goes (Inv:DS->Prop) (o:Ou Fl):Prop:=∃ δ2,(o=.ok (.nx δ2)\/o=.ok (.ct δ2))/\Inv δ2
theorem Goes.nx {Inv:DS->Prop} {δ:DS} (h:Inv δ):Goes Inv (.ok (.nx δ)):=⟨δ,.inl rfl,h⟩
theorem Goes.eq {Inv:DS->Prop} {o:Ou Fl} {δ2:DS} (e:o=.ok (.nx δ2)) (h:Inv δ2):Goes Inv o:=⟨δ2,.inl e,h⟩
theorem Goes.ct {Inv:DS->Prop} {δ:DS} (h:Inv δ):Goes Inv (.ok (.ct δ)):=⟨δ,.inr rfl,h⟩
theorem Qdh {g:D->DS->Ou DS} {body:Sm} (Inv:Nat->DS->Prop):∀ (items:List D) (n:Nat) (_:∀ i d,items[i]? = some d->∀ δ,Inv (n + i) δ->Goes (Inv (n + i + 1)) ((g d δ).bind body)) (δ:DS),Inv n δ->∃ δ',forL g body items δ=.ok (.nx δ')/\Inv (n + items.length) δ'
 | [],n,_,δ,h=>⟨δ,rfl,h⟩
 | d::r,n,hs,δ,h=>by
  obtain ⟨δ2,h1,h2⟩:=hs 0 d rfl δ h
  obtain ⟨δ',h3,h4⟩:=Qdh Inv r (n + 1) (fun i d hd δ hi=>by
   have e:n + 1 + i=n + (i + 1):=by lia
   rw [e] at hi ⊢
   exact hs (i + 1) d (by simpa using hd) δ hi) δ2 h2
  refine ⟨δ',?_,by
   rw [List.length_cons]
   have e:n + (r.length + 1)=n + 1 + r.length:=by lia
   rw [e];exact h4⟩
  cases e:g d δ with
  | ok δ1 =>
   simp only [forL,e,Qau] at h1 ⊢
   rcases h1 with h1 | h1 <;> rw [h1] <;> exact h3
  | ex z=>rw [e] at h1;rcases h1 with h1 | h1 <;> cases h1
  | bad=>rw [e] at h1;rcases h1 with h1 | h1 <;> cases h1
theorem For.useN {g:D->DS->Ou DS} {body:Sm} {items:List D} {δ:DS} {α:Type} {k:Fl->Ou α} {r:Ou α} (Inv:Nat->DS->Prop) (h0:Inv 0 δ) (hs:∀ i d,items[i]? = some d->i < items.length->∀ δ,Inv i δ->Goes (Inv (i + 1)) ((g d δ).bind body))
  (hd:∀ δ,Inv items.length δ->k (.nx δ)=r):(forL g body items δ).bind k=r:=by
 obtain ⟨δ',e,q⟩:=Qdh Inv items 0 (fun i d hd δ hi=>by
  rw [Nat.zero_add] at hi ⊢
  exact hs i d hd (List.getElem?_eq_some_iff.mp hd).1 δ hi) δ h0
 rw [e]
 rw [Nat.zero_add] at q
 exact hd δ' q
@[simp] theorem e_nm {i:Nat} {d:D} {δ:DS}:gNm i d δ=.ok (δ.set i (.val d)):=rfl
end
end DL
namespace DL
open PySem L2
section
@[simp] theorem e_eqS {x y:Str}:gEq (.str x) (.str y)=.ok (.bl (decide (x=y))):=by
 simp [QoY,eqF,rk,toV,eqV];rfl
@[simp] theorem e_neS {x y:Str}:gNe (.str x) (.str y)=.ok (.bl (!decide (x=y))):=by
 simp [QoR,eqF,rk,toV,eqV];rfl
end
end DL
namespace DL
open PySem L2
section
@[simp high] theorem QpB {i j:Int}:gMin [.int i,.int j]=.ok (.int (min i j)):=by
 rw [e_min];congr 2;by_cases h:j < i <;> simp [h] <;> lia
@[simp high] theorem QpU {i j:Int}:gMax [.int i,.int j]=.ok (.int (max i j)):=by
 rw [e_max];congr 2;by_cases h:j > i <;> simp [h] <;> lia
@[simp] theorem e_addI {i j:Int}:gAddI (.int i) (.int j)=.ok (.int (i + j)):=rfl
@[simp] theorem e_subI {i j:Int}:gSubI (.int i) (.int j)=.ok (.int (i - j)):=rfl
end
end DL
namespace DL
open PySem L2
theorem QlP (ds:List D) (k:Nat) (h:k<=ds.length):cutD ds (some (k:Int)) none=ds.drop k:=by
 unfold cutD
 rw [HT.sIx_nat,HT.sIx_none,Nat.min_eq_left h,← List.length_drop]
 exact List.take_length
theorem Qmh (ds:List D) (k:Nat) (h:k<=ds.length):cutD ds none (some (k:Int))=ds.take k:=by
 unfold cutD
 rw [HT.sIx_nat,HT.sIx_none,Nat.min_eq_left h]
 simp
end DL
namespace DL
open PySem L2
theorem QeE {g:D->DS->Ou DS} {gc:DS->Ou Bool} {fe:Fn} (Inv:DS->Prop) (p:D->Bool) (f:D->D):∀ (items:List D),(∀ d∈items,∀ δ,Inv δ->∃ δ1,g d δ=.ok δ1/\gc δ1=.ok (p d)/\(p d=true->fe δ1=.ok (f d))/\Inv δ1) ->
  ∀ δ,Inv δ->Qbq g gc fe items δ=.ok ((items.filter p).map f)
 | [],_,_,_=>rfl
 | d::r,h,δ,hI=>by
  obtain ⟨δ1,h1,h2,h3,h4⟩:=h d List.mem_cons_self δ hI
  have e:=QeE Inv p f r (fun d hd=>h d (List.mem_cons_of_mem _ hd)) δ1 h4
  cases hp:p d with
  | true=>simp [Qbq,h1,h2,hp,h3 hp,e]
  | false=>simp [Qbq,h1,h2,hp,e]
theorem QmY {g:D->DS->Ou DS} {fe:Fn} (Inv:DS->Prop) (f:D->D) (items:List D) (h:∀ d∈items,∀ δ,Inv δ->∃ δ1,g d δ=.ok δ1/\fe δ1=.ok (f d)/\Inv δ1) (δ:DS) (hI:Inv δ):Qbq g fYes fe items δ=.ok (items.map f):=by
 have:=QeE (gc:=fYes) Inv (fun _=>true) f items (fun d hd δ hI=>by
  obtain ⟨δ1,h1,h2,h3⟩:=h d hd δ hI
  exact ⟨δ1,h1,rfl,fun _=>h2,h3⟩) δ hI
 rw [List.filter_eq_self.mpr (fun _ _=>rfl)] at this
 exact this
inductive Row2 {α:Type} (R:D->α->Prop):List D->List α->Prop
 | nil:Row2 R [] []
 | cons {d:D} {x:α} {ds:List D} {xs:List α}:R d x->Row2 R ds xs->Row2 R (d::ds) (x::xs)
section
variable {α:Type} {R:D->α->Prop}
theorem Row2.take {ds:List D} {xs:List α} (h:Row2 R ds xs):∀ n,Row2 R (ds.take n) (xs.take n):=by
 induction h with
 | nil=>intro n;simpa using Row2.nil
 | cons a t ih =>
  intro n
  cases n with
  | zero=>exact .nil
  | succ n=>exact .cons a (ih n)
theorem Row2.get {ds:List D} {xs:List α} (h:Row2 R ds xs) {k:Nat} {d:D} (e:ds[k]? = some d):∃ x,xs[k]? = some x/\R d x:=by
 induction h generalizing k with
 | nil=>simp at e
 | @cons d' x ds xs a t ih =>
  cases k with
  | zero=>simp at e;subst e;exact ⟨x,rfl,a⟩
  | succ k=>obtain ⟨x,h1,h2⟩:=ih (by simpa using e);exact ⟨x,by simpa using h1,h2⟩
end
end DL
namespace DL
open PySem L2
theorem For.useP {g:D->DS->Ou DS} {body:Sm} {items:List D} {δ:DS} {α:Type} {k:Fl->Ou α} (P:Ou α->Prop) (Inv:Nat->DS->Prop) (h0:Inv 0 δ) (hs:∀ i d,items[i]? = some d->i < items.length->∀ δ,Inv i δ->Goes (Inv (i + 1)) ((g d δ).bind body))
  (hd:∀ δ,Inv items.length δ->P (k (.nx δ))):P ((forL g body items δ).bind k):=by
 obtain ⟨δ',e,q⟩:=Qdh Inv items 0 (fun i d hd δ hi=>by
  rw [Nat.zero_add] at hi ⊢
  exact hs i d hd (List.getElem?_eq_some_iff.mp hd).1 δ hi) δ h0
 rw [e]
 rw [Nat.zero_add] at q
 exact hd δ' q
end DL
namespace DL
open PySem L2
theorem Qei {f f':D->D->Option Bool} (hf:∀ x y b,f x y=some b->f' x y=some b):∀ {xs ys:List D} {bs:List Bool},zipO f xs ys=some bs->zipO f' xs ys=some bs
 | [],_,_,h=>by simpa [zipO] using h
 | x::xs,[],_,h=>by simpa [zipO] using h
 | x::xs,y::ys,bs,h=>by
  simp only [zipO] at h ⊢
  cases e:f x y with
  | none=>rw [e] at h;cases h
  | some b =>
   rw [e] at h
   rw [hf x y b e]
   cases e2:zipO f xs ys with
   | none=>rw [e2] at h;cases h
   | some bs'=>rw [e2] at h;rw [Qei hf e2];exact h
theorem QmU {f f':D->D->Option Bool} (hf:∀ x y b,f x y=some b->f' x y=some b) {x y:D} {b:Bool} (h:eqF f x y=some b):eqF f' x y=some b:=by
 unfold eqF at h ⊢
 split at h <;> try exact h
 ·unfold eqT at h ⊢
  cases e:zipO f (its x) (its y) with
  | none=>rw [e] at h;cases h
  | some bs=>rw [e] at h;rw [Qei hf e];exact h
 ·unfold eqL at h ⊢
  by_cases hl:(its x).length=(its y).length
  ·rw [if_pos hl] at h ⊢
   cases e:zipO f (its x) (its y) with
   | none=>rw [e] at h;cases h
   | some bs=>rw [e] at h;rw [Qei hf e];exact h
  ·rw [if_neg hl] at h ⊢;exact h
theorem QgA:∀ (n:Nat) {x y:D} {b:Bool},eqD n x y=some b->eqD (n + 1) x y=some b
 | 0,_,_,_,h=>nomatch h
 | n + 1,_,_,_,h=>QmU (f:=eqD n) (fun _ _ _ z=>QgA n z) h
theorem Qh5 {n m:Nat} (h:n<=m) {x y:D} {b:Bool} (e:eqD n x y=some b):eqD m x y=some b:=by
 induction h with
 | refl=>exact e
 | step _ ih=>exact QgA _ ih
def Self (n:Nat) (x:D):Prop:=eqD n x x=some true
theorem Self.mono {n m:Nat} {x:D} (h:Self n x) (hm:n<=m):Self m x:=Qh5 hm h
theorem Self.int (i:Int):Self 1 (.int i):=by show eqF _ _ _=_;simp [eqF,rk,toV,eqV]
theorem Self.str (i:Str):Self 1 (.str i):=by show eqF _ _ _=_;simp [eqF,rk,toV,eqV]
theorem Self.bl (i:Bool):Self 1 (.bl i):=by show eqF _ _ _=_;simp [eqF,rk,toV,eqV]
theorem Self.non:Self 1 .non:=rfl
theorem QfQ {n:Nat}:∀ {xs:List D},(∀ x∈xs,Self n x)->zipO (eqD n) xs xs=some (xs.map fun _=>true)
 | [],_=>rfl
 | x::xs,h=>by
  have h1:eqD n x x=some true:=h x List.mem_cons_self
  simp [zipO,h1,QfQ fun y hy=>h y (List.mem_cons_of_mem _ hy)]
theorem Self.tup {n:Nat} {xs:List D} (h:∀ x∈xs,Self n x):Self (n + 1) (.tup xs):=by
 show eqF (eqD n) _ _=_
 simp [eqF,rk,its,eqT,QfQ h]
theorem Self.lst {n:Nat} {xs:List D} (h:∀ x∈xs,Self n x):Self (n + 1) (.lst xs):=by
 show eqF (eqD n) _ _=_
 simp [eqF,rk,its,eqL,QfQ h]
theorem Self.ne {n:Nat} {x:D} (h:Self n x) (hn:n<=60):gNe x x=.ok (.bl false):=by
 have e:eqD 60 x x=some true:=Qh5 hn h
 unfold gNe
 rw [e];rfl
end DL
namespace DL
open PySem L2
theorem mod_lt (c:Int) {m:Int} (h:0 < m):0<=c % m/\c % m < m:=⟨Int.emod_nonneg _ (by lia),Int.emod_lt_of_pos _ h⟩
end DL
namespace DL
open PySem L2
@[simp] theorem e_mulB {i j:Int}:gMulB (.int i) (.int j)=if Qow i j=true then .ok (.int (i * j)) else .bad:=rfl
end DL
namespace DL
theorem len0 {α:Type} {P:List α->Prop} (h:P []):∀ us,us.length=0->P us
 | [],_=>h
theorem len1 {α:Type} {P:List α->Prop} (h:∀ a,P [a]):∀ us,us.length=1->P us
 | [a],_=>h a
theorem len2 {α:Type} {P:List α->Prop} (h:∀ a b,P [a,b]):∀ us,us.length=2->P us
 | [a,b],_=>h a b
theorem len3 {α:Type} {P:List α->Prop} (h:∀ a b c,P [a,b,c]):∀ us,us.length=3->P us
 | [a,b,c],_=>h a b c
theorem len4 {α:Type} {P:List α->Prop} (h:∀ a b c d,P [a,b,c,d]):∀ us,us.length=4->P us
 | [a,b,c,d],_=>h a b c d
theorem len5 {α:Type} {P:List α->Prop} (h:∀ a b c d e,P [a,b,c,d,e]):∀ us,us.length=5->P us
 | [a,b,c,d,e],_=>h a b c d e
end DL
namespace DL
section
variable {ga:DS->Ou Bool} {fa:Fn} {F G:Sm} {δ:DS} {b:Bool} {d:D} {i:Nat} {j w:Int}
theorem Qin (h:ga δ=.ok b) (hb:b=false):sSeq (sIf ga F Qb) G δ=G δ:=by
 subst hb
 show ((ga δ).bind _).bind _=_
 rw [h];rfl
theorem Qjn (h:ga δ=.ok b) (hb:b=true) (hd:fa δ=.ok d):sSeq (sIf ga (sSeq (sRet fa) Qb) Qb) G δ=.ok (.rt d):=by
 subst hb
 show ((ga δ).bind _).bind _=_
 rw [h]
 show (((fa δ).bind _).bind _).bind _=_
 rw [hd];rfl
theorem Qeh (hd:fa δ=.ok d):sSeq (sSet i fa) G δ=G (δ.set i (.val d)):=by
 show ((fa δ).bind _).bind _=_
 rw [hd];rfl
theorem Qpr (hd:fa δ=.ok d):sSeq (sRet fa) G δ=.ok (.rt d):=by
 show ((fa δ).bind _).bind _=_
 rw [hd];rfl
theorem QcE {δ':DS} (h:F δ=.ok (.nx δ')):sSeq F G δ=G δ':=by
 show (F δ).bind _=_
 rw [h];rfl
theorem Qku {g:D->DS->Ou DS} {x:D} {xs:List D} {δ1:DS} (h1:g x δ=.ok δ1) (h2:F δ1=.ok (.rt d)):forL g F (x::xs) δ=.ok (.rt d):=by
 unfold forL
 rw [h1]
 show (F δ1).bind _=_
 rw [h2];rfl
theorem Qck {g:D->DS->Ou DS} {x:D} {xs:List D} {δ1 δ2:DS} (h1:g x δ=.ok δ1) (h2:F δ1=.ok (.nx δ2)):forL g F (x::xs) δ=forL g F xs δ2:=by
 conv=>lhs;unfold forL
 rw [h1]
 show (F δ1).bind _=_
 rw [h2];rfl
theorem QfU {n:Nat} {ds:List D} (h:F (QL n ds)=.ok (.rt d)):runD false n F ds=.ok d:=by
 unfold runD
 rw [h];rfl
end
end DL
namespace Bt
theorem bits_le_iff {x y n:Nat}:bits (x ^^^ y)<=n ↔ x / 2 ^ n=y / 2 ^ n:=by
 constructor
 ·intro h
  have e:=QhP (f:=x) (l:=y)
  obtain ⟨d,rfl⟩:=Nat.exists_eq_add_of_le h
  rw [Nat.pow_add,← Nat.div_div_eq_div_mul,← Nat.div_div_eq_div_mul,e]
 ·intro h
  refine bits_le ?_
  have:(x ^^^ y) / 2 ^ n=0:=by rw [Nat.xor_div_two_pow,h];simp
  have p:=Nat.two_pow_pos n
  exact (Nat.div_eq_zero_iff_lt p).mp this
theorem Qd3 {x y m n:Nat} (h:x / 2 ^ m=y / 2 ^ m) (hmn:m<=n):x / 2 ^ n=y / 2 ^ n:=by
 obtain ⟨d,rfl⟩:=Nat.exists_eq_add_of_le hmn
 rw [Nat.pow_add,← Nat.div_div_eq_div_mul,← Nat.div_div_eq_div_mul,h]
theorem in_block {x q i:Nat}:x / 2 ^ i=q ↔ q * 2 ^ i<=x/\x < q * 2 ^ i + 2 ^ i:=by
 have p:=Nat.two_pow_pos i
 rw [Nat.div_eq_iff p]
 have e:q * 2 ^ i + 2 ^ i - 1 + 1=q * 2 ^ i + 2 ^ i:=by lia
 constructor
 ·rintro ⟨h1,h2⟩;exact ⟨h1,by lia⟩
 ·rintro ⟨h1,h2⟩;exact ⟨h1,by lia⟩
theorem bits_blocks {q i r j x y a c:Nat} (hd:q * 2 ^ i + 2 ^ i<=r * 2 ^ j) (hx:x / 2 ^ i=q) (ha:a / 2 ^ i=q) (hy:y / 2 ^ j=r) (hc:c / 2 ^ j=r):bits (x ^^^ y)=bits (a ^^^ c):=by
 have key:∀ u v,u / 2 ^ i=q->v / 2 ^ j=r->∀ m,u / 2 ^ m=v / 2 ^ m->i<=m/\j<=m:=by
  intro u v hu hv m h
  have h1:=in_block.mp hu
  have h2:=in_block.mp hv
  constructor
  ·refine Nat.le_of_not_lt fun hm=>?_
   have:=Qd3 h (Nat.le_of_lt hm)
   rw [hu] at this
   have:=in_block.mp this.symm
   lia
  ·refine Nat.le_of_not_lt fun hm=>?_
   have:=Qd3 h (Nat.le_of_lt hm)
   rw [hv] at this
   have:=in_block.mp this
   lia
 have one:∀ u v u' v',u / 2 ^ i=q->v / 2 ^ j=r->u' / 2 ^ i=q->v' / 2 ^ j=r->bits (u ^^^ v)<=bits (u' ^^^ v'):=by
  intro u v u' v' hu hv hu' hv'
  have h:=bits_le_iff.mp (Nat.le_refl (bits (u' ^^^ v')))
  obtain ⟨h1,h2⟩:=key u' v' hu' hv' _ h
  refine bits_le_iff.mpr ?_
  rw [Qd3 (hu.trans hu'.symm) h1,Qd3 (hv.trans hv'.symm) h2]
  exact h
 exact Nat.le_antisymm (one x y a c hx hy ha hc) (one a c x y ha hc hx hy)
theorem bits_pos {x y:Nat} (h:x < y):0 < bits (x ^^^ y):=by
 refine Nat.pos_of_ne_zero fun e=>?_
 have:=bits_le_iff.mp (Nat.le_of_eq e)
 simp at this
 lia
theorem halves {q i r j n Q:Nat} (hd:q * 2 ^ i + 2 ^ i<=r * 2 ^ j) (hn:bits ((q * 2 ^ i) ^^^ (r * 2 ^ j))=n + 1) (hQ:q * 2 ^ i / 2 ^ (n + 1)=Q) :
  Q * 2 ^ (n + 1)<=q * 2 ^ i/\q * 2 ^ i + 2 ^ i<=Q * 2 ^ (n + 1) + 2 ^ n/\Q * 2 ^ (n + 1) + 2 ^ n<=r * 2 ^ j/\r * 2 ^ j + 2 ^ j<=Q * 2 ^ (n + 1) + 2 ^ (n + 1):=by
 have pi:=Nat.two_pow_pos i
 have pj:=Nat.two_pow_pos j
 have pn:=Nat.two_pow_pos n
 have hlt:q * 2 ^ i < r * 2 ^ j:=by lia
 have hz:(q * 2 ^ i) ^^^ (r * 2 ^ j)≠0:=fun e=>by
  have:=QcG e
  lia
 obtain ⟨m,Q',h1,h2,h3,h4⟩:=half (Nat.le_of_lt hlt) hz
 obtain rfl:m=n:=by lia
 obtain rfl:Q'=Q:=by rw [← h2,← hQ]
 have pr:∀ x y,x / 2 ^ i=q->y / 2 ^ j=r->x < Q' * 2 ^ (m + 1) + 2 ^ m/\Q' * 2 ^ (m + 1) + 2 ^ m<=y/\y < Q' * 2 ^ (m + 1) + 2 ^ (m + 1):=by
  intro x y hx hy
  have e:=bits_blocks hd hx (Nat.mul_div_cancel q pi) hy (Nat.mul_div_cancel r pj)
  have b1:=in_block.mp hx
  have b2:=in_block.mp hy
  have hxy:x < y:=by lia
  have hz2:x ^^^ y≠0:=fun e=>by
   have:=QcG e
   lia
  obtain ⟨m',Q2,g1,g2,g3,g4⟩:=half (Nat.le_of_lt hxy) hz2
  obtain rfl:m'=m:=by lia
  have hb:x / 2 ^ (m' + 1)=y / 2 ^ (m' + 1):=bits_le_iff.mp (Nat.le_of_eq g1)
  have hi:i<=m' + 1:=by
   refine Nat.le_of_not_lt fun hm=>?_
   have:=Qd3 hb (Nat.le_of_lt hm)
   rw [hx] at this
   have:=in_block.mp this.symm
   lia
  have hQ2:Q2=Q':=by
   rw [← g2,← h2]
   exact Qd3 (hx.trans (Nat.mul_div_cancel q pi).symm) hi
  subst hQ2
  rw [hb] at g2
  have:=in_block.mp g2
  exact ⟨g3,g4,this.2⟩
 have f1:(q * 2 ^ i + 2 ^ i - 1) / 2 ^ i=q:=in_block.mpr ⟨by lia,by lia⟩
 have f2:(r * 2 ^ j) / 2 ^ j=r:=Nat.mul_div_cancel r pj
 have f3:(r * 2 ^ j + 2 ^ j - 1) / 2 ^ j=r:=in_block.mpr ⟨by lia,by lia⟩
 have a1:=pr _ _ f1 f2
 have a2:=pr _ _ f1 f3
 have a3:=in_block.mp h2
 lia
end Bt
namespace Tr
open DL
abbrev all:Nat:=1073741824
inductive T
 | lf (a:Nat) (d:D)
 | nd (q k:Nat) (l r:T)
namespace T
def q:T->Nat
 | lf a _=>a
 | nd q _ _ _=>q
def e:T->Nat
 | lf _ _=>0
 | nd _ k _ _=>k + 1
def lo (t:T):Nat:=t.q * 2 ^ t.e
def sz (t:T):Nat:=2 ^ t.e
def ds:T->List (Nat×D)
 | lf a d=>[(a,d)]
 | nd _ _ l r=>l.ds++r.ds
end T
inductive Good:T->Prop
 | lf {a:Nat} {d:D}:a < all->Good (.lf a d)
 | nd {q k:Nat} {l r:T}:Good l->Good r->q * 2 ^ (k + 1)<=l.lo->l.lo + l.sz<=q * 2 ^ (k + 1) + 2 ^ k->q * 2 ^ (k + 1) + 2 ^ k<=r.lo->r.lo + r.sz<=q * 2 ^ (k + 1) + 2 ^ (k + 1)->q * 2 ^ (k + 1) + 2 ^ (k + 1)<=all->Good (.nd q k l r)
def mk (l r:T):T:=.nd (l.lo / 2 ^ Bt.bits (l.lo ^^^ r.lo)) (Bt.bits (l.lo ^^^ r.lo) - 1) l r
theorem Qcz (t:T):0 < t.sz:=Nat.two_pow_pos _
theorem Good.up {t:T} (h:Good t):t.lo + t.sz<=all:=by
 cases h with
 | lf h=>simp [T.lo,T.sz,T.q,T.e];lia
 | nd _ _ _ _ _ _ h=>exact h
theorem QeO {l r:T} (hl:Good l) (hr:Good r) (hd:l.lo + l.sz<=r.lo):Good (mk l r):=by
 have pl:=Qcz l
 have pr:=Qcz r
 have ul:=hl.up
 have ur:=hr.up
 have hpos:0 < Bt.bits (l.lo ^^^ r.lo):=Bt.bits_pos (by lia)
 obtain ⟨m,hm⟩:∃ m,Bt.bits (l.lo ^^^ r.lo)=m + 1:=⟨Bt.bits (l.lo ^^^ r.lo) - 1,by lia⟩
 have hh:=Bt.halves (q:=l.q) (i:=l.e) (r:=r.q) (j:=r.e) (n:=m) hd hm rfl
 have h30:(2:Nat) ^ 30=all:=by decide
 have hm30:m + 1<=30:=by
  rw [← hm]
  exact Bt.bits_le (Nat.xor_lt_two_pow (by rw [h30];lia) (by rw [h30];lia))
 have hb:=Bt.block (f:=l.lo) (n:=m + 1) (by rw [h30];lia) hm30
 rw [h30] at hb
 unfold mk
 rw [hm]
 exact .nd hl hr hh.1 hh.2.1 hh.2.2.1 hh.2.2.2 hb
theorem Qky {q k:Nat} {l r:T} (h:Good (.nd q k l r)):mk l r=.nd q k l r:=by
 cases h with
 | nd hl hr h1 h2 h3 h4 h5 =>
  have pl:=Qcz l
  have pr:=Qcz r
  have pk:=Nat.two_pow_pos k
  have e2:2 ^ (k + 1)=2 ^ k * 2:=Nat.pow_succ ..
  have b1:l.lo / 2 ^ (k + 1)=q:=Bt.in_block.mpr ⟨h1,by lia⟩
  have b2:r.lo / 2 ^ (k + 1)=q:=Bt.in_block.mpr ⟨by lia,by lia⟩
  have ek:q * 2 ^ (k + 1)=2 * q * 2 ^ k:=by rw [e2,Nat.mul_comm (2 ^ k) 2,← Nat.mul_assoc,Nat.mul_comm q 2]
  have b3:l.lo / 2 ^ k=2 * q:=Bt.in_block.mpr ⟨by lia,by lia⟩
  have b4:r.lo / 2 ^ k=2 * q + 1:=Bt.in_block.mpr ⟨by rw [Nat.add_mul];lia,by rw [Nat.add_mul];lia⟩
  have c1:Bt.bits (l.lo ^^^ r.lo)<=k + 1:=Bt.bits_le_iff.mpr (b1.trans b2.symm)
  have c2:¬ Bt.bits (l.lo ^^^ r.lo)<=k:=fun z=>by
   have:=Bt.bits_le_iff.mp z
   lia
  have c3:Bt.bits (l.lo ^^^ r.lo)=k + 1:=by lia
  unfold mk
  rw [c3,b1]
  rfl
theorem Qbd {t:T} (h:Good t):∀ p∈t.ds,t.lo<=p.1/\p.1 < t.lo + t.sz:=by
 induction h with
 | lf h=>intro p hp;simp [T.ds] at hp;subst hp;simp [T.lo,T.sz,T.q,T.e]
 | @nd q k l r hl hr h1 h2 h3 h4 h5 ihl ihr =>
  intro p hp
  have pk:=Nat.two_pow_pos k
  have e2:2 ^ (k + 1)=2 ^ k * 2:=Nat.pow_succ ..
  show q * 2 ^ (k + 1)<=p.1/\p.1 < q * 2 ^ (k + 1) + 2 ^ (k + 1)
  rcases List.mem_append.mp hp with hp | hp
  ·have:=ihl p hp;lia
  ·have:=ihr p hp;lia
theorem Qlj {t:T} (h:Good t):t.ds.Pairwise (fun a b=>a.1 < b.1):=by
 induction h with
 | lf h=>simp [T.ds]
 | nd hl hr h1 h2 h3 h4 h5 ihl ihr =>
  unfold T.ds
  rw [List.pairwise_append]
  refine ⟨ihl,ihr,fun a ha b hb=>?_⟩
  have:=Qbd hl a ha
  have:=Qbd hr b hb
  lia
theorem Qh6:∀ t:T,t.ds≠[]
 | .lf a d=>by simp [T.ds]
 | .nd q k l r=>by
  have:=Qh6 l
  simp [T.ds,this]
def insK (a:Nat) (d:D):List (Nat×D)->List (Nat×D)
 | []=>[(a,d)]
 | p::r=>if a < p.1 then (a,d)::p::r else p::insK a d r
theorem Qe4 {a:Nat} {d:D}:∀ {r:List (Nat×D)},(∀ p∈r,a < p.1)->insK a d r=(a,d)::r
 | [],_=>rfl
 | p::r,h=>by simp [insK,h p List.mem_cons_self]
theorem QgI {a:Nat} {d:D}:∀ {r:List (Nat×D)},(∀ p∈r,p.1 < a)->insK a d r=r++[(a,d)]
 | [],_=>rfl
 | p::r,h=>by
  have h1:=h p List.mem_cons_self
  simp only [insK,List.cons_append]
  rw [if_neg (by lia),QgI fun p hp=>h p (List.mem_cons_of_mem _ hp)]
theorem Qgp {a:Nat} {d:D}:∀ {l r:List (Nat×D)},(∀ p∈r,a < p.1)->insK a d (l++r)=insK a d l++r
 | [],r,h=>by rw [List.nil_append,Qe4 h];rfl
 | p::l,r,h=>by
  simp only [List.cons_append,insK]
  by_cases hc:a < p.1
  ·rw [if_pos hc,if_pos hc];rfl
  ·rw [if_neg hc,if_neg hc,Qgp h];rfl
theorem QfL {a:Nat} {d:D}:∀ {l r:List (Nat×D)},(∀ p∈l,p.1 < a)->insK a d (l++r)=l++insK a d r
 | [],r,h=>rfl
 | p::l,r,h=>by
  have h1:=h p List.mem_cons_self
  simp only [List.cons_append,insK]
  rw [if_neg (by lia),QfL fun p hp=>h p (List.mem_cons_of_mem _ hp)]
def put (a:Nat) (d:D):T->Option T
 | .lf b e=>if a < b then some (mk (.lf a d) (.lf b e)) else if b < a then some (mk (.lf b e) (.lf a d)) else none
 | .nd q k l r=>if a < q * 2 ^ (k + 1) then some (mk (.lf a d) (.nd q k l r)) else if q * 2 ^ (k + 1) + 2 ^ (k + 1)<=a then some (mk (.nd q k l r) (.lf a d))
  else if a < q * 2 ^ (k + 1) + 2 ^ k then (put a d l).map fun l'=>mk l' r else (put a d r).map fun r'=>mk l r'
def Within (t:T) (Q n:Nat):Prop:=Q * 2 ^ n<=t.lo/\t.lo + t.sz<=Q * 2 ^ n + 2 ^ n
theorem QcT {l r:T} {Q n:Nat} (hd:l.lo + l.sz<=r.lo) (hl:Within l Q n) (hr:Within r Q n):Within (mk l r) Q n:=by
 have pl:=Qcz l
 have pr:=Qcz r
 obtain ⟨l1,l2⟩:=hl
 obtain ⟨r1,r2⟩:=hr
 have b1:l.lo / 2 ^ n=Q:=Bt.in_block.mpr ⟨l1,by lia⟩
 have b2:r.lo / 2 ^ n=Q:=Bt.in_block.mpr ⟨by lia,by lia⟩
 have hb:Bt.bits (l.lo ^^^ r.lo)<=n:=Bt.bits_le_iff.mpr (b1.trans b2.symm)
 have hpos:0 < Bt.bits (l.lo ^^^ r.lo):=Bt.bits_pos (by lia)
 show Q * 2 ^ n<=l.lo / 2 ^ Bt.bits (l.lo ^^^ r.lo) * 2 ^ (Bt.bits (l.lo ^^^ r.lo) - 1 + 1)/\l.lo / 2 ^ Bt.bits (l.lo ^^^ r.lo) * 2 ^ (Bt.bits (l.lo ^^^ r.lo) - 1 + 1) + 2 ^ (Bt.bits (l.lo ^^^ r.lo) - 1 + 1)<=Q * 2 ^ n + 2 ^ n
 have e:Bt.bits (l.lo ^^^ r.lo) - 1 + 1=Bt.bits (l.lo ^^^ r.lo):=by lia
 rw [e]
 generalize Bt.bits (l.lo ^^^ r.lo)=m at *
 obtain ⟨c,rfl⟩:=Nat.exists_eq_add_of_le hb
 have hq:l.lo / 2 ^ m / 2 ^ c=Q:=by rw [Nat.div_div_eq_div_mul,← Nat.pow_add];exact b1
 have hw:=Bt.in_block.mp hq
 have e1:Q * 2 ^ (m + c)=Q * 2 ^ c * 2 ^ m:=by rw [Nat.pow_add,Nat.mul_comm (2 ^ m),Nat.mul_assoc]
 have e2:2 ^ (m + c)=2 ^ c * 2 ^ m:=by rw [Nat.pow_add,Nat.mul_comm]
 have g1:Q * 2 ^ c * 2 ^ m<=l.lo / 2 ^ m * 2 ^ m:=Nat.mul_le_mul_right _ hw.1
 have g2:(l.lo / 2 ^ m + 1) * 2 ^ m<=(Q * 2 ^ c + 2 ^ c) * 2 ^ m:=Nat.mul_le_mul_right _ hw.2
 rw [Nat.add_mul,Nat.add_mul,Nat.one_mul] at g2
 rw [e1,e2]
 exact ⟨g1,g2⟩
structure PutOk (a:Nat) (d:D) (t t':T):Prop where
 eq:put a d t=some t'
 good:Good t'
 ds:t'.ds=insK a d t.ds
 win:∀ Q n,Within t Q n->a / 2 ^ n=Q->Within t' Q n
theorem QcU {a:Nat} {d:D} {Q n:Nat} (h:a / 2 ^ n=Q):Within (.lf a d) Q n:=by
 have:=Bt.in_block.mp h
 simp only [Within,T.lo,T.sz,T.q,T.e,Nat.pow_zero,Nat.mul_one]
 lia
theorem Qjr {a:Nat} {d:D} (ha:a < all) {t:T} (h:Good t) (hn:∀ p∈t.ds,p.1≠a):∃ t',PutOk a d t t':=by
 have gl:Good (.lf a d):=.lf ha
 have la:(T.lf a d).lo=a:=by simp [T.lo,T.q,T.e]
 have sa:(T.lf a d).sz=1:=rfl
 induction h with
 | @lf b e hb =>
  have hne:b≠a:=hn (b,e) (by simp [T.ds])
  have lb:(T.lf b e).lo=b:=by simp [T.lo,T.q,T.e]
  have sb:(T.lf b e).sz=1:=rfl
  have gb:Good (.lf b e):=.lf hb
  by_cases h1:a < b
  ·have hd:(T.lf a d).lo + (T.lf a d).sz<=(T.lf b e).lo:=by lia
   exact ⟨mk (.lf a d) (.lf b e),by simp [put,h1],QeO gl gb hd,by simp [mk,T.ds,insK,h1],fun Q n w1 w2=>QcT hd (QcU w2) w1⟩
  ·have h2:b < a:=by lia
   have hd:(T.lf b e).lo + (T.lf b e).sz<=(T.lf a d).lo:=by lia
   exact ⟨mk (.lf b e) (.lf a d),by simp [put,h1,h2],QeO gb gl hd,by simp [mk,T.ds,insK,h1],fun Q n w1 w2=>QcT hd w1 (QcU w2)⟩
 | @nd q k l r hl hr h1 h2 h3 h4 h5 ihl ihr =>
  have G:Good (.nd q k l r):=.nd hl hr h1 h2 h3 h4 h5
  have tin:=Qbd G
  have L:(T.nd q k l r).lo=q * 2 ^ (k + 1):=rfl
  have S:(T.nd q k l r).sz=2 ^ (k + 1):=rfl
  have pk:=Nat.two_pow_pos k
  have e2:2 ^ (k + 1)=2 ^ k * 2:=Nat.pow_succ ..
  by_cases c1:a < q * 2 ^ (k + 1)
  ·have hd:(T.lf a d).lo + (T.lf a d).sz<=(T.nd q k l r).lo:=by lia
   refine ⟨mk (.lf a d) (.nd q k l r),by simp [put,c1],QeO gl G hd,?_,fun Q n w1 w2=>QcT hd (QcU w2) w1⟩
   rw [Qe4 fun p hp=>by have:=tin p hp;lia]
   rfl
  ·by_cases c2:q * 2 ^ (k + 1) + 2 ^ (k + 1)<=a
   ·have hd:(T.nd q k l r).lo + (T.nd q k l r).sz<=(T.lf a d).lo:=by lia
    refine ⟨mk (.nd q k l r) (.lf a d),by simp [put,c1,c2],QeO G gl hd,?_,fun Q n w1 w2=>QcT hd w1 (QcU w2)⟩
    rw [QgI fun p hp=>by have:=tin p hp;lia]
    rfl
   ·have ek:q * 2 ^ (k + 1)=2 * q * 2 ^ k:=by rw [e2,Nat.mul_comm (2 ^ k) 2,← Nat.mul_assoc,Nat.mul_comm q 2]
    by_cases c3:a < q * 2 ^ (k + 1) + 2 ^ k
    ·obtain ⟨l',P⟩:=ihl fun p hp=>hn p (List.mem_append_left _ hp)
     have wl:Within l' (2 * q) k:=P.win (2 * q) k ⟨by lia,by lia⟩ (Bt.in_block.mpr ⟨by lia,by lia⟩)
     have G':Good (.nd q k l' r):=.nd P.good hr (by have:=wl.1;lia) (by have:=wl.2;lia) h3 h4 h5
     have em:=Qky G'
     refine ⟨.nd q k l' r,?_,G',?_,fun Q n w1 _=>w1⟩
     ·simp [put,c1,c2,c3,P.eq,em]
     ·show l'.ds++r.ds=insK a d (l.ds++r.ds)
      rw [Qgp fun p hp=>by have:=Qbd hr p hp;lia,P.ds]
    ·obtain ⟨r',P⟩:=ihr fun p hp=>hn p (List.mem_append_right _ hp)
     have eb:(2 * q + 1) * 2 ^ k=q * 2 ^ (k + 1) + 2 ^ k:=by rw [Nat.add_mul,Nat.one_mul,ek]
     have wr:Within r' (2 * q + 1) k:=P.win (2 * q + 1) k ⟨by lia,by lia⟩ (Bt.in_block.mpr ⟨by lia,by lia⟩)
     have G':Good (.nd q k l r'):=.nd hl P.good h1 h2 (by have:=wr.1;lia) (by have:=wr.2;lia) h5
     have em:=Qky G'
     refine ⟨.nd q k l r',?_,G',?_,fun Q n w1 _=>w1⟩
     ·simp [put,c1,c2,c3,P.eq,em]
     ·show l.ds++r'.ds=insK a d (l.ds++r.ds)
      rw [QfL fun p hp=>by have:=Qbd hl p hp;lia,P.ds]
theorem QeV {a:Nat} {d:D}:∀ t:T,put a d t≠none->Good t->∀ p∈t.ds,p.1≠a
 | .lf b e,h,_=>fun p hp z=>by
  simp [T.ds] at hp
  subst hp
  simp at z
  subst z
  simp [put] at h
 | .nd q k l r,h,G=>fun p hp z=>by
  have tin:=Qbd G p hp
  have L:(T.nd q k l r).lo=q * 2 ^ (k + 1):=rfl
  have S:(T.nd q k l r).sz=2 ^ (k + 1):=rfl
  cases G with
  | nd hl hr h1 h2 h3 h4 h5 =>
   have n1:¬ a < q * 2 ^ (k + 1):=by lia
   have n2:¬ q * 2 ^ (k + 1) + 2 ^ (k + 1)<=a:=by lia
   simp only [put,if_neg n1,if_neg n2] at h
   rcases List.mem_append.mp hp with hp | hp
   ·have:=Qbd hl p hp
    rw [if_pos (by lia)] at h
    exact QeV l (fun z=>h (by rw [z];rfl)) hl p hp z
   ·have:=Qbd hr p hp
    rw [if_neg (by lia)] at h
    exact QeV r (fun z=>h (by rw [z];rfl)) hr p hp z
end Tr
namespace Tr
open DL
instance (t:T) (Q n:Nat):Decidable (Within t Q n):=by unfold Within;infer_instance
def dsO:Option T->List (Nat×D)
 | some t=>t.ds
 | none=>[]
end Tr
namespace Tr
open DL
section
variable {τ:Type} (en:τ->D) (lone:Nat->D->τ) (join:τ->τ->τ)
def tv:T->τ
 | .lf a d=>lone a d
 | .nd _ _ l r=>join (tv l) (tv r)
def enc:T->D
 | .lf a d=>.tup [.int (a:Int),.int 1,en (lone a d),d]
 | .nd q k l r=>.tup [.int ((q * 2 ^ (k + 1):Nat):Int),.int ((2 ^ (k + 1):Nat):Int),en (join (tv lone join l) (tv lone join r)),enc l,enc r]
def encO:Option T->D
 | some t=>enc en lone join t
 | none=>.non
theorem QbF:∀ t:T,∃ r,enc en lone join t=.tup (.int (t.lo:Int)::.int (t.sz:Int)::en (tv lone join t)::r)
 | .lf a d=>⟨[d],by simp [enc,tv,T.lo,T.sz,T.q,T.e]⟩
 | .nd q k l r=>⟨_,rfl⟩
theorem QpG {l r:T} (h:l.lo < r.lo):enc en lone join (mk l r)=.tup [.int ((l.lo / 2 ^ Bt.bits (l.lo ^^^ r.lo) * 2 ^ Bt.bits (l.lo ^^^ r.lo):Nat):Int),.int ((2 ^ Bt.bits (l.lo ^^^ r.lo):Nat):Int),en (join (tv lone join l) (tv lone join r)),enc en lone join l,enc en lone join r]:=by
 have hp:=Bt.bits_pos h
 have e:Bt.bits (l.lo ^^^ r.lo) - 1 + 1=Bt.bits (l.lo ^^^ r.lo):=by lia
 show D.tup [.int ((l.lo / 2 ^ Bt.bits (l.lo ^^^ r.lo) * 2 ^ (Bt.bits (l.lo ^^^ r.lo) - 1 + 1):Nat):Int),.int ((2 ^ (Bt.bits (l.lo ^^^ r.lo) - 1 + 1):Nat):Int),_,_,_]=_
 rw [e]
theorem depth {t:T} (h:Good t):t.e<=30:=by
 refine Nat.le_of_not_lt fun z=>?_
 have u:=h.up
 have:(2:Nat) ^ 31<=2 ^ t.e:=Nat.pow_le_pow_right (by decide) z
 have h31:(2:Nat) ^ 31=2147483648:=by decide
 have:t.sz=2 ^ t.e:=rfl
 have:all=1073741824:=rfl
 lia
theorem Qmi {q k:Nat} {l r:T} (G:Good (.nd q k l r)):Good l/\Good r/\l.e<=k/\r.e<=k/\l.lo + l.sz<=r.lo:=by
 cases G with
 | nd hl hr h1 h2 h3 h4 h5 =>
  have pk:=Nat.two_pow_pos k
  refine ⟨hl,hr,?_,?_,by lia⟩
  ·refine Nat.le_of_not_lt fun z=>?_
   have:=Nat.pow_lt_pow_right (a:=2) (by decide) z
   have:l.sz=2 ^ l.e:=rfl
   lia
  ·refine Nat.le_of_not_lt fun z=>?_
   have:=Nat.pow_lt_pow_right (a:=2) (by decide) z
   have:r.sz=2 ^ r.e:=rfl
   have:2 ^ (k + 1)=2 ^ k * 2:=Nat.pow_succ ..
   lia
end
end Tr
namespace Tr
open DL PySem
theorem Qef {a:Nat} {d:D}:∀ l:List (Nat×D),(insK a d l).Perm ((a,d)::l)
 | []=>.refl _
 | p::l=>by
  simp only [insK]
  split
  ·exact .refl _
  ·exact ((Qef l).cons p).trans (.swap ..)
def Q4 (al:List (Nat×D)):List L2.Key:=al.map fun p=>.inl (p.1:Int)
def dict (al:List (Nat×D)):D:=.dic (Q4 al) (al.map (·.2))
theorem key_inj {a b:Nat}:((.inl (a:Int):L2.Key)=.inl (b:Int)) ↔ a=b:=by
 constructor
 ·intro h;injection h;lia
 ·intro h;rw [h]
theorem Qgx:∀ {al:List (Nat×D)} {a:Nat},(∀ p∈al,p.1≠a)->dGet (Q4 al) (al.map (·.2)) (.inl (a:Int))=none
 | [],_,_=>rfl
 | p::al,a,h=>by
  have h1:¬ ((.inl (p.1:Int):L2.Key)=.inl (a:Int)):=fun z=>h p List.mem_cons_self (key_inj.mp z)
  simp only [Q4,List.map_cons,dGet]
  rw [if_neg h1]
  exact Qgx fun p hp=>h p (List.mem_cons_of_mem _ hp)
theorem QcW:∀ {al:List (Nat×D)} {p:Nat×D},(al.map (·.1)).Nodup->p∈al->dGet (Q4 al) (al.map (·.2)) (.inl (p.1:Int))=some p.2
 | x::al,p,hn,hp=>by
  simp only [Q4,List.map_cons,dGet]
  rw [List.map_cons,List.nodup_cons] at hn
  rcases List.mem_cons.mp hp with rfl | hp
  ·rw [if_pos rfl]
  ·have:¬ ((.inl (x.1:Int):L2.Key)=.inl (p.1:Int)):=fun z=>hn.1 (by rw [key_inj.mp z];exact List.mem_map_of_mem hp)
   rw [if_neg this]
   exact QcW hn.2 hp
theorem QlN {al:List (Nat×D)} {a:Nat}:((Q4 al).any fun k=>decide (k=.inl (a:Int)))=decide (∃ p∈al,p.1=a):=by
 rw [Bool.eq_iff_iff]
 simp only [List.any_eq_true,decide_eq_true_eq,Q4,List.mem_map]
 constructor
 ·rintro ⟨k,⟨p,hp,rfl⟩,h⟩
  exact ⟨p,hp,key_inj.mp h⟩
 ·rintro ⟨p,hp,h⟩
  exact ⟨_,⟨p,hp,rfl⟩,by rw [h]⟩
theorem Qkl (neg:Bool) (al:List (Nat×D)) (a:Nat) (h:∀ p∈al,p.1≠a):gDIn neg (.int (a:Int)) (dict al)=.ok (.bl neg):=by
 have e:=Qgx h
 simp only [gDIn,dict,keyD,Q4,List.length_map]
 simp only [Q4] at e
 rw [e]
 cases neg <;> simp
theorem Qie (neg:Bool) {al:List (Nat×D)} {p:Nat×D} (hn:(al.map (·.1)).Nodup) (hp:p∈al):gDIn neg (.int (p.1:Int)) (dict al)=.ok (.bl (!neg)):=by
 have e:=QcW hn hp
 simp only [gDIn,dict,keyD,Q4,List.length_map]
 simp only [Q4] at e
 rw [e]
 cases neg <;> simp
theorem Qkt {al:List (Nat×D)} {p:Nat×D} (hn:(al.map (·.1)).Nodup) (hp:p∈al):gDIx (dict al) (.int (p.1:Int))=.ok p.2:=by
 have e:=QcW hn hp
 simp only [gDIx,dict,keyD]
 rw [e]
theorem Qmg {al:List (Nat×D)} {a:Nat} {d:D} (h:∀ p∈al,p.1≠a):D.dic (QeD (Q4 al) (.inl (a:Int))) (Qew (Q4 al) (al.map (·.2)) (.inl (a:Int)) d)=dict (al++[(a,d)]):=by
 have hf:((Q4 al).any fun k=>decide (k=.inl (a:Int)))=false:=by
  rw [QlN]
  exact decide_eq_false fun ⟨p,hp,z⟩=>h p hp z
 have e1:QeD (Q4 al) (.inl (a:Int))=Q4 (al++[(a,d)]):=by
  unfold QeD
  rw [hf]
  simp [Q4]
 have e2:Qew (Q4 al) (al.map (·.2)) (.inl (a:Int)) d=(al++[(a,d)]).map (·.2):=by
  unfold Qew
  rw [hf]
  simp
 rw [e1,e2]
 rfl
structure Book (al:List (Nat×D)) (o:Option T):Prop where
 good:match o with | some t=>Good t | none=>True
 perm:(dsO o).Perm al
theorem Book.sorted {al:List (Nat×D)} {o:Option T} (b:Book al o):(dsO o).Pairwise (fun x y=>x.1 < y.1):=by
 cases o with
 | none=>exact .nil
 | some t=>exact Qlj b.good
theorem Book.put {al:List (Nat×D)} {o:Option T} (b:Book al o) {a:Nat} {d:D} {t:T} (hg:Good t) (hd:t.ds=insK a d (dsO o)):Book (al++[(a,d)]) (some t):=by
 refine ⟨hg,?_⟩
 show t.ds.Perm _
 rw [hd]
 exact (Qef _).trans ((b.perm.cons _).trans (List.perm_append_singleton ..).symm)
theorem Book.none_at {al:List (Nat×D)} {o:Option T} (b:Book al o) {a:Nat} (h:∀ p∈al,p.1≠a):∀ p∈dsO o,p.1≠a:=fun p hp=>h p (b.perm.mem_iff.mp hp)
end Tr
namespace Tr
open DL
end Tr
namespace Tr
open DL
def Qos:Option T->Option T->Option T
 | none,r=>r
 | l,none=>l
 | some l,some r=>some (mk l r)
def out (a:Nat):T->Option (Option T)
 | .lf b _=>if a=b then some none else none
 | .nd q k l r=>if a < q * 2 ^ (k + 1)\/q * 2 ^ (k + 1) + 2 ^ (k + 1)<=a then none
  else if a < q * 2 ^ (k + 1) + 2 ^ k then (out a l).map fun l'=>Qos l' (some r) else (out a r).map fun r'=>Qos (some l) r'
def but (a:Nat) (l:List (Nat×D)):List (Nat×D):=l.filter fun p=>decide (p.1≠a)
structure OutOk (a:Nat) (t:T) (o:Option T):Prop where
 eq:out a t=some o
 good:∀ s,o=some s->Good s
 ds:dsO o=but a t.ds
 win:∀ s,o=some s->∀ Q n,Within t Q n->Within s Q n
end Tr
namespace DL
open PySem PySem.Spec PyProof.Rows L2
section
variable {X:Cx}
def QoA:D->Option (Int×Int)
 | .tup [.int a,.int b]=>some (a,b)
 | _=>none
def gLtP (x y:D):Ou D:=match QoA x,QoA y with
 | some p,some q=>.ok (.bl (Tim.plt p q))
 | _,_=>.bad
end
@[simp] theorem e_ltP {a b c d:Int}:gLtP (.tup [.int a,.int b]) (.tup [.int c,.int d])=.ok (.bl (Tim.plt (a,b) (c,d))):=rfl
section
variable {X:Cx} {elt tg:Expr} {ifs:List Expr} {scope:Scope} {N':List Str} {k:Nat} {ix:List Nat} {pos:Pos} {g:D->DS->Ou DS} {gc:DS->Ou Bool} {fe fl fl2 fl3:Fn} {a b c:Expr} {p:Pos}
end
def Swp (a:Addr) (H H':Hp):Prop:=(∀ b,b≠a->H' b=H b)/\∃ kvs,Rd H a (.dK kvs)/\Rd H' a (.dK kvs)
section
variable {K:W.Frag} {B:Addr->Prop} {H H':Hp} {a:Addr}
theorem Swp.at_ (h:Swp a H H') {b:Addr} {o:HO} (e:H b=some o) (n:∀ kvs ob,o≠.dK kvs/\o≠.frz ob (.dK kvs)):H' b=some o:=by
 rw [h.1 b,e]
 rintro rfl
 obtain ⟨kvs,h1 | ⟨ob,h1⟩,_⟩:=h.2
 ·rw [h1] at e;cases e;exact (n kvs default).1 rfl
 ·rw [h1] at e;cases e;exact (n kvs ob).2 rfl
theorem Swp.rd (h:Swp a H H') {b:Addr} {kvs:List (Key×V)} (e:Rd H b (.dK kvs)):Rd H' b (.dK kvs):=by
 by_cases hb:b=a
 ·subst hb
  obtain ⟨kv2,h1,h2⟩:=h.2
  have:kv2=kvs:=by
   rcases e with e | ⟨o,e⟩ <;> rcases h1 with h1 | ⟨o',h1⟩ <;> rw [h1] at e <;> cases e <;> rfl
  rw [← this];exact h2
 ·rcases e with e | ⟨o,e⟩
  ·exact .inl (by rw [h.1 b hb];exact e)
  ·exact .inr ⟨o,by rw [h.1 b hb];exact e⟩
mutual
theorem Rep.swp (h:Swp a H H'):∀ (d:D) (v:V),Rep K B H d v->Rep K B H' d v
 | .non,_,r=>by simpa [Rep] using r
 | .bl _,_,r=>by simpa [Rep] using r
 | .int _,_,r=>by simpa [Rep] using r
 | .str _,_,r=>by simpa [Rep] using r
 | .tup ds,v,r=>by
  simp only [Rep] at r ⊢
  obtain ⟨b,xs,e,h1,h2⟩:=r
  refine ⟨b,xs,e,?_,Reps.swp h ds xs h2⟩
  rcases h1 with (h1 | ⟨o,h1⟩) | h1
  ·exact .inl (.inl (h.at_ h1 (by simp)))
  ·exact .inl (.inr ⟨o,h.at_ h1 (by simp)⟩)
  ·exact .inr h1
 | .lst ds,v,r=>by
  simp only [Rep] at r ⊢
  obtain ⟨b,xs,e,hb,h1,h2⟩:=r
  exact ⟨b,xs,e,hb,h.at_ h1 (by simp),Reps.swp h ds xs h2⟩
 | .frl ds,v,r=>by
  simp only [Rep] at r ⊢
  obtain ⟨b,xs,e,h1,h2⟩:=r
  refine ⟨b,xs,e,?_,Reps.swp h ds xs h2⟩
  rcases h1 with ⟨o,h1⟩ | h1
  ·exact .inl ⟨o,h.at_ h1 (by simp)⟩
  ·exact .inr h1
 | .dic ks ds,v,r=>by
  simp only [Rep] at r ⊢
  obtain ⟨b,kvs,e,hb,h1,hk,h2⟩:=r
  exact ⟨b,kvs,e,hb,h.rd h1,hk,Reps.swp h ds _ h2⟩
 | .obj c,v,r=>by
  simp only [Rep] at r ⊢
  obtain ⟨b,C,dx,e,hn,hb,h1⟩:=r
  exact ⟨b,C,dx,e,hn,hb,h.at_ h1 (by simp)⟩
 | .dip ks ds,v,r=>by
  simp only [Rep] at r ⊢
  obtain ⟨b,kvs,e,hb,h1,hk,h2⟩:=r
  exact ⟨b,kvs,e,hb,h.at_ h1 (by simp),hk,Reps.swp h ds _ h2⟩
 | .exc c ks ds,v,r=>by
  simp only [Rep] at r ⊢
  obtain ⟨b,C,dx,fs,e,hn,hb,⟨φ,h1,h2⟩,hk,h3,h4⟩:=r
  refine ⟨b,C,dx,fs,e,hn,hb,⟨φ,h.at_ h1 (by simp),h2⟩,hk,?_,Reps.swp h ds _ h4⟩
  rcases h3 with h3 | ⟨d,h5,h6,h7⟩
  ·exact .inl h3
  ·exact .inr ⟨d,h5,h6,h.at_ h7 (by simp)⟩
theorem Reps.swp (h:Swp a H H'):∀ (ds:List D) (vs:List V),Reps K B H ds vs->Reps K B H' ds vs
 | [],_,r=>by simpa [Reps] using r
 | d::ds,vs,r=>by
  simp only [Reps] at r ⊢
  obtain ⟨v,q,e,h1,h2⟩:=r
  exact ⟨v,q,e,Rep.swp h d v h1,Reps.swp h ds q h2⟩
end
theorem RepO.swp (h:Swp a H H') {d:D} {o:HO} (r:RepO K B H d o):RepO K B H' d o:=by
 cases d <;> first | exact r.elim | skip
 ·obtain ⟨xs,h1,h2⟩:=r
  exact ⟨xs,h1,Reps.swp h _ _ h2⟩
 ·obtain ⟨kvs,h1,h2,h3⟩:=r
  exact ⟨kvs,h1,h2,Reps.swp h _ _ h3⟩
 ·obtain ⟨kvs,h1,h2,h3⟩:=r
  exact ⟨kvs,h1,h2,Reps.swp h _ _ h3⟩
theorem Abs.swp {c:Cn} {σ:St} {δ:DS} (ab:Abs c σ δ H) (h:Swp a H H') {H₀:Hp} (hs:Same H₀ H') (no:∀ p,Own σ δ p->p≠a) (hz:∀ p,p≠a->c.H₀ p=none->H₀ p=none):Abs { c with H₀:=H₀ } σ δ H':=by
 refine ⟨hs,fun b e=>?_,ab.len,fun i d e=>?_,fun i ds e=>?_,fun d v e=>Rep.swp h _ _ (ab.gho d v e),ab.inj,ab.pin⟩
 ·by_cases hb:b=a
  ·subst hb
   obtain ⟨kvs,_,h1 | ⟨o,h1⟩⟩:=h.2 <;> rw [h1] at e <;> cases e
  ·rw [h.1 b hb] at e;exact ab.fr b e
 ·obtain ⟨v,h1,h2⟩:=ab.val i d e
  exact ⟨v,h1,Rep.swp h _ _ h2⟩
 ·obtain ⟨p,xs,h1,h2,h3,h4⟩:=ab.own i ds e
  have hp:=no p ⟨i,ds,e,h1⟩
  exact ⟨p,xs,h1,by rw [h.1 p hp];exact h2,⟨hz p hp h3.1,h3.2⟩,RepO.swp h h4⟩
end
def Th (H0:Hp) (P:Hp->Prop):Hp->Prop:=fun H=>P H\/∃ a o kvs,H a=some (.frz o (.dK kvs))/\(∀ o u,H0 a≠some (.frz o u))/\P (upd H a (.dK kvs))
def thE (H0:Hp) (D:Ends):Ends:=⟨fun σ=>Th H0 (D.nx σ),fun v=>Th H0 (D.rt v),fun σ=>Th H0 (D.bk σ),fun σ=>Th H0 (D.ct σ)⟩
section
variable {X:Cx} {pins:List (Addr×Obj)} {σ:St} {H:Hp} {s:Shared}
theorem Inv.melt {a:Addr} {o:Obj} {kvs:List (Key×V)} (I:Inv X pins σ H s) (e:H a=some (.frz o (.dK kvs))) (n:∀ o u,X.H₀ a≠some (.frz o u)):Inv X pins σ (upd H a (.dK kvs)) s:=by
 have ne:∀ b,H b=none->b≠a:=fun b hb z=>by rw [z,e] at hb;cases hb
 have ne2:∀ b u,H b=some u->(∀ o v,u≠.frz o v)->b≠a:=fun b u hb hu z=>by rw [z,e] at hb;cases hb;exact hu _ _ rfl
 refine ⟨I.ok,I.os,I.bare,⟨I.base.keep,I.base.slot,fun b ob z q hx=>?_,I.base.there,fun b xs z=>?_,fun b ob u z=>?_,fun b ps z=>?_⟩,I.loc,I.cell,?_,fun x c z=>?_,fun p hp=>?_,fun b ob z=>?_,I.len⟩
 ·have:=I.base.free b ob z q hx
  rw [Ql (ne b this)];exact this
 ·have:=I.base.tups b xs z
  rw [Ql (ne2 b _ this (by simp))];exact this
 ·have:=I.base.frzs b ob u z
  by_cases hb:b=a
  ·subst hb;exact absurd z (n _ _)
  ·rw [Ql hb];exact this
 ·obtain ⟨more,this⟩:=I.base.tbls b ps z
  exact ⟨more,by rw [Ql (ne2 b _ this (by simp))];exact this⟩
 ·rw [Ql (ne _ I.free)];exact I.free
 ·rw [Ql (ne _ (I.freeC x c z))];exact I.freeC x c z
 ·obtain ⟨z,q,r⟩:=I.pin p hp
  exact ⟨z,by rw [Ql (ne _ q)];exact q,r⟩
 ·have st:∀ {b:Addr} {u:HO},ObjOk X.prog X.w H s.heap b u->ObjOk X.prog X.w (upd H a (.dK kvs)) s.heap b u:=fun {b u} x=>x.stay (fun _ _ _ q=>q) (fun c q=>by rw [Ql (ne2 c _ q (by simp))];exact q) fun c xs q=>by rw [Ql (ne2 c _ q (by simp))];exact q
  by_cases hb:b=a
  ·subst hb
   rw [Qm] at z
   cases z
   exact st (show ObjOk X.prog X.w H s.heap b (.dK kvs) from (show ObjOk X.prog X.w H s.heap b (.frz o (.dK kvs)) from I.hok b _ e).2)
  ·rw [Ql hb] at z
   exact st (I.hok b ob z)
theorem Inv.th {P:Hp->Prop} (I:Inv X pins σ H s) (h:Th X.H₀ P H):∃ H',Inv X pins σ H' s/\P H':=by
 rcases h with h | ⟨a,o,kvs,e,n,h⟩
 ·exact ⟨H,I,h⟩
 ·exact ⟨_,Inv.melt I e n,h⟩
theorem ps_th {st:Stmt} {t:TS} (h:PS X st t):PS X st (fun D=>t (thE X.H₀ D)):=fun pins s σ H D I q=>by
 refine thn (h pins s σ H _ I q) fun f s' z=>?_
 cases f with
 | next =>
  obtain ⟨σ',H',I',z⟩:=z
  obtain ⟨H2,I2,z⟩:=Inv.th I' z
  exact ⟨σ',H2,I2,z⟩
 | brk =>
  obtain ⟨σ',H',I',z⟩:=z
  obtain ⟨H2,I2,z⟩:=Inv.th I' z
  exact ⟨σ',H2,I2,z⟩
 | cont =>
  obtain ⟨σ',H',I',z⟩:=z
  obtain ⟨H2,I2,z⟩:=Inv.th I' z
  exact ⟨σ',H2,I2,z⟩
 | ret u =>
  obtain ⟨v,σ',H',I',r,z⟩:=z
  obtain ⟨H2,I2,z⟩:=Inv.th I' z
  exact ⟨v,σ',H2,I2,r,z⟩
def QpS (H0:Hp) (te:TE):TI:=fun σ H R=>te σ H fun v H1=>∃ a kvs,v=.ref a/\((H1 a=some (.dK kvs)/\∀ o,(∀ o u,H0 a≠some (.frz o u))->R (Itd a o kvs) (upd H1 a (.frz o (.dK kvs))))\/∃ o,H1 a=some (.frz o (.dK kvs))/\R (Itd a o kvs) H1)
theorem QlL {l tg:Expr} {tl:TE} (hl:PE X l tl):PI X tg l (QpS X.H₀ tl):=by
 intro pins s σ H R I h
 refine thn (hl pins s σ H _ I h) fun v s1 ⟨y,H1,I1,r1,q1⟩=>?_
 obtain ⟨a,kvs,rfl,q⟩:=q1
 cases r1
 suffices fin:∃ (o:Obj) (H2:Hp),Inv X pins σ H2 s1/\H2 a=some (.frz o (.dK kvs))/\R (Itd a o kvs) H2 by
  obtain ⟨o,H2,I2,e2,q⟩:=fin
  obtain ⟨ho,hz,lo,vs,rel,dd⟩:=(show ObjOk X.prog X.w H2 s1.heap a (.frz o (.dK kvs)) from I2.hok a _ e2)
  obtain ⟨ep,o',es,g1,g2,g3,g4⟩:=id dd.dictAt
  rw [ho] at g1
  cases g1
  have hat:s1.heap.DictAt (QG X.prog X.w) a vs ep:=⟨o,es,ho,g2,g3,g4⟩
  refine wpAny_pyIter_dict lo hat ?_
  have hf:H2 s1.heap.objs.size=none:=I2.hok.fresh (Nat.le_refl _)
  refine ⟨s1.heap.objs.size,[s1.heap.objs.size],_,_,H2,rfl,I2.kept (t':=s1.toks) fun b o e=>Heap.get?_push_of_some _ e,Qlu (tg:=tg) g3,⟨_,Heap.get?_push_size _ rfl,rfl,by rw [rel.length];rfl⟩,fun b hb=>?_,q⟩
  have e:b=s1.heap.objs.size:=by simpa using hb
  subst e
  exact I2.fpOk (Nat.le_refl _) hf
 rcases q with ⟨ha,q⟩ | ⟨o,ha,q⟩
 ·obtain ⟨hz,lo,vs,rel,dd⟩:=Qid I1.hok ha
  obtain ⟨ep,o,es,g1,g2,g3,g4⟩:=id dd.dictAt
  have I2:Inv X pins σ (upd H1 a (.frz o (.dK kvs))) s1:=by
   have:=I1.write (x:=a) (e:=a) (o:=.frz o (.dK kvs)) (h':=s1.heap) (t':=s1.toks) (by rw [ha];exact trivial) (.inl rfl) (fun _ _ _ e=>e) ⟨o,g1⟩ ⟨g1,show ObjOk X.prog X.w (upd H1 a (.frz o (.dK kvs))) s1.heap a (.dK kvs) from ⟨hz,lo,vs,rel,dd⟩⟩
   exact this
  exact ⟨o,_,I2,Qm,q o fun o' u z=>by have:=I1.base.frzs a o' u z;rw [ha] at this;cases this⟩
 ·exact ⟨o,H1,I1,ha,q⟩
end
def QkB (fl:Fn) (g:D->DS->Ou DS) (body:Sm):Sm:=fun δ=>(fl δ).bind fun d=>match d with
 | .dic ks _=>forL g body (ks.map kD) δ
 | _=>.bad
section
variable {X:Cx} {F:Sm} {pos:Pos}
theorem QpC {c:Cn} {p:Addr} {o:Obj} {kvs:List (Key×V)} {gh:List (DL.D×V)} (hp:c.H₀ p=some (.frz o (.dK kvs))):(∀ (j:Nat) (σ:St) (δ:DS) (H:Hp) (d:DL.D),Abs { c with G:=gh } σ δ H->((kvs.map (·.1)).map kD)[j]? = some d->(Itd p o kvs).go j H/\∀ x H',(Itd p o kvs).yld j H x H'->H'=H/\Rep c.K (Av c σ δ) H d x) /\
  ∀ (σ:St) (δ:DS) (H:Hp),Abs { c with G:=gh } σ δ H->(Itd p o kvs).stop ((kvs.map (·.1)).map kD).length H:=by
 refine ⟨fun j σ δ H d z hd=>?_,fun σ δ H z=>⟨z.same p _ hp,by rw [List.length_map,List.length_map];exact Nat.le_refl _⟩⟩
 have hH:H p=some (.frz o (.dK kvs)):=z.same p _ hp
 rw [List.getElem?_map] at hd
 cases ek:(kvs.map (·.1))[j]? with
 | none=>rw [ek] at hd;cases hd
 | some k =>
  rw [ek] at hd
  obtain rfl:kD k=d:=by simpa using hd
  have hj:=(List.getElem?_eq_some_iff.mp ek).1
  rw [List.length_map] at hj
  refine ⟨⟨hH,hj⟩,fun y H' w=>⟨w.1,?_⟩⟩
  obtain ⟨_,k',w1,rfl⟩:=w
  rw [ek] at w1;cases w1
  cases k <;> simp [kD,kV,Rep]
theorem QnX {tg iter:Expr} {body:List Stmt} {fl:Fn} {g:D->DS->Ou DS} (hp:PassesOwn (model X.prog X.w) X.A X.env X.xe) (hc:X.calm=true) (hi:PE X iter (tX X.K E0 .S fl)) (hg:PG X tg (tG X.K E0 g)) (hb:PSs X body (tS X.K E0 false F))
  (hs:∀ x,foldedSetIterable iter X.env x=pure x:=by intro _;rfl):PS X (.For tg iter body [] pos) (tS X.K E0 false (QkB fl g F)) :=
 (ps_th (Qd5 hp hc (QlL hi) hg hb hs)).imp fun D σ H q=>by
 obtain ⟨c,δ,hK,ab,q⟩:=q
 have hP:=ab.none rfl
 have hpi:=ab.pi
 refine ⟨c,δ,hK,ab,(Res.bind q).imp fun d hd0 k v H1 e1 r1=>?_⟩
 have r1':Rep c.K (Av c σ δ) H1 d v:=r1
 cases d <;> first | exact k.elim | skip
 rename_i ks ds
 simp only [Rep] at r1'
 obtain ⟨a,kvs,rfl,av,rd,rfl,rs⟩:=r1'
 have k':Res X.K E0 c.H₀ (forL g F ((kvs.map (·.1)).map kD) δ) (EndP c false D):=k
 have ab1:=ab.grow e1
 refine ⟨a,kvs,rfl,?_⟩
 have run:∀ (o:Obj) (H2:Hp) (bk:Hp->Hp),Abs { c with H₀:=upd c.H₀ a (.frz o (.dK kvs)) } σ δ H2->(∀ H',H' a=some (.frz o (.dK kvs))->Swp a H' (bk H'))->(∀ H',Same (upd c.H₀ a (.frz o (.dK kvs))) H'->Same c.H₀ (bk H'))->(∀ (P:Hp->Prop) (H':Hp),H' a=some (.frz o (.dK kvs))->P (bk H')->Th X.H₀ P H')->_:=fun o H2 bk ab2 hsw sam th=>by
  have gs:=QpC (c:={ c with H₀:=upd c.H₀ a (.frz o (.dK kvs)) }) (p:=a) (o:=o) (kvs:=kvs) (gh:=c.G) Qm
  have back:∀ {σ':St} {δ':DS} {H':Hp},Abs { c with H₀:=upd c.H₀ a (.frz o (.dK kvs)) } σ' δ' H'->H' a=some (.frz o (.dK kvs))/\Abs c σ' δ' (bk H'):=fun {σ' δ' H'} z=>by
   have e:=z.same a _ Qm
   refine ⟨e,Abs.swp (c:={ c with H₀:=upd c.H₀ a (.frz o (.dK kvs)) }) z (hsw _ e) (sam _ z.same) (fun p ⟨i,ds,h1,h2⟩ w=>?_) fun p hp h0=>?_⟩
   ·obtain ⟨p',xs,z1,_,z2,_⟩:=z.own i ds h1
    rw [h2] at z1
    cases z1
    have z3:upd c.H₀ a (.frz o (.dK kvs)) p=none:=z2.1
    rw [w,Qm] at z3
    cases z3
   ·have h1:upd c.H₀ a (.frz o (.dK kvs)) p=none:=h0
    rwa [Ql hp] at h1
  exact QcQ (c:={ c with H₀:=upd c.H₀ a (.frz o (.dK kvs)) }) (gh:=c.G) (J:=Itd a o kvs) (D:=thE X.H₀ D) (K:=X.K) (E:=E0) (fr:=false) (g:=g) (body:=F) (fun _ _ _ _ z=>z) (fun _ _ _ z=>z) hK (fun _ z=>z) (ds:=(kvs.map (·.1)).map kD) ab2 (by
   cases hr:forL g F ((kvs.map (·.1)).map kD) δ with
   | bad=>rw [hr] at k';exact k'.elim
   | ex e=>rw [hr] at k';obtain ⟨_,_,z⟩:=k';exact (z _ (Same.refl _)).elim
   | ok fl =>
    rw [hr] at k'
    cases fl with
    | nx δ'=>exact fun σ' H' z=>th _ _ (back z).1 (k' σ' _ (back z).2)
    | bk δ'=>exact fun σ' H' z=>th _ _ (back z).1 (k' σ' _ (back z).2)
    | ct δ'=>exact fun σ' H' z=>th _ _ (back z).1 (k' σ' _ (back z).2)
    | rt d =>
     refine fun v H' z w=>?_
     have e:=z a _ Qm
     exact th _ _ e (k' v _ (sam _ z) (.of hP (Rep.swp (hsw _ e) _ _ (by unfold RtM at w;simp only [hP] at w;exact w))))) gs.1 gs.2 hpi
 have nown:∀ p,Own σ δ p->p≠a:=fun p ow e=>av.2 (e ▸ ow)
 have hz:∀ (o:Obj) p,p≠a->c.H₀ p=none->upd c.H₀ a (.frz o (.dK kvs)) p=none:=fun o p hp h0=>by rw [Ql hp];exact h0
 rcases rd with rd | ⟨o,rd⟩
 ·refine .inl ⟨rd,fun o nf=>run o _ (fun H'=>upd H' a (.dK kvs)) (Abs.swp ab1 ⟨fun b hb=>Ql hb,kvs,.inl rd,.inr ⟨o,Qm⟩⟩ (fun b u e=>?_) nown (hz o)) (fun H' e=>⟨fun b hb=>Ql hb,kvs,.inr ⟨o,e⟩,.inl Qm⟩) (fun H' z b u e=>?_) fun P H' e p=>.inr ⟨a,o,kvs,e,nf,p⟩⟩
  ·show upd H1 a (.frz o (.dK kvs)) b=some u
   by_cases hb:b=a
   ·subst hb;rw [Qm] at e ⊢;exact e
   ·rw [Ql hb] at e ⊢;exact ab1.same b u e
  ·show upd H' a (.dK kvs) b=some u
   by_cases hb:b=a
   ·subst hb
    have h1:=ab1.same b u e
    rw [rd] at h1
    rw [Qm];exact h1
   ·rw [Ql hb];exact z b u (by rw [Ql hb];exact e)
 ·refine .inr ⟨o,rd,run o _ id (Abs.swp ab1 ⟨fun b hb=>rfl,kvs,.inr ⟨o,rd⟩,.inr ⟨o,rd⟩⟩ (fun b u e=>?_) nown (hz o)) (fun H' e=>⟨fun b hb=>rfl,kvs,.inr ⟨o,e⟩,.inr ⟨o,e⟩⟩) (fun H' z b u e=>?_) fun P H' e p=>.inl p⟩
  ·by_cases hb:b=a
   ·subst hb;rw [Qm] at e;rw [rd];exact e
   ·rw [Ql hb] at e;exact ab1.same b u e
  ·by_cases hb:b=a
   ·subst hb
    have h1:=ab1.same b u e
    rw [rd] at h1
    exact z b u (by rw [Qm];exact h1)
   ·exact z b u (by rw [Ql hb];exact e)
end
def del (H:Hp) (p:Addr):Hp:=fun a=>if a=p then none else H a
theorem QhR {H:Hp} {p:Addr}:del H p p=none:=if_pos rfl
theorem Qjw {H:Hp} {p a:Addr} (h:a≠p):del H p a=H a:=if_neg h
theorem Qm6 (H:Hp) (p:Addr):Same (del H p) H:=fun a o h=>by
 by_cases e:a=p
 ·subst e;rw [QhR] at h;cases h
 ·rw [Qjw e] at h;exact h
theorem Abs.mutH {c:Cn} {σ:St} {δ:DS} {H H':Hp} {i:Nat} {ds ds':D} {p:Addr} {xs':HO} (a:Abs c σ δ H) (h:δ[i]? = some (Sl.own ds)) (hs:σ[i]? = some (some (V.ref p))) (sm:Same (del H p) H') (hp':H' p=some xs') (r:RepO c.K (Av c σ δ) H' ds' xs') :
  Abs c σ (δ.set i (.own ds')) H':=by
 have ow:Own σ δ p:=⟨i,ds,h,hs⟩
 have oi:∀ {q},Own σ (δ.set i (.own ds')) q->Own σ δ q:=fun {q} o=>by
  obtain ⟨j,es,h1,h2⟩:=o
  rcases Qv h1 with ⟨rfl,_,_⟩ | ⟨_,h1⟩
  ·exact ⟨j,ds,h,h2⟩
  ·exact ⟨j,es,h1,h2⟩
 have av:∀ q,Av c σ δ q->Av c σ (δ.set i (.own ds')) q:=fun q z=>⟨z.1,fun o=>z.2 (oi o)⟩
 have hne:∀ q,Av c σ δ q->q≠p:=fun q z e=>by subst e;exact z.2 ow
 obtain ⟨p',ys,g1,g2,g3,g4⟩:=a.own i ds h
 rw [hs] at g1;cases g1
 have go:∀ {q:Addr} {o:HO},q≠p->H q=some o->H' q=some o:=fun n e=>sm _ _ (by rw [Qjw n];exact e)
 have st:Stay c.K (Av c σ δ) H H':=⟨fun q ys z=>by
   rcases z with (z | ⟨o,z⟩) | z
   ·exact .inl (.inl (go (Qbt z g2 (g4.noT _)) z))
   ·exact .inl (.inr ⟨o,go (Qbt z g2 (g4.noF _ _)) z⟩)
   ·exact .inr z,fun q ys z=>by
   rcases z with ⟨o,z⟩ | z
   ·exact .inl ⟨o,go (Qbt z g2 (g4.noF _ _)) z⟩
   ·exact .inr z,fun q o z w=>go (hne q z) w⟩
 have up:∀ d v,Rep c.K (Av c σ δ) H d v->Rep c.K (Av c σ (δ.set i (.own ds'))) H' d v:=fun d v z=>Rep.mono (fun q _ w _=>av q w) st d v z
 have ups:∀ d v,RepO c.K (Av c σ δ) H d v->RepO c.K (Av c σ (δ.set i (.own ds'))) H' d v:=fun d v z=>RepO.mono (fun q _ w _=>av q w) st z
 refine ⟨fun b o z=>go (QQ z g3.1) (a.same b o z),fun b z=>a.fr b ?_,by rw [List.length_set];exact a.len,fun j d' z=>?_,fun j es z=>?_,fun d' v' z=>up _ _ (a.gho d' v' z),fun j k dj dk q h1 h2 h3 h4=>?_,fun j q hP d' z=>?_⟩
 ·by_cases hb:b=p
  ·subst hb;rw [hp'] at z;cases z
  ·cases e:H b with
   | none=>rfl
   | some o=>rw [go hb e] at z;cases z
 ·rcases Qv z with ⟨_,w,_⟩ | ⟨ne,z⟩
  ·cases w
  ·obtain ⟨u,z1,z2⟩:=a.val j d' z
   exact ⟨u,z1,up _ _ z2⟩
 ·rcases Qv z with ⟨rfl,w,_⟩ | ⟨ne,z⟩
  ·cases w
   exact ⟨p,xs',hs,hp',g3,r.weak av⟩
  ·obtain ⟨q,zs,z1,z2,z3,z4⟩:=a.own j es z
   exact ⟨q,zs,z1,go (fun w=>ne (a.inj j i es ds p z h (by rw [← w];exact z1) hs)) z2,z3,ups _ _ z4⟩
 ·have gi:∀ {j:Nat} {dj:D},(δ.set i (.own ds'))[j]? = some (Sl.own dj)->∃ dj',δ[j]? = some (Sl.own dj'):=fun {j dj} z=>by
   rcases Qv z with ⟨rfl,_,_⟩ | ⟨_,z⟩
   ·exact ⟨ds,h⟩
   ·exact ⟨_,z⟩
  obtain ⟨dj',h1⟩:=gi h1
  obtain ⟨dk',h2⟩:=gi h2
  exact a.inj j k dj' dk' q h1 h2 h3 h4
 ·rcases Qv z with ⟨rfl,_,_⟩ | ⟨_,z⟩
  ·exact a.pin j q hP ds h
  ·exact a.pin j q hP d' z
def spM (K:W.Frag) (n j:Nat) (mm:List D->Ou D):Sp:=fun vs H Q _=>∃ (B:Addr->Prop) (ds:List D) (p:Addr) (o:HO) (dO:D),ds.length=n/\vs.length=n/\ds[j]? = some dO/\vs[j]? = some (V.ref p)/\H p=some o/\RepO K (fun a=>B a/\a≠p) H dO o /\
 (∀ (i:Nat) (d:D),i≠j->ds[i]? = some d->∃ v,vs[i]? = some v/\Rep K (fun a=>B a/\a≠p) H d v) /\
 Res K E0 (del H p) (mm ds) fun r=>∀ v H' dv dO' o',r=.tup [dv,dO']->Same (del H p) H'->Rep K (fun a=>(B a\/H a=none)/\a≠p) H' dv v->H' p=some o'->RepO K (fun a=>(B a\/H a=none)/\a≠p) H' dO' o'->Q v H'
structure DfM (P:Program) (w:World) (K:W.Frag) (mg:Str->Option Value) (base:Heap) (x:Str) (k:Nat) (ps:List Str) (j:Nat) (mm:List D->Ou D):Prop where
 ex:∃ f fd,FnOk P w K mg base CX0 k f fd ps (spM K ps.length j mm)/\Binds K fd ps []/\W.keepIn K (.ref f)=true/\mg x=some (.ref f)
def Qcl (j n:Nat) (ds:List D):DS:=match ds[j]? with
 | some d=>(QL n ds).set j (.own d)
 | none=>QL n ds
def runM (j n:Nat) (F:Sm) (ds:List D):Ou D:=(F (Qcl j n ds)).bind fun r=>match r with
 | .rt d=>.ok d
 | .nx δ=>(match δ[j]? with
  | some (.own dO)=>.ok (.tup [.non,dO])
  | _=>.bad)
 | _=>.bad
section
variable {P:Program} {w:World} {K:W.Frag} {mg:Str->Option Value} {base:Heap}
theorem DfM.mono {x:Str} {i k j:Nat} {ps:List Str} {mm:List D->Ou D} (h:DfM P w K mg base x i ps j mm) (hj:i<=k):DfM P w K mg base x k ps j mm:=by
 obtain ⟨f,fd,h1,h2⟩:=h.ex
 exact ⟨f,fd,h1.mono hj,h2⟩
theorem Qgn {n:Nat} {ds:List D} {i:Nat} {s:Sl} (h:(QL n ds)[i]? = some s):(∃ d,ds[i]? = some d/\s=.val d)\/s=.un:=by
 unfold QL at h
 rw [List.getElem?_append] at h
 split at h
 ·rw [List.getElem?_map] at h
  cases e:ds[i]? with
  | none=>rw [e] at h;cases h
  | some d=>rw [e] at h;exact .inl ⟨d,rfl,(Option.some.inj h).symm⟩
 ·rw [List.getElem?_replicate] at h
  split at h
  ·exact .inr (Option.some.inj h).symm
  ·cases h
theorem QgN {N:List Str} {vs:List V} {i:Nat} {v:V} (h:vs[i]? = some v):(L2.start N vs)[i]? = some (some v):=by
 unfold L2.start
 rw [List.getElem?_append_left (by rw [List.length_map];exact (List.getElem?_eq_some_iff.mp h).1),List.getElem?_map,h]
 rfl
theorem Qjm {N:List Str} {B:Addr->Prop} {H:Hp} {ds:List D} {vs:List V} {j:Nat} {p:Addr} {o:HO} {dO:D} (hv:vs.length=ds.length) (hl:ds.length<=N.length) (h1:ds[j]? = some dO) (h2:vs[j]? = some (V.ref p)) (h3:H p=some o) (h4:RepO K (fun a=>B a/\a≠p) H dO o)
  (h5:∀ (i:Nat) (d:D),i≠j->ds[i]? = some d->∃ v,vs[i]? = some v/\Rep K (fun a=>B a/\a≠p) H d v) :
  Abs { K:=K,B:=fun a=>B a\/H a=none\/a=p,H₀:=del H p,G:=[],P:=some (j,p) } (L2.start N vs) (Qcl j N.length ds) H:=by
 have em:Qcl j N.length ds=(QL N.length ds).set j (.own dO):=by unfold Qcl;rw [h1]
 rw [em]
 have hj:j < (QL N.length ds).length:=by
  have:=(List.getElem?_eq_some_iff.mp h1).1
  unfold QL
  rw [List.length_append,List.length_map];omega
 have hs:=QgN (N:=N) h2
 have one:∀ {i:Nat} {z:D},((QL N.length ds).set j (.own dO))[i]? = some (Sl.own z)->i=j/\z=dO:=fun {i z} h=>by
  rcases Qv h with ⟨e,z,_⟩ | ⟨_,h⟩
  ·cases z;exact ⟨e,rfl⟩
  ·rcases Qgn h with ⟨_,_,z⟩ | z <;> cases z
 have nown:∀ q,q≠p->¬ Own (L2.start N vs) ((QL N.length ds).set j (.own dO)) q:=fun q hq ⟨i,z,e1,e2⟩=>by
  obtain ⟨rfl,rfl⟩:=one e1
  rw [hs] at e2;cases e2;exact hq rfl
 have av:∀ a,B a/\a≠p->Av { K:=K,B:=fun a=>B a\/H a=none\/a=p,H₀:=del H p,G:=[],P:=some (j,p) } (L2.start N vs) ((QL N.length ds).set j (.own dO)) a:=fun a z=>⟨.inl z.1,nown a z.2⟩
 refine ⟨Qm6 H p,fun a z=>.inr (.inl z),?_,fun i d h=>?_,fun i z h=>?_,fun d v h=>(nomatch h),fun i k di dk q e1 e2 _ _=>(one e1).1.trans (one e2).1.symm,fun i q hP d h=>?_⟩
 ·rw [List.length_set]
  unfold QL L2.start
  simp [hv]
 ·rcases Qv h with ⟨_,z,_⟩ | ⟨ne,h⟩
  ·cases z
  ·rcases Qgn h with ⟨d',hd,z⟩ | z
   ·cases z
    obtain ⟨v,w1,w2⟩:=h5 i d ne hd
    exact ⟨v,QgN w1,w2.weak av⟩
   ·cases z
 ·obtain ⟨rfl,rfl⟩:=one h
  exact ⟨p,o,hs,h3,⟨QhR,.inr (.inr rfl)⟩,h4.weak av⟩
 ·cases hP
  exact hs
theorem QoP {N ps:List Str} {st:Stmt} {x:Str} {k j:Nat} {F:Sm} (S:Src K mg x st ps) (sc:FnScope N ps (Qo st)) (hn:ps.length<=N.length)
  (hbody:∀ (f:Addr) (cdv:Value) (A:Around) (outer:List Env) (s:Shared) (H:Hp) (E:XK),Room k (A.deeper (envOfC x (Qo st) s.heap.objs.size f cdv)) ->
   PSs (cxOf CX0 P w K mg base N x (Qo st) f cdv A outer s H E).nox (Qah st) (tS K E0 ⟨false,some j⟩ F)):DfM P w K mg base x (k + 1) ps j (runM j N.length F):=by
 obtain ⟨f,fd,Fn,b,hm⟩:=S.ex
 refine ⟨f,fd,Fn.ok sc (fun vs H Q E h=>?_) (fun cdv A outer s H vs Q E hr h=>⟨_,hbody f cdv A outer s H E hr,?_⟩),b,Fn.kp,hm⟩
 ·obtain ⟨B,ds,p,o,dO,_,hl,_⟩:=h
  exact hl
 ·obtain ⟨B,ds,p,o,dO,hl,hv,h1,h2,h3,h4,h5,h⟩:=h
  refine ⟨_,Qcl j N.length ds,rfl,⟨Qjm (hv.trans hl.symm) (by rw [hl];exact hn) h1 h2 h3 h4 h5,rfl⟩,(Res.bind h).imp fun z _ k=>?_⟩
  have wk:∀ a,(B a\/H a=none\/a=p)/\a≠p->(B a\/H a=none)/\a≠p:=fun a z=>⟨z.1.elim .inl fun w=>w.elim .inr fun w=>(z.2 w).elim,z.2⟩
  cases z with
  | rt d =>
   intro v H' sm r
   obtain ⟨dv,dO',o',rfl,r1,r2,r3⟩:=r
   exact k v H' dv dO' o' rfl sm (r1.weak wk) r2 (r3.weak wk)
  | nx δ =>
   intro σ' H' ab
   cases e:δ[j]? with
   | none=>simp only [e] at k;exact k.elim
   | some s =>
    simp only [e] at k
    cases s with
    | un=>exact k.elim
    | val d=>exact k.elim
    | own dO' =>
     obtain ⟨p',o',g1,g2,g3,g4⟩:=ab.own j dO' e
     have g5:=ab.pin j p rfl dO' e
     rw [g1] at g5;cases g5
     exact k .non H' .non dO' o' rfl ab.same (by simp [Rep]) g2 (g4.weak fun a z=>wk a ⟨z.1,fun w=>z.2 ⟨j,dO',e,by rw [w];exact g1⟩⟩)
  | bk δ=>exact k.elim
  | ct δ=>exact k.elim
end
section
variable {X:Cx} {E:XK} {e:Expr} {es:List Expr} {fe:Fn} {x:Str} {p pos:Pos} {ps:List Str} {k:Nat} {mm:List D->Ou D}
theorem AbsF.at {rm:Rm} {c:Cn} {σ:St} {δ:DS} {H:Hp} (a:AbsF rm c σ δ H) {j:Nat} (h:rm.pin=some j):∃ p,c.P=some (j,p):=by
 have:=a.pi
 rw [h] at this
 cases e:c.P with
 | none=>rw [e] at this;cases this
 | some z=>rw [e] at this;obtain ⟨i,p⟩:=z;simp at this;subst this;exact ⟨p,rfl⟩
def QU (j:Nat) (f:Fn):Sm:=fun δ=>(f δ).bind fun d=>match δ[j]? with
 | some (.own dO)=>.ok (.rt (.tup [d,dO]))
 | _=>.bad
theorem QaC (j:Nat) (h:PE X e (tX X.K E .S fe)):PS X (.Return (some e) pos) (tS X.K E ⟨false,some j⟩ (QU j fe)):=(QjB h).imp fun D σ H q=>by
 obtain ⟨c,δ,hK,ab,q⟩:=q
 refine ⟨c,δ,hK,ab,(Res.bind q).imp fun d _ k v H1 e1 r1=>?_⟩
 obtain ⟨p,hP⟩:=ab.at rfl
 cases ed:δ[j]? with
 | none=>rw [ed] at k;exact k.elim
 | some s =>
  rw [ed] at k
  cases s with
  | un=>exact k.elim
  | val d=>exact k.elim
  | own dO =>
   obtain ⟨p',o,g1,g2,g3,g4⟩:=ab.own j dO ed
   have g5:=ab.pin j p hP dO ed
   rw [g1] at g5;cases g5
   have wk:∀ a,Av c σ δ a->c.B a/\a≠p:=fun a z=>⟨z.1,fun w=>z.2 ⟨j,dO,ed,by rw [w];exact g1⟩⟩
   refine k v H1 (ab.same.trans e1) ?_
   unfold RtM
   rw [hP]
   exact ⟨d,dO,o,rfl,Rep.weak r1 wk,e1 _ _ g2,(g4.same e1).weak wk⟩
def Qcp:List (Sum Fn Nat)->DS->Ou (List D)
 | [],_=>.ok []
 | .inl f::fs,δ=>(f δ).bind fun d=>(Qcp fs δ).bind fun ds=>.ok (d::ds)
 | .inr i::fs,δ=>match δ[i]? with
  | some (.own d)=>(Qcp fs δ).bind fun ds=>.ok (d::ds)
  | _=>.bad
def RepsM (c:Cn) (σ:St) (δ:DS) (H:Hp):List (Sum Fn Nat)->List D->List V->Prop
 | [],ds,vs=>ds=[]/\vs=[]
 | .inl _::fs,ds,vs=>∃ d r v s,ds=d::r/\vs=v::s/\Rep c.K (Av c σ δ) H d v/\RepsM c σ δ H fs r s
 | .inr i::fs,ds,vs=>∃ d r v s,ds=d::r/\vs=v::s/\(δ[i]? = some (Sl.own d)/\σ[i]? = some (some v))/\RepsM c σ δ H fs r s
def rIx:Sum Fn Nat->Option Nat
 | .inl _=>none
 | .inr i=>some i
theorem RepsM.get {c:Cn} {σ:St} {δ:DS} {H:Hp}:∀ {fs:List (Sum Fn Nat)} {ds:List D} {vs:List V},RepsM c σ δ H fs ds vs->ds.length=fs.length/\vs.length=fs.length/\∀ (i:Nat) (d:D),ds[i]? = some d->∃ v,vs[i]? = some v/\match (fs.map rIx)[i]? with
  | some none=>Rep c.K (Av c σ δ) H d v
  | some (some m)=>δ[m]? = some (Sl.own d)/\σ[m]? = some (some v)
  | none=>False
 | [],_,_,h=>by
  obtain ⟨rfl,rfl⟩:=h
  exact ⟨rfl,rfl,fun i d e=>by simp at e⟩
 | .inl f::fs,_,_,h=>by
  obtain ⟨d,r,v,s,rfl,rfl,h3,h4⟩:=h
  obtain ⟨l1,l2,g⟩:=RepsM.get h4
  refine ⟨by simp [l1],by simp [l2],fun i d' e=>?_⟩
  cases i with
  | zero=>simp at e;subst e;exact ⟨v,rfl,h3⟩
  | succ i=>simpa using g i d' (by simpa using e)
 | .inr m::fs,_,_,h=>by
  obtain ⟨d,r,v,s,rfl,rfl,h3,h4⟩:=h
  obtain ⟨l1,l2,g⟩:=RepsM.get h4
  refine ⟨by simp [l1],by simp [l2],fun i d' e=>?_⟩
  cases i with
  | zero=>simp at e;subst e;exact ⟨v,rfl,h3⟩
  | succ i=>simpa using g i d' (by simpa using e)
def tXM (K:W.Frag) (E:XK) (fs:List (Sum Fn Nat)):TA:=fun σ H Q=>∃ c δ,c.K=K/\Abs c σ δ H/\Res K E c.H₀ (Qcp fs δ) fun ds=>∀ vs H',Same H H'->RepsM c σ δ H' fs ds vs->Q vs H'
variable {fs:List (Sum Fn Nat)}
theorem Qhu:PA X [] (tXM X.K E []):=pa_nil.imp fun σ H Q q=>by
 obtain ⟨c,δ,hK,ab,q⟩:=q
 exact q [] H (Same.refl H) ⟨rfl,rfl⟩
theorem Qbv (ha:PE X e (tX X.K E .S fe)) (hr:PA X es (tXM X.K E fs)) (hs:starEach (e::es) X.env=(false,eval e X.env)::starEach es X.env:=by rfl):PA X (e::es) (tXM X.K E (.inl fe::fs)):=(Qae ha hr hs).imp fun σ H Q q=>by
 obtain ⟨c,δ,hK,ab,q⟩:=q
 refine ⟨c,δ,hK,ab,(Res.bind q).imp fun d _ k v H1 e1 r1=>?_⟩
 refine ⟨c,δ,hK,ab.grow e1,(Res.bind k).imp fun ds _ k vs H2 e2 r2=>?_⟩
 exact k (v::vs) H2 (e1.trans e2) ⟨d,ds,v,vs,rfl,rfl,Rep.same r1 e2,r2⟩
theorem QhD (i:Nat) {px:Pos} (hr:PA X es (tXM X.K E fs)) (hs:starEach (.Name x px::es) X.env=(false,eval (.Name x px) X.env)::starEach es X.env:=by rfl) (hN:X.N[i]? = some x:=by rfl) (hv:Vis X.env.scope x:=by first | exact Or.inl rfl | exact Or.inr (Or.inl rfl) | exact Or.inr (Or.inr rfl)) (hd:(x == ("__debug__":Str))=false:=by decide)
  (hcd:(x == ("__classdict__":Str))=false:=by decide):PA X (.Name x px::es) (tXM X.K E (.inr i::fs)):=(Qae (pv i hN hv hd hcd) hr hs).imp fun σ H Q q=>by
 obtain ⟨c,δ,hK,ab,q⟩:=q
 have q':Res X.K E c.H₀ (match δ[i]? with
  | some (.own d)=>(Qcp fs δ).bind fun ds=>.ok (d::ds)
  | _=>.bad) fun ds=>∀ vs H',Same H H'->RepsM c σ δ H' (.inr i::fs) ds vs->Q vs H':=q
 cases e0:δ[i]? with
 | none=>rw [e0] at q';exact q'.elim
 | some s =>
  rw [e0] at q'
  cases s with
  | un=>exact q'.elim
  | val d=>exact q'.elim
  | own d =>
   obtain ⟨p,o,g1,g2,g3,g4⟩:=ab.own i d e0
   exact ⟨.ref p,g1,c,δ,hK,ab,(Res.bind q').imp fun ds _ k vs H2 e2 r2=>k (.ref p::vs) H2 e2 ⟨d,ds,.ref p,vs,rfl,rfl,⟨e0,g1⟩,r2⟩⟩
abbrev Fm:=DS->Ou (D×DS)
def tY (K:W.Frag) (E:XK) (f:Fm):TE:=fun σ H Q=>∃ c δ,c.K=K/\Abs c σ δ H/\Res K E c.H₀ (f δ) fun r=>∀ v H',Abs c σ r.2 H'->Rep c.K (Av c σ r.2) H' r.1 v->Q v H'
def Qa9 (i:Nat) (mm:List D->Ou D) (fs:List (Sum Fn Nat)):Fm:=fun δ=>(Qcp fs δ).bind fun ds=>(mm ds).bind fun r=>match r with
 | .tup [d,dO]=>.ok (d,δ.set i (.own dO))
 | _=>.bad
theorem Qho (i:Nat) {j m:Nat} (h:DfM X.prog X.w X.K X.mg X.base x k ps j mm) (hr:Room k X.A) (ha:PA X (e::es) (tXM X.K E0 fs)) (hl:fs.length=ps.length:=by rfl) (hfs:fs.map rIx=List.replicate j none++some i::List.replicate m none:=by rfl) (hg:Gl X x:=by rfl) (hdb:(x == ("__debug__":Str))=false:=by decide)
  (he:starEach (e::es) X.env=(false,eval e X.env)::starEach es X.env:=by rfl) (hpl:(backTo pos (starEach es X.env)).any (·.1)=false:=by rfl):PE X (.Call (.Name x p) (e::es) [] pos) (tY X.K E0 (Qa9 i mm fs)):=by
 obtain ⟨f,fd,h1,h2,h3,h4⟩:=h.ex
 refine (Qhb h1 hr hg h4 h3 h2 .nil QhQ ha hdb he hpl).imp fun σ H Q q=>?_
 obtain ⟨c,δ,hK,ab,q⟩:=q
 refine ⟨c,δ,hK,ab,(Res.bind q).imp fun ds hds k vs H1 e1 r1=>?_⟩
 obtain ⟨l1,l2,g⟩:=r1.get
 have hjl:j < ds.length:=by
  rw [l1]
  have:=congrArg List.length hfs
  simp at this;omega
 have atj:(fs.map rIx)[j]? = some (some i):=by
  rw [hfs,List.getElem?_append_right (by simp)];simp
 have ato:∀ n,n≠j->n < ds.length->(fs.map rIx)[n]? = some none:=fun n hn hlt=>by
  have hll:=congrArg List.length hfs
  simp at hll
  rw [hfs]
  by_cases hlt2:n < j
  ·rw [List.getElem?_append_left (by simpa using hlt2),List.getElem?_replicate,if_pos hlt2]
  ·obtain ⟨r,rfl⟩:∃ r,n=j + 1 + r:=⟨n - j - 1,by omega⟩
   rw [List.getElem?_append_right (by simp;omega)]
   have:j + 1 + r - (List.replicate j (none:Option Nat)).length=r + 1:=by simp;omega
   rw [this,List.getElem?_cons_succ,List.getElem?_replicate,if_pos (by omega)]
 obtain ⟨v0,w1,w2⟩:=g j ds[j] (List.getElem?_eq_getElem hjl)
 rw [atj] at w2
 obtain ⟨w2,w3⟩:=w2
 obtain ⟨p,o,g1,g2,g3,g4⟩:=ab.own i _ w2
 rw [w3] at g1;cases g1
 have ab1:=ab.grow e1
 have g2':=e1 _ _ g2
 have hne:∀ a,Av c σ δ a->a≠p:=fun a z w=>z.2 ⟨i,_,w2,by rw [w];exact w3⟩
 refine ⟨Av c σ δ,ds,p,o,ds[j],by rw [l1];exact hl,by rw [List.append_nil,l2];exact hl,List.getElem?_eq_getElem hjl,by rw [List.append_nil];exact w1,g2',?_,fun n d hn hd=>?_,?_⟩
 ·rw [← hK];exact (g4.same e1).weak fun a z=>⟨z,hne a z⟩
 ·obtain ⟨v,z1,z2⟩:=g n d hd
  rw [ato n hn (List.getElem?_eq_some_iff.mp hd).1] at z2
  refine ⟨v,by rw [List.append_nil];exact z1,?_⟩
  rw [← hK];exact Rep.weak z2 fun a z=>⟨z,hne a z⟩
 ·have smd:Same c.H₀ (del H1 p):=fun b u z=>by rw [Qjw (QQ z g3.1)];exact (ab.same.trans e1) b u z
  refine (QaG (Res.bind k) smd).imp fun r _ k v H' dv dO' o' er sm rv hp' ro=>?_
  subst er
  rw [← hK] at rv ro
  have av:∀ a,(Av c σ δ a\/H1 a=none)/\a≠p->Av c σ δ a:=fun a z=>z.1.elim id fun w=>ab1.av_new w
  have ab2:=ab1.mutH w2 w3 sm hp' (ro.weak av)
  refine k v H' ab2 (Rep.weak rv fun a z=>⟨(av a z).1,fun ⟨n,es,z1,z2⟩=>(av a z).2 ?_⟩)
  rcases Qv z1 with ⟨rfl,_,_⟩ | ⟨_,z1⟩
  ·exact ⟨n,_,w2,z2⟩
  ·exact ⟨n,es,z1,z2⟩
variable {fy:Fm} {fr:Rm}
def Qhy (f:Fm):Sm:=fun δ=>(f δ).bind fun r=>.ok (.nx r.2)
theorem Qme (h:PE X e (tY X.K E fy)) (hs:swapsWith e none pos.line X.env=pure false:=by rfl):PS X (.Expr e pos) (tS X.K E fr (Qhy fy)):=(QcV h hs).imp fun D σ H q=>by
 obtain ⟨c,δ,hK,ab,q⟩:=q
 exact ⟨c,δ,hK,ab,(Res.bind q).imp fun d _ k v H1 ab1 r1=>k σ H1 ab1⟩
def QcF (i:Nat) (f:Fm):Sm:=fun δ=>match δ[i]? with
 | some (.own (.lst _))=>(f δ).bind fun r=>(match r.2[i]? with
  | some (.own (.lst ds))=>if ds.length < sizeLine then .ok (.nx (r.2.set i (.own (.lst (ds++[r.1]))))) else .bad
  | _=>.bad)
 | _=>.bad
theorem QhB (i:Nat) {px apos cpos:Pos} (he:PE X e (tY X.K E fy)) (hN:X.N[i]? = some x:=by rfl) (hv:Vis X.env.scope x:=by first | exact Or.inl rfl | exact Or.inr (Or.inl rfl) | exact Or.inr (Or.inr rfl)) (hd:(x == ("__debug__":Str))=false:=by decide) (hcd:(x == ("__classdict__":Str))=false:=by decide)
  (hst:starEach [e] X.env=(false,eval e X.env)::starEach [] X.env:=by rfl) (hs:swapsWith (.Call (.Attribute (.Name x px) "append" apos) [e] [] cpos) none pos.line X.env=pure false:=by rfl) (hb:attributeBase (.Name x px) "append" X.env (eval (.Name x px) X.env)=eval (.Name x px) X.env:=by rfl) (h1:(apos.endLine == cpos.line)=true:=by rfl)
  (h2:(backTo cpos (starEach ([]:List Expr) X.env)).any (·.1)=false:=by rfl)
  (hfew:((backTo cpos (starEach [e] X.env)).all (fun x=>!x.1) && (backToKw cpos (keywordEach [] X.env)).all (fun x=>x.1.isSome) && decide (([e]:List Expr).length + ([]:List Keyword).length + (if ([]:List Keyword).isEmpty then 0 else 1) < 30))=true:=by rfl) :
  PS X (.Expr (.Call (.Attribute (.Name x px) "append" apos) [e] [] cpos) pos) (tS X.K E fr (QcF i fy)) :=
 (QcV (QjU PySem.F.plainAttrs_list PySem.F.slot_list_append PySem.F.type_list_append Qel (pv i hN hv hd hcd) (Qae he pa_nil hst) hb hfew h1 hst h2) hs).imp fun D σ H q=>by
 obtain ⟨c,δ,hK,ab,q⟩:=q
 unfold QcF at q
 cases e0:δ[i]? with
 | none=>rw [e0] at q;exact q.elim
 | some s =>
  rw [e0] at q
  cases s with
  | un=>exact q.elim
  | val d=>exact q.elim
  | own d =>
   cases d <;> first | exact q.elim | skip
   obtain ⟨p,o,g1,g2,g3,xs,rfl,g4⟩:=ab.own i _ e0
   refine ⟨.ref p,g1,.inl ⟨rfl,xs,.of g2⟩,c,δ,hK,ab,(Res.bind q).imp fun r _ k v H1 ab1 r1=>?_⟩
   cases e5:r.2[i]? with
   | none=>rw [e5] at k;exact k.elim
   | some s =>
    rw [e5] at k
    cases s with
    | un=>exact k.elim
    | val d=>exact k.elim
    | own d =>
     cases d <;> first | exact k.elim | skip
     rename_i ds
     obtain ⟨p',o,z1,z2,z3,ys,rfl,z4⟩:=ab1.own i _ e5
     rw [g1] at z1;cases z1
     by_cases hl:ds.length < sizeLine
     ·simp only [if_pos hl] at k
      exact ⟨p,ys,v,rfl,rfl,z2,by rw [z4.length];exact hl,k σ _ (ab1.mut e5 g1 ⟨_,rfl,Reps.append z4 (Reps.one r1)⟩)⟩
     ·simp only [if_neg hl] at k
      exact k.elim
end
def QdB (gc:DS->Ou Bool) (fe:Fn) (γ:DS):List D->Ou (List D)
 | []=>.ok []
 | x::xs=>(gc (.val x::γ)).bind fun b=>if b=true then (fe (.val x::γ)).bind fun y=>if imm y=true then (QdB gc fe γ xs).bind fun ys=>.ok (y::ys) else .bad else QdB gc fe γ xs
def QgX (fi:DS->Ou (List D)) (gc:DS->Ou Bool) (fe:Fn) (ix:List Nat):Fn:=fun δ=>(fi δ).bind fun ds=>if ds.length<=sizeLine then (QdB gc fe (ix.map fun i=>slW δ[i]?) ds).bind fun ys=>.ok (.lst ys) else .bad
def QeQ (i:Nat):DS->Ou (List D):=fun δ=>match δ[i]? with
 | some (.own (.lst ds))=>.ok ds
 | _=>.bad
section
variable {c:Cn} {σ:St} {δ:DS} {H1 H':Hp}
theorem QjJ {K:W.Frag} {J:It} {ds:List DL.D} {gc:DS->Ou Bool} {fe:Fn} {ix:List Nat} {Q:VK} (hK:c.K=K) (ab:Abs c σ δ H1) (src:SrcI J c.K (Av c σ δ) H1 ds) (hl:ds.length<=sizeLine)
  (kq:Res K E0 c.H₀ (QdB gc fe (ix.map fun i=>slW δ[i]?) ds) fun es=>∀ D xs H',H1 D=none->Same H1 H'->H' D=some (.lst xs)->Reps c.K (fun a=>Av c σ δ a/\a≠D) H' es xs->Q (.ref D) H') :
  ∀ D,H1 D=none->∃ W:Nat->Nat->St->List V->Hp->Prop,(∃ m,W 0 m (σin 1 ix σ) [] (upd H1 D (.lst []))) /\
   ∀ i m σ ys H,W i m σ ys H->H D=some (.lst ys)/\((J.stop i H/\Q (.ref D) H)\/(J.go i H/\ys.length < sizeLine/\∃ N:St->List V->Hp->Prop,(∀ σ' ys' H',N σ' ys' H'->∃ m',m' < m/\W (i + 1) m' σ' ys' H') /\
    ∀ x H',J.yld i H x H'->Qez 0 x σ H' fun σ2 H2=>tT K E0 gc σ2 H2 fun b H3=>if b=true then tX K E0 .W fe σ2 H3 fun y H4=>H4 D=some (.lst ys)/\N σ2 (ys++[y]) (upd H4 D (.lst (ys++[y]))) else N σ2 ys H3)):=by
 intro D hD
 have kt:=kq
 generalize hγ:(ix.map fun i=>slW δ[i]?)=γ at kq
 let B':Addr->Prop:=fun q=>Av c σ δ q/\q≠D
 refine ⟨fun i m σ' ys H'=>(∃ s0,σ'=s0::ix.map fun j=>(σ[j]?).join)/\Same H1 H'/\H' D=some (.lst ys)/\∃ es,Reps c.K B' H' es ys/\m=ds.length - i/\i<=ds.length/\es.length<=i /\
  Res K E0 c.H₀ (QdB gc fe γ (ds.drop i)) fun rest=>∀ xs H'',Same H1 H''->H'' D=some (.lst xs)->Reps c.K B' H'' (es++rest) xs->Q (.ref D) H'',
  ⟨ds.length,⟨none,rfl⟩,Qp hD _,Qm,[],by simp [Reps],by simp,Nat.zero_le _,Nat.zero_le _,?_⟩,?_⟩
 ·exact kq.imp fun es _ z xs H'' e1 e2 e3=>z D xs H'' hD e1 e2 e3
 ·rintro i m σ' ys H' ⟨⟨s0,rfl⟩,hsm,hDy,es,hr,rfl,hi,hes,q⟩
  refine ⟨hDy,?_⟩
  by_cases hlt:i < ds.length
  ·refine .inr ⟨src.go i H' hsm hlt,?_,fun σ' ys' H'=>(∃ s0,σ'=s0::ix.map fun j=>(σ[j]?).join)/\Same H1 H'/\H' D=some (.lst ys')/\∃ es,Reps c.K B' H' es ys'/\ds.length - (i + 1)=ds.length - (i + 1)/\i + 1<=ds.length/\es.length<=i + 1 /\
    Res K E0 c.H₀ (QdB gc fe γ (ds.drop (i + 1))) fun rest=>∀ xs H'',Same H1 H''->H'' D=some (.lst xs)->Reps c.K B' H'' (es++rest) xs->Q (.ref D) H'',fun σ' ys' H' n=>⟨ds.length - (i + 1),by lia,n⟩,fun x H2 y=>?_⟩
   ·have:=hr.length;lia
   have hd:ds[i]? = some ds[i]:=by simp [hlt]
   obtain ⟨rfl,rx⟩:=src.yld i H' x H2 _ hsm hd y
   rw [List.drop_eq_getElem_cons hlt] at q
   have A1:=ab.ask (ix:=ix) hsm rx
   rw [hγ] at A1
   refine ⟨{ K:=c.K,B:=fun _=>True,H₀:=H1,G:=[] },.val ds[i]::γ,hK,A1,(QaG (Res.bind q) ab.same).imp fun b _ k3 H4 e4=>?_⟩
   cases b with
   | false=>exact ⟨⟨_,rfl⟩,hsm.trans e4,e4 _ _ hDy,es,hr.same e4,rfl,hlt,by lia,k3⟩
   | true =>
    have hD4:=e4 _ _ hDy
    have A2:=ab.ask (ix:=ix) (hsm.trans e4) rx
    rw [hγ] at A2
    have k3':Res K E0 c.H₀ ((fe (.val ds[i]::γ)).bind fun y=>if imm y=true then (QdB gc fe γ (ds.drop (i + 1))).bind fun ys=>.ok (y::ys) else .bad) _:=k3
    refine ⟨{ K:=c.K,B:=fun _=>True,H₀:=H1,G:=[] },.val ds[i]::γ,hK,A2,(QaG (Res.bind k3') ab.same).imp fun dy _ k4 y H5 e5 r5=>?_⟩
    by_cases him:imm dy=true
    rotate_left
    ·rw [if_neg him] at k4;exact k4.elim
    rw [if_pos him] at k4
    have hD5:=e5 _ _ hD4
    have r5':Rep c.K B' H5 dy y:=Rep.imm dy y him (show Rep c.K (fun _=>True) H5 dy y from r5)
    have st:Stay c.K B' H5 (upd H5 D (.lst (ys++[y]))):=⟨fun q ys z=>by
      rcases z with (z | ⟨o,z⟩) | z
      ·exact .inl (.inl (by rw [Ql (Qbt z hD5 (by intro w;cases w))];exact z))
      ·exact .inl (.inr ⟨o,by rw [Ql (Qbt z hD5 (by intro w;cases w))];exact z⟩)
      ·exact .inr z,fun q ys z=>by
      rcases z with ⟨o,z⟩ | z
      ·exact .inl ⟨o,by rw [Ql (Qbt z hD5 (by intro w;cases w))];exact z⟩
      ·exact .inr z,fun q o z w=>by rw [Ql z.2];exact w⟩
    have sm5:Same H1 (upd H5 D (.lst (ys++[y]))):=fun q o w=>by
     rw [Ql (QQ w hD)]
     exact e5 _ _ (e4 _ _ (hsm _ _ w))
    refine ⟨hD5,⟨_,rfl⟩,sm5,Qm,es++[dy],Reps.mono (fun _ _ w _=>w) st _ _ (Reps.append ((hr.same e4).same e5) (Reps.one r5')),rfl,hlt,by simp;lia,(Res.bind k4).imp fun rest _ k5 xs H'' s1 s2 s3=>k5 xs H'' s1 s2 ?_⟩
    rw [List.append_assoc] at s3
    exact s3
  ·have e:i=ds.length:=by lia
   subst e
   rw [List.drop_length] at q
   exact .inl ⟨src.stop H' hsm,q ys H' hsm hDy (by rw [List.append_nil];exact hr)⟩
end
section
variable {X:Cx} {iter elt tg:Expr} {ifs:List Expr} {scope:Scope} {N':List Str} {ix:List Nat} {pos:Pos} {gc:DS->Ou Bool} {fe fl:Fn}
theorem Qi5 {wi:TI} {fi:DS->Ou (List D)} {σ:St} {H:Hp} {Q:VK} (q:tX X.K E0 .F (QgX fi gc fe ix) σ H Q)
  (hw:∀ (c:Cn) (δ:DS) (R:It->Hp->Prop),c.K=X.K->Abs c σ δ H->Res X.K E0 c.H₀ (fi δ) (fun ds=>∀ J H1,Same H H1->SrcI J c.K (Av c σ δ) H1 ds->R J H1)->wi σ H R) :
  Qgc wi (Qez 0) (tT X.K E0 gc) (tX X.K E0 .W fe) 1 ix σ H Q:=by
 obtain ⟨c,δ,hK,ab,q⟩:=q
 refine hw c δ _ hK ab ((Res.bind q).imp fun ds _ kq J H1 e1 src=>?_)
 by_cases hl:ds.length<=sizeLine
 ·rw [if_pos hl] at kq
  refine QjJ hK (ab.grow e1) src hl ((Res.bind kq).imp fun es _ z D xs H' hD e2 h1 h2=>z (.ref D) H' (e1.trans e2) ⟨D,_,rfl,e1.free hD,h1,xs,rfl,h2⟩)
 ·rw [if_neg hl] at kq
  exact kq.elim
theorem Qoj (i:Nat) {x:Str} {px:Pos} (S:CNames X scope N' 1 ix)
  (hb:∀ C s2 H2 fp pins,PG (blk X N' scope C s2 H2 fp pins) tg (Qez 0)/\PCs (blk X N' scope C s2 H2 fp pins) ifs (tT X.K E0 gc)/\PE (blk X N' scope C s2 H2 fp pins) elt (tX X.K E0 .W fe))
  (hN:X.N[i]? = some x:=by rfl) (hv:Vis X.env.scope x:=by first | exact Or.inl rfl | exact Or.inr (Or.inl rfl) | exact Or.inr (Or.inr rfl)) (hd:(x == ("__debug__":Str))=false:=by decide) (hcd:(x == ("__classdict__":Str))=false:=by decide)
  (hc:X.calm=true:=by rfl) (hs:∀ y,foldedSetIterable (.Name x px) X.env y=pure y:=by intro _;rfl):CompR X (.ListComp elt [⟨tg,.Name x px,ifs,0⟩] scope pos) (tX X.K E0 .F (QgX (QeQ i) gc fe ix)) :=
 (Qhf hc S (QeS (pv i hN hv hd hcd)) hb hs).imp fun σ H Q q=>Qi5 q fun c δ R hK ab kq=>by
  unfold QeQ at kq
  cases e:δ[i]? with
  | none=>rw [e] at kq;exact kq.elim
  | some s =>
   rw [e] at kq
   cases s with
   | un=>exact kq.elim
   | val d=>exact kq.elim
   | own d =>
    cases d <;> first | exact kq.elim | skip
    rename_i ds
    obtain ⟨p,o,g1,g2,g3,xs,rfl,g4⟩:=ab.own i _ e
    exact ⟨.ref p,g1,p,rfl,⟨xs,.of g2⟩,by rw [← hK];exact kq _ H (Same.refl H) (srcL (.of g2) g4)⟩
end
def Qe9:List D->Option (List Str)
 | []=>some []
 | .str x::r=>(Qe9 r).map (x::·)
 | _=>none
theorem Qk1 (ns:List Str):Qe9 (ns.map D.str)=some ns:=by
 induction ns with
 | nil=>rfl
 | cons n r ih=>simp [Qe9,ih]
theorem QhN:∀ {ds:List D} {ns:List Str},Qe9 ds=some ns->ds=ns.map D.str
 | [],ns,h=>by cases h;rfl
 | d::r,ns,h=>by
  cases d <;> simp [Qe9] at h
  obtain ⟨a,h1,rfl⟩:=h
  rw [QhN h1];rfl
theorem Qgk {K:W.Frag} {B:Addr->Prop} {H:Hp}:∀ {ns:List Str} {vs:List V},Reps K B H (ns.map D.str) vs->vs=ns.map V.str
 | [],vs,r=>by simpa [Reps] using r
 | n::ns,vs,r=>by
  simp only [List.map_cons,Reps] at r
  obtain ⟨v,r',rfl,h1,h2⟩:=r
  simp only [Rep] at h1
  subst h1
  rw [Qgk h2];rfl
theorem Qgr:∀ {ys:List Str} {us:List Value},Vals (ys.map V.str) us->StrsAre us ys
 | [],_,.nil=>.nil
 | y::ys,_,.cons r t=>by
  obtain ⟨k,rfl⟩:=r
  exact .cons y k (Qgr t)
def Qj6 (x:Str) (d:D):Ou D:=if rk d=2 then (match Qe9 (its d) with
 | some ys=>if x.length<=16/\(ys.map (·.length)).sum + ys.length<=1048576 then .ok (.str (Txt.join x ys)) else .bad
 | none=>.bad) else .bad
def Qh4 (fa fb:Fn):Fn:=fun δ=>(fa δ).bind fun x=>match x with
 | .str z=>(fb δ).bind fun y=>Qj6 z y
 | _=>.bad
section
variable {X:Cx} {E:XK} {m:Md} {a b:Expr} {fa fb:Fn}
theorem Qn5:MtR X "str.join" (fun x xs H Q=>∃ z q ys,x=.str z/\xs=[.ref q]/\SqL X.K H q (ys.map V.str)/\z.length<=16/\(ys.map (·.length)).sum + ys.length<=1048576/\Q (.str (Txt.join z ys)) H):=by
 intro pins s σ H x xs v us Q I rx rs h
 obtain ⟨z,q,ys,rfl,rfl,hq,h1,h2,k⟩:=h
 obtain ⟨t,rfl⟩:=rx
 obtain ⟨u,rfl,ru⟩:=Qct rs
 obtain rfl:u=Value.ref q:=ru
 obtain ⟨its,r,⟨o,n,e,hc,hd,hs⟩,_⟩:=I.list hq
 exact join_listW (D:=q) (items:=its.toArray) ⟨o,e,hc,n,hs⟩ (by simpa using Qgr r) h1 h2 fun t' k'=>⟨.str _,H,I.tok _,⟨_,rfl⟩,k⟩
theorem xjoin {apos cpos:Pos} (ha:PE X a (tX X.K E .W fa)) (hb:PE X b (tX X.K E .W fb)) (hbase:attributeBase a "join" X.env (eval a X.env)=eval a X.env:=by rfl) (hfew:((backTo cpos (starEach [b] X.env)).all (fun x=>!x.1) && (backToKw cpos (keywordEach [] X.env)).all (fun x=>x.1.isSome) && decide ([b].length + ([]:List Keyword).length + (if ([]:List Keyword).isEmpty then 0 else 1) < 30))=true:=by rfl)
  (hline:(apos.endLine == cpos.line)=true:=by rfl) (hs:starEach [b] X.env=(false,eval b X.env)::starEach [] X.env:=by rfl) (hplain:(backTo cpos (starEach ([]:List Expr) X.env)).any (·.1)=false:=by rfl) (hf:notF m=true:=by rfl):PE X (.Call (.Attribute a "join" apos) [b] [] cpos) (tX X.K E m (Qh4 fa fb)) :=
 (QjU PySem.F.plainAttrs_str PySem.F.slot_str_join PySem.F.type_str_join Qn5 ha (Qae hb pa_nil hs) hbase hfew hline hs hplain).imp fun σ H Q h=>by
 obtain ⟨c,δ,hK,ab,h⟩:=h
 refine ⟨c,δ,hK,ab,(Res.bind h).imp fun dx _ k x H1 e1 r1=>?_⟩
 have r1':Rep c.K c.B H1 dx x:=r1
 obtain ⟨z,rfl⟩:∃ z,dx=.str z:=by
  cases dx <;> first | exact ⟨_,rfl⟩ | exact k.elim
 simp only [Rep] at r1'
 subst r1'
 refine ⟨rfl,c,δ,hK,ab.grow e1,(Res.bind k).imp fun dy _ k y H2 e2 r2=>?_⟩
 have r2':Rep c.K c.B H2 dy y:=r2
 unfold Qj6 at k
 by_cases hr:rk dy=2
 ·rw [if_pos hr] at k
  cases ei:Qe9 (its dy) with
  | none=>rw [ei] at k;exact k.elim
  | some ys =>
   rw [ei] at k
   by_cases hl:z.length<=16/\(ys.map (·.length)).sum + ys.length<=1048576
   ·simp only [if_pos hl] at k
    obtain ⟨q,xs,rfl,h1,h2⟩:=rk2 hr r2'
    rw [QhN ei] at h2
    have hx:=Qgk h2
    subst hx
    exact ⟨z,q,ys,rfl,rfl,by rw [← hK];exact h1,hl.1,hl.2,k (toV (.str (Txt.join z ys))) H2 (e1.trans e2) (Post.ofS hf rfl)⟩
   ·simp only [if_neg hl] at k;exact k.elim
 ·rw [if_neg hr] at k;exact k.elim
end
def maxF:List Int->Option Int
 | []=>none
 | n::r=>some (r.foldl max n)
theorem Qiy:∀ (r:List Int) (n:Int),(r.foldl max n=n\/r.foldl max n∈r)/\n<=r.foldl max n/\∀ k∈r,k<=r.foldl max n
 | [],n=>⟨.inl rfl,Int.le_refl _,fun k hk=>by cases hk⟩
 | x::r,n=>by
  obtain ⟨h1,h2,h3⟩:=Qiy r (max n x)
  rw [List.foldl_cons]
  refine ⟨?_,by omega,fun k hk=>?_⟩
  ·rcases h1 with h1 | h1
   ·rw [h1]
    by_cases c:n<=x
    ·right;rw [Int.max_eq_right c];exact List.mem_cons_self
    ·left;exact Int.max_eq_left (by omega)
   ·exact .inr (List.mem_cons_of_mem _ h1)
  ·rcases List.mem_cons.mp hk with rfl | hk
   ·omega
   ·exact h3 k hk
theorem Qod {ns:List Int} {z:Int} (h:maxF ns=some z):z∈ns/\∀ k∈ns,k<=z:=by
 cases ns with
 | nil=>cases h
 | cons n r =>
  obtain rfl:r.foldl max n=z:=Option.some.inj h
  obtain ⟨h1,h2,h3⟩:=Qiy r n
  refine ⟨?_,fun k hk=>?_⟩
  ·rcases h1 with h1 | h1
   ·rw [h1];exact List.mem_cons_self
   ·exact List.mem_cons_of_mem _ h1
  ·rcases List.mem_cons.mp hk with rfl | hk
   ·exact h2
   ·exact h3 k hk
def Qiw (d:D):Ou D:=if rk d=2 then (match Qep (its d) with
 | some ns=>(match maxF ns with
  | some z=>.ok (.int z)
  | none=>.bad)
 | none=>.bad) else .bad
section
variable {X:Cx} {E:XK} {m:Md} {e:Expr} {fe:Fn} {pos p p2 pos2:Pos}
theorem QkX (hc:X.calm=true):CallR X (.builtin "max") (fun xs H Q=>∃ (a:Addr) (ns:List Int) (z:Int),xs=[.ref a]/\SqL X.K H a (ns.map V.int)/\(z∈ns/\∀ k∈ns,k<=z)/\Q (.int z) H):=by
 intro pins s σ H xs us Q I r h
 obtain ⟨a,ns,z,rfl,hq,⟨hz1,hz2⟩,q⟩:=h
 obtain ⟨u,rfl,rx⟩:=Qct r
 cases rx
 obtain ⟨its,r',pl,hz⟩:=I.list hq
 have hi:=Qb7 r'
 obtain ⟨xs,e⟩:=hi.allInts.items
 have hns:ns=xs.toList.map (·.1):=by rw [← hi.numsOf,← nums_intItems,← e]
 have hsz:0 < xs.size:=by
  have h3:=List.length_pos_of_mem hz1
  rw [hns,List.length_map,Array.length_toList] at h3;exact h3
 have hl:=pl.isList
 rw [e] at hl
 refine max_intList (I.ok.hd hc) hl hsz fun v h' tk hv hk=>?_
 obtain ⟨t,rfl⟩:=intItems_at hv
 obtain ⟨b1,b2⟩:=argBest_gt (numAt xs) (xs.size - 1)
 have m1:numAt xs (argBest (fun i j=>decide (numAt xs i > numAt xs j)) (xs.size - 1))∈ns:=by
  rw [hns,numAt_eq];exact getD_mem (by rw [List.length_map,Array.length_toList];omega)
 have m2:∀ k∈ns,k<=numAt xs (argBest (fun i j=>decide (numAt xs i > numAt xs j)) (xs.size - 1)):=fun k hk'=>by
  rw [hns] at hk'
  obtain ⟨j,hj,rfl⟩:=mem_getD hk'
  rw [List.length_map,Array.length_toList] at hj
  rw [← numAt_eq];exact b2 j (by omega)
 have ez:numAt xs (argBest (fun i j=>decide (numAt xs i > numAt xs j)) (xs.size - 1))=z:=by
  have:=hz2 _ m1
  have:=m2 _ hz1
  omega
 rw [ez]
 exact ⟨.int z,H,I.kept hk,⟨_,rfl⟩,q⟩
theorem xmaxL (hm:X.mg "max" = none) (ha:PE X e (tX X.K E .W fe)) (hn:notF m=true:=by rfl) (hc:X.calm=true:=by rfl) (hg:Gl X "max":=by rfl) (he:starEach [e] X.env=(false,eval e X.env)::starEach [] X.env:=by rfl) (hpl:(backTo pos (starEach ([]:List Expr) X.env)).any (·.1)=false:=by rfl) :
  PE X (.Call (.Name "max" p) [e] [] pos) (tX X.K E m (f1 Qiw fe)) :=
 (QcC (QkX hc) hg hm (by decide +kernel) (Qae ha pa_nil he) (by decide) (by decide) he hpl).imp fun σ H Q q=>by
 obtain ⟨c,δ,hK,ab,q⟩:=q
 refine ⟨c,δ,hK,ab,(Res.bind q).imp fun d _ k v H1 e1 r1=>?_⟩
 have r1':Rep c.K c.B H1 d v:=r1
 unfold Qiw at k
 by_cases hr:rk d=2
 ·rw [if_pos hr] at k
  cases ei:Qep (its d) with
  | none=>rw [ei] at k;exact k.elim
  | some ns =>
   rw [ei] at k
   cases ez:maxF ns with
   | none=>simp only [ez] at k;exact k.elim
   | some z =>
    simp only [ez] at k
    obtain ⟨a,xs,rfl,h1,h2⟩:=rk2 hr r1'
    rw [QiV ei] at h2
    have hx:=Qgq h2
    subst hx
    exact ⟨a,ns,z,rfl,by rw [← hK];exact h1,Qod ez,k _ H1 e1 (Post.ofS hn rfl)⟩
 ·rw [if_neg hr] at k;exact k.elim
def Qik (i:Nat):Fn:=fun δ=>match δ[i]? with
 | some (.own (.lst ds))=>.ok (.lst ds.reverse)
 | _=>.bad
theorem Qlx (i:Nat) {x:Str} {px:Pos} (hml:X.mg "list" = none) (hmr:X.mg "reversed" = none) (hN:X.N[i]? = some x:=by rfl) (hv:Vis X.env.scope x:=by first | exact Or.inl rfl | exact Or.inr (Or.inl rfl) | exact Or.inr (Or.inr rfl)) (hd:(x == ("__debug__":Str))=false:=by decide)
  (hcd:(x == ("__classdict__":Str))=false:=by decide) (hc:X.calm=true:=by rfl) (hgl:Gl X "list":=by rfl) (hgr:Gl X "reversed":=by rfl)
  (he:starEach [.Name x px] X.env=(false,eval (.Name x px) X.env)::starEach [] X.env:=by rfl) (he0:starEach ([]:List Expr) X.env=[]:=by rfl)
  (he2:starEach [.Call (.Name "reversed" p2) [.Name x px] [] pos2] X.env=(false,eval (.Call (.Name "reversed" p2) [.Name x px] [] pos2) X.env)::starEach [] X.env:=by rfl) :
  PE X (.Call (.Name "list" p) [.Call (.Name "reversed" p2) [.Name x px] [] pos2] [] pos) (tX X.K E .F (Qik i)) :=
 (Qjk hc hml hmr hgl hgr (Qae (pv i hN hv hd hcd) pa_nil he) he he0 he2).imp fun σ H Q q=>by
 obtain ⟨c,δ,hK,ab,q⟩:=q
 unfold Qik at q
 cases e:δ[i]? with
 | none=>rw [e] at q;exact q.elim
 | some s =>
  rw [e] at q
  cases s with
  | un=>exact q.elim
  | val d=>exact q.elim
  | own d =>
   cases d <;> first | exact q.elim | skip
   rename_i ds
   obtain ⟨a,o,h1,h2,h3,xs,rfl,h4⟩:=ab.own i _ e
   refine ⟨.ref a,h1,a,xs,rfl,.of h2,fun l hl=>q (.ref l) _ (Qp hl _) ⟨l,_,rfl,hl,Qm,_,rfl,?_⟩⟩
   exact (Reps.rev (Reps.off h4 hl)).same (Qp hl _)
end
def rtO (R:Sm):Sm:=fun δ=>(R δ).bind fun r=>match r with
 | .rt d=>.ok (.rt d)
 | _=>.bad
section
variable {X:Cx} {E:XK} {fr:Rm} {x y:Str} {pos:Pos} {ga:DS->Ou Bool} {R:Sm}
def Qe1 (i j:Nat) (ga:DS->Ou Bool) (R:Sm):Sm:=fun δ=>match δ[i]? with
 | some (.own (.lst ds))=>if i=j then .bad else forL (gNm j) (sSeq (sIf ga (rtO R) Qb) Qb) ds δ
 | _=>.bad
theorem QlQ (i j:Nat) {t:Expr} {s1:Stmt} {px py:Pos} {pos2:Pos} (hp:PassesOwn (model X.prog X.w) X.A X.env X.xe) (hc:X.calm=true) (hNd:X.N.Nodup) (ht:PT X t (tT X.K E ga)) (hb:PS X s1 (tS X.K E fr R))
  (hi:X.N[i]? = some x:=by rfl) (hv:Vis X.env.scope x:=by first | exact Or.inl rfl | exact Or.inr (Or.inl rfl) | exact Or.inr (Or.inr rfl)) (hd:(x == ("__debug__":Str))=false:=by decide) (hcd:(x == ("__classdict__":Str))=false:=by decide)
  (hj:X.N[j]? = some y:=by rfl) (hy:Loc X.env.scope y:=by first | exact Or.inl rfl | exact Or.inr rfl) (hf:X.fn y=true\/X.env.scope.names.lookup y=some .local:=by first | exact .inl rfl | exact .inr rfl)
  (hs:∀ z,foldedSetIterable (.Name x px) X.env z=pure z:=by intro _;rfl) :
  PS X (.For (.Name y py) (.Name x px) [.If t [s1] [] pos2] [] pos) (tS X.K E fr (Qe1 i j ga R)) :=
 (Qd5 hp hc (QeS (pv i hi hv hd hcd)) (Qdy hNd hj hy hf) (Qfh (Qot ht (Qfh hb pss_nil) pss_nil) pss_nil) hs).imp fun D σ H q=>by
 obtain ⟨c,δ,hK,ab,q⟩:=q
 have hpi:=ab.pi
 unfold Qe1 at q
 cases e0:δ[i]? with
 | none=>rw [e0] at q;exact q.elim
 | some s =>
  rw [e0] at q
  cases s with
  | un=>exact q.elim
  | val d=>exact q.elim
  | own d =>
   cases d <;> first | exact q.elim | skip
   rename_i ds
   by_cases hij:i=j
   ·simp only [if_pos hij] at q;exact q.elim
   simp only [if_neg hij] at q
   obtain ⟨p,o,g1,g2,g3,xs,rfl,g4⟩:=ab.own i _ e0
   refine ⟨.ref p,g1,p,rfl,⟨xs,.of g2⟩,fun k m σ H=>m=ds.length - k/\k<=ds.length/\∃ δ,Abs c σ δ H/\δ[i]? = some (.own (.lst ds))/\σ[i]? = some (some (.ref p))/\Res X.K E c.H₀ (forL (gNm j) (sSeq (sIf ga (rtO R) Qb) Qb) (ds.drop k) δ) (EndP c fr D),⟨ds.length,by simp,Nat.zero_le _,δ,ab,e0,g1,by simpa using q⟩,?_⟩
   rintro k m σ H ⟨rfl,hk,δ,ab,e0,g1,q⟩
   obtain ⟨p',o,g1',g2,g3,xs,rfl,g4⟩:=ab.own i _ e0
   rw [g1] at g1';cases g1'
   by_cases hlt:k < ds.length
   ·have hdk:ds[k]? = some ds[k]:=by simp [hlt]
    obtain ⟨u,w3,w4⟩:=g4.get k _ hdk
    rw [List.drop_eq_getElem_cons hlt] at q
    refine .inr ⟨⟨xs,u,.of g2,w3⟩,_,fun σ' H' p'=>⟨ds.length - (k + 1),by lia,rfl,hlt,p'⟩,fun z H' yl=>?_⟩
    obtain ⟨rfl,y2⟩:=yl
    have y3:=y2 xs (.of g2)
    rw [w3] at y3;cases y3
    have ab2:=ab.set_val (i:=j) (Same.refl H') w4
    have e2:(δ.set j (.val ds[k]))[i]? = some (.own (.lst ds)):=by rw [List.getElem?_set_ne (Ne.symm hij)];exact e0
    have g2':(σ.set j (some u))[i]? = some (some (.ref p)):=by rw [List.getElem?_set_ne (Ne.symm hij)];exact g1
    have q':Res X.K E c.H₀ ((((ga (δ.set j (.val ds[k]))).bind fun b=>if b=true then (rtO R) (δ.set j (.val ds[k])) else Qb (δ.set j (.val ds[k]))).bind fun r=>match r with
     | .nx δ'=>Qb δ'
     | r=>.ok r).bind fun r=>match r with
     | .nx δ2=>forL (gNm j) (sSeq (sIf ga (rtO R) Qb) Qb) (ds.drop (k + 1)) δ2
     | .ct δ2=>forL (gNm j) (sSeq (sIf ga (rtO R) Qb) Qb) (ds.drop (k + 1)) δ2
     | .bk δ2=>.ok (.nx δ2)
     | .rt d=>.ok (.rt d)) (EndP c fr D):=q
    have q3:=Res.bind (Res.bind (Res.bind q'))
    refine ⟨c,_,hK,ab2,Res.imp q3 fun b _ kk H1 e1=>?_⟩
    cases b with
    | true =>
     refine ⟨c,_,hK,⟨ab2.grow e1,hpi⟩,?_⟩
     have k4:Res X.K E c.H₀ (rtO R (δ.set j (.val ds[k]))) _:=kk
     unfold rtO at k4
     cases hfe:R (δ.set j (.val ds[k])) with
     | ok r =>
      rw [hfe] at k4
      cases r with
      | rt d=>exact k4
      | nx _=>exact k4.elim
      | bk _=>exact k4.elim
      | ct _=>exact k4.elim
     | ex e=>rw [hfe] at k4;exact k4
     | bad=>rw [hfe] at k4;exact k4
    | false=>exact ⟨_,ab2.grow e1,e2,g2',kk⟩
   ·have e:k=ds.length:=by lia
    subst e
    rw [List.drop_length] at q
    exact .inl ⟨⟨xs,.of g2,Nat.le_of_eq g4.length⟩,q σ H ab⟩
end
structure Sr0 (K:W.Frag) (mg:Str->Option Value) (x:Str) (st:Stmt):Prop where
 ex:∃ f fd,Fun K x x st f fd/\mg x=some (.ref f)
structure Ms0 (K:W.Frag) (C:Addr) (x qual:Str) (st:Stmt):Prop where
 ex:∃ f fd,Fun K x qual st f fd/\Meth K C x f
structure Ck (K:W.Frag) (C:Addr) (x:Str):Prop where
 cl:Cls K C
 ns:W.nsIn K mainGlobals x=some (some (.ref C))
abbrev Bnd (x qual:Str) (st:Stmt) (ps:List Str):Prop:=∀ (kV doc pm:Value) (an:Option Addr) (cdv ct:Value) (us:List Value),us.length=ps.length->bindArgs (W.fnOf x qual (Qcb st) (Qah st) (Qo st) .none kV doc pm an cdv ct) ⟨us,[]⟩=pure (ps.zip us)
section
variable {P:Program} {w:World} {K:W.Frag} {mg:Str->Option Value} {base h:Heap} {x qual c:Str} {st:Stmt} {f C:Addr} {od an:Option Addr} {sl:Array (Option Value)} {oc kV dc pm cd ct:Value}
theorem sr0_mk (X:K.In h) (G:h.Ns mainGlobals mg) (a:W.nsIn K mainGlobals x=some (some (.ref f))) (l:K.lookup f=some ⟨oc,od,.func (W.fnOf x x (Qcb st) (Qah st) (Qo st) .none kV dc pm an cd ct),sl⟩)
  (c:W.codeIn K cd x=true) (k:W.keepIn K (.ref f)=true):Sr0 K mg x st:=⟨f,_,QmC l c k,W.mg_of X G a⟩
theorem ms0_mk (a:W.findIn K (.ref C) x=some (some (.ref f))) (l:K.lookup f=some ⟨oc,od,.func (W.fnOf x qual (Qcb st) (Qah st) (Qo st) .none kV dc pm an cd ct),sl⟩)
  (c:W.codeIn K cd qual=true) (k:W.keepIn K (.ref f)=true) (i:W.isFn K (.ref f)=true):Ms0 K C x qual st:=⟨f,_,QmC l c k,⟨a,i,k⟩⟩
theorem ck_mk (a:W.nsIn K mainGlobals x=some (some (.ref C))) (l:W.plainGet K C Str.empty=true) (c:W.hasDictIn K C=true) (k:W.plainOver K C=true) (i:W.findIn K (.ref C) "__setattr__" = some (some (.builtin "object.__setattr__"))):Ck K C x:=⟨⟨l,c,k,i⟩,a⟩
theorem mk0_mk (X:K.In h) (G:h.Ns mainGlobals mg) (a:W.nsIn K mainGlobals x=some (some (.ref C))) (l:W.makesIn K C=true) (c:W.findIn K (.ref C) "__init__" = some (some (.builtin "object.__init__"))) (k:W.keepIn K (.ref C)=true) :
  Mk0 K C/\W.nsIn K mainGlobals x=some (some (.ref C))/\mg x=some (.ref C):=⟨⟨l,c,k⟩,a,W.mg_of X G a⟩
theorem Sr0.src {ps:List Str} (S:Sr0 K mg x st) (hb:Bnd x x st ps:=by intro _ _ _ _ _ _;first | exact len1 fun _=>rfl | exact len2 fun _ _=>rfl | exact len3 fun _ _ _=>rfl | exact len4 fun _ _ _ _=>rfl | exact len5 fun _ _ _ _ _=>rfl | exact len0 rfl):Src K mg x st ps:=by
 obtain ⟨f,fd,h1,h2⟩:=S.ex
 exact ⟨f,fd,h1,h1.binds hb,h2⟩
variable {N ps:List Str} {k:Nat} {fr:Bool} {F:Sm} {fd:FuncData} {mm:List D->Ou D}
theorem Q3 (S:Sr0 K mg x st)
  (hbody:∀ {f:Addr} {cdv:Value} {A:Around} {outer:List Env} {s:Shared} {H:Hp} {E:XK},N.Nodup->Room k (A.deeper (envOfC x (Qo st) s.heap.objs.size f cdv)) ->
   PSs (cxOf CX0 P w K mg base N x (Qo st) f cdv A outer s H E).nox (Qah st) (tS K E0 fr F)) (sc:FnScope N ps (Qo st):=by exact ⟨rfl,rfl,rfl,by decide +kernel,rfl,by decide +kernel,by decide +kernel⟩) (hn:ps.length<=N.length:=by decide)
  (hb:Bnd x x st ps:=by intro _ _ _ _ _ _;first | exact len1 fun _=>rfl | exact len2 fun _ _=>rfl | exact len3 fun _ _ _=>rfl | exact len4 fun _ _ _ _=>rfl | exact len5 fun _ _ _ _ _=>rfl | exact len0 rfl):Df P w K mg base x (k + 1) ps fr (runD fr N.length F):=df_of (S.src hb) sc hn fun _ _ _ _ _ _ _=>hbody sc.nd
theorem Qor (S:Fun K x qual st f fd)
  (hbody:∀ {f:Addr} {cdv:Value} {A:Around} {outer:List Env} {s:Shared} {H:Hp} {E:XK},N.Nodup->Room k (A.deeper (envOfC qual (Qo st) s.heap.objs.size f cdv)) ->
   PSs (cxOf CX0 P w K mg base N qual (Qo st) f cdv A outer s H E).nox (Qah st) (tS K E0 fr F)) (sc:FnScope N ps (Qo st):=by exact ⟨rfl,rfl,rfl,by decide +kernel,rfl,by decide +kernel,by decide +kernel⟩) (hn:ps.length<=N.length:=by decide) :
  FnOk P w K mg base CX0 (k + 1) f fd ps (spD K fr ps.length (runD fr N.length F)):=Qpz S sc hn fun _ _ _ _ _ _ _=>hbody sc.nd
theorem Qpo (q:Ck K C c) (S:Ms0 K C x qual st) (h:∀ {f:Addr} {fd:FuncData},Fun K x qual st f fd->FnOk P w K mg base CX0 k f fd ps (spD K fr ps.length mm))
  (hb:Bnd x qual st ps:=by intro _ _ _ _ _ _;first | exact len1 fun _=>rfl | exact len2 fun _ _=>rfl | exact len3 fun _ _ _=>rfl | exact len4 fun _ _ _ _=>rfl | exact len5 fun _ _ _ _ _=>rfl):MDf P w K mg base c x k ps fr mm:=by
 obtain ⟨f,fd,h1,h2⟩:=S.ex
 exact ⟨C,f,fd,q.cl,q.ns,h2,h h1,h1.binds hb⟩
theorem Q5 (q:Ck K C c) (S:Ms0 K C x qual st)
  (hbody:∀ {f:Addr} {cdv:Value} {A:Around} {outer:List Env} {s:Shared} {H:Hp} {E:XK},N.Nodup->Room k (A.deeper (envOfC qual (Qo st) s.heap.objs.size f cdv)) ->
   PSs (cxOf CX0 P w K mg base N qual (Qo st) f cdv A outer s H E).nox (Qah st) (tS K E0 fr F)) (sc:FnScope N ps (Qo st):=by exact ⟨rfl,rfl,rfl,by decide +kernel,rfl,by decide +kernel,by decide +kernel⟩) (hn:ps.length<=N.length:=by decide)
  (hb:Bnd x qual st ps:=by intro _ _ _ _ _ _;first | exact len1 fun _=>rfl | exact len2 fun _ _=>rfl | exact len3 fun _ _ _=>rfl | exact len4 fun _ _ _ _=>rfl | exact len5 fun _ _ _ _ _=>rfl):MDf P w K mg base c x (k + 1) ps fr (runD fr N.length F):=Qpo q S (fun h1=>Qor h1 hbody sc hn) hb
end
section
variable {X:Cx} {m:Md} {e:Expr} {es:List Expr} {fs:List Fn} {p pos:Pos} {x:Str} {ps:List Str} {j k:Nat} {mm:List D->Ou D}
theorem xcl (h:Df X.prog X.w X.K X.mg X.base x j ps false mm) (hr:Room k X.A) (ha:PA X (e::es) (tXA X.K E0 m fs)) (hj:j<=k:=by omega) (hl:fs.length=ps.length:=by rfl) (hg:Gl X x:=by rfl) (hdb:(x == ("__debug__":Str))=false:=by decide)
  (he:starEach (e::es) X.env=(false,eval e X.env)::starEach es X.env:=by rfl) (hpl:(backTo pos (starEach es X.env)).any (·.1)=false:=by rfl) (hm:notF m=true:=by rfl):PE X (.Call (.Name x p) (e::es) [] pos) (tX X.K E0 m (Qf mm fs)):=xcall (h.mono hj) hr ha hl hg hdb he hpl hm
end
theorem Qg1 {P:Program} {w:World} {K:W.Frag} {mg:Str->Option Value} {base:Heap} {x:Str} {st:Stmt} {N ps:List Str} {k j:Nat} {F:Sm} (S:Sr0 K mg x st)
  (hbody:∀ {f:Addr} {cdv:Value} {A:Around} {outer:List Env} {s:Shared} {H:Hp} {E:XK},N.Nodup->Room k (A.deeper (envOfC x (Qo st) s.heap.objs.size f cdv)) ->
   PSs (cxOf CX0 P w K mg base N x (Qo st) f cdv A outer s H E).nox (Qah st) (tS K E0 ⟨false,some j⟩ F)) (sc:FnScope N ps (Qo st):=by exact ⟨rfl,rfl,rfl,by decide +kernel,rfl,by decide +kernel,by decide +kernel⟩) (hn:ps.length<=N.length:=by decide)
  (hb:Bnd x x st ps:=by intro _ _ _ _ _ _;first | exact len1 fun _=>rfl | exact len2 fun _ _=>rfl | exact len3 fun _ _ _=>rfl | exact len4 fun _ _ _ _=>rfl | exact len5 fun _ _ _ _ _=>rfl):DfM P w K mg base x (k + 1) ps j (runM j N.length F):=QoP (S.src hb) sc hn fun _ _ _ _ _ _ _=>hbody sc.nd
end DL
set_option maxHeartbeats 4000000
namespace Pr
open PySem PySem.Spec PyProof.Rows L2 DL
local macro_rules | `($x >=> $y)=>`(by refine QdI ?_ ?_;exact $x;exact $y)
local macro_rules | `(tactic| trivial)=>`(tactic| exact ⟨rfl,rfl,rfl,by decide +kernel,rfl,by decide +kernel,by decide +kernel⟩)
def top (i : Nat) : Stmt := PySem.Challenge.pw_pastdesk_k61_the_first_that_fails.main.body.getD i (.Pass ⟨0,0,0,0⟩)
abbrev QiF:Stmt:=top 5
abbrev Qn0:Stmt:=top 6
abbrev QmR:Stmt:=top 7
abbrev Qnh:Stmt:=top 8
abbrev Qhe:Stmt:=top 10
abbrev Qjj:Stmt:=top 11
abbrev QkN:Stmt:=top 12
abbrev Qfv:Stmt:=QN (top 41) 3
abbrev QeI:Stmt:=QN (top 24) 3
abbrev QeN:Stmt:=QN (top 39) 3
abbrev Qd1:Stmt:=QN (top 43) 3
abbrev QeJ:Stmt:=QN (top 34) 3
abbrev QeH:Stmt:=QN (top 26) 3
abbrev Qip:Stmt:=QN (top 41) 2
abbrev Qhv:Stmt:=QN (top 24) 2
abbrev QkH:Stmt:=top 28
abbrev Qje:Stmt:=top 29
abbrev Qht:Stmt:=QN (top 39) 2
abbrev Qf6:Stmt:=QN (top 43) 2
abbrev Qhn:Stmt:=QN (top 34) 2
abbrev QgU:Stmt:=QN (top 26) 2
abbrev Qpx:Stmt:=top 15
abbrev Qf2:Stmt:=top 30
abbrev Qga:Stmt:=QN (top 41) 4
abbrev Qfa:Stmt:=QN (top 24) 4
abbrev Qlv:Stmt:=top 37
abbrev QkJ:Stmt:=top 38
abbrev Qfz:Stmt:=QN (top 39) 4
abbrev Qcw:Stmt:=QN (top 43) 4
abbrev Qfd:Stmt:=QN (top 34) 4
abbrev Qfo:Stmt:=QN (top 26) 4
abbrev QoU:Stmt:=top 16
abbrev QmH:Stmt:=top 17
abbrev QjG:Stmt:=top 18
abbrev QmD:Stmt:=top 19
abbrev QhM:Stmt:=QN (top 41) 5
abbrev Qhh:Stmt:=QN (top 24) 5
abbrev Qhl:Stmt:=QN (top 39) 5
abbrev Qf1:Stmt:=QN (top 43) 5
abbrev QhG:Stmt:=QN (top 34) 5
abbrev QgV:Stmt:=QN (top 26) 5
abbrev QeL:Stmt:=top 22
abbrev Qlt:Stmt:=top 21
abbrev Qfp:Stmt:=top 45
abbrev QhT:Stmt:=top 46
abbrev Qf8:Stmt:=top 47
abbrev Qex:Stmt:=top 48
abbrev Qh2:Stmt:=top 49
abbrev Qd2:Stmt:=top 50
abbrev Qde:Stmt:=top 51
abbrev Qeo:Stmt:=top 52
abbrev Qih:Stmt:=top 53
abbrev QeA:Stmt:=top 54
abbrev Qjh:Stmt:=top 55
abbrev Qhr:Stmt:=top 56
abbrev Qf4:Stmt:=top 57
abbrev Qiu:Stmt:=top 58
abbrev Qdx:Stmt:=top 59
abbrev Qf7:Stmt:=top 60
abbrev Qgb:Stmt:=top 61
abbrev Qg7:Stmt:=top 62
abbrev QoD:Stmt:=top 63
def QcS:Sm:=(sSeq (sRet (f2 gSub (f2 gAdd (f2 gIx (fVar 0) (fC (.int 0))) (f2 gIx (fVar 0) (fC (.int 1)))) (fC (.int 1)))) Qb)
def QaW:List D->Ou D:=runD false 1 QcS
def Qhc:Sm:=(sSeq (sRet (fChn gLe gLe (f2 gIx (fVar 0) (fC (.int 0))) (fVar 1) (Qf (QaW) [(fVar 0)]))) Qb)
def Qa0:List D->Ou D:=runD false 2 Qhc
def Qfn:Sm:=(sSeq (sSet 1 (f2 gIx (Qe 0) (fC (.int 0)))) (sSeq (sSet 2 (f2 gDiv (f2 gIx (fVar 0) (fC (.int 1))) (fC (.int 2)))) (sSeq (sRet (fTup [(fTup [(fVar 1),(fVar 2)]),(fTup [(f2 gAdd (fVar 1) (fVar 2)),(fVar 2)])])) Qb)))
def Qfu:List D->Ou D:=runD false 3 Qfn
def Qhz:Sm:=(sSeq (sSet 2 (Qf gMin [(f2 gIx (fVar 0) (fC (.int 0))),(f2 gIx (fVar 1) (fC (.int 0)))])) (sSeq (sSet 3 (Qf gMax [(Qf (QaW) [(fVar 0)]),(Qf (QaW) [(fVar 1)])])) (sSeq (sSet 4 (f2 gShl (fC (.int 1)) (f1 QlY (f2 gXor (fVar 2) (fVar 3))))) (sSeq (sRet (fTup [(f2 gMul (f2 gDiv (fVar 2) (fVar 4)) (fVar 4)),(fVar 4)])) Qb))))
def QeY:List D->Ou D:=runD false 5 Qhz
def Qcf:Sm:=(sSeq (sRet (fTup [(f2 gIx (fVar 0) (fC (.int 0))),(f2 gIx (fVar 0) (fC (.int 1)))])) Qb)
def Qw:List D->Ou D:=runD false 1 Qcf
def Qdd:Sm:=(sSeq (sRet (f2 gIx (fVar 0) (fC (.int 2)))) Qb)
def Qak:List D->Ou D:=runD false 1 Qdd
def Qc4:Sm:=(sSeq (sRet (f2 gEq (f2 gIx (fVar 0) (fC (.int 1))) (fC (.int 1)))) Qb)
def Qai:List D->Ou D:=runD false 1 Qc4
def QbG:Sm:=(sSeq (sRet (fTup [(fC (.int 0)),(fTup []),(fTup [])])) Qb)
def QP:List D->Ou D:=runD false 1 QbG
def Qbi:Sm:=(sSeq (sRet (fC (.int 0))) Qb)
def QT:List D->Ou D:=runD false 1 Qbi
def Qbj:Sm:=(sSeq (sRet (fTup [(fC (.int 0)),(fC (.int 0)),(fC (.int 0))])) Qb)
def QR:List D->Ou D:=runD false 1 Qbj
def QaE:Sm:=(sSeq (sRet (fTup [(fC (.int 0)),(fTup [])])) Qb)
def Qy:List D->Ou D:=runD false 1 QaE
def Qbh:Sm:=(sSeq (sRet (fTup [(fC (.int 0)),(fC (.int 0))])) Qb)
def QS:List D->Ou D:=runD false 1 Qbh
def Qbk:Sm:=(sSeq (sRet (fTup [(fC (.int 0)),(fC (.int 0)),(fC (.int 0))])) Qb)
def QH:List D->Ou D:=runD false 1 Qbk
def QaV:Sm:=(sSeq (sIf (fAsB (f2 gEq (f2 gIx (fVar 2) (fC (.int 0))) (fC (.str "put")))) (sSeq (sRet (fTup [(fC (.int 0)),(fTup []),(fTup [(fTup [(f2 gIx (fVar 2) (fC (.int 1))),(fVar 1)])])])) Qb) Qb) (sSeq (sIf (fAsB (f2 gEq (f2 gIx (fVar 2) (fC (.int 0))) (fC (.str "take")))) (sSeq (sRet (fTup [(fC (.int 1)),(fTup []),(fTup [])])) Qb) Qb) (sSeq (sRet (Qag [("Kind",QT),("Sums",QH),("Pile",QS),("Line",QR),("Bag",QP),("Names",Qy)] (fVar 0) [])) Qb)))
def Qaf:List D->Ou D:=runD false 3 QaV
def Qce:Sm:=(sSeq (sRet (fC (.int 1))) Qb)
def QaF:List D->Ou D:=runD false 3 Qce
def QcY:Sm:=(sSeq (sRet (fIfE (fAsB (f2 gEq (f2 gIx (fVar 0) (fC (.int 0))) (fC (.str "put")))) (fC (.int 1)) (fC (.int 0)))) Qb)
def Qb2:List D->Ou D:=runD false 1 QcY
def Qcj:Sm:=(sSeq (sRet (fIfE (fAsB (f2 gEq (f2 gIx (fVar 0) (fC (.int 0))) (fC (.str "take")))) (fC (.int 1)) (fC (.int 0)))) Qb)
def Qa6:List D->Ou D:=runD false 1 Qcj
def Qca:Sm:=(sSeq (sRet (fTup [(Qf (Qa6) [(fVar 2)]),(Qf (Qb2) [(fVar 2)]),(Qf (Qa6) [(fVar 2)])])) Qb)
def QaH:List D->Ou D:=runD false 3 Qca
def Qao:Sm:=(sSeq (sIf (fAsB (f2 gEq (f2 gIx (fVar 2) (fC (.int 0))) (fC (.str "set")))) (sSeq (sRet (fTup [(fC (.int 0)),(fTup [(fTup [(f2 gIx (fVar 2) (fC (.int 1))),(fC (.bl false)),(fTup [(f2 gIx (fVar 2) (fC (.int 2))),(fVar 1)])])])])) Qb) Qb) (sSeq (sIf (fAsB (f2 gEq (f2 gIx (fVar 2) (fC (.int 0))) (fC (.str "drop")))) (sSeq (sRet (fTup [(fC (.int 1)),(fTup [(fTup [(f2 gIx (fVar 2) (fC (.int 1))),(fC (.bl true)),(fC .non)])])])) Qb) Qb) (sSeq (sRet (Qag [("Kind",QT),("Sums",QH),("Pile",QS),("Line",QR),("Bag",QP),("Names",Qy)] (fVar 0) [])) Qb)))
def QO:List D->Ou D:=runD false 3 Qao
def Qb9:Sm:=(sSeq (sRet (fTup [(Qf (Qa6) [(fVar 2)]),(Qf (Qb2) [(fVar 2)])])) Qb)
def QaD:List D->Ou D:=runD false 3 Qb9
def Qcc:Sm:=(sSeq (sIf (fAsB (f2 gEq (f2 gIx (fVar 2) (fC (.int 0))) (fC (.str "add")))) (sSeq (sRet (fTup [(f2 gIx (fVar 2) (fC (.int 1))),(Qf gMin [(fC (.int 0)),(f2 gIx (fVar 2) (fC (.int 1)))]),(Qf gMax [(fC (.int 0)),(f2 gIx (fVar 2) (fC (.int 1)))])])) Qb) Qb) (sSeq (sRet (Qag [("Kind",QT),("Sums",QH),("Pile",QS),("Line",QR),("Bag",QP),("Names",Qy)] (fVar 0) [])) Qb))
def Qaz:List D->Ou D:=runD false 3 Qcc
def QjL:Sm:=(sSeq (sRet (fTup [(fVar 1),(fC (.int 1)),(Qag [("Kind",QaF),("Sums",Qaz),("Pile",QaD),("Line",QaH),("Bag",Qaf),("Names",QO)] (fVar 0) [(fVar 1),(fVar 2)]),(fVar 2)])) Qb)
def Qda:List D->Ou D:=runD false 3 QjL
def QaK:Sm:=(sSeq (sRet (f2 gAdd (fVar 0) (Qf gMax [(fC (.int 0)),(f2 gSub (fVar 2) (fVar 1))]))) Qb)
def Q7:List D->Ou D:=runD false 3 QaK
def Qb0:Sm:=(sSeq (sSet 3 (f1 QbD (f2 Qib (f2 gIx (Qe 1) (fC (.int 2))) (f2 gIx (Qe 2) (fC (.int 1)))))) (sSeq (sSet 4 (f2 gAdd (Qf gLen [(f2 gIx (fVar 2) (fC (.int 1)))]) (Qf gMin [(Qf gLen [(f2 gIx (fVar 1) (fC (.int 2)))]),(f2 gIx (fVar 2) (fC (.int 0)))]))) (sSeq (sSet 5 (f1 QbD (f2 gCat (f1 Qc3 (f2 gIx (Qe 1) (fC (.int 1)))) (fSl (Qe 3) none (some (fVar 4)))))) (sSeq (sSet 6 (f1 QbD (f2 gCat (f1 Qc3 (f2 gIx (Qe 2) (fC (.int 2)))) (fSl (Qe 3) (some (fVar 4)) none)))) (sSeq (sRet (fTup [(Qf (Q7) [(f2 gIx (fVar 1) (fC (.int 0))),(Qf gLen [(f2 gIx (fVar 1) (fC (.int 2)))]),(f2 gIx (fVar 2) (fC (.int 0)))]),(f1 Qea (Qe 5)),(f1 Qea (Qe 6))])) Qb)))))
def QX:List D->Ou D:=runD false 7 Qb0
def QbA:Sm:=(sSeq (sRet (f2 gAdd (fVar 1) (fVar 2))) Qb)
def Qac:List D->Ou D:=runD false 3 QbA
def Qd9:Sm:=(sSeq (sRet (f2 gSub (f2 gIx (fVar 0) (fC (.int 2))) (f2 gIx (fVar 0) (fC (.int 0))))) Qb)
def Qek:List D->Ou D:=runD false 1 Qd9
def Qem:Sm:=(sSeq (sRet (f2 gSub (f2 gIx (fVar 0) (fC (.int 1))) (Qf (Qek) [(fVar 0)]))) Qb)
def Qeg:List D->Ou D:=runD false 1 Qem
def QbK:Sm:=(sSeq (sRet (fTup [(Qf (Q7) [(f2 gIx (fVar 1) (fC (.int 0))),(Qf (Qeg) [(fVar 1)]),(f2 gIx (fVar 2) (fC (.int 0)))]),(f2 gAdd (f2 gIx (fVar 1) (fC (.int 1))) (f2 gIx (fVar 2) (fC (.int 1)))),(f2 gAdd (f2 gIx (fVar 1) (fC (.int 2))) (f2 gIx (fVar 2) (fC (.int 2))))])) Qb)
def Qaa:List D->Ou D:=runD false 3 QbK
def Qbl:Sm:=(sSeq (sSet 3 (f2 gAdd (f2 gIx (fVar 1) (fC (.int 0))) (f2 gIx (fVar 2) (fC (.int 0))))) (sSeq (sOwn 4 (f1 Qec (QbS (QeP (f2 gIx (Qe 1) (fC (.int 1)))) (gNm 0) fYes (fTup [(f2 gIx (Qe 0) (fC (.int 0))),(Qe 0)]) 1 []))) (sSeq (QlJ (f2 gIx (Qe 2) (fC (.int 1))) (gNm 5) (sSeq (sSet 6 (f2 gIx (Qe 5) (fC (.int 0)))) (sSeq (sSet 7 (QcB 4 (fVar 6) (fTup [(Qe 6),(f2 gIx (Qe 5) (fC (.int 1))),(fC .non)]))) (sSeq (sIf (Qbp (fTru (f2 gIx (fVar 5) (fC (.int 1)))) (fAsB (f1 Qbr (f2 gIx (fVar 7) (fC (.int 2)))))) (sSeq (sSet 3 (f2 gSub (fVar 3) (fC (.int 1)))) Qb) Qb) (sSeq (sDPut 4 (fVar 6) (fTup [(Qe 6),(f2 gIx (Qe 7) (fC (.int 1))),(f2 gIx (Qe 5) (fC (.int 2)))])) Qb))))) (sSeq (sRet (fTup [(fVar 3),(f1 Qea (QfT 4))])) Qb))))
def QI:List D->Ou D:=runD false 8 Qbl
def QbO:Sm:=(sSeq (sRet (fTup [(Qf (Q7) [(f2 gIx (fVar 1) (fC (.int 0))),(f2 gIx (fVar 1) (fC (.int 1))),(f2 gIx (fVar 2) (fC (.int 0)))]),(f2 gAdd (f2 gIx (fVar 2) (fC (.int 1))) (Qf gMax [(fC (.int 0)),(f2 gSub (f2 gIx (fVar 1) (fC (.int 1))) (f2 gIx (fVar 2) (fC (.int 0))))]))])) Qb)
def Qab:List D->Ou D:=runD false 3 QbO
def QbM:Sm:=(sSeq (sSet 3 (f2 gIx (Qe 1) (fC (.int 0)))) (sSeq (sRet (fTup [(f2 gAdd (fVar 3) (f2 gIx (fVar 2) (fC (.int 0)))),(Qf gMin [(f2 gIx (fVar 1) (fC (.int 1))),(f2 gAdd (fVar 3) (f2 gIx (fVar 2) (fC (.int 1))))]),(Qf gMax [(f2 gIx (fVar 1) (fC (.int 2))),(f2 gAdd (fVar 3) (f2 gIx (fVar 2) (fC (.int 2))))])])) Qb))
def Qad:List D->Ou D:=runD false 4 QbM
def QjD:Sm:=(sSeq (sSet 3 (Qf (QeY) [(Qf (Qw) [(Qe 1)]),(Qf (Qw) [(Qe 2)])])) (sSeq (sSet 4 (Qag [("Kind",Qac),("Sums",Qad),("Pile",Qab),("Line",Qaa),("Bag",QX),("Names",QI)] (Qe 0) [(Qf (Qak) [(Qe 1)]),(Qf (Qak) [(Qe 2)])])) (sSeq (sRet (fTup [(f2 gIx (fVar 3) (fC (.int 0))),(f2 gIx (fVar 3) (fC (.int 1))),(fVar 4),(fVar 1),(fVar 2)])) Qb)))
def Qa1:List D->Ou D:=runD false 5 QjD
def QdY:Sm:=(sSeq (sIf (fAsB (f2 gLt (f2 gIx (fVar 2) (fC (.int 0))) (f2 gIx (fVar 1) (fC (.int 0))))) (sSeq (sRet (Qf (Qa1) [(fVar 0),(fVar 2),(fVar 1)])) Qb) Qb) (sSeq (sRet (Qf (Qa1) [(fVar 0),(fVar 1),(fVar 2)])) Qb))
def QaY:List D->Ou D:=runD false 3 QdY
def Qdf:Sm:=(sSeq (sRet (Qf (Qa0) [(f2 gIx (Qf (Qfu) [(Qf (Qw) [(fVar 0)])]) (fC (.int 0))),(fVar 1)])) Qb)
def Qal:List D->Ou D:=runD false 2 Qdf
def QaN (r_put_in:List D->Ou D):Sm:=(sSeq (sIf (fAsB (f1 gIsN (fVar 1))) (sSeq (sRet (Qf (Qda) [(fVar 0),(fVar 2),(fVar 3)])) Qb) Qb) (sSeq (sIf (Qeq (fTru (Qf (Qa0) [(Qf (Qw) [(fVar 1)]),(fVar 2)]))) (sSeq (sRet (Qf (QaY) [(fVar 0),(fVar 1),(Qf (Qda) [(fVar 0),(fVar 2),(fVar 3)])])) Qb) Qb) (sSeq (sIf (fTru (Qf (Qai) [(fVar 1)])) (sSeq sBad Qb) Qb) (sSeq (sIf (fTru (Qf (Qal) [(fVar 1),(fVar 2)])) (sSeq (sRet (Qf (Qa1) [(fVar 0),(Qf (r_put_in) [(fVar 0),(f2 gIx (fVar 1) (fC (.int 3))),(fVar 2),(fVar 3)]),(f2 gIx (fVar 1) (fC (.int 4)))])) Qb) Qb) (sSeq (sRet (Qf (Qa1) [(fVar 0),(f2 gIx (fVar 1) (fC (.int 3))),(Qf (r_put_in) [(fVar 0),(f2 gIx (fVar 1) (fC (.int 4))),(fVar 2),(fVar 3)])])) Qb)))))
def QC:Nat->List D->Ou D
 | 0,_=>.bad
 | n + 1,ds=>runD false 4 (QaN (QC n)) ds
def QcP:Sm:=(sSeq (sRet (f2 gEq (f2 gIx (fVar 1) (fC (.int 0))) (fC (.int 0)))) Qb)
def QaU:List D->Ou D:=runD false 2 QcP
def Qci:Sm:=(sSeq (sRet (fC (.bl true))) Qb)
def QaI:List D->Ou D:=runD false 2 Qci
def Qcn:Sm:=(sSeq (sRet (f2 gEq (f2 gIx (fVar 1) (fC (.int 0))) (fC (.int 0)))) Qb)
def QaA:List D->Ou D:=runD false 2 Qcn
def QbW:Sm:=(sSeq (sRet (f2 gEq (f2 gIx (fVar 1) (fC (.int 0))) (fC (.int 0)))) Qb)
def Qan:List D->Ou D:=runD false 2 QbW
def Qcd:Sm:=(sSeq (sRet (f2 gEq (f2 gIx (fVar 1) (fC (.int 0))) (fC (.int 0)))) Qb)
def Qaw:List D->Ou D:=runD false 2 Qcd
def Qcq:Sm:=(sSeq (sRet (f2 gGe (f2 gIx (fVar 1) (fC (.int 1))) (fC (.int 0)))) Qb)
def Qav:List D->Ou D:=runD false 2 Qcq
def Q0 (r_first_failing:List D->Ou D):Sm:=(sSeq (sIf (fTru (Qf (Qai) [(fVar 2)])) (sSeq (sRet (f2 gIx (fVar 2) (fC (.int 0)))) Qb) Qb) (sSeq (sSet 3 (Qag [("Kind",Qac),("Sums",Qad),("Pile",Qab),("Line",Qaa),("Bag",QX),("Names",QI)] (Qe 0) [(Qe 1),(Qf (Qak) [(f2 gIx (Qe 2) (fC (.int 3)))])])) (sSeq (sIf (fTru (Qag [("Kind",QaI),("Sums",Qav),("Pile",Qaw),("Line",QaA),("Bag",QaU),("Names",Qan)] (fVar 0) [(fVar 3)])) (sSeq (sRet (Qf (r_first_failing) [(fVar 0),(fVar 3),(f2 gIx (fVar 2) (fC (.int 4)))])) Qb) Qb) (sSeq (sRet (Qf (r_first_failing) [(fVar 0),(fVar 1),(f2 gIx (fVar 2) (fC (.int 3)))])) Qb))))
def Qx:Nat->List D->Ou D
 | 0,_=>.bad
 | n + 1,ds=>runD false 4 (Q0 (Qx n)) ds
def Qb5:Sm:=(sSeq (sIf (fOrT (fAsB (f1 gIsN (fVar 1))) (fTru (Qag [("Kind",QaI),("Sums",Qav),("Pile",Qaw),("Line",QaA),("Bag",QaU),("Names",Qan)] (fVar 0) [(Qf (Qak) [(fVar 1)])]))) (sSeq (sRet (fC .non)) Qb) Qb) (sSeq (sRet (Qf (Qx 64) [(fVar 0),(Qag [("Kind",QT),("Sums",QH),("Pile",QS),("Line",QR),("Bag",QP),("Names",Qy)] (fVar 0) []),(fVar 1)])) Qb))
def QW:List D->Ou D:=runD false 2 Qb5
def QaZ:Sm:=(sSeq (sIf (fAsB (f2 gLt (fVar 1) (Qf gLen [(fVar 0)]))) (sSeq (sRet (f2 gIx (fVar 0) (fVar 1))) Qb) Qb) (sSeq (sRet (fC (.int 0))) Qb))
def QZ:List D->Ou D:=runD false 2 QaZ
def Qaj:Sm:=(sSeq (sSet 2 (f2 gDiv (fVar 1) (fC (.int 3)))) (sSeq (sIf (fAsB (f2 gEq (f2 gMod (fVar 1) (fC (.int 3))) (fC (.int 0)))) (sSeq (sRet (f2 gMod (fVar 2) (fC (.int 1073741824)))) Qb) Qb) (sSeq (sIf (fAsB (f2 gEq (f2 gMod (fVar 1) (fC (.int 3))) (fC (.int 1)))) (sSeq (sRet (f2 gMod (f2 gAdd (f2 gDiv (fVar 0) (fC (.int 7))) (f2 gMul (f2 gMod (fVar 2) (fC (.int 11))) (f2 gShl (fC (.int 1)) (f2 gMod (f2 gDiv (fVar 0) (fC (.int 3))) (fC (.int 27)))))) (fC (.int 1073741824)))) Qb) Qb) (sSeq (sRet (f2 gIx (fLst [(fC (.int 0)),(fC (.int 1073741823)),(f2 gShl (fC (.int 1)) (f2 gMod (f2 gDiv (fVar 2) (fC (.int 4))) (fC (.int 30)))),(f2 gSub (f2 gShl (fC (.int 1)) (f2 gMod (f2 gDiv (fVar 2) (fC (.int 4))) (fC (.int 30)))) (fC (.int 1)))]) (f2 gMod (fVar 2) (fC (.int 4))))) Qb))))
def QY:List D->Ou D:=runD false 3 Qaj
def QaL:Sm:=(sSeq (sIf (fAsB (f2 gEq (f2 gMod (fVar 0) (fC (.int 3))) (fC (.int 0)))) (sSeq (sRet (f2 gMod (f2 gDiv (fVar 0) (fC (.int 3))) (fC (.int 5)))) Qb) Qb) (sSeq (sIf (fAsB (f2 gEq (f2 gMod (fVar 0) (fC (.int 3))) (fC (.int 1)))) (sSeq (sRet (f2 gMod (f2 gDiv (fVar 0) (fC (.int 3))) (f2 gPow (fC (.int 10)) (fC (.int 30))))) Qb) Qb) (sSeq (sRet (f2 gSub (f1 gNeg (fC (.int 1))) (f2 gMod (f2 gDiv (fVar 0) (fC (.int 3))) (fC (.int 9))))) Qb)))
def Q9:List D->Ou D:=runD false 1 QaL
def Qbg:Sm:=(sSeq (sSet 2 (fC (.str "abcdefghijklmnopqrstuvwxyz"))) (sSeq (sSet 3 (f2 gAdd (fC (.int 1)) (f2 gMod (f2 gDiv (fVar 0) (fC (.int 3))) (fC (.int 12))))) (sSeq (sOwn 4 (QbS (Qfs [(fVar 3)]) (gNm 0) fYes (f2 gIx (Qe 1) (f2 gMod (f2 gAdd (f2 gDiv (fVar 2) (fC (.int 12))) (f2 gMul (fC (.int 5)) (fVar 0))) (fC (.int 26)))) 1 [2,0])) (sSeq (sPut 4 (f2 gMod (f2 gDiv (fVar 0) (fC (.int 5))) (fVar 3)) (f2 gIx (Qe 2) (f2 gMod (f2 gAdd (f2 gDiv (fVar 0) (fC (.int 7))) (f2 gMul (f2 gMod (fVar 1) (fC (.int 4))) (fC (.int 7)))) (fC (.int 26))))) (sSeq (sIf (Qbp (fAsB (f2 gEq (f2 gMod (f2 gDiv (fVar 1) (fC (.int 4))) (fC (.int 5))) (fC (.int 4)))) (fAsB (f2 gGt (fVar 3) (fC (.int 1))))) (sSeq (Qkp 4) Qb) Qb) (sSeq (fun δ=>(sRet (Qh4 (fC (.str "")) (fVar 4))) (thaw 4 δ)) Qb))))))
def Qas:List D->Ou D:=runD false 5 Qbg
def QB:Sm:=(sSeq (sSet 3 (f2 gMod (fVar 2) (fC (.int 8)))) (sSeq (sSet 4 (f2 gDiv (fVar 2) (fC (.int 8)))) (sSeq (sIf (Qbp (fAsB (f2 gEq (fVar 0) (fC (.int 0)))) (fAsB (f2 gLt (fVar 3) (fC (.int 5))))) (sSeq (sRet (fTup [(fC (.str "add")),(Qf (Q9) [(fVar 4)])])) Qb) Qb) (sSeq (sIf (Qbp (fAsB (f2 gEq (fVar 0) (fC (.int 0)))) (fAsB (f2 gEq (fVar 3) (fC (.int 7))))) (sSeq (sRet (fTup [(fC (.str "reach")),(f2 gAdd (fC (.int 1)) (f2 gIx (fLst [(f2 gMod (f2 gDiv (fVar 4) (fC (.int 3))) (fC (.int 12))),(f2 gMod (f2 gDiv (fVar 4) (fC (.int 3))) (f2 gPow (fC (.int 10)) (fC (.int 30))))]) (f2 gMod (fVar 4) (fC (.int 2)))))])) Qb) Qb) (sSeq (sIf (fAsB (f2 gEq (fVar 3) (fC (.int 5)))) (sSeq (sRet (fTup [(fC (.str "many"))])) Qb) Qb) (sSeq (sIf (fAsB (f2 gEq (fVar 0) (fC (.int 0)))) (sSeq (sRet (fTup [(fC (.str "peak"))])) Qb) Qb) (sSeq (sIf (Qbp (fAsB (f2 gEq (fVar 0) (fC (.int 4)))) (fAsB (f2 gLt (fVar 3) (fC (.int 3))))) (sSeq (sRet (fTup [(fC (.str "set")),(Qf (Qas) [(fVar 1),(fVar 4)]),(Qf (Q9) [(f2 gDiv (fVar 4) (fC (.int 2)))])])) Qb) Qb) (sSeq (sIf (fAsB (f2 gEq (fVar 0) (fC (.int 4)))) (sSeq (sRet (fTup [(f2 gIx (fLst [(fC (.str "drop")),(fC (.str "look"))]) (f2 gDiv (fVar 3) (fC (.int 6)))),(Qf (Qas) [(fVar 1),(fVar 4)])])) Qb) Qb) (sSeq (sIf (fAsB (f2 gLt (fVar 3) (fC (.int 3)))) (sSeq (sRet (fTup [(fC (.str "put")),(Qf (Q9) [(fVar 4)])])) Qb) Qb) (sSeq (sIf (fAsB (f2 gLt (fVar 3) (fC (.int 5)))) (sSeq (sRet (fTup [(fC (.str "take"))])) Qb) Qb) (sSeq (sRet (fTup [(fC (.str "look")),(f2 gIx (fLst [(f2 gMod (f2 gDiv (fVar 4) (fC (.int 3))) (fC (.int 4))),(f2 gMod (f2 gDiv (fVar 4) (fC (.int 3))) (f2 gPow (fC (.int 10)) (fC (.int 30))))]) (f2 gMod (fVar 4) (fC (.int 2))))])) Qb)))))))))))
def Qu:List D->Ou D:=runD false 5 QB
def Qa7:Sm:=(sSeq (sSet 1 (f2 gAdd (fC (.int 1)) (f2 gMod (fVar 0) (fC (.int 12))))) (sSeq (sSet 2 (f2 gDiv (fVar 0) (fC (.int 12)))) (sSeq (sSet 3 (fC (.str ""))) (sSeq (sRng [(fVar 1)] (gNm 4) (sSeq (sSet 3 (f2 gAdd (fVar 3) (f2 gIx (fC (.str "abcdefghijklmnopqrstuvwxyz")) (f2 gMod (fVar 2) (fC (.int 26)))))) (sSeq (sSet 2 (f2 gDiv (fVar 2) (fC (.int 26)))) Qb))) (sSeq (sRet (fVar 3)) Qb)))))
def QaB:List D->Ou D:=runD false 5 Qa7
def Qam:Sm:=(sSeq (sIf (fAsB (f2 gEq (f2 gMod (fVar 0) (fC (.int 2))) (fC (.int 1)))) (sSeq (sRet (f1 gNeg (f2 gMod (f2 gDiv (fVar 0) (fC (.int 2))) (f2 gPow (fC (.int 10)) (fC (.int 30)))))) Qb) Qb) (sSeq (sRet (f2 gMod (f2 gDiv (fVar 0) (fC (.int 2))) (f2 gPow (fC (.int 10)) (fC (.int 30))))) Qb))
def QM:List D->Ou D:=runD false 1 Qam
def Qs:Sm:=(sSeq (sSet 2 (f2 gMod (fVar 1) (fC (.int 4)))) (sSeq (sSet 3 (f2 gDiv (fVar 1) (fC (.int 4)))) (sSeq (sIf (fAsB (f2 gEq (fVar 0) (fC (.int 0)))) (sSeq (sRet (f2 gIx (fLst [(fTup [(fC (.str "add")),(Qf (QM) [(Qe 3)])]),(fTup [(fC (.str "reach")),(f2 gAdd (fC (.int 1)) (f2 gMod (fVar 3) (f2 gPow (fC (.int 10)) (fC (.int 30)))))]),(fTup [(fC (.str "many"))]),(fTup [(fC (.str "peak"))])]) (fVar 2))) Qb) Qb) (sSeq (sIf (fAsB (f2 gEq (fVar 0) (fC (.int 4)))) (sSeq (sSet 4 (Qf (QaB) [(Qe 3)])) (sSeq (sSet 5 (Qf (QM) [(f2 gDiv (fVar 3) (f2 gMul (fC (.int 12)) (f2 gPow (fC (.int 26)) (fC (.int 12)))))])) (sSeq (sRet (f2 gIx (fLst [(fTup [(fC (.str "set")),(Qe 4),(Qe 5)]),(fTup [(fC (.str "drop")),(Qe 4)]),(fTup [(fC (.str "look")),(Qe 4)]),(fTup [(fC (.str "many"))])]) (fVar 2))) Qb))) Qb) (sSeq (sRet (f2 gIx (fLst [(fTup [(fC (.str "put")),(Qf (QM) [(Qe 3)])]),(fTup [(fC (.str "take"))]),(fTup [(fC (.str "look")),(f2 gMod (fVar 3) (f2 gPow (fC (.int 10)) (fC (.int 30))))]),(fTup [(fC (.str "many"))])]) (fVar 2))) Qb)))))
def Qk:List D->Ou D:=runD false 6 Qs
def QbT:Sm:=(sSeq (sIf (fTru (fVar 2)) (sSeq (sRet (fTup [(f2 gMod (fVar 3) (fC (.int 1073741824))),(Qf (Qk) [(fVar 0),(fVar 4)])])) Qb) Qb) (sSeq (sRet (fTup [(Qf (QY) [(fVar 1),(fVar 3)]),(Qf (Qu) [(fVar 0),(fVar 1),(fVar 4)])])) Qb))
def QaX:List D->Ou D:=runD false 5 QbT
def Qcy:Sm:=(sSeq (sSet 3 (fC (.int 0))) (sSeq (sIf (fAsB (f2 gGt (Qf gLen [(fVar 0)]) (fC (.int 0)))) (sSeq (sSet 3 (f2 gIx (fIxO 0 (f1 gNeg (fC (.int 1)))) (fC (.int 0)))) Qb) Qb) (sSeq (sIf (fAsB (f2 gEq (f2 gIx (fVar 2) (fC (.int 0))) (fC (.str "add")))) (sSeq (sApp 0 (fTup [(f2 gAdd (fVar 3) (f2 gIx (fVar 2) (fC (.int 1)))),(Qe 1)])) (sSeq (QU 0 (fTup [(fC .non),(fC .non),(f2 gGe (f2 gAdd (fVar 3) (f2 gIx (fVar 2) (fC (.int 1)))) (fC (.int 0)))])) Qb)) Qb) (sSeq (sIf (fAsB (f2 gEq (f2 gIx (fVar 2) (fC (.int 0))) (fC (.str "many")))) (sSeq (QU 0 (fTup [(Qe 3),(fC .non),(fC (.bl true))])) Qb) Qb) (sSeq (sIf (fAsB (f2 gEq (f2 gIx (fVar 2) (fC (.int 0))) (fC (.str "peak")))) (sSeq (QU 0 (fTup [(f1 Qiw (f2 gCat (fLst [(fC (.int 0))]) (QgX (QeQ 0) fYes (f2 gIx (fVar 0) (fC (.int 0))) []))),(fC .non),(fC (.bl true))])) Qb) Qb) (sSeq (Qe1 0 4 (fAsB (f2 gGe (f2 gIx (fVar 4) (fC (.int 0))) (f2 gIx (fVar 2) (fC (.int 1))))) (QU 0 (fTup [(f2 gIx (Qe 4) (fC (.int 1))),(f2 gIx (Qe 4) (fC (.int 1))),(fC (.bl true))]))) (sSeq (QU 0 (fTup [(fC .non),(fC .non),(fC (.bl true))])) Qb)))))))
def Qbf:List D->Ou D:=runM 0 5 Qcy
def Qdp:Sm:=(sSeq (sIf (fAsB (f2 gEq (f2 gIx (fVar 3) (fC (.int 0))) (fC (.str "put")))) (sSeq (sApp 1 (fTup [(f2 gIx (Qe 3) (fC (.int 1))),(Qe 2)])) (sSeq (QU 1 (fTup [(fC .non),(fC .non),(fC (.bl true))])) Qb)) Qb) (sSeq (sIf (fAsB (f2 gEq (f2 gIx (fVar 3) (fC (.int 0))) (fC (.str "many")))) (sSeq (QU 1 (fTup [(Qf gLen [(fVar 1)]),(fC .non),(fC (.bl true))])) Qb) Qb) (sSeq (sSet 4 (Qdm 1)) (sSeq (sIf (fAsB (f2 gEq (fVar 0) (fC (.int 1)))) (sSeq (sSet 4 (Qik 1)) Qb) Qb) (sSeq (sIf (fAsB (f2 gEq (fVar 0) (fC (.int 3)))) (sSeq (sSet 4 (f1 QbD (fVar 1))) Qb) Qb) (sSeq (sSet 5 (fC (.int 0))) (sSeq (sIf (fAsB (f2 gEq (f2 gIx (fVar 3) (fC (.int 0))) (fC (.str "look")))) (sSeq (sSet 5 (f2 gIx (Qe 3) (fC (.int 1)))) Qb) Qb) (sSeq (sIf (fAsB (f2 gGe (fVar 5) (Qf gLen [(fVar 4)]))) (sSeq (QU 1 (fTup [(fC .non),(fC .non),(f2 gEq (f2 gIx (fVar 3) (fC (.int 0))) (fC (.str "look")))])) Qb) Qb) (sSeq (sIf (fAsB (f2 gEq (f2 gIx (fVar 3) (fC (.int 0))) (fC (.str "take")))) (sSeq (QkD 1 (f2 gIx (Qe 4) (fC (.int 0)))) Qb) Qb) (sSeq (QU 1 (fTup [(f2 gIx (f2 gIx (Qe 4) (fVar 5)) (fC (.int 0))),(f2 gIx (f2 gIx (Qe 4) (fVar 5)) (fC (.int 1))),(fC (.bl true))])) Qb))))))))))
def QbI:List D->Ou D:=runM 1 6 Qdp
def Qcm:Sm:=(sSeq (sIf (fAsB (f2 gEq (f2 gIx (fVar 2) (fC (.int 0))) (fC (.str "many")))) (sSeq (QU 0 (fTup [(Qf gLen [(fVar 0)]),(fC .non),(fC (.bl true))])) Qb) Qb) (sSeq (sIf (fAsB (f2 gEq (f2 gIx (fVar 2) (fC (.int 0))) (fC (.str "set")))) (sSeq (sDPut 0 (f2 gIx (fVar 2) (fC (.int 1))) (fTup [(f2 gIx (Qe 2) (fC (.int 2))),(Qe 1)])) (sSeq (QU 0 (fTup [(fC .non),(fC .non),(fC (.bl true))])) Qb)) Qb) (sSeq (sIf (fAsB (f2 (gDIn true) (f2 gIx (fVar 2) (fC (.int 1))) (fVar 0))) (sSeq (QU 0 (fTup [(fC .non),(fC .non),(f2 gEq (f2 gIx (fVar 2) (fC (.int 0))) (fC (.str "look")))])) Qb) Qb) (sSeq (sSet 3 (fIxD 0 (f2 gIx (fVar 2) (fC (.int 1))))) (sSeq (sIf (fAsB (f2 gEq (f2 gIx (fVar 2) (fC (.int 0))) (fC (.str "drop")))) (sSeq (sDPop 0 (f2 gIx (fVar 2) (fC (.int 1)))) Qb) Qb) (sSeq (QU 0 (fTup [(f2 gIx (Qe 3) (fC (.int 0))),(f2 gIx (Qe 3) (fC (.int 1))),(fC (.bl true))])) Qb))))))
def Qa2:List D->Ou D:=runM 0 4 Qcm
def QbX:Sm:=(sSeq (sOwn 2 (fLst [])) (sSeq (sOwn 3 QjM) (sSeq (sOwn 4 (fLst [])) (sSeq (sFor (Qe 1) (gNm2 5 6) (sSeq (sIf (fAsB (f2 gEq (fVar 0) (fC (.int 0)))) (sSeq (QcF 4 (Qa9 2 (Qbf) [.inr 2,.inl (Qe 5),.inl (Qe 6)])) Qb) (sSeq (sIf (fAsB (f2 gEq (fVar 0) (fC (.int 4)))) (sSeq (QcF 4 (Qa9 3 (Qa2) [.inr 3,.inl (Qe 5),.inl (Qe 6)])) Qb) (sSeq (QcF 4 (Qa9 2 (QbI) [.inl (Qe 0),.inr 2,.inl (Qe 5),.inl (Qe 6)])) Qb)) Qb)) Qb)) (sSeq (fun δ=>(fun δ=>(QjR 4) (thaw 3 δ)) (thaw 2 δ)) Qb)))))
def Qbc:List D->Ou D:=runD true 7 QbX
def QcR:Sm:=(sSeq (sIf (fAsB (f2 gEq (fVar 0) (fC (.int 0)))) (sSeq (sRet (Qa4 "Sums")) Qb) Qb) (sSeq (sIf (fAsB (f2 gEq (fVar 0) (fC (.int 1)))) (sSeq (sRet (Qa4 "Pile")) Qb) Qb) (sSeq (sIf (fAsB (f2 gEq (fVar 0) (fC (.int 2)))) (sSeq (sRet (Qa4 "Line")) Qb) Qb) (sSeq (sIf (fAsB (f2 gEq (fVar 0) (fC (.int 3)))) (sSeq (sRet (Qa4 "Bag")) Qb) Qb) (sSeq (sRet (Qa4 "Names")) Qb)))))
def Qbe:List D->Ou D:=runD false 1 QcR
def Qbw:Sm:=(sSeq (sSet 2 (QbS (QgT (f1 Qdq (Qe 1))) (gNm 0) fYes (fTup [(Qe 0),(f2 gDIx (Qe 1) (fVar 0))]) 1 [1])) (sSeq (sSet 3 (Qf (Qbc) [(Qe 0),(Qe 2)])) (sSeq (sRng [(Qf gLen [(fVar 2)])] (gNm 4) (sSeq (sIf (Qeq (fTru (f2 gIx (f2 gIx (fVar 3) (fVar 4)) (fC (.int 2))))) (sSeq (sRet (f2 gIx (f2 gIx (fVar 2) (fVar 4)) (fC (.int 0)))) Qb) Qb) Qb)) (sSeq (sRet (fC .non)) Qb))))
def QJ:List D->Ou D:=runD false 5 Qbw
def QbZ:Sm:=(sSeq (sSet 3 (Qf (QY) [(Qe 2),(f2 gDiv (fVar 2) (fC (.int 3)))])) (sSeq (sRng [(fC (.int 14))] (gNm 4) (sSeq (sIf (fAsB (f1 gIsN (Qf (QJ) [(fVar 0),(fVar 1)]))) (sSeq (Qap (fAsB (f2 (gDIn false) (fVar 3) (fVar 1))) (sSeq (sSet 3 (f2 gMod (f2 gAdd (fVar 3) (fC (.int 1))) (fC (.int 1073741824)))) Qb) 60) (sSeq (sDPut 1 (fVar 3) (f2 gIx (fLst [(fTup [(fC (.str "add")),(f1 gNeg (f2 gPow (fC (.int 10)) (fC (.int 32))))]),(fTup [(fC (.str "take"))]),(fTup [(fC (.str "take"))]),(fTup [(fC (.str "take"))]),(fTup [(fC (.str "drop")),(f2 Qgm (fC (.str "q")) (fC (.int 12)))])]) (fVar 0))) Qb)) Qb) Qb)) Qb))
def QaM:List D->Ou D:=runM 1 5 QbZ
def Qbb:Sm:=(sSeq (sOwn 2 (fLst [(Qe 1)])) (sSeq (sIf (fAsB (f1 gIsN (fVar 1))) (sSeq (sOwn 2 (fLst [])) Qb) Qb) (sSeq (Qap (fAsB (f2 gGt (Qf gLen [(fVar 2)]) (fC (.int 0)))) (sSeq (sPop 2 3) (sSeq (sIf (fAsB (f2 gEq (Qf gLen [(fVar 3)]) (fC (.int 4)))) (sSeq (sSet 4 (Qag [("Kind",QaF),("Sums",Qaz),("Pile",QaD),("Line",QaH),("Bag",Qaf),("Names",QO)] (Qe 0) [(f2 gIx (Qe 3) (fC (.int 0))),(f2 gIx (Qe 3) (fC (.int 3)))])) Qb) (sSeq (sSet 4 (Qag [("Kind",Qac),("Sums",Qad),("Pile",Qab),("Line",Qaa),("Bag",QX),("Names",QI)] (Qe 0) [(f2 gIx (f2 gIx (Qe 3) (fC (.int 3))) (fC (.int 2))),(f2 gIx (f2 gIx (Qe 3) (fC (.int 4))) (fC (.int 2)))])) (sSeq (sApp 2 (f2 gIx (Qe 3) (fC (.int 3)))) (sSeq (sApp 2 (f2 gIx (Qe 3) (fC (.int 4)))) Qb)))) (sSeq (sIf (fAsB (f2 gNe (f2 gIx (fVar 3) (fC (.int 2))) (fVar 4))) (sSeq (sRet (fC (.bl false))) Qb) Qb) Qb))) 200) (sSeq (fun δ=>(sRet (fC (.bl true))) (thaw 2 δ)) Qb))))
def Q6:List D->Ou D:=runD false 5 Qbb
def Qbu:Sm:=(sSeq (sIf (fAsB (f1 gIsN (fVar 1))) (sSeq (sRet (f1 gIsN (fVar 0))) Qb) Qb) (sSeq (sRet (Qgj (f1 (gIs "int") (fVar 0)) (Qgj (QlW (f1 (gIs "bool") (fVar 0))) (f2 gEq (fVar 0) (fVar 1))))) Qb))
def Qay:List D->Ou D:=runD false 2 Qbu
def QoC:Sm:=(sSeq (sSet 1 (Qf (QZ) [(Qe 0),(fC (.int 0))])) (sSeq (sSet 2 (f2 gMod (fVar 1) (fC (.int 5)))) (sSeq (sSet 3 (f2 gMod (f2 gDiv (fVar 1) (fC (.int 5))) (fC (.int 3)))) (sSeq (sSet 4 (f2 gEq (f2 gMod (f2 gDiv (fVar 1) (fC (.int 15))) (fC (.int 2))) (fC (.int 1)))) (sSeq (sIf (fTru (fVar 4)) (sSeq (sSet 3 (fC (.int 0))) Qb) Qb) (sSeq (sSet 5 (Qf (Qbe) [(Qe 2)])) (sSeq (sOwn 6 QjM) (sSeq (sSet 7 (Qf gMin [(f2 gSub (Qf gLen [(fVar 0)]) (fC (.int 1))),(fC (.int 49))])) (sSeq (Qkb [(fC (.int 1)),(fVar 7),(fC (.int 2))] (gNm 8) (sSeq (sAsg (Qf (QaX) [(Qe 2),(f2 gDiv (fVar 1) (fC (.int 5))),(Qe 4),(f2 gIx (Qe 0) (fVar 8)),(f2 gIx (Qe 0) (f2 gAdd (fVar 8) (fC (.int 1))))]) (gNm2 9 10)) (sSeq (sIf (fAsB (f2 (gDIn true) (fVar 9) (fVar 6))) (sSeq (sDPut 6 (fVar 9) (Qe 10)) (sSeq (sIf (Qbp (fAsB (f2 gGt (fVar 3) (fC (.int 0)))) (Qbp (fOrT (fAsB (f2 gEq (fVar 3) (fC (.int 1)))) (fAsB (f2 gLt (f2 gAdd (fVar 8) (fC (.int 2))) (fVar 7)))) (fAsB (f1 Qbr (Qf (QJ) [(fVar 2),(fVar 6)]))))) (sSeq (sDPop 6 (fVar 9)) Qb) Qb) Qb)) Qb) Qb))) (sSeq (sIf (fAsB (f2 gEq (fVar 3) (fC (.int 2)))) (sSeq (Qhy (Qa9 6 (QaM) [.inl (Qe 2),.inr 6,.inl (Qf (QZ) [(Qe 0),(fC (.int 1))])])) Qb) Qb) (sSeq (fun δ=>(sSet 11 (fC .non)) (thaw 6 δ)) (sSeq (sSet 12 (fC .non)) (sSeq (QkB (Qe 6) (gNm 9) (sSeq (sSet 11 (Qf (QC 64) [(Qe 5),(Qe 11),(Qe 9),(f2 gDIx (Qe 6) (fVar 9))])) (sSeq (sSet 12 (Qf (QC 64) [(Qa4 "Kind"),(Qe 12),(Qe 9),(f2 gDIx (Qe 6) (fVar 9))])) Qb))) (sSeq (sIf (fOrT (Qeq (fTru (Qf (Q6) [(fVar 5),(fVar 11)]))) (fAsB (f1 Qbr (Qf (QW) [(Qa4 "Kind"),(fVar 12)])))) (sSeq (sRet (fC (.bl false))) Qb) Qb) (sSeq (sRet (Qgj (Qf (Qay) [(Qf (QW) [(fVar 5),(fVar 11)]),(Qf (QJ) [(fVar 2),(fVar 6)])]) (f1 gIsN (Qf (QW) [(fVar 5),(fC .non)])))) Qb)))))))))))))))
def Qgz:List D->Ou D:=runD false 13 QoC
structure Rc (P:Program) (w:World) (K:W.Frag) (mg:Str->Option Value) (base:Heap) (C_Bag C_Kind C_Line C_Names C_Pile C_Sums:Addr):Prop where
 q0:Ck K C_Bag "Bag"
 q1:Ck K C_Kind "Kind"
 q2:Ck K C_Line "Line"
 q3:Ck K C_Names "Names"
 q4:Ck K C_Pile "Pile"
 q5:Ck K C_Sums "Sums"
 k0:Mk0 K C_Bag/\W.nsIn K mainGlobals "Bag" = some (some (.ref C_Bag))/\mg "Bag" = some (.ref C_Bag)
 k1:Mk0 K C_Kind/\W.nsIn K mainGlobals "Kind" = some (some (.ref C_Kind))/\mg "Kind" = some (.ref C_Kind)
 k2:Mk0 K C_Line/\W.nsIn K mainGlobals "Line" = some (some (.ref C_Line))/\mg "Line" = some (.ref C_Line)
 k3:Mk0 K C_Names/\W.nsIn K mainGlobals "Names" = some (some (.ref C_Names))/\mg "Names" = some (.ref C_Names)
 k4:Mk0 K C_Pile/\W.nsIn K mainGlobals "Pile" = some (some (.ref C_Pile))/\mg "Pile" = some (.ref C_Pile)
 k5:Mk0 K C_Sums/\W.nsIn K mainGlobals "Sums" = some (some (.ref C_Sums))/\mg "Sums" = some (.ref C_Sums)
 t0:Sr0 K mg "last_time" QiF
 t1:Sr0 K mg "holds" Qn0
 t2:Sr0 K mg "halves" QmR
 t3:Sr0 K mg "least" Qnh
 t4:Sr0 K mg "stretch_of" Qhe
 t5:Sr0 K mg "total_of" Qjj
 t6:Sr0 K mg "is_leaf" QkN
 t15:Sr0 K mg "puts_of" QkH
 t16:Sr0 K mg "takes_of" Qje
 t21:Sr0 K mg "leaf" Qpx
 t22:Sr0 K mg "joined_lack" Qf2
 t25:Sr0 K mg "gone_in" Qlv
 t26:Sr0 K mg "left_in" QkJ
 t31:Sr0 K mg "knot" QoU
 t32:Sr0 K mg "beside" QmH
 t33:Sr0 K mg "is_early" QjG
 t34:Sr0 K mg "put_in" QmD
 t41:Sr0 K mg "first_failing" QeL
 t42:Sr0 K mg "failing" Qlt
 t43:Sr0 K mg "_law_cell_at" Qfp
 t44:Sr0 K mg "_law_time" QhT
 t45:Sr0 K mg "_law_number" Qf8
 t46:Sr0 K mg "_law_name" Qex
 t47:Sr0 K mg "_law_deed" Qh2
 t48:Sr0 K mg "_law_free_name" Qd2
 t49:Sr0 K mg "_law_free_number" Qde
 t50:Sr0 K mg "_law_free_deed" Qeo
 t51:Sr0 K mg "_law_pair" Qih
 t52:Sr0 K mg "_law_sums" QeA
 t53:Sr0 K mg "_law_row" Qjh
 t54:Sr0 K mg "_law_names" Qhr
 t55:Sr0 K mg "_law_replay" Qf4
 t56:Sr0 K mg "_law_kind" Qiu
 t57:Sr0 K mg "_law_first" Qdx
 t58:Sr0 K mg "_law_spoilt" Qf7
 t59:Sr0 K mg "_law_totals" Qgb
 t60:Sr0 K mg "_law_alike" Qg7
 t61:Sr0 K mg "law" QoD
 m0:Ms0 K C_Bag "fits" "Bag.fits" QhM
 m1:Ms0 K C_Bag "joined" "Bag.joined" Qga
 m2:Ms0 K C_Bag "lone" "Bag.lone" Qip
 m3:Ms0 K C_Bag "nothing" "Bag.nothing" Qfv
 m4:Ms0 K C_Kind "fits" "Kind.fits" Qhh
 m5:Ms0 K C_Kind "joined" "Kind.joined" Qfa
 m6:Ms0 K C_Kind "lone" "Kind.lone" Qhv
 m7:Ms0 K C_Kind "nothing" "Kind.nothing" QeI
 m8:Ms0 K C_Line "fits" "Line.fits" Qhl
 m9:Ms0 K C_Line "joined" "Line.joined" Qfz
 m10:Ms0 K C_Line "lone" "Line.lone" Qht
 m11:Ms0 K C_Line "nothing" "Line.nothing" QeN
 m12:Ms0 K C_Names "fits" "Names.fits" Qf1
 m13:Ms0 K C_Names "joined" "Names.joined" Qcw
 m14:Ms0 K C_Names "lone" "Names.lone" Qf6
 m15:Ms0 K C_Names "nothing" "Names.nothing" Qd1
 m16:Ms0 K C_Pile "fits" "Pile.fits" QhG
 m17:Ms0 K C_Pile "joined" "Pile.joined" Qfd
 m18:Ms0 K C_Pile "lone" "Pile.lone" Qhn
 m19:Ms0 K C_Pile "nothing" "Pile.nothing" QeJ
 m20:Ms0 K C_Sums "fits" "Sums.fits" QgV
 m21:Ms0 K C_Sums "joined" "Sums.joined" Qfo
 m22:Ms0 K C_Sums "lone" "Sums.lone" QgU
 m23:Ms0 K C_Sums "nothing" "Sums.nothing" QeH
 z_bool:mg "bool" = none
 z_dict:mg "dict" = none
 z_int:mg "int" = none
 z_isinstance:mg "isinstance" = none
 z_len:mg "len" = none
 z_list:mg "list" = none
 z_max:mg "max" = none
 z_min:mg "min" = none
 z_range:mg "range" = none
 z_reversed:mg "reversed" = none
 z_sorted:mg "sorted" = none
 z_tuple:mg "tuple" = none
section
variable {P:Program} {w:World} {K:W.Frag} {mg:Str->Option Value} {base:Heap} {C_Bag C_Kind C_Line C_Names C_Pile C_Sums:Addr} (R:Rc P w K mg base C_Bag C_Kind C_Line C_Names C_Pile C_Sums)
include R
theorem Qcs:Df P w K mg base "last_time" 1 ["stretch"] false QaW:=Q3 (N:=["stretch"]) (F:=QcS) R.t0 fun nd hr=>by
 exact ((Qh (xop Qb8 (xop Q1 (xix (xv 0) xint) (xix (xv 0) xint)) xint)) >=> Qd)
theorem Qh1:Df P w K mg base "holds" 2 ["stretch","number"] false Qa0:=Q3 (N:=["stretch","number"]) (F:=Qhc) R.t1 fun nd hr=>by
 exact ((Qh (xchn QoB QoB (xix (xv 0) xint) (xv 1) (xcl (Qcs R) hr (Qa (xv 0) Qc)))) >=> Qd)
theorem Qk9:Df P w K mg base "halves" 1 ["stretch"] false Qfu:=Q3 (N:=["stretch","low","half"]) (F:=Qfn) R.t2 fun nd hr=>by
 exact ((Qq 1 nd (xix (xvS 0) xint)) >=> ((Qq 2 nd (xop QF (xix (xv 0) xint) xint)) >=> ((Qh (xtup (Qa (xtup (Qa (xv 1) (Qa (xv 2) Qc))) (Qa (xtup (Qa (xop Q1 (xv 1) (xv 2)) (Qa (xv 2) Qc))) Qc)))) >=> Qd)))
theorem QlI:Df P w K mg base "least" 2 ["one","other"] false QeY:=Q3 (N:=["one","other","first","last","size"]) (F:=Qhz) R.t3 fun nd hr=>by
 exact ((Qq 2 nd (xb Qe5 R.z_min (Qa (xix (xv 0) xint) (Qa (xix (xv 1) xint) Qc)))) >=> ((Qq 3 nd (xb Qfi R.z_max (Qa (xcl (Qcs R) hr (Qa (xv 0) Qc)) (Qa (xcl (Qcs R) hr (Qa (xv 1) Qc)) Qc)))) >=> ((Qq 4 nd (xop Qg3 xint (xbits (xop QpK (xv 2) (xv 3))))) >=> ((Qh (xtup (Qa (xop Qfq (xop QF (xv 2) (xv 4)) (xv 4)) (Qa (xv 4) Qc)))) >=> Qd))))
theorem Qba:Df P w K mg base "stretch_of" 1 ["tree"] false Qw:=Q3 (N:=["tree"]) (F:=Qcf) R.t4 fun nd hr=>by
 exact ((Qh (xtup (Qa (xix (xv 0) xint) (Qa (xix (xv 0) xint) Qc)))) >=> Qd)
theorem QbR:Df P w K mg base "total_of" 1 ["tree"] false Qak:=Q3 (N:=["tree"]) (F:=Qdd) R.t5 fun nd hr=>by
 exact ((Qh (xix (xv 0) xint)) >=> Qd)
theorem QeZ:Df P w K mg base "is_leaf" 1 ["tree"] false Qai:=Q3 (N:=["tree"]) (F:=Qc4) R.t6 fun nd hr=>by
 exact ((Qh (xcmp (QA hr.units) (xix (xv 0) xint) xint (Qj _))) >=> Qd)
theorem Qa3:MDf P w K mg base "Bag" "nothing" 1 ["self"] false QP:=Q5 (N:=["self"]) (F:=QbG) R.q0 R.m3 fun nd hr=>by
 exact ((Qh (xtup (Qa xint (Qa (xtup Qc) (Qa (xtup Qc) Qc))))) >=> Qd)
theorem QaQ:MDf P w K mg base "Kind" "nothing" 1 ["self"] false QT:=Q5 (N:=["self"]) (F:=Qbi) R.q1 R.m7 fun nd hr=>by
 exact ((Qh xint) >=> Qd)
theorem QaP:MDf P w K mg base "Line" "nothing" 1 ["self"] false QR:=Q5 (N:=["self"]) (F:=Qbj) R.q2 R.m11 fun nd hr=>by
 exact ((Qh (xtup (Qa xint (Qa xint (Qa xint Qc))))) >=> Qd)
theorem Qat:MDf P w K mg base "Names" "nothing" 1 ["self"] false Qy:=Q5 (N:=["self"]) (F:=QaE) R.q3 R.m15 fun nd hr=>by
 exact ((Qh (xtup (Qa xint (Qa (xtup Qc) Qc)))) >=> Qd)
theorem QaR:MDf P w K mg base "Pile" "nothing" 1 ["self"] false QS:=Q5 (N:=["self"]) (F:=Qbh) R.q4 R.m19 fun nd hr=>by
 exact ((Qh (xtup (Qa xint (Qa xint Qc)))) >=> Qd)
theorem QaS:MDf P w K mg base "Sums" "nothing" 1 ["self"] false QH:=Q5 (N:=["self"]) (F:=Qbk) R.q5 R.m23 fun nd hr=>by
 exact ((Qh (xtup (Qa xint (Qa xint (Qa xint Qc))))) >=> Qd)
theorem Qev:MDf P w K mg base "Bag" "lone" 2 ["self","at","deed"] false Qaf:=Q5 (N:=["self","at","deed"]) (F:=QaV) R.q0 R.m2 fun nd hr=>by
 exact ((Qt (Qn (QA hr.units) (xix (xv 2) xint) xstr (Qj _)) ((Qh (xtup (Qa xint (Qa (xtup Qc) (Qa (xtup (Qa (xtup (Qa (xix (xv 2) xint) (Qa (xv 1) Qc))) Qc)) Qc))))) >=> Qd) Qd) >=> ((Qt (Qn (QA hr.units) (xix (xv 2) xint) xstr (Qj _)) ((Qh (xtup (Qa xint (Qa (xtup Qc) (Qa (xtup Qc) Qc))))) >=> Qd) Qd) >=> ((Qh (QgS (MAll.cons ((QaQ R).mono (by omega)) rfl (MAll.cons ((QaS R).mono (by omega)) rfl (MAll.cons ((QaR R).mono (by omega)) rfl (MAll.cons ((QaP R).mono (by omega)) rfl (MAll.cons ((Qa3 R).mono (by omega)) rfl (MAll.cons ((Qat R).mono (by omega)) rfl MAll.nil)))))) hr (xv 0))) >=> Qd)))
theorem QdV:MDf P w K mg base "Kind" "lone" 1 ["self","at","deed"] false QaF:=Q5 (N:=["self","at","deed"]) (F:=Qce) R.q1 R.m6 fun nd hr=>by
 exact ((Qh xint) >=> Qd)
theorem Qe6:Df P w K mg base "puts_of" 1 ["deed"] false Qb2:=Q3 (N:=["deed"]) (F:=QcY) R.t15 fun nd hr=>by
 exact ((Qh (xife (Qn (QA hr.units) (xix (xv 0) xint) xstr (Qj _)) xint xint)) >=> Qd)
theorem QcJ:Df P w K mg base "takes_of" 1 ["deed"] false Qa6:=Q3 (N:=["deed"]) (F:=Qcj) R.t16 fun nd hr=>by
 exact ((Qh (xife (Qn (QA hr.units) (xix (xv 0) xint) xstr (Qj _)) xint xint)) >=> Qd)
theorem QdQ:MDf P w K mg base "Line" "lone" 2 ["self","at","deed"] false QaH:=Q5 (N:=["self","at","deed"]) (F:=Qca) R.q2 R.m10 fun nd hr=>by
 exact ((Qh (xtup (Qa (xcl (QcJ R) hr (Qa (xv 2) Qc)) (Qa (xcl (Qe6 R) hr (Qa (xv 2) Qc)) (Qa (xcl (QcJ R) hr (Qa (xv 2) Qc)) Qc))))) >=> Qd)
theorem Qc7:MDf P w K mg base "Names" "lone" 2 ["self","at","deed"] false QO:=Q5 (N:=["self","at","deed"]) (F:=Qao) R.q3 R.m14 fun nd hr=>by
 exact ((Qt (Qn (QA hr.units) (xix (xv 2) xint) xstr (Qj _)) ((Qh (xtup (Qa xint (Qa (xtup (Qa (xtup (Qa (xix (xv 2) xint) (Qa xbl (Qa (xtup (Qa (xix (xv 2) xint) (Qa (xv 1) Qc))) Qc)))) Qc)) Qc)))) >=> Qd) Qd) >=> ((Qt (Qn (QA hr.units) (xix (xv 2) xint) xstr (Qj _)) ((Qh (xtup (Qa xint (Qa (xtup (Qa (xtup (Qa (xix (xv 2) xint) (Qa xbl (Qa xnon Qc)))) Qc)) Qc)))) >=> Qd) Qd) >=> ((Qh (QgS (MAll.cons ((QaQ R).mono (by omega)) rfl (MAll.cons ((QaS R).mono (by omega)) rfl (MAll.cons ((QaR R).mono (by omega)) rfl (MAll.cons ((QaP R).mono (by omega)) rfl (MAll.cons ((Qa3 R).mono (by omega)) rfl (MAll.cons ((Qat R).mono (by omega)) rfl MAll.nil)))))) hr (xv 0))) >=> Qd)))
theorem QdR:MDf P w K mg base "Pile" "lone" 2 ["self","at","deed"] false QaD:=Q5 (N:=["self","at","deed"]) (F:=Qb9) R.q4 R.m18 fun nd hr=>by
 exact ((Qh (xtup (Qa (xcl (QcJ R) hr (Qa (xv 2) Qc)) (Qa (xcl (Qe6 R) hr (Qa (xv 2) Qc)) Qc)))) >=> Qd)
theorem QdE:MDf P w K mg base "Sums" "lone" 2 ["self","at","deed"] false Qaz:=Q5 (N:=["self","at","deed"]) (F:=Qcc) R.q5 R.m22 fun nd hr=>by
 exact ((Qt (Qn (QA hr.units) (xix (xv 2) xint) xstr (Qj _)) ((Qh (xtup (Qa (xix (xv 2) xint) (Qa (xb Qe5 R.z_min (Qa xint (Qa (xix (xv 2) xint) Qc))) (Qa (xb Qfi R.z_max (Qa xint (Qa (xix (xv 2) xint) Qc))) Qc))))) >=> Qd) Qd) >=> ((Qh (QgS (MAll.cons ((QaQ R).mono (by omega)) rfl (MAll.cons ((QaS R).mono (by omega)) rfl (MAll.cons ((QaR R).mono (by omega)) rfl (MAll.cons ((QaP R).mono (by omega)) rfl (MAll.cons ((Qa3 R).mono (by omega)) rfl (MAll.cons ((Qat R).mono (by omega)) rfl MAll.nil)))))) hr (xv 0))) >=> Qd))
theorem QjX:Df P w K mg base "leaf" 3 ["kind","at","deed"] false Qda:=Q3 (N:=["kind","at","deed"]) (F:=QjL) R.t21 fun nd hr=>by
 exact ((Qh (xtup (Qa (xv 1) (Qa xint (Qa (Qe0 (MAll.cons ((QdV R).mono (by omega)) rfl (MAll.cons ((QdE R).mono (by omega)) rfl (MAll.cons ((QdR R).mono (by omega)) rfl (MAll.cons ((QdQ R).mono (by omega)) rfl (MAll.cons ((Qev R).mono (by omega)) rfl (MAll.cons ((Qc7 R).mono (by omega)) rfl MAll.nil)))))) hr (xv 0) (Qa (xv 1) (Qa (xv 2) Qc))) (Qa (xv 2) Qc)))))) >=> Qd)
theorem QbE:Df P w K mg base "joined_lack" 1 ["lack","left","next_lack"] false Q7:=Q3 (N:=["lack","left","next_lack"]) (F:=QaK) R.t22 fun nd hr=>by
 exact ((Qh (xop Q1 (xv 0) (xb Qfi R.z_max (Qa xint (Qa (xop Qb8 (xv 2) (xv 1)) Qc))))) >=> Qd)
theorem QbV:MDf P w K mg base "Bag" "joined" 2 ["self","one","other"] false QX:=Q5 (N:=["self","one","other","found","many","gone","left"]) (F:=Qb0) R.q0 R.m1 fun nd hr=>by
 exact ((Qq 3 nd (toS (Qg0 R.z_sorted (xcatU (xix (xvS 1) xint) (xix (xvS 2) xint))))) >=> ((Qq 4 nd (xop Q1 (xb Qbn R.z_len (Qa (xix (xv 2) xint) Qc)) (xb Qe5 R.z_min (Qa (xb Qbn R.z_len (Qa (xix (xv 1) xint) Qc)) (Qa (xix (xv 2) xint) Qc))))) >=> ((Qq 5 nd (toS (Qg0 R.z_sorted (toS (xcat (toS (Qkj R.z_list (xix (xvS 1) xint))) (toS (xsl (xvS 3) QiG (QiA (xv 4))))))))) >=> ((Qq 6 nd (toS (Qg0 R.z_sorted (toS (xcat (toS (Qkj R.z_list (xix (xvS 2) xint))) (toS (xsl (xvS 3) (QiA (xv 4)) QiG))))))) >=> ((Qh (xtup (Qa (xcl (QbE R) hr (Qa (xix (xv 1) xint) (Qa (xb Qbn R.z_len (Qa (xix (xv 1) xint) Qc)) (Qa (xix (xv 2) xint) Qc)))) (Qa (toW (Qi7 R.z_tuple (xvS 5))) (Qa (toW (Qi7 R.z_tuple (xvS 6))) Qc))))) >=> Qd)))))
theorem Qbz:MDf P w K mg base "Kind" "joined" 1 ["self","one","other"] false Qac:=Q5 (N:=["self","one","other"]) (F:=QbA) R.q1 R.m5 fun nd hr=>by
 exact ((Qh (xop Q1 (xv 1) (xv 2))) >=> Qd)
theorem Qjq:Df P w K mg base "gone_in" 1 ["total"] false Qek:=Q3 (N:=["total"]) (F:=Qd9) R.t25 fun nd hr=>by
 exact ((Qh (xop Qb8 (xix (xv 0) xint) (xix (xv 0) xint))) >=> Qd)
theorem QjH:Df P w K mg base "left_in" 2 ["total"] false Qeg:=Q3 (N:=["total"]) (F:=Qem) R.t26 fun nd hr=>by
 exact ((Qh (xop Qb8 (xix (xv 0) xint) (xcl (Qjq R) hr (Qa (xv 0) Qc)))) >=> Qd)
theorem QbJ:MDf P w K mg base "Line" "joined" 3 ["self","one","other"] false Qaa:=Q5 (N:=["self","one","other"]) (F:=QbK) R.q2 R.m9 fun nd hr=>by
 exact ((Qh (xtup (Qa (xcl (QbE R) hr (Qa (xix (xv 1) xint) (Qa (xcl (QjH R) hr (Qa (xv 1) Qc)) (Qa (xix (xv 2) xint) Qc)))) (Qa (xop Q1 (xix (xv 1) xint) (xix (xv 2) xint)) (Qa (xop Q1 (xix (xv 1) xint) (xix (xv 2) xint)) Qc))))) >=> Qd)
theorem Qbo:MDf P w K mg base "Names" "joined" 1 ["self","one","other"] false QI:=Q5 (N:=["self","one","other","lack","entries","later","name","earlier"]) (F:=Qbl) R.q3 R.m13 fun nd hr=>by
 exact ((Qq 3 nd (xop Q1 (xix (xv 1) xint) (xix (xv 2) xint))) >=> ((Qc9 4 nd (Qo2 R.z_dict (toS (by refine CompR.pe ?_;refine QpF (N':=["entry"]) (k:=1) (ix:=[]) (QhI _ ["self","one","other","lack","entries","later","name","earlier"] ?_) ?_ fun _ _ _ _ _=>⟨?_,?_,?_⟩;exact (by first | decide +kernel | (change cnOk (Qo Qcw) _ _ _ _ _=true;decide +kernel));exact (xix (xvS 1) xint);exact (Qbx 0 (show (["entry"]:List Str).Nodup from by decide +kernel));exact QhJ;exact (xtup (Qa (xix (xvS 0) xint) (Qa (xvS 0) Qc))))))) >=> ((Qnl PassesOwn.never rfl (xix (xvS 2) xint) (Qbx 5 nd) ((Qq 6 nd (xix (xvS 5) xint)) >=> ((Qq 7 nd (QoS 4 hr.units (xv 6) (xtup (Qa (xvS 6) (Qa (xix (xvS 5) xint) (Qa xnon Qc)))))) >=> ((Qt (PW.pt (Qdn (xt (xix (xv 5) xint)) (QcX (QhH (xix (xv 7) xint))))) ((Qq 3 nd (xop Qb8 (xv 3) xint)) >=> Qd) Qd) >=> ((QeT 4 hr.units (xv 6) (xtup (Qa (xvS 6) (Qa (xix (xvS 7) xint) (Qa (xix (xvS 5) xint) Qc))))) >=> Qd))))) >=> ((Qh (xtup (Qa (xv 3) (Qa (toW (Qi7 R.z_tuple (toS (QpE 4 R.z_sorted)))) Qc)))) >=> Qd))))
theorem Qby:MDf P w K mg base "Pile" "joined" 2 ["self","one","other"] false Qab:=Q5 (N:=["self","one","other"]) (F:=QbO) R.q4 R.m17 fun nd hr=>by
 exact ((Qh (xtup (Qa (xcl (QbE R) hr (Qa (xix (xv 1) xint) (Qa (xix (xv 1) xint) (Qa (xix (xv 2) xint) Qc)))) (Qa (xop Q1 (xix (xv 2) xint) (xb Qfi R.z_max (Qa xint (Qa (xop Qb8 (xix (xv 1) xint) (xix (xv 2) xint)) Qc)))) Qc)))) >=> Qd)
theorem QbB:MDf P w K mg base "Sums" "joined" 1 ["self","one","other"] false Qad:=Q5 (N:=["self","one","other","net"]) (F:=QbM) R.q5 R.m21 fun nd hr=>by
 exact ((Qq 3 nd (xix (xvS 1) xint)) >=> ((Qh (xtup (Qa (xop Q1 (xv 3) (xix (xv 2) xint)) (Qa (xb Qe5 R.z_min (Qa (xix (xv 1) xint) (Qa (xop Q1 (xv 3) (xix (xv 2) xint)) Qc))) (Qa (xb Qfi R.z_max (Qa (xix (xv 1) xint) (Qa (xop Q1 (xv 3) (xix (xv 2) xint)) Qc))) Qc))))) >=> Qd))
theorem QeX:Df P w K mg base "knot" 4 ["kind","left","right"] false Qa1:=Q3 (N:=["kind","left","right","stretch","total"]) (F:=QjD) R.t31 fun nd hr=>by
 exact ((Qq 3 nd (xcl (QlI R) hr (Qa (xcl (Qba R) hr (Qa (xvS 1) Qc)) (Qa (xcl (Qba R) hr (Qa (xvS 2) Qc)) Qc)))) >=> ((Qq 4 nd (Qe0 (MAll.cons ((Qbz R).mono (by omega)) rfl (MAll.cons ((QbB R).mono (by omega)) rfl (MAll.cons ((Qby R).mono (by omega)) rfl (MAll.cons ((QbJ R).mono (by omega)) rfl (MAll.cons ((QbV R).mono (by omega)) rfl (MAll.cons ((Qbo R).mono (by omega)) rfl MAll.nil)))))) hr (xvS 0) (Qa (xcl (QbR R) hr (Qa (xvS 1) Qc)) (Qa (xcl (QbR R) hr (Qa (xvS 2) Qc)) Qc)))) >=> ((Qh (xtup (Qa (xix (xv 3) xint) (Qa (xix (xv 3) xint) (Qa (xv 4) (Qa (xv 1) (Qa (xv 2) Qc))))))) >=> Qd)))
theorem Qlr:Df P w K mg base "beside" 5 ["kind","tree","other"] false QaY:=Q3 (N:=["kind","tree","other"]) (F:=QdY) R.t32 fun nd hr=>by
 exact ((Qt (Qn QfJ (xix (xv 2) xint) (xix (xv 1) xint) (Qj _)) ((Qh (xcl (QeX R) hr (Qa (xv 0) (Qa (xv 2) (Qa (xv 1) Qc))))) >=> Qd) Qd) >=> ((Qh (xcl (QeX R) hr (Qa (xv 0) (Qa (xv 1) (Qa (xv 2) Qc))))) >=> Qd))
theorem Qii:Df P w K mg base "is_early" 3 ["tree","at"] false Qal:=Q3 (N:=["tree","at"]) (F:=Qdf) R.t33 fun nd hr=>by
 exact ((Qh (xcl (Qh1 R) hr (Qa (xix (xcl (Qk9 R) hr (Qa (xcl (Qba R) hr (Qa (xv 0) Qc)) Qc)) xint) (Qa (xv 1) Qc)))) >=> Qd)
theorem Qee:∀ n:Nat,Df P w K mg base "put_in" (6 + n) ["kind","tree","at","deed"] false (QC n)
 | 0=>QlA R.t34.src
 | n + 1=>by
  have QhU:=Qee n
  exact Q3 (N:=["kind","tree","at","deed"]) (F:=QaN (QC n)) R.t34 fun nd hr=>by
   replace hr:Room (6 + n) _:=hr
   exact ((Qt (QfM (xv 1)) ((Qh (xcl (QjX R) hr (Qa (xv 0) (Qa (xv 2) (Qa (xv 3) Qc))))) >=> Qd) Qd) >=> ((Qt (QjC (xt (xcl (Qh1 R) hr (Qa (xcl (Qba R) hr (Qa (xv 1) Qc)) (Qa (xv 2) Qc))))) ((Qh (xcl (Qlr R) hr (Qa (xv 0) (Qa (xv 1) (Qa (xcl (QjX R) hr (Qa (xv 0) (Qa (xv 2) (Qa (xv 3) Qc)))) Qc))))) >=> Qd) Qd) >=> ((Qt (xt (xcl (QeZ R) hr (Qa (xv 1) Qc))) (QmQ >=> Qd) Qd) >=> ((Qt (xt (xcl (Qii R) hr (Qa (xv 1) (Qa (xv 2) Qc)))) ((Qh (xcl (QeX R) hr (Qa (xv 0) (Qa (xcl QhU hr (Qa (xv 0) (Qa (xix (xv 1) xint) (Qa (xv 2) (Qa (xv 3) Qc))))) (Qa (xix (xv 1) xint) Qc))))) >=> Qd) Qd) >=> ((Qh (xcl (QeX R) hr (Qa (xv 0) (Qa (xix (xv 1) xint) (Qa (xcl QhU hr (Qa (xv 0) (Qa (xix (xv 1) xint) (Qa (xv 2) (Qa (xv 3) Qc))))) Qc))))) >=> Qd)))))
theorem QeF:MDf P w K mg base "Bag" "fits" 1 ["self","total"] false QaU:=Q5 (N:=["self","total"]) (F:=QcP) R.q0 R.m0 fun nd hr=>by
 exact ((Qh (xcmp (QA hr.units) (xix (xv 1) xint) xint (Qj _))) >=> Qd)
theorem QdK:MDf P w K mg base "Kind" "fits" 1 ["self","total"] false QaI:=Q5 (N:=["self","total"]) (F:=Qci) R.q1 R.m4 fun nd hr=>by
 exact ((Qh xbl) >=> Qd)
theorem QdX:MDf P w K mg base "Line" "fits" 1 ["self","total"] false QaA:=Q5 (N:=["self","total"]) (F:=Qcn) R.q2 R.m8 fun nd hr=>by
 exact ((Qh (xcmp (QA hr.units) (xix (xv 1) xint) xint (Qj _))) >=> Qd)
theorem Qc5:MDf P w K mg base "Names" "fits" 1 ["self","total"] false Qan:=Q5 (N:=["self","total"]) (F:=QbW) R.q3 R.m12 fun nd hr=>by
 exact ((Qh (xcmp (QA hr.units) (xix (xv 1) xint) xint (Qj _))) >=> Qd)
theorem Qdr:MDf P w K mg base "Pile" "fits" 1 ["self","total"] false Qaw:=Q5 (N:=["self","total"]) (F:=Qcd) R.q4 R.m16 fun nd hr=>by
 exact ((Qh (xcmp (QA hr.units) (xix (xv 1) xint) xint (Qj _))) >=> Qd)
theorem QdL:MDf P w K mg base "Sums" "fits" 1 ["self","total"] false Qav:=Q5 (N:=["self","total"]) (F:=Qcq) R.q5 R.m20 fun nd hr=>by
 exact ((Qh (xcmp Qks (xix (xv 1) xint) xint (Qj _))) >=> Qd)
theorem Qb6:∀ n:Nat,Df P w K mg base "first_failing" (4 + n) ["kind","total","tree"] false (Qx n)
 | 0=>QlA R.t41.src
 | n + 1=>by
  have Qcu:=Qb6 n
  exact Q3 (N:=["kind","total","tree","with_left"]) (F:=Q0 (Qx n)) R.t41 fun nd hr=>by
   replace hr:Room (4 + n) _:=hr
   exact ((Qt (xt (xcl (QeZ R) hr (Qa (xv 2) Qc))) ((Qh (xix (xv 2) xint)) >=> Qd) Qd) >=> ((Qq 3 nd (Qe0 (MAll.cons ((Qbz R).mono (by omega)) rfl (MAll.cons ((QbB R).mono (by omega)) rfl (MAll.cons ((Qby R).mono (by omega)) rfl (MAll.cons ((QbJ R).mono (by omega)) rfl (MAll.cons ((QbV R).mono (by omega)) rfl (MAll.cons ((Qbo R).mono (by omega)) rfl MAll.nil)))))) hr (xvS 0) (Qa (xvS 1) (Qa (xcl (QbR R) hr (Qa (xix (xvS 2) xint) Qc)) Qc)))) >=> ((Qt (xt (Qe0 (MAll.cons ((QdK R).mono (by omega)) rfl (MAll.cons ((QdL R).mono (by omega)) rfl (MAll.cons ((Qdr R).mono (by omega)) rfl (MAll.cons ((QdX R).mono (by omega)) rfl (MAll.cons ((QeF R).mono (by omega)) rfl (MAll.cons ((Qc5 R).mono (by omega)) rfl MAll.nil)))))) hr (xv 0) (Qa (xv 3) Qc))) ((Qh (xcl Qcu hr (Qa (xv 0) (Qa (xv 3) (Qa (xix (xv 2) xint) Qc))))) >=> Qd) Qd) >=> ((Qh (xcl Qcu hr (Qa (xv 0) (Qa (xv 1) (Qa (xix (xv 2) xint) Qc))))) >=> Qd))))
theorem Qc8:Df P w K mg base "failing" 69 ["kind","tree"] false QW:=Q3 (N:=["kind","tree"]) (F:=Qb5) R.t42 fun nd hr=>by
 exact ((Qt (PW.pt (QlS (QfM (xv 1)) (Qjo (xt (Qe0 (MAll.cons ((QdK R).mono (by omega)) rfl (MAll.cons ((QdL R).mono (by omega)) rfl (MAll.cons ((Qdr R).mono (by omega)) rfl (MAll.cons ((QdX R).mono (by omega)) rfl (MAll.cons ((QeF R).mono (by omega)) rfl (MAll.cons ((Qc5 R).mono (by omega)) rfl MAll.nil)))))) hr (xv 0) (Qa (xcl (QbR R) hr (Qa (xv 1) Qc)) Qc)))))) ((Qh xnon) >=> Qd) Qd) >=> ((Qh (xcl (Qb6 R 64) hr (Qa (xv 0) (Qa (QgS (MAll.cons ((QaQ R).mono (by omega)) rfl (MAll.cons ((QaS R).mono (by omega)) rfl (MAll.cons ((QaR R).mono (by omega)) rfl (MAll.cons ((QaP R).mono (by omega)) rfl (MAll.cons ((Qa3 R).mono (by omega)) rfl (MAll.cons ((Qat R).mono (by omega)) rfl MAll.nil)))))) hr (xv 0)) (Qa (xv 1) Qc))))) >=> Qd))
theorem Qcx:Df P w K mg base "_law_cell_at" 1 ["_law_script","_law_k"] false QZ:=Q3 (N:=["_law_script","_law_k"]) (F:=QaZ) R.t43 fun nd hr=>by
 exact ((Qt (Qn QfJ (xv 1) (xb Qbn R.z_len (Qa (xv 0) Qc)) (Qj _)) ((Qh (xix (xv 0) (xv 1))) >=> Qd) Qd) >=> ((Qh xint) >=> Qd))
theorem Qds:Df P w K mg base "_law_time" 1 ["_law_head","_law_cell"] false QY:=Q3 (N:=["_law_head","_law_cell","_law_rest"]) (F:=Qaj) R.t44 fun nd hr=>by
 exact ((Qq 2 nd (xop QF (xv 1) xint)) >=> ((Qt (Qn (QA hr.units) (xop Qz (xv 1) xint) xint (Qj _)) ((Qh (xop Qz (xv 2) xint)) >=> Qd) Qd) >=> ((Qt (Qn (QA hr.units) (xop Qz (xv 1) xint) xint (Qj _)) ((Qh (xop Qz (xop Q1 (xop QF (xv 0) xint) (xop Qfq (xop Qz (xv 2) xint) (xop Qg3 xint (xop Qz (xop QF (xv 0) xint) xint)))) xint)) >=> Qd) Qd) >=> (by refine QdI ?_ ?_;refine Qh ?_;refine xix ?_ ?_;refine toW (m:=.F) ?_;refine xlst ?_;refine Qa ?_ ?_;exact xint;refine Qa ?_ ?_;exact xint;refine Qa ?_ ?_;exact (xop Qg3 xint (xop Qz (xop QF (xv 2) xint) xint));refine Qa ?_ ?_;exact (xop Qb8 (xop Qg3 xint (xop Qz (xop QF (xv 2) xint) xint)) xint);exact Qc;exact (xop Qz (xv 2) xint);exact Qd))))
theorem QbH:Df P w K mg base "_law_number" 1 ["_law_cell"] false Q9:=Q3 (N:=["_law_cell"]) (F:=QaL) R.t45 fun nd hr=>by
 exact ((Qt (Qn (QA hr.units) (xop Qz (xv 0) xint) xint (Qj _)) ((Qh (xop Qz (xop QF (xv 0) xint) xint)) >=> Qd) Qd) >=> ((Qt (Qn (QA hr.units) (xop Qz (xv 0) xint) xint (Qj _)) ((Qh (xop Qz (xop QF (xv 0) xint) (xop Qco xint xint))) >=> Qd) Qd) >=> ((Qh (xop Qb8 (xneg xint) (xop Qz (xop QF (xv 0) xint) xint))) >=> Qd)))
theorem QdA:Df P w K mg base "_law_name" 1 ["_law_head","_law_cell"] false Qas:=Q3 (N:=["_law_head","_law_cell","_law_letters","_law_size","_law_signs"]) (F:=Qbg) R.t46 fun nd hr=>by
 exact ((Qq 2 nd xstr) >=> ((Qq 3 nd (xop Q1 xint (xop Qz (xop QF (xv 0) xint) xint))) >=> ((Qnz 4 nd (by refine Qn2 (N':=["_law_k","_law_letters","_law_head"]) (k:=1) (ix:=[2,0]) (QhI _ ["_law_head","_law_cell","_law_letters","_law_size","_law_signs"] ?_) R.z_range ?_ fun _ _ _ _ _=>⟨?_,?_,?_⟩;exact (by first | decide +kernel | (change cnOk (Qo Qex) _ _ _ _ _=true;decide +kernel));exact (Qa (xv 3) Qc);exact (Qbx 0 (show (["_law_k","_law_letters","_law_head"]:List Str).Nodup from by decide +kernel));exact QhJ;exact (xix (xvS 1) (xop Qz (xop Q1 (xop QF (xv 2) xint) (xop Qfq xint (xv 0))) xint)))) >=> ((Qpe 4 (xop Qz (xop QF (xv 0) xint) (xv 3)) (xix (xvS 2) (xop Qz (xop Q1 (xop QF (xv 0) xint) (xop Qfq (xop Qz (xv 1) xint) xint)) xint))) >=> ((Qt (PW.pt (Qdn (Qn (QA hr.units) (xop Qz (xop QF (xv 1) xint) xint) xint (Qj _)) (QcX (Qn Qkc (xv 3) xint (Qj _))))) ((Qnx 4) >=> Qd) Qd) >=> ((QdJ 4 (Qh (xjoin xstr (xv 4)))) >=> Qd))))))
theorem Qg9:Df P w K mg base "_law_deed" 2 ["_law_way","_law_head","_law_cell"] false Qu:=Q3 (N:=["_law_way","_law_head","_law_cell","_law_pick","_law_rest"]) (F:=QB) R.t47 fun nd hr=>by
 exact ((Qq 3 nd (xop Qz (xv 2) xint)) >=> ((Qq 4 nd (xop QF (xv 2) xint)) >=> ((Qt (PW.pt (Qdn (Qn (QA hr.units) (xv 0) xint (Qj _)) (QcX (Qn QfJ (xv 3) xint (Qj _))))) ((Qh (xtup (Qa xstr (Qa (xcl (QbH R) hr (Qa (xv 4) Qc)) Qc)))) >=> Qd) Qd) >=> ((Qt (PW.pt (Qdn (Qn (QA hr.units) (xv 0) xint (Qj _)) (QcX (Qn (QA hr.units) (xv 3) xint (Qj _))))) ((Qh (xtup (Qa xstr (Qa (xop Q1 xint (by refine xix ?_ ?_;exact (toW (m:=.F) (xlst (Qa (xop Qz (xop QF (xv 4) xint) xint) (Qa (xop Qz (xop QF (xv 4) xint) (xop Qco xint xint)) Qc))));exact (xop Qz (xv 4) xint))) Qc)))) >=> Qd) Qd) >=> ((Qt (Qn (QA hr.units) (xv 3) xint (Qj _)) ((Qh (xtup (Qa xstr Qc))) >=> Qd) Qd) >=> ((Qt (Qn (QA hr.units) (xv 0) xint (Qj _)) ((Qh (xtup (Qa xstr Qc))) >=> Qd) Qd) >=> ((Qt (PW.pt (Qdn (Qn (QA hr.units) (xv 0) xint (Qj _)) (QcX (Qn QfJ (xv 3) xint (Qj _))))) ((Qh (xtup (Qa xstr (Qa (xcl (QdA R) hr (Qa (xv 1) (Qa (xv 4) Qc))) (Qa (xcl (QbH R) hr (Qa (xop QF (xv 4) xint) Qc)) Qc))))) >=> Qd) Qd) >=> ((Qt (Qn (QA hr.units) (xv 0) xint (Qj _)) ((Qh (xtup (Qa (by refine xix ?_ ?_;exact (toW (m:=.F) (xlst (Qa xstr (Qa xstr Qc))));exact (xop QF (xv 3) xint)) (Qa (xcl (QdA R) hr (Qa (xv 1) (Qa (xv 4) Qc))) Qc)))) >=> Qd) Qd) >=> ((Qt (Qn QfJ (xv 3) xint (Qj _)) ((Qh (xtup (Qa xstr (Qa (xcl (QbH R) hr (Qa (xv 4) Qc)) Qc)))) >=> Qd) Qd) >=> ((Qt (Qn QfJ (xv 3) xint (Qj _)) ((Qh (xtup (Qa xstr Qc))) >=> Qd) Qd) >=> ((Qh (xtup (Qa xstr (Qa (by refine xix ?_ ?_;exact (toW (m:=.F) (xlst (Qa (xop Qz (xop QF (xv 4) xint) xint) (Qa (xop Qz (xop QF (xv 4) xint) (xop Qco xint xint)) Qc))));exact (xop Qz (xv 4) xint)) Qc)))) >=> Qd)))))))))))
theorem QdF:Df P w K mg base "_law_free_name" 1 ["_law_cell"] false QaB:=Q3 (N:=["_law_cell","_law_size","_law_rest","_law_name_here","_law_k"]) (F:=Qa7) R.t48 fun nd hr=>by
 exact ((Qq 1 nd (xop Q1 xint (xop Qz (xv 0) xint))) >=> ((Qq 2 nd (xop QF (xv 0) xint)) >=> ((Qq 3 nd xstr) >=> ((Qg2 PassesOwn.never rfl R.z_range (Qa (xv 1) Qc) (Qbx 4 nd) ((Qq 3 nd (xop Q1 (xv 3) (xix xstr (xop Qz (xv 2) xint)))) >=> ((Qq 2 nd (xop QF (xv 2) xint)) >=> Qd))) >=> ((Qh (xv 3)) >=> Qd)))))
theorem QaJ:Df P w K mg base "_law_free_number" 1 ["_law_cell"] false QM:=Q3 (N:=["_law_cell"]) (F:=Qam) R.t49 fun nd hr=>by
 exact ((Qt (Qn (QA hr.units) (xop Qz (xv 0) xint) xint (Qj _)) ((Qh (xneg (xop Qz (xop QF (xv 0) xint) (xop Qco xint xint)))) >=> Qd) Qd) >=> ((Qh (xop Qz (xop QF (xv 0) xint) (xop Qco xint xint))) >=> Qd))
theorem QdC:Df P w K mg base "_law_free_deed" 2 ["_law_way","_law_cell"] false Qk:=Q3 (N:=["_law_way","_law_cell","_law_pick","_law_rest","_law_name_here","_law_number_here"]) (F:=Qs) R.t50 fun nd hr=>by
 exact ((Qq 2 nd (xop Qz (xv 1) xint)) >=> ((Qq 3 nd (xop QF (xv 1) xint)) >=> ((Qt (Qn (QA hr.units) (xv 0) xint (Qj _)) (by refine QdI ?_ ?_;refine Qh ?_;refine xix ?_ ?_;refine toW (m:=.F) ?_;refine xlst ?_;refine Qa ?_ ?_;exact (xtup (Qa xstr (Qa (xcl (QaJ R) hr (Qa (xvS 3) Qc)) Qc)));refine Qa ?_ ?_;exact (xtup (Qa xstr (Qa (xop Q1 xint (xop Qz (xv 3) (xop Qco xint xint))) Qc)));refine Qa ?_ ?_;exact (xtup (Qa xstr Qc));refine Qa ?_ ?_;exact (xtup (Qa xstr Qc));exact Qc;exact (xv 2);exact Qd) Qd) >=> ((Qt (Qn (QA hr.units) (xv 0) xint (Qj _)) ((Qq 4 nd (xcl (QdF R) hr (Qa (xvS 3) Qc))) >=> ((Qq 5 nd (xcl (QaJ R) hr (Qa (xop QF (xv 3) (xop Qfq xint (xop Qco xint xint))) Qc))) >=> (by refine QdI ?_ ?_;refine Qh ?_;refine xix ?_ ?_;refine toW (m:=.F) ?_;refine xlst ?_;refine Qa ?_ ?_;exact (xtup (Qa xstr (Qa (xvS 4) (Qa (xvS 5) Qc))));refine Qa ?_ ?_;exact (xtup (Qa xstr (Qa (xvS 4) Qc)));refine Qa ?_ ?_;exact (xtup (Qa xstr (Qa (xvS 4) Qc)));refine Qa ?_ ?_;exact (xtup (Qa xstr Qc));exact Qc;exact (xv 2);exact Qd))) Qd) >=> (by refine QdI ?_ ?_;refine Qh ?_;refine xix ?_ ?_;refine toW (m:=.F) ?_;refine xlst ?_;refine Qa ?_ ?_;exact (xtup (Qa xstr (Qa (xcl (QaJ R) hr (Qa (xvS 3) Qc)) Qc)));refine Qa ?_ ?_;exact (xtup (Qa xstr Qc));refine Qa ?_ ?_;exact (xtup (Qa xstr (Qa (xop Qz (xv 3) (xop Qco xint xint)) Qc)));refine Qa ?_ ?_;exact (xtup (Qa xstr Qc));exact Qc;exact (xv 2);exact Qd)))))
theorem Qg8:Df P w K mg base "_law_pair" 3 ["_law_way","_law_head","_law_free","_law_cell","_law_other"] false QaX:=Q3 (N:=["_law_way","_law_head","_law_free","_law_cell","_law_other"]) (F:=QbT) R.t51 fun nd hr=>by
 exact ((Qt (xt (xv 2)) ((Qh (xtup (Qa (xop Qz (xv 3) xint) (Qa (xcl (QdC R) hr (Qa (xv 0) (Qa (xv 4) Qc))) Qc)))) >=> Qd) Qd) >=> ((Qh (xtup (Qa (xcl (Qds R) hr (Qa (xv 1) (Qa (xv 3) Qc))) (Qa (xcl (Qg9 R) hr (Qa (xv 0) (Qa (xv 1) (Qa (xv 4) Qc)))) Qc)))) >=> Qd))
theorem QgW:DfM P w K mg base "_law_sums" 1 ["_law_state","_law_at","_law_deed_here"] 0 Qbf:=Qg1 (N:=["_law_state","_law_at","_law_deed_here","_law_now","_law_row_here"]) (F:=Qcy) R.t52 fun nd hr=>by
 exact ((Qq 3 nd xint) >=> ((Qt (Qn Qkc (xb Qbn R.z_len (Qa (xv 0) Qc)) xint (Qj _)) ((Qq 3 nd (xix (xixO 0 (xneg xint)) xint)) >=> Qd) Qd) >=> ((Qt (Qn (QA hr.units) (xix (xv 2) xint) xstr (Qj _)) ((QgY 0 (xtup (Qa (xop Q1 (xv 3) (xix (xv 2) xint)) (Qa (xvS 1) Qc)))) >=> ((QaC 0 (xtup (Qa xnon (Qa xnon (Qa (xcmp Qks (xop Q1 (xv 3) (xix (xv 2) xint)) xint (Qj _)) Qc))))) >=> Qd)) Qd) >=> ((Qt (Qn (QA hr.units) (xix (xv 2) xint) xstr (Qj _)) ((QaC 0 (xtup (Qa (xvS 3) (Qa xnon (Qa xbl Qc))))) >=> Qd) Qd) >=> ((Qt (Qn (QA hr.units) (xix (xv 2) xint) xstr (Qj _)) ((QaC 0 (xtup (Qa (xmaxL R.z_max (toW (m:=.F) (xcat (toS (xlst (Qa xint Qc))) (toS (by refine CompR.pe ?_;refine Qoj 0 (N':=["_law_row_here"]) (ix:=[]) (QhI _ ["_law_state","_law_at","_law_deed_here","_law_now","_law_row_here"] ?_) fun _ _ _ _ _=>⟨?_,?_,?_⟩;exact (by first | decide +kernel | (change cnOk (Qo QeA) _ _ _ _ _=true;decide +kernel));exact (xg0 (show (["_law_row_here"]:List Str).Nodup from by decide +kernel));exact QhJ;exact (xix (xv 0) xint)))))) (Qa xnon (Qa xbl Qc))))) >=> Qd) Qd) >=> ((QlQ 0 4 PassesOwn.never rfl nd (Qn Qks (xix (xv 4) xint) (xix (xv 2) xint) (Qj _)) (QaC 0 (xtup (Qa (xix (xvS 4) xint) (Qa (xix (xvS 4) xint) (Qa xbl Qc)))))) >=> ((QaC 0 (xtup (Qa xnon (Qa xnon (Qa xbl Qc))))) >=> Qd)))))))
theorem Qig:DfM P w K mg base "_law_row" 1 ["_law_way","_law_state","_law_at","_law_deed_here"] 1 QbI:=Qg1 (N:=["_law_way","_law_state","_law_at","_law_deed_here","_law_order","_law_k"]) (F:=Qdp) R.t53 fun nd hr=>by
 exact ((Qt (Qn (QA hr.units) (xix (xv 3) xint) xstr (Qj _)) ((QgY 1 (xtup (Qa (xix (xvS 3) xint) (Qa (xvS 2) Qc)))) >=> ((QaC 1 (xtup (Qa xnon (Qa xnon (Qa xbl Qc))))) >=> Qd)) Qd) >=> ((Qt (Qn (QA hr.units) (xix (xv 3) xint) xstr (Qj _)) ((QaC 1 (xtup (Qa (xb Qbn R.z_len (Qa (xv 1) Qc)) (Qa xnon (Qa xbl Qc))))) >=> Qd) Qd) >=> ((Qq 4 nd (toS (Qpm 1 R.z_list))) >=> ((Qt (Qn (QA hr.units) (xv 0) xint (Qj _)) ((Qq 4 nd (toS (Qlx 1 R.z_list R.z_reversed))) >=> Qd) Qd) >=> ((Qt (Qn (QA hr.units) (xv 0) xint (Qj _)) ((Qq 4 nd (toS (Qg0 R.z_sorted (xv 1)))) >=> Qd) Qd) >=> ((Qq 5 nd xint) >=> ((Qt (Qn (QA hr.units) (xix (xv 3) xint) xstr (Qj _)) ((Qq 5 nd (xix (xvS 3) xint)) >=> Qd) Qd) >=> ((Qt (Qn Qks (xv 5) (xb Qbn R.z_len (Qa (xv 4) Qc)) (Qj _)) ((QaC 1 (xtup (Qa xnon (Qa xnon (Qa (xcmp (QA hr.units) (xix (xv 3) xint) xstr (Qj _)) Qc))))) >=> Qd) Qd) >=> ((Qt (Qn (QA hr.units) (xix (xv 3) xint) xstr (Qj _)) ((Qnn 1 hr.units (xix (xvS 4) xint)) >=> Qd) Qd) >=> ((QaC 1 (xtup (Qa (xix (xix (xvS 4) (xv 5)) xint) (Qa (xix (xix (xvS 4) (xv 5)) xint) (Qa xbl Qc))))) >=> Qd))))))))))
theorem Qf9:DfM P w K mg base "_law_names" 1 ["_law_state","_law_at","_law_deed_here"] 0 Qa2:=Qg1 (N:=["_law_state","_law_at","_law_deed_here","_law_stood"]) (F:=Qcm) R.t54 fun nd hr=>by
 exact ((Qt (Qn (QA hr.units) (xix (xv 2) xint) xstr (Qj _)) ((QaC 0 (xtup (Qa (xb Qbn R.z_len (Qa (xv 0) Qc)) (Qa xnon (Qa xbl Qc))))) >=> Qd) Qd) >=> ((Qt (Qn (QA hr.units) (xix (xv 2) xint) xstr (Qj _)) ((QeT 0 hr.units (xix (xv 2) xint) (xtup (Qa (xix (xvS 2) xint) (Qa (xvS 1) Qc)))) >=> ((QaC 0 (xtup (Qa xnon (Qa xnon (Qa xbl Qc))))) >=> Qd)) Qd) >=> ((Qt (Qn (QgL hr.units) (xix (xv 2) xint) (xv 0) (by rfl)) ((QaC 0 (xtup (Qa xnon (Qa xnon (Qa (xcmp (QA hr.units) (xix (xv 2) xint) xstr (Qj _)) Qc))))) >=> Qd) Qd) >=> ((Qq 3 nd (xixOD 0 hr.units (xix (xv 2) xint))) >=> ((Qt (Qn (QA hr.units) (xix (xv 2) xint) xstr (Qj _)) ((QjS 0 (xix (xv 2) xint)) >=> Qd) Qd) >=> ((QaC 0 (xtup (Qa (xix (xvS 3) xint) (Qa (xix (xvS 3) xint) (Qa xbl Qc))))) >=> Qd))))))
theorem Qe8:Df P w K mg base "_law_replay" 2 ["_law_way","_law_rows"] true Qbc:=Q3 (N:=["_law_way","_law_rows","_law_state","_law_named","_law_row_here","_law_at","_law_deed_here"]) (F:=QbX) R.t55 fun nd hr=>by
 exact ((Qc9 2 nd (xlst Qc)) >=> ((Qc9 3 nd Qou) >=> ((Qc9 4 nd (xlst Qc)) >=> ((QpO PassesOwn.never rfl (xvS 1) (xg_2 5 6 nd) ((Qt (Qn (QA hr.units) (xv 0) xint (Qj _)) ((QhB 4 (Qho 2 (m:=2) ((QgW R).mono (by omega)) hr (QhD 2 (Qbv (xvS 5) (Qbv (xvS 6) Qhu))))) >=> Qd) ((Qt (Qn (QA hr.units) (xv 0) xint (Qj _)) ((QhB 4 (Qho 3 (m:=2) ((Qf9 R).mono (by omega)) hr (QhD 3 (Qbv (xvS 5) (Qbv (xvS 6) Qhu))))) >=> Qd) ((QhB 4 (Qho 2 (m:=2) ((Qig R).mono (by omega)) hr (Qbv (xvS 0) (QhD 2 (Qbv (xvS 5) (Qbv (xvS 6) Qhu)))))) >=> Qd)) >=> Qd)) >=> Qd)) >=> ((QdJ 2 (QdJ 3 (Qn8 4))) >=> Qd)))))
theorem Qg6:Df P w K mg base "_law_kind" 1 ["_law_way"] false Qbe:=Q3 (N:=["_law_way"]) (F:=QcR) R.t56 fun nd hr=>by
 exact ((Qt (Qn (QA hr.units) (xv 0) xint (Qj _)) ((Qh (Qdb R.k5.1 R.k5.2.1 R.k5.2.2)) >=> Qd) Qd) >=> ((Qt (Qn (QA hr.units) (xv 0) xint (Qj _)) ((Qh (Qdb R.k4.1 R.k4.2.1 R.k4.2.2)) >=> Qd) Qd) >=> ((Qt (Qn (QA hr.units) (xv 0) xint (Qj _)) ((Qh (Qdb R.k2.1 R.k2.2.1 R.k2.2.2)) >=> Qd) Qd) >=> ((Qt (Qn (QA hr.units) (xv 0) xint (Qj _)) ((Qh (Qdb R.k0.1 R.k0.2.1 R.k0.2.2)) >=> Qd) Qd) >=> ((Qh (Qdb R.k3.1 R.k3.2.1 R.k3.2.2)) >=> Qd)))))
theorem QbY:Df P w K mg base "_law_first" 3 ["_law_way","_law_known"] false QJ:=Q3 (N:=["_law_way","_law_known","_law_rows","_law_done","_law_k"]) (F:=Qbw) R.t57 fun nd hr=>by
 exact ((QnT 2 nd (by refine Qpf (N':=["_law_at","_law_known"]) (k:=1) (ix:=[1]) (QhI _ ["_law_way","_law_known","_law_rows","_law_done","_law_k"] ?_) ?_ fun _ _ _ _ _=>⟨?_,?_,?_⟩;exact (by first | decide +kernel | (change cnOk (Qo Qdx) _ _ _ _ _=true;decide +kernel));exact (toS (Qoh R.z_sorted (xvS 1)));exact (Qbx 0 (show (["_law_at","_law_known"]:List Str).Nodup from by decide +kernel));exact QhJ;exact (xtup (Qa (xvS 0) (Qa (xdix hr.units (xvS 1) (xv 0)) Qc))))) >=> ((Qq 3 nd (toS (Qpt ((Qe8 R).mono (by omega)) hr (Qa (xvS 0) (Qa (xvS 2) Qc))))) >=> ((Qg2 PassesOwn.never rfl R.z_range (Qa (xb Qbn R.z_len (Qa (xv 2) Qc)) Qc) (Qbx 4 nd) ((Qt (QjC (xt (xix (xix (xv 3) (xv 4)) xint))) ((Qh (xix (xix (xv 2) (xv 4)) xint)) >=> Qd) Qd) >=> Qd)) >=> ((Qh xnon) >=> Qd))))
theorem QfC:DfM P w K mg base "_law_spoilt" 4 ["_law_way","_law_known","_law_cell"] 1 QaM:=Qg1 (N:=["_law_way","_law_known","_law_cell","_law_time_here","_law_k"]) (F:=QbZ) R.t58 fun nd hr=>by
 exact ((Qq 3 nd (xcl (Qds R) hr (Qa (xvS 2) (Qa (xop QF (xv 2) xint) Qc)))) >=> ((Qg2 PassesOwn.never rfl R.z_range (Qa xint Qc) (Qbx 4 nd) ((Qt (QfM (xcl (QbY R) hr (Qa (xv 0) (Qa (xv 1) Qc)))) ((QhY 60 PassesOwn.never (Qn (QpL hr.units) (xv 3) (xv 1) (by rfl)) ((Qq 3 nd (xop Qz (xop Q1 (xv 3) xint) xint)) >=> Qd)) >=> ((QeT 1 hr.units (xv 3) (by refine xix ?_ ?_;exact (toS (by refine xlst ?_;refine Qa ?_ ?_;exact (xtup (Qa xstr (Qa (xneg (xop Qco xint xint)) Qc)));refine Qa ?_ ?_;exact (xtup (Qa xstr Qc));refine Qa ?_ ?_;exact (xtup (Qa xstr Qc));refine Qa ?_ ?_;exact (xtup (Qa xstr Qc));refine Qa ?_ ?_;exact (xtup (Qa xstr (Qa (xop QnN xstr xint) Qc)));exact Qc));exact (xv 0))) >=> Qd)) Qd) >=> Qd)) >=> Qd))
theorem Qfe:Df P w K mg base "_law_totals" 4 ["_law_kind_here","_law_tree"] false Q6:=Q3 (N:=["_law_kind_here","_law_tree","_law_waiting","_law_part","_law_due"]) (F:=Qbb) R.t59 fun nd hr=>by
 exact ((Qc9 2 nd (xlst (Qa (xvS 1) Qc))) >=> ((Qt (QfM (xv 1)) ((Qc9 2 nd (xlst Qc)) >=> Qd) Qd) >=> ((QhY 200 PassesOwn.never (Qn Qkc (xb Qbn R.z_len (Qa (xv 2) Qc)) xint (Qj _)) ((QkG 2 3 nd) >=> ((Qt (Qn (QA hr.units) (xb Qbn R.z_len (Qa (xv 3) Qc)) xint (Qj _)) ((Qq 4 nd (Qe0 (MAll.cons ((QdV R).mono (by omega)) rfl (MAll.cons ((QdE R).mono (by omega)) rfl (MAll.cons ((QdR R).mono (by omega)) rfl (MAll.cons ((QdQ R).mono (by omega)) rfl (MAll.cons ((Qev R).mono (by omega)) rfl (MAll.cons ((Qc7 R).mono (by omega)) rfl MAll.nil)))))) hr (xvS 0) (Qa (xix (xvS 3) xint) (Qa (xix (xvS 3) xint) Qc)))) >=> Qd) ((Qq 4 nd (Qe0 (MAll.cons ((Qbz R).mono (by omega)) rfl (MAll.cons ((QbB R).mono (by omega)) rfl (MAll.cons ((Qby R).mono (by omega)) rfl (MAll.cons ((QbJ R).mono (by omega)) rfl (MAll.cons ((QbV R).mono (by omega)) rfl (MAll.cons ((Qbo R).mono (by omega)) rfl MAll.nil)))))) hr (xvS 0) (Qa (xix (xix (xvS 3) xint) xint) (Qa (xix (xix (xvS 3) xint) xint) Qc)))) >=> ((QgY 2 (xix (xvS 3) xint)) >=> ((QgY 2 (xix (xvS 3) xint)) >=> Qd)))) >=> ((Qt (Qn (od_ne hr.units) (xix (xv 3) xint) (xv 4) (Qj _)) ((Qh xbl) >=> Qd) Qd) >=> Qd)))) >=> ((QdJ 2 (Qh xbl)) >=> Qd))))
theorem Qf3:Df P w K mg base "_law_alike" 1 ["_law_said","_law_due"] false Qay:=Q3 (N:=["_law_said","_law_due"]) (F:=Qbu) R.t60 fun nd hr=>by
 exact ((Qt (QfM (xv 1)) ((Qh (xisN (xv 0))) >=> Qd) Qd) >=> ((Qh (xand (xis R.z_isinstance R.z_int (xv 0)) (xand (xnot (xis R.z_isinstance R.z_bool (xv 0))) (xone (xcmp (QA hr.units) (xv 0) (xv 1) (Qj _)))))) >=> Qd))
theorem QpT {f:Addr} {fd:FuncData} (S:Fun K "law" "law" QoD f fd):FnOk P w K mg base CX0 71 f fd ["_law_script"] (spD K false 1 Qgz):=Qor (N:=["_law_script","_law_head","_law_way","_law_mode","_law_free","_law_kind_here","_law_known","_law_last","_law_k","_law_time_here","_law_deed_here","_law_tree","_law_plain"]) (F:=QoC) S fun nd hr=>by
 exact ((Qq 1 nd (xcl (Qcx R) hr (Qa (xvS 0) (Qa xint Qc)))) >=> ((Qq 2 nd (xop Qz (xv 1) xint)) >=> ((Qq 3 nd (xop Qz (xop QF (xv 1) xint) xint)) >=> ((Qq 4 nd (xcmp (QA hr.units) (xop Qz (xop QF (xv 1) xint) xint) xint (Qj _))) >=> ((Qt (xt (xv 4)) ((Qq 3 nd xint) >=> Qd) Qd) >=> ((Qq 5 nd (xcl (Qg6 R) hr (Qa (xvS 2) Qc))) >=> ((Qc9 6 nd Qou) >=> ((Qq 7 nd (xb Qe5 R.z_min (Qa (xop Qb8 (xb Qbn R.z_len (Qa (xv 0) Qc)) xint) (Qa xint Qc)))) >=> ((Qnq PassesOwn.never rfl R.z_range (Qa xint (Qa (xv 7) (Qa xint Qc))) (Qbx 8 nd) ((Qp2 (xcl (Qg8 R) hr (Qa (xvS 2) (Qa (xop QF (xv 1) xint) (Qa (xvS 4) (Qa (xix (xvS 0) (xv 8)) (Qa (xix (xvS 0) (xop Q1 (xv 8) xint)) Qc)))))) (xg_2 9 10 nd)) >=> ((Qt (Qn (QgL hr.units) (xv 9) (xv 6) (by rfl)) ((QeT 6 hr.units (xv 9) (xvS 10)) >=> ((Qt (PW.pt (Qdn (Qn Qkc (xv 3) xint (Qj _)) (Qdn (PW.pt (QlS (Qn (QA hr.units) (xv 3) xint (Qj _)) (Qjo (Qn QfJ (xop Q1 (xv 8) xint) (xv 7) (Qj _))))) (QcX (QhH (xcl (QbY R) hr (Qa (xv 2) (Qa (xv 6) Qc)))))))) ((QjS 6 (xv 9)) >=> Qd) Qd) >=> Qd)) Qd) >=> Qd))) >=> ((Qt (Qn (QA hr.units) (xv 3) xint (Qj _)) ((Qme (Qho 6 (m:=1) ((QfC R).mono (by omega)) hr (Qbv (xvS 2) (QhD 6 (Qbv (xcl (Qcx R) hr (Qa (xvS 0) (Qa xint Qc))) Qhu))))) >=> Qd) Qd) >=> ((QdJ 6 (Qq 11 nd xnon)) >=> ((Qq 12 nd xnon) >=> ((QnX PassesOwn.never rfl (xvS 6) (Qbx 9 nd) ((Qq 11 nd (xcl (Qee R 64) hr (Qa (xvS 5) (Qa (xvS 11) (Qa (xvS 9) (Qa (xdix hr.units (xvS 6) (xv 9)) Qc)))))) >=> ((Qq 12 nd (xcl (Qee R 64) hr (Qa (Qdb R.k1.1 R.k1.2.1 R.k1.2.2) (Qa (xvS 12) (Qa (xvS 9) (Qa (xdix hr.units (xvS 6) (xv 9)) Qc)))))) >=> Qd))) >=> ((Qt (PW.pt (QlS (QjC (xt (xcl (Qfe R) hr (Qa (xv 5) (Qa (xv 11) Qc))))) (Qjo (QhH (xcl (Qc8 R) hr (Qa (Qdb R.k1.1 R.k1.2.1 R.k1.2.2) (Qa (xv 12) Qc))))))) ((Qh xbl) >=> Qd) Qd) >=> ((Qh (xand (xcl (Qf3 R) hr (Qa (xcl (Qc8 R) hr (Qa (xv 5) (Qa (xv 11) Qc))) (Qa (xcl (QbY R) hr (Qa (xv 2) (Qa (xv 6) Qc))) Qc))) (xone (xisN (xcl (Qc8 R) hr (Qa (xv 5) (Qa xnon Qc))))))) >=> Qd)))))))))))))))
end
theorem all_mk {l:W.OpenLaw} {w:World} {K:W.Frag} {mg:Str->Option Value} {fa C_Bag C_Kind C_Line C_Names C_Pile C_Sums:Addr} (h:Heap) (R:∀ base,Rc l.prog w K mg base C_Bag C_Kind C_Line C_Names C_Pile C_Sums) (hfa:mg "law" = some (.ref fa)) :
  ∃ fd:FuncData,(∀ (s:Shared) (v:Value),BindsTo s fd ⟨[v],[]⟩ [("_law_script",v)])/\∀ base:Heap,K.In base->base.Ns mainGlobals mg->FnOk l.prog w K mg base CX0 71 fa fd ["_law_script"] (spD K false 1 Qgz):=by
 obtain ⟨f,fd,S,hm⟩:=(R h).t61.ex
 have e:=hfa.symm.trans hm
 cases e
 obtain ⟨_,_,_,_,_,_,_,_,_,e,_,_⟩:=S.ex
 refine ⟨fd,fun s v=>by rw [e];exact .of_eq rfl,fun base _ _=>?_⟩
 exact QpT (R base) S
theorem walk {l:W.OpenLaw} {qq:Program} {loose:List Str} {XP:(Str->Option Value)->Heap->Prop} {YP:World->Heap->Prop} {d:DefRec} {K:Params->W.Frag} (hn:l.most=some 63) (hdf:d.params.defaults=[])
  (hY:∀ (w:World) (h:Heap),YP w h->(K w.params).In h) (law:∀ ns:List Int,ns.length<=63->Qgz [.frl (ns.map D.int)]=.ok (.bl true))
  (F:∀ (w:World) (mg:Str->Option Value) (fa:Addr) (h:Heap),(K w.params).In h->h.Ns mainGlobals mg->mg d.name=some (.ref fa) ->
   ∃ fd:FuncData,(∀ (s:Shared) (u:Value),BindsTo s fd ⟨[u],[]⟩ [("_law_script",u)])/\∀ base:Heap,(K w.params).In base->base.Ns mainGlobals mg->FnOk l.prog w (K w.params) mg base CX0 71 fa fd ["_law_script"] (spD (K w.params) false 1 Qgz)) :
  W.WalkO qq loose XP YP l.row.toRowW d [] (fun f vs=>PySem.call f vs) :=
 L2.walk_of (n:=63) (k:=71) (x:="_law_script") (CX:=fun _=>CX0) (sp:=fun w=>spD (K w.params) false 1 Qgz) hn (by decide) hdf ⟨rfl,by decide,by decide⟩ hY F (fun _ _ _ ns hl hO hS=>QpY hO hS (law ns hl)) fun _ _ _ _ _ z=>z
end Pr
namespace Pr
open PySem L2 DL
local macro_rules | `(tactic| simp? [$xs,*])=>`(tactic| simp (decide:=true) -implicitDefEqProofs [Qg,QL,fVar,Qe,isT,at_0,at_1,at_2,at_3,at_4,$xs,*])
local macro_rules | `(tactic| simp?! [$xs,*])=>`(tactic| simp (decide:=true) [Qg,QL,fVar,Qe,isT,at_0,at_1,at_2,at_3,at_4,$xs,*])
local macro_rules | `(tactic| simp? [])=>`(tactic| simp (decide:=true) -implicitDefEqProofs [Qg,QL,fVar,Qe,isT,at_0,at_1,at_2,at_3,at_4])
local macro_rules | `(tactic| simp?! [])=>`(tactic| simp (decide:=true) [Qg,QL,fVar,Qe,isT,at_0,at_1,at_2,at_3,at_4])
theorem Qof (k:Nat):(2:Int) ^ k=((2 ^ k:Nat):Int):=by simp
theorem Qjl (x y:Nat):Builtin.bitXor (x:Int) (y:Int)=((x ^^^ y:Nat):Int):=by
 have h1:¬ (0:Int)<=Builtin.bitNot (x:Int):=by unfold Builtin.bitNot;lia
 have h2:¬ (0:Int)<=Builtin.bitNot (y:Int):=by unfold Builtin.bitNot;lia
 have e:∀ z:Int,Builtin.bitNot (Builtin.bitNot z)=z:=fun z=>by unfold Builtin.bitNot;lia
 have k1:(0:Int)<=(x:Int):=by lia
 have k2:(0:Int)<=(y:Int):=by lia
 have o:=Bt.or_xor_and x y
 unfold Builtin.bitXor Builtin.bitOr Builtin.bitAnd
 simp [k1,k2,h1,h2,e]
 lia
theorem p30:(2:Nat) ^ 30=1073741824:=by decide
theorem QdO (a b:Int):QaW [.tup [.int a,.int b]]=.ok (.int (a + b - 1)):=by
 simp [QaW,QcS,QL,fVar,at_0,at_1]
theorem QiL (z:Nat):Builtin.Int.intBits (z:Int)=Bt.bits z:=by
 unfold Builtin.Int.intBits Bt.bits
 by_cases h:z=0
 ·subst h;rfl
 ·have h':((z:Int) == 0)=false:=by simpa using h
  rw [if_neg h,h']
  simp
theorem QlR {a b c d:Int} {f l:Nat} (hf:(if c < a then c else a)=(f:Int)) (hl:(if c + d - 1 > a + b - 1 then c + d - 1 else a + b - 1)=(l:Int)) (h1:f < 1073741824) (h2:l < 1073741824) :
  QeY [.tup [.int a,.int b],.tup [.int c,.int d]]=.ok (.tup [.int ((f / 2 ^ Bt.bits (f ^^^ l) * 2 ^ Bt.bits (f ^^^ l):Nat):Int),.int ((2 ^ Bt.bits (f ^^^ l):Nat):Int)]):=by
 have hb:Bt.bits (f ^^^ l)<=30:=Bt.bits_le (Nat.xor_lt_two_pow (by rw [p30];exact h1) (by rw [p30];exact h2))
 generalize hn:Bt.bits (f ^^^ l)=n at *
 have p:(1:Nat)<=2 ^ n:=Nat.one_le_two_pow
 have p2:(2:Nat) ^ n<=1073741824:=by rw [← p30];exact Nat.pow_le_pow_right (by decide) hb
 have c0:cPow 1 (n:Int)=true:=by simp [cPow];lia
 have ep:(2:Int) ^ n=((2 ^ n:Nat):Int):=Qof n
 have c1:cDiv (f:Int) ((2 ^ n:Nat):Int)=true:=by simp only [cDiv,decide_eq_true_eq];lia
 have c2:cMul ((f:Int) / ((2 ^ n:Nat):Int)) ((2 ^ n:Nat):Int)=true:=by simp only [cMul,decide_eq_true_eq];lia
 have ex:Builtin.bitXor (f:Int) (l:Int)=((f ^^^ l:Nat):Int):=Qjl f l
 have eb:Builtin.Int.intBits ((f ^^^ l:Nat):Int)=n:=by rw [QiL,hn]
 have em:((f / 2 ^ n * 2 ^ n:Nat):Int)=(f:Int) / ((2 ^ n:Nat):Int) * ((2 ^ n:Nat):Int):=by rw [Int.natCast_mul,Int.natCast_ediv]
 have hl2:(if a + b < c + d then c + d - 1 else a + b - 1)=(l:Int):=by rw [← hl];split <;> split <;> lia
 rw [em]
 generalize hz:((2 ^ n:Nat):Int)=z at *
 simp -implicitDefEqProofs [-QpB,-QpU,QeY,Qhz,QL,fVar,at_0,at_1,QdO,hf,hl,hl2,QlY,ex,eb,c0,ep,c1,c2]
abbrev tbL:MTab:=[("Kind",QaF),("Sums",Qaz),("Pile",QaD),("Line",QaH),("Bag",Qaf),("Names",QO)]
abbrev tbJ:MTab:=[("Kind",Qac),("Sums",Qad),("Pile",Qab),("Line",Qaa),("Bag",QX),("Names",QI)]
abbrev tbF:MTab:=[("Kind",QaI),("Sums",Qav),("Pile",Qaw),("Line",QaA),("Bag",QaU),("Names",Qan)]
abbrev tbN:MTab:=[("Kind",QT),("Sums",QH),("Pile",QS),("Line",QR),("Bag",QP),("Names",Qy)]
structure Kd where
 C:Str
 en:List (Nat×D)->D
 Okd:D->Prop
 N:Nat
 lonM:List D->Ou D
 jonM:List D->Ou D
 notM:List D->Ou D
 fitM:List D->Ou D
 okr:List (Nat×D)->Bool
 tl:tbM tbL (.obj C)=some lonM
 tj:tbM tbJ (.obj C)=some jonM
 tn:tbM tbN (.obj C)=some notM
 tf:tbM tbF (.obj C)=some fitM
 lon:∀ (a:Nat) {d:D},Okd d->lonM [.obj C,.int (a:Int),d]=.ok (en [(a,d)])
 jon:∀ {xs ys:List (Nat×D)},xs.length + ys.length<=N->jonM [.obj C,en xs,en ys]=.ok (en (xs++ys))
 nt:notM [.obj C]=.ok (en [])
 ft:∀ {xs:List (Nat×D)},(∀ p∈xs,Okd p.2)->fitM [.obj C,en xs]=.ok (.bl (okr xs))
 mono:∀ {xs ys:List (Nat×D)},okr (xs++ys)=true->okr xs=true
 ok0:okr []=true
 ime:∀ xs,imm (en xs)=true
 imd:∀ {d:D},Okd d->imm d=true
 slf:∀ xs,Self 6 (en xs)
 sld:∀ {d:D},Okd d->Self 6 d
def QK (a:Nat) (d:D):List (Nat×D):=[(a,d)]
def QE (xs ys:List (Nat×D)):List (Nat×D):=xs++ys
open Tr in
theorem Qdt:∀ t:T,tv QK QE t=t.ds
 | .lf a d=>rfl
 | .nd q k l r=>by
  show QE (tv QK QE l) (tv QK QE r)=l.ds++r.ds
  rw [Qdt l,Qdt r];rfl
open Tr in
abbrev E (K:Kd):T->D:=enc K.en QK QE
open Tr in
abbrev EO (K:Kd):Option T->D:=encO K.en QK QE
open Tr in
abbrev V (t:T):List (Nat×D):=tv QK QE t
section
open Tr
theorem Qmr {K X A d s:D} {b:Bool} (hs:Qw [X]=.ok s) (hh:Qa0 [s,A]=.ok (.bl b)):Qeq (fTru (Qf (Qa0) [(Qf (Qw) [(fVar 1)]),(fVar 2)])) [.val K,.val X,.val A,.val d]=.ok (!b):=by
 simp?! [hs,hh]
theorem QjT {F:List D->Ou D} {K A d s f b:D} {xs:List D} (hs:Qw [.tup xs]=.ok s) (hh:Qa0 [s,A]=.ok (.bl false)) (hl:Qda [K,A,d]=.ok f) (hb:QaY [K,.tup xs,f]=.ok b):runD false 4 (QaN F) [K,.tup xs,A,d]=.ok b:=by
 refine QfU ((Qin (b:=false) rfl rfl).trans (Qjn (b:=true) ?_ rfl ?_))
 ·exact Qmr hs hh
 ·show Qf (QaY) [(fVar 0),(fVar 1),(Qf (Qda) [(fVar 0),(fVar 2),(fVar 3)])] [.val K,.val (.tup xs),.val A,.val d]=.ok b
  simp?! [hl,hb]
theorem Qfr {F:List D->Ou D} {K A d s z1 z2 z3 l r:D} (hs:Qw [.tup [z1,z2,z3,l,r]]=.ok s) (hh:Qa0 [s,A]=.ok (.bl true)) (hl:Qai [.tup [z1,z2,z3,l,r]]=.ok (.bl false)):runD false 4 (QaN F) [K,.tup [z1,z2,z3,l,r],A,d]=runD false 4 (sSeq (sIf (fTru (Qf (Qal) [(fVar 1),(fVar 2)])) (sSeq (sRet (Qf (Qa1) [(fVar 0),(Qf (F) [(fVar 0),(f2 gIx (fVar 1) (fC (.int 3))),(fVar 2),(fVar 3)]),(f2 gIx (fVar 1) (fC (.int 4)))])) Qb) Qb) (sSeq (sRet (Qf (Qa1) [(fVar 0),(f2 gIx (fVar 1) (fC (.int 3))),(Qf (F) [(fVar 0),(f2 gIx (fVar 1) (fC (.int 4))),(fVar 2),(fVar 3)])])) Qb)) [K,.tup [z1,z2,z3,l,r],A,d]:=by
 have h1:fTru (Qf (Qai) [(fVar 1)]) [.val K,.val (.tup [z1,z2,z3,l,r]),.val A,.val d]=.ok false:=by simp?! [hl]
 have e:(QaN F) (QL 4 [K,.tup [z1,z2,z3,l,r],A,d])=_:=(Qin (b:=false) rfl rfl).trans ((Qin (Qmr hs hh) rfl).trans (Qin h1 rfl))
 unfold runD
 rw [e]
 try rfl
theorem QkT {F:List D->Ou D} {K A d s l' b z1 z2 z3 l r:D} (hs:Qw [.tup [z1,z2,z3,l,r]]=.ok s) (hh:Qa0 [s,A]=.ok (.bl true)) (hl:Qai [.tup [z1,z2,z3,l,r]]=.ok (.bl false)) (he:Qal [.tup [z1,z2,z3,l,r],A]=.ok (.bl true)) (hf:F [K,l,A,d]=.ok l') (hk:Qa1 [K,l',r]=.ok b):runD false 4 (QaN F) [K,.tup [z1,z2,z3,l,r],A,d]=.ok b:=by
 rw [Qfr hs hh hl]
 have h1:fTru (Qf (Qal) [(fVar 1),(fVar 2)]) [.val K,.val (.tup [z1,z2,z3,l,r]),.val A,.val d]=.ok true:=by simp?! [he]
 exact QfU (Qjn h1 rfl (by simp?! [hf,hk]))
theorem QlH {F:List D->Ou D} {K A d s l' b z1 z2 z3 l r:D} (hs:Qw [.tup [z1,z2,z3,l,r]]=.ok s) (hh:Qa0 [s,A]=.ok (.bl true)) (hl:Qai [.tup [z1,z2,z3,l,r]]=.ok (.bl false)) (he:Qal [.tup [z1,z2,z3,l,r],A]=.ok (.bl false)) (hf:F [K,r,A,d]=.ok l') (hk:Qa1 [K,l,l']=.ok b):runD false 4 (QaN F) [K,.tup [z1,z2,z3,l,r],A,d]=.ok b:=by
 rw [Qfr hs hh hl]
 have h1:fTru (Qf (Qal) [(fVar 1),(fVar 2)]) [.val K,.val (.tup [z1,z2,z3,l,r]),.val A,.val d]=.ok false:=by simp?! [he]
 exact QfU ((Qin h1 rfl).trans (Qpr (by simp?! [hf,hk])))
variable (K:Kd)
theorem Qis (a:Nat) (d:D) (l:List (Nat×D)):(insK a d l).length=l.length + 1:=(Qef l).length_eq
theorem QbC (t:T):Qw [E K t]=.ok (.tup [.int (t.lo:Int),.int (t.sz:Int)]):=by
 obtain ⟨r,e⟩:=QbF K.en QK QE t
 rw [show E K t=_ from e]
 simp?! [Qw,Qcf]
theorem QbQ (t:T):Qak [E K t]=.ok (K.en (V t)):=by
 obtain ⟨r,e⟩:=QbF K.en QK QE t
 rw [show E K t=_ from e]
 simp?! [Qak,Qdd]
theorem Qno (a:Nat) (d:D):Qai [E K (.lf a d)]=.ok (.bl true):=by
 simp?! [Qai,Qc4,E,enc]
theorem QjQ (q k:Nat) (l r:T):Qai [E K (.nd q k l r)]=.ok (.bl false):=by
 have h:¬ ((2 ^ (k + 1):Nat):Int)=1:=by
  have:2 ^ (k + 1)=2 ^ k * 2:=Nat.pow_succ ..
  have:=Nat.two_pow_pos k
  lia
 simp only [E,enc]
 generalize ((2 ^ (k + 1):Nat):Int)=z at *
 simp?! [Qai,Qc4,h]
theorem QfE (a b x:Int):Qa0 [.tup [.int a,.int b],.int x]=.ok (.bl (decide (a<=x) && decide (x<=a + b - 1))):=by
 simp?! [Qa0,Qhc,QdO]
theorem QeW {l r:T} (hB:l.ds.length + r.ds.length<=K.N) (hl:Good l) (hr:Good r) (hd:l.lo + l.sz<=r.lo):Qa1 [.obj K.C,E K l,E K r]=.ok (E K (mk l r)):=by
 have pl:=Qcz l
 have pr:=Qcz r
 have ul:=hl.up
 have ur:=hr.up
 have hall:all=1073741824:=rfl
 have e:=Bt.bits_blocks (q:=l.q) (i:=l.e) (r:=r.q) (j:=r.e) (x:=l.lo) (a:=l.lo) (y:=r.lo + r.sz - 1) (c:=r.lo) hd (Nat.mul_div_cancel _ pl) (Nat.mul_div_cancel _ pl) (Bt.in_block.mpr ⟨by show r.lo<=_;lia,by show _ < r.lo + r.sz;lia⟩) (Nat.mul_div_cancel _ pr)
 have el:=QlR (a:=(l.lo:Int)) (b:=(l.sz:Int)) (c:=(r.lo:Int)) (d:=(r.sz:Int)) (f:=l.lo) (l:=r.lo + r.sz - 1) (by rw [if_neg (by lia)]) (by rw [if_pos (by lia)];lia) (by lia) (by lia)
 rw [e] at el
 have em:=QpG K.en QK QE (l:=l) (r:=r) (by lia)
 rw [show E K (mk l r)=_ from em]
 have s1:=QbC K l
 have s2:=QbC K r
 have t1:=QbQ K l
 have t2:=QbQ K r
 have j:=(show K.jonM [.obj K.C,K.en (tv QK QE l),K.en (tv QK QE r)]=.ok (K.en (QE (tv QK QE l) (tv QK QE r))) by rw [Qdt,Qdt];exact K.jon hB)
 generalize ((l.lo / 2 ^ Bt.bits (l.lo ^^^ r.lo) * 2 ^ Bt.bits (l.lo ^^^ r.lo):Nat):Int)=u1 at *
 generalize ((2 ^ Bt.bits (l.lo ^^^ r.lo):Nat):Int)=u2 at *
 change Qw [enc K.en QK QE l]=_ at s1
 change Qw [enc K.en QK QE r]=_ at s2
 change Qak [enc K.en QK QE l]=_ at t1
 change Qak [enc K.en QK QE r]=_ at t2
 show Qa1 [.obj K.C,enc K.en QK QE l,enc K.en QK QE r]=_
 generalize enc K.en QK QE l=L at *
 generalize enc K.en QK QE r=R at *
 change _=Ou.ok (K.en (QE (tv QK QE l) (tv QK QE r))) at j
 change K.jonM [.obj K.C,K.en (tv QK QE l),K.en (tv QK QE r)]=_ at j
 change _=Ou.ok (K.en (tv QK QE l)) at t1
 change _=Ou.ok (K.en (tv QK QE r)) at t2
 have tj:=K.tj
 simp?! [Qa1,QjD,s1,s2,t1,t2,el,tj,j]
theorem Qhx (a:Nat) {d:D} (h:K.Okd d):Qda [.obj K.C,.int (a:Int),d]=.ok (E K (.lf a d)):=by
 have l:=K.lon a h
 have tl:=K.tl
 simp?! [Qda,QjL,tl,l,E,enc,QK]
theorem Qgf {t:T} {a:Nat} {d:D} (hB:t.ds.length + 1<=K.N) (ht:Good t) (ha:a < all) (hn:a < t.lo\/t.lo + t.sz<=a):QaY [.obj K.C,E K t,E K (.lf a d)]=.ok (E K (if a < t.lo then mk (.lf a d) t else mk t (.lf a d))):=by
 obtain ⟨r,e⟩:=QbF K.en QK QE t
 have gl:Good (.lf a d):=.lf ha
 have la:(T.lf a d).lo=a:=by simp [T.lo,T.q,T.e]
 have sa:(T.lf a d).sz=1:=rfl
 have e2:E K (.lf a d)=.tup [.int (a:Int),.int 1,K.en (QK a d),d]:=rfl
 by_cases h:a < t.lo
 ·have k:=QeW K (l:=.lf a d) (r:=t) (by simp only [T.ds,List.length_cons,List.length_nil];lia) gl ht (by lia)
  have h':(a:Int) < (t.lo:Int):=by lia
  rw [if_pos h]
  change enc K.en QK QE t=_ at e
  change Qa1 [.obj K.C,E K (.lf a d),enc K.en QK QE t]=_ at k
  show QaY [.obj K.C,enc K.en QK QE t,E K (.lf a d)]=_
  rw [e,e2] at k ⊢
  simp?! [QaY,QdY,h',k]
 ·have k:=QeW K (l:=t) (r:=.lf a d) (by simp only [T.ds,List.length_cons,List.length_nil];lia) ht gl (by lia)
  have h':¬ (a:Int) < (t.lo:Int):=by lia
  rw [if_neg h]
  change enc K.en QK QE t=_ at e
  change Qa1 [.obj K.C,enc K.en QK QE t,E K (.lf a d)]=_ at k
  show QaY [.obj K.C,enc K.en QK QE t,E K (.lf a d)]=_
  rw [e,e2] at k ⊢
  simp?! [QaY,QdY,h',k]
theorem Qm8 (q k a:Nat) (l r:T):Qal [E K (.nd q k l r),.int (a:Int)]=.ok (.bl (decide (((q * 2 ^ (k + 1):Nat):Int)<=(a:Int)) && decide ((a:Int)<=((q * 2 ^ (k + 1):Nat):Int) + ((2 ^ k:Nat):Int) - 1))):=by
 have s:=QbC K (.nd q k l r)
 have e1:((T.nd q k l r).lo:Int)=((q * 2 ^ (k + 1):Nat):Int):=rfl
 have e2:((T.nd q k l r).sz:Int)=((2 ^ (k + 1):Nat):Int):=rfl
 have eh:((2 ^ (k + 1):Nat):Int) / 2=((2 ^ k:Nat):Int):=by
  have:2 ^ (k + 1)=2 ^ k * 2:=Nat.pow_succ ..
  lia
 rw [e1,e2] at s
 generalize E K (.nd q k l r)=z at *
 generalize ((q * 2 ^ (k + 1):Nat):Int)=lo at *
 generalize ((2 ^ (k + 1):Nat):Int)=sz at *
 generalize ((2 ^ k:Nat):Int)=hz at *
 have h:=QfE lo hz a
 simp?! [Qal,Qdf,s,Qfu,Qfn,eh,h]
theorem Qi2 {a:Nat} {d:D} (ha:a < all) (hd:K.Okd d):∀ (n:Nat) (t t':T),t.ds.length + 1<=K.N->Good t->t.e < n->put a d t=some t'->QC n [.obj K.C,E K t,.int (a:Int),d]=.ok (E K t')
 | 0,t,_,_,_,h,_=>by lia
 | n + 1,.lf b e,t',hB,G,_,hp=>by
  have hu:QC (n + 1) [.obj K.C,E K (.lf b e),.int (a:Int),d]=runD false 4 (QaN (QC n)) [.obj K.C,E K (.lf b e),.int (a:Int),d]:=rfl
  rw [hu]
  generalize QC n=F
  have lb:(T.lf b e).lo=b:=by simp [T.lo,T.q,T.e]
  have sb:(T.lf b e).sz=1:=rfl
  have hab:a≠b:=fun z=>by
   subst z
   simp [put] at hp
  have s:=QbC K (.lf b e)
  have lq:=Qhx K a hd
  have bq:=Qgf K (d:=d) hB G ha (by rw [lb,sb];lia)
  rw [lb] at bq s
  rw [sb] at s
  have hh:=QfE (b:Int) 1 a
  have hf:(decide ((b:Int)<=(a:Int)) && decide ((a:Int)<=(b:Int) + 1 - 1))=false:=by
   by_cases z:(b:Int)<=(a:Int)
   ·have:¬ (a:Int)<=(b:Int) + 1 - 1:=by lia
    simp [this];lia
   ·simp [z]
  rw [hf] at hh
  have ht:(if a < b then mk (.lf a d) (.lf b e) else mk (.lf b e) (.lf a d))=t':=by
   simp only [put] at hp
   by_cases z:a < b
   ·rw [if_pos z] at hp ⊢;exact Option.some.inj hp
   ·rw [if_neg z,if_pos (show b < a by lia)] at hp
    rw [if_neg z];exact Option.some.inj hp
  rw [ht] at bq
  have hx:∃ xs,E K (.lf b e)=.tup xs:=⟨_,rfl⟩
  obtain ⟨xs,hx⟩:=hx
  rw [hx] at s bq ⊢
  have s':Qw [.tup xs]=.ok (.tup [.int (b:Int),.int 1]):=s
  exact QjT s' hh lq bq
 | n + 1,.nd q k l r,t',hB,G,hn,hp=>by
  have hBl:l.ds.length + r.ds.length + 1<=K.N:=by simpa only [T.ds,List.length_append] using hB
  have hu:QC (n + 1) [.obj K.C,E K (.nd q k l r),.int (a:Int),d]=runD false 4 (QaN (QC n)) [.obj K.C,E K (.nd q k l r),.int (a:Int),d]:=rfl
  obtain ⟨hl,hr,el,er,hdj⟩:=Qmi G
  have hn':k + 1 < n + 1:=hn
  have lb:(T.nd q k l r).lo=q * 2 ^ (k + 1):=rfl
  have sb:(T.nd q k l r).sz=2 ^ (k + 1):=rfl
  have s:=QbC K (.nd q k l r)
  rw [lb,sb] at s
  have hh:=QfE ((q * 2 ^ (k + 1):Nat):Int) ((2 ^ (k + 1):Nat):Int) a
  have ex:E K (.nd q k l r)=.tup [.int ((q * 2 ^ (k + 1):Nat):Int),.int ((2 ^ (k + 1):Nat):Int),K.en (QE (V l) (V r)),E K l,E K r]:=rfl
  have pk:=Nat.two_pow_pos k
  have e2:2 ^ (k + 1)=2 ^ k * 2:=Nat.pow_succ ..
  by_cases hin:a < q * 2 ^ (k + 1)\/q * 2 ^ (k + 1) + 2 ^ (k + 1)<=a
  ·have lq:=Qhx K a hd
   have bq:=Qgf K (d:=d) hB G ha (by rw [lb,sb];exact hin)
   rw [lb] at bq
   have hf:(decide (((q * 2 ^ (k + 1):Nat):Int)<=(a:Int)) && decide ((a:Int)<=((q * 2 ^ (k + 1):Nat):Int) + ((2 ^ (k + 1):Nat):Int) - 1))=false:=by
    rcases hin with z | z
    ·have:¬ ((q * 2 ^ (k + 1):Nat):Int)<=(a:Int):=by lia
     rw [decide_eq_false this];rfl
    ·have:¬ (a:Int)<=((q * 2 ^ (k + 1):Nat):Int) + ((2 ^ (k + 1):Nat):Int) - 1:=by lia
     rw [decide_eq_false this,Bool.and_false]
   rw [hf] at hh
   have ht:(if a < q * 2 ^ (k + 1) then mk (.lf a d) (.nd q k l r) else mk (.nd q k l r) (.lf a d))=t':=by
    simp only [put] at hp
    by_cases z:a < q * 2 ^ (k + 1)
    ·rw [if_pos z] at hp ⊢;exact Option.some.inj hp
    ·rw [if_neg z,if_pos (by lia)] at hp
     rw [if_neg z];exact Option.some.inj hp
   rw [ht] at bq
   rw [hu]
   rw [ex] at s bq ⊢
   exact QjT s hh lq bq
  ·have n1:¬ a < q * 2 ^ (k + 1):=fun z=>hin (.inl z)
   have n2:¬ q * 2 ^ (k + 1) + 2 ^ (k + 1)<=a:=fun z=>hin (.inr z)
   have hf:(decide (((q * 2 ^ (k + 1):Nat):Int)<=(a:Int)) && decide ((a:Int)<=((q * 2 ^ (k + 1):Nat):Int) + ((2 ^ (k + 1):Nat):Int) - 1))=true:=by
    rw [decide_eq_true (show ((q * 2 ^ (k + 1):Nat):Int)<=(a:Int) by lia),decide_eq_true (show (a:Int)<=((q * 2 ^ (k + 1):Nat):Int) + ((2 ^ (k + 1):Nat):Int) - 1 by lia)]
    rfl
   rw [hf] at hh
   have lfn:=QjQ K q k l r
   have eq:=Qm8 K q k a l r
   simp only [put,if_neg n1,if_neg n2] at hp
   by_cases c3:a < q * 2 ^ (k + 1) + 2 ^ k
   ·have he:(decide (((q * 2 ^ (k + 1):Nat):Int)<=(a:Int)) && decide ((a:Int)<=((q * 2 ^ (k + 1):Nat):Int) + ((2 ^ k:Nat):Int) - 1))=true:=by
     rw [decide_eq_true (show ((q * 2 ^ (k + 1):Nat):Int)<=(a:Int) by lia),decide_eq_true (show (a:Int)<=((q * 2 ^ (k + 1):Nat):Int) + ((2 ^ k:Nat):Int) - 1 by lia)]
     rfl
    rw [he] at eq
    rw [if_pos c3] at hp
    cases hpl:put a d l with
    | none=>rw [hpl] at hp;cases hp
    | some l' =>
     rw [hpl] at hp
     obtain rfl:mk l' r=t':=Option.some.inj hp
     have ih:=Qi2 ha hd n l l' (by lia) hl (by lia) hpl
     have hnl:∀ p∈l.ds,p.1≠a:=QeV l (by rw [hpl];simp) hl
     obtain ⟨l2,P⟩:=Qjr (d:=d) ha hl hnl
     have el2:l2=l':=Option.some.inj (P.eq.symm.trans hpl)
     subst el2
     have ek:q * 2 ^ (k + 1)=2 * q * 2 ^ k:=by rw [e2,Nat.mul_comm (2 ^ k) 2,← Nat.mul_assoc,Nat.mul_comm q 2]
     have wl:Within l2 (2 * q) k:=by
      cases G with
      | nd _ _ h1 h2 h3 h4 h5=>exact P.win (2 * q) k ⟨by lia,by lia⟩ (Bt.in_block.mpr ⟨by lia,by lia⟩)
     have hdis:l2.lo + l2.sz<=r.lo:=by
      cases G with
      | nd _ _ h1 h2 h3 h4 h5=>have:=wl.2;lia
     have kq:=QeW K (by rw [P.ds,Qis];lia) P.good hr hdis
     rw [hu]
     rw [ex] at s lfn eq ⊢
     exact QkT s hh lfn eq ih kq
   ·have he:(decide (((q * 2 ^ (k + 1):Nat):Int)<=(a:Int)) && decide ((a:Int)<=((q * 2 ^ (k + 1):Nat):Int) + ((2 ^ k:Nat):Int) - 1))=false:=by
     rw [decide_eq_false (show ¬ (a:Int)<=((q * 2 ^ (k + 1):Nat):Int) + ((2 ^ k:Nat):Int) - 1 by lia),Bool.and_false]
    rw [he] at eq
    rw [if_neg c3] at hp
    cases hpl:put a d r with
    | none=>rw [hpl] at hp;cases hp
    | some r' =>
     rw [hpl] at hp
     obtain rfl:mk l r'=t':=Option.some.inj hp
     have ih:=Qi2 ha hd n r r' (by lia) hr (by lia) hpl
     have hnr:∀ p∈r.ds,p.1≠a:=QeV r (by rw [hpl];simp) hr
     obtain ⟨r2,P⟩:=Qjr (d:=d) ha hr hnr
     have el2:r2=r':=Option.some.inj (P.eq.symm.trans hpl)
     subst el2
     have ek:q * 2 ^ (k + 1)=2 * q * 2 ^ k:=by rw [e2,Nat.mul_comm (2 ^ k) 2,← Nat.mul_assoc,Nat.mul_comm q 2]
     have eb:(2 * q + 1) * 2 ^ k=q * 2 ^ (k + 1) + 2 ^ k:=by rw [Nat.add_mul,Nat.one_mul,ek]
     have wr:Within r2 (2 * q + 1) k:=by
      cases G with
      | nd _ _ h1 h2 h3 h4 h5=>exact P.win (2 * q + 1) k ⟨by lia,by lia⟩ (Bt.in_block.mpr ⟨by lia,by lia⟩)
     have hdis:l.lo + l.sz<=r2.lo:=by
      cases G with
      | nd _ _ h1 h2 h3 h4 h5=>have:=wr.1;lia
     have kq:=QeW K (by rw [P.ds,Qis];lia) hl P.good hdis
     rw [hu]
     rw [ex] at s lfn eq ⊢
     exact QlH s hh lfn eq ih kq
def Qkr:Option T->Prop
 | some t=>Good t
 | none=>True
theorem Qld {o:Option T} (hB:(dsO o).length + 1<=K.N) (h:Qkr o) {a:Nat} (ha:a < all) {d:D} (hd:K.Okd d) (hn:∀ p∈dsO o,p.1≠a):∃ t',QC 64 [.obj K.C,EO K o,.int (a:Int),d]=.ok (E K t')/\Good t'/\t'.ds=insK a d (dsO o):=by
 cases o with
 | none =>
  refine ⟨.lf a d,?_,.lf ha,rfl⟩
  have hu:QC 64 [.obj K.C,.non,.int (a:Int),d]=runD false 4 (QaN (QC 63)) [.obj K.C,.non,.int (a:Int),d]:=rfl
  show QC 64 [.obj K.C,.non,.int (a:Int),d]=_
  rw [hu]
  exact QfU (Qjn (b:=true) rfl rfl (Qhx K a hd))
 | some t =>
  obtain ⟨t',P⟩:=Qjr (d:=d) ha h hn
  have:=depth h
  exact ⟨t',Qi2 K ha hd 64 t t' hB h (by lia) P.eq,P.good,P.ds⟩
end
section
open Tr
def prD (p:Nat×D):D:=.tup [.int (p.1:Int),p.2]
variable (K:Kd)
def Al (al:List (Nat×D)):Prop:=∀ p∈al,p.1 < all/\K.Okd p.2
theorem gd {al:List (Nat×D)} {o:Option T} (b:Book al o):Qkr o:=by
 cases o with
 | none=>trivial
 | some t=>exact b.good
theorem ds_ok {al:List (Nat×D)} {o:Option T} (b:Book al o) (h:Al K al):∀ p∈dsO o,p.1 < all/\K.Okd p.2:=fun p hp=>h p (b.perm.mem_iff.mp hp)
theorem Ql2:∀ t:T,(∀ p∈t.ds,K.Okd p.2)->imm (E K t)=true
 | .lf a d,h=>by
  have:=K.imd (h (a,d) (by simp [T.ds]))
  simp [E,enc,imm,imms,this,K.ime]
 | .nd q k l r,h=>by
  have h1:=Ql2 l fun p hp=>h p (by simp [T.ds,hp])
  have h2:=Ql2 r fun p hp=>h p (by simp [T.ds,hp])
  simp only [E,enc] at h1 h2 ⊢
  simp [imm,imms,h1,h2,K.ime]
theorem QhV {al:List (Nat×D)} {o:Option T} (hB:al.length + 1<=K.N) (b:Book al o) (h:Al K al) {a:Nat} (ha:a < all) (hn:∀ p∈al,p.1≠a) {d:D} (hd:K.Okd d):∃ t,QC 64 [.obj K.C,EO K o,.int (a:Int),d]=.ok (E K t)/\imm (E K t)=true/\Book (al++[(a,d)]) (some t)/\Al K (al++[(a,d)]):=by
 obtain ⟨t,e,hg,hds⟩:=Qld K (by rw [b.perm.length_eq];exact hB) (gd b) ha hd (b.none_at hn)
 have B:=b.put hg hds
 have A:Al K (al++[(a,d)]):=fun p hp=>by
  rcases List.mem_append.mp hp with hp | hp
  ·exact h p hp
  ·simp at hp;subst hp;exact ⟨ha,hd⟩
 exact ⟨t,e,Ql2 K t fun p hp=>(ds_ok K B A p hp).2,B,A⟩
theorem Qiz (al:List (Nat×D)) (hn:(al.map (·.1)).Nodup):∀ (l:List (Nat×D)),(∀ p∈l,p∈al)->∀ s0,Qbq (gNm 0) fYes (fTup [(Qe 0),(f2 gDIx (Qe 1) (fVar 0))]) ((l.map fun p=>(p.1:Int)).map D.int) [s0,.val (dict al)]=.ok (l.map prD)
 | [],_,_=>rfl
 | p::l,h,s0=>by
  have e:=Qkt hn (h p List.mem_cons_self)
  have i:=Qiz al hn l (fun p hp=>h p (List.mem_cons_of_mem _ hp)) (.val (.int (p.1:Int)))
  generalize dict al=z at *
  simp only [List.map_cons,Qbq,e_nm,Qau,List.set]
  generalize (l.map fun p=>(p.1:Int)).map D.int=M at *
  simp?! [fYes,e,i,prD]
end
def kKind:Kd where
 C:="Kind"
 en xs:=.int (xs.length:Int)
 Okd d:=imm d=true/\Self 6 d
 N:=63
 lonM:=QaF
 jonM:=Qac
 notM:=QT
 fitM:=QaI
 okr _:=true
 tl:=QD
 tj:=QD
 tn:=QD
 tf:=QD
 lon a d _:=by simp?! [QaF,Qce]
 jon {xs ys} _:=by simp?! [Qac,QbA,List.length_append]
 nt:=by simp?! [QT,Qbi]
 ft {xs} _:=by simp?! [QaI,Qci]
 mono _:=rfl
 ok0:=rfl
 ime _:=rfl
 imd h:=h.1
 slf _:=(Self.int _).mono (by decide)
 sld h:=h.2
theorem Qmz (w:Str):Self 6 (.tup [.str w]):=(Self.tup (n:=1) fun y hy=>by
 simp only [List.mem_cons,List.not_mem_nil,or_false] at hy
 subst hy;exact Self.str _).mono (by decide)
theorem QlC (w:Str) (x:Int):Self 6 (.tup [.str w,.int x]):=(Self.tup (n:=1) fun y hy=>by
 simp only [List.mem_cons,List.not_mem_nil,or_false] at hy
 rcases hy with rfl | rfl
 ·exact Self.str _
 ·exact Self.int _).mono (by decide)
theorem Qn6 (a b:Int):Self 6 (.tup [.int a,.int b]):=(Self.tup (n:=1) fun y hy=>by
 simp only [List.mem_cons,List.not_mem_nil,or_false] at hy
 rcases hy with rfl | rfl <;> exact Self.int _).mono (by decide)
theorem QkC (a b c:Int):Self 6 (.tup [.int a,.int b,.int c]):=(Self.tup (n:=1) fun y hy=>by
 simp only [List.mem_cons,List.not_mem_nil,or_false] at hy
 rcases hy with rfl | rfl | rfl <;> exact Self.int _).mono (by decide)
def sN:List Int->Int
 | []=>0
 | x::r=>x + sN r
def sL:List Int->Int
 | []=>0
 | x::r=>min 0 (x + sL r)
def sM:List Int->Int
 | []=>0
 | x::r=>max 0 (x + sM r)
theorem Qma:∀ xs,sL xs<=0
 | []=>by simp [sL]
 | x::r=>by simp only [sL];lia
theorem sM_ge:∀ xs,0<=sM xs
 | []=>by simp [sM]
 | x::r=>by simp only [sM];lia
theorem sLN:∀ xs,sL xs<=sN xs/\sN xs<=sM xs
 | []=>by simp [sL,sN,sM]
 | x::r=>by have:=sLN r;simp only [sL,sN,sM];omega
theorem QhC:∀ xs ys,sN (xs++ys)=sN xs + sN ys
 | [],ys=>by simp [sN]
 | x::r,ys=>by simp only [List.cons_append,sN,QhC r ys];lia
theorem amin (x a b:Int):x + min a b=min (x + a) (x + b):=by lia
theorem amax (x a b:Int):x + max a b=max (x + a) (x + b):=by lia
theorem Qfy:∀ xs ys,sL (xs++ys)=min (sL xs) (sN xs + sL ys)
 | [],ys=>by have:=Qma ys;simp only [List.nil_append,sL,sN];lia
 | x::r,ys=>by simp only [List.cons_append,sL,sN,Qfy r ys,amin,Int.add_assoc,Int.min_assoc]
theorem QmS:∀ xs ys,sM (xs++ys)=max (sM xs) (sN xs + sM ys)
 | [],ys=>by have:=sM_ge ys;simp only [List.nil_append,sM,sN];lia
 | x::r,ys=>by simp only [List.cons_append,sM,sN,QmS r ys,amax,Int.add_assoc,Int.max_assoc]
def val:D->Int
 | .tup [.str w,.int x]=>if w = "add" then x else 0
 | _=>0
def vals (l:List (Nat×D)):List Int:=l.map fun p=>val p.2
inductive OkS:D->Prop
 | add (x:Int):OkS (.tup [.str "add",.int x])
 | many:OkS (.tup [.str "many"])
 | peak:OkS (.tup [.str "peak"])
 | reach (x:Int) (h:1<=x):OkS (.tup [.str "reach",.int x])
theorem Qb3 (xs ys:List (Nat×D)):vals (xs++ys)=vals xs++vals ys:=List.map_append ..
theorem snot:QH [.obj "Sums"]=.ok (.tup [.int 0,.int 0,.int 0]):=by simp?! [QH,Qbk]
def kSums:Kd where
 C:="Sums"
 en xs:=.tup [.int (sN (vals xs)),.int (sL (vals xs)),.int (sM (vals xs))]
 Okd:=OkS
 N:=63
 lonM:=Qaz
 jonM:=Qad
 notM:=QH
 fitM:=Qav
 okr xs:=decide (0<=sL (vals xs))
 tl:=(Qg rfl).trans QD
 tj:=(Qg rfl).trans QD
 tn:=(Qg rfl).trans QD
 tf:=(Qg rfl).trans QD
 lon a d h:=by
  have n:=snot
  cases h <;> simp?! [Qaz,Qcc,n,vals,val,sN,sL,sM]
 jon {xs ys} _:=by
  rw [Qb3,QhC,Qfy,QmS]
  simp?! [Qad,QbM]
 nt:=snot
 ft {xs} _:=by simp?! [Qav,Qcq]
 mono {xs ys} h:=by
  rw [Qb3,Qfy] at h
  simp only [decide_eq_true_eq] at h ⊢
  lia
 ok0:=rfl
 ime _:=rfl
 imd h:=by cases h <;> rfl
 slf _:=QkC _ _ _
 sld h:=by cases h <;> first | exact Qmz _ | exact QlC _ _
inductive Dk:D->Int->Prop
 | put (x:Int):Dk (.tup [.str "put",.int x]) 1
 | take:Dk (.tup [.str "take"]) (-1)
 | many:Dk (.tup [.str "many"]) 0
 | look (x:Int) (h:0<=x):Dk (.tup [.str "look",.int x]) 0
def lk:List Int->Int
 | []=>0
 | z::r=>if z=1 then max 0 (lk r - 1) else if z=-1 then 1 + lk r else lk r
def lf:List Int->Int
 | []=>0
 | z::r=>if z=1 then lf r + max 0 (1 - lk r) else lf r
theorem Qcv:∀ xs,0<=lk xs
 | []=>by simp [lk]
 | z::r=>by have:=Qcv r;simp only [lk];split <;> (try split) <;> lia
theorem Qet:∀ xs,0<=lf xs
 | []=>by simp [lf]
 | z::r=>by have:=Qet r;simp only [lf];split <;> lia
theorem QcD:∀ xs ys,lk (xs++ys)=lk xs + max 0 (lk ys - lf xs)
 | [],ys=>by have:=Qcv ys;simp only [List.nil_append,lk,lf];omega
 | z::r,ys=>by
  have h1:=QcD r ys
  have h2:=Qcv r
  have h3:=Qcv ys
  have h4:=Qet r
  simp only [List.cons_append,lk,lf,h1]
  split <;> (try split) <;> omega
theorem QfK:∀ xs ys,lf (xs++ys)=lf ys + max 0 (lf xs - lk ys)
 | [],ys=>by have:=Qcv ys;simp only [List.nil_append,lf];omega
 | z::r,ys=>by
  have h0:=QfK r ys
  have h1:=QcD r ys
  have h2:=Qcv r
  have h3:=Qcv ys
  have h4:=Qet r
  simp only [List.cons_append,lf,h0,h1]
  split <;> omega
def cp:List Int->Int
 | []=>0
 | z::r=>(if z=1 then 1 else 0) + cp r
def ct:List Int->Int
 | []=>0
 | z::r=>(if z=-1 then 1 else 0) + ct r
theorem Ql1:∀ xs ys,cp (xs++ys)=cp xs + cp ys
 | [],ys=>by simp [cp]
 | x::r,ys=>by simp only [List.cons_append,cp,Ql1 r ys];lia
theorem QlX:∀ xs ys,ct (xs++ys)=ct xs + ct ys
 | [],ys=>by simp [ct]
 | x::r,ys=>by simp only [List.cons_append,ct,QlX r ys];lia
theorem Qil:∀ zs,lf zs=cp zs - (ct zs - lk zs)
 | []=>by simp [lf,cp,ct,lk]
 | z::r=>by
  have h:=Qil r
  have g:=Qcv r
  simp only [lf,cp,ct,lk]
  by_cases h1:z=1
  ·subst h1;simp;lia
  ·by_cases h2:z=-1
   ·subst h2;simp;lia
   ·simp [h1,h2];lia
def zOf:D->Int
 | .tup (.str w::_)=>if w = "put" then 1 else if w = "take" then -1 else 0
 | _=>0
def zs (l:List (Nat×D)):List Int:=l.map fun p=>zOf p.2
theorem Qi8 (xs ys:List (Nat×D)):zs (xs++ys)=zs xs++zs ys:=List.map_append ..
def OkR (d:D):Prop:=∃ z,Dk d z
theorem OkR.im {d:D} (h:OkR d):imm d=true:=by
 obtain ⟨z,h⟩:=h
 cases h <;> rfl
theorem OkR.sl {d:D} (h:OkR d):Self 6 d:=by
 obtain ⟨z,h⟩:=h
 cases h <;> first | exact Qmz _ | exact QlC _ _
theorem Qhp {xs ys:List (Nat×D)} (h:decide (lk (zs (xs++ys))=0)=true):decide (lk (zs xs)=0)=true:=by
 rw [Qi8,QcD] at h
 have:=Qcv (zs xs)
 simp only [decide_eq_true_eq] at h ⊢
 lia
def kPile:Kd where
 C:="Pile"
 en xs:=.tup [.int (lk (zs xs)),.int (lf (zs xs))]
 Okd:=OkR
 N:=63
 lonM:=QaD
 jonM:=Qab
 notM:=QS
 fitM:=Qaw
 okr xs:=decide (lk (zs xs)=0)
 tl:=(Qg rfl).trans ((Qg rfl).trans QD)
 tj:=(Qg rfl).trans ((Qg rfl).trans QD)
 tn:=(Qg rfl).trans ((Qg rfl).trans QD)
 tf:=(Qg rfl).trans ((Qg rfl).trans QD)
 lon a d h:=by
  obtain ⟨z,h⟩:=h
  cases h <;> simp?! [QaD,Qb9,Qa6,Qcj,Qb2,QcY,zs,zOf,lk,lf]
 jon {xs ys} _:=by
  rw [Qi8,QcD,QfK]
  simp?! [Qab,QbO,Q7,QaK]
 nt:=by simp?! [QS,Qbh,zs,lk,lf]
 ft {xs} _:=by simp?! [Qaw,Qcd]
 mono:=Qhp
 ok0:=rfl
 ime _:=rfl
 imd:=OkR.im
 slf _:=Qn6 _ _
 sld:=OkR.sl
def kLine:Kd where
 C:="Line"
 en xs:=.tup [.int (lk (zs xs)),.int (cp (zs xs)),.int (ct (zs xs))]
 Okd:=OkR
 N:=63
 lonM:=QaH
 jonM:=Qaa
 notM:=QR
 fitM:=QaA
 okr xs:=decide (lk (zs xs)=0)
 tl:=(Qg rfl).trans ((Qg rfl).trans ((Qg rfl).trans QD))
 tj:=(Qg rfl).trans ((Qg rfl).trans ((Qg rfl).trans QD))
 tn:=(Qg rfl).trans ((Qg rfl).trans ((Qg rfl).trans QD))
 tf:=(Qg rfl).trans ((Qg rfl).trans ((Qg rfl).trans QD))
 lon a d h:=by
  obtain ⟨z,h⟩:=h
  cases h <;> simp?! [QaH,Qca,Qa6,Qcj,Qb2,QcY,zs,zOf,lk,cp,ct]
 jon {xs ys} _:=by
  rw [Qi8,QcD,Ql1,QlX,Qil]
  simp?! [Qaa,QbK,Q7,QaK,Qeg,Qem,Qek,Qd9]
 nt:=by simp?! [QR,Qbj,zs,lk,cp,ct]
 ft {xs} _:=by simp?! [QaA,Qcn]
 mono:=Qhp
 ok0:=rfl
 ime _:=rfl
 imd:=OkR.im
 slf _:=QkC _ _ _
 sld:=OkR.sl
namespace Bgk
abbrev Pt:=Int×Int
abbrev le (a b:Pt):Prop:=Tim.plt b a=false
abbrev Srt (r:List Pt):Prop:=Tim.SB Tim.plt r
theorem QiO {a b c:Pt} (h1:le a b) (h2:le b c):le a c:=Tim.plt_ord.neg h2 h1
theorem le_or {a b:Pt} (h:¬ le a b):le b a:=by
 have h':Tim.plt b a=true:=by simpa using h
 cases e:Tim.plt a b with
 | false=>exact e
 | true=>have:=Tim.plt_ord.tr h' e;rw [Tim.plt_ord.irr] at this;cases this
theorem ps_perm (r:List Pt):(Qr r).Perm r:=Tim.srt_perm _ r
theorem Qd6 (r:List Pt):Srt (Qr r):=Tim.srt_sorted Tim.plt_ord r
theorem QbL (r:List Pt):(Qr r).length=r.length:=(ps_perm r).length_eq
theorem Qha {r q:List Pt} (h:r.Perm q) (hr:Srt r):Qr q=r:=(Tim.srt_uniq Tim.plt_ord Tim.plt_tot h hr).symm
theorem QcZ {r:List Pt} (hr:Srt r):Qr r=r:=Qha (.refl _) hr
theorem QbU {r q:List Pt} (h:r.Perm q):Qr r=Qr q:=Qha ((ps_perm q).trans h.symm) (Qd6 q)
theorem QeU {r a b:List Pt} (h:r.Perm (a++b)) (hl:∀ x∈a,∀ y∈b,le x y):Qr r=Qr a++Qr b:=by
 refine Qha (((ps_perm a).append (ps_perm b)).trans h.symm) (List.pairwise_append.mpr ⟨Qd6 a,Qd6 b,fun x hx y hy=>?_⟩)
 exact hl x ((ps_perm a).mem_iff.mp hx) y ((ps_perm b).mem_iff.mp hy)
structure Bg where
 lack:Nat
 gone:List Pt
 left:List Pt
def Bg.nil:Bg:=⟨0,[],[]⟩
inductive Op
 | put (p:Pt) | take | oth
def Bg.step (b:Bg):Op->Bg
 | .put p=>⟨b.lack,b.gone,Qr (b.left++[p])⟩
 | .take=>match b.left with
  | []=>⟨b.lack + 1,b.gone,[]⟩
  | p::r=>⟨b.lack,Qr (b.gone++[p]),r⟩
 | .oth=>b
def Bg.join (a b:Bg):Bg :=
 ⟨a.lack + (b.lack - a.left.length),Qr (a.gone++(Qr (a.left++b.gone)).take (b.gone.length + min a.left.length b.lack)),Qr (b.left++(Qr (a.left++b.gone)).drop (b.gone.length + min a.left.length b.lack))⟩
structure Bg.Ok (b:Bg):Prop where
 gone:Srt b.gone
 left:Srt b.left
theorem Bg.nil_ok:Bg.nil.Ok:=⟨.nil,.nil⟩
theorem Bg.Ok.step {b:Bg} (h:b.Ok):∀ o,(b.step o).Ok
 | .put p=>⟨h.gone,Qd6 _⟩
 | .take=>by
  obtain ⟨l,g,f⟩:=b
  cases f with
  | nil=>exact ⟨h.gone,.nil⟩
  | cons p r=>exact ⟨Qd6 _,(List.pairwise_cons.mp h.left).2⟩
 | .oth=>h
theorem Bg.join_nil {a:Bg} (h:a.Ok):a.join Bg.nil=a:=by
 obtain ⟨l,g,f⟩:=a
 simp [Bg.join,Bg.nil,QcZ h.gone,QcZ h.left]
theorem Qlq {r:List Pt} (h:Srt r) (m:Nat):∀ x∈r.take m,∀ y∈r.drop m,le x y:=by
 have h':Srt (r.take m++r.drop m):=by rw [List.take_append_drop];exact h
 exact (List.pairwise_append.mp h').2.2
theorem Bg.join_step (a:Bg) {b:Bg} (hb:b.Ok):∀ o,a.join (b.step o)=(a.join b).step o
 | .put p=>by
  simp only [Bg.join,Bg.step,Bg.mk.injEq,true_and]
  refine QbU (((ps_perm (b.left++[p])).append_right _).trans ?_)
  refine List.Perm.trans ?_ ((ps_perm _).symm.append_right [p])
  rw [List.append_assoc,List.append_assoc]
  exact (List.perm_append_comm).append_left _
 | .oth=>rfl
 | .take=>by
  obtain ⟨l,g,f⟩:=b
  obtain ⟨al,ag,af⟩:=a
  have hF:=Qd6 (af++g)
  have hn:(Qr (af++g)).length=af.length + g.length:=by rw [QbL,List.length_append]
  cases f with
  | nil =>
   simp only [Bg.join,Bg.step,List.nil_append]
   by_cases c:af.length<=l
   ·have e1:min af.length (l + 1)=af.length:=by lia
    have e2:min af.length l=af.length:=by lia
    rw [e1,e2]
    have e3:(Qr (af++g)).drop (g.length + af.length)=[]:=List.drop_eq_nil_of_le (by lia)
    rw [e3]
    simp only [Bg.mk.injEq,show Qr ([]:List Pt)=[] from rfl,and_self,and_true]
    lia
   ·have e1:min af.length (l + 1)=l + 1:=by lia
    have e2:min af.length l=l:=by lia
    rw [e1,e2]
    have hm:g.length + l < (Qr (af++g)).length:=by lia
    generalize Qr (af++g)=F at hF hm
    have e3:=List.drop_eq_getElem_cons hm
    have hs:Srt (F.drop (g.length + l)):=hF.sublist (List.drop_sublist _ _)
    have hs':Srt (F.drop (g.length + l + 1)):=hF.sublist (List.drop_sublist _ _)
    rw [QcZ hs,e3]
    simp only [Bg.mk.injEq]
    refine ⟨by lia,QbU ?_,QcZ hs'⟩
    have e4:F.take (g.length + (l + 1))=F.take (g.length + l)++[F[g.length + l]]:=List.take_succ_eq_append_getElem hm
    rw [e4,← List.append_assoc]
    exact (ps_perm _).symm.append_right _
  | cons p r =>
   have hp:=List.pairwise_cons.mp hb.left
   simp only [Bg.join,Bg.step]
   have eL:(Qr (g++[p])).length=g.length + 1:=by rw [QbL,List.length_append];rfl
   have eF:Qr (af++Qr (g++[p]))=Qr (p::Qr (af++g)):=QbU (by
    refine ((ps_perm (g++[p])).append_left af).trans ?_
    rw [← List.append_assoc]
    exact List.perm_append_comm.trans ((ps_perm (af++g)).symm.cons p))
   have eM:(Qr (g++[p])).length + min af.length l=(g.length + min af.length l) + 1:=by lia
   rw [eF,eM]
   generalize hmm:g.length + min af.length l=m
   have hm:m<=(Qr (af++g)).length:=by lia
   generalize Qr (af++g)=F at hF hm
   have spl:=Qlq hF m
   have len:=List.length_take_of_le hm
   cases ed:F.drop m with
   | nil =>
    rw [ed] at spl
    have eT:F.take m=F:=List.take_of_length_le (List.drop_eq_nil_iff.mp ed)
    have e1:(Qr (p::F)).drop (m + 1)=[]:=List.drop_eq_nil_of_le (by rw [QbL,List.length_cons];have:=congrArg List.length eT;lia)
    have e2:(Qr (p::F)).take (m + 1)=Qr (p::F):=List.take_of_length_le (by rw [QbL,List.length_cons];have:=congrArg List.length eT;lia)
    rw [e1,e2,List.append_nil,List.append_nil,QcZ hb.left,QcZ hp.2,eT]
    simp only [Bg.mk.injEq,true_and,and_true]
    refine QbU (((ps_perm (p::F)).append_left ag).trans ?_)
    exact ((List.perm_append_comm (l₁:=[p]) (l₂:=F)).append_left ag).trans (by rw [← List.append_assoc];exact ((ps_perm (ag++F)).symm.append_right [p]))
   | cons y ys =>
    rw [ed] at spl
    have hd:Srt (y::ys):=by rw [← ed];exact hF.sublist (List.drop_sublist _ _)
    have hy:=List.pairwise_cons.mp hd
    have pF:F.Perm (F.take m++y::ys):=by rw [← ed,List.take_append_drop]
    by_cases c:le p y
    ·have e:Qr (p::F)=Qr (p::F.take m)++Qr (y::ys):=QeU (pF.cons p) (fun x hx z hz=>by
      have hyz:le y z:=by
       rcases List.mem_cons.mp hz with rfl | hz
       ·exact Tim.plt_ord.irr _
       ·exact hy.1 z hz
      rcases List.mem_cons.mp hx with rfl | hx
      ·exact QiO c hyz
      ·exact spl x hx z hz)
     have el:(Qr (p::F.take m)).length=m + 1:=by rw [QbL,List.length_cons,len]
     rw [e,← el,List.take_left,List.drop_left]
     have e2:Qr ((p::r)++y::ys)=Qr [p]++Qr (r++y::ys):=QeU (.refl _) (fun x hx z hz=>by
      rw [List.mem_singleton.mp hx]
      rcases List.mem_append.mp hz with hz | hz
      ·exact hp.1 z hz
      ·rcases List.mem_cons.mp hz with rfl | hz
       ·exact c
       ·exact QiO c (hy.1 z hz))
     rw [e2,show Qr [p]=[p] from rfl,List.singleton_append]
     simp only [Bg.mk.injEq,true_and]
     refine ⟨QbU ?_,QbU ((ps_perm _).append_left r)⟩
     refine ((ps_perm _).append_left ag).trans ?_
     refine List.Perm.trans ?_ ((ps_perm _).symm.append_right [p])
     rw [List.append_assoc]
     exact (List.perm_append_comm (l₁:=[p])).append_left ag
    ·have c':=le_or c
     have e:Qr (p::F)=Qr (F.take m++[y])++Qr (p::ys):=QeU ((pF.cons p).trans (by
      rw [List.append_assoc]
      exact (List.perm_middle (a:=p) (l₁:=F.take m) (l₂:=y::ys)).symm.trans ((List.Perm.swap y p ys).append_left _))) (fun x hx z hz=>by
      have hxy:le x y:=by
       rcases List.mem_append.mp hx with hx | hx
       ·exact spl x hx y (List.mem_cons_self ..)
       ·rw [List.mem_singleton.mp hx];exact Tim.plt_ord.irr _
      rcases List.mem_cons.mp hz with rfl | hz
      ·exact QiO hxy c'
      ·exact QiO hxy (hy.1 z hz))
     have el:(Qr (F.take m++[y])).length=m + 1:=by rw [QbL,List.length_append,len];rfl
     rw [e,← el,List.take_left,List.drop_left]
     have e2:Qr ((p::r)++y::ys)=Qr [y]++Qr (p::r++ys):=QeU List.perm_middle (fun x hx z hz=>by
      rw [List.mem_singleton.mp hx]
      rcases List.mem_append.mp hz with hz | hz
      ·rcases List.mem_cons.mp hz with rfl | hz
       ·exact c'
       ·exact QiO c' (hp.1 z hz)
      ·exact hy.1 z hz)
     rw [e2,show Qr [y]=[y] from rfl,List.singleton_append]
     simp only [Bg.mk.injEq,true_and]
     refine ⟨QbU ?_,QbU ?_⟩
     ·refine ((ps_perm _).append_left ag).trans ?_
      rw [← List.append_assoc]
      exact (ps_perm _).symm.append_right [y]
     ·refine ((ps_perm _).append_left r).trans ?_
      exact List.perm_middle.trans (.refl _)
def run (os:List Op):Bg:=os.foldl Bg.step Bg.nil
theorem Qkd:∀ (os:List Op) {b:Bg},b.Ok->(os.foldl Bg.step b).Ok
 | [],_,h=>h
 | o::os,_,h=>Qkd os (h.step o)
theorem Qgi {a:Bg}:∀ (os:List Op) {b:Bg},b.Ok->a.join (os.foldl Bg.step b)=os.foldl Bg.step (a.join b)
 | [],_,_=>rfl
 | o::os,b,h=>by
  rw [List.foldl_cons,List.foldl_cons,Qgi os (h.step o),Bg.join_step a h]
theorem Qmc (os ps:List Op):(run os).join (run ps)=run (os++ps):=by
 rw [run,run,run,Qgi ps Bg.nil_ok,Bg.join_nil (Qkd os Bg.nil_ok),List.foldl_append]
theorem Qh9:∀ (os:List Op) (b:Bg),(os.foldl Bg.step b).gone.length + (os.foldl Bg.step b).left.length<=b.gone.length + b.left.length + os.length/\(os.foldl Bg.step b).lack<=b.lack + os.length
 | [],b=>by simp
 | o::os,b=>by
  have h:=Qh9 os (b.step o)
  have h2:(b.step o).gone.length + (b.step o).left.length<=b.gone.length + b.left.length + 1/\(b.step o).lack<=b.lack + 1:=by
   obtain ⟨l,g,f⟩:=b
   cases o with
   | put p=>simp only [Bg.step,QbL,List.length_append,List.length_singleton];lia
   | take=>cases f <;> simp only [Bg.step,QbL,List.length_append,List.length_singleton,List.length_cons,List.length_nil] <;> lia
   | oth=>simp only [Bg.step];lia
  rw [List.foldl_cons,List.length_cons]
  lia
theorem QhA (os:List Op):(run os).gone.length + (run os).left.length<=os.length/\(run os).lack<=os.length:=by
 have:=Qh9 os Bg.nil
 simpa [run,Bg.nil] using this
def encB (b:Bg):D:=.tup [.int (b.lack:Nat),.tup (b.gone.map Qi),.tup (b.left.map Qi)]
def Bg.few (b:Bg) (n:Nat):Prop:=b.gone.length + b.left.length<=n
theorem QjW {os:List Op} {n:Nat} (h:os.length<=n):(run os).few n:=Nat.le_trans (QhA os).1 h
theorem Qnp {xs ys:List Pt} (h:xs.length + ys.length < 1000):Qib (.tup (xs.map Qi)) (.tup (ys.map Qi))=.ok (.tup ((xs++ys).map Qi)):=by
 have hs:xs.length + ys.length<=sizeLine:=Nat.le_of_lt (QV (Nat.le_of_lt h))
 simp only [Qib,List.length_map,hs,if_true,List.map_append]
theorem Qj7 {xs ys:List Pt} (h:xs.length + ys.length < 1000):gCat (.lst (xs.map Qi)) (.lst (ys.map Qi))=.ok (.lst ((xs++ys).map Qi)):=by
 have hs:xs.length + ys.length<=sizeLine:=Nat.le_of_lt (QV (Nat.le_of_lt h))
 simp only [gCat,List.length_map,hs,if_true,List.map_append]
theorem Qne (a b c:Nat):Q7 [.int a,.int b,.int c]=.ok (.int ((a + (c - b):Nat):Int)):=by
 simp?! [Q7,QaK]
 lia
theorem Qlh {a b:Bg} (ha:a.few 63) (hb:b.few 63) (h1:a.left.length + b.gone.length < 64) (h2:a.gone.length + (b.gone.length + min a.left.length b.lack) < 64) (h3:b.left.length + (a.left.length + b.gone.length) < 64):QX [.obj "Bag",encB a,encB b]=.ok (encB (a.join b)):=by
 obtain ⟨al,ag,af⟩:=a
 obtain ⟨bl,bg,bf⟩:=b
 simp only [Bg.few] at ha hb h1 h2 h3
 have e1:=Qnp (xs:=af) (ys:=bg) (by lia)
 have e2:=QjI (ps:=af++bg) (by rw [List.length_append];lia)
 have em:(bg.length:Int) + min (af.length:Int) (bl:Int)=((bg.length + min af.length bl:Nat):Int):=by lia
 have hm:bg.length + min af.length bl<=(Qr (af++bg)).length:=by rw [QbL,List.length_append];lia
 have hm':bg.length + min af.length bl<=((Qr (af++bg)).map Qi).length:=by rw [List.length_map];exact hm
 have e3:=Qmh ((Qr (af++bg)).map Qi) _ hm'
 have e4:=QlP ((Qr (af++bg)).map Qi) _ hm'
 rw [← List.map_take] at e3
 rw [← List.map_drop] at e4
 have l3:((Qr (af++bg)).take (bg.length + min af.length bl)).length=bg.length + min af.length bl:=List.length_take_of_le hm
 have l4:((Qr (af++bg)).drop (bg.length + min af.length bl)).length<=af.length + bg.length:=by rw [List.length_drop,QbL,List.length_append];lia
 have e5:=Qj7 (xs:=ag) (ys:=(Qr (af++bg)).take (bg.length + min af.length bl)) (by lia)
 have e6:=Qj7 (xs:=bf) (ys:=(Qr (af++bg)).drop (bg.length + min af.length bl)) (by lia)
 have e7:=Qdg (ps:=ag++(Qr (af++bg)).take (bg.length + min af.length bl)) (by rw [List.length_append];lia)
 have e8:=Qdg (ps:=bf++(Qr (af++bg)).drop (bg.length + min af.length bl)) (by rw [List.length_append];lia)
 have e9:=Qne al af.length bl
 generalize hM:bg.length + min af.length bl=M at *
 generalize hF:Qr (af++bg)=F at *
 simp? [QX,Qb0,encB,e1,e2,em,fSl,QjV,e3,e4,e5,e6,e7,e8,e9,Qea,Bg.join,hM,hF,-List.map_append,-List.map_take,-List.map_drop]
theorem join_eq {os ps:List Op} (h:os.length + ps.length < 64):QX [.obj "Bag",encB (run os),encB (run ps)]=.ok (encB (run (os++ps))):=by
 rw [← Qmc]
 have h1:=QhA os
 have h2:=QhA ps
 exact Qlh (QjW (by lia)) (QjW (by lia)) (by lia) (by lia) (by lia)
theorem nothing_eq:QP [.obj "Bag"]=.ok (encB (run [])):=by
 simp?! [QP,QbG,encB,run,Bg.nil]
def opOf (a:Nat):D->Op
 | .tup [.str w,.int x]=>if w = "put" then .put (x,(a:Int)) else .oth
 | .tup [.str w]=>if w = "take" then .take else .oth
 | _=>.oth
def opsL (l:List (Nat×D)):List Op:=l.map fun p=>opOf p.1 p.2
theorem QcO (a b:List (Nat×D)):opsL (a++b)=opsL a++opsL b:=List.map_append ..
theorem QcM (a:List (Nat×D)):(opsL a).length=a.length:=List.length_map _
theorem Qgu:∀ (xs:List (Nat×D)),(∀ p∈xs,OkR p.2)->∀ b:Bg,(((opsL xs).foldl Bg.step b).lack:Int)=b.lack + max 0 (lk (zs xs) - b.left.length)/\(((opsL xs).foldl Bg.step b).left.length:Int)=lf (zs xs) + max 0 (b.left.length - lk (zs xs))
 | [],_,b=>by simp [opsL,zs,lk,lf];omega
 | (a,d)::xs,h,b=>by
  have ih:=Qgu xs (fun p hp=>h p (List.mem_cons_of_mem _ hp))
  obtain ⟨z,hz⟩:=h (a,d) List.mem_cons_self
  have g1:=Qcv (zs xs)
  have g2:=Qet (zs xs)
  have e0:zs ((a,d)::xs)=zOf d::zs xs:=rfl
  have e1:opsL ((a,d)::xs)=opOf a d::opsL xs:=rfl
  rw [e0,e1,List.foldl_cons]
  cases hz with
  | put x =>
   have eo:opOf a (.tup [.str "put",.int x])=.put (x,(a:Int)):=by simp [opOf]
   have ez:zOf (.tup [.str "put",.int x])=1:=rfl
   rw [eo,ez]
   obtain ⟨i1,i2⟩:=ih (b.step (.put (x,(a:Int))))
   have hl:(b.step (.put (x,(a:Int)))).left.length=b.left.length + 1:=by simp [Bg.step,QbL]
   have hk:(b.step (.put (x,(a:Int)))).lack=b.lack:=rfl
   rw [i1,i2,hl,hk]
   simp only [lk,lf,if_true]
   omega
  | take =>
   have eo:opOf a (.tup [.str "take"])=.take:=by simp [opOf]
   have ez:zOf (.tup [.str "take"])=-1:=rfl
   rw [eo,ez]
   obtain ⟨i1,i2⟩:=ih (b.step .take)
   have n1:¬ (-1:Int)=1:=by decide
   simp only [lk,lf,if_neg n1,if_true]
   cases hb:b.left with
   | nil =>
    have hl:(b.step .take).left.length=0:=by simp [Bg.step,hb]
    have hk:(b.step .take).lack=b.lack + 1:=by simp [Bg.step,hb]
    rw [i1,i2,hl,hk]
    simp only [List.length_nil]
    omega
   | cons p r =>
    have hl:(b.step .take).left.length=r.length:=by simp [Bg.step,hb]
    have hk:(b.step .take).lack=b.lack:=by simp [Bg.step,hb]
    rw [i1,i2,hl,hk]
    simp only [List.length_cons]
    omega
  | many =>
   have eo:opOf a (.tup [.str "many"])=.oth:=by simp (decide:=true) [opOf]
   have ez:zOf (.tup [.str "many"])=0:=rfl
   rw [eo,ez]
   have hs:b.step .oth=b:=rfl
   rw [hs]
   obtain ⟨i1,i2⟩:=ih b
   rw [i1,i2]
   simp (decide:=true) only [lk,lf,if_false]
  | look x hx =>
   have eo:opOf a (.tup [.str "look",.int x])=.oth:=by simp (decide:=true) [opOf]
   have ez:zOf (.tup [.str "look",.int x])=0:=rfl
   rw [eo,ez]
   have hs:b.step .oth=b:=rfl
   rw [hs]
   obtain ⟨i1,i2⟩:=ih b
   rw [i1,i2]
   simp (decide:=true) only [lk,lf,if_false]
end Bgk
open Bgk in
theorem Qmd {xs:List (Nat×D)} (h:∀ p∈xs,OkR p.2):((Bgk.run (opsL xs)).lack:Int)=lk (zs xs):=by
 have:=(Qgu xs h Bg.nil).1
 have g:=Qcv (zs xs)
 have e1:Bg.nil.lack=0:=rfl
 have e2:Bg.nil.left.length=0:=rfl
 rw [e1,e2] at this
 show (((opsL xs).foldl Bg.step Bg.nil).lack:Int)=_
 lia
open Bgk in
def kBag:Kd where
 C:="Bag"
 en xs:=encB (Bgk.run (opsL xs))
 Okd:=OkR
 N:=63
 lonM:=Qaf
 jonM:=QX
 notM:=QP
 fitM:=QaU
 okr xs:=decide (lk (zs xs)=0)
 tl:=(Qg rfl).trans ((Qg rfl).trans ((Qg rfl).trans ((Qg rfl).trans QD)))
 tj:=(Qg rfl).trans ((Qg rfl).trans ((Qg rfl).trans ((Qg rfl).trans QD)))
 tn:=(Qg rfl).trans ((Qg rfl).trans ((Qg rfl).trans ((Qg rfl).trans QD)))
 tf:=(Qg rfl).trans ((Qg rfl).trans ((Qg rfl).trans ((Qg rfl).trans QD)))
 lon a d h:=by
  have e:=Bgk.nothing_eq
  have p1:∀ x:Int,Qr [((x,(a:Int)):Pt)]=[(x,(a:Int))]:=fun _=>rfl
  obtain ⟨z,h⟩:=h
  cases h with
  | put x=>simp?! [Qaf,QaV,opsL,opOf,encB,Bgk.run,Bg.step,Bg.nil,p1,Qi]
  | take=>simp?! [Qaf,QaV,opsL,opOf,encB,Bgk.run,Bg.step,Bg.nil]
  | many =>
   have:opOf a (.tup [.str "many"])=.oth:=by simp (decide:=true) [opOf]
   simp?! [Qaf,QaV,e,opsL,this];rfl
  | look x hx =>
   have:opOf a (.tup [.str "look",.int x])=.oth:=by simp (decide:=true) [opOf]
   simp?! [Qaf,QaV,e,opsL,this];rfl
 jon {xs ys} h:=by
  rw [QcO]
  exact Bgk.join_eq (by rw [QcM,QcM];lia)
 nt:=Bgk.nothing_eq
 ft {xs} h:=by
  have e:=Qmd h
  rw [← e]
  generalize Bgk.run (opsL xs)=b
  simp?! [QaU,QcP,encB]
 mono:=Qhp
 ok0:=rfl
 ime xs:=by
  have h:∀ r:List Pt,imms (r.map Qi)=true:=fun r=>by
   induction r with
   | nil=>rfl
   | cons p r ih=>simp [imms,imm,Qi,ih]
  simp [encB,imm,imms,h]
 imd:=OkR.im
 slf xs:=by
  have hp:∀ r:List Pt,Self 5 (.tup (r.map Qi)):=fun r=>Self.tup fun x hx=>by
   obtain ⟨p,_,rfl⟩:=List.mem_map.mp hx
   exact Self.tup fun y hy=>by
    simp only [List.mem_cons,List.not_mem_nil,or_false] at hy
    rcases hy with rfl | rfl <;> exact (Self.int _).mono (by lia)
  refine Self.tup fun d hd=>?_
  simp only [List.mem_cons,List.not_mem_nil,or_false] at hd
  rcases hd with rfl | rfl | rfl
  ·exact (Self.int _).mono (by lia)
  ·exact hp _
  ·exact hp _
 sld:=OkR.sl
namespace Nmk
abbrev Ls:=Option (Int×Int)
abbrev En:=Str×Bool×Ls
def gt:List En->Str->Option (Bool×Ls)
 | [],_=>none
 | e::es,x=>if e.1=x then some e.2 else gt es x
def pt:List En->Str->Bool×Ls->List En
 | [],x,y=>[(x,y)]
 | e::es,x,y=>if e.1=x then (x,y)::es else e::pt es x y
def Nd (es:List En):Prop:=(es.map (·.1)).Nodup
theorem QfI (es:List En) (x z:Str) (y:Bool×Ls):gt (pt es x y) z=if x=z then some y else gt es z:=by
 induction es with
 | nil=>simp [pt,gt]
 | cons e es ih =>
  by_cases h:e.1=x
  ·by_cases hz:x=z
   ·simp [pt,gt,h,hz]
   ·simp [pt,gt,h,hz]
  ·by_cases hz:e.1=z
   ·have:¬ x=z:=fun q=>h (by rw [hz,q])
    simp only [pt,gt,if_neg h,if_pos hz,if_neg this]
   ·simp [pt,gt,h,hz,ih]
theorem gt_no {es:List En} {x:Str}:gt es x=none ↔ x ∉ es.map (·.1):=by
 induction es with
 | nil=>simp [gt]
 | cons e es ih =>
  by_cases h:e.1=x
  ·simp [gt,h]
  ·simp only [gt,if_neg h,ih,List.map_cons,List.mem_cons,not_or]
   exact ⟨fun q=>⟨fun z=>h z.symm,q⟩,fun q=>q.2⟩
theorem QjN (es:List En) (x:Str) (y:Bool×Ls):(pt es x y).map (·.1)=if (gt es x).isSome=true then es.map (·.1) else es.map (·.1)++[x]:=by
 induction es with
 | nil=>simp [pt,gt]
 | cons e es ih =>
  by_cases h:e.1=x
  ·simp [pt,gt,h]
  ·simp only [pt,gt,if_neg h,List.map_cons,ih]
   split <;> simp
theorem QfY {es:List En} (h:Nd es) (x:Str) (y:Bool×Ls):Nd (pt es x y):=by
 unfold Nd
 rw [QjN]
 split
 ·exact h
 ·rename_i q
  have:gt es x=none:=by
   cases e:gt es x with
   | none=>rfl
   | some z=>rw [e] at q;exact absurd rfl q
  have:=gt_no.mp this
  rw [List.nodup_append]
  exact ⟨h,by simp,fun a ha b hb=>by simp at hb;subst hb;exact fun q=>this (q ▸ ha)⟩
theorem Qhj (es:List En) (x:Str) (y:Bool×Ls):(pt es x y).length<=es.length + 1:=by
 induction es with
 | nil=>simp [pt]
 | cons e es ih =>
  by_cases h:e.1=x
  ·simp [pt,h]
  ·simp only [pt,if_neg h,List.length_cons];lia
def ov (o1 o2:Option (Bool×Ls)):Option (Bool×Ls):=match o2 with
 | none=>o1
 | some (b,l)=>some ((match o1 with | some y=>y.1 | none=>b),l)
def has (o:Option (Bool×Ls)):Bool:=match o with
 | some (_,some _)=>true
 | _=>false
abbrev Op:=Option (Str×Option Int)
def stp (R:Int×List En) (a:Int×Op):Int×List En:=match a.2 with
 | none=>R
 | some (x,some v)=>(R.1,pt R.2 x ((match gt R.2 x with | some y=>y.1 | none=>false),some (v,a.1)))
 | some (x,none)=>(R.1 + (if has (gt R.2 x)=true then 0 else 1),pt R.2 x ((match gt R.2 x with | some y=>y.1 | none=>true),none))
def jst (R:Int×List En) (e:En):Int×List En:=(R.1 - (if (e.2.1 && has (gt R.2 e.1))=true then 1 else 0),pt R.2 e.1 ((match gt R.2 e.1 with | some y=>y.1 | none=>e.2.1),e.2.2))
def cn (es1 es2:List En):Int:=((es2.filter fun e=>e.2.1 && has (gt es1 e.1)).length:Int)
def runs (as:List (Int×Op)):Int×List En:=as.foldl stp (0,[])
def jn (R:Int×List En) (es:List En):Int×List En:=es.foldl jst R
theorem Qoy (es1 es:List En) (x:Str) (b:Bool) (l:Ls) (h:∀ y,gt es x=some y->y.1=b):cn es1 (pt es x (b,l))=cn es1 es + if gt es x=none/\(b && has (gt es1 x))=true then 1 else 0:=by
 induction es with
 | nil =>
  cases hb:(b && has (gt es1 x)) <;> simp [cn,pt,gt,hb]
 | cons e es ih =>
  by_cases he:e.1=x
  ·have:=h e.2 (by simp [gt,he])
   subst this
   subst he
   simp only [pt,gt,if_true,cn]
   cases hb:(e.2.1 && has (gt es1 e.1)) <;> simp [hb]
  ·have ih:=ih fun y hy=>h y (by simpa [gt,he] using hy)
   simp only [pt,gt,if_neg he]
   simp only [cn] at ih ⊢
   cases hb:(e.2.1 && has (gt es1 e.1)) <;> simp only [List.filter_cons,hb,if_true,List.length_cons,Bool.false_eq_true,if_false] <;> lia
def Over (l1:Int) (es1:List En) (W B:Int×List En):Prop:=(∀ x,gt W.2 x=ov (gt es1 x) (gt B.2 x))/\W.1=l1 + B.1 - cn es1 B.2/\Nd W.2/\Nd B.2
theorem Qml {l1:Int} {es1:List En} {W B:Int×List En} (h:Over l1 es1 W B) (a:Int×Op):Over l1 es1 (stp W a) (stp B a):=by
 obtain ⟨h1,h2,h3,h4⟩:=h
 obtain ⟨t,o⟩:=a
 match o with
 | none=>exact ⟨h1,h2,h3,h4⟩
 | some (x,some v) =>
  refine ⟨fun z=>?_,?_,QfY h3 _ _,QfY h4 _ _⟩
  ·simp only [stp,QfI]
   by_cases hz:x=z
   ·subst hz
    simp only [if_true,h1]
    cases e2:gt B.2 x with
    | none=>cases e1:gt es1 x <;> simp [ov]
    | some y=>simp [ov]
   ·simp only [if_neg hz];exact h1 z
  ·have:=Qoy es1 B.2 x (match gt B.2 x with | some y=>y.1 | none=>false) (some (v,t)) fun y hy=>by rw [hy]
   simp only [stp]
   rw [this,h2]
   cases e2:gt B.2 x <;> simp
 | some (x,none) =>
  refine ⟨fun z=>?_,?_,QfY h3 _ _,QfY h4 _ _⟩
  ·simp only [stp,QfI]
   by_cases hz:x=z
   ·subst hz
    simp only [if_true,h1]
    cases e2:gt B.2 x with
    | none=>cases e1:gt es1 x <;> simp [ov]
    | some y=>simp [ov]
   ·simp only [if_neg hz];exact h1 z
  ·have:=Qoy es1 B.2 x (match gt B.2 x with | some y=>y.1 | none=>true) none fun y hy=>by rw [hy]
   simp only [stp]
   rw [this,h2,h1]
   cases e2:gt B.2 x with
   | none =>
    have q:has (none:Option (Bool×Ls))=false:=rfl
    cases e1:has (gt es1 x) <;> simp [ov,e1,q] <;> lia
   | some y =>
    have q:has (ov (gt es1 x) (some y))=has (some y):=by
     obtain ⟨b,l⟩:=y
     cases l <;> rfl
    rw [q]
    cases has (some y) <;> simp <;> lia
theorem QdP {l1:Int} {es1:List En}:∀ (as:List (Int×Op)) {W B:Int×List En},Over l1 es1 W B->Over l1 es1 (as.foldl stp W) (as.foldl stp B)
 | [],_,_,h=>h
 | a::as,_,_,h=>QdP as (Qml h a)
theorem QpX {es:List En} (h:Nd es) {e:En} (he:e∈es):gt es e.1=some e.2:=by
 induction es with
 | nil=>cases he
 | cons e' es ih =>
  obtain ⟨n1,n2⟩:=List.nodup_cons.mp h
  rcases List.mem_cons.mp he with rfl | he
  ·simp [gt]
  ·have:¬ e'.1=e.1:=fun q=>n1 (List.mem_map.mpr ⟨e,he,q.symm⟩)
   simp only [gt,if_neg this]
   exact ih n2 he
theorem QkA {es1 es1' es2:List En} (h:∀ e∈es2,gt es1 e.1=gt es1' e.1):cn es1 es2=cn es1' es2:=by
 unfold cn
 rw [List.filter_congr fun e he=>by rw [h e he]]
theorem QjP:∀ (es2:List En) (lk:Int) (es1:List En),Nd es1->Nd es2->(∀ x,gt (jn (lk,es1) es2).2 x=ov (gt es1 x) (gt es2 x))/\(jn (lk,es1) es2).1=lk - cn es1 es2/\Nd (jn (lk,es1) es2).2
 | [],lk,es1,h1,_=>⟨fun x=>rfl,by simp [jn,cn],h1⟩
 | e::es2,lk,es1,h1,h2=>by
  obtain ⟨n1,n2⟩:=List.nodup_cons.mp h2
  have hno:gt es2 e.1=none:=gt_no.mpr n1
  obtain ⟨i1,i2,i3⟩:=QjP es2 (jst (lk,es1) e).1 (jst (lk,es1) e).2 (QfY h1 _ _) n2
  refine ⟨fun x=>?_,?_,i3⟩
  ·refine (i1 x).trans ?_
   simp only [jst,QfI,gt]
   by_cases hx:e.1=x
   ·subst hx
    simp [hno,ov]
   ·simp [hx]
  ·refine i2.trans ?_
   have e1:cn (jst (lk,es1) e).2 es2=cn es1 es2:=QkA fun e' he'=>by
    have:¬ e.1=e'.1:=fun q=>n1 (List.mem_map.mpr ⟨e',he',q.symm⟩)
    simp only [jst,QfI,if_neg this]
   rw [e1]
   simp only [jst,cn]
   cases hb:(e.2.1 && has (gt es1 e.1)) <;> simp [hb] <;> lia
def eLt (a b:En):Bool:=Tim.slt a.1 b.1
abbrev es_ (es:List En):List En:=Tim.srt eLt es
theorem Qd4 {es:List En} (h:Nd es):Nd (es_ es):=((Tim.srt_perm eLt es).map fun e:En=>e.1).nodup_iff.mpr h
theorem eOrd:Tim.Ord eLt:=⟨fun a=>Tim.slt_ord.irr _,fun h1 h2=>Tim.slt_ord.tr h1 h2,fun h1 h2=>Tim.slt_ord.neg h1 h2⟩
theorem QoM {es fs:List En} (h1:Nd es) (h2:Nd fs) (h:∀ e,e∈es ↔ e∈fs) (x:Str):gt es x=gt fs x:=by
 cases e1:gt es x with
 | none =>
  have n1:=gt_no.mp e1
  refine (gt_no.mpr fun q=>n1 ?_).symm
  obtain ⟨e,he,rfl⟩:=List.mem_map.mp q
  exact List.mem_map_of_mem ((h e).mpr he)
 | some y =>
  have:∀ {es:List En},gt es x=some y->(x,y)∈es:=fun {es}=>by
   induction es with
   | nil=>intro q;cases q
   | cons e es ih =>
    intro q
    by_cases he:e.1=x
    ·simp only [gt,if_pos he,Option.some.injEq] at q
     subst q;subst he
     exact List.mem_cons_self
    ·simp only [gt,if_neg he] at q
     exact List.mem_cons_of_mem _ (ih q)
  exact (QpX h2 ((h _).mp (this e1))).symm
theorem QfW {es:List En} (h:Nd es) (x:Str):gt (es_ es) x=gt es x:=QoM (Qd4 h) h (fun e=>(Tim.srt_perm eLt es).mem_iff) x
theorem QoN (es1 es2:List En):cn es1 (es_ es2)=cn es1 es2:=by
 unfold cn
 rw [((Tim.srt_perm eLt es2).filter _).length_eq]
theorem strict:∀ {es:List En},Nd es->Tim.SB eLt es->es.Pairwise fun a b=>Tim.slt a.1 b.1=true
 | [],_,_=>.nil
 | e::es,h,hs=>by
  obtain ⟨n1,n2⟩:=List.nodup_cons.mp h
  obtain ⟨s1,s2⟩:=List.pairwise_cons.mp hs
  refine List.pairwise_cons.mpr ⟨fun b hb=>?_,strict n2 s2⟩
  have q:=s1 b hb
  cases e1:Tim.slt e.1 b.1 with
  | true=>rfl
  | false=>exact absurd (List.mem_map.mpr ⟨b,hb,(Tim.slt_tot e1 q).symm⟩) n1
theorem QiC:∀ {es fs:List En},(es.Pairwise fun a b=>Tim.slt a.1 b.1=true)->(fs.Pairwise fun a b=>Tim.slt a.1 b.1=true)->(∀ x,gt es x=gt fs x)->es=fs:=by
 have ap:∀ {e:En} {es:List En} {x:Str},(∀ b∈es,Tim.slt e.1 b.1=true)->(x=e.1\/Tim.slt x e.1=true)->gt es x=none:=fun {e es x} h q=>gt_no.mpr fun m=>by
  obtain ⟨b,hb,rfl⟩:=List.mem_map.mp m
  have h1:=h b hb
  rcases q with q | q
  ·rw [q,Tim.slt_ord.irr] at h1;cases h1
  ·have:=Tim.slt_ord.tr h1 q
   rw [Tim.slt_ord.irr] at this;cases this
 intro es
 induction es with
 | nil =>
  intro fs _ _ h
  cases fs with
  | nil=>rfl
  | cons f fs=>have:=h f.1;simp [gt] at this
 | cons e es ih =>
  intro fs h1 h2 h
  cases fs with
  | nil=>have:=h e.1;simp [gt] at this
  | cons f fs =>
   obtain ⟨a1,a2⟩:=List.pairwise_cons.mp h1
   obtain ⟨b1,b2⟩:=List.pairwise_cons.mp h2
   have hef:e.1=f.1:=by
    cases q1:Tim.slt e.1 f.1 with
    | true =>
     have:=h e.1
     have ne:¬ f.1=e.1:=fun z=>by rw [z,Tim.slt_ord.irr] at q1;cases q1
     simp only [gt,if_true,if_neg ne,ap b1 (.inr q1)] at this
     cases this
    | false =>
     cases q2:Tim.slt f.1 e.1 with
     | true =>
      have:=h f.1
      have ne:¬ e.1=f.1:=fun z=>by rw [z,Tim.slt_ord.irr] at q2;cases q2
      simp only [gt,if_true,if_neg ne,ap a1 (.inr q2)] at this
      cases this
     | false=>exact Tim.slt_tot q1 q2
   have h':=h e.1
   simp only [gt,if_true,if_pos hef.symm,Option.some.injEq] at h'
   have eef:e=f:=Prod.ext hef h'
   subst eef
   congr 1
   refine ih a2 b2 fun x=>?_
   by_cases hx:e.1=x
   ·rw [ap a1 (.inl hx.symm),ap b1 (.inl hx.symm)]
   ·have:=h x
    simpa only [gt,if_neg hx] using this
theorem Qh8 (as bs:List (Int×Op)):(jn ((runs as).1 + (runs bs).1,es_ (runs as).2) (es_ (runs bs).2)).1=(runs (as++bs)).1/\es_ (jn ((runs as).1 + (runs bs).1,es_ (runs as).2) (es_ (runs bs).2)).2=es_ (runs (as++bs)).2:=by
 have nA:Nd (runs as).2:=(QdP (l1:=0) (es1:=[]) as (W:=(0,[])) (B:=(0,[])) ⟨fun _=>rfl,rfl,.nil,.nil⟩).2.2.1
 obtain ⟨o1,o2,o3,o4⟩:=QdP (l1:=(runs as).1) (es1:=(runs as).2) bs (W:=runs as) (B:=(0,[])) ⟨fun _=>rfl,by simp [cn],nA,.nil⟩
 have eW:bs.foldl stp (runs as)=runs (as++bs):=by unfold runs;rw [List.foldl_append]
 rw [eW] at o1 o2 o3
 have eB:bs.foldl stp (0,[])=runs bs:=rfl
 rw [eB] at o1 o2 o4
 obtain ⟨j1,j2,j3⟩:=QjP (es_ (runs bs).2) ((runs as).1 + (runs bs).1) (es_ (runs as).2) (Qd4 nA) (Qd4 o4)
 refine ⟨?_,?_⟩
 ·rw [j2,o2,QoN,QkA fun e _=>QfW nA e.1]
 ·refine QiC (strict (Qd4 j3) (Tim.srt_sorted eOrd _)) (strict (Qd4 o3) (Tim.srt_sorted eOrd _)) fun x=>?_
  rw [QfW j3,QfW o3,j1,o1,QfW nA,QfW o4]
theorem QnY (as:List (Int×Op)):Nd (runs as).2:=(QdP (l1:=0) (es1:=[]) as (W:=(0,[])) (B:=(0,[])) ⟨fun _=>rfl,rfl,.nil,.nil⟩).2.2.1
theorem Qft:∀ (as:List (Int×Op)) (R:Int×List En),(as.foldl stp R).2.length<=R.2.length + as.length
 | [],R=>by simp
 | (t,o)::as,R=>by
  have ih:=Qft as (stp R (t,o))
  have h1:(stp R (t,o)).2.length<=R.2.length + 1:=by
   match o with
   | none=>simp [stp]
   | some (x,some v)=>exact Qhj _ _ _
   | some (x,none)=>exact Qhj _ _ _
  simp only [List.foldl_cons,List.length_cons]
  lia
def lD:Ls->D
 | none=>.non
 | some (v,t)=>.tup [.int v,.int t]
def eD (e:En):D:=.tup [.str e.1,.bl e.2.1,lD e.2.2]
def fL (e:En):D:=lD e.2.2
def kS (es:List En):List Key:=es.map fun e=>Sum.inr e.1
theorem QiZ (es:List En):(kS es).length=es.length:=List.length_map _
theorem QfN {x y:Str} (h:¬ x=y):¬ (Sum.inr x:Key)=Sum.inr y:=fun q=>h (Sum.inr.inj q)
theorem QeR (f:En->D) (x:Str):∀ es:List En,dGet (kS es) (es.map f) (.inr x)=(gt es x).map fun y=>f (x,y)
 | []=>rfl
 | e::es=>by
  have ih:=QeR f x es
  unfold kS at ih ⊢
  by_cases h:e.1=x
  ·subst h
   simp [dGet,gt]
  ·simp only [List.map_cons,dGet,gt,if_neg h,if_neg (QfN h),ih]
theorem Qjt (x:Str):∀ es:List En,((kS es).any fun k=>decide (k=Sum.inr x))=(gt es x).isSome
 | []=>rfl
 | e::es=>by
  have ih:=Qjt x es
  unfold kS at ih ⊢
  by_cases h:e.1=x
  ·subst h
   simp [gt]
  ·simp only [List.map_cons,List.any_cons,decide_eq_false (QfN h),Bool.false_or,gt,if_neg h,ih]
theorem Qj3 (x:Str) (y:Bool×Ls) (es:List En):QeD (kS es) (.inr x)=kS (pt es x y):=by
 have e:∀ es:List En,kS es=(es.map (·.1)).map Sum.inr:=fun es=>by rw [List.map_map];rfl
 unfold QeD
 rw [Qjt,e (pt es x y),QjN]
 split
 ·exact e es
 ·rw [List.map_append,← e];rfl
theorem Qkw (x:Str) (v:D) (f:En->D):∀ es:List En,gt es x=none->dSet (kS es) (es.map f) (.inr x) v=es.map f
 | [],_=>rfl
 | e::es,h=>by
  by_cases he:e.1=x
  ·simp [gt,he] at h
  ·simp only [gt,if_neg he] at h
   have ih:=Qkw x v f es h
   unfold kS at ih ⊢
   simp only [List.map_cons,dSet,if_neg (QfN he),ih]
theorem Qkm (f:En->D) (x:Str) (y:Bool×Ls):∀ es:List En,Nd es->(gt es x).isSome=true->dSet (kS es) (es.map f) (.inr x) (f (x,y))=(pt es x y).map f
 | [],_,h=>by cases h
 | e::es,hn,h=>by
  obtain ⟨n1,n2⟩:=List.nodup_cons.mp hn
  by_cases he:e.1=x
  ·subst he
   have:=Qkw e.1 (f (e.1,y)) f es (gt_no.mpr n1)
   unfold kS at this ⊢
   simp only [List.map_cons,dSet,if_true,pt,this]
  ·simp only [gt,if_neg he] at h
   have ih:=Qkm f x y es n2 h
   unfold kS at ih ⊢
   simp only [List.map_cons,dSet,if_neg (QfN he),pt,if_neg he,ih]
theorem Qoo (x:Str) (y:Bool×Ls):∀ es:List En,gt es x=none->pt es x y=es++[(x,y)]
 | [],_=>rfl
 | e::es,h=>by
  by_cases he:e.1=x
  ·simp [gt,he] at h
  ·simp only [gt,if_neg he] at h
   simp only [pt,if_neg he,Qoo x y es h,List.cons_append]
theorem Qj0 (f:En->D) (x:Str) (y:Bool×Ls) {es:List En} (hn:Nd es) {d:D} (hd:d=f (x,y)):Qew (kS es) (es.map f) (.inr x) d=(pt es x y).map f:=by
 subst hd
 unfold Qew
 rw [Qjt]
 split
 ·rename_i h;exact Qkm f x y es hn h
 ·rename_i h
  have:gt es x=none:=by
   cases e:gt es x with
   | none=>rfl
   | some z=>rw [e] at h;exact absurd rfl h
  rw [Qoo x y es this,List.map_append];rfl
inductive Dd:D->Op->Prop
 | set (x:Str) (v:Int):Dd (.tup [.str "set",.str x,.int v]) (some (x,some v))
 | drop (x:Str):Dd (.tup [.str "drop",.str x]) (some (x,none))
 | look (x:Str):Dd (.tup [.str "look",.str x]) none
 | many:Dd (.tup [.str "many"]) none
def tot (R:Int×List En):D:=.tup [.int R.1,.tup ((es_ R.2).map eD)]
theorem QlU (es:List En):Tim.srt QcH (es.map eD)=(es_ es).map eD:=Tim.srt_map (f:=eD) (fun a b=>rfl) es
theorem Qnr (e:En):Self 3 (eD e):=by
 obtain ⟨x,b,l⟩:=e
 refine Self.tup fun d hd=>?_
 simp only [List.mem_cons,List.not_mem_nil,or_false] at hd
 rcases hd with rfl | rfl | rfl
 ·exact (Self.str x).mono (by lia)
 ·exact (Self.bl b).mono (by lia)
 ·match l with
  | none=>exact Self.non.mono (by lia)
  | some (v,t) =>
   refine Self.tup fun d hd=>?_
   simp only [List.mem_cons,List.not_mem_nil,or_false] at hd
   rcases hd with rfl | rfl
   ·exact Self.int _
   ·exact Self.int _
theorem Qmp (t:Int) {d:D} {o:Op} (h:Dd d o):QO [.obj "Names",.int t,d]=.ok (tot (runs [(t,o)])):=by
 have hn:Qy [.obj "Names"]=.ok (.tup [.int 0,.tup []]):=by simp?! [Qy,QaE]
 cases h with
 | set x v=>simp?! [QO,Qao,tot,runs,stp,gt,pt,Tim.srt,Tim.insB,eD,lD]
 | drop x=>simp?! [QO,Qao,tot,runs,stp,gt,pt,has,Tim.srt,Tim.insB,eD,lD]
 | look x=>simp?! [QO,Qao,tot,runs,stp,Tim.srt,hn]
 | many=>simp?! [QO,Qao,tot,runs,stp,Tim.srt,hn]
theorem Qi0:∀ (es:List En) (R:Int×List En),(jn R es).2.length<=R.2.length + es.length
 | [],R=>by simp [jn]
 | e::es,R=>by
  have ih:=Qi0 es (jst R e)
  have h1:(jst R e).2.length<=R.2.length + 1:=Qhj _ _ _
  simp only [jn,List.foldl_cons,List.length_cons] at ih ⊢
  lia
theorem Ql6:∀ (es:List En) {R:Int×List En},Nd R.2->Nd (jn R es).2
 | [],R,h=>h
 | e::es,R,h=>Ql6 es (QfY h _ _)
theorem Qju (es:List En):Qbq (gNm 0) fYes (fTup [(f2 gIx (Qe 0) (fC (.int 0))),(Qe 0)]) (es.map eD) [.un]=.ok (es.map fun e=>.tup [.str e.1,eD e]):=by
 have hm:(es.map fun e=>D.tup [.str e.1,eD e])=(es.map eD).map fun d=>.tup [(match d with | .tup (x::_)=>x | _=>.non),d]:=by
  rw [List.map_map];rfl
 rw [hm]
 refine QmY (fun δ=>∃ s0,δ=[s0]) _ _ (fun d hd δ hI=>?_) _ ⟨_,rfl⟩
 obtain ⟨s0,rfl⟩:=hI
 obtain ⟨e,he,rfl⟩:=List.mem_map.mp hd
 refine ⟨[.val (eD e)],rfl,?_,_,rfl⟩
 simp?! [eD]
theorem QmF {es:List En} (hn:Nd es):Qec (.lst (es.map fun e=>.tup [.str e.1,eD e]))=.ok (.dic (kS es) (es.map eD)):=by
 have hp:∀ es:List En,Qcg (es.map fun e=>.tup [.str e.1,eD e])=some (es.map fun e=>(Sum.inr e.1,eD e)):=by
  intro es
  induction es with
  | nil=>rfl
  | cons e es ih=>simp only [List.map_cons,Qcg,ih,Qko,keyD,Option.map_some]
 have hk:(es.map fun e=>((Sum.inr e.1:Key),eD e)).map (·.1)=kS es:=by rw [List.map_map];rfl
 have hv:(es.map fun e=>((Sum.inr e.1:Key),eD e)).map (·.2)=es.map eD:=by rw [List.map_map];rfl
 have hd:(kS es).Nodup:=by
  have e:kS es=(es.map (·.1)).map Sum.inr:=by rw [List.map_map];rfl
  rw [e]
  exact List.Pairwise.map _ (fun a b h q=>h (Sum.inr.inj q)) hn
 simp only [Qec,hp,hk,hv]
 rw [if_pos hd]
theorem QmP {es:List En} (hn:Nd es) (hl:es.length < 64) {δ:DS} {j:Nat} (hδ:δ[j]? = some (.own (.dic (kS es) (es.map eD)))):QfT j δ=.ok (.lst ((es_ es).map eD)):=by
 have hm:∀ es:List En,nmsD (es.map eD)=some (es.map fun e=>e.1):=by
  intro es
  induction es with
  | nil=>rfl
  | cons e es ih=>simp only [List.map_cons,nmsD,ih,nmD,eD]
 unfold QfT
 simp only [hδ,hm]
 rw [if_pos ⟨hn,by rw [List.length_map];exact hl⟩,QlU]
theorem join_step (a b:D) (R:Int×List En) (hn:Nd R.2) (hl:R.2.length < sizeLine) (e:En) (s6 s7:Sl) :
  (sSeq (sSet 6 (f2 gIx (Qe 5) (fC (.int 0)))) (sSeq (sSet 7 (QcB 4 (fVar 6) (fTup [(Qe 6),(f2 gIx (Qe 5) (fC (.int 1))),(fC .non)]))) (sSeq (sIf (Qbp (fTru (f2 gIx (fVar 5) (fC (.int 1)))) (fAsB (f1 Qbr (f2 gIx (fVar 7) (fC (.int 2)))))) (sSeq (sSet 3 (f2 gSub (fVar 3) (fC (.int 1)))) Qb) Qb) (sSeq (DL.sDPut 4 (fVar 6) (fTup [(Qe 6),(f2 gIx (Qe 7) (fC (.int 1))),(f2 gIx (Qe 5) (fC (.int 2)))])) Qb))))
   [.val (.obj "Names"),.val a,.val b,.val (.int R.1),.own (.dic (kS R.2) (R.2.map eD)),.val (eD e),s6,s7]=.ok (.nx [.val (.obj "Names"),.val a,.val b,.val (.int (jst R e).1),.own (.dic (kS (jst R e).2) ((jst R e).2.map eD)),.val (eD e),.val (.str e.1),.val (eD (e.1,(gt R.2 e.1).getD (e.2.1,none)))]):=by
 obtain ⟨lk,es⟩:=R
 obtain ⟨x,b1,l⟩:=e
 simp only at hn hl
 have hk:(kS es).length < sizeLine:=by rw [QiZ];exact hl
 have g1:=QeR eD x es
 have e1:((dGet (kS es) (es.map eD) (.inr x)).getD (.tup [.str x,.bl b1,.non]))=eD (x,(gt es x).getD (b1,none)):=by
  rw [g1];cases gt es x <;> rfl
 have p1:=Qj3 x ((match gt es x with | some y=>y.1 | none=>b1),l) es
 have p2:=Qj0 eD x ((match gt es x with | some y=>y.1 | none=>b1),l) hn rfl
 have hh:has (gt es x)=(match ((gt es x).getD (b1,none)).2 with | some _=>true | none=>false):=by
  cases e:gt es x with
  | none=>rfl
  | some y =>
   obtain ⟨b,l⟩:=y
   cases l <;> rfl
 have hb:(match gt es x with | some y=>y.1 | none=>b1)=((gt es x).getD (b1,none)).1:=by
  cases gt es x <;> rfl
 simp only [jst]
 rw [hb] at p1 p2 ⊢
 rw [hh]
 generalize (gt es x).getD (b1,none)=y at *
 obtain ⟨b2,l2⟩:=y
 simp only [eD] at p2 e1 ⊢
 generalize lD l=dl at p2 ⊢
 match b1,l2 with
 | false,none=>simp?! [DL.sDPut,QcB,keyD,e1,hk,p1,p2,lD,Qbr]
 | false,some (v,t)=>simp?! [DL.sDPut,QcB,keyD,e1,hk,p1,p2,lD,Qbr]
 | true,none=>simp?! [DL.sDPut,QcB,keyD,e1,hk,p1,p2,lD,Qbr]
 | true,some (v,t)=>simp?! [DL.sDPut,QcB,keyD,e1,hk,p1,p2,lD,Qbr]
theorem Qjv (l1 l2:Int) {s1 s2:List En} (n1:Nd s1) (hl:s1.length + s2.length<=63):QI [.obj "Names",.tup [.int l1,.tup (s1.map eD)],.tup [.int l2,.tup (s2.map eD)]]=.ok (tot (jn (l1 + l2,s1) s2)):=by
 have c1:=Qju s1
 have c2:=QmF n1
 have hz:(s1.map eD).length<=sizeLine:=by rw [List.length_map];exact Nat.le_of_lt (QV (by lia))
 have hf:f1 Qec (QbS (QeP (f2 gIx (Qe 1) (fC (.int 1)))) (gNm 0) fYes (fTup [(f2 gIx (Qe 0) (fC (.int 0))),(Qe 0)]) 1 []) [.val (.obj "Names"),.val (.tup [.int l1,.tup (s1.map eD)]),.val (.tup [.int l2,.tup (s2.map eD)]),.val (.int (l1 + l2)),.un,.un,.un,.un]=.ok (.dic (kS s1) (s1.map eD)):=by
  generalize s1.map eD=M at *
  simp?! [QbS,QeP,dsIn,hz,c1,c2]
 have hg:f2 gAdd (f2 gIx (fVar 1) (fC (.int 0))) (f2 gIx (fVar 2) (fC (.int 0))) [.val (.obj "Names"),.val (.tup [.int l1,.tup (s1.map eD)]),.val (.tup [.int l2,.tup (s2.map eD)]),.un,.un,.un,.un,.un]=.ok (.int (l1 + l2)):=by simp?! []
 have hi:f2 gIx (Qe 2) (fC (.int 1)) [.val (.obj "Names"),.val (.tup [.int l1,.tup (s1.map eD)]),.val (.tup [.int l2,.tup (s2.map eD)]),.val (.int (l1 + l2)),.own (.dic (kS s1) (s1.map eD)),.un,.un,.un]=.ok (.tup (s2.map eD)):=by simp?! []
 simp -implicitDefEqProofs only [QI,Qbl,e_run,QL,Qov,List.map_cons,List.map_nil,List.length_cons,List.length_nil,List.replicate,List.cons_append,List.nil_append,Nat.reduceAdd,Nat.reduceSub,e_set,hg,Qau,List.set,sOwn,hf,QlJ,hi,Qll]
 generalize D.tup [.int l1,.tup (s1.map eD)]=T1
 generalize D.tup [.int l2,.tup (s2.map eD)]=T2
 refine For.useN (fun i δ=>∃ s5 s6 s7,δ=[.val (.obj "Names"),.val T1,.val T2,.val (.int (jn (l1 + l2,s1) (s2.take i)).1),.own (.dic (kS (jn (l1 + l2,s1) (s2.take i)).2) ((jn (l1 + l2,s1) (s2.take i)).2.map eD)),s5,s6,s7]) ⟨.un,.un,.un,rfl⟩ ?_ ?_
 ·rintro i d hd hi δ ⟨s5,s6,s7,rfl⟩
  rw [List.getElem?_map] at hd
  obtain ⟨e,he,rfl⟩:∃ e,s2[i]? = some e/\eD e=d:=by
   cases q:s2[i]? with
   | none=>rw [q] at hd;cases hd
   | some e=>rw [q] at hd;exact ⟨e,rfl,by simpa using hd⟩
  have l1':=Qi0 (s2.take i) (l1 + l2,s1)
  have hs:(jn (l1 + l2,s1) (s2.take i)).2.length < sizeLine:=by
   rw [List.length_take] at l1'
   exact Nat.lt_of_le_of_lt l1' (QV (by simp only;lia))
  have st:=join_step T1 T2 (jn (l1 + l2,s1) (s2.take i)) (Ql6 _ n1) hs e s6 s7
  have er:jst (jn (l1 + l2,s1) (s2.take i)) e=jn (l1 + l2,s1) (s2.take (i + 1)):=by
   rw [List.take_add_one,he]
   unfold jn
   rw [Option.toList_some,List.foldl_append];rfl
  rw [er] at st
  exact Goes.eq st ⟨_,_,_,rfl⟩
 ·rintro δ ⟨s5,s6,s7,rfl⟩
  rw [List.length_map,List.take_of_length_le (Nat.le_refl _)]
  have hn:=Ql6 s2 (R:=(l1 + l2,s1)) n1
  have hll:=Qi0 s2 (l1 + l2,s1)
  generalize jn (l1 + l2,s1) s2=R at *
  obtain ⟨lk,es⟩:=R
  have q:=QmP (es:=es) hn (by simp only at hll;lia) (j:=4) (δ:=[.val (.obj "Names"),.val T1,.val T2,.val (.int lk),.own (.dic (kS es) (es.map eD)),s5,s6,s7]) rfl
  simp?! [q,Qea,tot]
theorem Qi1 (as bs:List (Int×Op)) (h:as.length + bs.length<=63):QI [.obj "Names",tot (runs as),tot (runs bs)]=.ok (tot (runs (as++bs))):=by
 have l1:=Qft as (0,[])
 have l2:=Qft bs (0,[])
 have e1:(es_ (runs as).2).length=(runs as).2.length:=Tim.srt_len _ _
 have e2:(es_ (runs bs).2).length=(runs bs).2.length:=Tim.srt_len _ _
 have l1':(runs as).2.length<=0 + as.length:=l1
 have l2':(runs bs).2.length<=0 + bs.length:=l2
 obtain ⟨j1,j2⟩:=Qh8 as bs
 have:=Qjv (runs as).1 (runs bs).1 (s1:=es_ (runs as).2) (s2:=es_ (runs bs).2) (Qd4 (QnY as)) (by lia)
 refine this.trans ?_
 unfold tot
 rw [j1,j2]
def opOf:D->Op
 | .tup [.str w,.str x,.int v]=>if w = "set" then some (x,some v) else none
 | .tup [.str w,.str x]=>if w = "drop" then some (x,none) else none
 | _=>none
theorem Dd.op {d:D} {o:Op} (h:Dd d o):opOf d=o:=by
 cases h <;> simp (decide:=true) [opOf]
def opsL (l:List (Nat×D)):List (Int×Op):=l.map fun p=>((p.1:Int),opOf p.2)
theorem QcO (a b:List (Nat×D)):opsL (a++b)=opsL a++opsL b:=List.map_append ..
theorem QcM (a:List (Nat×D)):(opsL a).length=a.length:=List.length_map _
theorem QpM (R:Int×List En) (a:Int×Op):R.1<=(stp R a).1:=by
 unfold stp
 split
 ·exact Int.le_refl _
 ·exact Int.le_refl _
 ·show R.1<=R.1 + _
  split <;> lia
theorem QgR:∀ (as:List (Int×Op)) (R:Int×List En),R.1<=(as.foldl stp R).1
 | [],R=>Int.le_refl _
 | a::as,R=>Int.le_trans (QpM R a) (QgR as _)
def OkN (d:D):Prop:=∃ o,Dd d o
theorem nothing_eq:Qy [.obj "Names"]=.ok (tot (runs [])):=by
 simp?! [Qy,QaE,tot,runs]
end Nmk
open Nmk in
def kNames:Kd where
 C:="Names"
 en xs:=tot (runs (opsL xs))
 Okd:=OkN
 N:=63
 lonM:=QO
 jonM:=QI
 notM:=Qy
 fitM:=Qan
 okr xs:=decide ((runs (opsL xs)).1=0)
 tl:=(Qg rfl).trans ((Qg rfl).trans ((Qg rfl).trans ((Qg rfl).trans ((Qg rfl).trans QD))))
 tj:=(Qg rfl).trans ((Qg rfl).trans ((Qg rfl).trans ((Qg rfl).trans ((Qg rfl).trans QD))))
 tn:=(Qg rfl).trans ((Qg rfl).trans ((Qg rfl).trans ((Qg rfl).trans ((Qg rfl).trans QD))))
 tf:=(Qg rfl).trans ((Qg rfl).trans ((Qg rfl).trans ((Qg rfl).trans ((Qg rfl).trans QD))))
 lon a d h:=by
  obtain ⟨o,h⟩:=h
  rw [Qmp (a:Int) h]
  unfold opsL
  rw [List.map_cons,List.map_nil,h.op]
 jon {xs ys} h:=by
  rw [QcO]
  exact Qi1 _ _ (by rw [QcM,QcM];exact h)
 nt:=Nmk.nothing_eq
 ft {xs} _:=by
  generalize runs (opsL xs)=R
  simp?! [Qan,QbW,tot]
 mono {xs ys} h:=by
  have e:runs (opsL (xs++ys))=(opsL ys).foldl stp (runs (opsL xs)):=by rw [QcO];exact List.foldl_append ..
  have g1:=QgR (opsL ys) (runs (opsL xs))
  have g2:(0:Int)<=(runs (opsL xs)).1:=QgR (opsL xs) (0,[])
  rw [e] at h
  simp only [decide_eq_true_eq] at h ⊢
  lia
 ok0:=rfl
 ime xs:=by
  have h:∀ es:List En,imms (es.map eD)=true:=fun es=>by
   induction es with
   | nil=>rfl
   | cons e es ih =>
    obtain ⟨x,b,l⟩:=e
    cases l <;> simp [imms,imm,eD,lD,ih]
  simp [tot,imm,imms,h]
 imd h:=by
  obtain ⟨o,h⟩:=h
  cases h <;> rfl
 slf xs:=by
  refine Self.tup fun d hd=>?_
  simp only [List.mem_cons,List.not_mem_nil,or_false] at hd
  rcases hd with rfl | rfl
  ·exact (Self.int _).mono (by lia)
  ·refine Self.tup fun d hd=>?_
   obtain ⟨e,_,rfl⟩:=List.mem_map.mp hd
   exact (Qnr e).mono (by lia)
 sld h:=by
  obtain ⟨o,h⟩:=h
  cases h <;> refine Self.tup fun y hy=>?_ <;> simp only [List.mem_cons,List.not_mem_nil,or_false] at hy
  ·rcases hy with rfl | rfl | rfl
   ·exact (Self.str _).mono (by lia)
   ·exact (Self.str _).mono (by lia)
   ·exact (Self.int _).mono (by lia)
  ·rcases hy with rfl | rfl
   ·exact (Self.str _).mono (by lia)
   ·exact (Self.str _).mono (by lia)
  ·rcases hy with rfl | rfl
   ·exact (Self.str _).mono (by lia)
   ·exact (Self.str _).mono (by lia)
  ·subst hy;exact (Self.str _).mono (by lia)
section
open Tr
variable (K:Kd)
def opD:Option Nat->D
 | some a=>.int (a:Int)
 | none=>.non
def fb:List (Nat×D)->List (Nat×D)->Option Nat
 | _,[]=>none
 | xs,p::r=>if K.okr (xs++[p])=true then fb (xs++[p]) r else some p.1
theorem Qi6:∀ (l xs r:List (Nat×D)),K.okr (xs++l)=true->fb K xs (l++r)=fb K (xs++l) r
 | [],xs,r,_=>by rw [List.append_nil];rfl
 | p::l,xs,r,h=>by
  have e:xs++p::l=xs++[p]++l:=by simp
  rw [e] at h ⊢
  have h1:=K.mono h
  show (if K.okr (xs++[p])=true then fb K (xs++[p]) (l++r) else some p.1)=_
  rw [if_pos h1]
  exact Qi6 l (xs++[p]) r h
theorem QlF:∀ (l xs r:List (Nat×D)),K.okr xs=true->K.okr (xs++l)=false->fb K xs (l++r)=fb K xs l
 | [],xs,r,h0,h=>by rw [List.append_nil,h0] at h;cases h
 | p::l,xs,r,h0,h=>by
  have e:xs++p::l=xs++[p]++l:=by simp
  rw [e] at h
  show (if K.okr (xs++[p])=true then fb K (xs++[p]) (l++r) else some p.1)=if K.okr (xs++[p])=true then fb K (xs++[p]) l else some p.1
  by_cases c:K.okr (xs++[p])=true
  ·rw [if_pos c,if_pos c];exact QlF l _ r c h
  ·rw [if_neg c,if_neg c]
theorem Qol {l xs:List (Nat×D)} (h:K.okr (xs++l)=true):fb K xs l=none:=by
 have:=Qi6 K l xs [] h
 rwa [List.append_nil] at this
theorem Qm2:∀ (n:Nat) (t:T) (xs:List (Nat×D)),Good t->t.e < n->(∀ p∈xs++t.ds,K.Okd p.2)->K.okr xs=true->K.okr (xs++t.ds)=false->xs.length + t.ds.length<=K.N->Qx n [.obj K.C,K.en xs,E K t]=.ok (opD (fb K xs t.ds))
 | 0,t,_,_,h,_,_,_,_=>by lia
 | n + 1,.lf a d,xs,G,_,_,h0,h1,_=>by
  have hu:Qx (n + 1) [.obj K.C,K.en xs,E K (.lf a d)]=runD false 4 (Q0 (Qx n)) [.obj K.C,K.en xs,E K (.lf a d)]:=rfl
  rw [hu]
  have lfn:=Qno K a d
  have e1:fb K xs (T.lf a d).ds=some a:=by
   show (if K.okr (xs++[(a,d)])=true then fb K (xs++[(a,d)]) [] else some a)=some a
   have h1':K.okr (xs++[(a,d)])=false:=h1
   rw [h1'];rfl
  rw [e1]
  have hx:E K (.lf a d)=.tup [.int (a:Int),.int 1,K.en (QK a d),d]:=rfl
  rw [hx] at lfn ⊢
  generalize Qx n=F
  generalize K.en (QK a d)=w at *
  generalize K.en xs=w2 at *
  simp? [Q0,lfn,opD]
 | n + 1,.nd q k l r,xs,G,hn,hok,h0,h1,hN=>by
  have hu:Qx (n + 1) [.obj K.C,K.en xs,E K (.nd q k l r)]=runD false 4 (Q0 (Qx n)) [.obj K.C,K.en xs,E K (.nd q k l r)]:=rfl
  rw [hu]
  obtain ⟨hl,hr,el,er,hdj⟩:=Qmi G
  have hn':k + 1 < n + 1:=hn
  have hds:(T.nd q k l r).ds=l.ds++r.ds:=rfl
  rw [hds] at hok h1 hN ⊢
  rw [List.length_append] at hN
  have lfn:=QjQ K q k l r
  have tl:=QbQ K l
  rw [show V l=l.ds from Qdt l] at tl
  have j:=K.jon (xs:=xs) (ys:=l.ds) (by lia)
  have f:=K.ft (xs:=xs++l.ds) fun p hp=>hok p (by
   rcases List.mem_append.mp hp with z | z
   ·exact List.mem_append_left _ z
   ·exact List.mem_append_right _ (List.mem_append_left _ z))
  have tj:=K.tj
  have tf:=K.tf
  have ex:E K (.nd q k l r)=.tup [.int ((q * 2 ^ (k + 1):Nat):Int),.int ((2 ^ (k + 1):Nat):Int),K.en (QE (V l) (V r)),E K l,E K r]:=rfl
  cases c:K.okr (xs++l.ds) with
  | true =>
   have i:=Qm2 n r (xs++l.ds) hr (by lia) (by rw [List.append_assoc];exact hok) c (by rw [List.append_assoc];exact h1) (by rw [List.length_append];lia)
   rw [Qi6 K l.ds xs r.ds c]
   rw [c] at f
   rw [ex] at lfn ⊢
   generalize opD (fb K (xs++l.ds) r.ds)=R at *
   generalize Qx n=F at *
   generalize E K l=x at *
   generalize E K r=y at *
   generalize ((q * 2 ^ (k + 1):Nat):Int)=z1 at *
   generalize ((2 ^ (k + 1):Nat):Int)=z2 at *
   generalize K.en (QE (V l) (V r))=z3 at *
   generalize K.en (xs++l.ds)=z4 at *
   generalize K.en l.ds=z5 at *
   generalize K.en xs=z6 at *
   simp? [Q0,lfn,tl,tj,j,tf,f,i]
  | false =>
   have i:=Qm2 n l xs hl (by lia) (fun p hp=>hok p (by
    rcases List.mem_append.mp hp with z | z
    ·exact List.mem_append_left _ z
    ·exact List.mem_append_right _ (List.mem_append_left _ z))) h0 c (by lia)
   rw [QlF K l.ds xs r.ds h0 c]
   rw [c] at f
   rw [ex] at lfn ⊢
   generalize opD (fb K xs l.ds)=R at *
   generalize Qx n=F at *
   generalize E K l=x at *
   generalize E K r=y at *
   generalize ((q * 2 ^ (k + 1):Nat):Int)=z1 at *
   generalize ((2 ^ (k + 1):Nat):Int)=z2 at *
   generalize K.en (QE (V l) (V r))=z3 at *
   generalize K.en (xs++l.ds)=z4 at *
   generalize K.en l.ds=z5 at *
   generalize K.en xs=z6 at *
   simp? [Q0,lfn,tl,tj,j,tf,f,i]
theorem Qdi {o:Option T} (G:Qkr o) (hok:∀ p∈dsO o,K.Okd p.2) (hN:(dsO o).length<=K.N):QW [.obj K.C,EO K o]=.ok (opD (fb K [] (dsO o))):=by
 cases o with
 | none =>
  show QW [.obj K.C,.non]=.ok .non
  simp?! [QW,Qb5]
 | some t =>
  have tt:=QbQ K t
  rw [show V t=t.ds from Qdt t] at tt
  have f:=K.ft (xs:=t.ds) hok
  have tf:=K.tf
  have tn:=K.tn
  have nt:=K.nt
  have dp:=depth G
  have hok':∀ p∈t.ds,K.Okd p.2:=hok
  have hN':t.ds.length<=K.N:=hN
  obtain ⟨xs,hx⟩:∃ xs,E K t=.tup xs:=by
   obtain ⟨r,e⟩:=QbF K.en QK QE t
   exact ⟨_,e⟩
  have nn:gIsN (.tup xs)=.ok (.bl false):=rfl
  show QW [.obj K.C,E K t]=.ok (opD (fb K [] t.ds))
  cases c:K.okr t.ds with
  | true =>
   rw [Qol K (xs:=[]) (by simpa using c)]
   rw [c] at f
   rw [hx] at tt ⊢
   generalize K.en t.ds=z at *
   simp?! [QW,Qb5,nn,tt,tf,f,opD]
  | false =>
   have i:=Qm2 K 64 t [] G (by lia) (by simpa using hok') K.ok0 (by simpa using c) (by simpa using hN')
   rw [c] at f
   rw [hx] at tt i ⊢
   generalize opD (fb K [] t.ds)=R at *
   generalize K.en t.ds=z at *
   generalize K.en []=z0 at *
   simp?! [QW,Qb5,nn,tt,tf,f,tn,nt,i]
theorem QnW (x0 x1 x3 x4:Sl) (M:List D) (w:D):sPop 2 3 [x0,x1,.own (.lst (M++[w])),x3,x4]=.ok (.nx [x0,x1,.own (.lst M),.val w,x4]):=by
 have h1:(M++[w])[(M++[w]).length - 1]? = some w:=by simp
 simp only [sPop,List.getElem?_cons_succ,List.getElem?_cons_zero,h1,List.dropLast_concat,List.set]
theorem QfB:∀ L:List T,L.length<=(L.flatMap T.ds).length
 | []=>Nat.le_refl _
 | t::L=>by
  have:=QfB L
  have:=List.length_pos_iff.mpr (Qh6 t)
  rw [List.flatMap_cons,List.length_append,List.length_cons];lia
theorem QcA (x1:Sl):∀ (fuel:Nat) (L:List T) (s3 s4:Sl),(∀ t∈L,Good t/\(∀ p∈t.ds,K.Okd p.2)/\t.ds.length<=K.N)->2 * (L.flatMap T.ds).length < fuel + L.length->3 * (L.flatMap T.ds).length<=900->∃ s3' s4',Qap (fAsB (f2 gGt (Qf gLen [(fVar 2)]) (fC (.int 0)))) (sSeq (sPop 2 3) (sSeq (sIf (fAsB (f2 gEq (Qf gLen [(fVar 3)]) (fC (.int 4)))) (sSeq (sSet 4 (Qag tbL (Qe 0) [(f2 gIx (Qe 3) (fC (.int 0))),(f2 gIx (Qe 3) (fC (.int 3)))])) Qb) (sSeq (sSet 4 (Qag tbJ (Qe 0) [(f2 gIx (f2 gIx (Qe 3) (fC (.int 3))) (fC (.int 2))),(f2 gIx (f2 gIx (Qe 3) (fC (.int 4))) (fC (.int 2)))])) (sSeq (sApp 2 (f2 gIx (Qe 3) (fC (.int 3)))) (sSeq (sApp 2 (f2 gIx (Qe 3) (fC (.int 4)))) Qb)))) (sSeq (sIf (fAsB (f2 gNe (f2 gIx (fVar 3) (fC (.int 2))) (fVar 4))) (sSeq (sRet (fC (.bl false))) Qb) Qb) Qb))) fuel [.val (.obj K.C),x1,.own (.lst (L.map (E K))),s3,s4]=.ok (.nx [.val (.obj K.C),x1,.own (.lst []),s3',s4'])
 | 0,L,s3,s4,_,h,_=>by have:=QfB L;lia
 | fuel + 1,L,s3,s4,hL,hf,hs=>by
  rcases L.eq_nil_or_concat with rfl | ⟨L',t,rfl⟩
  rotate_left
  rw [List.concat_eq_append] at *
  rotate_left
  ·refine ⟨s3,s4,?_⟩
   simp only [Qap,List.map_nil]
   simp?! []
  ·obtain ⟨Gt,ok,hN⟩:=hL t (by simp)
   have hne:=List.length_pos_iff.mpr (Qh6 t)
   have est:(L'++[t]).map (E K)=L'.map (E K)++[E K t]:=by simp
   have efl:((L'++[t]).flatMap T.ds).length=(L'.flatMap T.ds).length + t.ds.length:=by simp
   have fl:=QfB L'
   rw [efl] at hs
   rw [efl,List.length_append,List.length_singleton] at hf
   rw [est]
   have hc:(fAsB (f2 gGt (Qf gLen [(fVar 2)]) (fC (.int 0)))) [.val (.obj K.C),x1,.own (.lst (L'.map (E K)++[E K t])),s3,s4]=.ok true:=by
    generalize L'.map (E K)=M
    generalize E K t=z
    simp?! []
   have pp:=QnW (.val (.obj K.C)) x1 s3 s4 (L'.map (E K)) (E K t)
   have hM:(L'.map (E K)).length + 1 < sizeLine:=by rw [List.length_map];exact QV (by lia)
   cases t with
   | lf a d =>
    obtain ⟨s3',s4',q⟩:=QcA x1 fuel L' (.val (E K (.lf a d))) (.val (K.en [(a,d)])) (fun t ht=>hL t (List.mem_append_left _ ht)) (by simp only [T.ds,List.length_cons,List.length_nil] at hf;lia) (by simp only [T.ds,List.length_cons,List.length_nil] at hs;lia)
    refine ⟨s3',s4',?_⟩
    have lo:=K.lon a (ok (a,d) (by simp [T.ds]))
    have tl:=K.tl
    have sn:=(K.slf [(a,d)]).ne (by decide)
    have hx:E K (.lf a d)=.tup [.int (a:Int),.int 1,K.en [(a,d)],d]:=rfl
    rw [hx] at pp hc q ⊢
    generalize L'.map (E K)=M at *
    generalize K.en [(a,d)]=w at *
    have hb:(sSeq (sPop 2 3) (sSeq (sIf (fAsB (f2 gEq (Qf gLen [(fVar 3)]) (fC (.int 4)))) (sSeq (sSet 4 (Qag tbL (Qe 0) [(f2 gIx (Qe 3) (fC (.int 0))),(f2 gIx (Qe 3) (fC (.int 3)))])) Qb) (sSeq (sSet 4 (Qag tbJ (Qe 0) [(f2 gIx (f2 gIx (Qe 3) (fC (.int 3))) (fC (.int 2))),(f2 gIx (f2 gIx (Qe 3) (fC (.int 4))) (fC (.int 2)))])) (sSeq (sApp 2 (f2 gIx (Qe 3) (fC (.int 3)))) (sSeq (sApp 2 (f2 gIx (Qe 3) (fC (.int 4)))) Qb)))) (sSeq (sIf (fAsB (f2 gNe (f2 gIx (fVar 3) (fC (.int 2))) (fVar 4))) (sSeq (sRet (fC (.bl false))) Qb) Qb) Qb))) [.val (.obj K.C),x1,.own (.lst (M++[.tup [.int (a:Int),.int 1,w,d]])),s3,s4]=.ok (.nx [.val (.obj K.C),x1,.own (.lst M),.val (.tup [.int (a:Int),.int 1,w,d]),.val w]):=by
     refine (QcE pp).trans ?_
     simp?! [tl,lo,sn]
    simp only [Qap,hc,Qau,if_true,hb]
    exact q
   | nd q k l r =>
    obtain ⟨hl,hr,el,er,hdj⟩:=Qmi Gt
    have hds:(T.nd q k l r).ds=l.ds++r.ds:=rfl
    rw [hds] at ok
    rw [hds,List.length_append] at hN hs hf
    have nl:=List.length_pos_iff.mpr (Qh6 l)
    have nr:=List.length_pos_iff.mpr (Qh6 r)
    have ef2:((L'++[l]++[r]).flatMap T.ds).length=(L'.flatMap T.ds).length + l.ds.length + r.ds.length:=by
     rw [List.flatMap_append,List.flatMap_append]
     simp only [List.length_append,List.flatMap_cons,List.flatMap_nil,List.append_nil]
    obtain ⟨s3',s4',Q⟩:=QcA x1 fuel (L'++[l]++[r]) (.val (E K (.nd q k l r))) (.val (K.en (l.ds++r.ds))) (fun t ht=>by
     rcases List.mem_append.mp ht with z | z
     ·rcases List.mem_append.mp z with z | z
      ·exact hL t (List.mem_append_left _ z)
      ·simp at z;subst z;exact ⟨hl,fun p hp=>ok p (List.mem_append_left _ hp),by lia⟩
     ·simp at z;subst z;exact ⟨hr,fun p hp=>ok p (List.mem_append_right _ hp),by lia⟩) (by rw [ef2,List.length_append,List.length_append,List.length_singleton,List.length_singleton];lia) (by rw [ef2];lia)
    refine ⟨s3',s4',?_⟩
    have j:=K.jon (xs:=l.ds) (ys:=r.ds) (by lia)
    have tj:=K.tj
    have sn:=(K.slf (l.ds++r.ds)).ne (by decide)
    obtain ⟨rl,e1⟩:=QbF K.en QK QE l
    obtain ⟨rr,e2⟩:=QbF K.en QK QE r
    rw [Qdt] at e1 e2
    have hx:E K (.nd q k l r)=.tup [.int ((q * 2 ^ (k + 1):Nat):Int),.int ((2 ^ (k + 1):Nat):Int),K.en (QE (V l) (V r)),E K l,E K r]:=rfl
    have hj:QE (V l) (V r)=l.ds++r.ds:=by rw [show V l=l.ds from Qdt l,show V r=r.ds from Qdt r];rfl
    rw [hj] at hx
    have e1':E K l=_:=e1
    have e2':E K r=_:=e2
    have em:(L'++[l]++[r]).map (E K)=L'.map (E K)++[E K l]++[E K r]:=by simp
    rw [em] at Q
    rw [hx,e1',e2'] at pp hc
    rw [hx,e1',e2'] at Q
    rw [hx,e1',e2']
    have hM2:(L'.map (E K)).length < sizeLine:=by lia
    generalize L'.map (E K)=M at *
    generalize K.en (l.ds++r.ds)=w at *
    generalize K.en l.ds=w1 at *
    generalize K.en r.ds=w2 at *
    generalize ((q * 2 ^ (k + 1):Nat):Int)=z1 at *
    generalize ((2 ^ (k + 1):Nat):Int)=z2 at *
    generalize (l.lo:Int)=z3 at *
    generalize (l.sz:Int)=z4 at *
    generalize (r.lo:Int)=z5 at *
    generalize (r.sz:Int)=z6 at *
    have hb:(sSeq (sPop 2 3) (sSeq (sIf (fAsB (f2 gEq (Qf gLen [(fVar 3)]) (fC (.int 4)))) (sSeq (sSet 4 (Qag tbL (Qe 0) [(f2 gIx (Qe 3) (fC (.int 0))),(f2 gIx (Qe 3) (fC (.int 3)))])) Qb) (sSeq (sSet 4 (Qag tbJ (Qe 0) [(f2 gIx (f2 gIx (Qe 3) (fC (.int 3))) (fC (.int 2))),(f2 gIx (f2 gIx (Qe 3) (fC (.int 4))) (fC (.int 2)))])) (sSeq (sApp 2 (f2 gIx (Qe 3) (fC (.int 3)))) (sSeq (sApp 2 (f2 gIx (Qe 3) (fC (.int 4)))) Qb)))) (sSeq (sIf (fAsB (f2 gNe (f2 gIx (fVar 3) (fC (.int 2))) (fVar 4))) (sSeq (sRet (fC (.bl false))) Qb) Qb) Qb))) [.val (.obj K.C),x1,.own (.lst (M++[.tup [.int z1,.int z2,w,.tup (.int z3::.int z4::w1::rl),.tup (.int z5::.int z6::w2::rr)]])),s3,s4]=.ok (.nx [.val (.obj K.C),x1,.own (.lst (M++[.tup (.int z3::.int z4::w1::rl)]++[.tup (.int z5::.int z6::w2::rr)])),.val (.tup [.int z1,.int z2,w,.tup (.int z3::.int z4::w1::rl),.tup (.int z5::.int z6::w2::rr)]),.val w]):=by
     refine (QcE pp).trans ?_
     simp?! [tj,j,sn,sApp,hM,hM2]
    simp only [Qap,hc,Qau,if_true,hb]
    exact Q
theorem Qk5 {o:Option T} (G:Qkr o) (hok:∀ p∈dsO o,K.Okd p.2) (hN:(dsO o).length<=K.N) (h63:(dsO o).length<=90):Q6 [.obj K.C,EO K o]=.ok (.bl true):=by
 cases o with
 | none =>
  have e:∀ n,Qap (fAsB (f2 gGt (Qf gLen [(fVar 2)]) (fC (.int 0)))) (sSeq (sPop 2 3) (sSeq (sIf (fAsB (f2 gEq (Qf gLen [(fVar 3)]) (fC (.int 4)))) (sSeq (sSet 4 (Qag tbL (Qe 0) [(f2 gIx (Qe 3) (fC (.int 0))),(f2 gIx (Qe 3) (fC (.int 3)))])) Qb) (sSeq (sSet 4 (Qag tbJ (Qe 0) [(f2 gIx (f2 gIx (Qe 3) (fC (.int 3))) (fC (.int 2))),(f2 gIx (f2 gIx (Qe 3) (fC (.int 4))) (fC (.int 2)))])) (sSeq (sApp 2 (f2 gIx (Qe 3) (fC (.int 3)))) (sSeq (sApp 2 (f2 gIx (Qe 3) (fC (.int 4)))) Qb)))) (sSeq (sIf (fAsB (f2 gNe (f2 gIx (fVar 3) (fC (.int 2))) (fVar 4))) (sSeq (sRet (fC (.bl false))) Qb) Qb) Qb))) (n + 1) [.val (.obj K.C),.val .non,.own (.lst []),.un,.un]=.ok (.nx [.val (.obj K.C),.val .non,.own (.lst []),.un,.un]):=fun n=>by
   simp only [Qap]
   simp?! []
  have e2:=e 199
  show Q6 [.obj K.C,.non]=_
  simp?! [Q6,Qbb,e2,thaw]
 | some t =>
  obtain ⟨s3',s4',q⟩:=QcA K (.val (E K t)) 200 [t] .un .un (fun u hu=>by simp at hu;subst hu;exact ⟨G,hok,hN⟩) (by rw [show [t].flatMap T.ds=t.ds by simp];have:t.ds.length<=90:=h63;simp only [List.length_cons,List.length_nil];lia) (by rw [show [t].flatMap T.ds=t.ds by simp];have:t.ds.length<=90:=h63;lia)
  have e1:[t].map (E K)=[E K t]:=rfl
  rw [e1] at q
  obtain ⟨xs,hx⟩:∃ xs,E K t=.tup xs:=by
   obtain ⟨r,e⟩:=QbF K.en QK QE t
   exact ⟨_,e⟩
  have nn:gIsN (.tup xs)=.ok (.bl false):=rfl
  show Q6 [.obj K.C,E K t]=_
  rw [hx] at q ⊢
  simp?! [Q6,Qbb,nn,q,thaw]
end
section
structure Flg (K:Kd) (xs:List (Nat×D)) (p:Nat×D) (r:D) (b:Bool):Prop where
 is:∃ u v,r=.tup [u,v,.bl b]
 ok:K.okr (xs++[p])=(K.okr xs && b)
def lst1 (ps:List (Int×Int)):Int:=match ps.getLast? with
 | some p=>p.1
 | none=>0
structure IS (xs:List (Nat×D)) (ps:List (Int×Int)):Prop where
 now:lst1 ps=sN (vals xs)
 len:ps.length<=xs.length
theorem QiU {α:Type} (xs:List α) (v:α):atI (xs++[v]) (-1)=some v:=by
 have e:ixN (xs++[v]).length (-1)=some xs.length:=by
  unfold ixN
  rw [if_neg (by decide),if_pos (by rw [List.length_append,List.length_singleton];lia)]
  congr 1
  rw [List.length_append,List.length_singleton]
  lia
 unfold atI
 rw [e]
 simp
theorem Ql4 (n:Int) (ns:List Int):Qiw (.lst (.int n::ns.map D.int))=.ok (.int (ns.foldl max n)):=by
 have e:Qep (.int n::ns.map D.int)=some (n::ns):=by
  have:=QkR (n::ns)
  simpa using this
 simp [Qiw,rk,its,e,maxF]
theorem Qmn:∀ ps:List (Int×Int),QdB fYes (f2 gIx (fVar 0) (fC (.int 0))) [] (ps.map Qi)=.ok ((ps.map (·.1)).map D.int)
 | []=>rfl
 | p::ps=>by
  have ih:=Qmn ps
  simp only [List.map_cons,QdB]
  generalize (ps.map Qi)=M at *
  generalize (ps.map (·.1)).map D.int=M' at *
  simp?! [fYes,Qi,ih,imm]
theorem QnO (xs:List (Nat×D)) (a:Nat) (x:Int):kSums.okr (xs++[(a,.tup [.str "add",.int x])])=(kSums.okr xs && decide (0<=sN (vals xs) + x)):=by
 show decide (0<=sL (vals (xs++[(a,.tup [.str "add",.int x])])))=(decide (0<=sL (vals xs)) && decide (0<=sN (vals xs) + x))
 have e:vals [(a,D.tup [.str "add",.int x])]=[x]:=by simp [vals,val]
 rw [Qb3,Qfy,e,Bool.eq_iff_iff]
 have h:=sLN (vals xs)
 have h2:=Qma (vals xs)
 have e2:sL [x]=min 0 (x + 0):=rfl
 rw [e2,Bool.and_eq_true,decide_eq_true_eq,decide_eq_true_eq,decide_eq_true_eq]
 generalize sL (vals xs)=c at *
 generalize sN (vals xs)=b at *
 lia
theorem Qfg {xs:List (Nat×D)} {a:Nat} {d:D} (h:val d=0):sN (vals (xs++[(a,d)]))=sN (vals xs)/\kSums.okr (xs++[(a,d)])=(kSums.okr xs && true):=by
 have e:vals [(a,d)]=[0]:=by simp [vals,h]
 have hl:=sLN (vals xs)
 have h2:=Qma (vals xs)
 refine ⟨by rw [Qb3,QhC,e];simp [sN],?_⟩
 show decide (0<=sL (vals (xs++[(a,d)])))=(decide (0<=sL (vals xs)) && true)
 rw [Qb3,Qfy,e,Bool.and_true,Bool.eq_iff_iff]
 have e2:sL [0]=0:=rfl
 rw [e2,decide_eq_true_eq,decide_eq_true_eq]
 generalize sL (vals xs)=c at *
 generalize sN (vals xs)=b at *
 lia
theorem Qo8 (ps:List (Int×Int)) (a d:D) (s4:Sl):∀ k:Sm,sSeq (sSet 3 (fC (.int 0))) (sSeq (sIf (fAsB (f2 gGt (Qf gLen [(fVar 0)]) (fC (.int 0)))) (sSeq (sSet 3 (f2 gIx (fIxO 0 (f1 gNeg (fC (.int 1)))) (fC (.int 0)))) Qb) Qb) k) [.own (.lst (ps.map Qi)),.val a,.val d,.un,s4]=k [.own (.lst (ps.map Qi)),.val a,.val d,.val (.int (lst1 ps)),s4]:=fun k=>by
 rcases ps.eq_nil_or_concat with rfl | ⟨ps',p,rfl⟩
 ·simp?! [lst1]
 ·rw [List.concat_eq_append]
  have e:lst1 (ps'++[p])=p.1:=by simp [lst1]
  have em:(ps'++[p]).map Qi=ps'.map Qi++[Qi p]:=by simp
  rw [e,em]
  have hi:=QiU (ps'.map Qi) (Qi p)
  have hl:0 < (ps'.map Qi++[Qi p]).length:=by simp
  generalize ps'.map Qi++[Qi p]=M at *
  simp?! [fIxO,gIx,hi,hl,Qi]
theorem Qmk (ps:List (Int×Int)) (p:Int×Int):lst1 (ps++[p])=p.1:=by simp [lst1]
theorem Qfj (x:Int) (a:D) (n:Sl) (M:D):∀ (ps:List (Int×Int)) (s4:Sl),(∃ s4',forL (gNm 4) (sSeq (sIf (fAsB (f2 gGe (f2 gIx (fVar 4) (fC (.int 0))) (f2 gIx (fVar 2) (fC (.int 1))))) (rtO (QU 0 (fTup [(f2 gIx (Qe 4) (fC (.int 1))),(f2 gIx (Qe 4) (fC (.int 1))),(fC (.bl true))]))) Qb) Qb) (ps.map Qi) [.own M,.val a,.val (.tup [.str "reach",.int x]),n,s4]=.ok (.nx [.own M,.val a,.val (.tup [.str "reach",.int x]),n,s4']))\/(∃ t:Int,forL (gNm 4) (sSeq (sIf (fAsB (f2 gGe (f2 gIx (fVar 4) (fC (.int 0))) (f2 gIx (fVar 2) (fC (.int 1))))) (rtO (QU 0 (fTup [(f2 gIx (Qe 4) (fC (.int 1))),(f2 gIx (Qe 4) (fC (.int 1))),(fC (.bl true))]))) Qb) Qb) (ps.map Qi) [.own M,.val a,.val (.tup [.str "reach",.int x]),n,s4]=.ok (.rt (.tup [.tup [.int t,.int t,.bl true],M])))
 | [],s4=>.inl ⟨s4,rfl⟩
 | p::ps,s4=>by
  by_cases h:x<=p.1
  ·refine .inr ⟨p.2,?_⟩
   rw [List.map_cons]
   refine Qku (δ1:=[.own M,.val a,.val (.tup [.str "reach",.int x]),n,.val (Qi p)]) rfl ?_
   simp?! [Qi,h,rtO,QU]
  ·have e:forL (gNm 4) (sSeq (sIf (fAsB (f2 gGe (f2 gIx (fVar 4) (fC (.int 0))) (f2 gIx (fVar 2) (fC (.int 1))))) (rtO (QU 0 (fTup [(f2 gIx (Qe 4) (fC (.int 1))),(f2 gIx (Qe 4) (fC (.int 1))),(fC (.bl true))]))) Qb) Qb) ((p::ps).map Qi) [.own M,.val a,.val (.tup [.str "reach",.int x]),n,s4]=forL (gNm 4) (sSeq (sIf (fAsB (f2 gGe (f2 gIx (fVar 4) (fC (.int 0))) (f2 gIx (fVar 2) (fC (.int 1))))) (rtO (QU 0 (fTup [(f2 gIx (Qe 4) (fC (.int 1))),(f2 gIx (Qe 4) (fC (.int 1))),(fC (.bl true))]))) Qb) Qb) (ps.map Qi) [.own M,.val a,.val (.tup [.str "reach",.int x]),n,.val (Qi p)]:=by
    rw [List.map_cons]
    refine Qck (δ1:=[.own M,.val a,.val (.tup [.str "reach",.int x]),n,.val (Qi p)]) rfl ?_
    simp?! [Qi,h]
   rcases Qfj x a n M ps (.val (Qi p)) with ⟨s4',q⟩ | ⟨t,q⟩
   ·exact .inl ⟨s4',e.trans q⟩
   ·exact .inr ⟨t,e.trans q⟩
theorem QkM {xs:List (Nat×D)} {ps:List (Int×Int)} (I:IS xs ps) (a:Nat) {d:D} (h:OkS d) (hl:xs.length<=60):∃ r b ps',Qbf [.lst (ps.map Qi),.int (a:Int),d]=.ok (.tup [r,.lst (ps'.map Qi)])/\Flg kSums xs (a,d) r b/\IS (xs++[(a,d)]) ps':=by
 have hs:Qcl 0 5 [.lst (ps.map Qi),.int (a:Int),d]=[.own (.lst (ps.map Qi)),.val (.int (a:Int)),.val d,.un,.un]:=rfl
 unfold Qbf runM Qcy
 rw [hs,Qo8]
 have hn:=I.now
 have hln:=I.len
 cases h with
 | add x =>
  refine ⟨.tup [.non,.non,.bl (decide (0<=lst1 ps + x))],decide (0<=lst1 ps + x),ps++[(lst1 ps + x,(a:Int))],?_,⟨⟨_,_,rfl⟩,by rw [QnO,hn]⟩,⟨?_,by simp;lia⟩⟩
  ·have hM:(ps.map Qi).length < sizeLine:=by rw [List.length_map];exact QV (by lia)
   have em:(ps++[(lst1 ps + x,(a:Int))]).map Qi=ps.map Qi++[.tup [.int (lst1 ps + x),.int (a:Int)]]:=by simp [Qi]
   rw [em]
   generalize ps.map Qi=M at *
   simp?! [QU,sApp,hM]
  ·rw [Qmk,Qb3,QhC,hn]
   have e:vals [(a,D.tup [.str "add",.int x])]=[x]:=by simp [vals,val]
   rw [e];simp [sN]
 | many =>
  have v:=Qfg (xs:=xs) (a:=a) (d:=.tup [.str "many"]) rfl
  refine ⟨.tup [.int (lst1 ps),.non,.bl true],true,ps,?_,⟨⟨_,_,rfl⟩,v.2⟩,⟨by rw [v.1];exact hn,by simp;lia⟩⟩
  generalize ps.map Qi=M at *
  simp?! [QU]
 | peak =>
  have v:=Qfg (xs:=xs) (a:=a) (d:=.tup [.str "peak"]) rfl
  refine ⟨.tup [.int ((ps.map (·.1)).foldl max 0),.non,.bl true],true,ps,?_,⟨⟨_,_,rfl⟩,v.2⟩,⟨by rw [v.1];exact hn,by simp;lia⟩⟩
  have f:=Qmn ps
  have g:=Ql4 0 (ps.map (·.1))
  have hM:(ps.map Qi).length<=sizeLine:=by rw [List.length_map];exact Nat.le_of_lt (QV (by lia))
  have hM2:((ps.map (·.1)).map D.int).length + 1<=sizeLine:=by rw [List.length_map,List.length_map];exact Nat.le_of_lt (QV (by lia))
  generalize ps.map Qi=M at *
  generalize (ps.map (·.1)).foldl max 0=z at *
  generalize (ps.map (·.1)).map D.int=M2 at *
  have hc:gCat (.lst [.int 0]) (.lst M2)=.ok (.lst (.int 0::M2)):=by
   have:[D.int 0].length + M2.length<=sizeLine:=by simp only [List.length_cons,List.length_nil];lia
   simp only [gCat,this,if_true,List.cons_append,List.nil_append]
  simp?! [QU,QgX,QeQ,f,hM,hc,g]
 | reach x hx =>
  have v:=Qfg (xs:=xs) (a:=a) (d:=.tup [.str "reach",.int x]) rfl
  rcases Qfj x (.int (a:Int)) (.val (.int (lst1 ps))) (.lst (ps.map Qi)) ps .un with ⟨s4',q⟩ | ⟨t,q⟩
  ·refine ⟨.tup [.non,.non,.bl true],true,ps,?_,⟨⟨_,_,rfl⟩,v.2⟩,⟨by rw [v.1];exact hn,by simp;lia⟩⟩
   generalize ps.map Qi=M at *
   simp?! [Qe1,q,QU]
  ·refine ⟨.tup [.int t,.int t,.bl true],true,ps,?_,⟨⟨_,_,rfl⟩,v.2⟩,⟨by rw [v.1];exact hn,by simp;lia⟩⟩
   generalize ps.map Qi=M at *
   simp?! [Qe1,q]
structure IR (xs:List (Nat×D)) (ps:List (Int×Int)):Prop where
 now:(ps.length:Int)=lf (zs xs)
 len:ps.length<=xs.length
def okR (xs:List (Nat×D)):Bool:=decide (lk (zs xs)=0)
theorem QcN (xs:List (Nat×D)) (a:Nat) (d:D):zs (xs++[(a,d)])=zs xs++[zOf d]:=by simp [zs]
theorem z_put (xs:List Int):lf (xs++[1])=lf xs + 1/\lk (xs++[1])=lk xs:=by
 have h:=Qet xs
 rw [QfK,QcD]
 simp [lf,lk];lia
theorem QoT (xs:List Int):lf (xs++[-1])=max 0 (lf xs - 1)/\lk (xs++[-1])=lk xs + max 0 (1 - lf xs):=by
 have h:=Qet xs
 rw [QfK,QcD]
 simp [lf,lk]
theorem z_oth (xs:List Int):lf (xs++[0])=lf xs/\lk (xs++[0])=lk xs:=by
 have h:=Qet xs
 rw [QfK,QcD]
 simp [lf,lk];lia
def ord (w:Int) (ps:List (Int×Int)):List (Int×Int):=if w=3 then Qr ps else if w=1 then ps.reverse else ps
theorem QiM (w:Int) (ps:List (Int×Int)):(ord w ps).Perm ps:=by
 unfold ord
 split
 ·exact Bgk.ps_perm ps
 ·split
  ·exact List.reverse_perm ps
  ·exact .refl _
theorem QmG {w:Int} (hw:1<=w/\w<=3) (ps:List (Int×Int)) (hl:ps.length<=60) (a d:D) (s5:Sl):∀ k:Sm,sSeq (sSet 4 (Qdm 1)) (sSeq (sIf (fAsB (f2 gEq (fVar 0) (fC (.int 1)))) (sSeq (sSet 4 (Qik 1)) Qb) Qb) (sSeq (sIf (fAsB (f2 gEq (fVar 0) (fC (.int 3)))) (sSeq (sSet 4 (f1 QbD (fVar 1))) Qb) Qb) k)) [.val (.int w),.own (.lst (ps.map Qi)),.val a,.val d,.un,s5]=k [.val (.int w),.own (.lst (ps.map Qi)),.val a,.val d,.val (.lst ((ord w ps).map Qi)),s5]:=fun k=>by
 have g:=Qdg (ps:=ps) (by lia)
 have r:(ps.map Qi).reverse=ps.reverse.map Qi:=by rw [List.map_reverse]
 obtain rfl | rfl | rfl:w=1\/w=2\/w=3:=by lia
 ·have e:ord 1 ps=ps.reverse:=by simp (decide:=true) [ord]
  rw [e,← r]
  generalize ps.map Qi=M at *
  simp?! [Qdm,Qik]
 ·have e:ord 2 ps=ps:=by simp (decide:=true) [ord]
  rw [e]
  generalize ps.map Qi=M at *
  simp?! [Qdm]
 ·have e:ord 3 ps=Qr ps:=by simp (decide:=true) [ord]
  rw [e]
  generalize (Qr ps).map Qi=M' at *
  generalize ps.map Qi=M at *
  simp?! [Qdm,g]
theorem Qkq (A M a:D) {w:Str} (r:List D) (h1:w≠"put") (h2:w≠"many"):∀ (G:Sm),sSeq (sIf (fAsB (f2 gEq (f2 gIx (fVar 3) (fC (.int 0))) (fC (.str "put")))) (sSeq (sApp 1 (fTup [(f2 gIx (Qe 3) (fC (.int 1))),(Qe 2)])) (sSeq (QU 1 (fTup [(fC .non),(fC .non),(fC (.bl true))])) Qb)) Qb) (sSeq (sIf (fAsB (f2 gEq (f2 gIx (fVar 3) (fC (.int 0))) (fC (.str "many")))) (sSeq (QU 1 (fTup [(Qf gLen [(fVar 1)]),(fC .non),(fC (.bl true))])) Qb) Qb) G) [.val A,.own M,.val a,.val (.tup (.str w::r)),.un,.un]=G [.val A,.own M,.val a,.val (.tup (.str w::r)),.un,.un]:=fun G=>by
 simp?! [h1,h2]
theorem QmJ {K:Kd} (hK:∀ xs,K.okr xs=okR xs) {w:Int} (hw:1<=w/\w<=3) {xs:List (Nat×D)} {ps:List (Int×Int)} (I:IR xs ps) (a:Nat) {d:D} (h:OkR d) (hl:xs.length<=60):∃ r b ps',QbI [.int w,.lst (ps.map Qi),.int (a:Int),d]=.ok (.tup [r,.lst (ps'.map Qi)])/\Flg K xs (a,d) r b/\IR (xs++[(a,d)]) ps':=by
 have hs:Qcl 1 6 [.int w,.lst (ps.map Qi),.int (a:Int),d]=[.val (.int w),.own (.lst (ps.map Qi)),.val (.int (a:Int)),.val d,.un,.un]:=rfl
 have hn:=I.now
 have hln:=I.len
 have hlf:=Qet (zs xs)
 have hlk:=Qcv (zs xs)
 have fl:∀ {r:D} {b:Bool},(∃ u v,r=.tup [u,v,.bl b])->okR (xs++[(a,d)])=(okR xs && b)->Flg K xs (a,d) r b:=fun h1 h2=>⟨h1,by rw [hK,hK];exact h2⟩
 have oth:zOf d=0->okR (xs++[(a,d)])=(okR xs && true)/\IR (xs++[(a,d)]) ps:=fun hz=>by
  have z:=z_oth (zs xs)
  refine ⟨?_,?_,by simp;lia⟩
  ·unfold okR;rw [QcN,hz,z.2,Bool.and_true]
  ·rw [QcN,hz,z.1];exact hn
 unfold QbI runM Qdp
 rw [hs]
 have hM:(ps.map Qi).length < sizeLine:=by rw [List.length_map];exact QV (by lia)
 obtain ⟨z,h⟩:=h
 cases h with
 | put x =>
  have z:=z_put (zs xs)
  refine ⟨.tup [.non,.non,.bl true],true,ps++[(x,(a:Int))],?_,fl ⟨_,_,rfl⟩ ?_,⟨?_,by simp;lia⟩⟩
  ·have em:(ps++[(x,(a:Int))]).map Qi=ps.map Qi++[.tup [.int x,.int (a:Int)]]:=by simp [Qi]
   rw [em]
   generalize ps.map Qi=M at *
   simp?! [QU,sApp,hM]
  ·unfold okR;rw [QcN,Bool.and_true];show decide (lk (zs xs++[1])=0)=_;rw [z.2]
  ·rw [QcN];show _=lf (zs xs++[1]);rw [z.1];simp;lia
 | many =>
  obtain ⟨o1,o2⟩:=oth rfl
  refine ⟨.tup [.int ((ps.map Qi).length:Int),.non,.bl true],true,ps,?_,fl ⟨_,_,rfl⟩ o1,o2⟩
  generalize ps.map Qi=M at *
  simp?! [QU]
 | take =>
  have z:=QoT (zs xs)
  have o:=QmG hw ps (by lia) (.int (a:Int)) (.tup [.str "take"]) .un
  have pre:=Qkq (.int w) (.lst (ps.map Qi)) (.int (a:Int)) (w:="take") [] (by decide) (by decide)
  have hp:=QiM w ps
  have hz:zOf (.tup [.str "take"])=-1:=rfl
  cases e:ord w ps with
  | nil =>
   rw [e] at hp o
   have e0:ps=[]:=List.nil_perm.mp hp
   subst e0
   refine ⟨.tup [.non,.non,.bl false],false,[],?_,fl ⟨_,_,rfl⟩ ?_,⟨?_,by simp⟩⟩
   ·rw [pre,o];simp?! [QU]
   ·unfold okR;rw [QcN,hz,z.2,Bool.and_false,decide_eq_false_iff_not]
    simp only [List.length_nil] at hn;lia
   ·rw [QcN,hz,z.1];simp only [List.length_nil] at hn ⊢;lia
  | cons q qs =>
   rw [e] at hp o
   have hq:q∈ps:=hp.mem_iff.mp List.mem_cons_self
   have hpos:0 < ps.length:=List.length_pos_of_mem hq
   have hle:=List.length_erase_of_mem hq
   refine ⟨.tup [.int q.1,.int q.2,.bl true],true,ps.erase q,?_,fl ⟨_,_,rfl⟩ ?_,⟨?_,by rw [hle];simp;lia⟩⟩
   ·have pm:=Qcr ps
    have p1:=Qcr [q]
    rw [List.map_cons,List.map_nil] at p1
    rw [List.map_cons] at o
    generalize qs.map Qi=Q at *
    have hQ:¬ ((Q.length:Int) + 1<=0):=by lia
    generalize ps.map Qi=M at *
    rw [pre,o]
    have p1':Qa8 [.tup [.int q.1,.int q.2]]=some [q]:=p1
    simp?! [QU,hQ,Qi,QkD,pm,p1',hq]
   ·unfold okR;rw [QcN,hz,z.2,Bool.and_true]
    have:max 0 (1 - lf (zs xs))=0:=by lia
    rw [this,Int.add_zero]
   ·rw [QcN,hz,z.1,hle];lia
 | look x hx =>
  obtain ⟨o1,o2⟩:=oth rfl
  have o:=QmG hw ps (by lia) (.int (a:Int)) (.tup [.str "look",.int x]) .un
  have pre:=Qkq (.int w) (.lst (ps.map Qi)) (.int (a:Int)) (w:="look") [.int x] (by decide) (by decide)
  have hp:=(QiM w ps).length_eq
  by_cases c:((ord w ps).length:Int)<=x
  ·refine ⟨.tup [.non,.non,.bl true],true,ps,?_,fl ⟨_,_,rfl⟩ o1,o2⟩
   have c':(((ord w ps).map Qi).length:Int)<=x:=by rw [List.length_map];exact c
   generalize (ord w ps).map Qi=M' at *
   generalize ps.map Qi=M at *
   rw [pre,o]
   simp?! [QU,c']
  ·obtain ⟨n,rfl⟩:∃ n:Nat,x=n:=⟨x.toNat,by lia⟩
   have hnl:n < (ord w ps).length:=by lia
   have c':¬ (((ord w ps).map Qi).length:Int)<=(n:Int):=by rw [List.length_map];exact c
   have hi:atI ((ord w ps).map Qi) (n:Int)=some (Qi (ord w ps)[n]):=by
    unfold atI ixN
    rw [if_pos (by lia),List.length_map]
    simp [hnl]
   refine ⟨.tup [.int (ord w ps)[n].1,.int (ord w ps)[n].2,.bl true],true,ps,?_,fl ⟨_,_,rfl⟩ o1,o2⟩
   generalize (ord w ps)[n]=q at *
   generalize (ord w ps).map Qi=M' at *
   generalize ps.map Qi=M at *
   rw [pre,o]
   simp?! [QU,c',gIx,hi,Qi]
open Nmk in
structure IN (xs:List (Nat×D)) (es:List En):Prop where
 nd:Nd es
 now:∀ x,(gt es x).isSome=has (gt (runs (opsL xs)).2 x)
 len:es.length<=xs.length
open Nmk in
theorem Qdw (xs:List (Nat×D)) (a:Nat) (d:D):runs (opsL (xs++[(a,d)]))=stp (runs (opsL xs)) ((a:Int),opOf d):=by
 rw [QcO]
 unfold runs
 rw [List.foldl_append]
 rfl
open Nmk in
theorem Qkh (f:En->D) (x:Str):∀ es:List En,QcI (kS es) (.inr x)=kS (es.filter fun e=>decide (e.1≠x))/\Qbm (kS es) (es.map f) (.inr x)=(es.filter fun e=>decide (e.1≠x)).map f
 | []=>⟨rfl,rfl⟩
 | e::es=>by
  obtain ⟨i1,i2⟩:=Qkh f x es
  unfold QcI at i1 ⊢
  unfold kS at i1 i2 ⊢
  by_cases h:e.1=x
  ·have h':(Sum.inr e.1:Key)=Sum.inr x:=by rw [h]
   constructor
   ·rw [List.map_cons,List.filter_cons_of_neg (by simpa using h'),List.filter_cons_of_neg (by simpa using h)];exact i1
   ·rw [List.filter_cons_of_neg (by simpa using h)]
    simp only [List.map_cons,Qbm,if_pos h'];exact i2
  ·have h':=QfN h
   constructor
   ·rw [List.map_cons,List.filter_cons_of_pos (by simpa using h'),List.filter_cons_of_pos (by simpa using h),List.map_cons,i1]
   ·rw [List.filter_cons_of_pos (by simpa using h)]
    simp only [List.map_cons,Qbm,if_neg h',i2]
open Nmk in
theorem Qkk (x z:Str):∀ es:List En,gt (es.filter fun e=>decide (e.1≠x)) z=if z=x then none else gt es z
 | []=>by simp [gt]
 | e::es=>by
  have ih:=Qkk x z es
  by_cases h:e.1=x
  ·rw [List.filter_cons_of_neg (by simpa using h),ih]
   by_cases h2:z=x
   ·simp [h2]
   ·have h3:¬ e.1=z:=fun q=>h2 (q.symm.trans h)
    simp [h2,gt,h3]
  ·rw [List.filter_cons_of_pos (by simpa using h)]
   show (if e.1=z then some e.2 else gt (es.filter fun e=>decide (e.1≠x)) z)=_
   rw [ih]
   by_cases h3:e.1=z
   ·have h2:¬ z=x:=fun q=>h (h3.trans q)
    simp [h2,gt,h3]
   ·simp [gt,h3]
open Nmk in
theorem QmM {x:Str} {y:Bool×Ls}:∀ {es:List En},gt es x=some y->(x,y)∈es
 | [],h=>by cases h
 | e::es,h=>by
  by_cases c:e.1=x
  ·simp [gt,c] at h;subst h;subst c;exact List.mem_cons_self
  ·simp [gt,c] at h;exact List.mem_cons_of_mem _ (QmM h)
open Nmk in
theorem Qmv {x:Str} {y:Bool×Ls} {e:En}:∀ {es:List En},e∈pt es x y->e=(x,y)\/e∈es
 | [],h=>by simp [pt] at h;exact .inl h
 | f::es,h=>by
  by_cases c:f.1=x
  ·simp only [pt,c,if_true] at h
   rcases List.mem_cons.mp h with h | h
   ·exact .inl h
   ·exact .inr (List.mem_cons_of_mem _ h)
  ·simp only [pt,c,if_false] at h
   rcases List.mem_cons.mp h with h | h
   ·exact .inr (h ▸ List.mem_cons_self)
   ·rcases Qmv h with h | h
    ·exact .inl h
    ·exact .inr (List.mem_cons_of_mem _ h)
open Nmk in
theorem Qjz {xs:List (Nat×D)} {es:List En} (I:IN xs es) (hv:∀ e∈es,∃ v t:Int,fL e=.tup [.int v,.int t]) (a:Nat) {d:D} (h:OkN d) (hl:xs.length<=60):∃ r b es',Qa2 [.dic (kS es) (es.map fL),.int (a:Int),d]=.ok (.tup [r,.dic (kS es') (es'.map fL)])/\Flg kNames xs (a,d) r b/\IN (xs++[(a,d)]) es'/\∀ e∈es',∃ v t:Int,fL e=.tup [.int v,.int t]:=by
 have hs:Qcl 0 4 [.dic (kS es) (es.map fL),.int (a:Int),d]=[.own (.dic (kS es) (es.map fL)),.val (.int (a:Int)),.val d,.un]:=rfl
 have hln:=I.len
 have hnd:=I.nd
 have hnw:=I.now
 have hge:0<=(runs (opsL xs)).1:=QgR (opsL xs) (0,[])
 have kl:(kS es).length < sizeLine:=by rw [QiZ];exact QV (by lia)
 have dl:(es.map fL).length=(kS es).length:=by rw [QiZ,List.length_map]
 have ok1:kNames.okr (xs++[(a,d)])=decide ((stp (runs (opsL xs)) ((a:Int),opOf d)).1=0):=by
  show decide ((runs (opsL (xs++[(a,d)]))).1=0)=_
  rw [Qdw]
 have ok0:kNames.okr xs=decide ((runs (opsL xs)).1=0):=rfl
 have oth:opOf d=none->kNames.okr (xs++[(a,d)])=(kNames.okr xs && true)/\IN (xs++[(a,d)]) es:=fun ho=>by
  refine ⟨by rw [ok1,ho,ok0,Bool.and_true];rfl,hnd,fun x=>?_,by simp;lia⟩
  rw [Qdw,ho];exact hnw x
 unfold Qa2 runM Qcm
 rw [hs]
 obtain ⟨o,h⟩:=h
 have hop:=h.op
 cases h with
 | many =>
  obtain ⟨o1,o2⟩:=oth hop
  refine ⟨.tup [.int ((kS es).length:Int),.non,.bl true],true,es,?_,⟨⟨_,_,rfl⟩,o1⟩,o2,hv⟩
  generalize es.map fL=M at *
  generalize kS es=N at *
  simp?! [QU,dl,gLen]
 | set x v =>
  have pk:=Qj3 x (false,some (v,(a:Int))) es
  have pv:=Qj0 fL x (false,some (v,(a:Int))) hnd (d:=.tup [.int v,.int (a:Int)]) rfl
  refine ⟨.tup [.non,.non,.bl true],true,pt es x (false,some (v,(a:Int))),?_,⟨⟨_,_,rfl⟩,?_⟩,⟨QfY hnd _ _,fun z=>?_,?_⟩,fun e he=>?_⟩
  ·generalize (pt es x (false,some (v,(a:Int)))).map fL=M' at *
   generalize kS (pt es x (false,some (v,(a:Int))))=N' at *
   generalize es.map fL=M at *
   generalize kS es=N at *
   simp?! [QU,DL.sDPut,keyD,kl,pk,pv]
  ·rw [ok1,hop,ok0,Bool.and_true];rfl
  ·rw [Qdw,hop,QfI]
   simp only [stp,QfI]
   by_cases hz:x=z
   ·simp [hz,has]
   ·simp only [hz,if_false];exact hnw z
  ·have:=Qhj es x (false,some (v,(a:Int)));simp;lia
  ·rcases Qmv he with rfl | he
   ·exact ⟨v,a,rfl⟩
   ·exact hv e he
 | look x =>
  obtain ⟨o1,o2⟩:=oth hop
  have dg:=QeR fL x es
  cases hg:gt es x with
  | none =>
   rw [hg] at dg
   refine ⟨.tup [.non,.non,.bl true],true,es,?_,⟨⟨_,_,rfl⟩,o1⟩,o2,hv⟩
   generalize es.map fL=M at *
   generalize kS es=N at *
   simp?! [QU,gDIn,keyD,dl,dg]
  | some y =>
   rw [hg] at dg
   obtain ⟨v,t,hvt⟩:=hv (x,y) (QmM hg)
   rw [Option.map_some,hvt] at dg
   refine ⟨.tup [.int v,.int t,.bl true],true,es,?_,⟨⟨_,_,rfl⟩,o1⟩,o2,hv⟩
   generalize es.map fL=M at *
   generalize kS es=N at *
   simp?! [QU,gDIn,keyD,dl,dg,fIxD,gDIx]
 | drop x =>
  have dg:=QeR fL x es
  have hb:=hnw x
  have okx:kNames.okr (xs++[(a,.tup [.str "drop",.str x])])=(kNames.okr xs && (gt es x).isSome):=by
   rw [ok1,hop,ok0,hb]
   show decide ((runs (opsL xs)).1 + (if has (gt (runs (opsL xs)).2 x)=true then 0 else 1)=0)=_
   cases has (gt (runs (opsL xs)).2 x) with
   | true=>simp
   | false=>simp;lia
  have nowx:∀ z,(if z=x then none else gt es z).isSome=has (gt (runs (opsL (xs++[(a,.tup [.str "drop",.str x])]))).2 z):=fun z=>by
   rw [Qdw,hop]
   simp only [stp,QfI]
   by_cases hz:z=x
   ·subst hz;simp [has]
   ·have hz':¬ x=z:=fun q=>hz q.symm
    simp only [hz,hz',if_false];exact hnw z
  cases hg:gt es x with
  | none =>
   rw [hg] at dg okx
   refine ⟨.tup [.non,.non,.bl false],false,es,?_,⟨⟨_,_,rfl⟩,okx⟩,⟨hnd,fun z=>?_,by simp;lia⟩,hv⟩
   ·generalize es.map fL=M at *
    generalize kS es=N at *
    simp?! [QU,gDIn,keyD,dl,dg]
   ·rw [← nowx z]
    by_cases hz:z=x
    ·subst hz;simp [hg]
    ·simp [hz]
  | some y =>
   rw [hg] at dg okx
   obtain ⟨v,t,hvt⟩:=hv (x,y) (QmM hg)
   rw [Option.map_some,hvt] at dg
   obtain ⟨d1,d2⟩:=Qkh fL x es
   refine ⟨.tup [.int v,.int t,.bl true],true,es.filter fun e=>decide (e.1≠x),?_,⟨⟨_,_,rfl⟩,okx⟩,⟨?_,fun z=>?_,?_⟩,fun e he=>hv e (List.mem_filter.mp he).1⟩
   ·generalize (es.filter fun e=>decide (e.1≠x)).map fL=M' at *
    generalize kS (es.filter fun e=>decide (e.1≠x))=N' at *
    generalize es.map fL=M at *
    generalize kS es=N at *
    simp?! [QU,gDIn,keyD,dl,dg,fIxD,gDIx,sDPop,d1,d2]
   ·exact hnd.sublist (List.Sublist.map _ List.filter_sublist)
   ·rw [Qkk,nowx]
   ·have:=List.length_filter_le (fun e:En=>decide (e.1≠x)) es
    simp only [List.length_append,List.length_cons,List.length_nil];lia
end
section
open Tr
inductive Way:Kd->Int->Prop
 | sums:Way kSums 0
 | pile:Way kPile 1
 | line:Way kLine 2
 | bag:Way kBag 3
 | names:Way kNames 4
inductive Inv:Int->List (Nat×D)->D->D->Prop
 | sums {xs:List (Nat×D)} {ps:List (Int×Int)} (I:IS xs ps):Inv 0 xs (.lst (ps.map Qi)) (.dic [] [])
 | row {w:Int} {xs:List (Nat×D)} {ps:List (Int×Int)} (hw:1<=w/\w<=3) (I:IR xs ps):Inv w xs (.lst (ps.map Qi)) (.dic [] [])
 | names {xs:List (Nat×D)} {es:List Nmk.En} (I:IN xs es) (hv:∀ e∈es,∃ v t:Int,Nmk.fL e=.tup [.int v,.int t]):Inv 4 xs (.lst []) (.dic (Nmk.kS es) (es.map Nmk.fL))
theorem inv0 {K:Kd} {w:Int} (h:Way K w):Inv w [] (.lst []) (.dic [] []):=by
 have r:∀ {w:Int},(1<=w/\w<=3)->Inv w [] (.lst []) (.dic [] []):=fun hw=>Inv.row (ps:=[]) hw ⟨rfl,Nat.le_refl _⟩
 cases h
 ·exact Inv.sums (ps:=[]) ⟨rfl,Nat.le_refl _⟩
 ·exact r (by decide)
 ·exact r (by decide)
 ·exact r (by decide)
 ·exact Inv.names (es:=[]) ⟨.nil,fun x=>rfl,Nat.le_refl _⟩ (fun e he=>by cases he)
abbrev bRep:Sm:=(sSeq (sIf (fAsB (f2 gEq (fVar 0) (fC (.int 0)))) (sSeq (QcF 4 (Qa9 2 (Qbf) [.inr 2,.inl (Qe 5),.inl (Qe 6)])) Qb) (sSeq (sIf (fAsB (f2 gEq (fVar 0) (fC (.int 4)))) (sSeq (QcF 4 (Qa9 3 (Qa2) [.inr 3,.inl (Qe 5),.inl (Qe 6)])) Qb) (sSeq (QcF 4 (Qa9 2 (QbI) [.inl (Qe 0),.inr 2,.inl (Qe 5),.inl (Qe 6)])) Qb)) Qb)) Qb)
theorem Qk6 {K:Kd} {w:Int} (hW:Way K w) {xs:List (Nat×D)} {S N:D} (I:Inv w xs S N) (a:Nat) {d:D} (hd:K.Okd d) (hl:xs.length<=60) {out:List D} (ho:out.length<=60) (R:Sl):∃ r b S' N',bRep [.val (.int w),R,.own S,.own N,.own (.lst out),.val (.int (a:Int)),.val d]=.ok (.nx [.val (.int w),R,.own S',.own N',.own (.lst (out++[r])),.val (.int (a:Int)),.val d])/\Flg K xs (a,d) r b/\Inv w (xs++[(a,d)]) S' N':=by
 have hO:out.length < sizeLine:=QV (by lia)
 have row:(1<=w/\w<=3)->(∀ xs,K.okr xs=okR xs)->OkR d->∃ r b S' N',bRep [.val (.int w),R,.own S,.own N,.own (.lst out),.val (.int (a:Int)),.val d]=.ok (.nx [.val (.int w),R,.own S',.own N',.own (.lst (out++[r])),.val (.int (a:Int)),.val d])/\Flg K xs (a,d) r b/\Inv w (xs++[(a,d)]) S' N':=fun hw hK hd=>by
  cases I with
  | sums I=>lia
  | names I _=>lia
  | row hw' I =>
   rename_i ps
   obtain ⟨r,b,ps',q,f,I'⟩:=QmJ (K:=K) hK hw I a hd hl
   refine ⟨r,b,_,_,?_,f,.row hw I'⟩
   have n0:¬ w=0:=by lia
   have n4:¬ w=4:=by lia
   generalize ps.map Qi=M at *
   generalize ps'.map Qi=M' at *
   simp?! [n0,n4,QcF,Qa9,Qcp,q,hO]
 cases hW with
 | pile=>exact row (by decide) (fun _=>rfl) hd
 | line=>exact row (by decide) (fun _=>rfl) hd
 | bag=>exact row (by decide) (fun _=>rfl) hd
 | sums =>
  cases I with
  | row h _=>lia
  | sums I =>
   rename_i ps
   obtain ⟨r,b,ps',q,f,I'⟩:=QkM I a hd hl
   refine ⟨r,b,_,_,?_,f,.sums I'⟩
   generalize ps.map Qi=M at *
   generalize ps'.map Qi=M' at *
   simp?! [QcF,Qa9,Qcp,q,hO]
 | names =>
  cases I with
  | row h _=>lia
  | names I hv =>
   rename_i es
   obtain ⟨r,b,es',q,f,I',hv'⟩:=Qjz I hv a hd hl
   refine ⟨r,b,_,_,?_,f,.names I' hv'⟩
   generalize es.map Nmk.fL=M at *
   generalize es'.map Nmk.fL=M' at *
   generalize Nmk.kS es=N at *
   generalize Nmk.kS es'=N' at *
   simp?! [QcF,Qa9,Qcp,q,hO]
inductive Outs (K:Kd):List (Nat×D)->List (Nat×D)->List D->Prop
 | nil {xs:List (Nat×D)}:Outs K xs [] []
 | cons {xs l:List (Nat×D)} {p:Nat×D} {r:D} {rs:List D} {b:Bool} (f:Flg K xs p r b) (o:Outs K (xs++[p]) l rs):Outs K xs (p::l) (r::rs)
theorem QiE {K:Kd} {w:Int} (hW:Way K w) (R:Sl):∀ (l xs:List (Nat×D)) (S N:D) (out:List D) (s5 s6:Sl),Inv w xs S N->(∀ p∈l,K.Okd p.2)->xs.length + l.length<=60->out.length + l.length<=60->∃ rs S' N' s5' s6',forL (gNm2 5 6) bRep (l.map prD) [.val (.int w),R,.own S,.own N,.own (.lst out),s5,s6]=.ok (.nx [.val (.int w),R,.own S',.own N',.own (.lst (out++rs)),s5',s6'])/\Outs K xs l rs
 | [],xs,S,N,out,s5,s6,I,_,_,_=>⟨[],S,N,s5,s6,by simp [forL],.nil⟩
 | p::l,xs,S,N,out,s5,s6,I,hok,h1,h2=>by
  simp only [List.length_cons] at h1 h2
  obtain ⟨r,b,S',N',q,f,I'⟩:=Qk6 hW I p.1 (d:=p.2) (hok p List.mem_cons_self) (by lia) (out:=out) (by lia) R
  obtain ⟨rs,S2,N2,s5',s6',q2,o⟩:=QiE hW R l (xs++[p]) S' N' (out++[r]) (.val (.int (p.1:Int))) (.val p.2) I' (fun p hp=>hok p (List.mem_cons_of_mem _ hp)) (by simp;lia) (by simp;lia)
  refine ⟨r::rs,S2,N2,s5',s6',?_,.cons f o⟩
  rw [List.map_cons,Qck (δ1:=[.val (.int w),R,.own S,.own N,.own (.lst out),.val (.int (p.1:Int)),.val p.2]) rfl q,q2]
  simp
theorem QkK {K:Kd} {w:Int} (hW:Way K w) {l:List (Nat×D)} (hok:∀ p∈l,K.Okd p.2) (hl:l.length<=60):∃ rs,Qbc [.int w,.lst (l.map prD)]=.ok (.lst rs)/\Outs K [] l rs:=by
 obtain ⟨rs,S',N',s5',s6',q,o⟩:=QiE hW (.val (.lst (l.map prD))) l [] _ _ [] .un .un (inv0 hW) hok (by simpa using hl) (by simpa using hl)
 refine ⟨rs,?_,o⟩
 rw [List.nil_append] at q
 generalize l.map prD=M at *
 simp?! [Qbc,QbX,QjM,sFor,q,thaw,QjR]
theorem QdS (lo:Int) (n:Nat):rng lo (n + 1)=.int lo::rng (lo + 1) n:=by
 unfold rng
 rw [List.range_succ_eq_map,List.map_cons,List.map_map]
 congr 1
 ·simp
 ·refine List.map_congr_left fun k _=>?_
  simp only [Function.comp]
  congr 1
  lia
theorem atN {l:List D} {i:Nat} {d:D} (h:l[i]? = some d):atI l (i:Int)=some d:=by
 obtain ⟨hi,rfl⟩:=List.getElem?_eq_some_iff.mp h
 unfold atI ixN
 simp [hi]
theorem QgQ {K:Kd} (s0 s1:Sl) (L R:List D):∀ (l xs A:List (Nat×D)) (rs RA:List D) (s4:Sl),Outs K xs l rs->K.okr xs=true->L=(A++l).map prD->R=RA++rs->RA.length=A.length->∃ s4',forL (gNm 4) (sSeq (sIf (Qeq (fTru (f2 gIx (f2 gIx (fVar 3) (fVar 4)) (fC (.int 2))))) (sSeq (sRet (f2 gIx (f2 gIx (fVar 2) (fVar 4)) (fC (.int 0)))) Qb) Qb) Qb) (rng (A.length:Int) l.length) [s0,s1,.val (.lst L),.val (.lst R),s4]=.ok (match fb K xs l with
  | some a=>.rt (.int (a:Int))
  | none=>.nx [s0,s1,.val (.lst L),.val (.lst R),s4'])
 | [],xs,A,rs,RA,s4,o,_,_,_,_=>⟨s4,rfl⟩
 | p::l,xs,A,rs,RA,s4,o,h0,hL,hR,hA=>by
  cases o with
  | cons f o =>
  rename_i r rs' b
  obtain ⟨⟨u,v,rfl⟩,hok⟩:=f
  rw [h0,Bool.true_and] at hok
  have i1:atI L (A.length:Int)=some (prD p):=atN (by rw [hL];simp)
  have i2:atI R (A.length:Int)=some (.tup [u,v,.bl b]):=atN (by rw [hR,← hA];simp)
  have e0:fb K xs (p::l)=if K.okr (xs++[p])=true then fb K (xs++[p]) l else some p.1:=rfl
  rw [e0,hok,List.length_cons,QdS]
  cases b with
  | false =>
   refine ⟨s4,?_⟩
   refine Qku (δ1:=[s0,s1,.val (.lst L),.val (.lst R),.val (.int (A.length:Int))]) rfl ?_
   generalize (A.length:Int)=n at *
   simp?! [gIx,i1,i2,prD]
  | true =>
   obtain ⟨s4',q⟩:=QgQ s0 s1 L R l (xs++[p]) (A++[p]) rs' (RA++[.tup [u,v,.bl true]]) (.val (.int (A.length:Int))) o hok (by rw [hL];simp) (by rw [hR];simp) (by simp [hA])
   refine ⟨s4',?_⟩
   rw [if_pos rfl,← q]
   have e1:((A++[p]).length:Int)=(A.length:Int) + 1:=by simp
   rw [e1]
   refine Qck (δ1:=[s0,s1,.val (.lst L),.val (.lst R),.val (.int (A.length:Int))]) rfl ?_
   generalize (A.length:Int)=n at *
   simp?! [gIx,i1,i2,prD]
theorem Qln (al:List (Nat×D)) (hn:(al.map (·.1)).Nodup):∃ l:List (Nat×D),l.Perm al/\l.Pairwise (fun x y=>x.1 < y.1)/\QdN (al.map fun p=>(p.1:Int))=l.map fun p=>(p.1:Int):=by
 have hp:(al.mergeSort fun a b=>decide (a.1<=b.1)).Perm al:=List.mergeSort_perm _ _
 have hs:=List.pairwise_mergeSort (le:=fun a b:Nat×D=>decide (a.1<=b.1)) (fun a b c h1 h2=>by simp only [decide_eq_true_eq] at *;lia) (fun a b=>by simp only [Bool.or_eq_true,decide_eq_true_eq];lia) al
 generalize (al.mergeSort fun a b=>decide (a.1<=b.1))=l at *
 have hn':(l.map (·.1)).Nodup:=(hp.map _).nodup_iff.mpr hn
 have hlt:l.Pairwise (fun x y=>x.1 < y.1):=by
  rw [List.Nodup,List.pairwise_map] at hn'
  exact (hs.and hn').imp fun ⟨h1,h2⟩=>by simp only [decide_eq_true_eq] at h1;lia
 refine ⟨l,hp,hlt,(QfH (hp.map _) ?_).symm⟩
 rw [List.pairwise_map]
 exact hlt.imp fun h=>by lia
theorem QkW {al:List (Nat×D)} (hl:al.length<=60):Qdq (dict al)=.ok (.lst ((QdN (al.map fun p=>(p.1:Int))).map D.int)):=by
 have e:Q4 al=(al.map fun p=>(p.1:Int)).map Sum.inl:=by unfold Q4;rw [List.map_map];rfl
 unfold Qdq dict
 simp only [e,QkV]
 rw [if_pos (by rw [List.length_map];lia)]
theorem Qfw {K:Kd} {w:Int} (hW:Way K w) {al:List (Nat×D)} (hn:(al.map (·.1)).Nodup) (hok:∀ p∈al,K.Okd p.2) (hl:al.length<=60):∃ l:List (Nat×D),l.Perm al/\l.Pairwise (fun x y=>x.1 < y.1)/\QJ [.int w,dict al]=.ok (opD (fb K [] l)):=by
 obtain ⟨l,hp,hlt,hk⟩:=Qln al hn
 refine ⟨l,hp,hlt,?_⟩
 have hs:=QkW (al:=al) (by lia)
 rw [hk] at hs
 have hll:=hp.length_eq
 have c:=Qiz al hn l (fun p h=>hp.mem_iff.mp h) .un
 obtain ⟨rs,q,o⟩:=QkK hW (l:=l) (fun p h=>hok p (hp.mem_iff.mp h)) (by lia)
 obtain ⟨s4',f⟩:=QgQ (K:=K) (.val (.int w)) (.val (dict al)) (l.map prD) rs l [] [] rs [] .un o K.ok0 rfl rfl rfl
 have e0:(([]:List (Nat×D)).length:Int)=0:=rfl
 rw [e0] at f
 have hlen:(l.map prD).length=l.length:=List.length_map _
 have hj:rOk (l.length:Int)=true:=by
  simp only [rOk,decide_eq_true_eq];lia
 have hle:((l.map fun p=>(p.1:Int)).map D.int).length<=sizeLine:=by
  rw [List.length_map,List.length_map];exact Nat.le_of_lt (QV (by lia))
 generalize l.map prD=M at *
 generalize (l.map fun p=>(p.1:Int)).map D.int=M2 at *
 generalize dict al=z at *
 have tn:((l.length:Int)).toNat=l.length:=by lia
 have dz:dsIn 1 [1] [.val (.int w),.val z,.un,.un,.un]=[.un,.val z]:=rfl
 cases e:fb K [] l with
 | none =>
  rw [e] at f
  simp? [QJ,Qbw,QbS,QgT,hs,hle,dz,c,q,hlen,sRng,hj,tn,f,opD]
 | some a =>
  rw [e] at f
  simp? [QJ,Qbw,QbS,QgT,hs,hle,dz,c,q,hlen,sRng,hj,tn,f,opD]
end
section
open Tr
theorem Qnb:("abcdefghijklmnopqrstuvwxyz":Str).cps.toList.length=26:=by decide
theorem QkQ:("abcdefghijklmnopqrstuvwxyz":Str).length<=sizeLine:=by decide
theorem Qhq (c:Int):∃ z,gIx (.str "abcdefghijklmnopqrstuvwxyz") (.int (c % 26))=.ok (.str ⟨#[z]⟩):=by
 have hm:=mod_lt c (m:=26) (by decide)
 obtain ⟨k,hk⟩:∃ k:Nat,c % 26=(k:Int):=⟨(c % 26).toNat,by lia⟩
 have hk2:k < ("abcdefghijklmnopqrstuvwxyz":Str).cps.toList.length:=by rw [Qnb];lia
 refine ⟨("abcdefghijklmnopqrstuvwxyz":Str).cps.toList[k],?_⟩
 have hs:=QkQ
 rw [hk]
 simp only [gIx]
 rw [if_pos hs,QfR hk2]
theorem add_str {x y:Str} (h:x.length + y.length<=1000):gAdd (.str x) (.str y)=.ok (.str (x++y)):=by
 simp only [gAdd]
 rw [if_pos (Nat.le_of_lt (QV h))]
theorem QnZ (z:Nat):(⟨#[z]⟩:Str).length=1:=rfl
theorem Qoz (k:Nat) (h:k < 30):(0:Int) < 2 ^ k/\(2:Int) ^ k < 1073741824:=by
 have h1:2 ^ k<=2 ^ 29:=Nat.pow_le_pow_right (by decide) (by lia)
 have h2:0 < 2 ^ k:=Nat.pow_pos (by decide)
 have e:((2 ^ k:Nat):Int)=(2:Int) ^ k:=by push_cast;rfl
 have h3:(2:Nat) ^ 29=536870912:=by decide
 lia
theorem QmL (h c:Int):∃ a:Nat,QY [.int h,.int c]=.ok (.int (a:Int))/\a < all:=by
 have key:∃ t:Int,QY [.int h,.int c]=.ok (.int t)/\0<=t/\t < 1073741824:=by
  have b1:=mod_lt (c / 3) (m:=1073741824) (by decide)
  by_cases h0:c % 3=0
  ·exact ⟨c / 3 % 1073741824,by simp?! [QY,Qaj,h0],b1⟩
  ·by_cases h1:c % 3=1
   ·have b2:=mod_lt (h / 3) (m:=27) (by decide)
    have b3:=mod_lt (c / 3) (m:=11) (by decide)
    have cp:cPow 1 (h / 3 % 27)=true:=by simp [cPow];lia
    have pb:=Qoz (h / 3 % 27).toNat (by lia)
    have cm:cMul (c / 3 % 11) (2 ^ (h / 3 % 27).toNat)=true:=by
     simp only [cMul,Bool.or_eq_true,Bool.and_eq_true,decide_eq_true_eq]
     left;lia
    exact ⟨(h / 7 + c / 3 % 11 * 2 ^ (h / 3 % 27).toNat) % 1073741824,by simp?! [QY,Qaj,h1,cp,cm],mod_lt _ (by decide)⟩
   ·have b2:=mod_lt (c / 3 / 4) (m:=30) (by decide)
    have b3:=mod_lt (c / 3) (m:=4) (by decide)
    have cp:cPow 1 (c / 3 / 4 % 30)=true:=by simp [cPow];lia
    have pb:=Qoz (c / 3 / 4 % 30).toNat (by lia)
    obtain e | e | e | e:c / 3 % 4=0\/c / 3 % 4=1\/c / 3 % 4=2\/c / 3 % 4=3:=by lia
    ·exact ⟨0,by simp?! [QY,Qaj,h0,h1,cp,e],by decide,by decide⟩
    ·exact ⟨1073741823,by simp?! [QY,Qaj,h0,h1,cp,e],by decide,by decide⟩
    ·exact ⟨2 ^ (c / 3 / 4 % 30).toNat,by simp?! [QY,Qaj,h0,h1,cp,e],by lia,by lia⟩
    ·exact ⟨2 ^ (c / 3 / 4 % 30).toNat - 1,by simp?! [QY,Qaj,h0,h1,cp,e],by lia,by lia⟩
 obtain ⟨t,e,t0,t1⟩:=key
 refine ⟨t.toNat,?_,?_⟩
 ·rw [e];congr 2;lia
 ·have:all=1073741824:=rfl
  lia
theorem Qjd (c:Int):∃ n,Q9 [.int c]=.ok (.int n):=by
 by_cases h0:c % 3=0
 ·exact ⟨_,by simp?! [Q9,QaL,h0];rfl⟩
 ·by_cases h1:c % 3=1
  ·exact ⟨_,by simp?! [Q9,QaL,h1];rfl⟩
  ·exact ⟨_,by simp?! [Q9,QaL,h0,h1];rfl⟩
theorem QgZ (c:Int):∃ n,QM [.int c]=.ok (.int n):=by
 by_cases h1:c % 2=1
 ·exact ⟨_,by simp?! [QM,Qam,h1];rfl⟩
 ·exact ⟨_,by simp?! [QM,Qam,h1];rfl⟩
theorem QiD:∀ {ys:List Str},(∀ y∈ys,y.length=1)->(ys.map (·.length)).sum=ys.length
 | [],_=>rfl
 | y::ys,h=>by
  have:=QiD (ys:=ys) fun z hz=>h z (List.mem_cons_of_mem _ hz)
  simp only [List.map_cons,List.sum_cons,List.length_cons,h y List.mem_cons_self,this];lia
theorem QgB {ys:List Str} (h:∀ y∈ys,y.length=1) (hl:ys.length<=100):∃ x,Qj6 "" (.lst (ys.map D.str))=.ok (.str x):=by
 have e:=Qk1 ys
 have s1:=QiD h
 refine ⟨Txt.join "" ys,?_⟩
 have hc:("":Str).length<=16/\(ys.map (·.length)).sum + ys.length<=1048576:=⟨by decide,by lia⟩
 simp only [Qj6,rk,its,e,if_true]
 rw [if_pos hc]
theorem QfF (h:Int):∀ (n lo:Nat),lo + n<=100->∀ s0,∃ ys:List Str,Qbq (gNm 0) fYes (f2 gIx (Qe 1) (f2 gMod (f2 gAdd (f2 gDiv (fVar 2) (fC (.int 12))) (f2 gMul (fC (.int 5)) (fVar 0))) (fC (.int 26)))) (rng (lo:Int) n) [s0,.val (.str "abcdefghijklmnopqrstuvwxyz"),.val (.int h)]=.ok (ys.map D.str)/\ys.length=n/\∀ y∈ys,y.length=1
 | 0,lo,_,s0=>⟨[],rfl,rfl,fun y hy=>by cases hy⟩
 | n + 1,lo,hl,s0=>by
  obtain ⟨ys,e,hn,h1⟩:=QfF h n (lo + 1) (by lia) (.val (.int (lo:Int)))
  obtain ⟨z,ez⟩:=Qhq (h / 12 + 5 * (lo:Int))
  refine ⟨⟨#[z]⟩::ys,?_,by simp [hn],fun y hy=>?_⟩
  ·rw [QdS,List.map_cons]
   have cm:cMul 5 (lo:Int)=true:=by
    simp only [cMul,Bool.or_eq_true,Bool.and_eq_true,decide_eq_true_eq]
    left;lia
   have e2:((lo + 1:Nat):Int)=(lo:Int) + 1:=by lia
   rw [e2] at e
   simp only [Qbq,e_nm,Qau,List.set]
   generalize rng ((lo:Int) + 1) n=M at *
   generalize (lo:Int)=k at *
   generalize ys.map D.str=Y at *
   simp?! [fYes,cm,ez,e]
  ·rcases List.mem_cons.mp hy with rfl | hy
   ·rfl
   ·exact h1 y hy
theorem Qng (h c:Int):∃ x,Qas [.int h,.int c]=.ok (.str x):=by
 have b1:=mod_lt (h / 3) (m:=12) (by decide)
 obtain ⟨n,hn⟩:∃ n:Nat,1 + h / 3 % 12=(n:Int):=⟨(1 + h / 3 % 12).toNat,by lia⟩
 have b2:=mod_lt (h / 5) (m:=(n:Int)) (by lia)
 obtain ⟨i,hi⟩:∃ i:Nat,h / 5 % (n:Int)=(i:Int):=⟨(h / 5 % (n:Int)).toNat,by lia⟩
 obtain ⟨ys,e,hl,h1⟩:=QfF h n 0 (by lia) .un
 obtain ⟨z,ez⟩:=Qhq (h / 7 + c % 4 * 7)
 have e0:((0:Nat):Int)=0:=rfl
 rw [e0] at e
 have hro:rOk (n:Int)=true:=by simp [rOk];lia
 have hsz:n<=sizeLine:=Nat.le_of_lt (QV (by lia))
 have b4:=mod_lt c (m:=4) (by decide)
 have cd:cMod (h / 5) (n:Int)=true:=by simp [cMod];lia
 have cm:cMul (c % 4) 7=true:=by
  simp only [cMul,Bool.or_eq_true,Bool.and_eq_true,decide_eq_true_eq]
  left;lia
 have ix:ixN n (i:Int)=some i:=by
  unfold ixN
  rw [if_pos (by lia)]
  simp only [Int.toNat_natCast]
  rw [if_pos (by lia)]
 have g1:∀ y∈ys.set i ⟨#[z]⟩,y.length=1:=fun y hy=>by
  rcases List.mem_or_eq_of_mem_set hy with hy | rfl
  ·exact h1 y hy
  ·rfl
 have lm:(ys.map D.str).length=n:=by rw [List.length_map,hl]
 have sm:(ys.map D.str).set i (.str ⟨#[z]⟩)=(ys.set i ⟨#[z]⟩).map D.str:=by rw [List.map_set]
 have dz:dsIn 1 [2,0] [.val (.int h),.val (.int c),.val (.str "abcdefghijklmnopqrstuvwxyz"),.val (.int (n:Int)),.un]=[.un,.val (.str "abcdefghijklmnopqrstuvwxyz"),.val (.int h)]:=rfl
 have tn:((n:Int)).toNat=n:=by lia
 by_cases hc:c / 4 % 5=4/\(1:Int) < n
 ·obtain ⟨hc1,hc2⟩:=hc
  obtain ⟨x,ex⟩:=QgB (ys:=(ys.set i ⟨#[z]⟩).dropLast) (fun y hy=>g1 y (List.dropLast_subset _ hy)) (by simp;lia)
  have ed:(((ys.map D.str).set i (.str ⟨#[z]⟩))[(((ys.map D.str).set i (.str ⟨#[z]⟩))).length - 1]?).isSome=true:=by
   rw [List.getElem?_eq_getElem (by rw [List.length_set,lm];lia)];rfl
  obtain ⟨y0,ey⟩:=Option.isSome_iff_exists.mp ed
  have dl:((ys.map D.str).set i (.str ⟨#[z]⟩)).dropLast=(ys.set i ⟨#[z]⟩).dropLast.map D.str:=by rw [sm,List.map_dropLast]
  rw [← dl] at ex
  refine ⟨x,?_⟩
  generalize ys.map D.str=M at *
  have ls:(M.set i (.str ⟨#[z]⟩)).length=n:=by rw [List.length_set,lm]
  rw [ls] at ey
  generalize hM2:M.set i (.str ⟨#[z]⟩)=M2 at *
  simp? [Qas,Qbg,hn,QbS,Qfs,hro,Qc1,hsz,dz,tn,e,ez,cm,cd,hi,sPut,lm,ix,hc1,hc2,Qkp,hM2,ls,ey,Qh4,thaw,ex]
 ·obtain ⟨x,ex⟩:=QgB g1 (by simp;lia)
  rw [← sm] at ex
  refine ⟨x,?_⟩
  have hc':c / 4 % 5=4->¬ (1:Int) < n:=fun h1 h2=>hc ⟨h1,h2⟩
  generalize ys.map D.str=M at *
  generalize hM2:M.set i (.str ⟨#[z]⟩)=M2 at *
  by_cases hc1:c / 4 % 5=4
  ·have hc2:=hc' hc1
   simp? [Qas,Qbg,hn,QbS,Qfs,hro,Qc1,hsz,dz,tn,e,ez,cm,cd,hi,sPut,lm,ix,hc1,hc2,hM2,Qh4,thaw,ex]
  ·simp? [Qas,Qbg,hn,QbS,Qfs,hro,Qc1,hsz,dz,tn,e,ez,cm,cd,hi,sPut,lm,ix,hc1,hM2,Qh4,thaw,ex]
theorem QiQ (x y:Str):(x++y).length=x.length + y.length:=by
 show (x.cps++y.cps).size=x.cps.size + y.cps.size
 exact Array.size_append
theorem QfO (A S:Sl):∀ (n:Nat) (lo r:Int) (x:Str) (s4:Sl),x.length + n<=100->∃ y r' s4',forL (gNm 4) (sSeq (sSet 3 (f2 gAdd (fVar 3) (f2 gIx (fC (.str "abcdefghijklmnopqrstuvwxyz")) (f2 gMod (fVar 2) (fC (.int 26)))))) (sSeq (sSet 2 (f2 gDiv (fVar 2) (fC (.int 26)))) Qb)) (rng lo n) [A,S,.val (.int r),.val (.str x),s4]=.ok (.nx [A,S,.val (.int r'),.val (.str y),s4'])
 | 0,lo,r,x,s4,_=>⟨x,r,s4,rfl⟩
 | n + 1,lo,r,x,s4,h=>by
  obtain ⟨z,ez⟩:=Qhq r
  have hx:(x++(⟨#[z]⟩:Str)).length=x.length + 1:=by rw [QiQ];rfl
  obtain ⟨y,r',s4',q⟩:=QfO A S n (lo + 1) (r / 26) (x++⟨#[z]⟩) (.val (.int lo)) (by rw [hx];lia)
  refine ⟨y,r',s4',?_⟩
  have ad:=add_str (x:=x) (y:=⟨#[z]⟩) (by rw [QnZ];lia)
  rw [QdS,← q]
  refine Qck (δ1:=[A,S,.val (.int r),.val (.str x),.val (.int lo)]) rfl ?_
  simp?! [ez,ad]
theorem QmO (c:Int):∃ x,QaB [.int c]=.ok (.str x):=by
 have b1:=mod_lt c (m:=12) (by decide)
 obtain ⟨n,hn⟩:∃ n:Nat,1 + c % 12=(n:Int):=⟨(1 + c % 12).toNat,by lia⟩
 obtain ⟨y,r',s4',q⟩:=QfO (.val (.int c)) (.val (.int (n:Int))) n 0 (c / 12) "" .un (by rw [show ("":Str).length=0 from rfl];lia)
 have hro:rOk (n:Int)=true:=by simp [rOk];lia
 have tn:((n:Int)).toNat=n:=by lia
 exact ⟨y,by simp? [QaB,Qa7,hn,sRng,hro,tn,q]⟩
theorem Qhm (c:Int):0<=c % 10 ^ 30:=Int.emod_nonneg _ (by decide)
theorem QkZ (h c:Int):∃ d,Qu [.int 0,.int h,.int c]=.ok d/\OkS d:=by
 have b1:=mod_lt c (m:=8) (by decide)
 obtain ⟨n,en⟩:=Qjd (c / 8)
 by_cases h5:c % 8 < 5
 ·exact ⟨_,by simp?! [Qu,QB,h5,en],.add n⟩
 ·by_cases h7:c % 8=7
  ·obtain e | e:c / 8 % 2=0\/c / 8 % 2=1:=by lia
   ·have g:=mod_lt (c / 8 / 3) (m:=12) (by decide)
    exact ⟨.tup [.str "reach",.int (1 + c / 8 / 3 % 12)],by simp?! [Qu,QB,h7,e],.reach _ (by lia)⟩
   ·have g:=Qhm (c / 8 / 3)
    exact ⟨.tup [.str "reach",.int (1 + c / 8 / 3 % 10 ^ 30)],by simp?! [Qu,QB,h7,e],.reach _ (by lia)⟩
  ·by_cases h6:c % 8=5
   ·exact ⟨_,by simp?! [Qu,QB,h6],.many⟩
   ·exact ⟨_,by simp?! [Qu,QB,h5,h6,h7],.peak⟩
theorem Qfl {w:Int} (hw:1<=w/\w<=3) (h c:Int):∃ d,Qu [.int w,.int h,.int c]=.ok d/\OkR d:=by
 have n0:¬ w=0:=by lia
 have n4:¬ w=4:=by lia
 have b1:=mod_lt c (m:=8) (by decide)
 obtain ⟨n,en⟩:=Qjd (c / 8)
 by_cases h6:c % 8=5
 ·exact ⟨_,by simp?! [Qu,QB,n0,n4,h6],0,.many⟩
 ·by_cases h3:c % 8 < 3
  ·exact ⟨_,by simp?! [Qu,QB,n0,n4,h6,h3,en],1,.put n⟩
  ·by_cases h5:c % 8 < 5
   ·exact ⟨_,by simp?! [Qu,QB,n0,n4,h6,h3,h5],-1,.take⟩
   ·obtain e | e:c / 8 % 2=0\/c / 8 % 2=1:=by lia
    ·have g:=mod_lt (c / 8 / 3) (m:=4) (by decide)
     exact ⟨.tup [.str "look",.int (c / 8 / 3 % 4)],by simp?! [Qu,QB,n0,n4,h6,h3,h5,e],0,.look _ g.1⟩
    ·have g:=Qhm (c / 8 / 3)
     exact ⟨.tup [.str "look",.int (c / 8 / 3 % 10 ^ 30)],by simp?! [Qu,QB,n0,n4,h6,h3,h5,e],0,.look _ g⟩
open Nmk in
theorem QiY (h c:Int):∃ d,Qu [.int 4,.int h,.int c]=.ok d/\OkN d:=by
 have b1:=mod_lt c (m:=8) (by decide)
 obtain ⟨n,en⟩:=Qjd (c / 8 / 2)
 obtain ⟨x,ex⟩:=Qng h (c / 8)
 by_cases h6:c % 8=5
 ·exact ⟨_,by simp?! [Qu,QB,h6],_,.many⟩
 ·by_cases h3:c % 8 < 3
  ·exact ⟨_,by simp?! [Qu,QB,h6,h3,en,ex],_,.set x n⟩
  ·obtain e | e:c % 8 / 6=0\/c % 8 / 6=1:=by lia
   ·exact ⟨.tup [.str "drop",.str x],by simp?! [Qu,QB,h6,h3,e,ex],_,.drop x⟩
   ·exact ⟨.tup [.str "look",.str x],by simp?! [Qu,QB,h6,h3,e,ex],_,.look x⟩
theorem QnR {K:Kd} {w:Int} (hW:Way K w) (h c:Int):∃ d,Qu [.int w,.int h,.int c]=.ok d/\K.Okd d:=by
 cases hW with
 | sums=>exact QkZ h c
 | pile=>exact Qfl (by decide) h c
 | line=>exact Qfl (by decide) h c
 | bag=>exact Qfl (by decide) h c
 | names=>exact QiY h c
theorem four (c:Int):c % 4=0\/c % 4=1\/c % 4=2\/c % 4=3:=by lia
theorem QjF (c:Int):∃ d,Qk [.int 0,.int c]=.ok d/\OkS d:=by
 obtain ⟨n,en⟩:=QgZ (c / 4)
 have g:=Qhm (c / 4)
 obtain e | e | e | e:=four c
 ·exact ⟨.tup [.str "add",.int n],by simp?! [Qk,Qs,en,e],.add n⟩
 ·exact ⟨.tup [.str "reach",.int (1 + c / 4 % 10 ^ 30)],by simp?! [Qk,Qs,en,e],.reach _ (by lia)⟩
 ·exact ⟨.tup [.str "many"],by simp?! [Qk,Qs,en,e],.many⟩
 ·exact ⟨.tup [.str "peak"],by simp?! [Qk,Qs,en,e],.peak⟩
theorem Qeb {w:Int} (hw:1<=w/\w<=3) (c:Int):∃ d,Qk [.int w,.int c]=.ok d/\OkR d:=by
 have n0:¬ w=0:=by lia
 have n4:¬ w=4:=by lia
 obtain ⟨n,en⟩:=QgZ (c / 4)
 have g:=Qhm (c / 4)
 obtain e | e | e | e:=four c
 ·exact ⟨.tup [.str "put",.int n],by simp?! [Qk,Qs,n0,n4,en,e],_,.put n⟩
 ·exact ⟨.tup [.str "take"],by simp?! [Qk,Qs,n0,n4,en,e],_,.take⟩
 ·exact ⟨.tup [.str "look",.int (c / 4 % 10 ^ 30)],by simp?! [Qk,Qs,n0,n4,en,e],_,.look _ g⟩
 ·exact ⟨.tup [.str "many"],by simp?! [Qk,Qs,n0,n4,en,e],_,.many⟩
open Nmk in
theorem Qij (c:Int):∃ d,Qk [.int 4,.int c]=.ok d/\OkN d:=by
 obtain ⟨n,en⟩:=QgZ (c / 4 / 1145147479940186112)
 obtain ⟨x,ex⟩:=QmO (c / 4)
 have cm:cMul 12 (26 ^ 12)=true:=by decide
 obtain e | e | e | e:=four c
 ·exact ⟨.tup [.str "set",.str x,.int n],by simp?! [Qk,Qs,en,ex,cm,e],_,.set x n⟩
 ·exact ⟨.tup [.str "drop",.str x],by simp?! [Qk,Qs,en,ex,cm,e],_,.drop x⟩
 ·exact ⟨.tup [.str "look",.str x],by simp?! [Qk,Qs,en,ex,cm,e],_,.look x⟩
 ·exact ⟨.tup [.str "many"],by simp?! [Qk,Qs,en,ex,cm,e],_,.many⟩
theorem QlO {K:Kd} {w:Int} (hW:Way K w) (c:Int):∃ d,Qk [.int w,.int c]=.ok d/\K.Okd d:=by
 cases hW with
 | sums=>exact QjF c
 | pile=>exact Qeb (by decide) c
 | line=>exact Qeb (by decide) c
 | bag=>exact Qeb (by decide) c
 | names=>exact Qij c
theorem Qny {K:Kd} {w:Int} (hW:Way K w) (h c e:Int) (f:Bool):∃ (a:Nat) (d:D),QaX [.int w,.int h,.bl f,.int c,.int e]=.ok (.tup [.int (a:Int),d])/\a < all/\K.Okd d:=by
 cases f with
 | true =>
  obtain ⟨d,e1,hd⟩:=QlO hW e
  have b:=mod_lt c (m:=1073741824) (by decide)
  obtain ⟨a,ea⟩:∃ a:Nat,c % 1073741824=(a:Int):=⟨(c % 1073741824).toNat,by lia⟩
  exact ⟨a,d,by simp?! [QaX,QbT,e1,ea],by have:all=1073741824:=rfl;lia,hd⟩
 | false =>
  obtain ⟨d,e1,hd⟩:=QnR hW h e
  obtain ⟨a,ea,ha⟩:=QmL h c
  exact ⟨a,d,by simp?! [QaX,QbT,e1,ea],ha,hd⟩
theorem QnK {K:Kd} {w:Int} (hW:Way K w):Qbe [.int w]=.ok (.obj K.C):=by
 cases hW <;> (simp?! [Qbe,QcR];try rfl)
theorem Qpb (h:Int):∃ K,Way K (h % 5):=by
 obtain e | e | e | e | e:h % 5=0\/h % 5=1\/h % 5=2\/h % 5=3\/h % 5=4:=by lia
 all_goals rw [e]
 ·exact ⟨_,.sums⟩
 ·exact ⟨_,.pile⟩
 ·exact ⟨_,.line⟩
 ·exact ⟨_,.bag⟩
 ·exact ⟨_,.names⟩
end
section
open Tr
structure Kn (K:Kd) (al:List (Nat×D)) (n:Nat):Prop where
 nd:(al.map (·.1)).Nodup
 ok:Al K al
 len:al.length<=n
theorem Kn.mono {K:Kd} {al:List (Nat×D)} {n m:Nat} (h:Kn K al n) (hm:n<=m):Kn K al m:=⟨h.nd,h.ok,Nat.le_trans h.len hm⟩
theorem QoH (K:Kd):Kn K [] 0:=⟨.nil,fun p hp=>(by cases hp),Nat.le_refl _⟩
theorem Kn.put {K:Kd} {al:List (Nat×D)} {n:Nat} (k:Kn K al n) {a:Nat} (ha:a < all) {d:D} (hd:K.Okd d) (hn:∀ p∈al,p.1≠a):Kn K (al++[(a,d)]) (n + 1):=by
 refine ⟨?_,fun p hp=>?_,by have:=k.len;simp;lia⟩
 ·rw [List.map_append,List.nodup_append]
  refine ⟨k.nd,by simp,fun x hx y hy=>?_⟩
  obtain ⟨p,hp,rfl⟩:=List.mem_map.mp hx
  simp at hy;subst hy
  exact hn p hp
 ·rcases List.mem_append.mp hp with z | z
  ·exact k.ok p z
  ·simp at z;subst z;exact ⟨ha,hd⟩
theorem QiT {K:Kd} {al:List (Nat×D)} {n:Nat} (k:Kn K al n) (h:n<=200) {a:Nat} (hn:∀ p∈al,p.1≠a) {d:D} (j:Nat) (fk fv:Fn) {δ:DS} (h1:fv δ=.ok d) (h2:δ[j]? = some (.own (dict al))) (h3:fk δ=.ok (.int (a:Int))):DL.sDPut j fk fv δ=.ok (.nx (δ.set j (.own (dict (al++[(a,d)]))))):=by
 have e:=Qmg (d:=d) hn
 have hks:(Q4 al).length < sizeLine:=by rw [Q4,List.length_map];have:=k.len;exact QV (by lia)
 rw [← e]
 unfold dict at h2
 simp only [DL.sDPut,h1,h2,Qau,h3,keyD,hks,if_true]
theorem QgF:∀ (xs ys:List Nat),xs.Nodup->(∀ x∈xs,x∈ys)->xs.length<=ys.length
 | [],ys,_,_=>Nat.zero_le _
 | x::xs,ys,hn,h=>by
  have hx:=h x List.mem_cons_self
  obtain ⟨h1,h2⟩:=List.nodup_cons.mp hn
  have i:=QgF xs (ys.erase x) h2 fun z hz=>(List.mem_erase_of_ne (fun q:z=x=>h1 (by rw [← q];exact hz))).mpr (h z (List.mem_cons_of_mem _ hz))
  have e:=List.length_erase_of_mem hx
  have:0 < ys.length:=List.length_pos_of_mem hx
  simp only [List.length_cons];lia
theorem QgO {al:List (Nat×D)} (hnd:(al.map (·.1)).Nodup) (s0 s2 s4:Sl) (t0:Nat):∀ (fuel j:Nat),(∀ i < j,∃ p∈al,p.1=(t0 + i) % all)->al.length < j + fuel->j + fuel<=1000->∃ a:Nat,Qap (fAsB (f2 (gDIn false) (fVar 3) (fVar 1))) (sSeq (sSet 3 (f2 gMod (f2 gAdd (fVar 3) (fC (.int 1))) (fC (.int 1073741824)))) Qb) fuel [s0,.own (dict al),s2,.val (.int (((t0 + j) % all:Nat):Int)),s4]=.ok (.nx [s0,.own (dict al),s2,.val (.int (a:Int)),s4])/\a < all/\∀ p∈al,p.1≠a
 | 0,j,hj,hf,hb=>by
  exfalso
  have hall:all=1073741824:=rfl
  have hd:((List.range j).map fun i=>(t0 + i) % all).Nodup:=by
   rw [List.Nodup,List.pairwise_map]
   refine (List.nodup_range (n:=j)).imp_of_mem fun {a b} ha hb' hab=>?_
   have h1:=List.mem_range.mp ha
   have h2:=List.mem_range.mp hb'
   rw [hall]
   lia
  have:=QgF _ (al.map (·.1)) hd fun x hx=>by
   obtain ⟨i,hi,rfl⟩:=List.mem_map.mp hx
   obtain ⟨p,hp,e⟩:=hj i (List.mem_range.mp hi)
   exact List.mem_map.mpr ⟨p,hp,e⟩
  simp only [List.length_map,List.length_range] at this
  lia
 | fuel + 1,j,hj,hf,hb=>by
  have hall:all=1073741824:=rfl
  have hlt:(t0 + j) % all < all:=Nat.mod_lt _ (by decide)
  by_cases h:∃ p∈al,p.1=(t0 + j) % all
  ·obtain ⟨a,q,ha,hn⟩:=QgO hnd s0 s2 s4 t0 fuel (j + 1) (fun i hi=>by
    by_cases e:i=j
    ·subst e;exact h
    ·exact hj i (by lia)) (by lia) (by lia)
   refine ⟨a,?_,ha,hn⟩
   obtain ⟨p,hp,e⟩:=h
   have di:=Qie false hnd hp
   rw [e] at di
   have e2:((((t0 + j) % all:Nat):Int) + 1) % 1073741824=(((t0 + (j + 1)) % all:Nat):Int):=by rw [hall];lia
   have hc:(fAsB (f2 (gDIn false) (fVar 3) (fVar 1))) [s0,.own (dict al),s2,.val (.int (((t0 + j) % all:Nat):Int)),s4]=.ok true:=by
    generalize dict al=z at *
    generalize (((t0 + j) % all:Nat):Int)=n at *
    simp?! [di]
   have hbd:(sSeq (sSet 3 (f2 gMod (f2 gAdd (fVar 3) (fC (.int 1))) (fC (.int 1073741824)))) Qb) [s0,.own (dict al),s2,.val (.int (((t0 + j) % all:Nat):Int)),s4]=.ok (.nx [s0,.own (dict al),s2,.val (.int (((t0 + (j + 1)) % all:Nat):Int)),s4]):=by
    rw [← e2]
    generalize dict al=z at *
    generalize (((t0 + j) % all:Nat):Int)=n at *
    simp?! []
   simp only [Qap,hc,Qau,if_true,hbd]
   exact q
  ·have hn:∀ p∈al,p.1≠(t0 + j) % all:=fun p hp e=>h ⟨p,hp,e⟩
   refine ⟨(t0 + j) % all,?_,hlt,hn⟩
   have di:=Qkl false al _ hn
   have hc:(fAsB (f2 (gDIn false) (fVar 3) (fVar 1))) [s0,.own (dict al),s2,.val (.int (((t0 + j) % all:Nat):Int)),s4]=.ok false:=by
    generalize dict al=z at *
    generalize (((t0 + j) % all:Nat):Int)=n at *
    simp?! [di]
   simp only [Qap,hc,Qau]
   rfl
abbrev fSp:Fn:=(f2 gIx (fLst [(fTup [(fC (.str "add")),(f1 gNeg (f2 gPow (fC (.int 10)) (fC (.int 32))))]),(fTup [(fC (.str "take"))]),(fTup [(fC (.str "take"))]),(fTup [(fC (.str "take"))]),(fTup [(fC (.str "drop")),(f2 Qgm (fC (.str "q")) (fC (.int 12)))])]) (fVar 0))
theorem QnB {K:Kd} {w:Int} (hW:Way K w) (s1 s2 s3 s4:Sl):∃ d,fSp [.val (.int w),s1,s2,s3,s4]=.ok d/\K.Okd d:=by
 have q:Qgm (.str "q") (.int 12)=.ok (.str (Txt.mul "q" 12)):=by
  have:(0:Int) < 12/\(12:Int)<=1000/\("q":Str).length<=1000:=by decide
  simp only [Qgm]
  rw [if_pos this]
 generalize hx:Txt.mul "q" 12=x at q
 cases hW with
 | sums=>exact ⟨.tup [.str "add",.int (-10 ^ 32)],by simp?! [q],.add _⟩
 | pile=>exact ⟨.tup [.str "take"],by simp?! [q],_,.take⟩
 | line=>exact ⟨.tup [.str "take"],by simp?! [q],_,.take⟩
 | bag=>exact ⟨.tup [.str "take"],by simp?! [q],_,.take⟩
 | names=>exact ⟨.tup [.str "drop",.str x],by simp?! [q],_,.drop x⟩
theorem Qdo {K:Kd} {w:Int} (hW:Way K w) (c:Sl):∀ (n:Nat) (lo:Int) (m:Nat) (al:List (Nat×D)) (t:Nat) (s4:Sl),Kn K al m->t < all->m + n<=50->∃ al' t' s4',forL (gNm 4) (sSeq (sIf (fAsB (f1 gIsN (Qf (QJ) [(fVar 0),(fVar 1)]))) (sSeq (Qap (fAsB (f2 (gDIn false) (fVar 3) (fVar 1))) (sSeq (sSet 3 (f2 gMod (f2 gAdd (fVar 3) (fC (.int 1))) (fC (.int 1073741824)))) Qb) 60) (sSeq (sDPut 1 (fVar 3) fSp) Qb)) Qb) Qb) (rng lo n) [.val (.int w),.own (dict al),c,.val (.int (t:Int)),s4]=.ok (.nx [.val (.int w),.own (dict al'),c,t',s4'])/\Kn K al' (m + n)
 | 0,lo,m,al,t,s4,k,_,_=>⟨al,_,s4,rfl,k⟩
 | n + 1,lo,m,al,t,s4,k,ht,hb=>by
  have kl:=k.len
  obtain ⟨l,_,_,fq⟩:=Qfw hW k.nd (fun p hp=>(k.ok p hp).2) (by lia)
  rw [QdS]
  cases e:fb K [] l with
  | some b =>
   rw [e] at fq
   obtain ⟨al',t',s4',q,k'⟩:=Qdo hW c n (lo + 1) m al t (.val (.int lo)) k ht (by lia)
   refine ⟨al',t',s4',?_,k'.mono (by lia)⟩
   rw [← q]
   refine Qck (δ1:=[.val (.int w),.own (dict al),c,.val (.int (t:Int)),.val (.int lo)]) rfl ?_
   have nn:gIsN (opD (some b))=.ok (.bl false):=rfl
   generalize opD (some b)=r at *
   generalize dict al=z at *
   simp?! [fq,nn]
  | none =>
   rw [e] at fq
   obtain ⟨a,wq,ha,hn⟩:=QgO k.nd (.val (.int w)) c (.val (.int lo)) t 60 0 (fun i hi=>absurd hi (Nat.not_lt_zero _)) (by lia) (by lia)
   rw [Nat.add_zero,Nat.mod_eq_of_lt ht] at wq
   obtain ⟨d,ed,hd⟩:=QnB hW (.own (dict al)) c (.val (.int (a:Int))) (.val (.int lo))
   have pq:=QiT k (by lia) hn 1 (fVar 3) fSp ed rfl rfl
   have pq':DL.sDPut 1 (fVar 3) fSp [.val (.int w),.own (dict al),c,.val (.int (a:Int)),.val (.int lo)]=.ok (.nx [.val (.int w),.own (dict (al++[(a,d)])),c,.val (.int (a:Int)),.val (.int lo)]):=pq
   obtain ⟨al',t',s4',q,k'⟩:=Qdo hW c n (lo + 1) (m + 1) (al++[(a,d)]) a (.val (.int lo)) (k.put ha hd hn) ha (by lia)
   refine ⟨al',t',s4',?_,k'.mono (by lia)⟩
   rw [← q]
   refine Qck (δ1:=[.val (.int w),.own (dict al),c,.val (.int (t:Int)),.val (.int lo)]) rfl ?_
   have nn:gIsN (opD none)=.ok (.bl true):=rfl
   generalize opD none=r at *
   generalize dict (al++[(a,d)])=z' at *
   generalize dict al=z at *
   generalize fSp=F at *
   generalize Qap (fAsB (f2 (gDIn false) (fVar 3) (fVar 1))) (sSeq (sSet 3 (f2 gMod (f2 gAdd (fVar 3) (fC (.int 1))) (fC (.int 1073741824)))) Qb) 60=W at *
   simp?! [fq,nn,wq,pq']
theorem Qk7 {K:Kd} {w:Int} (hW:Way K w) {al:List (Nat×D)} {m:Nat} (k:Kn K al m) (hm:m<=30) (c:Int):∃ al',QaM [.int w,dict al,.int c]=.ok (.tup [.non,dict al'])/\Kn K al' (m + 14):=by
 obtain ⟨t,et,ht⟩:=QmL c (c / 3)
 obtain ⟨al',t',s4',q,k'⟩:=Qdo hW (.val (.int c)) 14 0 m al t .un k ht (by lia)
 refine ⟨al',?_,k'⟩
 have hs:Qcl 1 5 [.int w,dict al,.int c]=[.val (.int w),.own (dict al),.val (.int c),.un,.un]:=rfl
 have hro:rOk (14:Int)=true:=by decide
 have tn:(14:Int).toNat=14:=rfl
 unfold QaM runM QbZ
 rw [hs]
 generalize dict al=z at *
 generalize dict al'=z' at *
 simp?! [et,sRng,hro,tn,q]
end
section
open Tr
def remA (al:List (Nat×D)) (a:Nat):List (Nat×D):=al.filter fun p=>decide (p.1≠a)
theorem QhW (a:Nat):∀ al:List (Nat×D),D.dic (QcI (Q4 al) (.inl (a:Int))) (Qbm (Q4 al) (al.map (·.2)) (.inl (a:Int)))=dict (remA al a)
 | []=>rfl
 | p::al=>by
  have ih:=QhW a al
  unfold dict at ih ⊢
  simp only [D.dic.injEq] at ih ⊢
  obtain ⟨i1,i2⟩:=ih
  unfold Q4 remA QcI at i1
  unfold Q4 remA at i2
  unfold Q4 remA QcI
  by_cases h:p.1=a
  ·have h':((.inl (p.1:Int):Key)=.inl (a:Int)):=by rw [h]
   constructor
   ·rw [List.map_cons,List.filter_cons_of_neg (by simpa using h'),List.filter_cons_of_neg (by simpa using h)];exact i1
   ·rw [List.filter_cons_of_neg (by simpa using h)]
    simp only [List.map_cons,Qbm,if_pos h'];exact i2
  ·have h':¬ ((.inl (p.1:Int):Key)=.inl (a:Int)):=fun z=>h (key_inj.mp z)
   constructor
   ·rw [List.map_cons,List.filter_cons_of_pos (by simpa using h'),List.filter_cons_of_pos (by simpa using h),List.map_cons,i1]
   ·rw [List.filter_cons_of_pos (by simpa using h)]
    simp only [List.map_cons,Qbm,if_neg h',i2]
theorem Qn4 {al:List (Nat×D)} {a:Nat} {d:D} (hn:∀ p∈al,p.1≠a):remA (al++[(a,d)]) a=al:=by
 unfold remA
 rw [List.filter_append,List.filter_eq_self.mpr (fun p hp=>by simpa using hn p hp)]
 simp
theorem QmT {al:List (Nat×D)} {a:Nat} {d:D} (hd:((al++[(a,d)]).map (·.1)).Nodup) (hn:∀ p∈al,p.1≠a) (j:Nat) (fk:Fn) {δ:DS} (h2:δ[j]? = some (.own (dict (al++[(a,d)])))) (h3:fk δ=.ok (.int (a:Int))):DL.sDPop j fk δ=.ok (.nx (δ.set j (.own (dict al)))):=by
 have g:=QcW (p:=(a,d)) hd (by simp)
 have e:=QhW a (al++[(a,d)])
 rw [Qn4 hn] at e
 rw [← e]
 unfold dict at h2
 have g':dGet (Q4 (al++[(a,d)])) ((al++[(a,d)]).map (·.2)) (.inl (a:Int))=some d:=g
 simp only [DL.sDPop,h2,Qau,h3,keyD,g']
abbrev bKn:Sm:=(sSeq (sAsg (Qf (QaX) [(Qe 2),(f2 gDiv (fVar 1) (fC (.int 5))),(Qe 4),(f2 gIx (Qe 0) (fVar 8)),(f2 gIx (Qe 0) (f2 gAdd (fVar 8) (fC (.int 1))))]) (gNm2 9 10)) (sSeq (sIf (fAsB (f2 (gDIn true) (fVar 9) (fVar 6))) (sSeq (sDPut 6 (fVar 9) (Qe 10)) (sSeq (sIf (Qbp (fAsB (f2 gGt (fVar 3) (fC (.int 0)))) (Qbp (fOrT (fAsB (f2 gEq (fVar 3) (fC (.int 1)))) (fAsB (f2 gLt (f2 gAdd (fVar 8) (fC (.int 2))) (fVar 7)))) (fAsB (f1 Qbr (Qf (QJ) [(fVar 2),(fVar 6)]))))) (sSeq (sDPop 6 (fVar 9)) Qb) Qb) Qb)) Qb) Qb))
theorem Qn7 {K:Kd} {w:Int} (hW:Way K w) (ns:List Int) (h md L:Int) (f:Bool) {al:List (Nat×D)} {m:Nat} (k:Kn K al m) (hm:m<=40) (n:Int) (hn1:1<=n) (hn2:n + 1 < ns.length) (s9 s10:Sl):∃ al' s9' s10',bKn [.val (.frl (ns.map D.int)),.val (.int h),.val (.int w),.val (.int md),.val (.bl f),.val (.obj K.C),.own (dict al),.val (.int L),.val (.int n),s9,s10,.un,.un]=.ok (.nx [.val (.frl (ns.map D.int)),.val (.int h),.val (.int w),.val (.int md),.val (.bl f),.val (.obj K.C),.own (dict al'),.val (.int L),.val (.int n),s9',s10',.un,.un])/\Kn K al' (m + 1):=by
 unfold bKn
 have kl:=k.len
 obtain ⟨i,rfl⟩:∃ i:Nat,n=(i:Int):=⟨n.toNat,by lia⟩
 have i1:atI (ns.map D.int) (i:Int)=some (.int ns[i]):=atN (by rw [List.getElem?_map,List.getElem?_eq_getElem (by lia)];rfl)
 have i2:atI (ns.map D.int) ((i:Int) + 1)=some (.int ns[i + 1]):=atN (i:=i + 1) (by rw [List.getElem?_map,List.getElem?_eq_getElem (by lia)];rfl)
 obtain ⟨a,d,pq,ha,hd⟩:=Qny hW (h / 5) ns[i] ns[i + 1] f
 by_cases hin:∃ p∈al,p.1=a
 ·obtain ⟨p,hp,e⟩:=hin
  have di:=Qie true k.nd hp
  rw [e] at di
  refine ⟨al,.val (.int (a:Int)),.val d,?_,k.mono (by lia)⟩
  generalize ns.map D.int=N at *
  generalize dict al=z at *
  simp?! [sAsg,gIx,i1,i2,pq,gNm2,di]
 ·have hn:∀ p∈al,p.1≠a:=fun p hp e=>hin ⟨p,hp,e⟩
  have di:=Qkl true al a hn
  have k2:=k.put ha hd hn
  obtain ⟨l,_,_,fq⟩:=Qfw hW k2.nd (fun p hp=>(k2.ok p hp).2) (by have:=k2.len;lia)
  have pu:=QiT k (by lia) hn 6 (fVar 9) (Qe 10) (δ:=[.val (.frl (ns.map D.int)),.val (.int h),.val (.int w),.val (.int md),.val (.bl f),.val (.obj K.C),.own (dict al),.val (.int L),.val (.int (i:Int)),.val (.int (a:Int)),.val d,.un,.un]) (d:=d) rfl rfl rfl
  have pu':DL.sDPut 6 (fVar 9) (Qe 10) [.val (.frl (ns.map D.int)),.val (.int h),.val (.int w),.val (.int md),.val (.bl f),.val (.obj K.C),.own (dict al),.val (.int L),.val (.int (i:Int)),.val (.int (a:Int)),.val d,.un,.un]=.ok (.nx [.val (.frl (ns.map D.int)),.val (.int h),.val (.int w),.val (.int md),.val (.bl f),.val (.obj K.C),.own (dict (al++[(a,d)])),.val (.int L),.val (.int (i:Int)),.val (.int (a:Int)),.val d,.un,.un]):=pu
  have po:=QmT k2.nd hn 6 (fVar 9) (δ:=[.val (.frl (ns.map D.int)),.val (.int h),.val (.int w),.val (.int md),.val (.bl f),.val (.obj K.C),.own (dict (al++[(a,d)])),.val (.int L),.val (.int (i:Int)),.val (.int (a:Int)),.val d,.un,.un]) rfl rfl
  have po':DL.sDPop 6 (fVar 9) [.val (.frl (ns.map D.int)),.val (.int h),.val (.int w),.val (.int md),.val (.bl f),.val (.obj K.C),.own (dict (al++[(a,d)])),.val (.int L),.val (.int (i:Int)),.val (.int (a:Int)),.val d,.un,.un]=.ok (.nx [.val (.frl (ns.map D.int)),.val (.int h),.val (.int w),.val (.int md),.val (.bl f),.val (.obj K.C),.own (dict al),.val (.int L),.val (.int (i:Int)),.val (.int (a:Int)),.val d,.un,.un]):=po
  have no:∃ b,Qbr (opD (fb K [] l))=.ok (.bl b):=by
   cases fb K [] l with
   | none=>exact ⟨_,rfl⟩
   | some _=>exact ⟨_,rfl⟩
  obtain ⟨b,no⟩:=no
  generalize opD (fb K [] l)=r at *
  obtain ⟨c,hc⟩:∃ c,(Qbp (fAsB (f2 gGt (fVar 3) (fC (.int 0)))) (Qbp (fOrT (fAsB (f2 gEq (fVar 3) (fC (.int 1)))) (fAsB (f2 gLt (f2 gAdd (fVar 8) (fC (.int 2))) (fVar 7)))) (fAsB (f1 Qbr (Qf (QJ) [(fVar 2),(fVar 6)]))))) [.val (.frl (ns.map D.int)),.val (.int h),.val (.int w),.val (.int md),.val (.bl f),.val (.obj K.C),.own (dict (al++[(a,d)])),.val (.int L),.val (.int (i:Int)),.val (.int (a:Int)),.val d,.un,.un]=.ok c:=by
   generalize ns.map D.int=N at *
   generalize dict (al++[(a,d)])=z' at *
   by_cases c1:0 < md
   ·by_cases c2:md=1
    ·exact ⟨b,by simp?! [c1,c2,fq,no]⟩
    ·by_cases c3:(i:Int) + 2 < L
     ·exact ⟨b,by simp?! [c1,c2,c3,fq,no]⟩
     ·exact ⟨false,by simp?! [c1,c2,c3,fq,no]⟩
   ·exact ⟨false,by simp?! [c1]⟩
  generalize (Qbp (fAsB (f2 gGt (fVar 3) (fC (.int 0)))) (Qbp (fOrT (fAsB (f2 gEq (fVar 3) (fC (.int 1)))) (fAsB (f2 gLt (f2 gAdd (fVar 8) (fC (.int 2))) (fVar 7)))) (fAsB (f1 Qbr (Qf (QJ) [(fVar 2),(fVar 6)])))))=C at *
  cases c with
  | true =>
   refine ⟨al,.val (.int (a:Int)),.val d,?_,k.mono (by lia)⟩
   generalize ns.map D.int=N at *
   generalize dict (al++[(a,d)])=z' at *
   generalize dict al=z at *
   simp?! [sAsg,gIx,i1,i2,pq,gNm2,di,pu',hc,po']
  | false =>
   refine ⟨al++[(a,d)],.val (.int (a:Int)),.val d,?_,k2⟩
   generalize ns.map D.int=N at *
   generalize dict (al++[(a,d)])=z' at *
   generalize dict al=z at *
   simp?! [sAsg,gIx,i1,i2,pq,gNm2,di,pu',hc]
theorem Ql0 (x:Option Nat):Qay [opD x,opD x]=.ok (.bl true):=by
 cases x with
 | none=>simp?! [Qay,Qbu,opD]
 | some a =>
  have n1:gIsN (.int (a:Int))=.ok (.bl false):=rfl
  have n2:gIs "int" (.int (a:Int))=.ok (.bl true):=rfl
  have n3:gIs "bool" (.int (a:Int))=.ok (.bl false):=rfl
  simp?! [Qay,Qbu,opD,n1,n2,n3]
theorem Qnw (al:List (Nat×D)):(Q4 al).map kD=al.map fun p=>D.int (p.1:Int):=by
 unfold Q4
 rw [List.map_map]
 rfl
theorem Qix {K:Kd} {al:List (Nat×D)} {m:Nat} (k:Kn K al m) (hN:m<=K.N) (hm:m<=60) (x0 x1 x2 x3 x4 x7 x8 x10:Sl):∀ (l dn:List (Nat×D)) (o o':Option T) (s9:Sl),al=dn++l->Book dn o->Book dn o'->∃ o2 o2' s9',forL (gNm 9) (sSeq (sSet 11 (Qf (QC 64) [(Qe 5),(Qe 11),(Qe 9),(f2 gDIx (Qe 6) (fVar 9))])) (sSeq (sSet 12 (Qf (QC 64) [(Qa4 "Kind"),(Qe 12),(Qe 9),(f2 gDIx (Qe 6) (fVar 9))])) Qb)) (l.map fun p=>D.int (p.1:Int)) [x0,x1,x2,x3,x4,.val (.obj K.C),.val (dict al),x7,x8,s9,x10,.val (EO K o),.val (EO kKind o')]=.ok (.nx [x0,x1,x2,x3,x4,.val (.obj K.C),.val (dict al),x7,x8,s9',x10,.val (EO K o2),.val (EO kKind o2')])/\Book al o2/\Book al o2'
 | [],dn,o,o',s9,e,b,b'=>by
  rw [List.append_nil] at e
  subst e
  exact ⟨o,o',s9,rfl,b,b'⟩
 | p::l,dn,o,o',s9,e,b,b'=>by
  have hpm:p∈al:=by rw [e];simp
  have kl:=k.len
  have hlen:dn.length + (l.length + 1)=al.length:=by rw [e];simp
  obtain ⟨hp,hd⟩:=k.ok p hpm
  have hA:Al K dn:=fun q hq=>k.ok q (by rw [e];simp [hq])
  have hA':Al kKind dn:=fun q hq=>⟨(hA q hq).1,K.imd (hA q hq).2,K.sld (hA q hq).2⟩
  have hnd:=k.nd
  have hn:∀ q∈dn,q.1≠p.1:=fun q hq z=>by
   rw [e,List.map_append,List.nodup_append] at hnd
   exact hnd.2.2 q.1 (List.mem_map.mpr ⟨q,hq,rfl⟩) p.1 (by simp) z
  obtain ⟨t,q1,_,B,_⟩:=QhV K (by lia) b hA hp hn hd
  obtain ⟨t',q2,_,B',_⟩:=QhV kKind (show dn.length + 1<=63 by lia) b' hA' hp hn (d:=p.2) ⟨K.imd hd,K.sld hd⟩
  have q2':QC 64 [.obj "Kind",EO kKind o',.int (p.1:Int),p.2]=.ok (E kKind t'):=q2
  obtain ⟨o2,o2',s9',Q,B2,B2'⟩:=Qix k hN hm x0 x1 x2 x3 x4 x7 x8 x10 l (dn++[p]) (some t) (some t') (.val (.int (p.1:Int))) (by rw [e];simp) B B'
  refine ⟨o2,o2',s9',?_,B2,B2'⟩
  have ix:=Qkt k.nd hpm
  rw [← Q,List.map_cons]
  refine Qck (δ1:=[x0,x1,x2,x3,x4,.val (.obj K.C),.val (dict al),x7,x8,.val (.int (p.1:Int)),x10,.val (EO K o),.val (EO kKind o')]) rfl ?_
  have e1:EO K (some t)=E K t:=rfl
  have e2:EO kKind (some t')=E kKind t':=rfl
  rw [e1,e2]
  generalize EO K o=w at *
  generalize EO kKind o'=w' at *
  generalize E K t=v at *
  generalize E kKind t'=v' at *
  generalize dict al=z at *
  generalize K.C=cc at *
  generalize QC 64=P at *
  simp?! [ix,q1,q2']
theorem Qkn:∀ (l xs:List (Nat×D)),fb kKind xs l=none
 | [],_=>rfl
 | p::l,xs=>by
  show (if kKind.okr (xs++[p])=true then fb kKind (xs++[p]) l else some p.1)=none
  have e:kKind.okr (xs++[p])=true:=rfl
  rw [if_pos e]
  exact Qkn l _
theorem way_N {K:Kd} {w:Int} (h:Way K w):K.N=63:=by cases h <;> rfl
theorem Qph {K:Kd} {w:Int} (hW:Way K w) {al:List (Nat×D)} (k:Kn K al 38) (x0 x1 x3 x4 x7 x8 x9 x10 x11 x12:Sl):(sSeq (fun δ=>(sSet 11 (fC .non)) (thaw 6 δ)) (sSeq (sSet 12 (fC .non)) (sSeq (QkB (Qe 6) (gNm 9) (sSeq (sSet 11 (Qf (QC 64) [(Qe 5),(Qe 11),(Qe 9),(f2 gDIx (Qe 6) (fVar 9))])) (sSeq (sSet 12 (Qf (QC 64) [(Qa4 "Kind"),(Qe 12),(Qe 9),(f2 gDIx (Qe 6) (fVar 9))])) Qb))) (sSeq (sIf (fOrT (Qeq (fTru (Qf (Q6) [(fVar 5),(fVar 11)]))) (fAsB (f1 Qbr (Qf (QW) [(Qa4 "Kind"),(fVar 12)])))) (sSeq (sRet (fC (.bl false))) Qb) Qb) (sSeq (sRet (Qgj (Qf (Qay) [(Qf (QW) [(fVar 5),(fVar 11)]),(Qf (QJ) [(fVar 2),(fVar 6)])]) (f1 gIsN (Qf (QW) [(fVar 5),(fC .non)])))) Qb))))) [x0,x1,.val (.int w),x3,x4,.val (.obj K.C),.own (dict al),x7,x8,x9,x10,x11,x12]=.ok (.rt (.bl true)):=by
 have kl:=k.len
 have hN:=way_N hW
 have hok:∀ p∈al,K.Okd p.2:=fun p hp=>(k.ok p hp).2
 obtain ⟨o,o',s9',q,B,B'⟩:=Qix k (by lia) (by lia) x0 x1 (.val (.int w)) x3 x4 x7 x8 x10 al [] none none x9 rfl ⟨trivial,.refl _⟩ ⟨trivial,.refl _⟩
 have do_:∀ p∈dsO o,K.Okd p.2:=fun p hp=>hok p (B.perm.mem_iff.mp hp)
 have do':∀ p∈dsO o',kKind.Okd p.2:=fun p hp=>⟨K.imd (hok p (B'.perm.mem_iff.mp hp)),K.sld (hok p (B'.perm.mem_iff.mp hp))⟩
 have lo:=B.perm.length_eq
 have lo':=B'.perm.length_eq
 have T1:=Qk5 K (gd B) do_ (by lia) (by lia)
 have F1:=Qdi K (gd B) do_ (by lia)
 have F2:=Qdi kKind (gd B') do' (show (dsO o').length<=63 by lia)
 have F3:=Qdi K (o:=none) trivial (fun p hp=>by cases hp) (Nat.zero_le _)
 rw [Qkn] at F2
 obtain ⟨l,hp,hlt,G⟩:=Qfw hW k.nd hok (by lia)
 have el:l=dsO o:=(hp.trans B.perm.symm).eq_of_pairwise (le:=fun x y=>x.1 < y.1) (fun x y _ _ h1 h2=>by lia) hlt B.sorted
 rw [el] at G
 have A:=Ql0 (fb K [] (dsO o))
 have F2':QW [.obj "Kind",EO kKind o']=.ok .non:=F2
 have F3':QW [.obj K.C,.non]=.ok .non:=F3
 rw [← Qnw] at q
 have q':forL (gNm 9) (sSeq (sSet 11 (Qf (QC 64) [(Qe 5),(Qe 11),(Qe 9),(f2 gDIx (Qe 6) (fVar 9))])) (sSeq (sSet 12 (Qf (QC 64) [(Qa4 "Kind"),(Qe 12),(Qe 9),(f2 gDIx (Qe 6) (fVar 9))])) Qb)) ((Q4 al).map kD) [x0,x1,.val (.int w),x3,x4,.val (.obj K.C),.val (.dic (Q4 al) (al.map (·.2))),x7,x8,x9,x10,.val .non,.val .non]=.ok (.nx [x0,x1,.val (.int w),x3,x4,.val (.obj K.C),.val (dict al),x7,x8,s9',x10,.val (EO K o),.val (EO kKind o')]):=q
 have fk:∀ body:Sm,QkB (Qe 6) (gNm 9) body [x0,x1,.val (.int w),x3,x4,.val (.obj K.C),.val (dict al),x7,x8,x9,x10,.val .non,.val .non]=forL (gNm 9) body ((Q4 al).map kD) [x0,x1,.val (.int w),x3,x4,.val (.obj K.C),.val (dict al),x7,x8,x9,x10,.val .non,.val .non]:=fun body=>rfl
 have st1:(fun δ=>(sSet 11 (fC .non)) (thaw 6 δ)) [x0,x1,.val (.int w),x3,x4,.val (.obj K.C),.own (dict al),x7,x8,x9,x10,x11,x12]=.ok (.nx [x0,x1,.val (.int w),x3,x4,.val (.obj K.C),.val (dict al),x7,x8,x9,x10,.val .non,x12]):=rfl
 refine (QcE (F:=fun δ=>(sSet 11 (fC .non)) (thaw 6 δ)) st1).trans ((QcE (δ':=[x0,x1,.val (.int w),x3,x4,.val (.obj K.C),.val (dict al),x7,x8,x9,x10,.val .non,.val .non]) rfl).trans ((QcE ((fk _).trans q')).trans ?_))
 generalize opD (fb K [] (dsO o))=R at *
 generalize EO K o=v at *
 generalize EO kKind o'=v' at *
 generalize dict al=z at *
 generalize K.C=cc at *
 simp?! [T1,F1,F2',F3',G,A]
theorem QiH (ns:List Int) {k:Int} (h:0<=k):∃ c,QZ [.frl (ns.map .int),.int k]=.ok (.int c):=by
 obtain ⟨k,rfl⟩:∃ n:Nat,k=(n:Int):=⟨k.toNat,by lia⟩
 by_cases hk:k < ns.length
 ·refine ⟨ns[k],?_⟩
  have i:atI (ns.map D.int) (k:Int)=some (.int ns[k]):=atN (by rw [List.getElem?_map,List.getElem?_eq_getElem hk];rfl)
  have hl:(k:Int) < ((ns.map D.int).length:Int):=by rw [List.length_map];lia
  generalize ns.map D.int=N at *
  generalize (k:Int)=j at *
  simp?! [QZ,QaZ,hl,gIx,i]
 ·refine ⟨0,?_⟩
  have hl:¬ (k:Int) < ((ns.map D.int).length:Int):=by rw [List.length_map];lia
  generalize ns.map D.int=N at *
  generalize (k:Int)=j at *
  simp?! [QZ,QaZ,hl]
theorem law_true (ns:List Int) (hns:ns.length<=63):Qgz [.frl (ns.map D.int)]=.ok (.bl true):=by
 obtain ⟨h,hh⟩:=QiH ns (k:=0) (by decide)
 obtain ⟨c1,hc1⟩:=QiH ns (k:=1) (by decide)
 obtain ⟨K,hW⟩:=Qpb h
 have hk:=QnK hW
 obtain ⟨f,hf⟩:∃ f:Bool,f=decide (h / 15 % 2=1):=⟨_,rfl⟩
 obtain ⟨md,hmd⟩:∃ md:Int,md=if f=true then 0 else h / 5 % 3:=⟨_,rfl⟩
 obtain ⟨L,hL⟩:∃ L:Int,L=if (49:Int) < (ns.length:Int) - 1 then 49 else (ns.length:Int) - 1:=⟨_,rfl⟩
 have hL1:L<=49/\L<=(ns.length:Int) - 1/\-1<=L:=by
  rw [hL];split <;> lia
 refine QfU ((Qeh (i:=1) (d:=.int h) ?_).trans ((Qeh (i:=2) (d:=.int (h % 5)) ?_).trans ((Qeh (i:=3) (d:=.int (h / 5 % 3)) ?_).trans ((Qeh (i:=4) (d:=.bl f) ?_).trans ((QcE (δ':=[.val (.frl (ns.map D.int)),.val (.int h),.val (.int (h % 5)),.val (.int md),.val (.bl f),.un,.un,.un,.un,.un,.un,.un,.un]) ?_).trans ((Qeh (i:=5) (d:=.obj K.C) ?_).trans ((QcE (δ':=[.val (.frl (ns.map D.int)),.val (.int h),.val (.int (h % 5)),.val (.int md),.val (.bl f),.val (.obj K.C),.own (dict []),.un,.un,.un,.un,.un,.un]) rfl).trans ((Qeh (i:=7) (d:=.int L) ?_).trans ?_))))))))
 ·show (Qf (QZ) [(Qe 0),(fC (.int 0))]) [.val (.frl (ns.map D.int)),.un,.un,.un,.un,.un,.un,.un,.un,.un,.un,.un,.un]=_
  simp?! [hh]
 ·show (f2 gMod (fVar 1) (fC (.int 5))) [.val (.frl (ns.map D.int)),.val (.int h),.un,.un,.un,.un,.un,.un,.un,.un,.un,.un,.un]=_
  simp?! []
 ·show (f2 gMod (f2 gDiv (fVar 1) (fC (.int 5))) (fC (.int 3))) [.val (.frl (ns.map D.int)),.val (.int h),.val (.int (h % 5)),.un,.un,.un,.un,.un,.un,.un,.un,.un,.un]=_
  simp?! []
 ·show (f2 gEq (f2 gMod (f2 gDiv (fVar 1) (fC (.int 15))) (fC (.int 2))) (fC (.int 1))) [.val (.frl (ns.map D.int)),.val (.int h),.val (.int (h % 5)),.val (.int (h / 5 % 3)),.un,.un,.un,.un,.un,.un,.un,.un,.un]=_
  rw [hf]
  simp?! []
 ·show (sIf (fTru (fVar 4)) (sSeq (sSet 3 (fC (.int 0))) Qb) Qb) [.val (.frl (ns.map D.int)),.val (.int h),.val (.int (h % 5)),.val (.int (h / 5 % 3)),.val (.bl f),.un,.un,.un,.un,.un,.un,.un,.un]=_
  rw [hmd]
  cases f with
  | true=>simp?! []
  | false=>simp?! []
 ·show (Qf (Qbe) [(Qe 2)]) [.val (.frl (ns.map D.int)),.val (.int h),.val (.int (h % 5)),.val (.int md),.val (.bl f),.un,.un,.un,.un,.un,.un,.un,.un]=_
  generalize K.C=cc at *
  simp?! [hk]
 ·show (Qf gMin [(f2 gSub (Qf gLen [(fVar 0)]) (fC (.int 1))),(fC (.int 49))]) [.val (.frl (ns.map D.int)),.val (.int h),.val (.int (h % 5)),.val (.int md),.val (.bl f),.val (.obj K.C),.own (dict []),.un,.un,.un,.un,.un,.un]=_
  have hlm:(ns.map D.int).length=ns.length:=List.length_map _
  rw [hL]
  generalize ns.map D.int=N at *
  generalize dict []=z at *
  generalize K.C=cc at *
  simp?! [gMin,gLen,hlm]
 show sSeq _ _ [.val (.frl (ns.map D.int)),.val (.int h),.val (.int (h % 5)),.val (.int md),.val (.bl f),.val (.obj K.C),.own (dict []),.val (.int L),.un,.un,.un,.un,.un]=_
 have hr3:rOk3 1 L 2=true:=by simp only [rOk3,decide_eq_true_eq];lia
 have e3:∀ body:Sm,Qkb [(fC (.int 1)),(fVar 7),(fC (.int 2))] (gNm 8) body [.val (.frl (ns.map D.int)),.val (.int h),.val (.int (h % 5)),.val (.int md),.val (.bl f),.val (.obj K.C),.own (dict []),.val (.int L),.un,.un,.un,.un,.un]=forL (gNm 8) body (rngS 1 2 (Qb1 1 L 2)) [.val (.frl (ns.map D.int)),.val (.int h),.val (.int (h % 5)),.val (.int md),.val (.bl f),.val (.obj K.C),.own (dict []),.val (.int L),.un,.un,.un,.un,.un]:=fun body=>by
  have ha:Qaq [(fC (.int 1)),(fVar 7),(fC (.int 2))] [.val (.frl (ns.map D.int)),.val (.int h),.val (.int (h % 5)),.val (.int md),.val (.bl f),.val (.obj K.C),.own (dict []),.val (.int L),.un,.un,.un,.un,.un]=.ok [.int 1,.int L,.int 2]:=rfl
  simp only [Qkb,ha,Qau,hr3,if_true]
 have hst:Qb1 1 L 2<=24/\∀ i:Nat,i < Qb1 1 L 2->1 + (i:Int) * 2 < L:=by
  unfold Qb1
  by_cases hb:1 < L
  ·rw [if_pos hb];exact ⟨by lia,fun i hi=>by lia⟩
  ·rw [if_neg hb];exact ⟨by lia,fun i hi=>by lia⟩
 rw [Qov,e3]
 refine For.useP (fun r:Ou Fl=>r=.ok (.rt (.bl true))) (fun i δ=>∃ (al:List (Nat×D)) (s8 s9 s10:Sl),δ=[.val (.frl (ns.map D.int)),.val (.int h),.val (.int (h % 5)),.val (.int md),.val (.bl f),.val (.obj K.C),.own (dict al),.val (.int L),s8,s9,s10,.un,.un]/\Kn K al i) ⟨[],.un,.un,.un,rfl,QoH K⟩ ?_ ?_
 ·rintro i d hd hi δ ⟨al,s8,s9,s10,rfl,k⟩
  rw [Qdv] at hi
  obtain ⟨_,rfl⟩:=QiS hd
  have:=hst.2 i hi
  obtain ⟨al',s9',s10',q,k'⟩:=Qn7 hW ns h md L f k (by lia) (1 + (i:Int) * 2) (by lia) (by lia) s9 s10
  exact Goes.eq q ⟨al',_,s9',s10',rfl,k'⟩
 ·rintro δ ⟨al,s8,s9,s10,rfl,k⟩
  rw [Qdv] at k
  have k24:=k.mono hst.1
  have mid:∃ al',(sIf (fAsB (f2 gEq (fVar 3) (fC (.int 2)))) (sSeq (Qhy (Qa9 6 (QaM) [.inl (Qe 2),.inr 6,.inl (Qf (QZ) [(Qe 0),(fC (.int 1))])])) Qb) Qb) [.val (.frl (ns.map D.int)),.val (.int h),.val (.int (h % 5)),.val (.int md),.val (.bl f),.val (.obj K.C),.own (dict al),.val (.int L),s8,s9,s10,.un,.un]=.ok (.nx [.val (.frl (ns.map D.int)),.val (.int h),.val (.int (h % 5)),.val (.int md),.val (.bl f),.val (.obj K.C),.own (dict al'),.val (.int L),s8,s9,s10,.un,.un])/\Kn K al' 38:=by
   by_cases h2:md=2
   ·obtain ⟨al',q,k'⟩:=Qk7 hW k24 (by lia) c1
    refine ⟨al',?_,k'⟩
    generalize ns.map D.int=N at *
    generalize dict al=z at *
    generalize dict al'=z' at *
    generalize K.C=cc at *
    simp?! [h2,Qhy,Qa9,Qcp,hc1,q]
   ·refine ⟨al,?_,k24.mono (by lia)⟩
    generalize ns.map D.int=N at *
    generalize dict al=z at *
    generalize K.C=cc at *
    simp?! [h2]
  obtain ⟨al',mq,k'⟩:=mid
  show sSeq _ _ [.val (.frl (ns.map D.int)),.val (.int h),.val (.int (h % 5)),.val (.int md),.val (.bl f),.val (.obj K.C),.own (dict al),.val (.int L),s8,s9,s10,.un,.un]=_
  exact (QcE mq).trans (Qph hW k' _ _ _ _ _ _ _ _ _ _)
end
end Pr
open PySem PySem.W PyProof.Rows
set_option maxRecDepth 100000 in
set_option maxHeartbeats 0 in
theorem PySem.Challenge.cw_pastdesk_k61_the_first_that_fails_holds : PySem.Challenge.rw_pastdesk_k61_the_first_that_fails.Holds := by
 w_on;o_law;k_head;(case hw=>w_witness2)
 k_fill
 refine Pr.walk (l := PySem.Challenge.rw_pastdesk_k61_the_first_that_fails) rfl rfl (fun w h Y => PySem.W.kIn_of Y) Pr.law_true ?F
 case F =>
  intro w mg fa h X G hm
  refine' Pr.all_mk h (fun base=>?R) hm
  case R =>
   constructor
   all_goals first | (refine' DL.sr0_mk X G ?a ?l ?c ?k;(case a=>k_is);(case l=>k_is);(case c=>k_is);(case k=>k_is)) | (refine' DL.ms0_mk ?a ?l ?c ?k ?i;(case a=>k_is);(case l=>k_is);(case c=>k_is);(case k=>k_is);(case i=>k_is)) | (refine' DL.ck_mk ?a ?l ?c ?k ?i;(case a=>k_is);(case l=>k_is);(case c=>k_is);(case k=>k_is);(case i=>k_is)) | (refine' DL.mk0_mk X G ?a ?l ?c ?k;(case a=>k_is);(case l=>k_is);(case c=>k_is);(case k=>k_is)) | (refine PySem.W.mg_none_of X G ?_;k_is)
