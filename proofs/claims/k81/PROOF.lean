import PyProof.Rows.All
import OpenK.KLine
import KE.LcSums
import KE.KItem
import KE.KRevIter
import Lean
import PyProof.EqAt
import PyProof.EqKinds
import PyProof.TupleCall
import KE.KLam
import KE.KNestM
import KE.KTryMore
import PyProof.ZipIter
import PyProof.ExcInit
import PyProof.FString
import PyProof.InstStore
import OpenK.KCls
import PyProof.InstStoreFacts
import PyProof.ExcClass2
import PyProof.ExcBaseAll.ValueError
import OpenK.KMake
import KE.KIntText
import PyProof.StrCalls2
import PyProof.CallStr
import KE.KDictLaws
import KE.KDictList
import PyProof.Rows.SetFrom
import PyProof.Rows.Range3
import KE.KxText
import PyProof.DictWalks
import PyProof.Rows.StrInSeq3
import PyProof.EnumMake
import PyProof.Rows.EnumRows
import PyProof.DictItems
import PyProof.DictValues
import PyProof.FString5
import PyProof.MeetsDictList
import KE.KMinKey
import PyProof.StrWalks
import PyProof.StrLawsChain
import PyProof.StrLawsIn
import PyProof.StrBlockL
import PySem.Challenge.RW_creditworks_k81_counters_and_rows_answer
set_option Elab.async false
set_option linter.all false
set_option maxRecDepth 100000
set_option compiler.extract_closed false
set_option bootstrap.genMatcherCode false
set_option genSizeOf false
set_option hygiene false
local macro_rules|`(9001)=>`(model X.prog X.w)
local macro_rules|`(9002)=>`(mOp gIx (af 0)<|mC<|.int 0)
local macro_rules|`(9003)=>`([.fz<|Rm I s,.fz t,.fz<|.list I,.fz<|.int (s':Int),.own<|.list st])
local macro_rules|`(9004)=>`((envOfC K1 K0 s₀.heap.objs.size f ρ::outer))
local macro_rules|`(9005)=>`([.fz<|.list N,.fz<|.list f,.no,.no,.no])
local macro_rules|`(9006)=>`((.Call (.Attribute o m apos) (e::es) [] pos))
local macro_rules|`(9007)=>`(ah<|ax rfl)
local macro_rules|`(9008)=>`(mOp gIx (af 1)<|mC<|.int 0)
local macro_rules|`(9009)=>`([.fz<|.list [],.fz<|.list F,.fz<|.int (k:Int),.fz<|.list A,.fz t])
local macro_rules|`(9010)=>`(mOp gIx (af 0)<|mC<|.int 1)
local macro_rules|`(9011)=>`((.inr ⟨_,rfl⟩))
local macro_rules|`(9012)=>`((.bool true,false))
local macro_rules|`(9013)=>`((false,eval e X.env))
local macro_rules|`(9014)=>`(backToKw pos<|keywordEach [] X.env)
local macro_rules|`(9015)=>`(.Attribute o m apos)
local macro_rules|`(9016)=>`(kz X K0 (jb x fr) s2 ρ G.objs.size fp)
local macro_rules|`(9017)=>`(model prog w)
local macro_rules|`(9018)=>`(Gro.refl _)
local macro_rules|`(9019)=>`(mOp gIx (af 1)<|mC<|.int 1)
local macro_rules|`(9020)=>`([some<|Cl.dat<|.list<|(w::I).map .str])
local macro_rules|`(9021)=>`(nIx (aq 1)<|nLit<|.int 3)
local macro_rules|`(9022)=>`(s.heap.objs.size+1)
local macro_rules|`(9023)=>`([⟨n,S.length+1,bgC ca k,bgW k,bgF k,bgD k,0⟩])
local macro_rules|`(9024)=>`(mCB dj<|ae (af 0) ao)
local macro_rules|`(9025)=>`([(Sum.inr n,.lc S.length)])
local macro_rules|`(9026)=>`((.bool false,false))
local macro_rules|`(9027)=>`([some<|.lc b,some<|.lc q,some<|.pl<|.str<|cW w<|I.length+2])
local macro_rules|`(9028)=>`(List RV×Rho)
local macro_rules|`(9029)=>`(ak (h.fld rfl) aY)
local macro_rules|`(9030)=>`([some<|.lc k,some W,none,none])
local macro_rules|`(9031)=>`(nIx (aq 1)<|nLit<|.int 1)
local macro_rules|`(9032)=>`((.Call (.Name x p) (e::es) [] pos))
local macro_rules|`(9033)=>`(EP X C0 J Q)
local macro_rules|`(9034)=>`([.lc N,.lc W,.pl<|.int c])
local macro_rules|`(9035)=>`([.fz<|Qd l r,.fz T])
local macro_rules|`(9036)=>`((oY (k:=.fz)<|ah<|ax rfl))
local macro_rules|`(9037)=>`(([n0,n1,n2,n3,n4].map PyData.str))
local macro_rules|`(9038)=>`(bh (j 2<|zeN h2) rfl)
local macro_rules|`(9039)=>`(nLit<|.int 0)
local macro_rules|`(9040)=>`(k==NameKind.free&&env.scope.kind== .function&&env.kindOf n==some .cell)
local macro_rules|`(9041)=>`(ah<|ax<|dh rfl)
local macro_rules|`(9042)=>`((A++⟨t.n,t.p,t.C,t.kd,t.f,e,c⟩::B))
local macro_rules|`(9043)=>`(.pl<|.bool true)
local macro_rules|`(9044)=>`(nO<|mCB dj<|ae (mOp gIx (af 2)<|mC<|.int 1) ao)
local macro_rules|`(9045)=>`(az<|mOp gEq (mCB dj<|ae (af 1) ao)<|mC<|.int 0)
local macro_rules|`(9046)=>`(PySem.W.fnOf x K1 (jd st) (fw st) (ai st) .none kV doc pm an cdv ct)
local macro_rules|`(9047)=>`((D×Bool) ⊕ Str)
local macro_rules|`(9048)=>`([some<|.dat<|rD l,some<|.lst [.lc (S'++P).length,.pl<|.int<|ff ts]])
local macro_rules|`(9049)=>`([some<|.dat<|.list<|(w::I).map .str])
local macro_rules|`(9050)=>`((backTo pos<|starEach (e::es) X.env))
local macro_rules|`(9051)=>`((some<|.dat<|.list<|[n0,n1,n2,n3,n4].map .str))
local macro_rules|`(9052)=>`([.fz<|.list [],.fz<|.list F,.fz<|.int (k:Int),.own<|.list A,.fz t])
local macro_rules|`(9053)=>`(ju rfl h.hw rfl)
local macro_rules|`(9054)=>`(ha C0 s J H _ I h)
local macro_rules|`(9055)=>`(List D×Rho)
local macro_rules|`(9056)=>`(bq<|dh rfl)
local macro_rules|`(9057)=>`([.list<|(Ctr.up r).map .int,.list<|(rng<|Ctr.lead r+1).map .int])
local macro_rules|`(9058)=>`([some<|oB (bgC ca k) (bgW k) (bgF k)<|bgD k])
local macro_rules|`(9059)=>`(Ext.refl _ _ _ _)
local macro_rules|`(9060)=>`([.fz<|Qd f b,.fz t])
local macro_rules|`(9061)=>`(bh (j 6<|zeN G) rfl)
local macro_rules|`(9062)=>`([some<|.lc i,some<|.pl<|.str w,some<|.pl<|.int s,some<|.pl<|.int p,some<|.pl c,some<|.pl<|.int<|bu l,none,none,none])
local macro_rules|`(9063)=>`(w.length+(I.length+1))
local macro_rules|`(9064)=>`(some<|.obj C fs)
local macro_rules|`(9065)=>`(df<|nLit<|.bool false)
local macro_rules|`(9066)=>`([.fz<|.str z])
local macro_rules|`(9067)=>`(((Sum.inr p.1:Key),V.ref p.2.1))
local macro_rules|`(9068)=>`(nIx (m5<|aa (nIx (aq 1)<|nLit<|.int 2)<|aa (nIx (aq 1)<|nLit<|.int 4) aj)<|nO<|mOp pz (af 3)<|mC<|.int 8)
local macro_rules|`(9069)=>`([.pl<|.int<|ly l,.pl<|.int<|lz l,.lc v,.pl<|.int<|bu l])
local macro_rules|`(9070)=>`((a.length:Int))
local macro_rules|`(9071)=>`([.list<|r.map .int])
local macro_rules|`(9072)=>`([.fz<|.list [],.fz<|.list F,.fz<|.int (k:Int),.no,.no])
local macro_rules|`(9073)=>`(some<|.pl<|.int b)
local macro_rules|`(9074)=>`(mC<|.int 0)
local macro_rules|`(9075)=>`(ρ C0 s J H _ I h)
local macro_rules|`(9076)=>`([some<|.lc k,some W,some<|.pl T,none])
local macro_rules|`(9077)=>`(.pl<|.int c)
local macro_rules|`(9078)=>`(some (.dat (.list ds)))
local macro_rules|`(9079)=>`([some<|.lc i,some<|.pl<|.str w,some<|.pl<|.int s,some<|.pl<|.int p,some<|.pl c,none,none,none,none])
local macro_rules|`(9080)=>`(A.deeper<|envOfC K1 (ai st) s.heap.objs.size f cdv)
local macro_rules|`(9081)=>`(b∈X.ex\/X.s₀.heap.objs.size<=b)
local macro_rules|`(9082)=>`(some<|dL<|ρ++[m])
local macro_rules|`(9083)=>`([some<|dL [],some<|dL [],some<|dL [],some<|wL 0 0 x (x+1)<|x+2,some<|Cl.dat<|.list<|f.map .int])
local macro_rules|`(9084)=>`([some<|.lc k,some W,some<|.pl<|.int n,some<|.pl T])
local macro_rules|`(9085)=>`(some<|.dct<|esT ts)
local macro_rules|`(9086)=>`(nLit<|.int 2)
local macro_rules|`(9087)=>`((l.length:Int))
local macro_rules|`(9088)=>`(([]:List<|Addr×Obj))
local macro_rules|`(9089)=>`(.ok (.pl d) s)
local macro_rules|`(9090)=>`([some<|.lc i])
local macro_rules|`(9091)=>`(Be CX P w K mg base N K1 K0 f cdv A outer s H E)
local macro_rules|`(9092)=>`(ds.map .fz++List.replicate k .no)
local macro_rules|`(9093)=>`(((S1.set v<|some<|.dat<|rD<|l++[e]).set u<|some<|Bo (l++[e]) v).set d<|some<|.dct<|esT ts')
local macro_rules|`(9094)=>`([some (.dat (.list ((ts.map (·.c)).map .int)))])
local macro_rules|`(9095)=>`(nIx (aq 2)<|nLit<|.int 0)
local macro_rules|`(9096)=>`([some<|.lc k,some W,some<|.pl T])
local macro_rules|`(9097)=>`((z.length:Int))
local macro_rules|`(9098)=>`(some<|.ref p)
local macro_rules|`(9099)=>`(.ins C dx fs)
local macro_rules|`(9100)=>`(bh (c7<|f 7<|zeN P) rfl)
local macro_rules|`(9101)=>`(a==sysModules)
local macro_rules|`(9102)=>`(Gro.app _ _)
local macro_rules|`(9103)=>`(((m+1:Nat):Int))
local macro_rules|`(9104)=>`(J.set i<|some v)
local macro_rules|`(9105)=>`(upd B p<|.tup xs)
local macro_rules|`(9106)=>`(((a.map PyData.int).length:Int))
local macro_rules|`(9107)=>`(gy<|ae (mSl gSl (af 0) ei<|iy<|mUn rW<|mC<|.int 1)<|ae (mCB mY<|ae (af 1) ao) ao)
local macro_rules|`(9108)=>`(decide (x.length<y.length)||decide (Builtin.Str.strKind x<Builtin.Str.strKind y))
local macro_rules|`(9109)=>`(ha pos C0 s J H _ I h)
local macro_rules|`(9110)=>`([.lc b,.pl<|.str A0])
local macro_rules|`(9111)=>`((false,eval a X.env))
local macro_rules|`(9112)=>`([.fz R,.fz<|.int b,.own<|.list<|a.map .int,.own<|.list<|s.map .int,.fz<|.int k])
local macro_rules|`(9113)=>`([some<|.obj C []])
local macro_rules|`(9114)=>`([.list<|(Fig.moved (-1) r).map .int,.list<|(rng<|Fig.lead (-1) r+1).map .int])
local macro_rules|`(9115)=>`((some<|.dat<|.list<|(w::t.n::I).map .str))
local macro_rules|`(9116)=>`(gy<|ae (af 1)<|ae (af 2) ao)
local macro_rules|`(9117)=>`(.lc S.length)
local macro_rules|`(9118)=>`(.Call (.Name x p) [] [] pos)
local macro_rules|`(9119)=>`([some<|.lc b,some<|.pl<|.str A0,some<|.lc S.length,none,none,none,none,none])
local macro_rules|`(9120)=>`([s1.heap.objs.size])
local macro_rules|`(9121)=>`(upd (upd n dx<|.own x) x<|.ins C dx [])
local macro_rules|`(9122)=>`((some<|.dat<|.list [.str<|bgW k,.str n]))
local macro_rules|`(9123)=>`(mC<|.int 2)
local macro_rules|`(9124)=>`(mOp gIx (af 3)<|mC<|.int 1)
local macro_rules|`(9125)=>`(mOp gIx (af 3)<|mC<|.int 0)
local macro_rules | `(tactic|fail "q0")=>`(tactic|(
 have a:mOp gIx (af 0) (mC (.int 0)) [.fz (Qd f b),.fz t]=some ((.list f,.fz),[.fz (Qd f b),.fz t]):=bc (ah (ax rfl)) (ah rfl) (ix0 _ _);have c:mOp gIx (af 0) (mC (.int 1)) [.fz (Qd f b),.fz t]=some ((.list b,.fz),[.fz (Qd f b),.fz t]):=bc (ah (ax rfl)) (ah rfl) (ix1 _ _);have d:dY (ae (af 1) ao) [.fz (Qd f b),.fz t]=some ((.list [t],.new),[.fz (Qd f b),.fz t]):=f6 (au (ah (ax rfl)) aX) rfl (by simp)
 have e:dY (ae (mC (.str "laid")) ao) [.fz (Qd f b),.fz t]=some ((.list [.str "laid"],.new),[.fz (Qd f b),.fz t]):=f6 rfl rfl (by simp)))
local macro_rules | `(tactic|fail "q1")=>`(tactic|(
 intro G A B H J s V Q R e q;refine gr (t:=I) ha R e q λx v D F N s1 Z S j o i l=>?_))
local macro_rules | `(tactic|fail "q2")=>`(tactic|(
 obtain⟨x,A,e⟩:=zd8 e;obtain⟨y,C,e⟩:=zd8 e))
local macro_rules | `(tactic|fail "q3")=>`(tactic|(
 refine ha.sv F B H J L x.1 x.2 _ R A λv j i f d k V=>?_))
local macro_rules | `(tactic|fail "q4")=>`(tactic|(
 intro G A B H J s r0 Q R e q;refine gr (t:=t) h R e q λvs xs l k n s1 D U a j b i=>?_))
local macro_rules | `(tactic|fail "q5")=>`(tactic|(
 have a:mOp gIx (af 0) (mC (.int 0)) [.fz (Qd f b)]=some ((.list f,.fz),[.fz (Qd f b)]):=bc (ah (ax rfl)) (ah rfl) (ix0 _ _);have c:mOp gIx (af 0) (mC (.int 1)) [.fz (Qd f b)]=some ((.list b,.fz),[.fz (Qd f b)]):=bc (ah (ax rfl)) (ah rfl) (ix1 _ _)))
local macro_rules | `(tactic|fail "q6")=>`(tactic|(
 intro F B H J L C ρ' Q R e q;obtain⟨x,A,e⟩:=zd8 e;obtain⟨l,b,e⟩:=zd9 e;cases e))
local macro_rules | `(tactic|fail "q7")=>`(tactic|(
 refine h F B H J L x.1 x.2 _ R A λvs B1 l a V W=>?_
 obtain⟨g,R2,b,j⟩:=Rel.Z2 V W.weak C))
local macro_rules | `(tactic|fail "q8")=>`(tactic|(
 intro F B H J L o D R e q;obtain⟨x,f,e⟩:=zd8 e))
local macro_rules | `(tactic|fail "q9")=>`(tactic|(
 have e:b=it:=by simpa using f
 subst e;obtain⟨o,e,c,d⟩:=st;exact⟨o,e,λv z=>by rw[d]at z;cases z⟩))
local macro_rules | `(tactic|fail "qa")=>`(tactic|(
 split at e
 case isFalse=>cases e
 rename_i s
 obtain⟨w,m,f⟩:=zd8 e))
local macro_rules | `(tactic|fail "qb")=>`(tactic|(
 intro X N hw σ m i C0 s J H E I g st j;subst N hw σ))
local macro_rules | `(tactic|fail "qc")=>`(tactic|(
 obtain⟨v,rfl,c⟩:=yf h;obtain⟨p,xs,rfl,b,a⟩:=c.list s))
local macro_rules | `(tactic|fail "qd")=>`(tactic|(
 have:=ca.nd;simp only[List.nodup_cons,List.mem_cons,not_or]at this))
local macro_rules | `(tactic|fail "qe")=>`(tactic|(
 exact ag (h.put rfl (iz (ar rfl) rfl rfl)) (bt (C2 (QT rfl hn) (uV rfl rfl) rfl))))
local macro_rules | `(tactic|fail "qf")=>`(tactic|(
 intro F B H J L ds ρ' Q R e q;obtain⟨x,A,e⟩:=zd8 e))
local macro_rules | `(tactic|fail "qg")=>`(tactic|(
 have e:b=s1.heap.objs.size:=by simpa using f
 subst e;exact c.Wt (zen _) (c.hok.fresh (zen _))))
local macro_rules | `(tactic|fail "qh")=>`(tactic|(
 obtain⟨y,d,b⟩:=zd8 i;split at b))
local macro_rules | `(tactic|fail "qi")=>`(tactic|(
 rw[show c.toArray.any (eqU x)=c.any (eqU x) by simp,Pc r fs]
 exact q))
local macro_rules | `(tactic|fail "qj")=>`(tactic|(
 .by_cases z:q=p
  .subst z;rw[aw]at h⊢;exact h
  .rw[av z]at h⊢;exact R.sub q u h))
local macro_rules | `(tactic|fail "qk")=>`(tactic|(
 rw[show BG f v ((k,x)::r)=(if k=f then(k,v)::r else(k,x)::BG f v r)from rfl]
 by_cases hk:k=f))
local macro_rules | `(tactic|fail "ql")=>`(tactic|(
 by_cases z:q=p
 .subst z;rw[aw]at h;cases h;cases I))
set_option hygiene true
namespace PySem.W.Fast
def tw3456203457581085860:=0
def tw723854856662167486:=0
def tw17589777127167464626:=0
def tw11421704996575113052:=0
def tw3839363805548137349:=0
def tw12075814181504870947:=0
def tw7341441310595029373:=0
def tw10225332667931141116:=0
def tw15021443293317012671:=0
def tw2071845119625594236:=0
def tw6079058898212418817:=0
def tw17573156197961872708:=0
def tw9879256490975410914:=0
def tw18262820454187335434:=0
def tw14133233835970141334:=0
def tw10513640115863004009:=0
def tw7859427510476520680:=0
def tw7175356715603259320:=0
def tw2179975914168364894:=0
def tw10031280449751278214:=0
def tw9249902193820070426:=0
def tw6756564851044387951:=0
def tw10366362418260389495:=0
def tw4264961558303830353:=0
def tw2659846232583818318:=0
def tw863085522496193246:=0
def tw12049118936615379675:=0
def tw5610188436518852908:=0
def tw13391145859686827566:=0
def tw3763333334208691839:=0
def tw16212407792403513267:=0
def tw1025206971465386915:=0
def tw14837762051777993739:=0
def tw14263266715799788954:=0
def tw6317346522143242651:=0
def tw12261745195453367537:=0
def tw5354076609561389883:=0
def tw10354894472949103310:=0
def tw18062587141363656572:=0
def tw4702622237524407917:=0
def tw9326146726469425552:=0
def tw1471711430974419007:=0
def tw963218220196820817:=0
def tw12187141083281939050:=0
def tw6775228120146962902:=0
def tw10236505260188015546:=0
def tw16544283494372587712:=0
def tw14239456635446180431:=0
def tw12710194340766022017:=0
def tw491033824149955138:=0
def tw5560923322167825026:=0
def tw9347956845197863222:=0
def tw14282092902517274062:=0
def tw13776798195627648549:=0
def tw4383733999533635680:=0
def tw3594255309583258382:=0
def tw3651140289103406033:=0
def tw8493317213732512409:=0
def tw10813782009217451369:=0
def tw14643477442060353621:=0
def tw3046772224216855742:=0
def tw14243913748603129792:=0
def tw17321700198826857148:=0
def tw10027544463894426115:=0
def tw13202432166613707788:=0
def tw6406578031801781751:=0
def tw4917205967872764542:=0
def tw10423583958008066037:=0
def tw5623830866894220964:=0
def tw4600971683877092292:=0
def tw1773121696667192881:=0
def tw6132239661496371567:=0
def tw8102022472537998913:=0
def tw1237253401833614506:=0
def tw13784130686170131338:=0
def tw7864244166636410411:=0
def tw17322362997079261455:=0
def tw15910529338047658988:=0
def tw17602646732862913730:=0
def tw12942035371446316309:=0
def tw13168531890855995228:=0
def tw12191696614728069593:=0
def tw827525273133993743:=0
def tw3784332372883842853:=0
def tw2764626020281019486:=0
def tw8306846644403850916:=0
def tw10154268288728573807:=0
def tw11712232096215679694:=0
def tw17909071829531003509:=0
def tw12526850786783242466:=0
def tw148153173500252090:=0
def tw16135551990137728231:=0
def tw6437439081055854035:=0
def tw8741226644705445724:=0
def tw11265660747664492683:=0
def tw12183058282440131542:=0
def tw7964305276109004152:=0
def tw4407447211542760593:=0
def tw3613995854143966556:=0
def tw17033126176434152018:=0
def tw10083346236069017279:=0
def tw2684355785190947818:=0
def tw527012916893232576:=0
def tw15959865470799504880:=0
def tw16691564699881048489:=0
def tw10527982996766382681:=0
def tw5148634536645384493:=0
def tw6117897500967524712:=0
def tw9999937690651605797:=0
def tw18232637940506166513:=0
def tw12224786799529772660:=0
def tw8370785886748903823:=0
def tw15610237868723553707:=0
def tw16134790378402773797:=0
def tw15232015672364793497:=0
def tw12083217621222475944:=0
def tw631118534480303530:=0
def tw11768032077326378379:=0
def tw17152896504186113547:=0
def tw8935486215335793180:=0
def tw3439834807705260741:=0
def tw3230877040853137382:=0
def tw11671988671292764515:=0
def tw6938236490509959737:=0
def tw17085094372697806250:=0
def tw2692889875908335777:=0
def tw18070891627932591891:=0
def tw6268757929005575592:=0
def tw6820122960285368296:=0
def tw11003832565068521961:=0
def tw5383388204929139406:=0
def tw18000227678722366696:=0
def tw4808773290082310538:=0
def tw2975668334666199950:=0
def tw5514560435943030012:=0
def tw16088830864117488081:=0
def tw5474545053485813091:=0
def tw8907585337906875265:=0
def tw4644968293090315732:=0
def tw9702122055067595525:=0
def tw1902041752851688081:=0
def tw9851758010969788459:=0
def tw12020323495260851978:=0
def tw15595722766635643299:=0
def tw5343726469780735613:=0
def tw1379129727544289399:=0
def tw18295564507355781503:=0
def tw693071639788360082:=0
def tw2325543173713632651:=0
def tw12181820291523113990:=0
def tw2157203843484489386:=0
def tw4535040265040567158:=0
def tw16125336101574158581:=0
def tw10091403127210603361:=0
def tw11874037205799660909:=0
def tw4398014593272524025:=0
def tw865656101094776657:=0
def tw3782512374909611707:=0
def tw14564857442242719975:=0
def tw3965474748723900809:=0
def tw11232492304336559683:=0
def tw6396263383795691386:=0
def tw2057733234737792919:=0
def tw4554216720388691363:=0
def tw1750579364583003689:=0
def tw5568277007381244082:=0
def tw11243715049842368586:=0
def tw6725775072364398337:=0
def tw11647434200697035787:=0
def tw17204357752550023513:=0
def tw14518417977280748497:=0
def tw14709727065777627552:=0
def tw15057322130464855327:=0
def tw1645361352839062001:=0
def tw826064207555357700:=0
def tw7358271603300785934:=0
def tw2799555190742621800:=0
def tw2440551819156957665:=0
def tw2502828757235681430:=0
def tw6084525637862592403:=0
def tw16312519572466685874:=0
def tw15877170924032523315:=0
def tw15457312345914477150:=0
def tw10446373672398433904:=0
def tw10279454623944756308:=0
def tw12145651373550011015:=0
def tw15322321340082250490:=0
def tw10730740578038444155:=0
def tw42983662506808332:=0
def tw7917333700973301480:=0
def tw18226058025050443203:=0
def tw10121087734007289560:=0
def tw4408741059554294713:=0
def tw12406090984550158283:=0
def tw9505101496994585120:=0
def tw3581051861446843735:=0
def tw2939369820360134020:=0
def tw15936357743854212378:=0
def tw2948071406838118407:=0
def tw6213572682040107395:=0
def tw12657105328254783629:=0
def tw15259838403991481517:=0
def tw14017963275002871171:=0
def tw8401520154594427088:=0
def tw12711092420077099715:=0
def tw922140632553838654:=0
def tw16675958620008505963:=0
def tw12965269342675075820:=0
def tw12391369999183612059:=0
def tw1885093706335775080:=0
def tw17246116626114927496:=0
def tw7352879639395745122:=0
def tw17099315898042684984:=0
def tw4207910256643444893:=0
def tw10588112357005545792:=0
def tw17315793157415262492:=0
def tw4700715905073406943:=0
def tw2298583000937015551:=0
def tw7172009925025842008:=0
def tw10920154721007474168:=0
def tw7648677197509402674:=0
def tw12517524020769161697:=0
def tw8750586048010057441:=0
def tw10752500690914987981:=0
def tw15474427780655295382:=0
def tw4565168884908753088:=0
def tw13128577189077762146:=0
def tw10001274799785611670:=0
def tw5102057607651358304:=0
def tw14858329333281725853:=0
def tw4698720108374688604:=0
def tw7264223179440080275:=0
def tw17275159904048837080:=0
def tw17570376692218076429:=0
def tw4074661998976505598:=0
def tw16553349964528856930:=0
def tw4176682938250261482:=0
def tw16392628338389745749:=0
def tw3868693934474693883:=0
def tw6570377583422371166:=0
def tw17329304321751263240:=0
def tw1517893886695027841:=0
def tw17256371329617693217:=0
def tw16556916734855211458:=0
def tw763257165191676155:=0
def tw13691719051354073087:=0
def tw11264518665144583:=0
def tw1674603545477420772:=0
def tw14556238424870699188:=0
def tw3168785629824446932:=0
def tw7579069769991710385:=0
def tw5129730100636836613:=0
def tw8842979521213042572:=0
def tw3906062725416368408:=0
def tw998495685906672212:=0
def tw11652084362835220619:=0
def tw9986155123455238111:=0
def tw16418503196214154851:=0
def tw5157987762321872978:=0
def tw9369219095001361651:=0
def tw8339294337742219209:=0
def tw7057836388132059692:=0
def tw5725478724961230681:=0
def tw18373996835115998308:=0
def tw11774017868645285288:=0
def tw8114262155664079373:=0
def tw7451874650655048220:=0
def tw11906138908446981076:=0
def tw10191106744628196857:=0
def tw1953471426281825063:=0
end PySem.W.Fast
noncomputable section
open PySem
def zd8(h:o.bind f=some b):∃a,o=some a/\f a=some b:=Option.bind_eq_some_iff.mp h
def zd9(h:o.map f=some b):∃a,o=some a/\f a=b:=Option.map_eq_some_iff.mp h
def zea{l:List α}{i:Nat}(h:l[i]?=some a):∃h:i<l.length,l[i]=a:=List.getElem?_eq_some_iff.mp h
def zeb(h:a∈[b]):a=b:=List.mem_singleton.mp h
def zec{s t:List α}(h:a∈s++t):a∈s\/a∈t:=List.mem_append.mp h
def zed(h:a∈b::l):a=b\/a∈l:=List.mem_cons.mp h
abbrev zee:=PySem.W.Frag
abbrev zef:=PySem.Challenge.rw_creditworks_k81_counters_and_rows_answer.prog
section
open PySem.Spec PyProof.Rows
def zeg:=@Option.bind_some
def zeh:=@List.mem_of_getElem?
def zei:=@List.mem_cons_of_mem
def zej:=@List.length_map
def zek:=@Bool.false_ne_true
def zel:=@List.mem_append_right
def zem:=@List.getElem?_map
def zen:=@Nat.le_refl
def zeo:=@Heap.lt_size
def zep:=@Heap.get?_push_of_some
def zeq:=@List.mem_cons_self
def zer:=@List.getElem?_cons_succ
def zes:=@List.length_append
def zet:=@List.getElem?_set_self
def zeu:=@List.length_cons
def zew:=@List.getElem?_append_left
def zex:=@List.cons_append
def zey:=@List.map_cons
def zez:=@List.getElem?_set_ne
def zeA:=@PyProof.Rows.boot_isinstance
def zeB:=@List.getElem?_eq_getElem
def zeC:=@List.append_assoc
def zeD:=@PySem.boot_len
def zeE:=@Nat.lt_of_lt_of_le
def zeF:=@List.eq_of_mem_replicate
def zeG:=@decide_eq_true
def zeH:=@wpAny_bind
def zeI:=@PySem.F.plainAttrs_list
def zeJ:=@List.size_toArray
def zeK:=@Heap.get?_push_size
def zeL:=@List.length_set
def zeM:=@List.getElem?_append_right
def zeN:=@decide_eq_false
def zeO:=@List.getElem?_cons_zero
def zeP:=@Option.some.inj
def zeQ:=@List.append_nil
def zeR:=@Nat.ne_of_lt
def zeS:=@Option.map_some
def zeT:=@PySem.F.type_list_append
def zeU:=@PySem.F.slot_list_append
def zeV:=@List.mem_append_left
def zeW:=@Nat.le_trans
def zeY:=@wpAny_pure
def zeZ:=@PySem.W.mg_none_of
def ze0:=@List.map_append
def ze2:=@Nat.lt_irrefl
def ze3:=@PySem.W.kia_one
def ze4:=@PySem.mem_of_lookup
def ze5:=@wpAny_mono
def ze6:=@List.length_singleton
def ze7:=@List.lookup_cons
def ze9:=@Nat.le_of_not_lt
def zfa:=@List.drop_eq_getElem_cons
def zfb:=@List.replicate_succ
end
namespace L2
open PySem.Spec PyProof.Rows
abbrev Key:=Sum Int Str
def Ib:Key->Value->Bool
 | .inl k,v=>Value.isInt k v
 | .inr x,v=>Value.isStrOf x v
def zdy(w:World):Key->Int
 | .inl k=>hashInt k
 | .inr x=>hashStr w x
theorem gx:∀{k:Key} {v:Value},Ib k v=true->(∃i t,k=Sum.inl i/\v=Value.int i t)\/(∃x t,k=Sum.inr x/\v=Value.str x t)
 | .inl i,v,h=>by
  obtain⟨t,e⟩:=Value.isInt_shape (k:=i) (v:=v) h;exact .inl ⟨i,t,rfl,e⟩
 | .inr x,v,h=>by
  obtain⟨t,e⟩:=Value.isStrOf_shape (x:=x) (v:=v) h;exact .inr ⟨x,t,rfl,e⟩
theorem QU(i:Int)(t:Tok):Ib (.inl i) (.int i t)=true:=by simp[Ib,Value.isInt]
theorem QV(x:Str)(t:Tok):Ib (.inr x) (.str x t)=true:=by simp[Ib,Value.isStrOf]
theorem Z3(a b:Int):decide ((Sum.inl a:Key)=Sum.inl b)=(a==b):=by
 by_cases e:a=b
 .subst e;simp
 .have h : ¬(Sum.inl a:Key)=Sum.inl b:=λq=>e (Sum.inl.inj q)
  rw[zeN h];exact(beq_eq_false_iff_ne.mpr e).symm
theorem Z4(a b:Str):decide ((Sum.inr a:Key)=Sum.inr b)=decide (a=b):=by
 by_cases e:a=b
 .subst e;simp
 .have h : ¬(Sum.inr a:Key)=Sum.inr b:=λq=>e (Sum.inr.inj q)
  rw[zeN h,zeN e]
def Z5(a:Int)(b:Str):decide ((Sum.inl a:Key)=Sum.inr b)=false:=zeN (λq=>nomatch q)
def Z6(a:Str)(b:Int):decide ((Sum.inr a:Key)=Sum.inl b)=false:=zeN (λq=>nomatch q)
def gg(prog:Program)(w:World):PySem.KeyKind prog w Key where
 is:=Ib
 hash:=zdy w
 inj:=λv a b ha hb=>by
  rcases gx ha with⟨i,t,rfl,rfl⟩|⟨x,t,rfl,rfl⟩
  .rcases gx hb with⟨j,u,rfl,e⟩|⟨y,u,rfl,e⟩
   .injection e with e1 _;rw[e1]
   .exact nomatch e
  .rcases gx hb with⟨j,u,rfl,e⟩|⟨y,u,rfl,e⟩
   .exact nomatch e
   .injection e with e1 _;rw[e1]
 byValue:=λk v h=>by
  rcases gx h with⟨i,t,rfl,rfl⟩|⟨x,t,rfl,rfl⟩<;>rfl
 pyHash:=λhv h=>by
  rcases gx hv with⟨i,t,rfl,rfl⟩|⟨x,t,rfl,rfl⟩
  .exact wpAny_pyHash_int h
  .exact wpAny_pyHash_str h
 eqBool:=λhu hv h=>by
  rcases gx hu with⟨i,t,rfl,rfl⟩|⟨x,t,rfl,rfl⟩
  .rcases gx hv with⟨j,u,rfl,rfl⟩|⟨y,u,rfl,rfl⟩
   .rw[Z3]at h;exact wpAny_eqBool_int h
   .rw[Z5]at h;exact SeqAt.EqAt.int_str i t y u _ _ _ _ h
  .rcases gx hv with⟨j,u,rfl,rfl⟩|⟨y,u,rfl,rfl⟩
   .rw[Z6]at h;exact SeqAt.EqAt.str_int x t j u _ _ _ _ h
   .rw[Z4]at h;exact wpAny_eqBool_str h
 «strs»:=λk x t v h=>by
  rcases gx h with⟨i,u,rfl,e⟩|⟨y,u,rfl,e⟩
  .exact nomatch e
  .injection e with e1 _
   subst e1;cases v<;>rfl
def K7(prog:Program)(w:World)(i:Int)(t:Tok):(gg prog w).is (.inl i) (.int i t)=true:=QU i t
def K8(prog:Program)(w:World)(x:Str)(t:Tok):(gg prog w).is (.inr x) (.str x t)=true:=QV x t
inductive V where
 |non|bl (b:Bool)|int (i:Int)|str (x:Str)|byt (b:Array UInt8)|flt (b:UInt64)|ref (a:Addr)|ty (n:String)
 deriving DecidableEq
def RelV:V->Value->Prop
 | .non,u=>u=Value.none
 | .bl b,u=>u=Value.bool b
 | .int i,u=>∃t,u=Value.int i t
 | .str x,u=>∃t,u=Value.str x t
 | .byt b,u=>∃t,u=Value.bytes b t
 | .flt b,u=>∃t,u=Value.float b t
 | .ref a,u=>u=Value.ref a
 | .ty n,u=>u=Value.type n
abbrev Vals:List V->List Value->Prop:=Paired RelV
theorem Vals.length(r:Vals xs us):xs.length=us.length:=Paired.length r
theorem Vals.get:∀{xs:List V} {us:List Value} {i:Nat} {x:V},Vals xs us->xs[i]?=some x->∃u,us[i]?=some u/\RelV x u
 |_,_,_,_,.nil,e=>by simp at e
 |_,_,0,_,.cons r _,e=>by simp at e;subst e;exact⟨_,rfl,r⟩
 |_,_,i+1,x,.cons _ t,e=>by
  obtain⟨u,h1,h2⟩:=Vals.get (i:=i) (x:=x) t (by simpa using e)
  exact⟨u,by simpa using h1,h2⟩
theorem Vals.set(r:RelV x u):∀{xs:List V} {us:List Value} (i:Nat),Vals xs us->Vals (xs.set i x) (us.set i u)
 |_,_,_,.nil=>.nil
 |_,_,0,.cons _ t=>.cons r t
 |_,_,i+1,.cons q t=>.cons q (Vals.set r i t)
theorem Vals.append:∀{xs ρ:List V} {us I:List Value},Vals xs us->Vals ρ I->Vals (xs++ρ) (us++I)
 |_,_,_,_,.nil,s=>s
 |_,_,_,_,.cons r t,s=>.cons r (Vals.append t s)
theorem Vals.take:∀{xs:List V} {us:List Value} (n:Nat),Vals xs us->Vals (xs.take n) (us.take n)
 |_,_,0,_=>.nil
 |_,_,_+1,.nil=>.nil
 |_,_,n+1,.cons r t=>.cons r (Vals.take n t)
theorem Vals.drop:∀{xs:List V} {us:List Value} (n:Nat),Vals xs us->Vals (xs.drop n) (us.drop n)
 |_,_,0,r=>r
 |_,_,_+1,.nil=>.nil
 |_,_,n+1,.cons _ t=>Vals.drop n t
def vt:Option V->Option Value->Prop
 |some v,some u=>RelV v u
 |none,none=>True
 |_,_=>False
def KV{I:Type}:List (I×V)->List (I×Value)->Prop:=Paired λ(p : I×V) (q : I×Value)=>p.1=q.1/\RelV p.2 q.2
def kV:Key->V
 | .inl i=>.int i
 | .inr x=>.str x
inductive HO where
 |lst (xs:List V)
 |tup (xs:List V)
 |dK (G0:List (Key×V))|dT (G0:List (List Key×V))
 |set (S:Int->Bool) (n:Nat)
 |ins (C dx:Addr) (fs:List (Str×V))
 |own (x:Addr)
 |xd (fs:List (Str×V))
 |met (f x:Addr)
 |rng (lo hi:Int)
 |frz (o:Obj) (u:HO)
 |tbl (ps:Array Value)
 |ext (φ:Heap->Prop)
def Kp:HO->Prop
 | .tup _=>True
 | .tbl _=>True
 |_=>False
abbrev Hp:=Addr->Option HO
def upd(H:Hp)(a:Addr)(o:HO):Hp:=λb=>if b=a then some o else H b
theorem aw:upd H a o a=some o:=by unfold upd;rw[if_pos rfl]
theorem av(h:b≠a):upd H a o b=H b:=by unfold upd;rw[if_neg h]
theorem zce{H:Hp}{o u:HO}(h:H a=some o)(h':H b=some u)(d:o≠u):a≠b:=by
 intro e;subst e;rw[h]at h';exact d (zeP h')
theorem kx{H:Hp}{o:HO}(h:H a=some o)(h':H b=none):a≠b:=by
 intro e;subst e;rw[h]at h';cases h'
section
variable(P:Program)(w:World)
def ft(H:Hp)(h:Heap)(a:Addr):HO->Prop
 | .lst xs=>xs.length<=sizeLine/\∃(D:List Value) (n:Nat),Vals xs D/\h.get? a=some {cls:=.type "list",data:=.seq D.toArray n}
 | .tup xs=>xs.length<=sizeLine/\∃D:List Value,Vals xs D/\IsTup h a D.toArray/\∃o,h.get? a=some o/\o.dict=none
 | .dK G0=>G0.length<=sizeLine/\9101=false/\∃vs,KV G0 vs/\h.DictOf (gg P w) a vs
 | .dT G0=>G0.length<=sizeLine/\9101=false/\∃xs:List (List Key×Addr×Value),
   Paired (λ(p:List Key×V) (q:List Key×Addr×Value)=>p.1=q.1/\H q.2.1=some (.tup<|p.1.map kV)/\RelV p.2 q.2.2) G0 xs/\
   ∃o es F,h.get? a=some o/\o.ExactDict/\o.data=.dict es F/\es.toList=xs.map (entryOfKey<|tupleKind<|gg P w)/\(xs.map (·.1)).Nodup
 | .set S n=>h.SetOf (intKind P w) a S n
 | .ins C dx fs=>H dx=some (.own a)/\fs.length<=1000/\dx≠a/\h.get? a=some (PySem.W.instObj C dx)/\
   ∃mA,h.Ns1 dx mA/\(∀f,vt (fs.lookup f)<|mA f)/\PySem.Within mA (fs.map (·.1))
 | .own _=>∃o,h.get? a=some o
 | .xd fs=>∃mA,h.Ns1 a mA/\∀f,vt (fs.lookup f) (mA f)
 | .rng lo hi=>∃t u v,h.get? a=some {cls:=.type "range",data:=.fields #[.int lo t,.int hi u,.int 1 v]}
 | .frz o u=>h.get? a=some o/\ft H h a u
 | .tbl ps=>(ps[0]?=some .none/\∃q t,ps[1]?=some (.str q t)/\h.CodeRec (.ref a) q)\/
   (ps[0]?≠some .none/\∃E,h.get? a=some {cls:=.none,data:=.fields E}/\(E=#[]\/∃c q t more,E=#[ps.getD 0 .none,ps.getD 1 .none,.ref c]/\ps[2]?=some (.str q t)/\H c=some (.tbl<|#[.none,.str q t]++more)))
 | .met f x=>h.get? a=some (PySem.W.methodObj (.ref f)<|.ref x)
 | .ext φ=>φ h/\(∃o,h.get? a=some o)/\∀h1 h2:Heap,φ h1->(∀o,h1.get? a=some o->h2.get? a=some o)->φ h2
def HOk(H:Hp)(h:Heap):Prop:=∀a o,H a=some o->ft P w H h a o
end
section
variable{P:Program}{w:World}{H H':Hp}{h h':Heap}{a:Addr}{o:HO}
theorem ft.lt(x:ft P w H h a o):a<h.objs.size:=by
 cases o with
 |lst xs=>obtain⟨_,_,_,_,e⟩:=x;exact zeo e
 |tup xs=>obtain⟨_,_,_,p,_⟩:=x;exact p.lt
 |dK G0=>obtain⟨_,_,_,_,o,_,_,e,_⟩:=x;exact zeo e
 |dT G0=>obtain⟨_,_,_,_,o,_,_,e,_⟩:=x;exact zeo e
 |set S n=>obtain⟨o,_,_,_,e,_⟩:=x;exact zeo e
 |ins C dx fs=>obtain⟨_,_,_,e,_⟩:=x;exact zeo e
 |own y=>obtain⟨_,e⟩:=x;exact zeo e
 |xd fs=>obtain⟨_,⟨_,_,_,e,_⟩,_⟩:=x;exact zeo e
 |rng lo hi=>obtain⟨_,_,_,e⟩:=x;exact zeo e
 |frz ob u=>obtain⟨e,_⟩:=x;exact zeo e
 |tbl ps=>
  rcases x with⟨_,_,_,_,_,_,_,_,b,e,_⟩|⟨_,_,e,_⟩
  .cases b;exact zeo e
  .exact zeo e
 |met f y=>exact zeo (show h.get? a=some _ from x)
 |ext φ=>obtain⟨_,⟨_,e⟩,_⟩:=x;exact zeo e
theorem Paired.Z7:∀{I:List α} {ρ:List M},Paired F I ρ->(∀a b,F a b->G a b)->Paired G I ρ
 |_,_,.nil,_=>.nil
 |_,_,.cons r t,f=>.cons (f _ _ r) (Paired.Z7 t f)
theorem ft.stay(x:ft P w H h a o)(k:∀b u,(b=a\/H b=some (.own a))->h.get? b=some u->h'.get? b=some u)
  (ρ:∀b,H b=some (.own a)->H' b=some (.own a)) (I:∀b u,Kp u->H b=some u->H' b=some u):ft P w H' h' a o:=by
 induction o with
 |lst xs=>obtain⟨z,j,n,r,e⟩:=x;exact⟨z,j,n,r,k _ _ (.inl rfl) e⟩
 |tup xs=>obtain⟨z,j,r,⟨ob,e,c⟩,σ,i,A⟩:=x;exact⟨z,j,r,⟨ob,k _ _ (.inl rfl) e,c⟩,σ,k _ _ (.inl rfl) i,A⟩
 |dK G0=>obtain⟨z,y,vs,r,ob,es,g,e,c⟩:=x;exact⟨z,y,vs,r,ob,es,g,k _ _ (.inl rfl) e,c⟩
 |dT G0=>
  obtain⟨z,y,xs,r,ob,es,g,e,c⟩:=x;exact⟨z,y,xs,Paired.Z7 r λp q z=>⟨z.1,I _ _ trivial z.2.1,z.2.2⟩,ob,es,g,k _ _ (.inl rfl) e,c⟩
 |set S n=>obtain⟨ob,es,g,t,e,c⟩:=x;exact⟨ob,es,g,t,k _ _ (.inl rfl) e,c⟩
 |ins C dx fs=>
  obtain⟨d,z,ne,e,mA,⟨od,es,g,i,c⟩,r⟩:=x;exact⟨ρ _ d,z,ne,k _ _ (.inl rfl) e,mA,⟨od,es,g,k _ _ (.inr d) i,c⟩,r⟩
 |own y=>obtain⟨ob,e⟩:=x;exact⟨ob,k _ _ (.inl rfl) e⟩
 |xd fs=>obtain⟨mA,⟨od,es,g,e,c⟩,r⟩:=x;exact⟨mA,⟨od,es,g,k _ _ (.inl rfl) e,c⟩,r⟩
 |rng lo hi=>obtain⟨t,u,v,e⟩:=x;exact⟨t,u,v,k _ _ (.inl rfl) e⟩
 |frz ob u G=>obtain⟨e,q⟩:=x;exact⟨k _ _ (.inl rfl) e,G q⟩
 |tbl ps=>
  rcases x with⟨l,q,t,s,c,o,vs,tk,D,F,E⟩|⟨l,K,e,c⟩
  .cases D
   exact .inl ⟨l,q,t,s,_,o,vs,tk,rfl,k _ _ (.inl rfl) F,E⟩
  .refine .inr ⟨l,K,k _ _ (.inl rfl) e,?_⟩
   rcases c with c|⟨c,q,t,m,s,i,B⟩
   .exact .inl c
   .exact .inr ⟨c,q,t,m,s,i,I _ _ trivial B⟩
 |met f y=>
  have e:h.get? a=some (PySem.W.methodObj (.ref f)<|.ref y):=x;show h'.get? a=some (PySem.W.methodObj (.ref f)<|.ref y);exact k a _ (.inl rfl) e
 |ext φ=>obtain⟨p,⟨o,e⟩,st⟩:=x;exact⟨st _ _ p λo q=>k _ _ (.inl rfl) q,⟨o,k _ _ (.inl rfl) e⟩,st⟩
theorem HOk.lt(x:HOk P w H h)(e:H a=some o):a<h.objs.size:=(x a o e).lt
theorem HOk.fresh(x:HOk P w H h)(e:h.objs.size<=a):H a=none:=by
 cases q:H a with
 |none=>rfl
 |some u=>exact absurd (zeE (x.lt q) e) (ze2 _)
def HOk.kept(x:HOk P w H h)(k:∀b u,h.get? b=some u->h'.get? b=some u):HOk P w H h':=λa o e=>
 (x a o e).stay (λb u _ q=>k b u q) (λ_ q=>q) λ_ _ _ q=>q
theorem HOk.laid(x:HOk P w H h)(k:∀b u,h.get? b=some u->h'.get? b=some u)(I:h.objs.size<=a)(new:ft P w (upd H a o) h' a o):HOk P w (upd H a o) h':=λb u e=>by
 have hn:=x.fresh I
 by_cases d:b=a
 .subst d;rw[aw]at e;cases e;exact new
 .rw[av d]at e
  exact(x b u e).stay (λc v _ q=>k c v q) (λc q=>by rw[av<|kx q hn];exact q) λc xs _ q=>by rw[av<|kx q hn];exact q
end
def Rd(H:Hp)(a:Addr)(u:HO):Prop:=H a=some u\/∃o,H a=some (.frz o u)
theorem Rd.ok(r:Rd H a u)(x:HOk P w H h):ft P w H h a u:=by
 rcases r with r|⟨o,r⟩
 .exact x a u r
 .obtain⟨_,q⟩:=x a _ r
  exact q
def Mut:Option HO->Prop
 |some (.lst _)=>True
 |some (.dK _)=>True
 |some (.dT _)=>True
 |some (.set _ _)=>True
 |some (.ins _ _ _)=>True
 |some (.ext _)=>True
 |_=>False
section
variable{P:Program}{w:World}{H:Hp}{h h':Heap}{x e:Addr}{o':HO}
theorem HOk.write(ok:HOk P w H h)(I:Mut<|H x)(M:e=x\/H e=some (.own x))(k:∀b u,b≠e->h.get? b=some u->h'.get? b=some u)(ρ:∃u,h'.get? e=some u)
  (new:ft P w (upd H x o') h' x o'):HOk P w (upd H x o') h':=λb u q=>by
 have i:∀c y,H c=some (.own y)->c≠x:=λc y r z=>by subst z;rw[r]at I;exact I
 have l:∀c xs,H c=some (.tup xs)->c≠x:=λc xs r z=>by subst z;rw[r]at I;exact I
 by_cases f:b=x
 .subst f;rw[aw]at q;cases q;exact new
 .rw[av f]at q
  by_cases a:b=e
  .have j:H b=some (.own x):=by
    rcases M with z|z
    .exact absurd (a.trans z) f
    .rw[a];exact z
   rw[q]at j;cases j
   obtain⟨v,hv⟩:=ρ;exact⟨v,by rw[a];exact hv⟩
  .refine(ok b u q).stay (λc v g r=>k c v ?_ r) (λc r=>by rw[av<|i c b r];exact r) λc v hk r=>by rw[av λz=>by subst z;rw[r]at I;cases v<;>first|exact hk|exact I];exact r
   rcases g with rfl|g
   .exact a
   .rintro rfl
    rcases M with z|z
    .exact i c b g z
    .rw[g]at z;cases z;exact f rfl
end
structure Un(fs ex:List Addr)(H H':Hp)(h h':Heap):Prop where
 keep:∀b o,h.get? b=some o->H b=none->b∉fs->b∉ex->h'.get? b=some o
 slot:∀b o,h.get? b=some o->H b=none->b∈fs->b∉ex->∃sl,h'.get? b=some {o with slots:=sl}
 free:∀b o,h.get? b=some o->H b=none->b∉ex->H' b=none
 there:∀b o,h.get? b=some o->b∉ex->∃o',h'.get? b=some o'
 tups:∀b xs,H b=some (.tup xs)->H' b=some (.tup xs)
 x9:∀b o u,H b=some (.frz o u)->H' b=some (.frz o u)
 ya:∀b ps,H b=some (.tbl ps)->∃more,H' b=some (.tbl<|ps++more)
section
variable{fs fs' ex ex':List Addr}{H H1 H2:Hp}{h h1 h2 h':Heap}{a x e:Addr}{o:HO}
theorem Un.any(u:Un fs ex H H1 h h1)(q:h.get? b=some ob)(n:H b=none)(hx:b∉ex):∃sl,h1.get? b=some {ob with slots:=sl}:=by
 by_cases c:b∈fs
 .exact u.slot b ob q n c hx
 .exact⟨ob.slots,u.keep b ob q n c hx⟩
theorem Un.kept(k:∀b u,h.get? b=some u->h'.get? b=some u):Un fs ex H H h h' :=
 ⟨λb ob q _ _ _=>k b ob q,λb ob q _ _ _=>⟨ob.slots,k b ob q⟩,λ_ _ _ n _=>n,λb ob q _=>⟨ob,k b ob q⟩,λ_ _ q=>q,λ_ _ _ q=>q,λ_ ps q=>⟨#[],by rw[q];simp⟩⟩
def Un.refl:Un fs ex H H h h:=Un.kept λ_ _ q=>q
theorem Un.laid(k:∀b u,h.get? b=some u->h'.get? b=some u)(I:h.objs.size<=a)(hn:H a=none):Un fs ex H (upd H a o) h h' where
 keep:=λb u q _ _ _=>k b u q
 slot:=λb u q _ _ _=>⟨u.slots,k b u q⟩
 free:=λb u q n _=>by rw[av<|zeR<|zeE (zeo q) I];exact n
 there:=λb u q _=>⟨u,k b u q⟩
 tups:=λb xs q=>by rw[av<|kx q hn];exact q
 x9:=λb u xs q=>by rw[av<|kx q hn];exact q
 ya:=λb ps q=>⟨#[],by rw[av<|kx q hn,q];simp⟩
theorem Un.write(I:Mut<|H x)(M:e=x\/H e=some (.own x))(k:∀b u,b≠e->h.get? b=some u->h'.get? b=some u)(ρ:∃u,h'.get? e=some u):Un fs ex H (upd H x o) h h':=by
 have hx:∀b,H b=none->b≠x:=λb n z=>by subst z;rw[n]at I;exact I
 have g:∀b,H b=none->b≠e:=λb n z=>by
  subst z;rcases M with r|r
  .exact hx b n r
  .rw[n]at r;cases r
 have hm:∀b u,H b=some u->¬Mut (some u)->b≠x:=λb u q i z=>by subst z;rw[q]at I;exact i I
 refine⟨λb u q n _ _=>k b u (g b n) q,λb u q n _ _=>⟨u.slots,k b u (g b n) q⟩,λb u q n _=>by rw[av<|hx b n];exact n,λb u q _=>?_,
  λb xs q=>by rw[av<|hm b _ q λz=>z];exact q,λb u xs q=>by rw[av<|hm b _ q λz=>z];exact q,λb ps q=>⟨#[],by rw[av<|hm b _ q λz=>z,q];simp⟩⟩
 by_cases f:b=e
 .subst f;exact ρ
 .exact⟨u,k b u f q⟩
end
def trk(h:Heap)(H:Hp):List Addr:=(List.range h.objs.size).filter λa=>(H a).isSome
def Jk(h:Heap)(H:Hp):Heap:=PySem.W.hideAll h (trk h H)
def QW(h:Heap)(H:Hp):(Jk h H).objs.size=h.objs.size:=PySem.W.hideAll_size _ _
theorem Sz(e:h.get? b=some o)(n:H b=none):(Jk h H).get? b=some o :=
 PySem.W.hideAll_get _ e λhm=>by
  have q:(H b).isSome=true:=(List.mem_filter.mp hm).2;rw[n]at q;simp at q
theorem Wu(e:(Jk h H).get? b=some o):h.get? b=some o/\H b=none:=by
 have a:h.get? b=some o:=PySem.W.of_hideAll (trk h H) e;refine⟨a,?_⟩;cases q:H b with
 |none=>rfl
 |some x=>
  have hm:b∈trk h H:=List.mem_filter.mpr ⟨List.mem_range.mpr<|zeo a,by simp[q]⟩
  have z:(Jk h H).get? b=none:=PySem.W.hideAll_none (trk h H) hm;rw[z]at e;cases e
def Ww(g h:Heap)(ρ:Addr):List (Addr×Obj):=(List.range h.objs.size).filterMap λa=>if a=ρ\/(g.get? a).isSome=true then none else(h.get? a).map λo=>(a,o)
def G1(g h:Heap)(ρ d:Addr):List (Addr×Obj):=(Ww g h ρ).filter λp=>decide (p.1≠d)
def SA:FuncBody->Option Pos
 | .stmts [_,.Return (some (.Call _ _ [⟨_,.Lambda _ _ _ h,_⟩] _)) _]=>some h
 |_=>none
def zcf(fd:FuncData):Bool:=(SA fd.body).isSome
def Pd(K:zee)(fd:FuncData):Option (Addr×Addr×Array Value):=match SA fd.body,fd.code with
 |some h,.ref c=>(match K.lookup c with
   |some ⟨_,_,.fields vs,_⟩=>(match(vs[11]?:Option Value)with
     |some (.ref P)=>some (c,P,#[rawInt h.line,rawInt h.col,.str (fd.qualname++".<locals>.<lambda>") 0])
     |_=>none)
   |_=>none)
 |_,_=>none
def SD(K:zee)(c P:Addr)(ps:Array Value):Bool:=PySem.W.codeHdIn K c P&&(K.lookup P).isNone&&(K.all λp=>match p.2.data with
 | .func fd=>!zcf fd||Pd K fd==some (c,P,ps)
 |_=>true)
def vx(K:zee):Option (Addr×Addr×Array Value):=match(K.findSome? λp=>match p.2.data with
  | .func fd=>Pd K fd
  |_=>none)with
 |some (c,P,ps)=>if SD K c P ps then some (c,P,ps)else none
 |none=>none
structure Mod(K:zee)(mg:Str->Option Value)(base:Heap):Prop where
 kin:K.In base
 glob:base.Ns mainGlobals mg
 blt:∃mb,base.Ns builtinsNs mb/\∀x:Str,x≠"__name__"->mb x=bootBuiltins x
 nolimit:base.NoLimit
 bmain:∃bm ob,mg "__builtins__"=some (.ref bm)/\bm≠builtinsNs/\base.get? bm=some ob/\ob.cls=.type "module"/\ob.dict=some builtinsNs/\ob.data=.plain
structure Cx where
 prog:Program
 w:World
 K:zee
 mg:Str->Option Value
 base:Heap
 A:Around
 N:List Str
 s₀:Shared
 H₀:Hp
 env:Env
 outer:List Env
 stack:List Env
 ex:List Addr
 fn:Str->Bool
 calm:Bool
 pn:List (Addr×Obj)
 xe:Value->Shared->Prop
def frs(l:List Env):List Addr:=l.filterMap (·.frame)
abbrev Cx.fs(X:Cx):List Addr:=frs X.outer
def Vis(sc:Scope)(x:Str):Prop:=sc.names.lookup x=some .local\/sc.names.lookup x=some .cell\/sc.names.lookup x=some .free
def Loc(sc:Scope)(x:Str):Prop:=sc.names.lookup x=some .local\/sc.names.lookup x=some .cell
def Look(env:Env)(h:Heap)(m:Str->Option Value)(x:Str)(u:Value):Prop :=
 (env.kindOf x=some .local/\m x=some u)\/((env.kindOf x=some .cell\/env.kindOf x=some .free)/\∃c,env.cells.lookup x=some c/\h.IsCell c (some u))
structure Cx.Ok(X:Cx):Prop where
 mod:Mod X.K X.mg X.base
 kind:X.env.scope.kind=.function
 glob:X.env.globals=mainGlobals
 blt:X.env.builtins=builtinsNs
 above:X.s₀.heap.objs.size<=X.env.locals
 inj:∀x y c,X.env.cells.lookup x=some c->X.env.cells.lookup y=some c->x=y
 has:∀x,(X.env.kindOf x=some .cell\/X.env.kindOf x=some .free)->∃c,X.env.cells.lookup x=some c
 cab:∀x c,X.fn x=true->X.env.cells.lookup x=some c->X.s₀.heap.objs.size<=c
 hd:X.calm=true->X.A.handled=none
 frames:X.A.frames=some X.stack
 stk:X.stack=X.outer\/(X.stack=X.env::X.outer/\X.env.frame=some X.env.locals)
 exf:∀b∈X.ex,b≠X.env.locals/\∀x c,X.env.cells.lookup x=some c->c≠b
 bs:∀b o,X.base.get? b=some o->X.s₀.heap.get? b=some o/\X.H₀ b=none
 bsz:X.base.objs.size<=X.s₀.heap.objs.size
 Nn:∀b o,X.base.get? b=some o->b∉X.ex
 Np:∀b∈X.ex,b∉X.fs
 BH:X.s₀.heap.FunFrames X.base X.outer
 frf:∀b∈X.fs,X.H₀ b=none
 tab:∀c T ps,vx X.K=some (c,T,ps)->∃more,X.H₀ T=some (.tbl<|ps++more)
structure Inv(X:Cx)(C0:List<|Addr×Obj)(J:List<|Option V)(H:Hp)(s:Shared):Prop where
 ok:X.Ok
 os:s.os=X.s₀.os
 bare:AllBare s.gens
 base:Un X.fs X.ex X.H₀ H X.s₀.heap s.heap
 loc:∃m,s.heap.Ns X.env.locals m/\∀(i:Nat) (x:Str) (v:V),X.N[i]?=some x->J[i]?=some (some v)->Vis X.env.scope x->∃u,RelV v u/\Look X.env s.heap m x u
 cell:∀x c,X.env.cells.lookup x=some c->∃v,s.heap.IsCell c v
 free:H X.env.locals=none
 qk:∀x c,X.env.cells.lookup x=some c->H c=none
 pin:∀p∈X.pn++C0,s.heap.get? p.1=some p.2/\H p.1=none/\p.1≠X.env.locals/\p.1∉X.fs/\∀v,p.2.data≠.cell v
 hok:HOk X.prog X.w H s.heap
 len : J.length=X.N.length
section
variable{X:Cx}{C0:List<|Addr×Obj}{J:List<|Option V}{H H':Hp}{s:Shared}{h':Heap}
theorem Cx.Ok.zdz(ok:X.Ok)(e:X.base.get? b=some o):b∉X.fs:=λa=>by
 have:=(ok.BH.mem a).1;rw[e]at this;cases this
theorem Inv.bs(I:Inv X C0 J H s):∀b o,X.base.get? b=some o->s.heap.get? b=some o/\H b=none:=λb o e=>
 ⟨I.base.keep b o (I.ok.bs b o e).1 (I.ok.bs b o e).2 (I.ok.zdz e) (I.ok.Nn b o e),I.base.free b o (I.ok.bs b o e).1 (I.ok.bs b o e).2 (I.ok.Nn b o e)⟩
theorem Inv.tab(I:Inv X C0 J H s):∀c T ps,vx X.K=some (c,T,ps)->∃more,H T=some (.tbl<|ps++more):=λc T ps e=>by
 obtain⟨m,h⟩:=I.ok.tab c T ps e;obtain⟨a,h2⟩:=I.base.ya T _ h;exact⟨m++a,by rw[h2,Array.append_assoc]⟩
def Inv.bk(I:Inv X C0 J H s):∀b o,X.base.get? b=some o->s.heap.get? b=some o:=λb o e=>(I.bs b o e).1
theorem Inv.mod(I:Inv X C0 J H s):Mod X.K X.mg X.base:=I.ok.mod
def Inv.kIn(I:Inv X C0 J H s):X.K.In s.heap:=I.ok.mod.kin.keeps I.bk
theorem Inv.lt(I:Inv X C0 J H s):X.env.locals<s.heap.objs.size:=let⟨_,hn,_⟩:=I.loc;hn.lt
def Inv.sz(I:Inv X C0 J H s):X.s₀.heap.objs.size<=s.heap.objs.size:=zeW I.ok.above (Nat.le_of_lt I.lt)
theorem Inv.zdA(I:Inv X C0 J H s){a:Addr}(h:s.heap.objs.size<=a):a∉X.fs:=λb=>by
 obtain⟨_,o,c,_⟩:=I.ok.BH.mem b;exact absurd (zeE (zeo c)<|zeW I.sz h) (ze2 _)
theorem Inv.cne(I:Inv X C0 J H s):∀x c,X.env.cells.lookup x=some c->c≠X.env.locals:=λx c e z=>by
 obtain⟨v,o,d,hd⟩:=I.cell x c e;obtain⟨m,⟨o',es,f,b,a,_⟩,_⟩:=I.loc;rw[z,b]at d;cases d;rw[a]at hd;cases hd
theorem Inv.BH(I:Inv X C0 J H s):s.heap.FunFrames X.base X.outer:=by
 have all:∀(l:List Env),(∀b∈frs l,b∈X.fs)->X.s₀.heap.FunFrames X.base l->s.heap.FunFrames X.base l:=by
  intro l
  induction l with
  |nil=>intro _ _;trivial
  |cons env r j=>
   intro f g;obtain⟨hk,⟨ρ,o,d,hn,h,hd⟩,i⟩:=g;have a:ρ∈X.fs:=f ρ (by unfold frs;rw[List.filterMap_cons,d];exact zeq)
   obtain⟨sl,e⟩:=I.base.slot ρ o h (I.ok.frf ρ a) a λz=>I.ok.Np ρ z a
   exact⟨hk,⟨ρ,_,d,hn,e,hd⟩,j (λb c=>f b (by unfold frs;rw[List.filterMap_cons,d];exact zei _ c)) i⟩
 exact all X.outer (λ_ c=>c) I.ok.BH
theorem Inv.stack(I:Inv X C0 J H s):s.heap.FunFrames X.base X.stack:=by
 rcases I.ok.stk with e|⟨e,a⟩
 .rw[e];exact I.BH
 .rw[e]
  obtain⟨m,hn,_⟩:=I.loc;refine .cons (by rw[I.ok.kind];decide) a hn ?_ I.BH
  exact Heap.get?_none_of_le (zeW I.ok.bsz I.ok.above)
theorem Inv.Nq(I:Inv X C0 J H s):∀b∈frs X.stack,b∈X.env.locals::X.fs:=λb a=>by
 rcases I.ok.stk with e|⟨e,c⟩
 .rw[e]at a;exact zei _ a
 .rw[e]at a
  unfold frs at a;rw[List.filterMap_cons,c]at a;exact a
theorem Inv.EY(I:Inv X C0 J H s):∀b∈frs X.stack,H b=none:=λb a=>by
 rcases zed (I.Nq b a)with e|a
 .rw[e];exact I.free
 .obtain⟨_,o,c,_⟩:=I.ok.BH.mem a
  exact I.base.free b o c (I.ok.frf b a) λz=>I.ok.Np b z a
theorem Inv.step{d':Drawn}{ch:List Addr}(I:Inv X C0 J H s)
  (ρ:∀b∈ch,9081/\b≠X.env.locals/\(∀x c,X.env.cells.lookup x=some c->c≠b)/\∀p∈X.pn++C0,p.1≠b)
  (keep:∀b o,b≠X.env.locals->b∉X.fs->b∉ch->s.heap.get? b=some o->H b=none->h'.get? b=some o)
  (slot:∀b o,b≠X.env.locals->b∈X.fs->b∉ch->s.heap.get? b=some o->H b=none->∃sl,h'.get? b=some {o with slots:=sl}) (free:∀b o,b∉ch->s.heap.get? b=some o->H b=none->H' b=none)
  (there:∀b o,b∉ch->s.heap.get? b=some o->∃o',h'.get? b=some o')
  (tups:∀b xs,H b=some (.tup xs)->H' b=some (.tup xs)) (x9:∀b o u,H b=some (.frz o u)->H' b=some (.frz o u)) (ya:∀b ps,H b=some (.tbl ps)->∃more,H' b=some (.tbl<|ps++more))
  (ns:∀m,s.heap.Ns X.env.locals m->h'.Ns X.env.locals m) (hok:HOk X.prog X.w H' h') (M:AllBare g') :
  Inv X C0 J H' {s with heap:=h',gens:=g',drawn:=d',toks:=O}:=by
 have A:∀b o,X.s₀.heap.get? b=some o->b≠X.env.locals:=λb o e=>zeR (zeE (zeo e) I.ok.above)
 have h:∀b o,X.s₀.heap.get? b=some o->b∉X.ex->b∉ch:=λb o e hx j=>by
  rcases(ρ b j).1 with z|z
  .exact hx z
  .exact absurd (zeE (zeo e) z) (ze2 _)
 have a:∀x c,X.env.cells.lookup x=some c->∀v,s.heap.IsCell c v->h'.IsCell c v:=λx c e v ⟨o,t,hd⟩=>by
  have f:c∉ch:=λz=>(ρ c z).2.2.1 x c e rfl
  by_cases C:c∈X.fs
  .obtain⟨sl,q⟩:=slot c o (I.cne x c e) C f t (I.qk x c e)
   exact⟨_,q,hd⟩
  .exact⟨o,keep c o (I.cne x c e) C f t<|I.qk x c e,hd⟩
 refine⟨I.ok,I.os,M,⟨λb o e n j hx=>?_,λb o e n j hx=>?_,λb o e n hx=>?_,λb o e hx=>?_,λb xs e=>tups b xs<|I.base.tups b xs e,λb o xs e=>x9 b o xs<|I.base.x9 b o xs e,λb ps e=>?_⟩,?_,λx c e=>?_,?_,λx c e=>?_,λp D=>?_,hok,I.len⟩
 .exact keep b o (A b o e) j (h b o e hx) (I.base.keep b o e n j hx) (I.base.free b o e n hx)
 .obtain⟨sl,g⟩:=I.base.slot b o e n j hx
  obtain⟨B,y⟩:=slot b _ (A b o e) j (h b o e hx) g (I.base.free b o e n hx);exact⟨B,y⟩
 .obtain⟨o',g⟩:=I.base.there b o e hx
  exact free b o' (h b o e hx) g (I.base.free b o e n hx)
 .obtain⟨o',g⟩:=I.base.there b o e hx
  exact there b o' (h b o e hx) g
 .obtain⟨G,g⟩:=I.base.ya b ps e
  obtain⟨σ,y⟩:=ya b _ g;exact⟨G++σ,by rw[y,Array.append_assoc]⟩
 .obtain⟨m,hn,F⟩:=I.loc
  refine⟨m,ns m hn,λi x v g y E=>?_⟩
  obtain⟨u,r,l⟩:=F i x v g y E;refine⟨u,r,?_⟩;rcases l with l|⟨k,c,e,z⟩
  .exact .inl l
  .exact .inr ⟨k,c,e,a x c e _ z⟩
 .obtain⟨v,z⟩:=I.cell x c e
  exact⟨v,a x c e v z⟩
 .obtain⟨m,⟨o,_,_,t,_⟩,_⟩:=I.loc
  exact free _ o (λz=>(ρ _ z).2.1 rfl) t I.free
 .obtain⟨v,o,t,hd⟩:=I.cell x c e
  exact free c o (λz=>(ρ c z).2.2.1 x c e rfl) t (I.qk x c e)
 .obtain⟨e,n,ne,nf,d⟩:=I.pin p D
  have f:p.1∉ch:=λz=>(ρ p.1 z).2.2.2 p D rfl
  exact⟨keep p.1 p.2 ne nf f e n,free p.1 p.2 f e n,ne,nf,d⟩
theorem Inv.un(I:Inv X C0 J H s)(u:Un X.fs [] H H' s.heap h')(hok:HOk X.prog X.w H' h'):Inv X C0 J H' {s with heap:=h',toks:=t'}:=by
 obtain⟨m,⟨o,es,j,g,r⟩,_⟩:=id I.loc;obtain⟨sl,h⟩:=u.any g I.free (by simp)
 exact I.step (g':=s.gens) (d':=s.drawn) (ch:=[]) (λ_ z=>nomatch z) (λb o _ f _ e n=>u.keep b o e n f (by simp)) (λb o _ f _ e n=>u.slot b o e n f (by simp)) (λb o _ e n=>u.free b o e n (by simp)) (λb o _ e=>u.there b o e (by simp)) u.tups u.x9 u.ya (λk hm=>by
  obtain⟨o',d,c,a,i⟩:=hm;rw[g]at a;cases a
  exact⟨_,d,c,h,i⟩) hok I.bare
theorem Inv.call(I:Inv X C0 J H s)(u:Un (frs X.stack) ch H H' s.heap h')(hok:HOk X.prog X.w H' h')(M:AllBare g')
  (ρ:∀b∈ch,9081/\b≠X.env.locals/\(∀x c,X.env.cells.lookup x=some c->c≠b)/\∀p∈X.pn++C0,p.1≠b) :
  Inv X C0 J H' {s with heap:=h',gens:=g',drawn:=d',toks:=t'}:=by
 obtain⟨m,⟨o,es,q,j,r⟩,_⟩:=id I.loc;obtain⟨sl,i⟩:=u.any j I.free λz=>(ρ _ z).2.1 rfl
 exact I.step (ch:=ch) ρ (λb o i k a e n=>u.keep b o e n (λz=>(zed<|I.Nq b z).elim i k) a) (λb o _ _ a e n=>u.any e n a) (λb o a e n=>u.free b o e n a) (λb o a e=>u.there b o e a) u.tups u.x9 u.ya (λt hm=>by
  obtain⟨o',h,g,d,l⟩:=hm;rw[j]at d;cases d
  exact⟨_,h,g,i,l⟩) hok M
theorem Inv.turned(I:Inv X C0 J H s)(k:∀b o,b≠it->s.heap.get? b=some o->h'.get? b=some o)(hn:H it=none)(ρ:it≠X.env.locals)
  (h1:it∈X.ex\/X.s₀.heap.objs.size<=it) (h2:∀x c,X.env.cells.lookup x=some c->c≠it) (h3:∀p∈X.pn++C0,p.1≠it):Inv X C0 J H {s with heap:=h',toks:=t'}:=by
 have d:∀b u,H b=some u->b≠it:=λb u e z=>by rw[z,hn]at e;cases e
 refine I.step (g':=s.gens) (d':=s.drawn) (ch:=[it]) (λb g=>?_) (λb o _ _ a e _=>k b o (λz=>a (by simp[z])) e) (λb o _ _ a e _=>⟨o.slots,k b o (λz=>a (by simp[z])) e⟩) (λ_ _ _ _ n=>n)
  (λb o a e=>⟨o,k b o (λz=>a (by simp[z])) e⟩) (λ_ _ e=>e) (λ_ _ _ e=>e) (λb ps e=>⟨#[],by rw[e];simp⟩) (λm hm=>?_) (λb u e=>?_) I.bare
 .have e:b=it:=by simpa using g
  subst e;exact⟨h1,ρ,h2,h3⟩
 .obtain⟨o,es,f,h,r⟩:=hm
  exact⟨o,es,f,k _ o (Ne.symm ρ) h,r⟩
 .refine(I.hok b u e).stay (λc v a q=>k c v ?_ q) (λ_ q=>q) λ_ _ _ q=>q
  rcases a with z|z
  .rw[z];exact d b u e
  .exact d c _ z
def Inv.tok(I:Inv X C0 J H s)(t:Nat):Inv X C0 J H {s with toks:=t}:=I.un (h':=s.heap) (t':=t) Un.refl I.hok
theorem Inv.kept(I:Inv X C0 J H s)(k:∀b u,s.heap.get? b=some u->h'.get? b=some u):Inv X C0 J H {s with heap:=h',toks:=t'}:=I.un (Un.kept k) (I.hok.kept k)
theorem Inv.laid{a:Addr}{t':Nat}(I:Inv X C0 J H s)(k:∀b u,s.heap.get? b=some u->h'.get? b=some u)(ρ:s.heap.objs.size<=a)(new:ft X.prog X.w (upd H a o) h' a o) :
  Inv X C0 J (upd H a o) {s with heap:=h',toks:=t'}:=I.un (Un.laid k ρ<|I.hok.fresh ρ) (I.hok.laid k ρ new)
theorem Inv.write(I:Inv X C0 J H s)(O:Mut<|H x)(M:e=x\/H e=some (.own x))(k:∀b u,b≠e->s.heap.get? b=some u->h'.get? b=some u)(ρ:∃u,h'.get? e=some u)
  (new:ft X.prog X.w (upd H x o) h' x o):Inv X C0 J (upd H x o) {s with heap:=h',toks:=U}:=I.un (Un.write O M k ρ) (I.hok.write O M k ρ new)
def Inv.Pe(I:Inv X C0 J H s)(h:∀p∈ρ,s.heap.get? p.1=some p.2/\H p.1=none/\p.1≠X.env.locals/\p.1∉X.fs/\∀v,p.2.data≠.cell v):Inv X ρ J H s :=
 ⟨I.ok,I.os,I.bare,I.base,I.loc,I.cell,I.free,I.qk,λp a=>(zec a).elim (λz=>I.pin p<|zeV _ z)<|h p,I.hok,I.len⟩
theorem La{N:List Str}(I:N.Nodup){i j:Nat}{x:Str}(a:N[i]?=some x)(b:N[j]?=some x):i=j:=by
 obtain⟨h1,c⟩:=zea a;obtain⟨h2,d⟩:=zea b;exact(List.getElem_inj I).mp (c.trans d.symm)
theorem QX(I:Inv X C0 J H s)(hN:X.N.Nodup)(hi:X.N[i]?=some x)(hx:Loc X.env.scope x)(r:RelV v u)
  (h:∀s',Inv X C0 9104 H s'->(∃a,Heap.SameBut a s.heap s'.heap/\(a=X.env.locals\/X.env.cells.lookup x=some a))->Q () s') (hf:X.fn x=true\/X.env.scope.names.lookup x=some .local:=by first|exact .inl rfl|exact .inr rfl|assumption):wpAny M A (storeName X.env x u) Q E s:=by
 obtain⟨m,hn,hl⟩:=id I.loc;have R:(X.env.scope.kind== .class||(X.env.scope.kind== .module&&X.env.locals !=X.env.globals))=false:=by rw[I.ok.kind];rfl
 have D:i<J.length:=by rw[I.len];exact(zea hi).1
 have cne:=I.cne;have l:∀{a:Addr} {h':Heap},(∃o,s.heap.get? a=some o/\H a=none)->Heap.SameBut a s.heap h'->HOk X.prog X.w H h':=fun{a h'} ha f b ob e=>by
  obtain⟨_,_,B⟩:=ha;refine(I.hok b ob e).stay (λc W t q=>(f.2 c ?_).trans q) (λ_ q=>q) λ_ _ _ q=>q
  rintro rfl
  rcases t with rfl|t
  .rw[B]at e;cases e
  .rw[B]at t;cases t
 rcases hx with hk|hk
 .refine wpAny_storeName_local hk hn (λh' ρ f=>?_) R
  obtain⟨oL,_,_,O,_⟩:=id hn;refine h _ ⟨I.ok,I.os,I.bare,⟨λb o e n F hx=>?_,λb o e n F hx=>?_,I.base.free,λb o e hx=>?_,I.base.tups,I.base.x9,I.base.ya⟩,⟨_,ρ,λj y v' g C Z=>?_⟩,λy c e=>?_,I.free,I.qk,λp U=>?_,l ⟨oL,O,I.free⟩ f,by simpa using I.len⟩ ⟨_,f,.inl rfl⟩
  .exact(f.2 b<|zeR<|zeE (zeo e) I.ok.above).trans (I.base.keep b o e n F hx)
  .obtain⟨sl,g⟩:=I.base.slot b o e n F hx
   exact⟨sl,(f.2 b<|zeR<|zeE (zeo e) I.ok.above).trans g⟩
  .obtain⟨o',g⟩:=I.base.there b o e hx
   exact⟨o',(f.2 b<|zeR<|zeE (zeo e) I.ok.above).trans g⟩
  .by_cases σ:j=i
   .subst σ
    rw[hi]at g;cases g
    rw[zet D]at C;cases C;exact⟨u,r,.inl ⟨hk,by simp⟩⟩
   .rw[zez<|Ne.symm σ]at C
    obtain⟨u',Y,q⟩:=hl j y v' g C Z;refine⟨u',Y,?_⟩;rcases q with⟨k,e⟩|⟨k,c,e,z⟩
    .refine .inl ⟨k,?_⟩
     have:y≠x:=λe=>σ (La hN g<|e▸hi)
     simp[this,e]
    .exact .inr ⟨k,c,e,z.sameBut f<|cne y c e⟩
  .obtain⟨W,z⟩:=I.cell y c e
   exact⟨W,z.sameBut f<|cne y c e⟩
  .obtain⟨e,n,ne,nf,d⟩:=I.pin p U
   exact⟨(f.2 p.1 ne).trans e,n,ne,nf,d⟩
 .have G:X.fn x=true:=by
   rcases hf with z|z
   .exact z
   .rw[z]at hk;cases hk
  obtain⟨c,t⟩:=I.ok.has x (.inl hk);obtain⟨W,z⟩:=I.cell x c t;refine wpAny_storeName_cell I.ok.kind hk t z (λh' K f=>?_)
  obtain⟨oc,S,zdB⟩:=id z;refine h {s with heap:=h'} ⟨I.ok,I.os,I.bare,⟨λb o e n F hx=>?_,λb o e n F hx=>?_,I.base.free,λb o e hx=>?_,I.base.tups,I.base.x9,I.base.ya⟩,⟨m,hn.sameBut f<|Ne.symm<|cne x c t,λj y v' g C Z=>?_⟩,λy T e=>?_,I.free,I.qk,λp U=>?_,l ⟨oc,S,I.qk x c t⟩ f,by simpa using I.len⟩ ⟨c,f,.inr t⟩
  .exact(f.2 b<|zeR<|zeE (zeo e)<|I.ok.cab x c G t).trans (I.base.keep b o e n F hx)
  .obtain⟨sl,g⟩:=I.base.slot b o e n F hx
   exact⟨sl,(f.2 b<|zeR<|zeE (zeo e)<|I.ok.cab x c G t).trans g⟩
  .obtain⟨o',g⟩:=I.base.there b o e hx
   exact⟨o',(f.2 b<|zeR<|zeE (zeo e)<|I.ok.cab x c G t).trans g⟩
  .by_cases σ:j=i
   .subst σ
    rw[hi]at g;cases g
    rw[zet D]at C;cases C;exact⟨u,r,.inr ⟨.inl hk,c,t,K⟩⟩
   .rw[zez<|Ne.symm σ]at C
    obtain⟨u',Y,q⟩:=hl j y v' g C Z;refine⟨u',Y,?_⟩;rcases q with q|⟨k,T,e,z'⟩
    .exact .inl q
    .refine .inr ⟨k,T,e,z'.sameBut f ?_⟩
     rintro rfl
     exact σ (La hN g<|I.ok.inj _ _ _ e t▸hi)
  .by_cases P:T=c
   .subst P;exact⟨_,K⟩
   .obtain⟨w2,z2⟩:=I.cell y T e
    exact⟨w2,z2.sameBut f P⟩
  .obtain⟨e,n,ne,nf,d⟩:=I.pin p U
   refine⟨(f.2 p.1 ?_).trans e,n,ne,nf,d⟩;intro q;rw[q,S]at e;have q':oc=p.2:=zeP e;exact d W (by rw[<-q'];exact zdB)
theorem Fw(I:Inv X C0 J H s)(ρ:X.N.Nodup)(hi:X.N[i]?=some x)(hx:Loc X.env.scope x)(r:RelV v u)
  (h:∀s',Inv X C0 9104 H s'->Q () s') (O:X.fn x=true\/X.env.scope.names.lookup x=some .local:=by first|exact .inl rfl|exact .inr rfl|assumption):wpAny M A (storeName X.env x u) Q E s :=
 QX I ρ hi hx r (λs' a _=>h s' a) O
theorem Inv.call'(I:Inv X C0 J H s)(O:s'.os=s.os)(u:Un (frs X.stack) ch H H' s.heap s'.heap)(hok:HOk X.prog X.w H' s'.heap)(M:AllBare s'.gens)
  (ρ:∀b∈ch,9081/\b≠X.env.locals/\(∀x c,X.env.cells.lookup x=some c->c≠b)/\∀p∈X.pn++C0,p.1≠b):Inv X C0 J H' s':=by
 obtain⟨h',g',d',t',o'⟩:=s';have e:o'=s.os:=O;subst e;exact I.call (g':=g') (t':=t') (d':=d') u hok M ρ
end
abbrev XK:=Value->Option Addr->Hp->Prop
abbrev St:=List (Option V)
abbrev VK:=V->Hp->Prop
abbrev TE:=St->Hp->VK->Prop
abbrev TT:=St->Hp->(Bool->Hp->Prop)->Prop
abbrev TA:=St->Hp->(List V->Hp->Prop)->Prop
structure Ends where
 nx:St->Hp->Prop
 rt:VK
 bk:St->Hp->Prop:=λ_ _=>False
 ct:St->Hp->Prop:=λ_ _=>False
abbrev TS:=Ends->St->Hp->Prop
def EP(X:Cx)(C0:List<|Addr×Obj)(J:St)(Q:VK)(u:Value)(s':Shared):Prop:=∃v H',Inv X C0 J H' s'/\RelV v u/\Q v H'
def TP(X:Cx)(C0:List<|Addr×Obj)(J:St)(Q:Bool->Hp->Prop)(b:Bool)(s':Shared):Prop:=∃H',Inv X C0 J H' s'/\Q b H'
def AP(X:Cx)(C0:List<|Addr×Obj)(J:St)(Q:List V->Hp->Prop)(us:List Value)(s':Shared):Prop:=∃vs H',Inv X C0 J H' s'/\Vals vs us/\Q vs H'
def SP(X:Cx)(C0:List<|Addr×Obj)(D:Ends)(f:Flow)(s':Shared):Prop :=
 match f with
 | .next=>∃h H',Inv X C0 h H' s'/\D.nx h H'
 | .brk=>∃h H',Inv X C0 h H' s'/\D.bk h H'
 | .cont=>∃h H',Inv X C0 h H' s'/\D.ct h H'
 | .ret u=>∃v h H',Inv X C0 h H' s'/\RelV v u/\D.rt v H'
def PE(X:Cx)(e:Expr)(t:TE):Prop :=
 ∀(C0:List<|Addr×Obj) (s:Shared) (J:St) (H:Hp) (Q:VK),Inv X C0 J H s->t J H Q->wpAny 9001 X.A (eval e X.env) 9033 X.xe s
def PT(X:Cx)(e:Expr)(t:TT):Prop :=
 ∀(C0:List<|Addr×Obj) (s:Shared) (J:St) (H:Hp) (Q:Bool->Hp->Prop),Inv X C0 J H s->t J H Q->wpAny 9001 X.A (isTrue e X.env<|eval e X.env) (TP X C0 J Q) X.xe s
def PW(X:Cx)(e:Expr)(t:TT):Prop :=
 ∀(h:Sem Value) (C0:List<|Addr×Obj) (s:Shared) (J:St) (H:Hp) (Q:Bool->Hp->Prop),Inv X C0 J H s->t J H Q->wpAny 9001 X.A (isTrue e X.env h) (TP X C0 J Q) X.xe s
def PW.pt(h:PW X e t):PT X e t:=h _
def PA(X:Cx)(es:List Expr)(t:TA):Prop :=
 ∀(pos:Pos) (C0:List<|Addr×Obj) (s:Shared) (J:St) (H:Hp) (Q:List V->Hp->Prop),Inv X C0 J H s->t J H Q->wpAny 9001 X.A (spliced<|backTo pos<|starEach es X.env) (AP X C0 J Q) X.xe s
def PS(X:Cx)(st:Stmt)(t:TS):Prop :=
 ∀(C0:List<|Addr×Obj) (s:Shared) (J:St) (H:Hp) (D:Ends),Inv X C0 J H s->t D J H->wpAny 9001 X.A (exec st X.env) (SP X C0 D) X.xe s
def PSs(X:Cx)(st:List Stmt)(t:TS):Prop :=
 ∀(C0:List<|Addr×Obj) (s:Shared) (J:St) (H:Hp) (D:Ends),Inv X C0 J H s->t D J H->wpAny 9001 X.A (execs st X.env) (SP X C0 D) X.xe s
def thn(h:wpAny M A t Q E s)(ρ:∀a s,Q a s->I a s):wpAny M A t I E s:=ze5 h ρ λ_ _ x=>x
section
variable{X:Cx}
def Hm(i:Nat):TE:=λJ H Q=>∃v,J[i]?=some (some v)/\Q v H
def tC(v:V):TE:=λ_ H Q=>Q v H
theorem Z8{pos:Pos}(M:X.N[i]?=some x)(hv:Vis X.env.scope x)(hd:(x==("__debug__":Str))=false:=by decide)(ρ:(x==("__classdict__":Str))=false:=by decide):PE X (.Name x pos) (Hm i):=by
 intro C0 s J H Q I h;obtain⟨v,e,h⟩:=h;obtain⟨m,hn,f⟩:=I.loc;obtain⟨u,r,l⟩:=f i x v M e hv;have b:EP X C0 J Q u s:=⟨v,H,I,r,h⟩;rcases l with⟨hk,hm⟩|⟨hk,c,d,a⟩
 .exact wpAny_Name (wpAny_loadName_local I.ok.kind hk hn hm b) hd
 .rcases hk with hk|hk
  .exact wpAny_Name (wpAny_loadName_cell I.ok.kind hk d a b) hd
  .exact wpAny_Name (wpAny_loadName_free I.ok.kind hk d a b ρ) hd
def j0:PE X (.Constant (.int i) j pos) (tC<|.int i):=λ_ _ _ H _ I h=>wpAny_Constant_int ⟨.int i,H,I.tok _,⟨_,rfl⟩,h⟩
def SE:PE X (.Constant (.bool b) j pos) (tC<|.bl b):=λ_ _ _ H _ I h=>Constant_bool ⟨.bl b,H,I,rfl,h⟩
def Z9:PE X (.Constant .none j pos) (tC .non):=λ_ _ _ H _ I h=>Constant_none ⟨.non,H,I,rfl,h⟩
def tY:PE X (.Constant (.str x) j pos) (tC<|.str x):=λ_ _ _ H _ I h=>Calls.Constant_str ⟨.str x,H,I.tok _,⟨_,rfl⟩,h⟩
def Gl(X:Cx)(x:Str):Prop:=X.env.kindOf x=some .globalImplicit
theorem vy{s:Shared}{J:St}{H:Hp}{x:Str}{u:Value}{pos:Pos}{Q:Value->Shared->Prop}(I:Inv X C0 J H s)(ρ:Gl X x)(hm:X.mg x=some u)(h:Q u s)
  (hd:(x==("__debug__":Str))=false:=by decide):wpAny 9001 X.A (eval (.Name x pos) X.env) Q E s :=
 Calls.Name_function_global I.ok.kind ρ (Calls.loadGlobal_global (by rw[I.ok.glob];exact I.mod.glob.keeps I.bk) hm h) hd
theorem A9{E:Value->Shared->Prop}{s:Shared}{J:St}{H:Hp}{x:Str}{u:Value}{pos:Pos}{Q:Value->Shared->Prop}(I:Inv X C0 J H s)(ρ:Gl X x)(hm:X.mg x=none)(hv:bootBuiltins x=some u)(h:Q u s)
  (hn:x≠"__name__":=by decide) (hd:(x==("__debug__":Str))=false:=by decide):wpAny 9001 X.A (eval (.Name x pos) X.env) Q E s:=by
 obtain⟨mb,h1,h2⟩:=I.mod.blt;exact Calls.Name_function_global I.ok.kind ρ (Calls.loadGlobal_builtin (by rw[I.ok.glob];exact I.mod.glob.keeps I.bk) hm (by rw[I.ok.blt];exact h1.keeps I.bk) ((h2 x hn).trans hv) h) hd
theorem rY(ρ:Gl X x)(hm:X.mg x=some u)(r:RelV v u)(hd:(x==("__debug__":Str))=false:=by decide):PE X (.Name x pos) (tC v) :=
 λ_ _ _ H _ I h=>vy I ρ hm ⟨v,H,I,r,h⟩ hd
theorem Wx{u:Value}{pos:Pos}(ρ:Gl X x)(hm:X.mg x=none)(hv:bootBuiltins x=some u)(r:RelV v u)(hn:x≠"__name__":=by decide)(hd:(x==("__debug__":Str))=false:=by decide):PE X (.Name x pos) (tC v) :=
 λ_ _ _ H _ I h=>A9 I ρ hm hv ⟨v,H,I,r,h⟩ hn hd
variable{a b:Expr}{ta tb:TE}{pos:Pos}
def PC(X:Cx)(I:CmpOp)(a b:Expr)(t:TE):Prop :=
 ∀(C0:List<|Addr×Obj) (s:Shared) (J:St) (H:Hp) (Q:VK),Inv X C0 J H s->t J H Q->
  wpAny 9001 X.A (eval a X.env) (λv h=>wpAny 9001 X.A (eval b X.env) (λu D=>wpAny 9001 X.A (compareOp I v u) 9033 X.xe D) X.xe h) X.xe s
def tB(t:TE):TT:=λJ H Q=>t J H λx h=>∃c,x=.bl c/\Q c h
theorem zaa(h:PC X ρ a b t)(h1:behindInMarks ρ b=false:=by first|exact M _ (by decide) (by decide)|rfl):PT X (.Compare a [ρ] [b] pos) (tB t):=by
 intro C0 s J H Q I hw;refine wpAny_isTrue_Compare1 (thn (h C0 s J H _ I hw) λv s1 h1=>thn h1 λu s2 h2=>thn h2 λc j ⟨x,e,f,i,g⟩=>?_) h1
 obtain⟨d,rfl,q⟩:=g;cases i;exact wpAny_truthy_bool ⟨e,f,q⟩
theorem zab(h:PE X e t)(M:∀ρ,isTrue e X.env ρ=(do let v<-ρ;standAt e.pos;holding [v] (truthy v)):=by intro _;rfl):PT X e (tB t):=by
 intro C0 s J H Q I hw;refine isTrue_plain (thn (h C0 s J H _ I hw) λv s1 ⟨x,c,f,i,g⟩=>?_) (M _)
 obtain⟨d,rfl,q⟩:=g;cases i;exact wpAny_truthy_bool ⟨c,f,q⟩
variable{tA tB':TT}{G1:List Expr}
def zch(t u:TT):TT:=λJ H Q=>t J H λc h=>if c=true then u J h Q else Q false h
def tOr(t u:TT):TT:=λJ H Q=>t J H λc h=>if c=true then Q true h else u J h Q
def zac(t:TT):TT:=λJ H Q=>t J H λc h=>Q (!c) h
theorem Pf(ha:PT X a tA):PW X (.BoolOp .And [a] pos) tA:=by
 intro d C0 s J H Q I h;refine isTrue_and (thn (ha C0 s J H Q I h) λc s1 e=>?_)
 cases c with
 |true=>exact isTrue_and_nil e
 |false=>exact e
theorem zad(ha:PT X a tA):PW X (.BoolOp .Or [a] pos) tA:=by
 intro d C0 s J H Q I h;refine isTrue_or (thn (ha C0 s J H Q I h) λc s1 e=>?_)
 cases c with
 |false=>exact isTrue_or_nil e
 |true=>exact e
theorem SG(ha:PT X a tA)(ρ:PW X (.BoolOp .And (b::G1) pos) tB'):PW X (.BoolOp .And (a::b::G1) pos) (zch tA tB'):=by
 intro g C0 s J H Q I h;refine isTrue_and (thn 9054 λc s1 ⟨d,e,f⟩=>?_)
 cases c with
 |true=>exact ρ g C0 s1 J d Q e f
 |false=>exact⟨d,e,f⟩
theorem zci(ha:PT X a tA)(ρ:PW X (.BoolOp .Or (b::G1) pos) tB'):PW X (.BoolOp .Or (a::b::G1) pos) (tOr tA tB'):=by
 intro g C0 s J H Q I h;refine isTrue_or (thn 9054 λc s1 ⟨d,e,f⟩=>?_)
 cases c with
 |true=>exact⟨d,e,f⟩
 |false=>exact ρ g C0 s1 J d Q e f
theorem zae(ha:PT X a tA):PT X (.UnaryOp .Not a pos) (zac tA):=by
 intro C0 s J H Q I h;exact isTrue_not (ha C0 s J H (λc d=>Q (!c) d) I h)
def SH(ta tb:TE):TE:=λJ H Q=>ta J H λx h=>∃c,x=.bl c/\if c=true then tb J h Q else Q (.bl false) h
def Zh(ta:TE):TE:=λJ H Q=>ta J H λx h=>∃c,x=.bl c/\Q (.bl<|!c) h
def SI(h:PE X a t):PE X (.BoolOp ρ [a] pos) t:=λC0 s J H Q I hw=>BoolOp_one (h C0 s J H Q I hw)
theorem SJ(ha:PE X a ta)(ρ:PE X (.BoolOp .And (b::G1) pos) tb):PE X (.BoolOp .And (a::b::G1) pos) (SH ta tb):=by
 intro C0 s J H Q I h;refine BoolOp_and (thn 9054 λv s1 ⟨x,e,f,g,d⟩=>?_)
 obtain⟨c,rfl,d⟩:=d;cases g;refine wpAny_truthy_bool ?_;cases c with
 |true=>exact ρ C0 s1 J e Q f d
 |false=>exact⟨.bl false,e,f,rfl,d⟩
theorem zaf(ha:PE X a ta):PE X (.UnaryOp .Not a pos) (Zh ta):=by
 intro C0 s J H Q I h;refine UnaryOp_ (thn 9054 λv s1 ⟨x,e,f,g,d⟩=>?_)
 obtain⟨c,rfl,d⟩:=d;cases g;exact not_of (wpAny_truthy_bool ⟨.bl<|!c,e,f,rfl,d⟩)
def tIf(t:TT)(ta tb:TE):TE:=λJ H Q=>t J H λc h=>if c=true then ta J h Q else tb J h Q
theorem SK(M:PT X c tA)(ha:PE X a ta)(ρ:PE X b tb):PE X (.IfExp c a b pos) (tIf tA ta tb):=by
 intro C0 s J H Q I h;refine wpAny_IfExp (thn (M C0 s J H _ I h) λd s1 ⟨e,f,g⟩=>?_)
 cases d with
 |true=>exact ha C0 s1 J e Q f g
 |false=>exact ρ C0 s1 J e Q f g
end
def SqL(K:zee)(H:Hp)(a:Addr)(xs:List V):Prop :=
 Rd H a (.lst xs)\/
  ∃(o:Obj) (h:Array Value) (n:Nat),K.lookup a=some o/\o.cls=.type "list"/\o.dict=none/\o.data=.seq h n/\h.size<=sizeLine/\Vals xs h.toList
def SqT(K:zee)(H:Hp)(a:Addr)(xs:List V):Prop :=
 Rd H a (.tup xs)\/
  ∃(o:Obj) (h:Array Value) (n:Nat),K.lookup a=some o/\o.cls=.type "tuple"/\o.data=.seq h n/\h.size<=sizeLine/\Vals xs h.toList
def zdC:Value->Option V
 | .none=>some .non
 | .bool b=>some (.bl b)
 | .int i _=>some (.int i)
 | .str x _=>some (.str x)
 | .bytes b _=>some (.byt b)
 | .float b _=>some (.flt b)
 | .ref a=>some (.ref a)
 | .type n=>some (.ty n)
 |_=>none
theorem RelV.abs(r:RelV x u):zdC u=some x:=by
 cases x with
 |non=>cases r;rfl
 |bl _=>cases r;rfl
 |int _=>obtain⟨t,rfl⟩:=r;rfl
 |str _=>obtain⟨t,rfl⟩:=r;rfl
 |byt _=>obtain⟨t,rfl⟩:=r;rfl
 |flt _=>obtain⟨t,rfl⟩:=r;rfl
 |ref _=>cases r;rfl
 |ty _=>cases r;rfl
def RelV.inj(r:RelV x u)(q:RelV y u):x=y:=zeP (r.abs.symm.trans q.abs)
theorem Vals.inj:∀{xs I:List V} {us:List Value},Vals xs us->Vals I us->xs=I
 |_,_,_,.nil,.nil=>rfl
 |_,_,_,.cons r t,.cons a b=>by rw[r.inj a,Vals.inj t b]
section
variable{X:Cx}{C0:List<|Addr×Obj}{J:St}{H:Hp}{s:Shared}{a:Addr}{xs ys:List V}
def SqL.of{K:zee}(h:H a=some (.lst xs)):SqL K H a xs:=.inl (.inl h)
theorem Inv.list(I:Inv X C0 J H s)(h:SqL X.K H a xs):∃M:List Value,Vals xs M/\PlainL s.heap a M.toArray/\xs.length<=sizeLine:=by
 rcases h with h|⟨o,M,n,hk,u,hd,y,hz,r⟩
 .obtain⟨z,M,n,r,e⟩:=h.ok I.hok
  exact⟨M,r,⟨_,n,e,rfl,rfl,rfl⟩,z⟩
 .refine⟨M.toList,r,⟨o,n,I.kIn a o hk,u,hd,by simpa using y⟩,?_⟩
  have e:=r.length;simp only[Array.length_toList]at e
  lia
theorem Inv.tuple(I:Inv X C0 J H s)(h:SqT X.K H a xs):∃ρ:List Value,Vals xs ρ/\IsTup s.heap a ρ.toArray/\xs.length<=sizeLine:=by
 rcases h with h|⟨o,ρ,n,hk,d,f,hz,r⟩
 .obtain⟨z,ρ,r,p,_⟩:=h.ok I.hok
  exact⟨ρ,r,p,z⟩
 .refine⟨ρ.toList,r,⟨o,I.kIn a o hk,d,n,by simpa using f⟩,?_⟩
  have e:=r.length;simp only[Array.length_toList]at e
  lia
theorem Inv.Lb(I:Inv X C0 J H s)(h:SqL X.K H a xs)(h':SqL X.K H a ys):xs=ys:=by
 obtain⟨g,r,⟨o,n,e,_,_,d⟩,_⟩:=I.list h;obtain⟨b,j,⟨o',k,f,_,_,c⟩,_⟩:=I.list h';rw[e]at f;cases f
 rw[d]at c;injection c with i _
 have:g=b:=by simpa using congrArg Array.toList i
 subst this;exact r.inj j
theorem Inv.QY(I:Inv X C0 J H s)(h:SqT X.K H a xs)(h':SqT X.K H a ys):xs=ys:=by
 obtain⟨g,r,⟨o,e,_,n,d⟩,_⟩:=I.tuple h;obtain⟨b,j,⟨o',f,_,k,c⟩,_⟩:=I.tuple h';rw[e]at f;cases f
 rw[d]at c;injection c with i _
 have:g=b:=by simpa using congrArg Array.toList i
 subst this;exact r.inj j
end
abbrev Cx.wish(X:Cx)(E:Value->Shared->Prop):Cx:={X with xe:=E}
abbrev Cx.nox(X:Cx):Cx:=X.wish λ_ _=>False
theorem Cx.Ok.wish{X:Cx}(ok:X.Ok)(E:Value->Shared->Prop):(X.wish E).Ok :=
 ⟨ok.mod,ok.kind,ok.glob,ok.blt,ok.above,ok.inj,ok.has,ok.cab,ok.hd,ok.frames,ok.stk,ok.exf,ok.bs,ok.bsz,ok.Nn,ok.Np,ok.BH,ok.frf,ok.tab⟩
def Cx.Ok.yg{X:Cx}(ok:(X.wish E).Ok):X.Ok :=
 ⟨ok.mod,ok.kind,ok.glob,ok.blt,ok.above,ok.inj,ok.has,ok.cab,ok.hd,ok.frames,ok.stk,ok.exf,ok.bs,ok.bsz,ok.Nn,ok.Np,ok.BH,ok.frf,ok.tab⟩
section
variable{X:Cx}{C0:List<|Addr×Obj}{J:St}{H:Hp}{s:Shared}{E:Value->Shared->Prop}
theorem Inv.wish(I:Inv X C0 J H s)(E:Value->Shared->Prop):Inv (X.wish E) C0 J H s:=⟨I.ok.wish E,I.os,I.bare,I.base,I.loc,I.cell,I.free,I.qk,I.pin,I.hok,I.len⟩
theorem Inv.yg(I:Inv (X.wish E) C0 J H s):Inv X C0 J H s:=⟨I.ok.yg,I.os,I.bare,I.base,I.loc,I.cell,I.free,I.qk,I.pin,I.hok,I.len⟩
theorem SP.yg(h:SP (X.wish E) C0 D f s'):SP X C0 D f s':=by
 cases f with
 |next=>obtain⟨a,H',I,q⟩:=h;exact⟨a,H',I.yg,q⟩
 |brk=>obtain⟨a,H',I,q⟩:=h;exact⟨a,H',I.yg,q⟩
 |cont=>obtain⟨a,H',I,q⟩:=h;exact⟨a,H',I.yg,q⟩
 |ret u=>obtain⟨v,a,H',I,r,q⟩:=h;exact⟨v,a,H',I.yg,r,q⟩
theorem PSs.nox{st:List Stmt}(h:PSs X.nox st t):PSs X st t:=λC0 s J H D I hw=>
 ze5 (h C0 s J H D (I.wish _) hw) (λ_ _ q=>q.yg) λ_ _ z=>False.elim z
end
section
variable{X:Cx}{st:Stmt}{G1:List Stmt}{t u:TS}{e:Expr}{te:TE}{pos:Pos}
def SO:TS:=λD J H=>D.nx J H
def Wy(t u:TS):TS:=λD J H=>t {D with nx:=u D} J H
def vz:PSs X [] SO:=λ_ _ J H _ I h=>wpAny_execs_nil ⟨J,H,I,h⟩
theorem cX(h1:PS X st t)(h2:PSs X G1 u):PSs X (st::G1) (Wy t u):=by
 intro C0 s J H D I h;refine wpAny_execs_cons (thn (h1 C0 s J H {D with nx:=u D} I h) λf s1 q=>?_)
 cases f with
 |next=>
  obtain⟨a,H',b,q⟩:=q;exact h2 C0 s1 a H' D b q
 |ret v=>exact q
 |brk=>exact q
 |cont=>exact q
theorem iW(h1:PS X st t):PSs X [st] t:=by
 intro C0 s J H D I h;refine wpAny_execs_cons (thn (h1 C0 s J H D I h) λf s1 q=>?_)
 cases f with
 |next=>exact wpAny_execs_nil q
 |ret v=>exact q
 |brk=>exact q
 |cont=>exact q
theorem Inv.quiet{J:St}{H:Hp}{s:Shared}(I:Inv X C0 J H s):interactive X.env=false:=by simp[interactive,I.ok.kind]
def Pg(te:TE):TS:=λD J H=>te J H λ_ h=>D.nx J h
theorem EZ(ρ:PE X e te)(M:swapsWith e none pos.line X.env=pure false:=by rfl):PS X (.Expr e pos) (Pg te):=by
 intro C0 s J H D I h;exact wpAny_Expr_any (thn 9075 λv s1 ⟨x,a,b,d,c⟩=>⟨J,a,b,c⟩) I.quiet M
def SQ(te:TE):TS:=λD J H=>te J H D.rt
theorem yh(ρ:PE X e te):PS X (.Return (some e) pos) (SQ te):=by
 intro C0 s J H D I h;exact wpAny_Return_some (thn 9075 λv s1 ⟨x,a,b,d,c⟩=>⟨x,J,a,b,d,c⟩)
def Wz(c:TT)(t u:TS):TS:=λD J H=>c J H λb h=>if b=true then t D J h else u D J h
theorem Fx(M:PT X c O)(ha:PSs X a t)(ρ:PSs X b u):PS X (.If c a b pos) (Wz O t u):=by
 intro C0 s J H D I h;refine wpAny_If (thn (M C0 s J H _ I h) λd s1 ⟨f,g,i⟩=>?_)
 cases d with
 |true=>exact ha C0 s1 J f D g i
 |false=>exact ρ C0 s1 J f D g i
def Nr:TS:=λ_ _ _=>False
def SR:PS X st Nr:=λ_ _ _ _ _ _ h=>h.elim
end
abbrev TG:=V->St->Hp->(St->Hp->Prop)->Prop
abbrev TGs:=List V->St->Hp->(St->Hp->Prop)->Prop
def PG(X:Cx)(I:Expr)(t:TG):Prop :=
 ∀(C0:List<|Addr×Obj) (s:Shared) (J:St) (H:Hp) (v:V) (u:Value) (Q:St->Hp->Prop),Inv X C0 J H s->RelV v u->t v J H Q->
  wpAny 9001 X.A (assign I X.env u) (λ_ s'=>∃h H',Inv X C0 h H' s'/\Q h H') X.xe s
def PGs(X:Cx)(ts:List Expr)(t:TGs):Prop :=
 ∀(C0:List<|Addr×Obj) (s:Shared) (J:St) (H:Hp) (vs:List V) (us:List Value) (Q:St->Hp->Prop),Inv X C0 J H s->Vals vs us->t vs J H Q->
  wpAny 9001 X.A (assignInOrder ((assignEach ts X.env).map (·.2)) us) (λ_ s'=>∃h H',Inv X C0 h H' s'/\Q h H') X.xe s
abbrev SU:=V->V->V->Hp->(Hp->Prop)->Prop
def zag(X:Cx)(t:SU):Prop :=
 ∀(C0:List<|Addr×Obj) (s:Shared) (J:St) (H:Hp) (o i v:V) (D h u:Value) (Q:Hp->Prop),Inv X C0 J H s->RelV o D->RelV i h->RelV v u->t o i v H Q->
  wpAny 9001 X.A (setItem D h u) (λ_ s'=>∃H',Inv X C0 J H' s'/\Q H') X.xe s
abbrev TIp:=V->V->Hp->VK->Prop
def PIp(X:Cx)(I:Operator)(t:TIp):Prop :=
 ∀(C0:List<|Addr×Obj) (s:Shared) (J:St) (H:Hp) (x y:V) (v u:Value) (Q:VK),Inv X C0 J H s->RelV x v->RelV y u->t x y H Q->
  wpAny 9001 X.A (inplaceOp I v u) 9033 X.xe s
section
variable{X:Cx}{pos:Pos}
def DS(i:Nat):TG:=λv J H Q=>Q 9104 H
theorem Ph(ρ:X.N.Nodup)(hi:X.N[i]?=some x)(hx:Loc X.env.scope x)(M:X.fn x=true\/X.env.scope.names.lookup x=some .local:=by first|exact .inl rfl|exact .inr rfl|assumption):PG X (.Name x pos) (DS i):=by
 intro C0 s J H v u Q I r h;exact wpAny_assign_Name (Fw I ρ hi hx r (λs' a=>⟨_,H,a,h⟩) M)
def zcj:TGs:=λvs J H Q=>vs=[]/\Q J H
def Zi(t:TG)(u:TGs):TGs:=λvs J H Q=>∃v r,vs=v::r/\t v J H λh H'=>u r h H' Q
theorem WA:PGs X [] zcj:=by
 intro C0 s J H vs us Q I r h;obtain⟨e,h⟩:=h;subst e;cases r;exact assignInOrder_nil ⟨J,H,I,h⟩
theorem SW(h1:PG X e t)(h2:PGs X es u)
  (ρ:(assignEach (e::es) X.env).map (·.2)=assign e X.env::(assignEach es X.env).map (·.2):=by rfl):PGs X (e::es) (Zi t u):=by
 intro C0 s J H vs us Q I r h;obtain⟨v,i,d,h⟩:=h;subst d;cases r with
 |cons r g=>
  rw[ρ];refine assignInOrder_cons (thn (h1 C0 s J H _ _ _ I r h) λ_ s1 ⟨a,b,c,f⟩=>?_)
  exact h2 C0 s1 a b _ _ Q c g f
def ql(M I:TE)(t:SU):TG:=λv J H Q=>M J H λo h=>I J h λi D=>t o i v D λE=>Q J E
theorem zah(O:PE X o to)(hi:PE X i Y)(U:zag X t)
  (ha:∀v,assign (.Subscript o i pos) X.env v=(do
   let ρ<-holding [v] (eval o X.env)
   let M<-holding [v,ρ] (eval i X.env)
   standAt pos
   holding [v,ρ,M] (setItem ρ M v)
   release [v,ρ,M] []):=by intro _;rfl):PG X (.Subscript o i pos) (ql to Y t):=by
 intro C0 s J H v u Q I r h;rw[ha];refine zeH (wpAny_holding<|thn (O C0 s J H _ I h) λρ s1 ⟨x,a,d,l,g⟩=>?_)
 refine zeH (wpAny_holding<|thn (hi C0 s1 J a _ d g) λM s2 ⟨y,b,e,m,j⟩=>?_)
 refine zeH (wpAny_standAt<|zeH<|wpAny_holding<|thn (U C0 s2 J b x y v ρ M u _ e l m r j) λ_ n ⟨c,f,k⟩=>?_)
 exact wpAny_release ⟨J,c,f,k⟩
def Nt(te:TE)(g:TG):TS:=λD J H=>te J H λx h=>g x J h D.nx
theorem zai(ρ:PE X e U)(M:PG X tg g)(O:swapsWithSole [tg] e pos.line X.env=pure false:=by rfl)(hw:swappedStores [tg] e X.env=pure none:=by rfl)
  (h1:(assignEach [tg] X.env).map (·.2)=[assign tg X.env]:=by rfl):PS X (.Assign [tg] e pos) (Nt U g):=by
 intro C0 s J H D I h;refine wpAny_Assign_stores (thn 9075 λv s1 ⟨x,a,b,d,c⟩=>?_) O hw
 rw[h1];exact thn (M C0 s1 J a x v _ b d c) λ_ s2 q=>q
theorem j1(M:X.N.Nodup)(hi:X.N[i]?=some x)(hx:Loc X.env.scope x)(O:PE X e te)(Y:swapsWith e (some<|.Name x ρ) pos.line X.env=pure false:=by rfl)(U:X.fn x=true\/X.env.scope.names.lookup x=some .local:=by first|exact .inl rfl|exact .inr rfl|assumption) :
  PS X (.Assign [.Name x ρ] e pos) (Nt te<|DS i):=by
 intro C0 s J H D I h;refine wpAny_Assign_Name (thn (O C0 s J H _ I h) λv s1 ⟨y,a,b,f,d⟩=>?_) Y
 exact Fw b M hi hx f (λs2 c=>⟨_,a,c,d⟩) U
def zck(i:Nat)(te:TE)(I:TIp):TS:=λD J H=>∃x,J[i]?=some (some x)/\te J H λy h=>I x y h λz E=>D.nx (J.set i<|some z) E
theorem zaj(O:X.N.Nodup)(hi:X.N[i]?=some x)(hx:Loc X.env.scope x)(U:PE X e te)(ho:PIp X ρ ti)(Y:X.fn x=true\/X.env.scope.names.lookup x=some .local:=by first|exact .inl rfl|exact .inr rfl|assumption) :
  PS X (.AugAssign (.Name x M) ρ e pos) (zck i te ti):=by
 intro C0 s J H D I h;obtain⟨v,q,h⟩:=h;obtain⟨m,hn,B⟩:=I.loc;have f:Vis X.env.scope x:=by rcases hx with k|k;exact .inl k;exact .inr (.inl k)
 obtain⟨u,r,l⟩:=B i x v hi q f;refine wpAny_AugAssign_Name ?_;have go:wpAny 9001 X.A (eval e X.env) (λw b=>wpAny 9001 X.A (inplaceOp ρ u w) (λr d=>wpAny 9001 X.A (storeName X.env x r) (λ_=>SP X C0 D .next) X.xe d) X.xe b) X.xe s:=by
  refine thn (U C0 s J H _ I h) λw s1 ⟨y,g,n,F,C⟩=>?_
  refine thn (ho C0 s1 J g v y u w _ n r F C) λz s2 ⟨zv,j,o,G,E⟩=>?_
  exact Fw o O hi hx G (λσ p=>⟨_,j,p,E⟩) Y
 rcases l with⟨hk,hm⟩|⟨hk,c,t,a⟩
 .exact wpAny_loadName_local I.ok.kind hk hn hm go
 .rcases hk with hk|hk
  .exact wpAny_loadName_cell I.ok.kind hk t a go
  .rcases hx with k|k
   .have:X.env.scope.names.lookup x=some .free:=hk
    rw[k]at this;cases this
   .have:X.env.scope.names.lookup x=some .free:=hk
    rw[k]at this;cases this
def Zj(to Y te:TE)(M:V->V->Hp->VK->Prop)(I:TIp)(O:SU):TS:=λD J H=>to J H λo h=>Y J h λi E=>M o i E λx F=>te J F λy σ=>I x y σ λz R=>O o i z R λZ=>D.nx J Z
def zcl(X:Cx)(t:V->V->Hp->VK->Prop):Prop :=
 ∀(C0:List<|Addr×Obj) (s:Shared) (J:St) (H:Hp) (o i:V) (D h:Value) (Q:VK),Inv X C0 J H s->RelV o D->RelV i h->t o i H Q->
  wpAny 9001 X.A (getItem D h) 9033 X.xe s
theorem WD(ho:PE X o to)(hi:PE X i ti)(hg:zcl X Y)(he:PE X e te)(hp:PIp X op O)(hs:zag X WC)
  (ha:∀M ρ new,augStore i M ρ new=(do holding [new,M,ρ] (setItem M ρ new);release [new,M,ρ] [];pure .next):=by intros;rfl):PS X (.AugAssign (.Subscript o i U) op e pos) (Zj to ti te Y O WC):=by
 intro C0 s J H D I h;refine wpAny_AugAssign_SubscriptAny (thn (ho C0 s J H _ I h) λM s1 ⟨d,g,p,b,x⟩=>?_) ha
 refine thn (hi C0 s1 J g _ p x) λρ s2 ⟨f,j,q,c,y⟩=>?_
 refine thn (hg C0 s2 J j d f M ρ _ q b c y) λa K ⟨Q,k,r,F,A⟩=>?_
 refine thn (he C0 K J k _ r A) λv N ⟨R,l,t,G,B⟩=>?_
 refine thn (hp C0 N J l Q R a v _ t F G B) λnew P ⟨S,m,u,σ,C⟩=>?_
 exact thn (hs C0 P J m d f S M ρ new _ u b c σ C) λ_ T ⟨n,w,E⟩=>⟨J,n,w,E⟩
def ipI(f:Int->Int->Int):TIp:=λx y H Q=>∃i j,x=.int i/\y=.int j/\Q (.int<|f i j) H
theorem SX:PIp X .Add (ipI λi j=>i+j):=by
 intro C0 s J H x y v u Q I c d h;obtain⟨i,j,a,b,q⟩:=h;subst a;subst b
 obtain⟨t,rfl⟩:=c;obtain⟨e,rfl⟩:=d;exact iadd_int ⟨.int _,H,I.tok _,⟨_,rfl⟩,q⟩
def SY(c:TT)(I:TS):TS:=λD J H=>∃W:Nat->St->Hp->Prop,(∃m,W m J H)/\∀m J H,W m J H->
 c J H λb E=>if b=true then∃N:St->Hp->Prop,(∀h H',N h H'->∃F,F<m/\W F h H')/\I {D with nx:=N,ct:=N,bk:=D.nx} J E else D.nx J E
theorem Lc(M:PassesOwn 9001 X.A X.env X.xe)(U:PT X c tc)(O:PSs X ρ Y):PS X (.While c ρ [] pos) (SY tc Y):=by
 intro C0 s J H D I h;obtain⟨W,⟨u,x⟩,turn⟩:=h;refine wpAny_While (codeAny_whileLoop (λn s'=>∃g H',Inv X C0 g H' s'/\W n g H') ?_ u ⟨J,H,I,x⟩)
 rintro n s1 ⟨d,o,t,y⟩
 refine wpAny_passesOwn M (thn (U C0 s1 d o _ t<|turn n d o y) λb s2 ⟨p,q,i⟩=>?_)
 cases b with
 |true=>
  obtain⟨N,r,i⟩:=i;rw[if_pos rfl];refine wpAny_passesOwn M (thn (O C0 s2 d p _ q i) λf B j=>?_)
  cases f with
  |next=>
   obtain⟨a,e,k,n3⟩:=j;obtain⟨l,hm,m⟩:=r a e n3;exact⟨l,hm,a,e,k,m⟩
  |cont=>
   obtain⟨a,e,k,n3⟩:=j;obtain⟨l,hm,m⟩:=r a e n3;exact⟨l,hm,a,e,k,m⟩
  |brk=>exact j
  |ret v=>exact j
 |false=>
  rw[if_neg zek];exact wpAny_execs_nil ⟨d,p,q,i⟩
end
structure It where
 go:Nat->Hp->Prop
 yld:Nat->Hp->V->Hp->Prop
 stop:Nat->Hp->Prop
def Hn(X:Cx)(C0:List<|Addr×Obj)(H:Hp)(b:Addr):Prop :=
 H b=none/\b≠X.env.locals/\b∉X.fs/\9081/\(∀x c,X.env.cells.lookup x=some c->c≠b)/\∀p∈X.pn++C0,p.1≠b
theorem Inv.Wt{J:St}{H H':Hp}{s:Shared}{b:Addr}(I:Inv X C0 J H s)(ρ:s.heap.objs.size<=b)(hn:H' b=none):Hn X C0 H' b:=by
 refine⟨hn,Nat.ne_of_gt<|zeE I.lt ρ,I.zdA ρ,.inr<|zeW I.sz ρ,λx c e z=>?_,λp a z=>?_⟩
 .obtain⟨v,q⟩:=I.cell x c e
  exact absurd (zeE q.lt (by rw[z];exact ρ)) (ze2 _)
 .exact absurd (zeE (zeo (I.pin p a).1) (by rw[z];exact ρ)) (ze2 _)
structure Turn(P:Program)(w:World)(K:zee)(tg:Expr)(σ:It)(fp:List Addr)(it:Addr)(tn:Nat->Heap->Prop):Prop where
 mem:it∈fp
 obj:∀i h,tn i h->∀b∈fp,∃o,h.get? b=some o/\∀v,o.data≠.cell v
 keep:∀i h h',tn i h->(∀b∈fp,∀o,h.get? b=some o->h'.get? b=some o)->tn i h'
 item:∀(X:Cx),X.prog=P->X.w=w->X.K=K->X.calm=true->∀(i:Nat) (C0:List<|Addr×Obj) (s:Shared) (J:St) (H:Hp) (E:Value->Shared->Prop),Inv X C0 J H s->(∀b∈fp,Hn X C0 H b)->tn i s.heap->σ.go i H->
  wpAny (model P w) X.A (pyNext<|.ref it) (λr s1=>∃u,r=some u/\
   wpAny (model P w) X.A (letOwnedTupleGo tg (.ref it) u) (λ_ s2=>∃x H',Inv X C0 J H' s2/\RelV x u/\σ.yld i H x H'/\tn (i+1) s2.heap/\∀b∈fp,H' b=none) E s1) E s
 done:∀(X:Cx),X.prog=P->X.w=w->X.K=K->X.calm=true->∀(i:Nat) (C0:List<|Addr×Obj) (s:Shared) (J:St) (H:Hp) (E:Value->Shared->Prop),Inv X C0 J H s->(∀b∈fp,Hn X C0 H b)->tn i s.heap->σ.stop i H->
  wpAny (model P w) X.A (pyNext<|.ref it) (λr s1=>r=none/\Inv X C0 J H s1) E s
 self:∀(A:Around) (i:Nat) (s:Shared) (Q:Value->Shared->Prop) (E:Value->Shared->Prop),tn i s.heap->Q (.ref it) s->wpAny (model P w) A (pyIter<|.ref it) Q E s
abbrev TI:=St->Hp->(It->Hp->Prop)->Prop
def PIE(X:Cx)(C0:List<|Addr×Obj)(J:St)(tg:Expr)(R:It->Hp->Prop)(I:Value)(s2:Shared):Prop :=
 ∃(it:Addr) (fp:List Addr) (tn:Nat->Heap->Prop) (σ:It) (H':Hp),I=.ref it/\Inv X C0 J H' s2/\Turn X.prog X.w X.K tg σ fp it tn/\tn 0 s2.heap/\(∀b∈fp,Hn X C0 H' b)/\R σ H'
def PI(X:Cx)(tg iter:Expr)(I:TI):Prop :=
 ∀(C0:List<|Addr×Obj) (s:Shared) (J:St) (H:Hp) (R:It->Hp->Prop),Inv X C0 J H s->I J H R->
  wpAny 9001 X.A (eval iter X.env) (λv s1=>wpAny 9001 X.A (pyIter v) (PIE X C0 J tg R) X.xe s1) X.xe s
theorem Ic(O:s.heap.get? it=some o)(ρ:o.cls=.type n)(hd:o.data=.fields vs)
  (hn : ["enumerate","zip","dict_itemiterator","dict_reverseitemiterator","odict_iterator","itertools.zip_longest","itertools.pairwise"].contains n=false) (I:Q () s):wpAny M A (letOwnedTupleGo tg (.ref it) u) Q E s:=by
 unfold letOwnedTupleGo;cases tg<;>first
  |exact zeY I
  |(cases u<;>first
    |exact zeY I
    | (refine zeH (wpAny_load O ?_)
       rw[ρ,hd];show wpAny M A (if(["enumerate","zip","dict_itemiterator","dict_reverseitemiterator","odict_iterator","itertools.zip_longest","itertools.pairwise"].contains n&&vs[0]? ==some (rawInt _))=true then _ else _) Q E s
       rw[if_neg (by intro h;rw[hn,Bool.false_and]at h;cases h)]
       exact zeY I))
def Itl(K:zee)(a:Addr):It :=
 ⟨λi H=>∃xs x,SqL K H a xs/\xs[i]?=some x,λi H x H'=>H'=H/\∀xs,SqL K H a xs->xs[i]?=some x,λi H=>∃xs,SqL K H a xs/\xs.length<=i⟩
def Itt(K:zee)(a:Addr):It :=
 ⟨λi H=>∃xs x,SqT K H a xs/\xs[i]?=some x,λi H x H'=>H'=H/\∀xs,SqT K H a xs->xs[i]?=some x,λi H=>∃xs,SqT K H a xs/\xs.length<=i⟩
def Itr(lo:Int)(n:Nat):It:=⟨λi _=>i<n,λi H x H'=>H'=H/\x=.int (lo+i),λi _=>n<=i⟩
theorem QZ{K:zee}{tg:Expr}(a it:Addr):Turn P w K tg (Itl K a) [it] it (λi h=>h.IsListIter it a i) where
 mem:=by simp
 obj:=λi h st b f=>by
  fail "q9"
 keep:=λi h h' st k=>st.at λo e=>k it (by simp) o e
 item:=by
  fail "qb"
  obtain⟨xs,x,n,hx⟩:=j;obtain⟨D,B,p,hz⟩:=I.list n;obtain⟨u,hu,Q⟩:=B.get hx;obtain⟨q,r,G,t,y,A⟩:=g it (by simp)
  refine wpAny_pyNext_list_item st p.isList (x:=u) (by simpa using hu) λh' l R=>?_
  have C:Inv X C0 J H {s with heap:=h'}:=I.turned (t':=s.toks) (λb o f e=>(R.2 b f).trans e) q r t y A
  obtain⟨o,e,c,d⟩:=id l;exact⟨u,rfl,Ic (s:={s with heap:=h'}) e c d (by decide) ⟨x,H,C,Q,⟨rfl,λT hy=>by rw[I.Lb hy n];exact hx⟩,l,λb f=>(g b f).1⟩⟩
 done:=by
  fail "qb"
  obtain⟨xs,n,hx⟩:=j;obtain⟨D,B,p,hz⟩:=I.list n;obtain⟨q,r,G,t,y,A⟩:=g it (by simp)
  have S:=B.length;exact wpAny_pyNext_list_end (I.ok.hd m) st p.isList (by simp;lia) λh' F=>⟨rfl,I.turned (t':=s.toks) (λb o f e=>F b o f e) q r t y A⟩
 self:=λ_ _ _ _ _ st h=>wpAny_pyIter_listiter st h
theorem Nv{K:zee}{tg:Expr}(a it:Addr):Turn P w K tg (Itt K a) [it] it (λi h=>h.IsTupleIter it a i) where
 mem:=by simp
 obj:=λi h st b f=>by
  fail "q9"
 keep:=λi h h' st k=>st.at λo e=>k it (by simp) o e
 item:=by
  fail "qb"
  obtain⟨xs,x,n,hx⟩:=j;obtain⟨q,C,p,hz⟩:=I.tuple n;obtain⟨u,hu,Q⟩:=C.get hx;obtain⟨r,t,G,y,A,B⟩:=g it (by simp)
  refine wpAny_pyNext_tuple_item st (show s.heap.IsTuple a q.toArray from p) (x:=u) (by simpa using hu) λh' l R=>?_
  have D:Inv X C0 J H {s with heap:=h'}:=I.turned (t':=s.toks) (λb o f e=>(R.2 b f).trans e) r t y A B
  obtain⟨o,e,c,d⟩:=id l;exact⟨u,rfl,Ic (s:={s with heap:=h'}) e c d (by decide) ⟨x,H,D,Q,⟨rfl,λT hy=>by rw[I.QY hy n];exact hx⟩,l,λb f=>(g b f).1⟩⟩
 done:=by
  fail "qb"
  obtain⟨xs,n,hx⟩:=j;obtain⟨q,C,p,hz⟩:=I.tuple n;obtain⟨r,t,G,y,A,B⟩:=g it (by simp)
  have S:=C.length;exact wpAny_pyNext_tuple_end (I.ok.hd m) st (show s.heap.IsTuple a q.toArray from p) (by simp;lia) λh' F=>⟨rfl,I.turned (t':=s.toks) (λb o f e=>F b o f e) r t y A B⟩
 self:=λ_ _ _ _ _ st h=>wpAny_pyIter_tupleiter st h
theorem Nw{K:zee}{tg:Expr}(it:Addr)(lo:Int)(n:Nat):Turn P w K tg (Itr lo n) [it] it (λi h=>IsRangeIter h it (lo+(i:Nat)*1) ((n:Int)-(i:Nat)) 1) where
 mem:=by simp
 obj:=λi h st b a=>by
  have e:b=it:=by simpa using a
  subst e;exact⟨_,st,λv z=>by
   have A:Data.fields _=Data.cell v:=z;cases A⟩
 keep:=λi h h' st k=>k it (by simp) _ st
 item:=by
  fail "qb"
  obtain⟨d,f,x,l,p,q⟩:=g it (by simp)
  have W:=Walks.range (prog:=X.prog) (w:=X.w) (I.ok.hd m) it lo 1 n;refine W.item i s _ _ j st λv h' tk hv c y=>?_
  obtain⟨t,rfl⟩:=hv;have r:Inv X C0 J H {s with heap:=h',toks:=tk}:=I.turned (λb o a e=>y b o (by simpa using a) e) d f l p q
  refine⟨_,rfl,Ic (s:={s with heap:=h',toks:=tk}) (n:="range_iterator") c rfl rfl (by decide) ⟨.int<|lo+i,H,r,⟨t,?_⟩,⟨rfl,rfl⟩,c,λb a=>(g b a).1⟩⟩
  rw[Int.mul_one]
 done:=by
  fail "qb"
  obtain⟨d,f,x,l,p,q⟩:=g it (by simp)
  exact wpAny_pyNext_range_end (I.ok.hd m) st (by have:n<=i:=j;lia) λh' u=>⟨rfl,I.turned (t':=s.toks) (λb o a e=>u b o a e) d f l p q⟩
 self:=λ_ _ _ _ _ st h=>wpAny_pyIter_rangeiter st h
section
variable{X:Cx}{tg:Expr}
def Ld(K:zee)(I:TE):TI:=λJ H R=>I J H λx h=>∃a,x=.ref a/\(∃xs,SqL K h a xs)/\R (Itl K a) h
def WE(K:zee)(I:TE):TI:=λJ H R=>I J H λx h=>∃a,x=.ref a/\(∃xs,SqT K h a xs)/\R (Itt K a) h
theorem WG(ρ:PE X l M):PI X tg l (Ld X.K M):=by
 intro C0 s J H R I h;refine thn 9075 λv s1 ⟨x,d,c,j,i⟩=>?_
 obtain⟨a,e,⟨xs,g⟩,q⟩:=i;subst e;cases j;obtain⟨k,m,p,hz⟩:=c.list g;refine wpAny_pyIter_list p.isList ?_;refine⟨s1.heap.objs.size,9120,_,_,d,rfl,c.kept (t':=s1.toks) λb o e=>zep _ e,QZ a _,⟨_,zeK _ rfl,rfl,rfl⟩,λb f=>?_,q⟩
 fail "qg"
theorem zak(ρ:PE X l M):PI X tg l (WE X.K M):=by
 intro C0 s J H R I h;refine thn 9075 λv s1 ⟨x,d,c,k,j⟩=>?_
 obtain⟨a,e,⟨xs,i⟩,q⟩:=j;subst e;cases k;obtain⟨g,m,p,hz⟩:=c.tuple i;refine wpAny_pyIter_tuple (show s1.heap.IsTuple a g.toArray from p) ?_;refine⟨s1.heap.objs.size,9120,_,_,d,rfl,c.kept (t':=s1.toks) λb o e=>zep _ e,Nv a _,⟨_,zeK _ rfl,rfl,rfl⟩,λb f=>?_,q⟩
 fail "qg"
theorem S8{J:St}{H:Hp}{s:Shared}{R:It->Hp->Prop}{E:Value->Shared->Prop}{lo hi:Int}{t u v:Tok}{tk:Nat}(I:Inv X C0 J H s)(h1 : -(2^62)<=lo)(h2:lo<2^62)(h3 : -(2^62)<=hi)(h4:hi<2^62)
  (q:R (Itr lo (hi-lo).toNat) H):wpAny 9001 X.A (pyIter<|.ref s.heap.objs.size) (PIE X C0 J tg R) E {s with heap:=s.heap.push {cls:=.type "range",data:=.fields #[.int lo t,.int hi u,.int 1 v]},toks:=tk}:=by
 refine wpAny_pyIter_range (IsRange.new ..) (small_one h1 h2 h3 h4) ?_;have a:Inv X C0 J H {s with heap:=s.heap.push {cls:=.type "range",data:=.fields #[.int lo t,.int hi u,.int 1 v]},toks:=tk}:=I.kept λb o e=>zep _ e
 refine⟨(s.heap.push {cls:=.type "range",data:=.fields #[.int lo t,.int hi u,.int 1 v]}).objs.size,[(s.heap.push {cls:=.type "range",data:=.fields #[.int lo t,.int hi u,.int 1 v]}).objs.size],_,_,H,rfl,
  a.kept (t':=tk) λb o e=>zep _ e,Nw _ lo (hi-lo).toNat,?_,λb f=>?_,q⟩
 .have c:lo+((0:Nat):Int)*1=lo:=by simp
  have d:(((hi-lo).toNat:Nat):Int)-((0:Nat):Int)=Builtin.Range.rangeSize lo hi 1:=by rw[rangeSize_one];split<;>lia
  show IsRangeIter _ _ (lo+((0:Nat):Int)*1) ((((hi-lo).toNat:Nat):Int)-((0:Nat):Int)) 1;rw[c,d];exact zeK _ rfl
 .have e:b=(s.heap.push {cls:=.type "range",data:=.fields #[.int lo t,.int hi u,.int 1 v]}).objs.size:=by simpa using f
  subst e;exact a.Wt (zen _) (a.hok.fresh<|zen _)
def Ta(I:TA):TI:=λJ H R=>I J H λvs h=>∃j:Int,vs=[.int j]/\-(2^62)<=j/\j<2^62/\R (Itr 0 j.toNat) h
theorem Q0(ρ:Gl X "range")(hm:X.mg "range"=none)(ha:PA X [a] O)(M:starEach [a] X.env=[9111]:=by rfl):PI X tg (.Call (.Name "range" p) [a] [] pos) (Ta O):=by
 intro C0 s J H R I h;refine Call_ (A9 I ρ hm boot_range<|PyProof.Rows.callWith_type1 (thn 9109 λus s1 ⟨vs,i,c,f,b⟩=>?_) M rfl)
 obtain⟨j,e,b,d,q⟩:=b;subst e;cases f with
 |cons r g=>
  cases g;obtain⟨t,rfl⟩:=r;exact call_range_1 (S8 c (by lia) (by lia) b d (by simpa using q))
def WH(M:TI)(g:TG)(I:TS):TS:=λD J H=>M J H λσ R=>∃W:Nat->Nat->St->Hp->Prop,(∃m,W 0 m J R)/\∀i m J H,W i m J H->
 (σ.stop i H/\D.nx J H)\/(σ.go i H/\∃N:St->Hp->Prop,(∀h H',N h H'->∃F,F<m/\W (i+1) F h H')/\∀x H',σ.yld i H x H'->g x J H' λE V=>I {D with nx:=N,ct:=N,bk:=D.nx} E V)
def Ba(fp:List Addr)(h:Heap):List (Addr×Obj):=fp.filterMap λb=>(h.get? b).map λo=>(b,o)
theorem ky(I:b∈fp)(e:h.get? b=some o):(b,o)∈Ba fp h:=List.mem_filterMap.mpr ⟨b,I,by rw[e];rfl⟩
theorem C3(I:p∈Ba fp h):p.1∈fp/\h.get? p.1=some p.2:=by
 obtain⟨b,c,e⟩:=List.mem_filterMap.mp I;cases q:h.get? b with
 |none=>rw[q]at e;cases e
 |some o=>
  rw[q]at e;have a:(b,o)=p:=zeP e;subst a;exact⟨c,q⟩
theorem Inv.pinned{J:St}{H:Hp}{s:Shared}{fp:List Addr}(I:Inv X C0 J H s)(ρ:∀b∈fp,Hn X C0 H b)(M:∀b∈fp,∃o,s.heap.get? b=some o/\∀v,o.data≠.cell v):Inv X (C0++Ba fp s.heap) J H s :=
 I.Pe λp j=>(zec j).elim (λz=>I.pin p<|zel _ z) λz=>by
  obtain⟨c,e⟩:=C3 z;obtain⟨f,g,h,_⟩:=ρ p.1 c;obtain⟨o,a,d⟩:=M p.1 c;rw[e]at a;cases a
  exact⟨e,f,g,h,d⟩
def Inv.uW{J:St}{H:Hp}{s:Shared}(I:Inv X (C0++pl) J H s):Inv X C0 J H s:=I.Pe λp a=>I.pin p (zel _<|zeV _ a)
theorem zal(O:PassesOwn 9001 X.A X.env X.xe)(U:X.calm=true)(hi:PI X tg iter wi)(hg:PG X tg g)(ρ:PSs X M tb)
  (hs:∀x,foldedSetIterable iter X.env x=pure x:=by intro _;rfl):PS X (.For tg iter M [] pos) (WH wi g tb):=by
 intro C0 s J H D I h;refine wpAny_For (thn (hi C0 s J H _ I h) λv s1 h1=>thn h1 λitv s2 h2=>?_) hs
 obtain⟨it,fp,tn,σ,H2,e,I2,T,Q,Z,W,⟨m0,w0⟩,turn⟩:=h2;subst e;have k:∀{H':Hp},(∀b∈fp,H' b=none)->∀b∈fp,Hn X C0 H' b:=λhn b ρ=>⟨hn b ρ,(Z b ρ).2⟩
 refine codeAny_forLoop_any (λn s'=>∃i l H',Inv X C0 l H' s'/\tn i s'.heap/\(∀b∈fp,H' b=none)/\W i n l H') ?_ m0 ⟨0,J,H2,I2,Q,λb ρ=>(Z b ρ).1,w0⟩
 rintro n Y ⟨i,p,E,V,C,y,w3⟩
 rcases turn i n p E w3 with⟨stop,qn⟩|⟨go,N,hN,step⟩
 .refine wpAny_passesOwn O (thn (T.done X rfl rfl rfl U i C0 Y p E X.xe V (k y) C stop) λr s4 ⟨K,I4⟩=>?_)
  subst K;exact wpAny_execs_nil ⟨p,E,I4,qn⟩
 .refine wpAny_passesOwn O (thn (T.item X rfl rfl rfl U i C0 Y p E X.xe V (k y) C go) λr s4 ⟨u,K,h4⟩=>?_)
  subst K;refine wpAny_passesOwn O (thn h4 λ_ s5 ⟨x,S,I5,r5,y5,t,G⟩=>?_)
  have F:=I5.pinned (k G) (T.obj _ _ t);refine wpAny_passesOwn O (thn (hg _ s5 p S x u _ F r5<|step x S y5) λ_ s6 ⟨R,H6,I6,q6⟩=>?_)
  refine wpAny_passesOwn O (thn (ρ _ s6 R H6 _ I6 q6) λf P q=>?_)
  have again:∀{a:St} {c:Hp},Inv X (C0++Ba fp s5.heap) a c P->N a c->∃m,m<n/\∃i l H',Inv X C0 l H' P/\tn i P.heap/\(∀b∈fp,H' b=none)/\W i m l H':=fun{a c} j B=>by
   obtain⟨m',hm,w7⟩:=hN a c B;refine⟨m',hm,i+1,a,c,j.uW,T.keep _ _ _ t λb ρ o e=>(j.pin (b,o)<|zel _<|zel _<|ky ρ e).1,λb ρ=>?_,w7⟩
   obtain⟨o,e,d⟩:=T.obj _ _ t b ρ;exact(j.pin (b,o)<|zel _<|zel _<|ky ρ e).2.1
  cases f with
  |next=>obtain⟨a,c,j,B⟩:=q;exact again j B
  |cont=>obtain⟨a,c,j,B⟩:=q;exact again j B
  |brk=>obtain⟨a,c,j,q⟩:=q;exact⟨a,c,j.uW,q⟩
  |ret v=>obtain⟨x7,a,c,j,r7,q⟩:=q;exact⟨x7,a,c,j.uW,r7,q⟩
end
abbrev R2:=V->V->Hp->VK->Prop
def OpR(X:Cx)(f:Value->Value->Sem Value)(r:R2):Prop :=
 ∀(C0:List<|Addr×Obj) (s:Shared) (J:St) (H:Hp) (x y:V) (v u:Value) (Q:VK),Inv X C0 J H s->RelV x v->RelV y u->r x y H Q->
  wpAny 9001 X.A (f v u) 9033 X.xe s
def UnR(X:Cx)(f:Value->Sem Value)(r:V->Hp->VK->Prop):Prop :=
 ∀(C0:List<|Addr×Obj) (s:Shared) (J:St) (H:Hp) (x:V) (v:Value) (Q:VK),Inv X C0 J H s->RelV x v->r x H Q->
  wpAny 9001 X.A (f v) 9033 X.xe s
def j4(X:Cx)(f:Value)(r:List V->Hp->VK->Prop):Prop :=
 ∀(C0:List<|Addr×Obj) (s:Shared) (J:St) (H:Hp) (xs:List V) (us:List Value) (Q:VK),Inv X C0 J H s->Vals xs us->r xs H Q->
  wpAny 9001 X.A (call f us) 9033 X.xe s
def tOp(r:R2)(I M:TE):TE:=λJ H Q=>I J H λx h=>M J h λy D=>r x y D Q
def tUn(r:V->Hp->VK->Prop)(I:TE):TE:=λJ H Q=>I J H λx h=>r x h Q
def rI(C:Int->Int->Prop)(g:Int->Int->V):R2:=λx y H Q=>∃i j,x=.int i/\y=.int j/\C i j/\Q (g i j) H
def rI0(g:Int->Int->V):R2:=λx y H Q=>∃i j,x=.int i/\y=.int j/\Q (g i j) H
def rU(g:Int->V):V->Hp->VK->Prop:=λx H Q=>∃i,x=.int i/\Q (g i) H
section
variable{X:Cx}{a b c:Expr}{ta tb tc:TE}{pos:Pos}
theorem zam(ha:PE X a ta)(Y:PE X b tb){J:St}{H:Hp}{R:V->V->Hp->Prop}(I:Inv X C0 J H s)
  (h:ta J H λx U=>tb J U λy ρ=>R x y ρ) {Q:Value->Shared->Prop} {f:Value->Value->Sem Value}
  (hf:∀v u s2 x y ρ,Inv X C0 J ρ s2->RelV x v->RelV y u->R x y ρ->wpAny 9001 X.A (f v u) Q X.xe s2) :
  wpAny 9001 X.A (eval a X.env) (λv M=>wpAny 9001 X.A (eval b X.env) (λu O=>wpAny 9001 X.A (f v u) Q X.xe O) X.xe M) X.xe s:=by
 refine thn 9054 λv s1 ⟨x,U,d,j,g⟩=>?_
 refine thn (Y C0 s1 J U _ d g) λu s2 ⟨y,ρ,e,k,i⟩=>?_
 exact hf v u s2 x y ρ e j k i
theorem AD(M:OpR X (binaryOp O) r)(ha:PE X a ta)(ρ:PE X b tb):PE X (.BinOp a O b pos) (tOp r ta tb):=by
 intro C0 s J H Q I h;exact wpAny_BinOp (zam ha ρ I h λv u s2 x y d e f g q=>M C0 s2 J d x y v u Q e f g q)
theorem Le(ρ:UnR X (unaryOp M) r)(ha:PE X a ta):PE X (.UnaryOp M a pos) (tUn r ta):=by
 intro C0 s J H Q I h;exact UnaryOp_ (thn 9054 λv s1 ⟨x,d,e,g,f⟩=>ρ C0 s1 J d x v Q e g f)
theorem opI{g:Int->Int->Int}
  (rule:∀(i j:Int) (t u:Tok) (s:Shared) (Q:Value->Shared->Prop) (E:Value->Shared->Prop),C i j->Q (.int (g i j) s.toks) {s with toks:=s.toks+1}->wpAny 9001 X.A (f (.int i t)<|.int j u) Q E s) :
  OpR X f (rI C λi j=>.int<|g i j):=by
 intro C0 s J H x y v u Q I e k h;obtain⟨i,j,rfl,rfl,d,q⟩:=h;obtain⟨t,rfl⟩:=e;obtain⟨l,rfl⟩:=k;exact rule i j t l s _ _ d ⟨.int<|g i j,H,I.tok _,⟨_,rfl⟩,q⟩
theorem zcm{g:Int->Int->Int}
  (rule:∀(i j:Int) (t u:Tok) (s:Shared) (Q:Value->Shared->Prop) (E:Value->Shared->Prop),Q (.int (g i j) s.toks) {s with toks:=s.toks+1}->wpAny 9001 X.A (f (.int i t)<|.int j u) Q E s) :
  OpR X f (rI0 λi j=>.int<|g i j):=by
 intro C0 s J H x y v u Q I d e h;obtain⟨i,j,rfl,rfl,q⟩:=h;obtain⟨t,rfl⟩:=d;obtain⟨k,rfl⟩:=e;exact rule i j t k s _ _ ⟨.int<|g i j,H,I.tok _,⟨_,rfl⟩,q⟩
theorem WI{g:Int->Int->Bool}
  (rule:∀(i j:Int) (t u:Tok) (s:Shared) (Q:Value->Shared->Prop) (E:Value->Shared->Prop),Q (.bool<|g i j) s->wpAny 9001 X.A (f (.int i t)<|.int j u) Q E s) :
  OpR X f (rI0 λi j=>.bl<|g i j):=by
 intro C0 s J H x y v u Q I d e h;obtain⟨i,j,rfl,rfl,q⟩:=h;obtain⟨t,rfl⟩:=d;obtain⟨k,rfl⟩:=e;exact rule i j t k s _ _ ⟨.bl<|g i j,H,I,rfl,q⟩
def zan(i j:Int):Prop:=0<j/\j<1073741824
def WJ(i j:Int):Prop:=0<=j/\j<=1000000/\i.natAbs<2^64
def zao:OpR X (binaryOp .Add) (rI0 λi j=>.int<|i+j):=zcm λ_ _ _ _ _ _ _ q=>add_int q
def zap:OpR X (binaryOp .Sub) (rI0 λi j=>.int<|i-j):=zcm λ_ _ _ _ _ _ _ q=>sub_int q
theorem Jl:OpR X (binaryOp .FloorDiv) (rI zan λi j=>.int<|i/j):=opI λi j _ _ _ _ _ d q=>by
 have h1:(0:Int)<j:=d.1;have h2:j<1073741824:=d.2;exact floordiv_int (by lia) (by rw[Int.fdiv_eq_ediv_of_nonneg i (by lia)];exact q) (.inl<|PyProof.noPylong_small (by lia))
theorem zaq:OpR X (binaryOp .Mod) (rI (λ_ j=>0<j) λi j=>.int<|i%j):=opI λi j _ _ _ _ _ d q=>by
 have h1:(0:Int)<j:=d;exact mod_int' (by lia) (by rw[Int.fmod_eq_emod_of_nonneg i (by lia)];exact q)
def zar:OpR X (binaryOp .Pow) (rI WJ λi j=>.int<|i^j.toNat):=opI λ_ _ _ _ _ _ _ d q=>pow_int_small d.1 d.2.1 d.2.2 q
theorem unI{g:Int->Int}
  (rule:∀(i:Int) (t:Tok) (s:Shared) (Q:Value->Shared->Prop) (E:Value->Shared->Prop),Q (.int (g i) s.toks) {s with toks:=s.toks+1}->wpAny 9001 X.A (f<|.int i t) Q E s) :
  UnR X f (rU λi=>.int<|g i):=by
 intro C0 s J H x v Q I d h;obtain⟨i,rfl,q⟩:=h;obtain⟨t,rfl⟩:=d;exact rule i t s _ _ ⟨.int<|g i,H,I.tok _,⟨_,rfl⟩,q⟩
def Fy:UnR X (unaryOp .USub) (rU λi=>.int<|-i):=unI λ_ _ _ _ _ q=>neg_int q
theorem zas{J:St}{H:Hp}{s:Shared}{Q:VK}{k ρ:Bool}(I:Inv X C0 J H s)(q:Q (.bl k) H)(e:k=ρ):EP X C0 J Q (.bool ρ) s:=by
 subst e;exact⟨.bl k,H,I,rfl,q⟩
def zcn:OpR X (compareOp .Lt) (rI0 λi j=>.bl<|decide<|i<j):=WI λ_ _ _ _ _ _ _ q=>lt_int q
def Zk:OpR X (compareOp .LtE) (rI0 λi j=>.bl<|decide<|i<=j):=WI λ_ _ _ _ _ _ _ q=>le_int q
def Pj:OpR X (compareOp .Gt) (rI0 λi j=>.bl<|decide<|j<i):=WI λ_ _ _ _ _ _ _ q=>gt_int q
def zco:OpR X (compareOp .GtE) (rI0 λi j=>.bl<|decide<|j<=i):=WI λ_ _ _ _ _ _ _ q=>ge_int q
theorem zat:OpR X (compareOp .Is) (λx y H Q=>y=.non/\Q (.bl<|decide<|x=.non) H):=by
 intro C0 s J H x y v u Q I d e h;obtain⟨rfl,q⟩:=h;cases e;refine is_none_gen (zas I q ?_);cases x<;>first
  |(cases d;rfl)
  |(obtain⟨t,rfl⟩:=d;rfl)
theorem OpR.or(h:OpR X f r)(h':OpR X f ρ):OpR X f (λx y H Q=>r x y H Q\/ρ x y H Q):=by
 intro C0 s J H x y v u Q I d e q;rcases q with q|q
 .exact h C0 s J H x y v u Q I d e q
 .exact h' C0 s J H x y v u Q I d e q
theorem lW(b:Expr)(h:I≠.In:=by decide)(h2:I≠.NotIn:=by decide):behindInMarks I b=false:=by
 have d:(I==CmpOp.In)=false:=by cases I<;>first|rfl|exact absurd rfl h
 have e:(I==CmpOp.NotIn)=false:=by cases I<;>first|rfl|exact absurd rfl h2
 cases b<;>simp[behindInMarks,d,e]
theorem BI(O:OpR X (compareOp ρ) r)(ha:PE X a ta)(M:PE X b tb)(hm:behindInMarks ρ b=false):PE X (.Compare a [ρ] [b] pos) (tOp r ta tb):=by
 intro C0 s J H Q I h;exact wpAny_Compare1 (zam ha M I h λv u s2 x y d e f g q=>O C0 s2 J d x y v u Q e f g q) hm
def Ie(t:TE):TT:=λJ H Q=>t J H λx H'=>∃k,x=.bl k/\Q k H'
theorem lX(O:OpR X (compareOp ρ) r)(ha:PE X a ta)(M:PE X b tb)(hm:behindInMarks ρ b=false):PT X (.Compare a [ρ] [b] pos) (Ie<|tOp r ta tb):=by
 intro C0 s J H Q I h;refine wpAny_isTrue_Compare1 (thn 9054 λv s1 ⟨x,d,i,p,m⟩=>thn (M C0 s1 J d _ i m) λu s2 ⟨y,f,j,q,n⟩=>
  thn (O C0 s2 J f x y v u _ j p q n) λc w ⟨z,g,l,t,k,e,o⟩=>?_) hm
 subst e;cases t;exact wpAny_truthy_bool ⟨g,l,o⟩
def Tb(r I:R2)(ta tb tc:TE):TE:=λJ H Q=>ta J H λx D=>tb J D λy E=>r x y E λz h=>∃k,z=.bl k/\
 (if k=true then tc J h λσ F=>I y σ F Q else Q (.bl false) h)
theorem Tc(ho:OpR X (compareOp O) r)(M:OpR X (compareOp ρ) r')(ha:PE X a ta)(U:PE X b tb)(Y:PE X c tc)
  (hm:lastMarks [O,ρ] [b,c]=false:=by with_unfolding_all rfl):PE X (.Compare a [O,ρ] [b,c] pos) (Tb r r' ta tb tc):=by
 intro C0 s J H Q I h;refine Compare_chain (thn 9054 λv s1 ⟨x,l,o,B,t⟩=>chain_link (thn (U C0 s1 J l _ o t) λu s2 ⟨y,m,p,j,w⟩=>
  thn (ho C0 s2 J m x y v u _ p B j w) λd E ⟨z,f,g,C,k,e,i⟩=>?_)) hm
 subst e;cases C;refine wpAny_truthy_bool ?_;cases k with
 |false=>exact ite_ff ⟨.bl false,f,g,rfl,i⟩
 |true=>exact ite_tt (chain_last<|thn (Y C0 E J f _ g i) λG F ⟨σ,n,q,D,A⟩=>M C0 F J n y σ u G Q q j D A)
theorem Bb:(sizeLine:Nat)<2^63:=by rw[sizeLine_eq];decide
theorem Nx:OpR X (binaryOp .Add) (λx y H Q=>∃i j,x=.str i/\y=.str j/\i.length+j.length<=sizeLine/\Q (.str<|i++j) H):=by
 intro C0 s J H x y v u Q I d e h;obtain⟨i,j,rfl,rfl,hz,q⟩:=h;obtain⟨t,rfl⟩:=d;obtain⟨f,rfl⟩:=e;exact add_str (λf tk=>⟨.str<|i++j,H,I.tok _,⟨_,rfl⟩,q⟩) hz
theorem vals1(r:Vals [x] us):∃u,us=[u]/\RelV x u:=by
 cases r with
 |cons d e=>cases e;exact⟨_,rfl,d⟩
theorem vals2(r:Vals [x,y] us):∃u I,us=[u,I]/\RelV x u/\RelV y I:=by
 cases r with
 |cons d e=>
  cases e with
  |cons f g=>cases g;exact⟨_,_,rfl,d,f⟩
theorem Td:j4 X (.builtin "abs") (λxs H Q=>∃i,xs=[.int i]/\Q (.int<|if i<0 then-i else i) H):=by
 intro C0 s J H xs us Q I r h;obtain⟨i,rfl,q⟩:=h;obtain⟨u,rfl,t,rfl⟩:=vals1 r;exact call_abs_int λu tk=>⟨.int<|if i<0 then-i else i,H,I.tok _,⟨_,rfl⟩,q⟩
end
structure Ny(h:Heap)(x dx C:Addr)(mA:Str->Option Value):Prop where
 obj:h.get? x=some (PySem.W.instObj C dx)
 ns:h.Ns1 dx mA
 ne:dx≠x
theorem Q1{h:Heap}{mA:Str->Option Value}(n:h.Ns1 dx mA):∃od,h.get? dx=some od/\∀name,PySem.W.lookIn name od=some (mA name):=by
 obtain⟨o,es,f,d,hd,hk,_,hm⟩:=n;refine⟨o,d,λname=>?_⟩
 have e:=hm name;unfold nsFind findBy at e;rw[<-Array.find?_toList]at e;unfold PySem.W.lookIn;rw[hd];dsimp only;split
 .rename_i y q
  rw[q]at e;exact congrArg some e
 .rename_i q
  rw[q]at e;have a:es.toList.any (·.refKey)=false:=by
   rw[List.any_eq_false];intro y hy;obtain⟨z,t,b⟩:=hk y (Array.mem_toList_iff.mp hy);simp[DictEntry.refKey,b]
  have c : ¬es.toList.any (·.refKey)=true:=by rw[a];exact zek
  rw[if_neg c];exact congrArg some e
def Ny.look(I:Ny h x dx C mA):∃od,PySem.W.InstAt h x (PySem.W.instObj C dx) C (some od)/\∀name,PySem.W.lookIn name od=some (mA name) :=
 let⟨od,d,b⟩:=Q1 I.ns
 ⟨od,⟨I.obj,rfl,rfl,d⟩,b⟩
section
variable{prog:Program}{w:World}{A:Around}{E:Value->Shared->Prop}{s:Shared}{K:zee}{x dx C f:Addr}{mA:Str->Option Value}{name:Str}{v:Value}
theorem get_map(X:K.In s.heap)(I:Ny s.heap x dx C mA)(O:PySem.W.plainGet K C name=true)(U:PySem.W.hasDictIn K C=true)
  (ha:PySem.W.findIn K (.ref C) name=some none) (hv:mA name=some v) (ρ:PySem.W.handedIn v=true) (h:Q v {s with toks:=s.toks+1}) :
  wpAny 9017 A (getAttr (.ref x) name M) Q E s:=by
 obtain⟨od,σ,a⟩:=I.look;exact PySem.W.get_value X σ (PySem.W.plainGet_of O).1 (PySem.W.findObj_own U ha rfl (by rw[a,hv])) ρ h
theorem Te(X:K.In s.heap)(I:Ny s.heap x dx C mA)(ρ:PySem.W.plainGet K C name=true)
  (M:PySem.W.findIn K (.ref C) name=some (some<|.ref f)) (O:PySem.W.isFn K (.ref f)=true) (hv:mA name=none) (h:Q (.ref f,[.ref x]) s) :
  wpAny 9017 A (getMethod (.ref x) name pl) Q E s:=by
 obtain⟨od,σ,a⟩:=I.look;exact PySem.W.method_fn X σ (PySem.W.plainGet_of ρ).1 (PySem.W.plainGet_of ρ).2 M (beq_iff_eq.mp O) (by show(PySem.W.lookIn name od).map (·.isSome)=some false;rw[a,hv];rfl) h
theorem WK(X:K.In s.heap)(I:Ny s.heap x dx C mA)
  (O:PySem.W.findIn K (.ref C) "__setattr__"=some (some<|.builtin "object.__setattr__")) (M:PySem.W.plainOver K C=true) (Y:PySem.W.takerIn K C name=some none) (ρ:PySem.W.hasDictIn K C=true)
  (hw:PySem.Within mA ns) (U:ns.length<=sizeLine)
  (h:∀h',Ny h' x dx C (λy=>if y=name then some v else mA y)->Heap.SameBut dx s.heap h'->Q () {s with heap:=h',toks:=s.toks+2}) :
  wpAny 9017 A (setAttr (.ref x) name v) Q E s:=by
 obtain⟨od,σ,p⟩:=I.look;refine PySem.W.set_plain X σ O (PySem.W.osa_open (s:={s with toks:=s.toks+1}) (r:=none) X σ M Y λb=>?_)
 obtain⟨o,n,i⟩:=PySem.W.any_some ρ;have hx:s.heap.get? x=some ⟨.ref C,some dx,.plain,#[]⟩:=I.obj;refine zeH (zeY<|zeH<|zeH<|wpAny_loadPart hx<|zeH<|PySem.W.Looks.here (s:={s with toks:=s.toks+1}) (PySem.W.looks_clsIn X n) ?_)
 rw[i];refine zeY (a:=some dx) (zeH<|zeY<|zeH ?_);refine wpAny_nsSet1 (s:={s with toks:=s.toks+1}) I.ns λh' c d=>?_
 obtain⟨q,m,l,k,j,g⟩:=c.count (PySem.Within.cons name v hw);refine zeH (wpAny_lookBehind k (by rw[j];exact pastItsLine_dict (zeW g (by rw[zeu];lia))) ?_)
 exact zeY (h _ ⟨(d.2 _<|Ne.symm I.ne).trans I.obj,c,I.ne⟩ d)
theorem Tf(X:K.In s.heap)(hm:PySem.W.makesIn K C=true)
  (hi:PySem.W.findIn K (.ref C) "__init__"=some (some<|.ref f)) (ρ:PySem.W.typeIn K (.ref f)=some (.type "function"))
  (h:codeAny 9017 (A.under<|.builtin "type.__call__" ⟨.ref C::vs,I⟩) (.call (.ref f) ⟨.ref 9022::vs,I⟩) (PySem.W.InitBack 9022 R)
   {s with heap:=(s.heap.push PySem.W.emptyDict).push<|PySem.W.instObj C s.heap.objs.size}) :
  codeAny 9017 A (.call (.ref C) ⟨vs,I⟩) R s:=by
 obtain⟨a,g,d,t,os⟩:=s;exact PySem.W.make_core (PySem.W.makes_of X hm) (PySem.W.looks_findIn X hi) (λself=>PySem.W.bind_fn X self ρ) (.inl rfl) h
end
def BG(f:Str)(v:V):List (Str×V)->List (Str×V)
 | []=>[(f,v)]
 |(g,x)::r=>if g=f then(g,v)::r else(g,x)::BG f v r
theorem DT(f g:Str)(v:V):∀fs:List (Str×V),(BG f v fs).lookup g=if g=f then some v else fs.lookup g
 | []=>by
  show List.lookup g [(f,v)]=_
  by_cases h:g=f
  .have a:(g==f)=true:=beq_iff_eq.mpr h
   simp only[List.lookup,a,if_pos h]
  .have a:(g==f)=false:=beq_eq_false_iff_ne.mpr h
   simp only[List.lookup,a,if_neg h]
 |(k,x)::r=>by
  have b:=DT f g v r
  fail "qk"
  .rw[if_pos hk]
   by_cases h:g=k
   .have a:(g==k)=true:=beq_iff_eq.mpr h
    simp only[List.lookup,a,if_pos<|h.trans hk]
   .have a:(g==k)=false:=beq_eq_false_iff_ne.mpr h
    simp only[List.lookup,a,if_neg (λe:g=f=>h<|e.trans hk.symm)]
  .rw[if_neg hk]
   by_cases h:g=k
   .have a:(g==k)=true:=beq_iff_eq.mpr h
    simp only[List.lookup,a,if_neg (λe:g=f=>hk<|h.symm.trans e)]
   .have a:(g==k)=false:=beq_eq_false_iff_ne.mpr h
    simp only[List.lookup,a];exact b
theorem C4(f:Str)(v:V):∀fs:List (Str×V),f∈(BG f v fs).map (·.1)/\∀g,g∈fs.map (·.1)->g∈(BG f v fs).map (·.1)
 | []=>⟨by simp[BG],λg h=>by simp at h⟩
 |(k,x)::r=>by
  obtain⟨a,b⟩:=C4 f v r
  fail "qk"
  .rw[if_pos hk]
   subst hk;exact⟨by simp,λg h=>by simpa using h⟩
  .rw[if_neg hk]
   refine⟨?_,λg h=>?_⟩
   .rw[zey]
    exact zei _ a
   .rw[zey]at h⊢
    rcases zed h with e|e
    .exact List.mem_cons.mpr (.inl e)
    .exact zei _ (b g e)
theorem DU(f:Str)(v:V):∀fs:List (Str×V),(BG f v fs).length<=fs.length+1
 | []=>by simp[BG]
 |(k,x)::r=>by
  have a:=DU f v r
  fail "qk"
  .rw[if_pos hk,zeu,zeu];lia
  .rw[if_neg hk,zeu,zeu];lia
theorem vt.some_of(r:vt (some v) o):∃u,o=some u/\RelV v u:=by
 cases o with
 |none=>exact(show False from r).elim
 |some u=>exact⟨u,rfl,r⟩
theorem vt.none_of(r:vt none o):o=none:=by
 cases o with
 |none=>rfl
 |some u=>exact(show False from r).elim
theorem Q2(r:RelV v u):PySem.W.handedIn u=true:=by
 cases v with
 |non=>cases(show u=Value.none from r);rfl
 |bl b=>cases(show u=Value.bool b from r);rfl
 |int i=>obtain⟨t,e⟩:=(show∃t,u=Value.int i t from r);cases e;rfl
 |str x=>obtain⟨t,e⟩:=(show∃t,u=Value.str x t from r);cases e;rfl
 |byt b=>obtain⟨t,e⟩:=(show∃t,u=Value.bytes b t from r);cases e;rfl
 |flt b=>obtain⟨t,e⟩:=(show∃t,u=Value.float b t from r);cases e;rfl
 |ref a=>cases(show u=Value.ref a from r);rfl
 |ty n=>cases(show u=Value.type n from r);rfl
section
variable{P:Program}{w:World}{H H':Hp}{h h':Heap}{a C dx:Addr}{fs fs':List<|Str×V}
theorem E6(hok:HOk P w H h)(e:H a=some 9099):∃mA,Ny h a dx C mA/\(∀f,vt (fs.lookup f)<|mA f)/\PySem.Within mA (fs.map (·.1))/\fs.length<=1000/\H dx=some (.own a):=by
 obtain⟨d,z,ne,ob,mA,n,r,q⟩:=(show ft P w H h a 9099 from hok a _ e);exact⟨mA,⟨ob,n,ne⟩,r,q,z,d⟩
end
structure Cls(K:zee)(C:Addr):Prop where
 pg:PySem.W.plainGet K C Str.empty=true
 hd:PySem.W.hasDictIn K C=true
 po:PySem.W.plainOver K C=true
 sa:PySem.W.findIn K (.ref C) "__setattr__"=some (some<|.builtin "object.__setattr__")
def Cls.get{K:zee}(c:Cls K C)(f:Str):PySem.W.plainGet K C f=true:=c.pg
def di(K:zee)(C:Addr)(f:Str):Prop:=PySem.W.findIn K (.ref C) f=some none
theorem di.taker{K:zee}{f:Str}(n:di K C f):PySem.W.takerIn K C f=some none:=by
 unfold PySem.W.takerIn;rw[show PySem.W.findIn K (.ref C) f=some none from n];rfl
structure Meth(K:zee)(C:Addr)(m:Str)(f:Addr):Prop where
 at_:PySem.W.findIn K (.ref C) m=some (some<|.ref f)
 fn:PySem.W.isFn K (.ref f)=true
 kp:PySem.W.keepIn K (.ref f)=true
section
variable{X:Cx}{C0:List<|Addr×Obj}{J:St}{H:Hp}{s:Shared}{a C dx:Addr}{fs:List<|Str×V}{f:Str}{v:V}{A:Around}{E:Value->Shared->Prop}
theorem Nz(I:Inv X C0 J H s)(e:H a=some 9099)(c:Cls X.K C)(n:di X.K C f)(l:fs.lookup f=some v)
  (h:∀u s',Inv X C0 J H s'->RelV v u->Q u s'):wpAny 9001 A (getAttr (.ref a) f b) Q E s:=by
 obtain⟨mA,O,r,_,_,_⟩:=E6 I.hok e;obtain⟨u,hu,d⟩:=vt.some_of (v:=v) (o:=mA f) (by rw[<-l];exact r f)
 exact get_map I.kIn O (c.get f) c.hd n hu (Q2 d) (h u _ (I.tok _) d)
theorem qm(I:Inv X C0 J H s)(e:H a=some 9099)(c:Cls X.K C)(k:Meth X.K C m g)(l:fs.lookup m=none)
  (h:Q (.ref g,[.ref a]) s):wpAny 9001 A (getMethod (.ref a) m pl) Q E s:=by
 obtain⟨mA,O,r,_,_,_⟩:=E6 I.hok e;have hn:mA m=none:=vt.none_of (by rw[<-l];exact r m)
 exact Te I.kIn O (c.get m) k.at_ k.fn hn h
theorem NB(I:Inv X C0 J H s)(e:H a=some 9099)(c:Cls X.K C)(n:di X.K C f)(M:fs.length<1000)(ρ:RelV y u)
  (h:∀s',Inv X C0 J (upd H a<|.ins C dx<|BG f y fs) s'->Q () s'):wpAny 9001 A (setAttr (.ref a) f u) Q E s:=by
 obtain⟨mA,O,r,j,_,i⟩:=E6 I.hok e;have hz:(fs.map (·.1)).length<=sizeLine:=by rw[zej,sizeLine_eq];lia
 refine WK I.kIn O c.sa c.po n.taker c.hd j hz λh' d p=>h _ ?_
 have hd:∃o,h'.get? dx=some o:=let⟨o,_,_,k,_⟩:=d.ns;⟨o,k⟩
 refine I.write (x:=a) (e:=dx) (by rw[e];exact True.intro) (.inr i) (λb q l z=>(p.2 b l).trans z) hd ?_
 refine⟨by rw[av O.ne];exact i,?_,O.ne,d.obj,_,d.ns,λg=>?_,λg m=>?_⟩
 .have:=DU f y fs;lia
 .show vt ((BG f y fs).lookup g) (if g=f then some u else mA g)
  rw[DT]
  by_cases q:g=f
  .rw[if_pos q,if_pos q];exact ρ
  .rw[if_neg q,if_neg q];exact r g
 .by_cases q:g=f
  .rw[q];exact(C4 f y fs).1
  .refine(C4 f y fs).2 g (j g λz=>m ?_)
   show(if g=f then some u else mA g)=none
   rw[if_neg q];exact z
theorem Inv.made(I:Inv X C0 J H s):Inv X C0 J (upd (upd H s.heap.objs.size<|.own<|s.heap.objs.size+1) 9022<|.ins C s.heap.objs.size [])
  {s with heap:=(s.heap.push PySem.W.emptyDict).push<|PySem.W.instObj C s.heap.objs.size}:=by
 have c:(s.heap.push PySem.W.emptyDict).get? s.heap.objs.size=some PySem.W.emptyDict:=zeK s.heap rfl;have g:((s.heap.push PySem.W.emptyDict).push<|PySem.W.instObj C s.heap.objs.size).get? 9022=some (PySem.W.instObj C s.heap.objs.size):=by
  have:=zeK (s.heap.push PySem.W.emptyDict) (o:=PySem.W.instObj C s.heap.objs.size) rfl
  rwa[Heap.size_push]at this
 have h:(s.heap.push PySem.W.emptyDict).Ns s.heap.objs.size (λ_=>none):=⟨PySem.W.emptyDict,#[],_,c,rfl,(λe i=>absurd i (by simp)),λ_=>rfl⟩
 have d:=I.laid (a:=s.heap.objs.size) (o:=.own<|s.heap.objs.size+1) (h':=s.heap.push PySem.W.emptyDict) (t':=s.toks) (λb u q=>zep _ q) (zen _) ⟨_,c⟩
 refine d.laid (a:=s.heap.objs.size+1) (o:=.ins C s.heap.objs.size []) (t':=s.toks) (λb u q=>zep _ q) (Nat.le_of_eq<|Heap.size_push _ _) ?_
 have ne:s.heap.objs.size≠s.heap.objs.size+1:=zeR (Nat.lt_succ_self _);refine⟨by rw[av ne,aw],Nat.zero_le _,ne,g,λ_=>none,(Heap.Ns1.of_empty h).at λo q=>zep _ q,λ_=>True.intro,λy hy=>absurd rfl hy⟩
theorem WL(ρ:attributeBase e f env (eval e env)=eval e env)
  (h:wpAny 9017 A (eval e env) (λo I=>wpAny 9017 A (getAttr o f true) Q E I) E s):wpAny 9017 A (eval (.Attribute e f pos) env) Q E s :=
 Attribute_any_ h (by rw[arm_eval_Attribute,ρ])
end
def Th(K:zee)(I:TE)(f:Str):TE:=λJ H Q=>I J H λx h=>∃a C dx fs v,x=.ref a/\h a=some 9099/\Cls K C/\di K C f/\fs.lookup f=some v/\Q v h
def WM(K:zee)(I M:TE)(f:Str):TS:=λD J H=>M J H λy E=>I J E λx h=>∃a C dx fs,x=.ref a/\h a=some 9099/\Cls K C/\di K C f/\fs.length<1000/\
 D.nx J (upd h a<|.ins C dx<|BG f y fs)
section
variable{X:Cx}{o e value:Expr}{f:Str}{pos pos' tpos:Pos}{ta tv:TE}
theorem zau(M:PE X e ta)(ρ:attributeBase e f X.env (eval e X.env)=eval e X.env):PE X (.Attribute e f pos) (Th X.K ta f):=by
 intro C0 s J H Q I h;refine WL ρ (thn (M C0 s J H _ I h) λu s1 ⟨x,b,d,j,a,C,dx,fs,v,ex,ea,c,n,l,q⟩=>?_)
 subst ex;obtain rfl:u=Value.ref a:=j;exact Nz d ea c n l λk s2 g i=>⟨v,b,g,i,q⟩
theorem zav(ha:PE X o ta)(hv:PE X value tv)(ρ:swapsWith value (some<|.Attribute o f pos') pos.line X.env=pure false):PS X (.Assign [.Attribute o f pos'] value pos) (WM X.K ta tv f):=by
 intro C0 s J H D I h;refine plainObj_wpAny_Assign_Attribute (thn (hv C0 s J H _ I h) λu s1 ⟨y,b,d,p,q⟩=>thn (ha C0 s1 J b _ d q) λj s2 ⟨x,r,g,m,a,C,dx,fs,ex,ea,c,n,l,k⟩=>?_) ρ
 subst ex;obtain rfl:j=Value.ref a:=m;exact NB g ea c n l p λt i=>⟨J,_,i,k⟩
end
section
variable{X:Cx}{C0:List<|Addr×Obj}{J:St}{H:Hp}{s:Shared}{A:Around}{E:Value->Shared->Prop}{Q:Value->Shared->Prop}{c:Value}{b:Bool}
inductive C5(K:zee)(H:Hp):V->Value->Prop where
 |non:C5 K H .non (.type "NoneType")
 |bl (x:Bool):C5 K H (.bl x) (.type "bool")
 |int (i:Int):C5 K H (.int i) (.type "int")
 |str (x:Str):C5 K H (.str x) (.type "str")
 |flt (x:UInt64):C5 K H (.flt x) (.type "float")
 |lst {a:Addr} {xs:List V} (e:H a=some (.lst xs)):C5 K H (.ref a) (.type "list")
 |frz {a:Addr} {o:Obj} {xs:List V} (e:H a=some (.frz o (.lst xs))):C5 K H (.ref a) (.type "list")
 |tup {a:Addr} {xs:List V} (e:H a=some (.tup xs)):C5 K H (.ref a) (.type "tuple")
 |dK {a:Addr} {G0:List (Key×V)} (e:H a=some (.dK G0)):C5 K H (.ref a) (.type "dict")
 |dT {a:Addr} {G0:List (List Key×V)} (e:H a=some (.dT G0)):C5 K H (.ref a) (.type "dict")
 |ins {a C dx:Addr} {fs:List (Str×V)} (e:H a=some (.ins C dx fs)) (cl:Cls K C) (ha:PySem.W.findIn K (.ref C) "__class__"=some (some (.builtin "object.__class__")))
   (hn:PySem.W.specialIn K (.builtin "object.__class__") "__get__"=some (some<|.builtin "getset_descriptor.__get__")) (htk:PySem.W.takesIn K (.builtin "object.__class__")=some true)
   (hm:PySem.W.mroIn K C (.type "object")=some true):C5 K H (.ref a) (.ref C)
theorem Q3(I:Inv X C0 J H s)(ρ:RelV x u)(ty:C5 X.K H x t)(e:PySem.W.kitOne X.K t c=some b)(h:∀tk,Q (.bool b) {s with toks:=tk}) :
  wpAny 9001 A (call (.builtin "isinstance") [u,c]) Q E s:=by
 cases ty with
 |non=>cases(show u=Value.none from ρ);exact ze3 PySem.W.kitx_none I.kIn True.intro e (λz=>nomatch z) h
 |bl y=>cases(show u=Value.bool y from ρ);exact ze3 PySem.W.kitx_bool I.kIn True.intro e (λz=>nomatch z) h
 |int i=>obtain⟨t,q⟩:=(show∃t,u=Value.int i t from ρ);cases q;exact ze3 PySem.W.kitx_int I.kIn True.intro e (λz=>nomatch z) h
 |str y=>obtain⟨t,q⟩:=(show∃t,u=Value.str y t from ρ);cases q;exact ze3 PySem.W.kitx_str I.kIn True.intro e (λz=>nomatch z) h
 |flt y=>obtain⟨t,q⟩:=(show∃t,u=Value.float y t from ρ);cases q;exact ze3 PySem.W.kitx_float I.kIn True.intro e (λz=>nomatch z) h
 | @lst a xs ea=>
  cases(show u=Value.ref a from ρ);obtain⟨_,_,n,_,h1⟩:=(show ft X.prog X.w H s.heap a (.lst xs)from I.hok a _ ea);exact ze3 PySem.W.kitx_list I.kIn ⟨_,h1,rfl⟩ e (λz=>nomatch z) h
 | @frz a ob xs ea=>
  cases(show u=Value.ref a from ρ);obtain⟨_,_,_,n,_,h1⟩:=(show ft X.prog X.w H s.heap a (.frz ob<|.lst xs)from I.hok a _ ea);exact ze3 PySem.W.kitx_list I.kIn ⟨_,h1,rfl⟩ e (λz=>nomatch z) h
 | @tup a xs ea=>
  cases(show u=Value.ref a from ρ);obtain⟨_,_,_,p⟩:=(show ft X.prog X.w H s.heap a (.tup xs)from I.hok a _ ea);obtain⟨⟨o,h1,h2,_⟩,_⟩:=p;exact ze3 PySem.W.kitx_tuple I.kIn ⟨o,h1,h2⟩ e (λz=>nomatch z) h
 | @dK a G0 ea=>
  cases(show u=Value.ref a from ρ);obtain⟨_,_,vs,_,p⟩:=(show ft X.prog X.w H s.heap a (.dK G0)from I.hok a _ ea);obtain⟨o,es,d,h1,h2,_⟩:=p;exact ze3 PySem.W.kitx_dict I.kIn ⟨o,h1,h2.1⟩ e (λz=>nomatch z) h
 | @dT a G0 ea=>
  cases(show u=Value.ref a from ρ);obtain⟨_,_,xs,_,o,es,d,h1,h2,_⟩:=(show ft X.prog X.w H s.heap a (.dT G0)from I.hok a _ ea);exact ze3 PySem.W.kitx_dict I.kIn ⟨o,h1,h2.1⟩ e (λz=>nomatch z) h
 | @ins a C dx fs ea cl ha hn htk hm=>
  cases(show u=Value.ref a from ρ);obtain⟨mA,O,_⟩:=E6 I.hok ea;obtain⟨od,σ,_⟩:=O.look;exact ze3 (PySem.W.kitx_own (cl.get _) cl.hd ha hn htk hm) I.kIn σ e (λz=>nomatch z) h
end
structure cn(k:Nat)(A:Around):Prop where
 hd:A.handled=none
 dp:A.depth+3*k+5<recursionLimit
 un:A.units+16*k+200<cLine
theorem cn.mono(r:cn k A)(h:j<=k):cn j A:=⟨r.hd,by have:=r.dp;lia,by have:=r.un;lia⟩
theorem cn.deeper(r:cn (k+1) A)(env:Env):cn k (A.deeper env) :=
 ⟨r.hd,by have:=r.dp;show A.depth+1+3*k+5<_;lia,by have:=r.un;show A.units+3+16*k+200<_;lia⟩
theorem NC{A:Around}{us:List Value}{I:List<|Str×Value}:(A.under<|.builtin "type.__call__" ⟨.ref C::us,I⟩).depth=A.depth+1:=by
 first|rfl|simp[Around.under,Code.weight,Code.isCreation,Code.isGuard,Code.isCaller,Code.frames,Code.isFrame,guardIds]
theorem NF{A:Around}{us:List Value}{I:List<|Str×Value}:(A.under<|.builtin "type.__call__" ⟨.ref C::us,I⟩).units=A.units+1:=by
 first|rfl|simp[Around.under,Code.cUnits,Code.frames,Code.isFrame]
theorem cn.make(r:cn (k+1) A)(C:Addr)(us:List Value)(I:List<|Str×Value):cn k (A.under<|.builtin "type.__call__" ⟨.ref C::us,I⟩) :=
 ⟨r.hd,by have:=r.dp;rw[NC];lia,by have:=r.un;rw[NF];lia⟩
theorem cn.depth(r:cn k A):A.depth<recursionLimit:=by have:=r.dp;lia
theorem cn.units(r:cn k A):A.units+64<cLine:=by have:=r.un;lia
def Bc:TA:=λ_ H Q=>Q [] H
def BJ(I:TE)(M:TA):TA:=λJ H Q=>I J H λx h=>M J h λxs D=>Q (x::xs) D
section
variable{X:Cx}{e:Expr}{es:List Expr}{te:TE}{t:TA}{pos:Pos}
def NH:PA X [] Bc:=λ_ _ _ _ H Q I h=>Calls.spliced_nil ⟨[],H,I,.nil,h⟩
theorem fv(ha:PE X e te)(ρ:PA X es t)(M:starEach (e::es) X.env=9013::starEach es X.env:=by rfl):PA X (e::es) (BJ te t):=by
 intro pos C0 s J H Q I h;rw[M];show wpAny _ _ (spliced (9013::backTo pos (starEach es X.env))) _ _ s;refine Calls.spliced_cons (thn 9054 λu s1 ⟨x,a,c,i,f⟩=>?_)
 exact thn (ρ pos C0 s1 J a _ c f) λus s2 ⟨xs,b,d,j,g⟩=>⟨x::xs,b,d,.cons i j,g⟩
def zaw(t:TA):TE:=λJ H Q=>t J H λxs h=>xs.length<=sizeLine/\∀p,h p=none->Q (.ref p) (upd h p<|.tup xs)
def Ti(t:TA):TE:=λJ H Q=>t J H λxs h=>xs.length<=sizeLine/\∀p,h p=none->Q (.ref p) (upd h p<|.lst xs)
theorem qo(h:PA X es t):PE X (.Tuple es ρ pos) (zaw t):=by
 intro C0 s J H Q I f;refine wpAny_Tuple_spliced (thn (h pos C0 s J H _ I f) λus s1 ⟨xs,a,c,r,z,q⟩=>⟨by rw[<-r.length];exact z,?_⟩)
 have d:a s1.heap.objs.size=none:=c.hok.fresh (zen _);refine⟨.ref s1.heap.objs.size,upd a s1.heap.objs.size<|.tup xs,c.laid (t':=s1.toks) (λb u e=>zep _ e) (zen _) ?_,rfl,q _ d⟩
 exact⟨z,us,r,⟨_,zeK _ rfl,rfl,_,rfl⟩,_,zeK _ rfl,rfl⟩
theorem yi(h:PA X es t):PE X (.List es pos) (Ti t):=by
 intro C0 s J H Q I f;refine wpAny_List_spliced (thn (h pos C0 s J H _ I f) λus s1 ⟨xs,a,c,r,z,q⟩=>⟨by rw[<-r.length];exact z,?_⟩)
 have d:a s1.heap.objs.size=none:=c.hok.fresh (zen _);refine⟨.ref s1.heap.objs.size,upd a s1.heap.objs.size<|.lst xs,c.laid (t':=s1.toks) (λb u e=>zep _ e) (zen _) ?_,rfl,q _ d⟩
 exact⟨z,us,0,r,zeK _ rfl⟩
end
abbrev Sp:=List V->Hp->VK->XK->Prop
abbrev CXT:=List Env->Hp->Shared->XK->Value->Shared->Prop
structure NI(P:Program)(w:World)(K:zee)(mg:Str->Option Value)(base:Heap)(A:Around)(outer:List Env)(s:Shared)(H:Hp):Prop where
 frames:A.frames=some outer
 mod:Mod K mg base
 bs:∀b o,base.get? b=some o->s.heap.get? b=some o/\H b=none
 bsz:base.objs.size<=s.heap.objs.size
 BH:s.heap.FunFrames base outer
 frf:∀b∈frs outer,H b=none
 hok:HOk P w H s.heap
 bare:AllBare s.gens
 tab:∀c T ps,vx K=some (c,T,ps)->∃more,H T=some (.tbl<|ps++more)
def CE(outer:List Env)(P:Program)(w:World)(H:Hp)(s:Shared)(Q:VK)(u:Value)(s':Shared):Prop :=
 ∃v H',s'.os=s.os/\AllBare s'.gens/\Un (frs outer) [] H H' s.heap s'.heap/\HOk P w H' s'.heap/\RelV v u/\Q v H'
def CR(CX:CXT)(outer:List Env)(P:Program)(w:World)(H:Hp)(s:Shared)(Q:VK)(E:XK)(r:Result)(s':Shared):Prop :=
 match r with
 | .ok (.ret u)=>CE outer P w H s Q u s'
 | .ok _=>False
 | .error e=>CX outer H s E e s'
structure dt(P:Program)(w:World)(K:zee)(mg:Str->Option Value)(base:Heap)(CX:CXT)(k:Nat)(f:Addr)(fd:FuncData)(ps:List Str)(sp:Sp):Prop where
 len:∀vs H Q E,sp vs H Q E->vs.length=ps.length
 run:∀(A:Around) (outer:List Env) (s:Shared) (H:Hp) (args:Args) (us:List Value) (vs:List V) (Q:VK) (E:XK),cn k A->NI P w K mg base A outer s H->BindsTo s fd args (ps.zip us)->Vals vs us->sp vs H Q E->
  codeAny (model P w) A (.call (.ref f) args) (CR CX outer P w H s Q E) s
def dt.imp{K:zee}{mg:Str->Option Value}{base:Heap}{CX:CXT}{k:Nat}{f:Addr}{fd:FuncData}{ps:List Str}{sp I:Sp}(F:dt P w K mg base CX k f fd ps sp)
  (h:∀vs H Q E,I vs H Q E->sp vs H Q E):dt P w K mg base CX k f fd ps I :=
 ⟨λvs H Q E q=>F.len vs H Q E<|h _ _ _ _ q,λA outer s H args us vs Q E c b a hv d=>F.run A outer s H args us vs Q E c b a hv<|h _ _ _ _ d⟩
theorem NI.make{K:zee}{mg:Str->Option Value}{base:Heap}{A:Around}{outer:List Env}{s:Shared}{H:Hp}(e:NI P w K mg base A outer s H)(C:Addr)(us:List Value)(I:List<|Str×Value) :
  NI P w K mg base (A.under<|.builtin "type.__call__" ⟨.ref C::us,I⟩) outer s H:=⟨by first|exact e.frames|(simpa[Around.under,Code.envs,Code.isFrame,pushEnvs]using e.frames),e.mod,e.bs,e.bsz,e.BH,e.frf,e.hok,e.bare,e.tab⟩
section
variable{X:Cx}{C0:List<|Addr×Obj}{J:St}{H:Hp}{s s':Shared}
def Inv.env0(I:Inv X C0 J H s):NI X.prog X.w X.K X.mg X.base X.A X.stack s H :=
 ⟨I.ok.frames,I.ok.mod,I.bs,zeW I.ok.bsz I.sz,I.stack,I.EY,I.hok,I.bare,I.tab⟩
theorem Inv.after(I:Inv X C0 J H s)(h:CE X.stack X.prog X.w H s Q u s'):EP X C0 J Q u s':=by
 obtain⟨v,H',os,bare,un,hok,r,q⟩:=h;obtain⟨c,g,d,t,a⟩:=s';obtain rfl:a=s.os:=os;exact⟨v,H',I.call (h':=c) (g':=g) (d':=d) (t':=t) (ch:=[]) un hok bare (λb z=>absurd z (by simp)),r,q⟩
end
def qp(sp:Sp)(dvs:List V)(E:XK)(t:TA):TE:=λJ H Q=>t J H λvs h=>sp (vs++dvs) h Q E
def DV(C:Addr)(m:Str)(sp:Sp)(dvs:List V)(E:XK)(I:TE)(t:TA):TE:=λJ H Q=>I J H λx h=>∃a dx fs,x=.ref a/\h a=some 9099/\fs.lookup m=none/\
 t J h λvs D=>sp (x::(vs++dvs)) D Q E
def Tj(C:Addr)(sp:Sp)(dvs:List V)(E:XK)(t:TA):TE:=λJ H Q=>t J H λvs h=>∀x dx,h x=none->h dx=none->dx≠x->
 sp (.ref x::(vs++dvs)) (upd (upd h dx<|.own x) x<|.ins C dx []) (λv D=>v=.non/\Q (.ref x) D) E
def Binds(K:zee)(fd:FuncData)(ps:List Str)(ds:List Value):Prop :=
 ∀(s:Shared) (us:List Value),K.In s.heap->(us++ds).length=ps.length->BindsTo s fd ⟨us,[]⟩ (ps.zip<|us++ds)
theorem Binds.all{K:zee}{ps:List Str}(h:∀us:List Value,us.length=ps.length->bindArgs fd ⟨us,[]⟩=pure (ps.zip us)):Binds K fd ps []:=λs us _ a=>by
 rw[zeQ]at a⊢;exact .of_eq (h us a)
def Passes(CX:CXT)(X:Cx)(E:XK):Prop:=∀(C0:List<|Addr×Obj) (J:St) (H:Hp) (s:Shared) (e:Value) (s':Shared),Inv X C0 J H s->CX X.stack H s E e s'->X.xe e s'
section
variable{X:Cx}{CX:CXT}{k:Nat}{f C:Addr}{fd:FuncData}{ps:List Str}{sp:Sp}{dvs:List V}{ds:List Value}{E:XK}{x m:Str}{p pos apos:Pos}{e o:Expr}{es:List Expr}{ta:TE}{t:TA}
theorem Bd{J:St}{H:Hp}{s:Shared}{Q:VK}{us:List Value}{vs:List V}(F:dt X.prog X.w X.K X.mg X.base CX k f fd ps sp)(M:cn k X.A)(ρ:Binds X.K fd ps ds)(hd:Vals dvs ds)(hx:Passes CX X E)
  (I:Inv X C0 J H s) (r:Vals vs us) (h:sp (vs++dvs) H Q E):wpAny 9001 X.A (call (.ref f) us) 9033 X.xe s:=by
 have b:Vals (vs++dvs) (us++ds):=r.append hd;have d:(us++ds).length=ps.length:=by rw[<-b.length];exact F.len _ _ _ _ h
 refine wpAny_call (codeAny_mono (F.run X.A X.stack s H ⟨us,[]⟩ (us++ds) (vs++dvs) Q E M I.env0 (ρ s us I.kIn d) b h) λr s' a=>?_)
 cases r with
 |error e=>exact hx C0 J H s e s' I a
 |ok c=>
  cases c with
  |ret u=>exact I.after a
  |next=>exact False.elim a
  |brk=>exact False.elim a
  |cont=>exact False.elim a
theorem Pk(F:dt X.prog X.w X.K X.mg X.base CX k f fd ps sp)(hr:cn k X.A)(Y:Gl X x)(hm:X.mg x=some (.ref f))(hk:PySem.W.keepIn X.K (.ref f)=true)(O:Binds X.K fd ps ds)(hd:Vals dvs ds)(hx:Passes CX X E)
  (ha:PA X (e::es) t) (ρ:(x==("__debug__":Str))=false:=by decide) (U:starEach (e::es) X.env=9013::starEach es X.env:=by rfl) (M:(backTo pos<|starEach es X.env).any (·.1)=false:=by rfl) :
  PE X 9032 (qp sp dvs E t):=by
 intro C0 s J H Q I h;refine wpAny_Call_Name_kw (vy I Y hm ?_ ρ);refine PySem.W.callWith_K (h₀:=X.base) I.ok.mod.kin hk (thn 9109 λus s1 ⟨vs,b,a,r,q⟩=>⟨a.kIn,?_⟩) U M
 exact Bd F hr O hd hx a r q
theorem Tn(F:dt X.prog X.w X.K X.mg X.base CX k f fd ps sp)(U:cn k X.A)(O:Gl X x)(hm:X.mg x=some (.ref f))(hk:PySem.W.keepIn X.K (.ref f)=true)(M:Binds X.K fd ps ds)(hd:Vals dvs ds)(hx:Passes CX X E)
  (ρ:(x==("__debug__":Str))=false:=by decide):PE X 9118 (qp sp dvs E Bc):=by
 intro C0 s J H Q I h;refine wpAny_Call_Name_kw (vy I O hm ?_ ρ);exact PySem.W.callWith_K0 I.kIn hk (Bd (us:=[]) F U M hd hx I .nil h)
theorem Pl{pl:Sem Bool}(Y:PE X o ta)(c:Cls X.K C)(hm:Meth X.K C m f)(F:dt X.prog X.w X.K X.mg X.base CX k f fd ps sp)(hr:cn k X.A)(U:Binds X.K fd ps ds)(hd:Vals dvs ds)(hx:Passes CX X E)(ha:PA X (e::es) t)
  (M:starEach (e::es) X.env=9013::starEach es X.env:=by rfl) (ρ:(backTo pos<|starEach es X.env).any (·.1)=false:=by rfl)
  (ht:eval 9006 X.env=(do
   let O<-eval o X.env
   standAt apos.atName
   let(f,first)<-holding [O] (getMethod O m pl)
   callWith pos f first 9050 9014):=by rfl) :
  PE X 9006 (DV C m sp dvs E ta t):=by
 intro C0 s J H Q I h;refine PySem.W.methodCall_KW (pl:=pl) (thn (Y C0 s J H _ I h) λu s1 ⟨x,g,b,j,a,dx,fs,ex,ea,l,q⟩=>?_) ht
 subst ex;obtain rfl:u=Value.ref a:=j;refine qm b ea c hm l ?_;refine PySem.W.callWith_K (first:=[.ref a]) (h₀:=X.base) I.ok.mod.kin hm.kp (thn (ha pos C0 s1 J g _ b q) λus s2 ⟨vs,n,d,r,i⟩=>⟨d.kIn,?_⟩) M ρ
 exact Bd (us:=.ref a::us) (vs:=.ref a::vs) F hr U hd hx d (.cons rfl r) i
theorem To{pl:Sem Bool}(O:PE X o ta)(c:Cls X.K C)(hm:Meth X.K C m f)(F:dt X.prog X.w X.K X.mg X.base CX k f fd ps sp)(U:cn k X.A)(M:Binds X.K fd ps ds)(hd:Vals dvs ds)(hx:Passes CX X E)
  (Y:eval (.Call 9015 [] [] pos) X.env=(do
   let ρ<-eval o X.env
   standAt apos.atName
   let(f,first)<-holding [ρ] (getMethod ρ m pl)
   callWith pos f first (backTo pos<|starEach [] X.env) 9014):=by rfl) :
  PE X (.Call 9015 [] [] pos) (DV C m sp dvs E ta Bc):=by
 intro C0 s J H Q I h;refine PySem.W.methodCall_KW (pl:=pl) (thn (O C0 s J H _ I h) λu s1 ⟨x,g,b,d,a,dx,fs,ex,ea,l,q⟩=>?_) Y
 subst ex;obtain rfl:u=Value.ref a:=d;refine qm b ea c hm l ?_;exact PySem.W.callWith_K0 (first:=[.ref a]) b.kIn hm.kp (Bd (us:=[.ref a]) (vs:=[.ref a]) F U M hd hx b (.cons rfl .nil) q)
structure Mk(K:zee)(C f:Addr):Prop where
 makes:PySem.W.makesIn K C=true
 init:PySem.W.findIn K (.ref C) "__init__"=some (some<|.ref f)
 fn:PySem.W.isFn K (.ref f)=true
 kp:PySem.W.keepIn K (.ref C)=true
theorem Tp{J:St}{H:Hp}{s:Shared}{Q:VK}{us:List Value}{vs:List V}(M:Mk X.K C f)(F:dt X.prog X.w X.K X.mg X.base CX k f fd ps sp)(U:cn (k+1) X.A)(O:Binds X.K fd ps ds)(hd:Vals dvs ds)
  (hx:Passes CX X E) (I:Inv X C0 J H s) (r:Vals vs us)
  (h:∀x dx,H x=none->H dx=none->dx≠x->sp (.ref x::(vs++dvs)) (upd (upd H dx<|.own x) x<|.ins C dx []) (λv ρ=>v=.non/\Q (.ref x) ρ) E) :
  wpAny 9001 X.A (call (.ref C) us) 9033 X.xe s:=by
 have c:=h 9022 s.heap.objs.size (I.hok.fresh<|Nat.le_succ _) (I.hok.fresh<|zen _) (zeR<|Nat.lt_succ_self _);have b:=Inv.made (C:=C) I;have d:Vals (V.ref 9022::(vs++dvs)) (Value.ref 9022::(us++ds)):=.cons rfl (r.append hd);have l:(Value.ref 9022::us++ds).length=ps.length:=by
  have e:=d.length;rw[F.len _ _ _ _ c]at e;exact e.symm
 refine wpAny_call (Tf (f:=f) I.kIn M.makes M.init (beq_iff_eq.mp M.fn) (codeAny_mono (F.run _ X.stack _ _ ⟨Value.ref 9022::us,[]⟩ (Value.ref 9022::(us++ds)) _ _ E (U.make C us [])
  (b.env0.make C us []) (O _ (Value.ref 9022::us) b.kIn l) d c) λr s' a=>?_))
 cases r with
 |error e=>exact hx C0 J _ _ e s' b a
 |ok j=>
  cases j with
  |ret u=>
   obtain⟨v,H',g,q,i,n⟩:=b.after a;subst i;exact⟨q,⟨V.ref<|s.heap.objs.size+1,H',g,rfl,n⟩⟩
  |next=>exact False.elim a
  |brk=>exact False.elim a
  |cont=>exact False.elim a
theorem Tq(M:Mk X.K C f)(F:dt X.prog X.w X.K X.mg X.base CX k f fd ps sp)(Y:cn (k+1) X.A)(U:Gl X x)(hm:X.mg x=some (.ref C))(O:Binds X.K fd ps ds)(hd:Vals dvs ds)(hx:Passes CX X E)
  (ρ:(x==("__debug__":Str))=false:=by decide):PE X 9118 (Tj C sp dvs E Bc):=by
 intro C0 s J H Q I h;refine wpAny_Call_Name_kw (vy I U hm ?_ ρ);exact PySem.W.callWith_K0 I.kIn M.kp (Tp (us:=[]) M F Y O hd hx I .nil h)
end
structure ay(N P:List Str)(sc:Scope):Prop where
 kind:sc.kind=.function
 co:sc.isCoroutine=false
 gen:sc.isGenerator=false
 nd:N.Nodup
 pre:N.take P.length=P
 par:∀x∈P,sc.names.lookup x=some .local\/sc.names.lookup x=some .cell
 zax:∀y∈sc.names,y.2≠.free
theorem Ig{kindOf:Str->Option NameKind}:∀{binds:List<|Str×Value} {m:Str->Option Value},(∀v,(x,v)∉binds)->bindL kindOf binds m x=m x
 | [],_,_=>rfl
 |(n,v)::r,m,h=>by
  unfold bindL;rw[Ig λw hw=>h w<|zei _ hw]
  split
  .have:x≠n:=by rintro rfl;exact h v zeq
   simp[this]
  .rfl
theorem Ih{kindOf:Str->Option NameKind}:∀{binds:List<|Str×Value} {m:Str->Option Value},(∀v,(x,v)∉binds)->bindC kindOf binds m x=m x
 | [],_,_=>rfl
 |(n,v)::r,m,h=>by
  unfold bindC;rw[Ih λw hw=>h w<|zei _ hw]
  split
  .rfl
  .have:x≠n:=by rintro rfl;exact h v zeq
   simp[this]
theorem Ii{kindOf:Str->Option NameKind}{x:Str}{v:Value}:∀{P:List Str} {vs:List Value} {i:Nat} {m:Str->Option Value},P.Nodup->P[i]?=some x->vs[i]?=some v->kindOf x=some .local->
  bindL kindOf (P.zip vs) m x=some v
 | [],_,_,_,_,h,_,_=>by simp at h
 |_::_,[],_,_,_,_,h,_=>by simp at h
 |p::P,w::vs,0,m,nd,h1,h2,hk=>by
  simp at h1 h2;subst h1;subst h2
  show bindL kindOf ((p,w)::P.zip vs) m p=_;unfold bindL;rw[Ig λv hv=>(List.nodup_cons.mp nd).1 (List.of_mem_zip hv).1,if_pos hk]
  simp
 |p::P,w::vs,i+1,m,nd,h1,h2,hk=>by
  show bindL kindOf ((p,w)::P.zip vs) m x=_;unfold bindL;exact Ii (i:=i) (List.nodup_cons.mp nd).2 (by simpa using h1) (by simpa using h2) hk
theorem Ij{kindOf:Str->Option NameKind}{x:Str}{v:Value}:∀{P:List Str} {vs:List Value} {i:Nat} {m:Str->Option Value},P.Nodup->P[i]?=some x->vs[i]?=some v->kindOf x≠some .local->
  bindC kindOf (P.zip vs) m x=some v
 | [],_,_,_,_,h,_,_=>by simp at h
 |_::_,[],_,_,_,_,h,_=>by simp at h
 |p::P,w::vs,0,m,nd,h1,h2,hk=>by
  simp at h1 h2;subst h1;subst h2
  show bindC kindOf ((p,w)::P.zip vs) m p=_;unfold bindC;rw[Ih λv hv=>(List.nodup_cons.mp nd).1 (List.of_mem_zip hv).1,if_neg hk]
  simp
 |p::P,w::vs,i+1,m,nd,h1,h2,hk=>by
  show bindC kindOf ((p,w)::P.zip vs) m x=_;unfold bindC;exact Ij (i:=i) (List.nodup_cons.mp nd).2 (by simpa using h1) (by simpa using h2) hk
def start(N:List Str)(vs:List V):St:=vs.map some++List.replicate (N.length-vs.length) none
def Be(CX:CXT)(P:Program)(w:World)(K:zee)(mg:Str->Option Value)(base:Heap)(N:List Str)(K1:Str)(K0:Scope)(f:Addr)(cd:Value)(A:Around)(outer:List Env)(s:Shared)(H:Hp)(E:XK):Cx where
 prog:=P
 w:=w
 K:=K
 mg:=mg
 base:=base
 A:=A.deeper (envOfC K1 K0 s.heap.objs.size f cd)
 N:=N
 s₀:=s
 H₀:=H
 env:=envOfC K1 K0 s.heap.objs.size f cd
 outer:=outer
 stack:=envOfC K1 K0 s.heap.objs.size f cd::outer
 ex:=[]
 calm:=true
 fn:=λ_=>true
 pn:=[]
 xe:=λe s'=>wpAny (model P w) (A.deeper<|envOfC K1 K0 s.heap.objs.size f cd) (leaving (envOfC K1 K0 s.heap.objs.size f cd) e) (λ_ s''=>CX outer H s E e s'') (λe' s''=>CX outer H s E e' s'') s'
theorem Lf{sc:Scope}{x:Str}(h:sc.names.lookup x=some .cell):∃c,(cellsFrom n sc.names []).lookup x=some c:=by
 have q:=PySem.W.cellsFrom_some sc.names n [] (.inl h);exact Option.isSome_iff_exists.mp q
theorem Q4{w:World}{K:zee}{mg:Str->Option Value}{base:Heap}{N ps:List Str}{K1:Str}{K0:Scope}{f:Addr}{ρ:Value}{A:Around}{outer:List Env}{s s1:Shared}{H:Hp}{E:XK}{us:List Value}{vs:List V}
  (S:ay N ps K0) (hd:A.handled=none) (I:NI P w K mg base A outer s H) (M:vs.length=ps.length) (r:Vals vs us)
  (x:InCallC s s.heap.objs.size (bindL (envOfC K1 K0 s.heap.objs.size f ρ).kindOf (ps.zip us) λ_=>none) (cellsFrom 9022 K0.names []) (bindC (envOfC K1 K0 s.heap.objs.size f ρ).kindOf (ps.zip us) λ_=>none) s1) :
  Inv (Be CX P w K mg base N K1 K0 f ρ A outer s H E) [] (start N vs) H s1:=by
 have l:ps.length<=N.length:=by have:=congrArg List.length S.pre;rw[List.length_take]at this;lia
 obtain⟨h1,tk,rfl,hk⟩:=x.done;have d:∀b:Addr,b∉(Be CX P w K mg base N K1 K0 f ρ A outer s H E).ex:=λb z=>absurd (show b∈([]:List Addr)from z) (by simp)
 refine⟨⟨I.mod,S.kind,rfl,rfl,zen _,λy z c h1 h2=>?_,λy hy=>?_,λy c _ h=>?_,λ_=>hd,Around.frames_deeper I.frames,.inr ⟨rfl,rfl⟩,λb z=>absurd z<|d b,I.bs,I.bsz,λb _ _=>d b,λb z=>absurd z<|d b,I.BH,I.frf,I.tab⟩,
  rfl,I.bare,Un.kept hk,⟨_,x.toInCall.ns,λi y v h1 h2 h3=>?_⟩,λy c h=>⟨_,x.cell y c h⟩,I.hok.fresh<|zen _,λy c h=>?_,λp g=>absurd (show p∈9088 from g) (by simp),I.hok.kept hk,?_⟩
 .exact name_of_addr x.apart (ze4 h1) (ze4 h2)
 .have hy:K0.names.lookup y=some .cell\/K0.names.lookup y=some .free:=hy
  rcases hy with hy|hy
  .exact Lf hy
  .exact absurd rfl (S.zax _<|ze4 hy)
 .exact Nat.le_of_lt (x.above y c<|ze4 h)
 .have hi:i<vs.length:=by
   unfold start at h2
   by_cases hi:i<vs.length
   .exact hi
   .rw[zeM (by simpa using hi)]at h2
    rw[List.getElem?_replicate]at h2;split at h2<;>cases h2
  have ha:vs[i]?=some v:=by
   unfold start at h2;rw[zew (by simpa using hi),zem]at h2
   cases e:vs[i]? with
   |none=>rw[e]at h2;cases h2
   |some a=>rw[e]at h2;cases h2;rfl
  obtain⟨u,hu,m⟩:=r.get ha;have g:ps[i]?=some y:=by
   rw[<-S.pre,List.getElem?_take_of_lt (by lia)];exact h1
  have j:ps.Nodup:=by rw[<-S.pre];exact S.nd.sublist (List.take_sublist _ _)
  refine⟨u,m,?_⟩;rcases S.par y (zeh g)with k|k
  .exact .inl ⟨k,Ii j g hu k⟩
  .obtain⟨c,e⟩:=Lf (n:=s.heap.objs.size+1) k
   refine .inr ⟨.inl k,c,e,?_⟩;have q:=x.cell y c e;rw[Ij j g hu (by show K0.names.lookup y≠_;rw[k];decide)]at q
   exact q
 .exact I.hok.fresh (Nat.le_of_lt<|x.above y c<|ze4 h)
 .unfold start
  show _=N.length;rw[zes,zej,List.length_replicate]
  lia
theorem ef{w:World}{K:zee}{mg:Str->Option Value}{base:Heap}{k:Nat}{f:Addr}{name K1:Str}{ρ:Arguments}{M:List Stmt}{K0:Scope}{dV kV doc pm cdv ct oc:Value}{an od:Option Addr}
  {osl:Array<|Option Value} {N ps:List Str} {sp:Sp} (lk:K.lookup f=some ⟨oc,od,.func<|PySem.W.fnOf name K1 ρ M K0 dV kV doc pm an cdv ct,osl⟩) (U:PySem.W.codeIn K cdv K1=true) (S:ay N ps K0)
  (len:∀vs H Q E,sp vs H Q E->vs.length=ps.length)
  (O:∀(A:Around) (outer:List Env) (s:Shared) (H:Hp) (vs:List V) (Q:VK) (E:XK),cn k (A.deeper<|envOfC K1 K0 s.heap.objs.size f cdv)->sp vs H Q E->
   ∃t,PSs 9091 M t/\t {nx:=λ_ H'=>Q .non H',rt:=Q} (start N vs) H) :
  dt P w K mg base CX (k+1) f (PySem.W.fnOf name K1 ρ M K0 dV kV doc pm an cdv ct) ps sp:=by
 refine⟨len,λA outer s H args us vs Q E l h D r j=>?_⟩
 have G:=len _ _ _ _ j;have B:K.In s.heap:=h.mod.kin.keeps λb o e=>(h.bs b o e).1
 have m:s.heap.NoLimit:=h.mod.nolimit.keeps λb o e=>(h.bs b o e).1
 have d:∀y∈ps.zip us,K0.names.lookup y.1=some .local\/(K0.names.lookup y.1=some .cell/\((cellsFrom 9022 K0.names []).lookup y.1).isSome=true):=λ⟨n,v⟩ hy=>by
  rcases S.par n (List.of_mem_zip hy).1 with q|q
  .exact .inl q
  .exact .inr ⟨q,PySem.W.cellsFrom_some _ _ _<|.inl q⟩
 refine codeAny_call_function l.depth (B _ _ lk) rfl S.co S.gen rfl (PySem.W.codeRec_of B U) (D _ _ _ _ ?_)
 refine wpAny_newFunctionEnv_cells S.kind d λenv F s1 x=>?_
 subst F;refine⟨m.keeps x.toInCall.keep,codeAny_func ?_⟩
 obtain⟨t,T,R⟩:=O A outer s H vs Q E (l.deeper _) j;have I:Inv 9091 [] (start N vs) H s1:=Q4 S l.hd h G r x;refine ze5 (T [] s1 (start N vs) H _ I R) (λC s' g=>?_) λe s' g=>g
 have i:∀{a:St} {H':Hp} {v:V} {u:Value},Inv 9091 [] a H' s'->RelV v u->Q v H'->CE outer P w H s Q u s' :=
  fun{a H' v u} σ p q=>⟨v,H',σ.os,σ.bare,σ.base,σ.hok,p,q⟩
 cases C with
 |ret u=>
  obtain⟨v,a,H',σ,p,q⟩:=g;exact i σ p q
 |next=>
  obtain⟨a,H',σ,q⟩:=g;exact i (v:=V.non) (u:=Value.none) σ rfl q
 |brk=>
  obtain⟨_,_,_,q⟩:=g;exact False.elim q
 |cont=>
  obtain⟨_,_,_,q⟩:=g;exact False.elim q
section
variable{X:Cx}{x:Str}{p pos:Pos}{e:Expr}{es:List Expr}{t:TA}{id T:String}{r:List V->Hp->VK->Prop}
def tCB(r:List V->Hp->VK->Prop)(t:TA):TE:=λJ H Q=>t J H λvs h=>r vs h Q
theorem fu(O:j4 X (.builtin id) r)(Y:Gl X x)(hm:X.mg x=none)(hv:bootBuiltins x=some (.builtin id))(ha:PA X (e::es) t)(hn:x≠"__name__":=by decide)(ρ:(x==("__debug__":Str))=false:=by decide)
  (U:starEach (e::es) X.env=9013::starEach es X.env:=by rfl) (M:(backTo pos<|starEach es X.env).any (·.1)=false:=by rfl):PE X 9032 (tCB r t):=by
 intro C0 s J H Q I h;refine wpAny_Call_Name_kw (A9 I Y hm hv ?_ hn ρ);exact PyProof.Rows.callWith_builtin1 (thn 9109 λus s1 ⟨vs,a,b,d,c⟩=>O C0 s1 J a vs us Q b d c) U M
theorem qi(O:j4 X (.type T) r)(Y:Gl X x)(hm:X.mg x=none)(hv:bootBuiltins x=some (.type T))(ha:PA X (e::es) t)(hn:x≠"__name__":=by decide)(ρ:(x==("__debug__":Str))=false:=by decide)
  (U:starEach (e::es) X.env=9013::starEach es X.env:=by rfl) (M:(backTo pos<|starEach es X.env).any (·.1)=false:=by rfl):PE X 9032 (tCB r t):=by
 intro C0 s J H Q I h;refine wpAny_Call_Name_kw (A9 I Y hm hv ?_ hn ρ);exact PyProof.Rows.callWith_type1 (thn 9109 λus s1 ⟨vs,a,b,d,c⟩=>O C0 s1 J a vs us Q b d c) U M
end
end L2
namespace HT
open PyProof.Rows
section
open PySem.SeqAt
open PySem.AutoSeq1 (wpAny_loadPart')
open PySem.MeetsSeq PySem.MeetsSeq2 PySem.MeetsSeq3
end
section
variable{prog:Program}{w:World}{A:Around}{E:Value->Shared->Prop}{s:Shared}
theorem WN(O:IsTup s.heap t vs.toArray)(M:IsTup s.heap b I.toArray)(hv:vs≠[])
  (h1:I=[]->Q (.ref t) s) (h2:I≠[]->Q (.ref s.heap.objs.size) {s with heap:=s.heap.push {cls:=.type "tuple",data:=.seq (vs++I).toArray}})
  (ρ:vs.length+I.length<=sizeLine):wpAny 9017 A (binaryOp .Add (.ref t)<|.ref b) Q E s:=by
 obtain⟨⟨cls,j,data,sl⟩,h,k,n,hd⟩:=id O;obtain⟨⟨i,c,data2,g⟩,a,d,n2,f⟩:=id M;simp only at k hd d f;subst k hd d f;have e:vs.toArray++I.toArray=(vs++I).toArray:=by simp
 by_cases hw:I=[]
 .exact concat_meets ⟨_,h,rfl⟩ ⟨_,a,rfl⟩ noFill_tuple_add seq_tuple_add PySem.F.slot_tuple_add PySem.F.entry_tuple_add (PySem.F.args_tuple_add_2 _ _)
   (tuple_addW1 t b vs.toArray I.toArray n n2 j c sl g (by simpa using hv) (by simp[hw])) ⟨h,a,h1 hw⟩
 .refine concat_meets ⟨_,h,rfl⟩ ⟨_,a,rfl⟩ noFill_tuple_add seq_tuple_add PySem.F.slot_tuple_add PySem.F.entry_tuple_add (PySem.F.args_tuple_add_2 _ _)
   (tuple_addW2 t b vs.toArray I.toArray n n2 j c sl g (by simpa using hv) (by simpa using hw) (by rw[zeJ,zeJ];exact ρ)) ⟨h,a,?_⟩
  rw[e];exact h2 hw
def sIx(n d:Nat):Option Int->Nat
 |none=>d
 |some v=>if v<0 then(v+(n:Int)).toNat else min v.toNat n
def Fz(n d:Nat):sIx n d none=d:=rfl
theorem E7(n d k:Nat):sIx n d (some (k:Int))=min k n:=by
 show(if(k:Int)<0 then((k:Int)+(n:Int)).toNat else min (k:Int).toNat n)=min k n
 rw[if_neg (by lia),Int.toNat_natCast]
end
end HT
namespace L2
open PySem.Spec PyProof.Rows
abbrev TO:=St->Hp->(Option Int->Hp->Prop)->Prop
def PO(X:Cx)(e:Option Expr)(t:TO):Prop :=
 ∀(C0:List<|Addr×Obj) (s:Shared) (J:St) (H:Hp) (Q:Option Int->Hp->Prop),Inv X C0 J H s->t J H Q->
  wpAny 9001 X.A (evalPart e X.env) (λu s'=>∃o H',Inv X C0 J H' s'/\IsPart u o/\Q o H') X.xe s
def Pm:TO:=λ_ H Q=>Q none H
def Zm(t:TE):TO:=λJ H Q=>t J H λx h=>∃i,x=.int i/\Q (some i) h
theorem intsAre_of:∀{us:List Value},Vals (ns.map V.int) us->IntsAre us ns:=by
 induction ns with
 |nil=>intro us r;rw[List.map_nil]at r;cases r;exact .nil
 |cons n ns a=>
  intro us r;rw[zey]at r;cases r with
  |cons b c=>
   obtain⟨t,e⟩:=b;subst e;exact .cons n t (a c)
section
variable{X:Cx}{e:Expr}{te:TE}{lo hi:Option Expr}{tl th:TO}{pos p2:Pos}
theorem BK:PO X none Pm:=by
 intro C0 s J H Q I h;rw[evalPart_none];exact zeY ⟨none,H,I,.none,h⟩
theorem BL(h:PE X e te):PO X (some e) (Zm te):=by
 intro C0 s J H Q I hw;rw[evalPart_some];refine thn (h C0 s J H _ I hw) λu s1 ⟨x,a,b,d,c⟩=>?_
 obtain⟨i,rfl,q⟩:=c;obtain⟨t,rfl⟩:=d;exact⟨some i,a,b,.int i t,q⟩
def SlR(X:Cx)(r:V->Option Int->Option Int->Hp->VK->Prop):Prop :=
 ∀(C0:List<|Addr×Obj) (s:Shared) (J:St) (H:Hp) (x:V) (v h D:Value) (lo hi:Option Int) (sl:Addr) (Q:VK),Inv X C0 J H s->RelV x v->s.heap.IsSliceOf sl h D .none->IsPart h lo->IsPart D hi->r x lo hi H Q->
  ∃T id,typeLookup (.type T) "__getitem__"=pure (some<|.builtin id)/\s.TypeIs v T/\wpAny 9001 X.A (getItem v<|.ref sl) 9033 X.xe s
def tSl(r:V->Option Int->Option Int->Hp->VK->Prop)(te:TE)(tl th:TO):TE:=λJ H Q=>te J H λx h=>tl J h λl D=>th J D λu E=>r x l u E Q
theorem uX(O:SlR X r)(ρ:PE X e te)(M:PO X lo tl)(hu:PO X hi th):PE X (.Subscript e (.Slice lo hi none p2) pos) (tSl r te tl th):=by
 intro C0 s J H Q I h;refine Subscript_ (thn 9075 λv s1 ⟨x,g,j,E,B⟩=>?_)
 refine wpAny_Slice (thn (M C0 s1 J g _ j B) λc s2 ⟨l,i,k,pl,C⟩=>thn (hu C0 s2 J i _ k C) λd a ⟨u,f,m,y,D⟩=>?_)
 rw[evalPart_none];refine zeY ?_;have n:Inv X C0 J f {a with heap:=a.heap.push {cls:=.type "slice",data:=.fields #[c,d,.none]}}:=m.kept (t':=a.toks) λb ob q=>zep _ q
 obtain⟨T,id,o,t,p⟩:=O C0 {a with heap:=a.heap.push {cls:=.type "slice",data:=.fields #[c,d,.none]}} J f x v c d l u a.heap.objs.size Q n E (Heap.IsSliceOf.new ..) pl y D
 show wpAny 9001 X.A (subscriptTail e (.Slice lo hi none p2) v<|.ref a.heap.objs.size) 9033 X.xe {a with heap:=a.heap.push {cls:=.type "slice",data:=.fields #[c,d,.none]}}
 exact tail_any (ops:=[.ref a.heap.objs.size,v]) t o p (by with_unfolding_all rfl)
def Q5(xs:List V)(lo hi:Option Int):List V:=(xs.drop<|HT.sIx xs.length 0 lo).take (HT.sIx xs.length xs.length hi-HT.sIx xs.length 0 lo)
theorem Lg(xs:List V)(lo hi:Option Int):(Q5 xs lo hi).length<=xs.length:=by
 unfold Q5;rw[List.length_take,List.length_drop]
 lia
def Zn(K:zee):R2:=λx y H Q=>∃a b xs h,x=.ref a/\y=.ref b/\SqT K H a xs/\SqT K H b h/\xs≠[]/\xs.length+h.length<=sizeLine/\
 (h=[]->Q (.ref a) H)/\(h≠[]->∀p,H p=none->Q (.ref p) (upd H p<|.tup<|xs++h))
theorem Vals.Jm(r:Vals xs us):us=[]↔xs=[]:=by
 cases r with
 |nil=>simp
 |cons _ _=>simp
theorem WO:OpR X (binaryOp .Add) (Zn X.K):=by
 intro C0 s J H x y v u Q I k l h;obtain⟨a,b,xs,m,rfl,rfl,ha,g,hx,hz,i,j⟩:=h;cases k;cases l;obtain⟨n,d,p1,_⟩:=I.tuple ha;obtain⟨f,c,p2,_⟩:=I.tuple g;refine HT.WN p1 p2 (λz=>hx<|d.Jm.mp z) (λz=>⟨.ref a,H,I,rfl,i<|c.Jm.mp z⟩) (λz=>?_) (by rw[<-d.length,<-c.length];exact hz)
 refine⟨.ref s.heap.objs.size,_,I.laid (t':=s.toks) (o:=.tup<|xs++m) (λb ob q=>zep _ q) (zen _) ?_,rfl,j (λw=>z<|c.Jm.mpr w) _<|I.hok.fresh<|zen _⟩
 exact⟨by rw[zes];exact hz,_,d.append c,IsTup.new _ _,_,zeK _ rfl,rfl⟩
end
def ixN(n:Nat)(i:Int):Option Nat:=if 0<=i then(if i<n then some i.toNat else none)else if-(n:Int)<=i then some (i+n).toNat else none
def atI{α:Type}(xs:List α)(i:Int):Option α:=(ixN xs.length i).bind λj=>xs[j]?
theorem Pn(h:ixN n i=some j):seqIndex? i n=some j/\j<n/\-(n:Int)<=i/\i<n:=by
 unfold ixN at h
 by_cases h0 : 0<=i
 .rw[if_pos h0]at h
  by_cases h1:i<n
  .rw[if_pos h1]at h
   have e:i.toNat=j:=zeP h;exact⟨by rw[seqIndex_of h0 h1,e],by lia,by lia,h1⟩
  .rw[if_neg h1]at h;cases h
 .rw[if_neg h0]at h
  by_cases h1 : -(n:Int)<=i
  .rw[if_pos h1]at h
   have e:(i+n).toNat=j:=zeP h;exact⟨by rw[seqIndex_neg (by lia) h1,e],by lia,h1,by lia⟩
  .rw[if_neg h1]at h;cases h
theorem Jn(h:atI xs i=some v):∃j,seqIndex? i xs.length=some j/\xs[j]?=some v/\j<xs.length/\-(xs.length:Int)<=i/\i<xs.length:=by
 unfold atI at h;cases e:ixN xs.length i with
 |none=>rw[e]at h;cases h
 |some j=>
  rw[e]at h;obtain⟨h1,h2,h3,h4⟩:=Pn e;exact⟨j,h1,h,h2,h3,h4⟩
theorem pq{j:Nat}{v : α}(h:xs[j]?=some v):atI xs (j:Int)=some v:=by
 have a:j<xs.length:=(zea h).1;have e:ixN xs.length (j:Int)=some j:=by
  unfold ixN;rw[if_pos (by lia),if_pos (by lia)];simp
 unfold atI;rw[e];exact h
theorem FA(xs:List α)(v : α):atI (xs++[v]) (-1)=some v:=by
 have a:(xs++[v]).length=xs.length+1:=by simp
 have e:ixN (xs++[v]).length (-1)=some xs.length:=by
  unfold ixN;rw[a,if_neg (by decide),if_pos (by lia)]
  congr 1
  lia
 unfold atI;rw[e];show(xs++[v])[xs.length]?=some v;simp
def WQ(b:Expr):Prop:=∀o i,subscripted b false o i=operate [o,i] (getItem o i)
def IxR(X:Cx)(r:R2):Prop :=
 ∀(D h:Expr) (C0:List<|Addr×Obj) (s:Shared) (J:St) (H:Hp) (x y:V) (v u:Value) (Q:VK),Inv X C0 J H s->RelV x v->RelV y u->r x y H Q->
  subscripted h false v u=operate [v,u] (getItem v u)->wpAny 9001 X.A (subscriptTail D h v u) 9033 X.xe s
def MtR(X:Cx)(id:String)(r:V->List V->Hp->VK->Prop):Prop :=
 ∀(C0:List<|Addr×Obj) (s:Shared) (J:St) (H:Hp) (x:V) (xs:List V) (v:Value) (us:List Value) (Q:VK),Inv X C0 J H s->RelV x v->Vals xs us->r x xs H Q->
  wpAny 9001 X.A (call (.builtin id) (v::us)) 9033 X.xe s
section
variable{X:Cx}{a b:Expr}{ta tb:TE}{pos:Pos}
theorem IxR.or(h:IxR X r)(h':IxR X ρ):IxR X (λx y H Q=>r x y H Q\/ρ x y H Q):=by
 intro d c C0 s J H x y v u Q I f g q e;rcases q with q|q
 .exact h d c C0 s J H x y v u Q I f g q e
 .exact h' d c C0 s J H x y v u Q I f g q e
theorem Po(M:IxR X r)(ha:PE X a ta)(ρ:PE X b tb)(O:WQ b):PE X (.Subscript a b pos) (tOp r ta tb):=by
 intro C0 s J H Q I h;exact Subscript_ (zam ha ρ I h λv u s2 x y c d e f q=>M a b C0 s2 J c x y v u Q d e f q<|O _ _)
def zcp(K:zee):R2:=λx y H Q=>∃p xs i v,x=.ref p/\y=.int i/\SqL K H p xs/\atI xs i=some v/\Q v H
def zcq(K:zee):R2:=λx y H Q=>∃p xs i v,x=.ref p/\y=.int i/\SqT K H p xs/\atI xs i=some v/\Q v H
def zcr:R2:=λx y H Q=>∃z i c,x=.str z/\y=.int i/\z.length<=sizeLine/\atI z.cps.toList i=some c/\Q (.str ⟨#[c]⟩) H
theorem WR:IxR X (zcp X.K):=by
 intro g f C0 s J H x y v u Q I C D h l;obtain⟨p,xs,i,z,rfl,rfl,B,o,q⟩:=h;cases C;obtain⟨t,rfl⟩:=D;obtain⟨m,r,pl,hz⟩:=I.list B;obtain⟨j,h1,h2,h3,h4,n⟩:=Jn o;obtain⟨w,k,e⟩:=r.get h2;have A:=r.length;have hn:=Bb;have c:EP X C0 J Q w s:=⟨z,H,I,e,q⟩
 by_cases h0 : 0<=i
 .have d:i.toNat=j:=by
   rw[seqIndex_of h0 n]at h1;exact zeP h1
  exact item_listR pl.isList h0 (by lia) (by rw[d];simpa using k) c l
 .have d:(i+(m.toArray.size:Int)).toNat=j:=by
   rw[seqIndex_neg (by lia) h4]at h1
   rw[zeJ,<-A];exact zeP h1
  exact subscriptTail_builtinR (x:=w) pl.isList.typeIs slot_list_getitem.lookup
   (wpAny_getItem_list_neg (Q:=λr s'=>r=w/\EP X C0 J Q r s') pl.isList (by lia) (by rw[zeJ]<;>lia) (by lia) (by rw[d];simpa using k) ⟨rfl,c⟩) l
theorem zay:IxR X (zcq X.K):=by
 intro f e C0 s J H x y v u Q I o A h n;obtain⟨p,xs,i,z,rfl,rfl,m,k,q⟩:=h;cases o;obtain⟨t,rfl⟩:=A;obtain⟨B,r,pl,hz⟩:=I.tuple m;obtain⟨j,h1,h2,h3,h4,C⟩:=Jn k;obtain⟨w,g,d⟩:=r.get h2;have l:=r.length;have hn:=Bb;have c:EP X C0 J Q w s:=⟨z,H,I,d,q⟩;exact subscriptTail_builtinR (x:=w) pl.typeIs slot_tuple_getitem.lookup
  (getItem_tuple (j:=j) (Q:=λr s'=>r=w/\EP X C0 J Q r s') pl (by lia) (by lia) (by rw[zeJ,<-l];exact h1) (by simpa using g) ⟨rfl,c⟩) n
theorem zaz:IxR X zcr:=by
 intro e d C0 s J H x y v u Q I o p h n;obtain⟨z,i,c,rfl,rfl,hz,l,q⟩:=h;obtain⟨t,rfl⟩:=o;obtain⟨r,rfl⟩:=p;obtain⟨j,h1,h2,h3,h4,k⟩:=Jn l;have m:z.cps.toList.length=z.length:=by simp[Str.length]
 rw[m]at h1 h4 k;have hn:=Bb;exact tail_any (typeIs_str s z t) slot_str_getitem.lookup (getItem_str (c:=c) (by
  have f:decide (i< -(2^63:Int))=false:=zeN (by lia)
  have g:decide (i>=2^63)=false:=zeN (by lia)
  rw[f,g,Bool.or_false]) (by rw[h1];simpa using h2) ⟨.str ⟨#[c]⟩,H,I.tok _,⟨_,rfl⟩,q⟩) n
def rIx(K:zee):R2:=λx y H Q=>zcp K x y H Q\/zcq K x y H Q\/zcr x y H Q
def zaA:IxR X (rIx X.K):=WR.or (zay.or zaz)
theorem NJ(I:List Value)(n j:Nat)(u:Value):Obj.mapSeq (·.setIfInBounds j u) {cls:=.type "list",data:=.seq I.toArray n}={cls:=.type "list",data:=.seq (I.set j u).toArray n}:=by
 simp[Obj.mapSeq]
theorem Inv.lst{J:St}{H:Hp}{s:Shared}{p:Addr}{xs:List V}(I:Inv X C0 J H s)(h:H p=some (.lst xs)) :
  ∃(ρ:List Value) (n:Nat),Vals xs ρ/\s.heap.get? p=some {cls:=.type "list",data:=.seq ρ.toArray n}/\xs.length<=sizeLine:=by
 obtain⟨z,ρ,n,r,e⟩:=I.hok p _ h;exact⟨ρ,n,r,e,z⟩
theorem Inv.zaB{J:St}{H:Hp}{s:Shared}{p:Addr}{xs O:List V}{U ρ:List Value}{n M:Nat}{f:Obj->Obj}(I:Inv X C0 J H s)(h:H p=some (.lst xs))
  (ho:s.heap.get? p=some {cls:=.type "list",data:=.seq U.toArray n}) (Y:f {cls:=.type "list",data:=.seq U.toArray n}={cls:=.type "list",data:=.seq ρ.toArray M}) (r:Vals O ρ) (hz:O.length<=sizeLine) (t:Nat) :
  Inv X C0 J (upd H p<|.lst O) {s with heap:=s.heap.update p f,toks:=t}:=by
 have e:(s.heap.update p f).get? p=some {cls:=.type "list",data:=.seq ρ.toArray M}:=by
  rw[Heap.get?_update_self f ho (by rw[Y]<;>rfl),Y]
 refine I.write (x:=p) (e:=p) (by rw[h];trivial) (.inl rfl) (λb u c q=>(Heap.get?_update_other _ _<|Ne.symm c).trans q) ⟨_,e⟩ ?_
 exact⟨hz,ρ,M,r,e⟩
def Ik:V->V->V->Hp->(Hp->Prop)->Prop:=λo i v H Q=>∃p xs k j,o=.ref p/\i=.int k/\H p=some (.lst xs)/\ixN xs.length k=some j/\Q (upd H p<|.lst<|xs.set j v)
theorem set_list:zag X Ik:=by
 intro C0 s J H o i v y x u Q I ro m w h;obtain⟨p,xs,k,j,rfl,rfl,g,l,q⟩:=h;cases ro;obtain⟨t,rfl⟩:=m;obtain⟨f,n,r,d,hz⟩:=I.lst g;obtain⟨h1,h2,h3,h4⟩:=Pn l;have c:=r.length;have hn:=Bb;have e:Inv X C0 J (upd H p<|.lst<|xs.set j v) {s with heap:=s.heap.update p (Obj.mapSeq (·.setIfInBounds j u))} :=
  I.zaB g d (NJ f n j u) (r.set w j) (by rw[zeL];exact hz) s.toks
 by_cases h0 : 0<=k
 .have hk:k.toNat=j:=by
   rw[seqIndex_of h0 h4]at h1;exact zeP h1
  exact PySem.W.ki_setAt d h0 (by lia) (by rw[zeJ,<-c];exact h4) (by rw[hk];exact⟨_,e,q⟩)
 .have hk:(k+(f.toArray.size:Int)).toNat=j:=by
   rw[seqIndex_neg (by lia) h3]at h1
   rw[zeJ,<-c];exact zeP h1
  exact PySem.W.ki_setBack d (by lia) (by rw[zeJ,<-c];exact h3) (by lia) (by rw[hk];exact⟨_,e,q⟩)
theorem Jo(lo hi:Option Int)(n:Nat):(sliceBounds lo hi none n).1=((HT.sIx n 0 lo:Nat):Int)/\(sliceBounds lo hi none n).2.1=((HT.sIx n n hi:Nat):Int)/\(sliceBounds lo hi none n).2.2=1:=by
 refine⟨?_,?_,rfl⟩
 .cases lo with
  |none=>simp[sliceBounds,HT.sIx]
  |some i=>
   simp only[sliceBounds,HT.sIx,Option.getD_none,show(1:Int)>0 by decide,if_true]
   by_cases h:i<0
   .simp only[h,if_true]<;>lia
   .simp only[h,if_false]<;>lia
 .cases hi with
  |none=>simp[sliceBounds,HT.sIx]
  |some i=>
   simp only[sliceBounds,HT.sIx,Option.getD_none,show(1:Int)>0 by decide,if_true]
   by_cases h:i<0
   .simp only[h,if_true]<;>lia
   .simp only[h,if_false]<;>lia
theorem Ho(I:List Value)(lo hi:Option Int):slicePick I.toArray lo hi none=((I.drop<|HT.sIx I.length 0 lo).take<|HT.sIx I.length I.length hi-HT.sIx I.length 0 lo).toArray:=by
 obtain⟨h1,h2,h3⟩:=Jo lo hi I.toArray.size;unfold slicePick;rw[h1,h2,h3];simp only[sliceRange_one,pick_run,List.size_toArray]<;>rfl
def zaC(K:zee):V->Option Int->Option Int->Hp->VK->Prop:=λx lo hi H Q=>∃a xs,x=.ref a/\SqL K H a xs/\∀p,H p=none->Q (.ref p) (upd H p<|.lst<|Q5 xs lo hi)
theorem WS:SlR X (zaC X.K):=by
 intro C0 s J H x v j k lo hi sl Q I g e pl f h;obtain⟨a,xs,rfl,hx,q⟩:=h;cases g;obtain⟨i,r,d,hz⟩:=I.list hx;have c:=r.length;refine⟨"list",_,slot_list_getitem.lookup,d.isList.typeIs,?_⟩;refine wpAny_getItem_list_slice d.isList e pl f .none (by simp) ?_ (by rw[zeJ]<;>lia)
 rw[Ho,<-c];refine⟨.ref s.heap.objs.size,_,I.laid (t':=s.toks) (o:=.lst<|Q5 xs lo hi) (λb ob q=>zep _ q) (zen _) ?_,rfl,q _<|I.hok.fresh<|zen _⟩
 exact⟨zeW (Lg xs lo hi) hz,_,0,(r.drop<|HT.sIx xs.length 0 lo).take<|HT.sIx xs.length xs.length hi-HT.sIx xs.length 0 lo,zeK _ rfl⟩
def rZ:V->Bool
 | .non=>true
 | .bl _=>true
 | .int _=>true
 | .str _=>true
 |_=>false
def eqV:V->V->Bool
 | .non,.non=>true
 | .bl a,.bl b=>a==b
 | .bl a,.int b=>(if a then 1 else 0)==b
 | .int a,.bl b=>a==(if b then 1 else 0)
 | .int a,.int b=>a==b
 | .str a,.str b=>a==b
 |_,_=>false
theorem zaD(ρ:RelV y u)(I:RelV x v)(M:rZ y=true)(fx:rZ x=true):SeqAt.EqAt A s u v (eqV y x):=by
 cases y with
 |non=>
  cases ρ;cases x with
  |non=>cases I;exact SeqAt.EqAt.same _
  |bl b=>cases I;exact SeqAt.EqAt.none_bool b
  |int b=>obtain⟨t,rfl⟩:=I;exact SeqAt.EqAt.none_int b t
  |str b=>obtain⟨t,rfl⟩:=I;exact SeqAt.EqAt.none_str b t
  |_=>exact absurd (show false=true from fx) zek
 |bl a=>
  cases ρ;cases x with
  |non=>cases I;exact SeqAt.EqAt.bool_none a
  |bl b=>cases I;exact SeqAt.EqAt.bool_bool a b
  |int b=>obtain⟨t,rfl⟩:=I;exact SeqAt.EqAt.bool_int a b t
  |str b=>obtain⟨t,rfl⟩:=I;exact SeqAt.EqAt.bool_str a b t
  |_=>exact absurd (show false=true from fx) zek
 |int a=>
  obtain⟨c,rfl⟩:=ρ;cases x with
  |non=>cases I;exact SeqAt.EqAt.int_none a c
  |bl b=>cases I;exact SeqAt.EqAt.int_bool a c b
  |int b=>obtain⟨t,rfl⟩:=I;exact SeqAt.EqAt.int_int a c b t
  |str b=>obtain⟨t,rfl⟩:=I;exact SeqAt.EqAt.int_str a c b t
  |_=>exact absurd (show false=true from fx) zek
 |str a=>
  obtain⟨c,rfl⟩:=ρ;cases x with
  |non=>cases I;exact SeqAt.EqAt.str_none a c
  |bl b=>cases I;exact SeqAt.EqAt.str_bool a c b
  |int b=>obtain⟨t,rfl⟩:=I;exact SeqAt.EqAt.str_int a c b t
  |str b=>obtain⟨t,rfl⟩:=I;exact SeqAt.EqAt.str_str a c b t
  |_=>exact absurd (show false=true from fx) zek
 |_=>exact absurd (show false=true from M) zek
def eqU(x:V)(u:Value):Bool:=match u with
 | .none=>eqV .non x
 | .bool b=>eqV (.bl b) x
 | .int i _=>eqV (.int i) x
 | .str z _=>eqV (.str z) x
 |_=>false
theorem NK(r:RelV y u)(f:rZ y=true):eqU x u=eqV y x:=by
 cases y with
 |non=>cases r;rfl
 |bl b=>cases r;rfl
 |int i=>obtain⟨t,rfl⟩:=r;rfl
 |str z=>obtain⟨t,rfl⟩:=r;rfl
 |_=>exact absurd (show false=true from f) zek
theorem Pc:∀{xs:List V} {us:List Value},Vals xs us->xs.all rZ=true->us.any (eqU x)=xs.any λy=>eqV y x
 |_,_,.nil,_=>rfl
 |y::xs,u::us,.cons r t,f=>by
  rw[List.all_cons,Bool.and_eq_true]at f;rw[List.any_cons,List.any_cons,NK r f.1,Pc t f.2]
theorem uY(I:RelV x v)(fx:rZ x=true):∀{xs:List V} {us:List Value},Vals xs us->xs.all rZ=true->∀u∈us,SeqAt.EqAt A s u v (eqU x u)
 |_,_,.nil,_=>λu hu=>by cases hu
 |y::xs,u::us,.cons r t,f=>λc hu=>by
  rw[List.all_cons,Bool.and_eq_true]at f;rcases zed hu with rfl|hu
  .rw[NK r f.1];exact zaD r I f.1 fx
  .exact uY I fx t f.2 c hu
def inV(x:V)(xs:List V):Bool:=xs.any λy=>eqV y x
def rIn(K:zee)(neg:Bool):R2:=λx y H Q=>∃p xs,y=.ref p/\(SqL K H p xs\/SqT K H p xs)/\rZ x=true/\xs.all rZ=true/\Q (.bl<|if neg then !inV x xs else inV x xs) H
theorem Q6:OpR X (compareOp .In) (rIn X.K false):=by
 intro C0 s J H x y v u Q I e f h;obtain⟨p,xs,rfl,d,fx,fs,q⟩:=h;cases f;rcases d with d|d
 .obtain⟨c,r,pl,hz⟩:=I.list d
  refine SeqAt.in_listAt (eqU x) pl.isList (λw hw=>uY e fx r fs w (by simpa using hw)) ⟨.bl _,H,I,rfl,?_⟩
  fail "qi"
 .obtain⟨c,r,pl,hz⟩:=I.tuple d
  refine SeqAt.in_tupleAt (eqU x) pl (λw hw=>uY e fx r fs w (by simpa using hw)) ⟨.bl _,H,I,rfl,?_⟩
  fail "qi"
theorem Jp:OpR X (compareOp .NotIn) (rIn X.K true):=by
 intro C0 s J H x y v u Q I e f h;obtain⟨p,xs,rfl,d,fx,fs,q⟩:=h;cases f;rcases d with d|d
 .obtain⟨c,r,pl,hz⟩:=I.list d
  refine SeqAt.notIn_listAt (eqU x) pl.isList (λw hw=>uY e fx r fs w (by simpa using hw)) ⟨.bl _,H,I,rfl,?_⟩
  fail "qi"
 .obtain⟨c,r,pl,hz⟩:=I.tuple d
  refine SeqAt.notIn_tupleAt (eqU x) pl (λw hw=>uY e fx r fs w (by simpa using hw)) ⟨.bl _,H,I,rfl,?_⟩
  fail "qi"
theorem Jq:j4 X (.builtin "len") (λxs H Q=>∃p ρ,xs=[.ref p]/\(SqL X.K H p ρ\/SqT X.K H p ρ)/\Q (.int ρ.length) H):=by
 intro C0 s J H xs us Q I r h;obtain⟨p,ρ,rfl,d,q⟩:=h;obtain⟨u,rfl,g⟩:=vals1 r;cases g;have hn:=Bb;rcases d with d|d
 .obtain⟨f,e,pl,hz⟩:=I.list d
  have c:=e.length;exact Calls.call_len_list pl.isList (by simp only[List.size_toArray]<;>lia) ⟨.int ρ.length,H,I.tok _,⟨s.toks+1,by rw[zeJ,c]⟩,q⟩
 .obtain⟨f,e,pl,hz⟩:=I.tuple d
  have c:=e.length;exact len_tuple pl (by simp only[List.size_toArray]<;>lia) ⟨.int ρ.length,H,I.tok _,⟨s.toks+1,by rw[zeJ,c]⟩,q⟩
theorem Jr:j4 X (.builtin "len") (λxs H Q=>∃z,xs=[.str z]/\z.length<=sizeLine/\Q (.int z.length) H):=by
 intro C0 s J H xs us Q I r h;obtain⟨z,rfl,hz,q⟩:=h;obtain⟨u,rfl,t,rfl⟩:=vals1 r;have hn:=Bb;exact len_str (by lia) ⟨.int z.length,H,I.tok _,⟨_,rfl⟩,q⟩
theorem j4.or(h:j4 X f r)(h':j4 X f ρ):j4 X f (λxs H Q=>r xs H Q\/ρ xs H Q):=by
 intro C0 s J H xs us Q I c q;rcases q with q|q
 .exact h C0 s J H xs us Q I c q
 .exact h' C0 s J H xs us Q I c q
theorem Js:j4 X (.type "list") (λxs H Q=>∃p ρ,xs=[.ref p]/\(SqL X.K H p ρ\/SqT X.K H p ρ)/\∀l,H l=none->Q (.ref l) (upd H l<|.lst ρ)):=by
 intro C0 s J H xs us Q I r h;obtain⟨p,ρ,rfl,j,q⟩:=h;obtain⟨u,rfl,t⟩:=vals1 r;cases t;have g:∀(c:List Value),Vals ρ c->ρ.length<=sizeLine->∀(h':Heap) (d:Nat),(∀b o',s.heap.get? b=some o'->h'.get? b=some o')->
   h'.get? s.heap.objs.size=some {cls:=.type "list",dict:=none,data:=.seq c.toArray d,slots:=#[]}->EP X C0 J Q (.ref s.heap.objs.size) {s with heap:=h'}:=λc f hz h' d kp e=>
  ⟨.ref s.heap.objs.size,_,I.laid (t':=s.toks) kp (zen _)<|show ft X.prog X.w _ h' _ (.lst ρ)from⟨hz,c,d,f,e⟩,rfl,q _<|I.hok.fresh<|zen _⟩
 rcases j with j|j
 .obtain⟨c,f,pl,hz⟩:=I.list j
  have i:=f.length;obtain⟨o,m,k,n,hd⟩:=pl.isList;exact call_list_seq p (.inl rfl) m k hd (λh' d kp e=>g c f hz h' d kp e) (by simp only[List.size_toArray]<;>lia)
 .obtain⟨c,f,pl,hz⟩:=I.tuple j
  have i:=f.length;obtain⟨o,m,k,n,hd⟩:=pl;exact call_list_seq p (.inr rfl) m k hd (λh' d kp e=>g c f hz h' d kp e) (by simp only[List.size_toArray]<;>lia)
def tyV(K:zee)(T:String)(x:V)(H:Hp):Prop:=match x with
 | .str _=>T="str"
 | .int _=>T="int"
 | .ref p=>(T="list"/\∃xs,SqL K H p xs)\/(T="tuple"/\∃o,K.lookup p=some o/\o.cls=.type "tuple"/\o.dict=none)\/
   (T="dict"/\((∃G0,H p=some (.dK G0))\/∃G0,H p=some (.dT G0)))\/(T="set"/\∃S n,H p=some (.set S n))
 |_=>False
theorem Tr{J:St}{H:Hp}{s:Shared}{T:String}{x:V}{v:Value}(I:Inv X C0 J H s)(r:RelV x v)(ty:tyV X.K T x H) :
  s.TypeIs v T/\∀a,v=.ref a->∃ob,s.heap.get? a=some ob/\ob.dict=none:=by
 cases x with
 |str z=>
  obtain⟨t,rfl⟩:=r;cases(show T="str"from ty);exact⟨typeIs_str s z t,λ_ e=>nomatch e⟩
 |int i=>
  obtain⟨t,rfl⟩:=r;cases(show T="int"from ty);exact⟨typeIs_int s i t,λ_ e=>nomatch e⟩
 |ref p=>
  cases r;rcases ty with⟨rfl,xs,g⟩|⟨rfl,o,hk,f,hd⟩|⟨rfl,hk⟩|⟨rfl,S,n,hk⟩
  .obtain⟨h,_,pl,_⟩:=I.list g
   refine⟨pl.isList.typeIs,λa e=>?_⟩
   cases e;obtain⟨o,n,e,c,hd,_⟩:=pl;exact⟨o,e,hd⟩
  .refine⟨⟨o,I.kIn p o hk,f⟩,λa e=>?_⟩
   cases e;exact⟨o,I.kIn _ o hk,hd⟩
  .have z:∃o,s.heap.get? p=some o/\o.ExactDict:=by
    rcases hk with⟨G0,hk⟩|⟨G0,hk⟩
    .obtain⟨_,_,_,_,o,_,_,e,ex,_⟩:=I.hok p _ hk
     exact⟨o,e,ex⟩
    .obtain⟨_,_,_,_,o,_,_,e,ex,_⟩:=I.hok p _ hk
     exact⟨o,e,ex⟩
   obtain⟨o,e,ex⟩:=z;refine⟨⟨o,e,ex.1⟩,λa d=>?_⟩
   cases d;exact⟨o,e,ex.2.1⟩
  .obtain⟨o,_,_,_,e,ex,_⟩:=I.hok p _ hk
   refine⟨⟨o,e,ex.1⟩,λa d=>?_⟩
   cases d;exact⟨o,e,ex.2.1⟩
 |_=>exact False.elim ty
def WT(K:zee)(T:String)(r:V->List V->Hp->VK->Prop)(I:TE):TE:=λJ H Q=>I J H λx h=>tyV K T x h/\r x [] h Q
def tBM(K:zee)(T:String)(r:V->List V->Hp->VK->Prop)(I:TE)(t:TA):TE:=λJ H Q=>I J H λx h=>tyV K T x h/\t J h λxs D=>r x xs D Q
variable{o e:Expr}{es:List Expr}{to:TE}{t:TA}{name:Str}{apos K2:Pos}{T id:String}{r:V->List V->Hp->VK->Prop}
theorem zaE(Y:PlainAttrs T)(slot:Slot T name id)(O:typeOf (.builtin id)=pure (.type "method_descriptor"))(hm:MtR X id r)(U:PE X o to)
  (ρ:attributeBase o name X.env (eval o X.env)=eval o X.env:=by rfl) (M:(apos.endLine==K2.line)=true:=by rfl):PE X (.Call (.Attribute o name apos) [] [] K2) (WT X.K T r to):=by
 intro C0 s J H Q I h;refine wpAny_Call_method0_late ρ M (thn (U C0 s J H _ I h) λv s1 ⟨x,f,c,d,ty,g⟩=>?_)
 obtain⟨h1,h2⟩:=Tr c d ty;exact⟨T,id,Y,slot,O,h1,h2,Calls.callWith_builtin rfl<|PySem.evalArgs_none<|hm C0 s1 J f x [] v [] Q c d .nil g⟩
theorem zcs(pa:PlainAttrs T)(slot:Slot T name id)(Y:typeOf (.builtin id)=pure (.type "method_descriptor"))(hm:MtR X id r)(ho:PE X o to)(ha:PA X (e::es) t)
  (M:attributeBase o name X.env (eval o X.env)=eval o X.env:=by rfl)
  (U:((backTo K2<|starEach (e::es) X.env).all (λx=>!x.1)&&(backToKw K2<|keywordEach [] X.env).all (λx=>x.1.isSome)
   &&decide ((e::es).length+([]:List Keyword).length+(if([]:List Keyword).isEmpty then 0 else 1)<30))=true:=by rfl)
  (O:(apos.endLine==K2.line)=true:=by rfl) (hs:starEach (e::es) X.env=9013::starEach es X.env:=by rfl) (ρ:(backTo K2<|starEach es X.env).any (·.1)=false:=by rfl) :
  PE X (.Call (.Attribute o name apos) (e::es) [] K2) (tBM X.K T r to t):=by
 intro C0 s J H Q I h;refine wpAny_Call_method_late M U O rfl (thn (ho C0 s J H _ I h) λv s1 ⟨x,g,c,f,ty,k⟩=>?_)
 obtain⟨h1,h2⟩:=Tr c f ty;refine⟨T,id,pa,slot,Y,h1,h2,?_⟩;have d:=ha K2 C0 s1 J g _ c k;rw[hs]at d⊢;refine Calls.callWith_builtin (by show(false||(backTo K2<|starEach es X.env).any (·.1))=false;rw[ρ]<;>rfl) (Calls.evalArgs_plain ?_)
 exact thn d λus s2 ⟨vs,i,j,m,l⟩=>hm C0 s2 J i x vs v us Q j f m l
end
def MtM(X:Cx)(id:String)(r:V->List V->Hp->VK->Prop):Prop :=
 ∀(C0:List<|Addr×Obj) (s:Shared) (J:St) (H:Hp) (x:V) (xs:List V) (v:Value) (us:List Value) (Q:VK),Inv X C0 J H s->RelV x v->Vals xs us->r x xs H Q->
  wpAny 9001 X.A (call (.builtin id) (v::us)) 9033 X.xe s
def Vals.one:∀{x:V} {us:List Value},Vals [x] us->∃u,us=[u]/\RelV x u
 |_,_,.cons r .nil=>⟨_,rfl,r⟩
def Vals.zero:∀{us:List Value},Vals [] us->us=[]
 |_,.nil=>rfl
theorem Vals.dropLast(h:Vals xs us):Vals xs.dropLast us.dropLast:=by
 induction h with
 |nil=>exact .nil
 |cons r t a=>
  cases t with
  |nil=>exact .nil
  |cons q b=>exact .cons r a
theorem Vals.eraseIdx:∀{xs:List V} {us:List Value} (i:Nat),Vals xs us->Vals (xs.eraseIdx i) (us.eraseIdx i)
 |_,_,_,.nil=>.nil
 |_,_,0,.cons _ t=>t
 |_,_,i+1,.cons r t=>.cons r (Vals.eraseIdx i t)
theorem Vals.rep(h:Vals xs us):∀k:Nat,Vals (List.replicate k xs).flatten (List.replicate k us).flatten
 |0=>.nil
 |k+1=>by
  rw[zfb,zfb,List.flatten_cons,List.flatten_cons];exact Vals.append h (Vals.rep h k)
theorem NN{α:Type}(l:List α):l.eraseIdx (l.length-1)=l.dropLast:=by
 induction l with
 |nil=>rfl
 |cons a r c=>
  cases r with
  |nil=>rfl
  |cons b r=>
   have e:(a::b::r).length-1=((b::r).length-1)+1:=by
    have h1:(a::b::r).length=r.length+2:=rfl;have h2:(b::r).length=r.length+1:=rfl
    lia
   rw[e,List.eraseIdx_cons_succ,c]
   all_goals rfl
theorem Il{α:Type}:∀(l:List α) (i:Nat),(l.eraseIdx i).length<=l.length
 | [],_=>zen _
 |_::_,0=>Nat.le_succ _
 |_::r,i+1=>Nat.succ_le_succ (Il r i)
theorem foldl_rep(ρ:List Value):∀(k:Nat) (I:List Value),
  List.foldl (λM O=>M++O) I.toArray (List.replicate k ρ.toArray)=(I++(List.replicate k ρ).flatten).toArray
 |0,I=>by simp
 |k+1,I=>by
  have e:I.toArray++ρ.toArray=(I++ρ).toArray:=by simp
  have a:(I++ρ)++(List.replicate k ρ).flatten=I++(List.replicate (k+1) ρ).flatten:=by
   rw[zfb,List.flatten_cons,zeC]
  rw[<-a,<-foldl_rep ρ k (I++ρ),<-e,zfb,List.foldl_cons]
section
variable{X:Cx}{C0:List<|Addr×Obj}{J:St}{H:Hp}{s:Shared}{l b:Addr}{xs ys zs:List V}
theorem Inv.WU{ρ its':List Value}{f:Array Value->Array Value}{U:Nat}(I:Inv X C0 J H s)(M:H l=some (.lst xs))
  (e:s.heap.get? l=some {cls:=.type "list",data:=.seq ρ.toArray n}) (O:f ρ.toArray=its'.toArray) (hv:Vals ys its') (hz:ys.length<=sizeLine) :
  Inv X C0 J (upd H l<|.lst ys) {s with heap:=s.heap.update l<|Obj.mapSeq f,toks:=U}:=by
 have q:=PySem.IsL.update e f;rw[O]at q;refine I.write (x:=l) (e:=l) (by rw[M];exact trivial) (.inl rfl) (λc u a hu=>(Heap.get?_update_other s.heap (Obj.mapSeq f)<|Ne.symm a).trans hu) ⟨_,q⟩ ?_
 exact⟨hz,its',_,hv,q⟩
def Inv.zct(I:Inv X C0 J H s)(hv:Vals ys ρ)(hz:ys.length<=sizeLine) :
  Inv X C0 J (upd H s.heap.objs.size<|.lst ys) {s with heap:=s.heap.push {cls:=.type "list",data:=.seq ρ.toArray},toks:=t'} :=
 I.laid (λ_ _ q=>zep _ q) (zen _) ⟨hz,ρ,0,hv,zeK _ rfl⟩
theorem Inv.fresh(I:Inv X C0 J H s):H s.heap.objs.size=none:=I.hok.fresh (zen _)
theorem Inv.Ts(I:Inv X C0 J H s)(M:H l=some (.lst xs)):xs.length<=sizeLine/\∃(ρ:List Value) (n:Nat),Vals xs ρ/\xs.length=ρ.length/\s.heap.get? l=some {cls:=.type "list",data:=.seq ρ.toArray n}:=by
 obtain⟨z,ρ,n,r,e⟩:=I.hok l _ M;exact⟨z,ρ,n,r,r.length,e⟩
theorem Tt(h:n<=sizeLine):Builtin.List.listTooLong n=false:=by
 unfold Builtin.List.listTooLong;exact zeN (by lia)
end
section
variable{X:Cx}
def BM:V->List V->Hp->VK->Prop:=λx vs H Q=>∃l xs y,x=.ref l/\vs=[y]/\H l=some (.lst xs)/\xs.length<sizeLine/\Q .non (upd H l<|.lst<|xs++[y])
theorem Am:MtM X "list.append" BM:=by
 intro C0 s J H x vs v us Q I f d h;obtain⟨l,xs,y,rfl,rfl,b,hz,q⟩:=h;cases f;obtain⟨u,rfl,c⟩:=d.one;obtain⟨z,a,n,r,g,e⟩:=I.Ts b;refine call_meets F.slot_list_append ⟨_,e,rfl⟩ F.entry_list_append (F.args_list_append_2 _ _) (PySem.list_append l a.toArray n u (by rw[zeJ];lia)) ⟨e,?_⟩
 refine⟨.non,_,I.WU (its':=a++[u]) b e (by simp) (r.append<|.cons c .nil) ?_,rfl,q⟩
 rw[zes,ze6]
 lia
def zcu:V->List V->Hp->VK->Prop:=λx vs H Q=>∃l xs y,x=.ref l/\vs=[]/\H l=some (.lst xs)/\xs[xs.length-1]?=some y/\Q y (upd H l<|.lst xs.dropLast)
theorem NO:MtM X "list.pop" zcu:=by
 intro C0 s J H x vs v us Q I j i h;obtain⟨l,xs,y,rfl,rfl,d,hy,q⟩:=h;cases j;have b:=i.zero;subst b;obtain⟨z,a,n,r,f,e⟩:=I.Ts d;obtain⟨u,hu,g⟩:=r.get hy;have c:a.toArray[a.toArray.size-1]?=some u:=by
  show a.toArray[a.length-1]?=some u;rw[<-Array.getElem?_toList,<-f];exact hu
 refine call_meets F.slot_list_pop ⟨_,e,rfl⟩ F.entry_list_pop (F.args_list_pop_1 _) (MeetsSeq.list_pop_last l a.toArray n u c (by rw[zeJ];lia)) ⟨e,?_⟩
 refine⟨y,_,I.WU (its':=a.dropLast) d e ?_ r.dropLast ?_,g,q⟩
 .show a.toArray.eraseIdxIfInBounds (a.toArray.size-1)=a.dropLast.toArray
  rw[zeJ,List.eraseIdxIfInBounds_toArray,NN]
 .rw[List.length_dropLast]
  lia
def Tu:V->List V->Hp->VK->Prop:=λx vs H Q=>∃l xs i k y,x=.ref l/\vs=[.int i]/\H l=some (.lst xs)/\-(2^63)<=i/\i<2^63/\seqIndex? i xs.length=some k/\xs[k]?=some y/\Q y (upd H l<|.lst<|xs.eraseIdx k)
theorem Tv:MtM X "list.pop" Tu:=by
 intro C0 s J H x vs v us Q I j g h;obtain⟨l,xs,i,k,y,rfl,rfl,c,h1,h2,hk,hy,q⟩:=h;cases j;obtain⟨u,rfl,f⟩:=g.one;obtain⟨t,rfl⟩:=f;obtain⟨z,a,n,r,d,e⟩:=I.Ts c;obtain⟨w,hw,b⟩:=r.get hy;refine call_meets F.slot_list_pop ⟨_,e,rfl⟩ F.entry_list_pop (F.args_list_pop_2 _ _)
  (MeetsSeq.list_pop_at l a.toArray n i t k w (fitsIndex_both h1 h2) (by rw[zeJ,<-d];exact hk) (by rw[<-Array.getElem?_toList];exact hw) (by rw[zeJ];lia)) ⟨e,?_⟩
 refine⟨y,_,I.WU (its':=a.eraseIdx k) c e ?_ (r.eraseIdx k) ?_,b,q⟩
 .show a.toArray.eraseIdxIfInBounds k=(a.eraseIdx k).toArray
  rw[List.eraseIdxIfInBounds_toArray]
 .have:=Il xs k
  lia
def zcv:R2:=λx y H Q=>∃l k xs,x=.ref l/\y=.int k/\H l=some (.lst xs)/\-(2^63)<=k/\k<2^63/\xs.length*k.toNat<=sizeLine/\
 ∀p,H p=none->Q (.ref p) (upd H p<|.lst (List.replicate k.toNat xs).flatten)
theorem len_rep{α:Type}(xs:List α)(k:Nat):(List.replicate k xs).flatten.length=k*xs.length:=by
 induction k with
 |zero=>simp
 |succ k a=>rw[zfb,List.flatten_cons,zes,a,Nat.succ_mul,Nat.add_comm]
theorem zaF:OpR X (binaryOp .Mult) zcv:=by
 intro C0 s J H x y v u Q I B C h;obtain⟨l,k,xs,rfl,rfl,w,h1,h2,hz,q⟩:=h;cases B;obtain⟨t,rfl⟩:=C;obtain⟨z,b,n,r,A,e⟩:=I.Ts w;have f:b.toArray.size*k.toNat<=sizeLine:=by rw[zeJ,<-A];exact hz
 have c : ¬b.toArray.size*k.toNat>(2^63-1)/8:=by
  have:(sizeLine:Nat)<=(2^63-1)/8:=by decide
  lia
 have d : ¬(!Builtin.List.listFitsIndex k)=true:=by
  rw[fitsIndex_both h1 h2];exact zek
 have o : ¬Builtin.List.listTooLong (b.toArray.size*k.toNat)=true:=by
  rw[Tt f];exact zek
 have g:List.foldl (λi j=>i++j) #[] (List.replicate (if b.toArray.isEmpty=true then 0 else k.toNat) b.toArray)=(List.replicate k.toNat b).flatten.toArray:=by
  have p:∀m:Nat,List.foldl (λi j=>i++j) #[] (List.replicate m b.toArray)=(List.replicate m b).flatten.toArray:=λm=>by
   have:=foldl_rep b m [];rw[List.nil_append]at this;exact this
  rw[p];cases b with
  |nil=>simp
  |cons a D=>rw[if_neg (by simp)]
 refine wpAny_binaryOp_repeat_ref (T:="list") (U:="int") (by decide) ⟨_,e,rfl⟩ (λs'=>typeIs_int s' k t) noFill_list_mul F.fills_int_mul F.slot_int_rmul repeat_list F.slot_int_index.lookup
  (call_meets F.slot_int_rmul (typeIs_int s k t) F.entry_int_rmul (F.args_int_rmul_2 _ _) (int___rmul___int_list k t l b.toArray n)
   ⟨e,rfl,⟨_,e,rfl⟩,call_meets F.slot_list_mul ⟨_,e,rfl⟩ F.entry_list_mul (F.args_list_mul_2 _ _) (AutoListH.list___mul___list_int_3 l b.toArray n k t d c o) ⟨e,?_⟩⟩)
 rw[g];exact⟨.ref _,_,I.zct (t':=s.toks) (r.rep k.toNat) (by rw[len_rep,Nat.mul_comm];exact hz),rfl,q _ I.fresh⟩
end
section
variable{prog:Program}{w:World}{A:Around}{E:Value->Shared->Prop}{s:Shared}
set_option maxRecDepth 100000 in
end
end L2
namespace Att
open PySem.W PySem.Calls PyProof.Rows
theorem Ew:∀(ns:List Int) (vs:List Value),WellAll P h vs (ns.map WData.int)->IntsAre vs ns:=by
 intro ns
 induction ns with
 |nil=>
  intro vs w;rw[List.map_nil]at w;cases w;exact .nil
 |cons n ns c=>
  intro vs w;rw[zey]at w;cases w with
  |cons a b=>
   cases a;exact .cons _ _ (c _ b)
theorem Q7{l:OpenLaw}(hn:l.most=some n){P:Params}{h:Heap}{args:List WData}{ρ:List Value}
  (I:l.row.toRowW.claim.pre args=true) (M:WellAll P h ρ args) :
  ∃a vs ns,ρ=[Value.ref a]/\args=[WData.list<|ns.map WData.int]/\h.get? a=some {cls:=.type "list",data:=.seq vs.toArray}/\IntsAre vs ns/\ns.length<=n:=by
 have f:WShape.hasAll [] args [.list .int]=true:=(pre_splitW I).1;have g:l.pre.holds [] {args:=args}=true:=(pre_splitW I).2;obtain⟨d,r,rfl,h1,h2⟩:=hasAllW_cons f;obtain rfl:=hasAllW_nil h2;obtain⟨xs,rfl,h3⟩:=hasW_list h1;obtain⟨ns,rfl⟩:=items_int h3;have c:ns.length<=n:=by
  unfold OpenLaw.pre at g;have h4:(WTm.not<|.lt (.lit<|.int (n:Int))<|.len<|.arg 0).holds [] {args:=[.list<|ns.map .int]}=true:=by
   have h4:=(holds_andW g).1;rw[hn]at h4;exact h4
  have e:=condW_of h4 (w_not<|w_lt w_lit<|w_len_list<|w_arg rfl);rw[zej]at e;refine ze9 λq=>?_
  have j:(n:Int)<((ns.length:Nat):Int):=by lia
  first
   |(rw[zeG j]at e;exact absurd e (by decide))
   |(simp at e;lia)
 cases M with
 |cons k w2=>
  cases w2;cases k with
  |list i b=>exact⟨_,_,ns,rfl,rfl,i,Ew ns _ b,c⟩
theorem Q8(l:OpenLaw)(args:List WData):l.row.toRowW.claim.post args (.bool true) args=true :=
 postW_of (r:=l.row.toRowW) (X:=(true==true))
  (show WShape.has [] (.bool true) .bool=true by first|rfl|decide|simp[WShape.has,WShape.arms,WShape.armsAll])
  (show(WTm.eq .res<|.lit<|.bool true).value [] {args:=args,res:=some<|.bool true,after:=args}=some (.bool<|true==true)from w_eq_bool (w_res rfl) w_lit) rfl
section
variable{prog:Program}{w:World}{A:Around}{E:Value->Shared->Prop}{s:Shared}{K:Frag}
def ledger(h:Heap)(ρ d:Addr):List (Addr×Obj):=(List.range h.objs.size).filterMap λa=>if a=ρ\/a=d then none else(h.get? a).map λo=>(a,o)
end
end Att
namespace L2
open PySem.Spec PyProof.Rows
theorem Im:∀{vs:List Value} {ns:List Int},IntsAre vs ns->Vals (ns.map V.int) vs
 |_,_,.nil=>.nil
 |_,_,.cons n t h=>.cons ⟨t,rfl⟩ (Im h)
def Only(H:Hp):Prop:=∀b,H b=none\/(∃o xs,H b=some (.frz o<|.lst xs))\/∃ps,H b=some (.tbl ps)
theorem Lh{K:zee}{ps:Array Value}(e:vx K=some (c,T,ps)):K.lookup T=none/\PySem.W.codeHdIn K c T=true:=by
 unfold vx at e;split at e
 .rename_i f d b _
  split at e
  .rename_i a
   cases e;unfold SD at a;simp only[Bool.and_eq_true]at a;exact⟨by simpa using a.1.2,a.1.1⟩
  .cases e
 .cases e
theorem Tw{K:zee}{c T:Addr}{ps:Array Value}(e:Pd K fd=some (c,T,ps)):∃l k q,ps=#[rawInt l,rawInt k,.str q 0]:=by
 unfold Pd at e;split at e
 .split at e
  .split at e
   .cases e;exact⟨_,_,_,rfl⟩
   .cases e
  .cases e
 .cases e
theorem Pp{K:zee}{ps:Array Value}(e:vx K=some (c,T,ps)):∃l k q,ps=#[rawInt l,rawInt k,.str q 0]:=by
 unfold vx at e;split at e
 .rename_i f d b hx
  split at e
  .cases e
   obtain⟨p,_,a⟩:=List.exists_of_findSome?_eq_some hx;split at a
   .exact Tw a
   .cases a
  .cases e
 .cases e
theorem WV{K:zee}{ps:Array Value}(e:vx K=some (c,T,ps)):ps[0]?≠some .none:=by
 obtain⟨l,k,q,rfl⟩:=Pp e;intro z;cases z
theorem Tx{K:zee}{ps:Array Value}(e:vx K=some (c,T,ps))(more:Array Value):(ps++more)[0]?≠some .none:=by
 obtain⟨l,k,q,rfl⟩:=Pp e;intro z;rw[Array.getElem?_append_left (by simp)]at z
 cases z
theorem Tz{K:zee}{mg mb:Str->Option Value}{CX:CXT}{k:Nat}{fa a:Addr}{fd:FuncData}{x:Str}{sp:Sp}{I:Shared}{vs:List Value}{ns:List Int}
  (KX:K.In I.heap) (M:∀c T ps,vx K=some (c,T,ps)->I.heap.get? T=some (PySem.W.tabObj #[])) (Y:I.heap.Ns mainGlobals mg) (ρ:I.heap.Ns builtinsNs mb) (hbb:∀x:Str,x≠"__name__"->mb x=bootBuiltins x) (U:I.heap.NoLimit) (hbm:∃bm ob,mg "__builtins__"=some (.ref bm)/\bm≠builtinsNs/\I.heap.get? bm=some ob/\ob.cls=.type "module"/\ob.dict=some builtinsNs/\ob.data=.plain) (hg:I.gens=#[])
  (ha:I.heap.get? a=some {cls:=.type "list",data:=.seq vs.toArray}) (hi:IntsAre vs ns) (hl:ns.length<=sizeLine) (hr:cn k callerA)
  (F:∀base:Heap,K.In base->base.Ns mainGlobals mg->dt P w K mg base CX k fa fd [x] sp) (O:∀(s:Shared) (u:Value),BindsTo s fd ⟨[u],[]⟩ [(x,u)])
  (hsp:∀H:Hp,Only H->SqL K H a (ns.map V.int)->sp [.ref a] H (λv _=>v=.bl true) λ_ _ _=>False)
  (hCX:∀H e s',CX [] H I (λ_ _ _=>False) e s'->False) :
  codeAny (model P w) callerA (.call (.ref fa) ⟨[.ref a],[]⟩) (λr s'=>r=.ok (.ret<|.bool true)/\OldK I.heap s'.heap/\s'.os=I.os/\AllBare s'.gens) I:=by
 have rv:=Im hi;have Q:=hi.length;have D:∀H:Hp,Only H->SqL K H a (ns.map V.int)->HOk P w H I.heap->(∀b,H b≠none->b=a\/∃c ps,vx K=some (c,b,ps))->(H a≠none->K.lookup a=none)->(∀c T ps,vx K=some (c,T,ps)->H T=some (.tbl ps))->
   codeAny (model P w) callerA (.call (.ref fa) ⟨[.ref a],[]⟩) (λr s'=>r=.ok (.ret<|.bool true)/\OldK I.heap s'.heap/\s'.os=I.os/\AllBare s'.gens) I:=by
  intro H hO hS hok B hK N;have Jt:∀{b:Addr} {o:Obj},I.heap.get? b=some o->H b=none->(Jk I.heap H).get? b=some o:=λe n=>Sz e n
  have noA:∀{b:Addr} {o:Obj} {es:Array DictEntry} {A:Nat},I.heap.get? b=some o->o.data=.dict es A->H b=none:=fun{b o es A} e d=>by
   cases q:H b with
   |none=>rfl
   |some u=>
    rcases B b (by rw[q];simp)with f|⟨c,ps,f⟩
    .subst f
     rw[ha]at e;cases e
     have d':Data.seq vs.toArray _=Data.dict es A:=d;cases d'
    .rw[M _ _ _ f]at e;cases e
     have d':Data.fields #[]=Data.dict es A:=d;cases d'
  have j:∀{b:Addr} {m:Str->Option Value},I.heap.Ns b m->(Jk I.heap H).Ns b m:=fun{b m} ⟨o,es,A,e,d,r⟩=>⟨o,es,A,Jt e<|noA e d,d,r⟩
  have σ:K.In (Jk I.heap H):=λb o e=>Jt (KX b o e) (by
   cases q:H b with
   |none=>rfl
   |some u=>
    rcases B b (by rw[q];simp)with f|⟨c,ps,f⟩
    .subst f
     rw[hK (by rw[q];simp)]at e;cases e
    .rw[(Lh f).1]at e;cases e)
  have hM:Mod K mg (Jk I.heap H):=⟨σ,j Y,⟨mb,j ρ,hbb⟩,(let⟨mc,h1,h2⟩:=U;⟨mc,j h1,h2⟩),by
   obtain⟨bm,ob,b1,b2,C,b4,b5,b6⟩:=hbm;refine⟨bm,ob,b1,b2,Jt C ?_,b4,b5,b6⟩;cases q:H bm with
   |none=>rfl
   |some u=>
    rcases B bm (by rw[q];simp)with f|⟨c,ps,f⟩
    .rw[f,ha]at C;cases C;exact absurd (Value.type.inj b4) (by decide)
    .rw[M _ _ _ f]at C;cases C;cases b4⟩
  have e0:NI P w K mg (Jk I.heap H) callerA [] I H:=⟨rfl,hM,λb o e=>Wu e,Nat.le_of_eq<|QW _ _,trivial,λb ρ=>absurd (show b∈([]:List Addr)from ρ) (by simp),hok,.of_eq hg,λc T ps e=>⟨#[],by rw[N c T ps e];simp⟩⟩
  refine codeAny_mono ((F _ σ<|j Y).run callerA [] I H ⟨[.ref a],[]⟩ [.ref a] [.ref a] _ _ hr e0 (O I<|.ref a) (.cons rfl .nil)<|hsp H hO hS) λr s' h=>?_
  cases r with
  |error e=>exact(hCX H e s' h).elim
  |ok fl=>
   cases fl with
   |next=>exact False.elim h
   |brk=>exact False.elim h
   |cont=>exact False.elim h
   |ret u=>
    obtain⟨v,H',os,bare,un,l,r',q⟩:=h;have q':v=.bl true:=q;subst q';obtain rfl:u=Value.bool true:=r';refine⟨rfl,⟨λb o e=>?_,λb o e=>un.there b o e (by simp)⟩,os,bare⟩
    cases q:H b with
    |none=>exact .inl (un.keep b o e q (by intro z;exact absurd (show b∈([]:List Addr)from z) (by simp)) (by simp))
    |some u=>
     rcases hO b with z|⟨ob,xs,z⟩|⟨ps,z⟩
     .rw[q]at z;cases z
     .have z2:=un.x9 b ob _ z
      obtain⟨E,_⟩:=hok b _ z;obtain⟨G,_⟩:=l b _ z2;rw[e]at E;cases E
      exact .inl G
     .obtain⟨more,z2⟩:=un.ya b ps z
      obtain⟨S,i,e0⟩:∃y,I.heap.get? b=some {cls:=.none,data:=.fields y}/\True:=by
       rcases B b (by rw[q];simp)with f|⟨c,t,f⟩
       .rcases hok b _ z with⟨_,_,_,_,_,_,_,_,ec,eo,ed,_⟩|⟨_,S,i,_⟩
        .cases ec;rw[f,ha]at eo;cases eo;cases ed
        .exact⟨S,i,trivial⟩
       .exact⟨_,M _ _ _ f,trivial⟩
      obtain⟨y,G⟩:∃y,s'.heap.get? b=some {cls:=.none,data:=.fields y}:=by
       rcases B b (by rw[q];simp)with f|⟨c,t,f⟩
       .rw[f,ha]at i;cases i
       .rcases l b _ z2 with⟨e4,_⟩|⟨_,y,G,_⟩
        .have e5:=N _ _ _ f
         rw[z]at e5;cases e5
         exact absurd e4 (Tx f more)
        .exact⟨y,G⟩
      rcases B b (by rw[q];simp)with f|⟨c,t,f⟩
      .rw[f,ha]at i;cases i
      .have i:=M _ _ _ f
       rw[e]at i;cases i
       exact .inr (.inl ⟨(((PySem.W.codeHd_of_K KX (Lh f).2).tab<|M _ _ _ f).isCodeTable),rfl,#[],y,rfl,by rw[G];simp⟩)
 have R:∀c T ps,vx K=some (c,T,ps)->T≠a:=λc T ps e z=>by
  have E:=M c T ps e;rw[z,ha]at E;cases E
 have X:∀g:Hp,(∀b,g b≠none->b=a)->∃H:Hp,(∀b,H b=g b\/∃c ps,vx K=some (c,b,ps)/\H b=some (.tbl ps))/\(∀c T ps,vx K=some (c,T,ps)->H T=some (.tbl ps))/\∀b u,g b=some u->H b=some u:=λg h0=>by
  cases e:vx K with
  |none=>exact⟨g,λb=>.inl rfl,λc T ps z=>(by cases z),λb u z=>z⟩
  |some x=>
   obtain⟨c,T,ps⟩:=x;refine⟨upd g T<|.tbl ps,λb=>?_,λc' T' t z=>by cases z;exact aw,λb u z=>?_⟩
   .by_cases ρ:b=T
    .exact .inr ⟨c,ps,by rw[ρ],by rw[ρ];exact aw⟩
    .exact .inl (av ρ)
   .rw[av λq=>R c T ps e<|q.symm.trans<|h0 b (by rw[z];simp)];exact z
 have wide:∀g:Hp,(∀b,g b=none\/∃o xs,g b=some (.frz o<|.lst xs))->SqL K g a (ns.map V.int)->HOk P w g I.heap->(∀b,g b≠none->b=a)->(g a≠none->K.lookup a=none)->
   codeAny (model P w) callerA (.call (.ref fa) ⟨[.ref a],[]⟩) (λr s'=>r=.ok (.ret<|.bool true)/\OldK I.heap s'.heap/\s'.os=I.os/\AllBare s'.gens) I:=λg hO hS hok h0 hK=>by
  obtain⟨H,t1,t2,t3⟩:=X g h0;have p:H a=g a:=by
   rcases t1 a with z|⟨c,ps,e,_⟩
   .exact z
   .exact absurd rfl (R c a ps e)
  refine D H (λb=>?_) ?_ (λb u z=>?_) (λb z=>?_) (λz=>hK (by rw[<-p];exact z)) t2
  .rcases t1 b with z|⟨c,ps,_,z⟩
   .rcases hO b with q|⟨o,xs,q⟩
    .exact .inl (z.trans q)
    .exact .inr (.inl ⟨o,xs,z.trans q⟩)
   .exact .inr (.inr ⟨ps,z⟩)
  .rcases hS with(q|⟨o,q⟩)|q
   .exact .inl (.inl<|p.trans q)
   .exact .inl (.inr ⟨o,p.trans q⟩)
   .exact .inr q
  .rcases t1 b with q|⟨c,ps,e,q⟩
   .rw[z]at q
    exact(hok b u q.symm).stay (λ_ _ _ x=>x) (λb' x=>t3 _ _ x) λb' xs _ x=>t3 _ _ x
   .rw[z]at q;cases q
    exact .inr ⟨WV e,#[],M _ _ _ e,.inl rfl⟩
  .rcases t1 b with q|⟨c,ps,e,q⟩
   .exact .inl (h0 b (by rw[<-q];exact z))
   .exact .inr ⟨c,ps,e⟩
 cases hk:K.lookup a with
 |some o=>
  have e:=KX a o hk;rw[ha]at e;cases e;refine wide (λ_=>none) (λ_=>.inl rfl) (.inr ⟨_,vs.toArray,_,hk,rfl,rfl,rfl,by rw[zeJ,Q];exact hl,by simpa using rv⟩) (λb u z=>by have Z:(none:Option HO)=some u:=z;cases Z) (λb z=>absurd rfl z) λz=>absurd rfl z
 |none=>
  refine wide (λb=>if b=a then some (.frz {cls:=.type "list",data:=.seq vs.toArray}<|.lst<|ns.map V.int)else none) (λb=>?_) (.inl<|.inr ⟨{cls:=.type "list",data:=.seq vs.toArray},if_pos rfl⟩) (λb u z=>?_) (λb z=>?_) λ_=>hk
  .by_cases ρ:b=a
   .exact .inr ⟨_,_,if_pos ρ⟩
   .exact .inl (if_neg ρ)
  .by_cases ρ:b=a
   .have Z:=(if_pos ρ).symm.trans z
    cases Z;subst ρ;exact⟨ha,by rw[zej];exact hl,vs,_,rv,ha⟩
   .have Z:=(if_neg ρ).symm.trans z
    cases Z
  .by_cases ρ:b=a
   .exact ρ
   .exact absurd (if_neg ρ) z
abbrev KOf{K:zee}{h:Heap}(_:K.In h):zee:=K
def inClass(s:Stmt)(j:Nat):Stmt:=match s with
 | .ClassDef _ _ _ h _ _ _ _ _ _ _=>h.getD j (.Pass ⟨0,0,0,0⟩)
 |_=>.Pass ⟨0,0,0,0⟩
def jd(s:Stmt):Arguments:=match s with
 | .FunctionDef _ a _ _ _ _ _ _ _ _=>a
 |_=>{posonlyargs:=[],args:=[],vararg:=none,kwonlyargs:=[],kw_defaults:=[],kwarg:=none,defaults:=[]}
def fw(s:Stmt):List Stmt:=match s with
 | .FunctionDef _ _ b _ _ _ _ _ _ _=>b
 |_=>[]
def ai(s:Stmt):Scope:=match s with
 | .FunctionDef _ _ _ _ _ _ sc _ _ _=>sc
 |_=>{kind:=.function,names:=[],isGenerator:=false,isCoroutine:=false}
abbrev CX0:CXT:=λ_ _ _ _ _ _=>False
abbrev E0:XK:=λ_ _ _=>False
def FC:Passes CX0 X E0:=λ_ _ _ _ _ _ _ h=>h.elim
structure Fun(K:zee)(x K1:Str)(st:Stmt)(f:Addr)(fd:FuncData):Prop where
 ex:∃(oc:Value) (od:Option Addr) (kV doc pm:Value) (an:Option Addr) (cdv ct:Value) (osl:Array<|Option Value),
  fd=PySem.W.fnOf x K1 (jd st) (fw st) (ai st) .none kV doc pm an cdv ct/\K.lookup f=some ⟨oc,od,.func fd,osl⟩/\PySem.W.codeIn K cdv K1=true
 kp:PySem.W.keepIn K (.ref f)=true
section
variable{P:Program}{w:World}{K:zee}{mg:Str->Option Value}{base:Heap}
theorem Fun.ok{st:Stmt}{f:Addr}{fd:FuncData}{N ps:List Str}{k:Nat}{sp:Sp}(F:Fun K x K1 st f fd)(S:ay N ps<|ai st)(len:∀vs H Q E,sp vs H Q E->vs.length=ps.length)
  (I:∀(cdv:Value) (A:Around) (outer:List Env) (s:Shared) (H:Hp) (vs:List V) (Q:VK) (E:XK),cn k 9080->sp vs H Q E->
   ∃t,PSs (Be CX0 P w K mg base N K1 (ai st) f cdv A outer s H E).nox (fw st) t/\t {nx:=λ_ H'=>Q .non H',rt:=Q} (start N vs) H):dt P w K mg base CX0 (k+1) f fd ps sp:=by
 obtain⟨oc,od,kV,doc,pm,an,cdv,ct,osl,rfl,lk,u⟩:=F.ex;refine ef lk u S len λA outer s H vs Q E D y=>?_
 obtain⟨t,h,q⟩:=I cdv A outer s H vs Q E D y;exact⟨t,h.nox,q⟩
theorem Fun.binds{st:Stmt}{f:Addr}{fd:FuncData}{ps:List Str}(F:Fun K x K1 st f fd)
  (h:∀(kV doc pm:Value) (an:Option Addr) (cdv ct:Value) (us:List Value),us.length=ps.length->bindArgs 9046 ⟨us,[]⟩=pure (ps.zip us)):Binds K fd ps []:=by
 obtain⟨oc,od,kV,doc,pm,an,cdv,ct,osl,rfl,lk,a⟩:=F.ex;exact .all (h kV doc pm an cdv ct)
def zaG{st:Stmt}{f:Addr}{oc:Value}{od an:Option Addr}{osl:Array<|Option Value}{kV doc pm cdv ct:Value}(l:K.lookup f=some ⟨oc,od,.func<|PySem.W.fnOf x K1 (jd st) (fw st) (ai st) .none kV doc pm an cdv ct,osl⟩)
  (c:PySem.W.codeIn K cdv K1=true) (k:PySem.W.keepIn K (.ref f)=true):Fun K x K1 st f 9046:=⟨⟨oc,od,kV,doc,pm,an,cdv,ct,osl,rfl,l,c⟩,k⟩
end
section
variable{X:Cx}
theorem pv(i:Nat){pos:Pos}(ρ:X.N[i]?=some x:=by rfl)(hv:Vis X.env.scope x:=by first|exact Or.inl rfl|exact Or.inr (Or.inl rfl)|exact Or.inr (Or.inr rfl))(hd:(x==("__debug__":Str))=false:=by decide)
  (I:(x==("__classdict__":Str))=false:=by decide):PE X (.Name x pos) (Hm i):=Z8 ρ hv hd I
end
theorem zdD{A B:Prop}(h:B):if false=true then A else B:=by
 rw[if_neg zek];exact h
theorem zdE{A B:Prop}(h:A):if true=true then A else B:=by
 rw[if_pos rfl];exact h
def aW(H H':Hp):Prop:=∀b o,H b=some o->H' b=some o
def aW.refl(H:Hp):aW H H:=λ_ _ h=>h
def aW.trans(a:aW H I)(b:aW I ρ):aW H ρ:=λc o h=>b c o (a c o h)
theorem aW.free(e:aW H H')(h:H' l=Option.none):H l=Option.none:=by
 cases q:H l with
 |none=>rfl
 |some o=>
  rw[e l o q]at h;cases h
theorem Inv.track{J:St}{H:Hp}{s:Shared}{D:Addr}{o:HO}(I:Inv X C0 J H s)(hn:H D=none)(ρ:X.s₀.heap.objs.size<=D)(M:D≠X.env.locals)
  (O:∀x c,X.env.cells.lookup x=some c->c≠D) (U:∀p∈X.pn++C0,p.1≠D) (new:ft X.prog X.w (upd H D o) s.heap D o):Inv X C0 J (upd H D o) s:=by
 have ne:∀b u,H b=some u->b≠D:=λb u e=>kx e hn
 refine⟨I.ok,I.os,I.bare,⟨I.base.keep,I.base.slot,λb ob e n hx=>?_,I.base.there,λb xs e=>?_,λb ob u e=>?_,λb ps e=>?_⟩,I.loc,I.cell,?_,λx c e=>?_,λp q=>?_,λb u e=>?_,I.len⟩
 .have:b≠D:=zeR (zeE (zeo e) ρ)
  rw[av this];exact I.base.free b ob e n hx
 .have z:=I.base.tups b xs e
  rw[av<|ne _ _ z];exact z
 .have z:=I.base.x9 b ob u e
  rw[av<|ne _ _ z];exact z
 .obtain⟨more,z⟩:=I.base.ya b ps e
  exact⟨more,by rw[av<|ne _ _ z];exact z⟩
 .rw[av<|Ne.symm M];exact I.free
 .rw[av<|O x c e];exact I.qk x c e
 .obtain⟨h1,h2,h3⟩:=I.pin p q
  exact⟨h1,by rw[av<|U p q];exact h2,h3⟩
 .by_cases a:b=D
  .subst a;rw[aw]at e;cases e;exact new
  .rw[av a]at e
   exact(I.hok b u e).stay (λ_ _ _ q=>q) (λc q=>by rw[av<|ne _ _ q];exact q) λc xs _ q=>by rw[av<|ne _ _ q];exact q
def AE(cells:List<|Str×Addr):List (Str×NameKind)->List (Str×Addr)->List (Str×Addr)
 | [],h=>h
 |(n,k)::r,h=>AE cells r (if(k==NameKind.free)=true then(n,(cells.lookup n).getD 0)::h else h)
theorem Pq:∀(names:List<|Str×NameKind) (I:List<|Str×Addr),(∀y∈names,y.2=.free->∃c,env.cells.lookup y.1=some c)->
  (forIn names I λ(x:Str×NameKind) (r:List<|Str×Addr)=>(if(x.2==NameKind.free)=true then do
    let c<-cellOf env x.1
    pure (ForInStep.yield ((x.1,c)::r))else pure (ForInStep.yield r):Sem<|ForInStep<|List<|Str×Addr))=pure (AE env.cells names I)
 | [],I,_=>rfl
 |(n,k)::r,I,h=>by
  have f:=λa=>Pq r a λy hy=>h y (zei _ hy)
  rw[List.forIn_cons]
  by_cases hk:k=.free
  .subst hk
   obtain⟨c,g⟩:=h (n,.free) zeq rfl;have b:=g;have e:cellOf env n=pure c:=by
    unfold cellOf;rw[b]
   show(if(NameKind.free==NameKind.free)=true then _ else _)>>=_=_
   rw[if_pos (by decide),e]
   simp only[pure_bind];rw[f];simp only[AE,b,Option.getD_some];rfl
  .have d:(k==NameKind.free)=false:=by simpa using hk
   rw[d,if_neg zek];simp only[pure_bind];rw[f];simp only[AE,d,Bool.false_eq_true,if_false]
theorem zaH(h:∀y∈K0.names,y.2=.free->∃c,env.cells.lookup y.1=some c):closureFor K0 env=pure (AE env.cells K0.names []):=by
 unfold closureFor;have e:=Pq K0.names [] h;simp only[bind_pure];exact e
theorem Pr:∀(names:List<|Str×NameKind) (I:List<|Str×Addr),(∀y∈names,y.2=.free->∃c,cells.lookup y.1=some c)->(∀y c,I.lookup y=some c->cells.lookup y=some c)->
  ∀y c,(AE cells names I).lookup y=some c->cells.lookup y=some c
 | [],_,_,ha=>ha
 |(n,k)::r,I,h,ha=>by
  refine Pr r _ (λy hy=>h y<|zei _ hy) λy c e=>?_
  by_cases hk:(k==NameKind.free)=true
  .rw[if_pos hk]at e
   obtain⟨f,d⟩:=h (n,k) zeq (by simpa using hk)
   have a:=d;rw[a,Option.getD_some]at e;rw[ze7]at e
   by_cases hy:(y==n)=true
   .rw[hy]at e
    have:y=n:=by simpa using hy
    subst this;rw[a];exact e
   .have b:(y==n)=false:=by simpa using hy
    rw[b]at e;exact ha y c e
  .rw[if_neg hk]at e
   exact ha y c e
theorem Ju:∀(names:List<|Str×NameKind) (I:List<|Str×Addr) (y:Str),((y,NameKind.free)∈names\/∃c,I.lookup y=some c)->∃c,(AE cells names I).lookup y=some c
 | [],I,y,h=>by
  rcases h with h|h
  .cases h
  .exact h
 |(n,k)::r,I,y,h=>by
  refine Ju r _ y ?_;rcases h with h|⟨c,h⟩
  .rcases zed h with e|h
   .cases e
    refine .inr ⟨(cells.lookup n).getD 0,?_⟩;simp
   .exact .inl h
  .refine .inr ?_
   split
   .rw[ze7]
    cases y==n with
    |true=>exact⟨_,rfl⟩
    |false=>exact⟨c,h⟩
   .exact⟨c,h⟩
theorem qr(env : Env) : ∀(names : List<|Str×NameKind) (y : Str),
  (names.map λ(n,k)=>if 9040 then(n,NameKind.cell)else(n,k)).lookup y
   =(names.lookup y).map λk=>if(k==NameKind.free&&env.scope.kind== .function&&env.kindOf y==some .cell)=true then NameKind.cell else k
 | [],_=>rfl
 |(n,k)::r,y=>by
  have c :=qr env r y;show List.lookup y ((if 9040=true then(n,NameKind.cell)else(n,k))::_)=_
  by_cases hy:(y==n)=true
  .have:y=n:=by simpa using hy
   subst this
   by_cases a:(k==NameKind.free&&env.scope.kind== .function&&env.kindOf y==some .cell)=true
   .rw[if_pos a];simp only[List.lookup_cons,hy,Option.map_some,a,if_true]
   .rw[if_neg a];simp only[List.lookup_cons,hy,Option.map_some,a];simp
  .have b:(y==n)=false:=by simpa using hy
   by_cases a:9040=true
   .rw[if_pos a];simp only[List.lookup_cons,b];exact c
   .rw[if_neg a];simp only[List.lookup_cons,b];exact c
def kz(X:Cx)(K0:Scope)(O:List Str)(M:Shared)(I:Hp)(C:Addr)(fp:List Addr):Cx :=
 {X with N:=O,s₀:=M,H₀:=I,env:=compEnvC K0 (AE X.env.cells K0.names []) C X.env,outer:=X.stack,ex:=fp,fn:=λ_=>false,pn:=[],xe:=λ_ _=>False}
def jb(x:Str)(fr:List<|Str×Nat):List Str:=x::fr.map (·.1)
def d5(J:St)(fr:List<|Str×Nat):St:=fr.map λp=>J.getD p.2 none
structure Blk(X:Cx)(K0:Scope)(x:Str)(fr:List<|Str×Nat):Prop where
 zaI:(K0.names.all λy=>y.2 != .cell)=true
 kind:K0.kind=.function
 names:(K0.names.all λy=>y.2 != .local||K0.names.lookup y.1==some .local)=true
 here:K0.names.lookup x=some .local
 free:(K0.names.all λy=>y.2 != .free||X.env.scope.names.lookup y.1==some .cell)=true
 seen:(fr.all λp=>K0.names.lookup p.1==some .free&&X.N[p.2]? ==some p.1)=true
 nd:(jb x fr).Nodup
section
variable{X:Cx}{K0:Scope}{x:Str}{fr:List<|Str×Nat}{C0:List<|Addr×Obj}{J:St}{H:Hp}{s:Shared}
theorem Blk.cell(B:Blk X K0 x fr):∀y∈K0.names,y.2≠.cell:=λy hy=>by
 have:=List.all_eq_true.mp B.zaI y hy;simpa using this
theorem Blk.loc(B:Blk X K0 x fr):∀y∈K0.names,y.2=.local->K0.names.lookup y.1=some .local:=λy hy e=>by
 have:=List.all_eq_true.mp B.names y hy;rw[e]at this;simpa using this
theorem Blk.frees(B:Blk X K0 x fr):∀y∈K0.names,y.2=.free->X.env.kindOf y.1=some .cell:=λy hy e=>by
 have:=List.all_eq_true.mp B.free y hy;rw[e]at this;have h:X.env.scope.names.lookup y.1=some .cell:=by simpa using this
 exact h
def Blk.clos(B:Blk X K0 x fr)(ok:X.Ok):∀y∈K0.names,y.2=.free->∃c,X.env.cells.lookup y.1=some c:=λy hy e=>ok.has y.1 (.inl<|B.frees y hy e)
theorem Blk.sub(B:Blk X K0 x fr)(ok:X.Ok):∀y c,(AE X.env.cells K0.names []).lookup y=some c->X.env.cells.lookup y=some c :=
 Pr K0.names [] (B.clos ok) λy c e=>by simp at e
theorem Blk.kinds(B : Blk X K0 x fr)(h : (relabel K0 X.env).names.lookup y=some .cell\/(relabel K0 X.env).names.lookup y=some .free) : (y,NameKind.free)∈K0.names :=by
 have e : (relabel K0 X.env).names.lookup y=_ :=qr X.env K0.names y;rw[e]at h;cases q:K0.names.lookup y with
 |none=>rw[q]at h;simp at h
 |some k=>
  have hm:=ze4 q;rw[q]at h;have hk:k=.free:=by
   by_cases hk:k=.free
   .exact hk
   .have a:(k==NameKind.free)=false:=by simpa using hk
    have b:=B.cell _ hm;rw[zeS,a,Bool.false_and,Bool.false_and,if_neg zek]at h;rcases h with h|h
    .exact absurd (zeP h) b
    .exact zeP h
  subst hk;exact hm
theorem Blk.sees(B : Blk X K0 x fr)(hk : X.env.scope.kind= .function)(h : K0.names.lookup y=some .free) : (relabel K0 X.env).names.lookup y=some .cell :=by
 have e : (relabel K0 X.env).names.lookup y=_ :=qr X.env K0.names y;rw[e,h];have h2:=B.frees _ (ze4 h) rfl;simp[hk,h2]
theorem TB(I:Inv X C0 J H s)(B:Blk X K0 x fr){C:Addr}{fp:List Addr}{ρ:Heap}{tk:Nat}{o:Option V}(U:s.heap.objs.size<=C)(M:∀b∈fp,Hn X C0 H b)(Y:∀b∈fp,b<s.heap.objs.size)
  (O:∀b ob,s.heap.get? b=some ob->ρ.get? b=some ob) (hns:ρ.Ns C λ_=>none):Inv (kz X K0 (jb x fr) s H C fp) [] (none::d5 J fr) H {s with heap:=ρ,toks:=tk}:=by
 have A:∀b,b<s.heap.objs.size->b≠C:=λb f=>zeR (zeE f U)
 have cl:∀y c,X.env.cells.lookup y=some c->c<s.heap.objs.size:=λy c e=>by
  obtain⟨v,o,n,_⟩:=I.cell y c e;exact zeo n
 refine⟨⟨I.ok.mod,B.kind,I.ok.glob,I.ok.blt,U,λy z c h1 h2=>I.ok.inj y z c (B.sub I.ok _ _ h1)<|B.sub I.ok _ _ h2,λy hy=>Ju _ _ _<|.inl<|B.kinds hy,λy c h _=>(zek h).elim,I.ok.hd,I.ok.frames,.inl rfl,
  λb f=>⟨A b<|Y b f,λy c e=>(M b f).2.2.2.2.1 y c (B.sub I.ok _ _ e)⟩,I.bs,zeW I.ok.bsz I.sz,λb ob e f=>?_,λb f t=>?_,I.stack,I.EY,I.tab⟩,
  rfl,I.bare,Un.kept O,⟨_,hns,λi y v h1 h2 h3=>?_⟩,λy c e=>?_,I.hok.fresh U,λy c e=>I.qk y c<|B.sub I.ok _ _ e,λp σ=>?_,I.hok.kept O,?_⟩
 .rcases(M b f).2.2.2.1 with z|z
  .exact I.ok.Nn b ob e z
  .have h1:=zeo e
   have h2:=I.ok.bsz;exact absurd (zeE h1 h2) (Nat.not_lt.mpr z)
 .have z:=I.Nq b t
  rcases zed z with z|z
  .exact(M b f).2.1 z
  .exact(M b f).2.2.1 z
 .cases i with
  |zero=>simp at h2
  |succ i=>
   have a:(fr.map (·.1))[i]?=some y:=by
    have z:=h1;exact z
   have d:(d5 J fr)[i]?=some (some v):=by simpa using h2
   rw[zem]at a;unfold d5 at d;rw[zem]at d;cases e:fr[i]? with
   |none=>rw[e]at a;cases a
   |some p=>
    rw[e]at a d;have D:p.1=y:=by simpa using a
    have j : J.getD p.2 none=some v:=by simpa using d
    have t:=List.all_eq_true.mp B.seen p (zeh e);rw[Bool.and_eq_true]at t;have g:K0.names.lookup p.1=some .free:=by simpa using t.1
    have w:X.N[p.2]?=some p.1:=by simpa using t.2
    rw[D]at g w;have hk:=B.frees _ (ze4 g) rfl;have E : J[p.2]?=some (some v):=by
     rw[List.getD_eq_getElem?_getD]at j;cases q : J[p.2]? with
     |none=>rw[q]at j;simp at j
     |some z=>rw[q]at j;simp at j;rw[j]
    obtain⟨m,hn,G⟩:=I.loc;obtain⟨u,r,l⟩:=G p.2 y v w E (.inr<|.inl hk);refine⟨u,r,.inr ⟨.inl<|B.sees I.ok.kind g,?_⟩⟩;rcases l with⟨z,_⟩|⟨_,c,F,z⟩
    .rw[hk]at z;cases z
    .obtain⟨K,k⟩:=Ju K0.names [] y (.inl<|ze4 g)
     have:=B.sub I.ok _ _ k;rw[F]at this;cases this;obtain⟨ob,n,hd⟩:=z;exact⟨c,k,ob,O _ _ n,hd⟩
 .obtain⟨v,ob,n,hd⟩:=I.cell y c (B.sub I.ok _ _ e)
  exact⟨v,ob,O _ _ n,hd⟩
 .exact absurd (show p∈9088 from σ) (by simp)
 .show _=(jb x fr).length
  simp[jb,d5]
end
def PIf(X:Cx)(I:List Expr)(t:TT):Prop :=
 ∀(C0:List<|Addr×Obj) (s:Shared) (J:St) (H:Hp) (Q:Bool->Hp->Prop),Inv X C0 J H s->t J H Q->
  wpAny 9001 X.A (forIn I true λc r=>if r=true then do let ok<-isTrue c X.env (eval c X.env);pure (ForInStep.yield ok)else pure (ForInStep.yield r)) (TP X C0 J Q) X.xe s
def WW:TT:=λ_ H Q=>Q true H
def Pt:PIf X [] WW:=λ_ _ _ H _ I h=>wpAny_tests_nil ⟨H,I,h⟩
def WY(h:PT X c t):PIf X [c] t:=λC0 s J H Q I hw=>wpAny_tests_one (h C0 s J H Q I hw)
def tLC(fr:List<|Str×Nat)(Y:TI)(O:TT)(te:TE):TE:=λJ H Q=>Y J H λσ I=>∃W:Nat->Nat->List V->Hp->Prop,(∃m,W 0 m [] I)/\∀i m F h,W i m F h->F.length<sizeLine/\
 ((σ.stop i h/\∀D,h D=none->Q (.ref D) (upd h D<|.lst F))\/
  (σ.go i h/\∀v R,σ.yld i h v R->O (some v::d5 J fr) R λb Z=>
   if b=true then te (some v::d5 J fr) Z λy M=>∃E,E<m/\W (i+1) E (F++[y]) M else∃E,E<m/\W (i+1) E F Z))
section
variable{X:Cx}
def WZ(h:wpAny M A t Q (λ_ _=>False) s):wpAny M A t Q E s:=ze5 h (λ_ _ x=>x) λ_ _ x=>x.elim
theorem Q9(σ:Nat->Shared->Prop)
  (turn:∀n s,σ n s->wpAny 9017 A (pyNext it) (λr ρ=>match r with
   |none=>R (.ok .next) ρ
   |some v=>wpAny 9017 A (letOwnedTupleGo I it v) (λ_ O=>wpAny 9017 A (assign I env v) (λ_ U=>
     wpAny 9017 A (forIn ifs true λc r=>if r=true then do let ok<-isTrue c env (eval c env);pure (ForInStep.yield ok)else pure (ForInStep.yield r)) (λok M=>
      if ok=true then wpAny 9017 A (eval elt env) (λy Y=>
       wpAny 9017 A (call (.builtin "list.append") [G2,y]) (λ_ s₆=>∃m,m<n/\σ m s₆) (λ_ _=>False) Y) (λ_ _=>False) M
      else∃m,m<n/\σ m M) (λ_ _=>False) U) (λ_ _=>False) O) (λ_ _=>False) ρ) (λ_ _=>False) s)
  (n:Nat) (h:σ n s):codeAny 9017 A (.compLoop (.ListComp elt [⟨I,iter,ifs,0⟩] K0 pos) 0 it G2 env) R s:=by
 refine codeAny_loop rfl σ (λk s' j=>?_) n h
 refine wpAny_noted ?_;refine zeH (wpAny_standAt<|zeH<|ze5 (turn k s' j) (λr ρ a=>?_) λ_ _ z=>z.elim)
 cases r with
 |none=>exact zeY a
 |some v=>
  refine zeH (ze5 a (λ_ O d=>zeH<|ze5 d (λ_ U e=>zeH<|ze5 e (λok M b=>?_) λ_ _ z=>z.elim) λ_ _ z=>z.elim) λ_ _ z=>z.elim)
  cases ok with
  |false=>exact zeY ⟨rfl,b⟩
  |true=>
   exact zeH (zeH<|ze5 b (λy Y f=>zeH<|ze5 f (λ_ s₆ g=>zeY<|zeY ⟨rfl,g⟩) λ_ _ z=>z.elim) λ_ _ z=>z.elim)
theorem W2{px:Pos}{ifs:List Expr}{K0:Scope}{pos ipos:Pos}{fr:List<|Str×Nat}{wi:TI}{tc:TT}{te:TE}(hc:X.calm=true)(B:Blk X K0 x fr)
  (hi:PI X (.Name x px) iter wi) (ht:∀O M C fp,PIf (kz X K0 (jb x fr) O M C fp) ifs tc) (he:∀O M C fp,PE (kz X K0 (jb x fr) O M C fp) elt te)
  (hs:∀v,foldedSetIterable iter X.env v=pure v) {use:Option<|Value->Sem Unit} {U:Value->Shared->Prop} {C0:List<|Addr×Obj} {s:Shared} {J:St} {H:Hp} {Q:VK} (I:Inv X C0 J H s) (h:tLC fr wi tc te J H Q)
  (hend:∀(s2 s6:Shared) (ρ H5:Hp) (fp:List Addr) (C:Addr) (Y:List V) (ob:Obj) (o:Option V) (ps:List<|Addr×Obj),Inv X C0 J ρ s2->(∀b∈fp,Hn X C0 ρ b)->C=s2.heap.objs.size+1->Inv (kz X K0 (jb x fr) s2 ρ C fp) ps (o::d5 J fr) H5 s6->s6.heap.get? s2.heap.objs.size=some ob->(∀s':Shared,Inv X C0 J H5 s'->s'.heap.get? s2.heap.objs.size=some ob->Inv X C0 J (upd H5 s2.heap.objs.size<|.lst Y) s')->Q (.ref s2.heap.objs.size) (upd H5 s2.heap.objs.size<|.lst Y)->compPost 9001 X.A X.xe use U (.ref s2.heap.objs.size) C (.ok .next) s6) :
  wpAny 9001 X.A (comprehension (.ListComp elt [⟨.Name x px,iter,ifs,0⟩] K0 pos) K0 X.env ipos (newList []) false (eval iter X.env) use) U X.xe s:=by
 have R:=zaH (B.clos I.ok);refine wpAny_comprehension_free rfl hs R B.kind B.loc (thn (hi C0 s J H _ I h) λv s1 h1=>thn h1 λitv s2 h2=>?_)
 obtain⟨it,fp,tn,σ,ρ,rfl,l,T,st2,f2,W,⟨m0,w0⟩,turn⟩:=h2;refine wpAny_newObj_type (wpAny_newFunctionEnv B.cell (by intro y hy;simp at hy) (λg hns Z=>?_) B.kind)
 generalize hG:s2.heap.push {cls:=.type "list",dict:=none,data:=.seq ([]:List Value).toArray}=G at hns Z⊢;have hC:G.objs.size=s2.heap.objs.size+1:=by rw[<-hG,Heap.size_push]
 have P:s2.heap.objs.size≠G.objs.size:=by lia
 have old:∀b ob,s2.heap.get? b=some ob->g.get? b=some ob:=λb ob e=>by
  have a:=zeo e;refine Z.extBut b ob (zeR (by rw[hC];exact Nat.lt_succ_of_lt a)) (zep _ ?_)
  rw[<-hG];exact zep _ e
 have hacc:g.get? s2.heap.objs.size=some {cls:=.type "list",data:=.seq ([]:List Value).toArray 0}:=by
  refine Z.extBut _ _ P (zep _ ?_);rw[<-hG];exact zeK _ rfl
 have hlt:∀b∈fp,b<s2.heap.objs.size:=λb a=>by
  obtain⟨o,e,_⟩:=T.obj 0 _ st2 b a;exact zeo e
 have I4:=TB (tk:=s2.toks+([]:List<|Str×Value).length) (o:=none) l B (show s2.heap.objs.size<=G.objs.size by lia) f2 hlt old hns
 have tn4:=T.keep 0 _ _ st2 λb _ o e=>old b o e
 have Dfs:s2.heap.objs.size∉frs X.stack:=λz=>by
  obtain⟨_,o,ho,_⟩:=l.stack.mem z;exact absurd (zeo ho) (ze2 _)
 have t:∀y c,X.env.cells.lookup y=some c->c≠s2.heap.objs.size:=λy c e=>by
  obtain⟨v,o,ho,_⟩:=l.cell y c e;exact zeR (zeo ho)
 have DL:=Nat.ne_of_gt l.lt;have D:s2.heap.objs.size∉fp:=λz=>absurd (hlt _ z) (ze2 _)
 have loop:∀j:Shared,j={s2 with heap:=g,toks:=s2.toks+([]:List<|Str×Value).length}->
   codeAny 9001 X.A (.compLoop (.ListComp elt [⟨.Name x px,iter,ifs,0⟩] K0 pos) 0 (.ref it) (.ref s2.heap.objs.size)<|compEnvC K0 (AE X.env.cells K0.names []) G.objs.size X.env)
    (compPost 9001 X.A X.xe use U (.ref s2.heap.objs.size) G.objs.size) j:=by
  rintro j rfl
  refine Q9
   (λn s'=>∃i o H' Y d k,Inv 9016 [] (o::d5 J fr) H' s'/\tn i s'.heap/\(∀b∈fp,H' b=none)/\H' s2.heap.objs.size=none/\
    s'.heap.get? s2.heap.objs.size=some {cls:=.type "list",data:=.seq (d:List Value).toArray k}/\Vals Y d/\W i n Y H') ?_ m0
   ⟨0,none,ρ,[],[],0,I4,tn4,λb a=>(f2 b a).1,l.hok.fresh<|zen _,hacc,.nil,w0⟩
  rintro n s5 ⟨i,o,H5,Y,d,k,I5,st5,fr5,D5,m,r5,w5⟩
  have N:∀{H':Hp},(∀b∈fp,H' b=none)->∀b∈fp,Hn 9016 [] H' b:=λhn b a=>
   ⟨hn b a,(I5.ok.exf b a).1,I5.ok.Np b a,.inl a,(I5.ok.exf b a).2,λp f=>absurd (show p∈9088 from f) (by simp)⟩
  have F:∀{H':Hp},H' s2.heap.objs.size=none->Hn 9016 [] H' s2.heap.objs.size:=λhn=>
   ⟨hn,P,Dfs,.inr<|zen _,λy c e=>t y c<|B.sub l.ok _ _ e,λp f=>absurd (show p∈9088 from f) (by simp)⟩
  obtain⟨hz,alt⟩:=turn i n Y H5 w5;have hzl:d.length<=sizeLine:=by rw[<-r5.length];exact Nat.le_of_lt hz
  rcases alt with⟨stop,fin⟩|⟨go,step⟩
  .refine thn (T.done 9016 rfl rfl rfl hc i (Ba [s2.heap.objs.size] s5.heap) s5 (o::d5 J fr) H5 _ ?_ (λb a=>?_) st5 stop) λr s6 ⟨hr,I6⟩=>?_
   .exact(Inv.pinned I5 (λb a=>by rw[zeb a];exact F D5) λb a=>by
     rw[zeb a];exact⟨_,m,λv z=>by cases z⟩)
   .obtain⟨f0,f1,K,f3,f4,f5⟩:=N fr5 b a
    refine⟨f0,f1,K,f3,f4,λp f=>?_⟩
    have S:=(zec f).elim (λz=>absurd (show p∈9088 from z) (by simp)) id
    have:=(C3 S).1;rw[zeb this];exact λe=>D (by rw[e];exact a)
   .subst hr
    refine hend s2 s6 ρ H5 fp G.objs.size Y _ o _ l f2 hC I6 (I6.pin (s2.heap.objs.size,{cls:=.type "list",data:=.seq d.toArray k})<|zel _<|ky (by simp) m).1 (λs' I' hd=>I'.track D5 l.sz DL t (λp f z=>?_) ⟨Nat.le_of_lt hz,d,k,r5,hd⟩) (fin _ D5)
    obtain⟨e,_⟩:=l.pin p f;rw[z]at e;exact absurd (zeo e) (ze2 _)
  .refine WZ (thn (T.item 9016 rfl rfl rfl hc i (Ba [s2.heap.objs.size] s5.heap) s5 (o::d5 J fr) H5 _ ?_ (λb a=>?_) st5 go) λr s6 ⟨u,hr,h6⟩=>?_)
   .exact(Inv.pinned I5 (λb a=>by rw[zeb a];exact F D5) λb a=>by
     rw[zeb a];exact⟨_,m,λv z=>by cases z⟩)
   .obtain⟨f0,f1,K,f3,f4,f5⟩:=N fr5 b a
    refine⟨f0,f1,K,f3,f4,λp f=>?_⟩
    have S:=(zec f).elim (λz=>absurd (show p∈9088 from z) (by simp)) id
    have:=(C3 S).1;rw[zeb this];exact λe=>D (by rw[e];exact a)
   .subst hr
    refine thn h6 λ_ s7 ⟨v,H7,I7,rv,y7,st7,fr7⟩=>?_
    have p7:=I7.pin (s2.heap.objs.size,{cls:=.type "list",data:=.seq d.toArray k}) (zel _<|ky (by simp) m)
    have hD7:=p7.1;have D7:=p7.2.1;have I7u:Inv 9016 [] (o::d5 J fr) H7 s7:=Inv.uW I7;have I8:=Inv.pinned I7u (λb a=>by
      rcases zed a with e|a
      .rw[e];exact F D7
      .exact N fr7 b a) λb a=>by
      rcases zed a with e|a
      .rw[e];exact⟨_,hD7,λv z=>by cases z⟩
      .exact T.obj _ _ st7 b a
    have hl : Loc (kz X K0 (jb x fr) s2 ρ G.objs.size fp).env.scope x := .inl (lookup_relabel_local B.here);have pk:∀{q:St} {H':Hp} {s':Shared},Inv 9016 ([]++Ba (s2.heap.objs.size::fp) s7.heap) q H' s'->
      tn (i+1) s'.heap/\(∀b∈fp,H' b=none)/\H' s2.heap.objs.size=none/\s'.heap.get? s2.heap.objs.size=some {cls:=.type "list",data:=.seq d.toArray k}:=fun{q H' s'} I'=>by
     have pD:=I'.pin (s2.heap.objs.size,{cls:=.type "list",data:=.seq d.toArray k}) (zel _<|zel _<|ky (by simp) hD7)
     refine⟨T.keep _ _ _ st7 λb a ob e=>(I'.pin (b,ob)<|zel _<|zel _<|ky (zei _ a) e).1,λb a=>?_,pD.2.1,pD.1⟩
     obtain⟨ob,e,_⟩:=T.obj _ _ st7 b a;exact(I'.pin (b,ob)<|zel _<|zel _<|ky (zei _ a) e).2.1
    refine WZ (thn (Ph (i :=0) B.nd rfl hl (.inr<|lookup_relabel_local B.here) _ s7 _ H7 v u (λq H'=>q=some v :: d5 J fr/\H'=H7) I8 rv ⟨rfl,rfl⟩) λ_ s8 ⟨σ8,H8,I9,e1,e2⟩=> ?_)
    subst e1 e2;refine WZ (thn (ht s2 ρ G.objs.size fp _ s8 _ H8 _ I9<|step v H8 y7) λok s9 ⟨H9,E,q10⟩=>?_)
    cases ok with
    |false=>
     obtain⟨m',hm,w'⟩:=q10;obtain⟨k1,k2,k3,k4⟩:=pk E;exact⟨m',hm,i+1,some v,H9,Y,d,k,Inv.uW E,k1,k2,k3,k4,r5,w'⟩
    |true=>
     refine WZ (thn (he s2 ρ G.objs.size fp _ s9 _ H9 _ E q10) λy' s10 ⟨y,H10,I11,ry,m',hm,w'⟩=>?_)
     obtain⟨k1,k2,k3,k4⟩:=pk I11;refine append_at k4 (λh' hs' hD'=>?_) (by rw[zeJ];exact hzl)
     have I12:Inv 9016 [] (some v::d5 J fr) H10 {s10 with heap:=h'} :=
      (Inv.uW I11).turned (λb ob a e=>(hs'.2 b a).trans e) k3 P (.inr<|zen _) (λz c e=>t z c<|B.sub l.ok _ _ e) λp f=>absurd (show p∈9088 from f) (by simp)
     refine⟨m',hm,i+1,some v,H10,Y++[y],d++[y'],k+1,I12,T.keep _ _ _ k1 λb a ob e=>(hs'.2 b λz=>D (by rw[<-z];exact a)).trans e,k2,k3,?_,r5.append<|.cons ry .nil,w'⟩
     rw[hD'];simp
 exact codeAny_compStart_list (loop _ rfl) (T.self _ 0 _ _ _ tn4<|loop _ rfl)
theorem Zo(O:X.calm=true)(B:Blk X K0 x fr)
  (hi:PI X (.Name x px) iter wi) (ht:∀M ρ C fp,PIf (kz X K0 (jb x fr) M ρ C fp) Y tc) (he:∀M ρ C fp,PE (kz X K0 (jb x fr) M ρ C fp) U te)
  (hs:∀v,foldedSetIterable iter X.env v=pure v:=by intro _;rfl):PE X (.ListComp U [⟨.Name x px,iter,Y,0⟩] K0 pos) (tLC fr wi tc te):=by
 intro C0 s J H Q I h;refine W2 O B hi ht he hs I h λs2 G A k fp C K ob o ps D l y i r trk m=>?_
 obtain⟨F,t,_⟩:=i.loc;refine⟨F,t,λh' a=>?_⟩
 have p:s2.heap.get? C=none:=by
  cases e:s2.heap.get? C with
  |none=>rfl
  |some ob=>exact absurd (zeo e) (by rw[y];exact Nat.not_lt.mpr (Nat.le_succ _))
 have f:∀b ob,s2.heap.get? b=some ob->b≠C:=λb ob e z=>by rw[z,p]at e;cases e
 have g:=i.base;have σ:Un (frs X.stack) fp A k s2.heap h':=⟨λb ob e n d hx=>a.extBut b ob (f b ob e)<|g.keep b ob e n d hx,λb ob e n d hx=>by
   obtain⟨sl,q⟩:=g.slot b ob e n d hx;exact⟨sl,a.extBut b _ (f b ob e) q⟩,g.free,λb ob e hx=>by
   obtain⟨o',q⟩:=g.there b ob e hx;exact⟨o',a.extBut b _ (f b ob e) q⟩,g.tups,g.x9,g.ya⟩
 have j:k C=none:=i.free;have w:=λb ob e=>(i.hok b ob e).stay (λc u O q=>a.extBut c u (by
   rintro rfl
   rcases O with rfl|O
   .rw[j]at e;cases e
   .rw[j]at O;cases O) q) (λ_ q=>q) λ_ _ _ q=>q
 have E:Inv X C0 J k {G with heap:=h'}:=D.call' (i.os) σ w i.bare λb d=>⟨(l b d).2.2.2.1,(l b d).2.1,(l b d).2.2.2.2.1,(l b d).2.2.2.2.2⟩
 exact⟨.ref s2.heap.objs.size,upd k s2.heap.objs.size<|.lst K,trk _ E (a.extBut _ _ (by rw[y];exact zeR (Nat.lt_succ_self _)) r),rfl,m⟩
end
def tyN(H:Hp):V->String
 | .non=>"NoneType"
 | .bl _=>"bool"
 | .int _=>"int"
 | .str _=>"str"
 | .ref a=>match H a with
  |some (.lst _)=>"list"
  |some (.tup _)=>"tuple"
  |some (.dK _)=>"dict"
  |some (.frz _ (.lst _))=>"list"
  |_=>"?"
 |_=>"?"
def C6(T n:String):Bool:=T==n||(T=="bool"&&n=="int")
def fW:List String:=["NoneType","bool","int","str","list","tuple","dict"]
def iX:List String:=["bool","int","str","list","tuple","dict"]
theorem Io(K:zee):∀T∈fW,∀n∈iX,PySem.W.kitOne K (.type T) (.type n)=some (C6 T n):=by
 intro T a n hn;simp only[fW,iX,List.mem_cons,List.not_mem_nil,or_false]at a hn;rcases a with rfl|rfl|rfl|rfl|rfl|rfl|rfl<;>rcases hn with rfl|rfl|rfl|rfl|rfl|rfl<;>kernel_rfl
theorem zaJ{K:zee}{x:V}(h:tyN H x∈fW):C5 K H x (.type<|tyN H x):=by
 have no : ¬("?"∈fW):=by decide
 cases x with
 |non=>exact .non
 |bl b=>exact .bl b
 |int i=>exact .int i
 |str z=>exact .str z
 |ref a=>
  unfold tyN at h⊢;dsimp only at h⊢;cases e:H a with
  |none=>rw[e]at h;exact absurd h no
  |some o=>
   rw[e]at h;cases o with
   |lst xs=>exact .lst e
   |tup xs=>exact .tup e
   |dK G0=>exact .dK e
   |frz ob u=>
    cases u with
    |lst xs=>exact .frz e
    |_=>exact absurd h no
   |_=>exact absurd h no
 |_=>exact absurd h no
def zaK(xs:List V)(H:Hp)(Q:VK):Prop:=∃x n,xs=[x,.ty n]/\tyN H x∈fW/\n∈iX/\Q (.bl<|C6 (tyN H x) n) H
section
variable{X:Cx}
theorem Li:j4 X (.builtin "isinstance") zaK:=by
 intro C0 s J H xs us Q I r h;obtain⟨x,n,rfl,h1,h2,q⟩:=h;obtain⟨u,v,rfl,a,b⟩:=vals2 r;cases b;exact Q3 I a (zaJ h1) (Io X.K _ h1 _ h2) λtk=>⟨.bl _,H,I.tok tk,rfl,q⟩
theorem W3(hi:IntsAre I ns)(hx:I.toArray=intItems xs):preSum (numAt xs) xs.size=ns.sum:=by
 have a:ns=xs.toList.map (·.1):=by
  rw[<-nums_intItems,<-hx];exact hi.numsOf.symm
 rw[preSum_eq,List.take_of_length_le (by simp),a]
def zaL(K:zee)(xs:List V)(H:Hp)(Q:VK):Prop:=∃(p:Addr) (ns:List Int),xs=[.ref p]/\SqL K H p (ns.map V.int)/\Q (.int ns.sum) H
theorem TC(ρ:X.calm=true):j4 X (.builtin "sum") (zaL X.K):=by
 intro C0 s J H xs us Q I r h;obtain⟨p,ns,rfl,a,q⟩:=h;obtain⟨u,rfl,c⟩:=vals1 r;cases c;obtain⟨e,b,pl,hz⟩:=I.list a;have hi:=intsAre_of b;obtain⟨f,hx⟩:=hi.allInts.items;refine sum_intListG (I.ok.hd ρ) (hx▸pl.isList) λh' tk d hk=>?_
 rw[W3 hi hx];exact⟨.int ns.sum,H,I.kept hk,⟨d,rfl⟩,q⟩
theorem Lj:∀{us:List Value},Vals (bs.map V.bl) us->LSm.BoolsAre us bs:=by
 induction bs with
 |nil=>intro us r;rw[List.map_nil]at r;cases r;exact .nil
 |cons b bs a=>
  intro us r;cases r with
  |cons c d=>
   cases c;exact .cons b (a d)
def zaM(K:zee)(xs:List V)(H:Hp)(Q:VK):Prop:=∃(p:Addr) (bs:List Bool),xs=[.ref p]/\SqL K H p (bs.map V.bl)/\Q (.bl<|bs.all id) H
theorem TH(ρ:X.calm=true):j4 X (.builtin "all") (zaM X.K):=by
 intro C0 s J H xs us Q I r h;obtain⟨p,bs,rfl,k,q⟩:=h;obtain⟨u,rfl,m⟩:=vals1 r;cases m;obtain⟨a,l,pl,hz⟩:=I.list k;have g:=Lj l;have c:=pl.isList;have d:p<s.heap.objs.size:=by obtain⟨_,e,_⟩:=c;exact zeo e
 refine call_all_walk (wpAny_pyIter_list c ?_);refine⟨s.heap.objs.size,[s.heap.objs.size,p],[s.heap.objs.size],a.toArray.size,_,_,λi=>(bs[i]?).getD true,rfl,Walks.list (A:=X.A.in1) (I.ok.hd ρ) _ p (zeR d) a.toArray,
  ⟨⟨_,zeK _ rfl,rfl,rfl⟩,c.push _⟩,λi v s' o n j f=>?_,λh' tk hk=>?_⟩
 .obtain⟨b,e,rfl⟩:=g.get i v (by simpa using j)
  simp only[e,Option.getD_some]at f;exact wpAny_truthy_bool f
 .have e:((List.range a.toArray.size).all λi=>(bs[i]?).getD true)=bs.all id:=by
   rw[zeJ,g.length];exact LSm.range_all bs
  rw[e];exact⟨.bl<|bs.all id,H,I.kept<|LSm.kept_iter hk,rfl,q⟩
def NP(K:zee):V->List V->Hp->VK->Prop:=λx vs H Q=>∃p xs y,x=.ref p/\vs=[y]/\SqL K H p xs/\rZ y=true/\xs.all rZ=true/\Q (.int ((xs.countP λz=>eqV z y:Nat):Int)) H
theorem FD:∀{xs:List V} {us:List Value},Vals xs us->xs.all rZ=true->us.countP (eqU x)=xs.countP λy=>eqV y x
 |_,_,.nil,_=>rfl
 |y::xs,u::us,.cons r t,f=>by
  rw[List.all_cons,Bool.and_eq_true]at f;rw[List.countP_cons,List.countP_cons,NK r f.1,FD t f.2]
theorem TJ:MtR X "list.count" (NP X.K):=by
 intro C0 s J H x vs v us Q I l k h;obtain⟨p,xs,y,rfl,rfl,g,f,fs,q⟩:=h;cases l;obtain⟨u,rfl,j⟩:=k.one;obtain⟨a,r,pl,hz⟩:=I.list g;obtain⟨⟨oc,od,i,osl⟩,n,e,c,d,hd⟩:=pl;cases c;cases d;cases hd
 refine call_meets F.slot_list_count ⟨_,e,rfl⟩ F.entry_list_count (F.args_list_count_2 _ _) (SeqAt.list_countAt p a.toArray n none osl u<|eqU y) ⟨e,λw hw=>uY j f r fs w (by simpa using hw),?_⟩
 refine⟨.int _,H,I.tok _,⟨_,rfl⟩,?_⟩;have b:a.toArray.toList.countP (eqU y)=xs.countP λz=>eqV z y:=by
  rw[<-FD r fs]
 rw[b];exact q
theorem TK{K:zee}{tg:Expr}(a it:Addr)(n:Nat)(ρ:∀i (X:Cx) C0 s J H xs,X.K=K->Inv X C0 J H s->SqL K H a xs->i<=n->xs.length=n->True) :
  Turn P w K tg ⟨λi H=>i<n/\∃xs x,xs.length=n/\SqL K H a xs/\xs[n-1-i]?=some x,λi H x H'=>H'=H/\∀xs,SqL K H a xs->xs[n-1-i]?=some x,λi H=>i=n⟩ [it] it (λi h=>h.IsRevIter it a<|(n:Int)-1-(i:Int)) where
 mem:=by simp
 obj:=λi h st b f=>by
  fail "q9"
 keep:=λi h h' st k=>st.at λo e=>k it (by simp) o e
 item:=by
  intro X D hw j F i C0 s J H E I m st C;subst D hw j;obtain⟨hi,xs,x,M,G,hx⟩:=C;obtain⟨Z,V,p,hz⟩:=I.list G;obtain⟨u,hu,T⟩:=V.get hx;obtain⟨r,t,S,y,A,B⟩:=m it (by simp)
  have q:(n:Int)-1-(i:Int)=((n-1-i:Nat):Int):=by lia
  have l:=st;rw[q]at l;refine wpAny_pyNext_rev_item l p.isList (by simpa using hu) λh' g W=>?_
  have Q:((n-1-i:Nat):Int)-1=(n:Int)-1-((i+1:Nat):Int):=by lia
  rw[Q]at g;have σ:Inv X C0 J H {s with heap:=h'}:=I.turned (λb o f e=>(W.2 b f).trans e) r t y A B
  obtain⟨o,e,c,d⟩:=id g;exact⟨u,rfl,Ic e c d (by decide) ⟨x,H,σ,T,⟨rfl,λO hy=>by rw[I.Lb hy G];exact hx⟩,g,λb f=>(m b f).1⟩⟩
 done:=by
  intro X D hw j F i C0 s J H E I m st C;obtain⟨r,t,S,y,A,B⟩:=m it (by simp)
  have N:=C;subst N;have q:(i:Int)-1-(i:Int)= -1:=by lia
  rw[q]at st;exact wpAny_pyNext_rev_end (I.ok.hd F) st λh' R=>⟨rfl,I.turned (λb o f e=>R b o f e) r t y A B⟩
 self:=λ_ _ _ _ _ st h=>wpAny_pyIter_revIter st h
def Itb(K:zee)(a:Addr)(n:Nat):It :=
 ⟨λi H=>i<n/\∃xs x,xs.length=n/\SqL K H a xs/\xs[n-1-i]?=some x,λi H x H'=>H'=H/\∀xs,SqL K H a xs->xs[n-1-i]?=some x,λi H=>i=n⟩
def zaN(K:zee)(I:TA):TI:=λJ H R=>I J H λvs h=>∃a xs,vs=[.ref a]/\SqL K h a xs/\R (Itb K a xs.length) h
theorem zaO(ρ:Gl X "reversed")(hm:X.mg "reversed"=none)(ha:PA X [a] O)(M:starEach [a] X.env=[9111]:=by rfl):PI X tg (.Call (.Name "reversed" p) [a] [] pos) (zaN X.K O):=by
 intro C0 s J H R I h;refine Call_ (A9 I ρ hm boot_reversed<|PyProof.Rows.callWith_type1 (thn 9109 λus s1 ⟨vs,i,c,m,k⟩=>?_) M rfl)
 obtain⟨l,xs,e,j,q⟩:=k;subst e;cases m with
 |cons r n=>
  cases n;cases r;obtain⟨g,t,pl,hz⟩:=c.list j;have d:xs.length=g.toArray.size:=by rw[zeJ];exact t.length
  refine call_reversed_list pl.isList ?_;have st:(s1.heap.push<|revObj l<|(g.toArray.size:Int)-1).IsRevIter s1.heap.objs.size l ((xs.length:Int)-1-((0:Nat):Int)):=⟨_,zeK _ rfl,rfl,by rw[d];simp[revObj]⟩
  refine wpAny_pyIter_revIter st ?_;refine⟨s1.heap.objs.size,9120,_,_,i,rfl,c.kept λb o e=>zep _ e,TK l _ xs.length λ_ _ _ _ _ _ _ _ _ _ _ _=>trivial,st,λb f=>?_,q⟩
  fail "qg"
mutual
inductive qt(K:zee)(H:Hp):V->PyData->Prop
 |non:qt K H .non .none
 |bl (b:Bool):qt K H (.bl b) (.bool b)
 |int (i:Int):qt K H (.int i) (.int i)
 |str (x:Str):qt K H (.str x) (.str x)
 |lst {a:Addr} {xs:List V} {ds:List PyData}:SqL K H a xs->qu K H xs ds->qt K H (.ref a) (.list ds)
 |tup {a:Addr} {xs:List V} {ds:List PyData}:SqT K H a xs->qu K H xs ds->qt K H (.ref a) (.tuple ds)
inductive qu(K:zee)(H:Hp):List V->List PyData->Prop
 |nil:qu K H [] []
 |cons {x:V} {xs:List V} {d:PyData} {ds:List PyData}:qt K H x d->qu K H xs ds->qu K H (x::xs) (d::ds)
end
mutual
theorem qt.reads{J:St}{H:Hp}(I:Inv X C0 J H s):∀{x:V} {d:PyData},qt X.K H x d->∀{u:Value},RelV x u->∃ρ,Reads s.heap u d ρ
 |_,_,.non,_,r=>by cases r;exact⟨_,.none⟩
 |_,_,.bl b,_,r=>by cases r;exact⟨_,.bool b⟩
 |_,_,.int i,_,r=>by obtain⟨t,rfl⟩:=r;exact⟨_,.int i t⟩
 |_,_,.str z,_,r=>by obtain⟨t,rfl⟩:=r;exact⟨_,.str z t⟩
 |_,_,.lst a hd,_,r=>by
  cases r;obtain⟨g,f,pl,_⟩:=I.list a;obtain⟨ρ,ha⟩:=qu.reads I hd f;obtain⟨o,n,e,c,_,d⟩:=pl;exact⟨_,.list e c d ha⟩
 |_,_,.tup a hd,_,r=>by
  cases r;obtain⟨g,f,pl,_⟩:=I.tuple a;obtain⟨ρ,ha⟩:=qu.reads I hd f;obtain⟨o,e,c,n,d⟩:=pl;exact⟨_,.tuple e c d ha⟩
theorem qu.reads{J:St}{H:Hp}(I:Inv X C0 J H s):∀{xs:List V} {ds:List PyData},qu X.K H xs ds->∀{us:List Value},Vals xs us->∃ρ,ReadsAll s.heap us ds ρ
 |_,_,.nil,_,r=>by cases r;exact⟨_,.nil⟩
 |_,_,.cons h t,_,r=>by
  cases r with
  |cons b c=>
   obtain⟨ρ,ha⟩:=qt.reads I h b;obtain⟨bs,a⟩:=qu.reads I t c;exact⟨_,.cons ha a⟩
end
def W4(K:zee):R2:=λx y H Q=>∃h D,qt K H x h/\qt K H y D/\SeqAt.shaped h=true/\SeqAt.shaped D=true/\Q (.bl<|PyData.eqv h D) H
def W5(K:zee):R2:=λx y H Q=>∃h D,qt K H x h/\qt K H y D/\SeqAt.shaped h=true/\SeqAt.shaped D=true/\Q (.bl<|!PyData.eqv h D) H
theorem zaP(hu:X.A.units+64<cLine):OpR X (compareOp .Eq) (W4 X.K):=by
 intro C0 s J H x y v u Q I c d h;obtain⟨g,i,ha,a,sa,e,q⟩:=h;obtain⟨f,b⟩:=ha.reads I c;obtain⟨bs,rb⟩:=a.reads I d;exact eq_dataH b rb sa e hu ⟨.bl _,H,I,rfl,q⟩
theorem zaQ(hu:X.A.units+64<cLine):OpR X (compareOp .NotEq) (W5 X.K):=by
 intro C0 s J H x y v u Q I c d h;obtain⟨g,i,ha,a,sa,e,q⟩:=h;obtain⟨f,b⟩:=ha.reads I c;obtain⟨bs,rb⟩:=a.reads I d;exact ne_dataH b rb sa e hu ⟨.bl _,H,I,rfl,q⟩
def W6:OpR X (binaryOp .Mult) (rI IntMulOk λi j=>.int<|i*j):=opI λ_ _ _ _ _ _ _ a q=>mul_int q a
def zaR(K:zee)(xs:List V)(H:Hp)(Q:VK):Prop:=(∃p h,xs=[.ref p]/\(SqL K H p h\/SqT K H p h)/\Q (.int h.length) H)\/(∃z,xs=[.str z]/\z.length<=sizeLine/\Q (.int z.length) H)
def Ra:j4 X (.builtin "len") (zaR X.K):=Jq.or Jr
end
structure Top(K:zee)(mg:Str->Option Value)(x:Str)(st:Stmt):Prop where
 ex:∃(f:Addr) (fd:FuncData),Fun K x x st f fd/\mg x=some (.ref f)
structure Def(P:Program)(w:World)(K:zee)(mg:Str->Option Value)(base:Heap)(CX:CXT)(k:Nat)(x:Str)(ps:List Str)(sp:Sp):Prop where
 ex:∃(f:Addr) (fd:FuncData),dt P w K mg base CX k f fd ps sp/\mg x=some (.ref f)/\PySem.W.keepIn K (.ref f)=true/\Binds K fd ps []
section
variable{P:Program}{w:World}{K:zee}{mg:Str->Option Value}{base:Heap}
def Top.mk'{st:Stmt}{h:Heap}{f:Addr}{oc:Value}{od an:Option Addr}{osl:Array<|Option Value}{kV doc pm cdv ct:Value}(X:K.In h)(G:h.Ns mainGlobals mg)(a:PySem.W.nsIn K mainGlobals x=some (some<|.ref f))
  (l:K.lookup f=some ⟨oc,od,.func<|PySem.W.fnOf x x (jd st) (fw st) (ai st) .none kV doc pm an cdv ct,osl⟩) (c:PySem.W.codeIn K cdv x=true) (k:PySem.W.keepIn K (.ref f)=true):Top K mg x st :=
 ⟨⟨f,_,zaG l c k,PySem.W.mg_of X G a⟩⟩
theorem Top.def{st:Stmt}{N ps:List Str}{k:Nat}{sp:Sp}(T:Top K mg x st)(S:ay N ps<|ai st)(len:∀vs H Q E,sp vs H Q E->vs.length=ps.length)
  (ρ:∀(kV doc pm:Value) (an:Option Addr) (cdv ct:Value) (us:List Value),us.length=ps.length->bindArgs (PySem.W.fnOf x x (jd st) (fw st) (ai st) .none kV doc pm an cdv ct) ⟨us,[]⟩=pure (ps.zip us))
  (I:∀(f:Addr) (cdv:Value) (A:Around) (outer:List Env) (s:Shared) (H:Hp) (vs:List V) (Q:VK) (E:XK),cn k (A.deeper<|envOfC x (ai st) s.heap.objs.size f cdv)->sp vs H Q E->
   ∃t,PSs (Be CX0 P w K mg base N x (ai st) f cdv A outer s H E).nox (fw st) t/\t {nx:=λ_ H'=>Q .non H',rt:=Q} (start N vs) H):Def P w K mg base CX0 (k+1) x ps sp:=by
 obtain⟨f,fd,F,m⟩:=T.ex;exact⟨⟨f,fd,F.ok S len<|I f,m,F.kp,F.binds ρ⟩⟩
theorem zaS{x:Str}{ps:List Str}{sp:Sp}{p pos:Pos}{e:Expr}{es:List Expr}{t:TA}(D:Def X.prog X.w X.K X.mg X.base CX0 k x ps sp)(U:cn k X.A)(ha:PA X (e::es) t)(O:Gl X x:=by rfl)
  (I:(x==("__debug__":Str))=false:=by decide) (M:starEach (e::es) X.env=9013::starEach es X.env:=by rfl) (ρ:(backTo pos<|starEach es X.env).any (·.1)=false:=by rfl) :
  PE X 9032 (qp sp [] E0 t):=by
 obtain⟨f,fd,F,m,kp,b⟩:=D.ex;exact Pk F U O m kp b .nil FC ha I M ρ
theorem W7{x:Str}{ps:List Str}{sp:Sp}{p pos:Pos}(D:Def X.prog X.w X.K X.mg X.base CX0 k x ps sp)(M:cn k X.A)(ρ:Gl X x:=by rfl)
  (I:(x==("__debug__":Str))=false:=by decide):PE X 9118 (qp sp [] E0 Bc):=by
 obtain⟨f,fd,F,m,kp,b⟩:=D.ex;exact Tn F M ρ m kp b .nil FC I
end
open PySem.W in
theorem DX:∀(ns:List Int) (n:Int),n∈ns->Builtin.Int.intBits n<=WData.weightAll (ns.map WData.int)
 |m::r,n,h=>by
  rw[zey];have e:WData.weightAll (WData.int m::r.map WData.int)=WData.weight (.int m)+1+WData.weightAll (r.map WData.int):=by simp only[WData.weightAll]
  rw[e];rcases zed h with rfl|h
  .have:Builtin.Int.intBits n=WData.weight (.int n):=by simp only[WData.weight,Builtin.Int.intBits]
   lia
  .have:=DX r n h
   lia
open PySem.W in
theorem Lk{ns:List Int}(h:WData.layableAll [WData.list<|ns.map WData.int]=true):∀n∈ns,Builtin.Int.intBits n<=1048576:=λn hn=>by
 have h1:(WData.list<|ns.map WData.int).layable=true:=PySem.W.layableW_arg h _ (by simp)
 have h2:=(PySem.W.layableW_iff.mp h1).2.2;have h3:WData.weight (.list<|ns.map WData.int)=WData.weightAll (ns.map WData.int):=by simp only[WData.weight]
 have h4:=DX ns n hn;have a:(2:Nat)^20=1048576:=by decide
 lia
open PySem.W PySem.Calls in
theorem W8{l:OpenLaw}{q:Program}{ρ:List Str}{XP:(Str->Option Value)->Heap->Prop}{U:World->Heap->Prop}{d:DefRec}
  (hn:l.most=some n) (O:d.params.defaults=[])
  (call:∀(w:World) (s₀ I:Shared) (mg mb:Str->Option Value) (M a:Addr) (vs:List Value) (ns:List Int),
   Ground q ρ [] XP w s₀ mg mb I.heap->U w I.heap->mg d.name=some (.ref M)->
   I.heap.get? a=some {cls:=.type "list",data:=.seq vs.toArray}->IntsAre vs ns->ns.length<=n->(∀k∈ns,Builtin.Int.intBits k<=1048576)->I.gens=#[]->
   codeAny (model l.prog w) callerA (.call (.ref M) ⟨[.ref a],[]⟩) (λr s'=>r=.ok (.ret<|.bool true)/\OldK I.heap s'.heap/\s'.os=I.os/\AllBare s'.gens) I) :
  WalkO q ρ XP U l.row.toRowW d [] (λf vs=>PySem.call f vs):=by
 intro w s₀ I mg mb G Y M o pm A doc dV kV B hd t s i u args m p h c y j v;obtain rfl:dV=.none:=Dflts.none s O;obtain⟨a,vs,ns,rfl,rfl,g,b,e⟩:=Att.Q7 hn h j;refine enter_call (codeAny_mono (call w s₀ I mg mb M a vs ns G Y i g b e (Lk c) u) λr s' x=>?_)
 obtain⟨rfl,h2,h3,h4⟩:=x;exact⟨.inl ⟨.bool true,.bool true,[],rfl,λ_=>rfl,.bool true,Att.Q8 l _,λ_=>⟨List.Pairwise.nil,λ_ hm=>(nomatch hm)⟩⟩,h2,h3,h4⟩
def TL(K:zee):Sp:=λvs H Q _=>∃(a:Addr) (ns:List Int),vs=[.ref a]/\SqL K H a (ns.map V.int)/\ns.length<=63/\(∀k∈ns,Builtin.Int.intBits k<=1048576)/\∀H',Q (.bl true) H'
theorem TM{l:PySem.W.OpenLaw}{q:Program}{I:List Str}{XP:(Str->Option Value)->Heap->Prop}{M:World->Heap->Prop}{d:DefRec}{K:Params->zee}{x:Str}{st:Stmt}
  (hn:l.most=some 63) (ρ:d.params.defaults=[]) (hr:cn k callerA) (O:∀(w:World) (h:Heap),M w h->(K w.params).In h/\∀c T ps,vx (K w.params)=some (c,T,ps)->h.get? T=some (PySem.W.tabObj #[]))
  (U:∀(kV doc pm:Value) (an:Option Addr) (cdv ct u:Value),bindArgs (PySem.W.fnOf d.name d.name (jd st) (fw st) (ai st) .none kV doc pm an cdv ct) ⟨[u],[]⟩=pure [(x,u)])
  (F:∀(w:World) (mg:Str->Option Value) (h:Heap),(K w.params).In h->h.Ns mainGlobals mg->Top (K w.params) mg d.name st/\
   ∀(f:Addr) (fd:FuncData),Fun (K w.params) d.name d.name st f fd->∀base:Heap,(K w.params).In base->base.Ns mainGlobals mg->dt l.prog w (K w.params) mg base CX0 k f fd [x] (TL<|K w.params)) :
  PySem.W.WalkO q I XP M l.row.toRowW d [] (λf vs=>PySem.call f vs):=by
 refine W8 hn ρ λw s₀ A mg mb σ a vs ns G Y r n j i t E=>?_
 obtain⟨y,o⟩:=O w _ Y;obtain⟨T,B⟩:=F w mg _ y G.T.g;obtain⟨f,fd,v,m⟩:=T.ex;have e:=m.symm.trans r;cases e;have p:∀(s:Shared) (u:Value),BindsTo s fd ⟨[u],[]⟩ [(x,u)]:=by
  obtain⟨oc,od,kV,doc,pm,an,cdv,ct,osl,rfl,lk,D⟩:=v.ex;exact λs u=>.of_eq (U kV doc pm an cdv ct u)
 exact Tz y o G.T.g G.T.b G.T.builtins G.T.nolimit G.T.bmain E n j (zeW i (by decide)) hr (B _ fd v) p (λH N C=>⟨a,ns,rfl,C,i,t,λ_=>rfl⟩) λH e s' h=>h
section
variable{J:St}{H:Hp}{Q:VK}{K:zee}{fr:List<|Str×Nat}
instance:Inhabited V:=⟨.non⟩
end
theorem uZ(h:H p=none):aW H (upd H p o):=λb u e=>by rw[av<|kx e h];exact e
theorem Pu{n:String}{pos:Pos}(hm:X.mg x=none)(hv:bootBuiltins x=some (.type n))(I:Gl X x:=by rfl)(hn:x≠"__name__":=by decide)(hd:(x==("__debug__":Str))=false:=by decide):PE X (.Name x pos) (tC<|.ty n) :=
 Wx I hm hv (show RelV (.ty n) (.type n)from rfl) hn hd
theorem Rb:typeLookup (.type "list_reverseiterator") "__len__"=pure none:=by
 rw[typeLookup_type,builtinLookup_eq_fast];kernel_rfl
theorem TN:typeLookup (.type "list_reverseiterator") "__length_hint__"=pure (some<|.builtin "list_reverseiterator.__length_hint__"):=by
 rw[typeLookup_type,builtinLookup_eq_fast];kernel_rfl
section
variable{P:Program}{w:World}{B:Around}{R:Result->Shared->Prop}{E:Value->Shared->Prop}{t:Shared}{i₀:Addr}{fp wr:List Addr}{n:Nat}{p:Nat->Value->Prop}{st:Nat->Shared->Prop}
abbrev BN:Array GenState->Array GenState->Prop:=λa b=>b=a
def Hints(P:Program)(w:World)(B:Around)(i₀:Addr)(st:Nat->Shared->Prop):Prop :=
 ∀(h:Shared) (D:Bool->Shared->Prop) (F:Value->Shared->Prop),st 0 h->(∀k,h.toks<=k->D false {h with toks:=k})->wpAny (model P w) B (Builtin.List.listLengthHint<|.ref i₀) D F h
theorem Rc(ty:∀j t,st j t->t.TypeIs (.ref i₀) "list_reverseiterator"):Hints P w B i₀ st:=by
 intro d f e h q;unfold Builtin.List.listLengthHint;refine zeH (wpAny_specialOf (ty 0 _ h) Rb ?_);show wpAny _ B (specialOf (Value.ref i₀) (Str.ofString "__length_hint__")>>=_) _ _ _;refine zeH (wpAny_specialOf (ty 0 _ h) TN ?_);generalize a:("list_reverseiterator.__length_hint__":String)=c
 wp_delta
 rw[show splitId c=some ("list_reverseiterator","__length_hint__")from by subst a;decide+kernel]
 subst a;refine zeH (wpAny_isInstance (b:=true) (ty 0 _ h) (by rw[isSubtype_type];kernel_rfl) ?_)
 exact zeY (q _<|zen _)
theorem zaT(W:WalksS P w B.in1 i₀ fp wr BN n p st)(hT:T="list_reverseiterator"\/T="range_iterator")(ty:∀j t,st j t->t.TypeIs (.ref i₀) T)(hh:Hints P w B.in1 i₀ st)(I:Addr)(d0:Value)(M:Nat)
  (h0:st 0 t) (hl:I∉fp) (hi:i₀∈fp) (ho:t.heap.get? I=some {cls:=.type "list",data:=.seq #[] M})
  (hR:∀ρ O c,Moved (I::wr) BN t ρ->ρ.heap.get? I=some {cls:=.type "list",dict:=none,data:=.seq O c,slots:=#[]}->ItemsOf p O n->R (.ok<|.ret d0) ρ) (hn:n<=sizeLine) :
  wpAny (model P w) B.in1 (Builtin.List.listExtendWith (.ref I) (.ref i₀) d0) (λU ρ=>match U with| .done f=>R (.ok f) ρ| .again Y=>Y.quiet=true/\codeAny (model P w) B Y R ρ) (λe ρ=>R (.error e) ρ) t:=by
 have d:I≠i₀:=λe=>hl (e▸hi)
 have g:Builtin.List.listSameRef (.ref I) (.ref i₀)=false:=by simp[Builtin.List.listSameRef,d]
 unfold Builtin.List.listExtendWith;refine zeH (wpAny_typeOf (ty 0 _ h0) ?_);rcases hT with rfl|rfl
 all_goals
  rw[if_neg (by rw[g];decide)]
  refine zeH (W.self 0 _ _ _ h0 ?_);refine zeH (wpAny_holding<|hh _ _ _ h0 λk hk=>?_)
  rw[if_neg (by decide)]
  have h1:=W.frame 0 t t.heap k h0 hk λb _ o e=>e
  refine zeY ⟨plainId_quiet F.plain_extend_loop _,codeAny_extend_loopS W hn _ hl _ n 0 _ _ _ rfl (Nat.zero_le _) h1 ho (ItemsOf.nil p) λρ O c hm h a=>?_⟩
  exact hR ρ O c ⟨hm.heap,hm.gens,hm.drawn,hm.os,zeW hk hm.toks⟩ h a
theorem W9(W:WalksS P w B.in1 i₀ fp wr BN n p st)(hT:T="list_reverseiterator"\/T="range_iterator")(ty:∀j t,st j t->t.TypeIs (.ref i₀) T)(hh:Hints P w B.in1 i₀ st)(I:Addr)
  (h0:st 0 t) (hl:I∉fp) (hi:i₀∈fp) (U:t.heap.get? I=some {cls:=.type "list",data:=.seq #[]})
  (hR:∀ρ M c,Moved (I::wr) BN t ρ->ρ.heap.get? I=some {cls:=.type "list",dict:=none,data:=.seq M c,slots:=#[]}->ItemsOf p M n->R (.ok<|.ret .none) ρ) (hn:n<=sizeLine) :
  wpAny (model P w) B.in1 (Builtin.«list.__init__» ⟨[.ref I,.ref i₀],[]⟩) (λO ρ=>match O with| .done f=>R (.ok f) ρ| .again Y=>Y.quiet=true/\codeAny (model P w) B Y R ρ) (λe ρ=>R (.error e) ρ) t:=by
 show wpAny _ B.in1 (do let h<-Builtin.List.listItems (.ref I);Builtin.List.listUpdate (.ref I) (λ_=>#[]);letGo h.toList.reverse;Builtin.List.listExtendWith (.ref I) (.ref i₀) .none) _ _ t
 refine zeH ?_;unfold Builtin.List.listItems;refine zeH (wpAny_seqItems U rfl<|zeY ?_);show wpAny _ B.in1 (updateSeq I (λ_=>#[])>>=λ_=>letGo (#[]:Array Value).toList.reverse>>=λ_=>Builtin.List.listExtendWith (.ref I) (.ref i₀) .none) _ _ t
 refine zeH (wpAny_updateSeq U rfl ?_);have h2:=Heap.get?_update_self (Obj.mapSeq λ_=>(#[]:Array Value)) U rfl
 have g:∀b o,b≠I->t.heap.get? b=some o->(t.heap.update I<|Obj.mapSeq λ_=>(#[]:Array Value)).get? b=some o :=
  λb o a e=>(Heap.get?_update_other _ _<|Ne.symm a).trans e
 refine zeH (wpAny_letGo ?_);refine zaT W hT ty hh I .none _ (W.frame 0 t _ t.toks h0 (zen _) λb a o e=>g b o (λz=>hl<|z▸a) e) hl hi h2 (λρ M c hm i d=>?_) hn
 exact hR ρ M c ⟨λb o a e=>hm.heap b o a<|g b o (λz=>a<|z▸zeq) e,hm.gens,hm.drawn,hm.os,hm.toks⟩ i d
theorem Xa(W:WalksS P w B.in1.in1 i₀ fp wr BN n p st)(O:T="list_reverseiterator"\/T="range_iterator")(ty:∀j t,st j t->t.TypeIs (.ref i₀) T)(U:Hints P w B.in1.in1 i₀ st)
  (h0:st 0 t) (ρ:∀b∈fp,b<t.heap.objs.size) (hi:i₀∈fp)
  (M:∀h' k I c,(∀b o,b∉wr->t.heap.get? b=some o->h'.get? b=some o)->h'.get? t.heap.objs.size=some {cls:=.type "list",dict:=none,data:=.seq I c,slots:=#[]}->ItemsOf p I n->Q (.ref t.heap.objs.size) {t with heap:=h',toks:=k}) (hn:n<=sizeLine) :
  wpAny (model P w) B (call (.type "list") [.ref i₀]) Q E t:=by
 have r:t.heap.objs.size∉fp:=λz=>ze2 _ (ρ _ z)
 refine callType_codes (Q₁:=λv a=>v=.ref t.heap.objs.size/\a={t with heap:=t.heap.push {cls:=.type "list",data:=.seq #[]}}) F.called_list (F.typeCall_list_1 _) F.entry_list_init (code_list_new _ ⟨rfl,rfl⟩) λv a f=>?_
 obtain⟨rfl,rfl⟩:=f;have h:(t.heap.push {cls:=.type "list",data:=.seq #[]}).get? t.heap.objs.size=some {cls:=.type "list",data:=.seq #[]}:=zeK _ rfl;refine⟨⟨_,h,rfl⟩,F.args_list_init_2 _ _,W9 W O ty U _ (W.frame 0 t _ t.toks h0 (zen _) λb _ o e=>zep _ e) r hi h (λg I c hm s d=>?_) hn⟩
 have i:g.gens=t.gens:=hm.gens;have l:g.drawn=t.drawn:=hm.drawn;have m:g.os=t.os:=hm.os;obtain⟨h',C,y,u,x⟩:=g;subst i l m;refine⟨rfl,M h' u I c (λb o q e=>hm.heap b o (λz=>?_)<|zep _ e) s d⟩
 rcases zed z with z|z
 .rw[z]at e;exact absurd (zeo e) (ze2 _)
 .exact q z
end
section
variable{X:Cx}
abbrev DY(x:Str)(p:Pos)(es:List Expr)(pos:Pos):Expr:=.Call (.Name x p) es [] pos
theorem TQ{J:St}{H:Hp}{Q:VK}{ρ:List V}(I:Inv X C0 J H s)(hz:ρ.length<=sizeLine)(q:∀l,H l=none->Q (.ref l) (upd H l<|.lst ρ))
  {l:Addr} (O:s.heap.objs.size<=l) {h':Heap} {k c:Nat} {M:Array Value} (kp:∀b o,s.heap.get? b=some o->h'.get? b=some o) (U:h'.get? l=some {cls:=.type "list",dict:=none,data:=.seq M c,slots:=#[]}) (Y:Vals ρ M.toList) :
  EP X C0 J Q (.ref l) {s with heap:=h',toks:=k} :=
 ⟨.ref l,_,I.laid kp O (show ft X.prog X.w _ h' _ (.lst ρ)from⟨hz,M.toList,c,Y,by simpa using U⟩),rfl,q _<|I.hok.fresh O⟩
def FE(K:zee):List V->Hp->VK->Prop:=λxs H Q=>∃p h,xs=[.ref p]/\SqL K H p h/\∀l,H l=none->Q (.ref l) (upd H l<|.lst h.reverse)
theorem Ll:∀{ρ:List V} {I:List Value},ρ.length=I.length->(∀(j:Nat) (y:V) (v:Value),ρ[j]?=some y->I[j]?=some v->RelV y v)->Vals ρ I
 | [],[],_,_=>.nil
 |y::ρ,v::I,c,h=>.cons (h 0 y v rfl rfl) (Ll (by simpa using c) λj a b h1 h2=>h (j+1) a b (by simpa using h1) (by simpa using h2))
 | [],_::_,c,_=>by simp at c
 |_::_,[],c,_=>by simp at c
theorem NQ{p Y pos ρ:Pos}(hc:X.calm=true)(hg:Gl X "list")(hm:X.mg "list"=none)(O:Gl X "reversed")(U:X.mg "reversed"=none)(ha:PA X [a] ta)
  (hs:starEach [a] X.env=[9111]:=by rfl) (M:starEach [DY "reversed" Y [a] ρ] X.env=[(false,eval (DY "reversed" Y [a] ρ) X.env)]:=by rfl) :
  PE X (DY "list" p [DY "reversed" Y [a] ρ] pos) (tCB (FE X.K) ta):=by
 intro C0 s J H Q I h;have hn:X.A.handled=none:=I.ok.hd hc;refine wpAny_Call_Name_kw (A9 I hg hm boot_list ?_);refine PyProof.Rows.callWith_type1 ?_ M rfl;rw[M];refine Calls.spliced_cons ?_;refine wpAny_Call_Name_kw (A9 I O U boot_reversed ?_);refine PyProof.Rows.callWith_type1 (thn (ha ρ C0 s J H _ I h) λus s1 ⟨vs,V,E,S,R⟩=>?_) hs rfl
 obtain⟨l,C,e,P,q⟩:=R;subst e;cases S with
 |cons r T=>
  cases T;cases r;obtain⟨g,F,pl,hz⟩:=E.list P;have f:C.length=g.toArray.size:=by rw[zeJ];exact F.length
  refine call_reversed_list pl.isList ?_;refine Calls.spliced_nil ?_;obtain⟨ob,x,_⟩:=pl.isList;have m:l<s1.heap.objs.size:=zeo x;have W:=(Walks.listRev (prog:=X.prog) (w:=X.w) (A:=X.A.in1.in1) hn s1.heap.objs.size l (zeR m) g.toArray).toS;refine Xa (B:=X.A) (t:={s1 with heap:=s1.heap.push<|revObj l<|(g.toArray.size:Int)-1}) W (.inl rfl) (λj t st=>st.2.1.typeIs) (Rc λj t st=>st.2.1.typeIs)
   ⟨Nat.zero_le _,⟨_,zeK _ rfl,rfl,by simp[revObj]⟩,pl.isList.at λo e=>zep _ e⟩ (λb u=>?_) (by simp) (λh' k D c kp N d=>?_) (by lia)
  .have:(s1.heap.push<|revObj l<|(g.toArray.size:Int)-1).objs.size=s1.heap.objs.size+1:=Heap.size_push _ _
   show b<(s1.heap.push<|revObj l<|(g.toArray.size:Int)-1).objs.size;rcases zed u with e|u
   .rw[e,Heap.size_push];exact Nat.lt_succ_self _
   .rw[zeb u,Heap.size_push];exact Nat.lt_succ_of_lt m
  .refine TQ E (by rw[List.length_reverse];exact hz) q (show s1.heap.objs.size<=(s1.heap.push _).objs.size by rw[Heap.size_push];exact Nat.le_succ _) (λb o e=>kp b o ?_ (zep _ e)) N (Ll ?_ λj y v h1 h2=>?_)
   .intro z
    have:=zeb z;rw[this]at e;exact absurd (zeo e) (ze2 _)
   .rw[List.length_reverse,Array.length_toList (xs:=D),d.1,f]
   .have i:D[j]?=some v:=by rw[<-Array.getElem?_toList];exact h2
    have h3:=d.2 j v i;have σ:j<C.length:=by
     have:=(Array.getElem?_eq_some_iff.mp i).1;rw[d.1]at this;lia
    rw[List.getElem?_reverse σ]at h1;rw[<-f,<-Array.getElem?_toList]at h3;obtain⟨Z,h4,G⟩:=F.get h1;have n:g[C.length-1-j]?=some v:=by simpa using h3
    rw[n]at h4;cases h4
    exact G
def zaU(xs:List V)(i:Int)(y:V):List V:=xs.take (if i<0 then(i+(xs.length:Int)).toNat else min i.toNat xs.length)++y::xs.drop (if i<0 then(i+(xs.length:Int)).toNat else min i.toNat xs.length)
def Px:V->List V->Hp->VK->Prop:=λx vs H Q=>∃l xs i y,x=.ref l/\vs=[.int i,y]/\H l=some (.lst xs)/\xs.length<sizeLine/\-(2^63)<=i/\i<2^63/\Q .non (upd H l<|.lst<|zaU xs i y)
theorem Rf:MtM X "list.insert" Px:=by
 intro C0 s J H x vs v us Q I g a h;obtain⟨l,xs,i,y,rfl,rfl,c,hz,h1,h2,q⟩:=h;cases g;cases a with
 |cons f a=>
  cases a with
  |cons j a=>
   cases a;obtain⟨t,rfl⟩:=f;obtain⟨z,b,n,r,d,e⟩:=I.Ts c;refine call_meets F.slot_list_insert ⟨_,e,rfl⟩ F.entry_list_insert (F.args_list_insert_3 _ _ _) (AutoSeq1.list_insert_list_int_val_1 l b.toArray n i t _ (by rw[fitsIndex_both h1 h2];decide) (by rw[zeJ];lia)) ⟨e,?_⟩
   refine⟨.non,_,I.WU (its':=b.take (if i<0 then(i+(xs.length:Int)).toNat else min i.toNat xs.length)++_::b.drop (if i<0 then(i+(xs.length:Int)).toNat else min i.toNat xs.length)) c e ?_ (r.take _|>.append (.cons j (r.drop _))) ?_,rfl,q⟩
   .dsimp only
    rw[zeJ,<-d];apply Array.ext';simp;rw[List.take_of_length_le (by rw[List.length_drop];lia)]
   .simp only[zaU,List.length_append,List.length_cons,List.length_take,List.length_drop]
    lia
end
section
variable{prog:Program}{w:World}{A:Around}{E:Value->Shared->Prop}{s:Shared}
theorem Ip(I:t≠it):∀(n i:Nat) (s:Shared) (Q:List Value->Shared->Prop),s.heap.IsListIter it t i->s.heap.IsList t items->i+n<=items.size->
  (∀h':Heap,h'.IsListIter it t (i+n)->Heap.SameBut it s.heap h'->Q ((items.toList.drop i).take n) {s with heap:=h'})->wpAny 9017 A (draw (.ref it) n) Q E s
 |0,i,s,Q,a,_,_,f=>by
  exact zeY (by simpa using f s.heap a (Heap.SameBut.refl ..))
 |n+1,i,s,Q,a,h,j,f=>by
  have d:i<items.size:=by lia
  refine zeH (wpAny_pyNext_list_item a h (x:=items[i]) (by simp[d]) λh1 b e=>?_)
  refine zeH (wpAny_holding<|Ip I n (i+1) _ _ b (h.extBut e.extBut I) (by lia) λh2 c g=>zeY ?_)
  have hd:items.toList.drop i=items[i]::items.toList.drop (i+1):=by simp[List.drop_eq_getElem_cons,d]
  have:=f h2 (by rw[show i+(n+1)=i+1+n by lia];exact c) (e.trans g)
  rw[hd,List.take_succ_cons]at this;exact this
theorem Ex(M:A.handled=none)(I:s.heap.IsList t items)
  (ρ:∀h',Heap.ExtBut s.heap.objs.size s.heap h'->Q items.toList {s with heap:=h'}):wpAny 9017 A (unpackItems (.ref t) items.size none) Q E s:=by
 have d:t≠s.heap.objs.size:=by obtain⟨o,j,_⟩:=I;exact zeR (zeo j)
 refine zeH ?_
 .unfold notIterableAtAll
  refine zeH (wpAny_specialOf I.typeIs slot_list_iter.lookup ?_);refine zeY ?_;refine zeH (wpAny_holding<|wpAny_pyIter_list I ?_);refine zeH (wpAny_holding<|Ip d items.size 0 _ _ ⟨_,zeK _ rfl,rfl,rfl⟩ (I.push _) (by lia) λh1 c f=>?_)
  have a:List.take items.size (List.drop 0 items.toList)=items.toList:=by
   rw[List.drop_zero];exact List.take_of_length_le (by simp)
  rw[a];rw[if_neg (by simp)]
  have h:=(I.push _).extBut f.extBut d;refine zeH (wpAny_holding<|wpAny_pyNext_list_end M c h (by simp) λh2 g=>?_)
  refine zeY (ρ h2 λb o i e=>g b o i<|f.extBut b o i<|zep _ e)
theorem C7(M:A.handled=none)(O:s.heap.IsList t items)
  (hn:(assignEach I env).length=items.size) (ρ:(assignEach I env).findIdx? (·.1)=none)
  (h:∀h',Heap.ExtBut s.heap.objs.size s.heap h'->wpAny 9017 A (assignInOrder ((assignEach I env).map (·.2)) items.toList) Q E {s with heap:=h'}) :
  wpAny 9017 A (assign (.Tuple I U pos) env<|.ref t) Q E s:=by
 refine zeH (wpAny_standAt ?_);unfold unpack;rw[hn,ρ];exact zeH (wpAny_holding<|Ex M O h)
end
variable{X:Cx}
def Zp(K:zee)(n:Nat)(t:TGs):TG:=λv J H Q=>∃a xs,v=.ref a/\(SqT K H a xs\/SqL K H a xs)/\xs.length=n/\t xs J H Q
theorem Xb{k:Nat}{pos:Pos}{t:TGs}{n:Nat}(M:X.calm=true)(h:PGs X es t)
  (hn:(assignEach es X.env).length=n:=by rfl) (ρ:(assignEach es X.env).findIdx? (·.1)=none:=by rfl):PG X (.Tuple es k pos) (Zp X.K n t):=by
 intro C0 s J H v u Q I r hw;obtain⟨a,xs,l,c,i,hw⟩:=hw;subst l;cases r;rcases c with c|c
 .obtain⟨j,d,g,hz⟩:=I.tuple c
  refine assign_Tuple_tuple (I.ok.hd M) g (by simp[hn,<-i,d.length]) ρ λh' hx=>?_
  have f:Inv X C0 J H {s with heap:=h'}:=I.kept λb o e=>hx b o (zeR<|zeo e) e
  exact h C0 _ J H xs _ Q f (by simpa using d) hw
 .obtain⟨j,d,g,hz⟩:=I.list c
  refine C7 (I.ok.hd M) g.isList (by simp[hn,<-i,d.length]) ρ λh' hx=>?_
  have f:Inv X C0 J H {s with heap:=h'}:=I.kept λb o e=>hx b o (zeR<|zeo e) e
  exact h C0 _ J H xs _ Q f (by simpa using d) hw
end L2
namespace L2
open PySem.Spec PyProof.Rows
structure Py(P:Program)(w:World)(outer:List Env)(H:Hp)(s:Shared)(E:XK)(ea t:Addr)(cls:Value)(B:Heap)(H':Hp)(s':Shared):Prop where
 os:s'.os=s.os
 bare:AllBare s'.gens
 fly:Heap.FlyingW B outer ea cls (.ref t) s'.heap
 keep:∀b o,s.heap.get? b=some o->H b=none->b∉frs outer->B.get? b=some o
 there:∀b o,s.heap.get? b=some o->b∉frs outer->∃o',B.get? b=some o'
 slot:∀b o,s.heap.get? b=some o->b∈frs outer->H b=none->∃sl,s'.heap.get? b=some {o with slots:=sl}
 free:∀b o,s.heap.get? b=some o->H b=none->H' b=none
 tups:∀b xs,H b=some (.tup xs)->H' b=some (.tup xs)
 x9:∀b o u,H b=some (.frz o u)->H' b=some (.frz o u)
 ya:∀b ps,H b=some (.tbl ps)->∃more,H' b=some (.tbl<|ps++more)
 hok:HOk P w H' B
 wish:E cls none H'
def CXW(P:Program)(w:World):CXT:=λouter H s E e s'=>∃ea t cls B H',e=.ref ea/\Py P w outer H s E ea t cls B H' s'
def Pz(X:Cx)(cls:Value)(W:Hp->Prop):Prop:=∀(C0:List<|Addr×Obj) (J:St) (H:Hp) (s:Shared) (e:Addr) (h':Heap) (vs:List Value),Inv X C0 J H s->Heap.MadeExcOf s.heap h' e cls vs->W H->X.xe (.ref e) {s with heap:=h'}
def TR(W:Hp->Prop)(t:TA):TS:=λ_ J H=>t J H λvs h=>vs.length<=100/\W h
theorem Xd{K:zee}{C:Addr}{M:List Value}{ρ:String}(X:K.In I)(q:PySem.W.excIn K C M ρ=true) :
  ∃bm N nm q bs hdct sn sub ab col dd k0 k1 k2 k3 k5 mN,I.get? C=some (excClassObj nm q C N bs bm hdct sn sub ab col dd k0 k1 k2 k3 k5 ρ)/\I.Ns N mN/\mN "__init__"=none/\OwnTail I M bm:=by
 unfold PySem.W.excIn at q;split at q
 .rename_i dd e sl g
  split at q
  .rename_i j bm k0 k1 k2 k3 n k5 hm d
   simp only[Bool.and_eq_true,beq_iff_eq,Bool.not_eq_true']at q;obtain⟨⟨⟨⟨⟨rfl,rfl⟩,a⟩,h⟩,hok⟩,b⟩:=q;obtain⟨nm,bs,mro,ns,i,hd,sn,sub,ab,col,f⟩:=e;dsimp only at hm a hok b;subst hm a;have c:sl=#[k0,k1,k2,k3,some<|.builtin n,k5]:=by
    obtain⟨l⟩:=sl;simp only at d;rw[d]
   subst c;exact⟨bm,ns,nm,i,bs,hd,sn,sub,ab,col,dd,k0,k1,k2,k3,k5,_,X _ _ g,.of_isNs<|PySem.W.isNs_of_in X hok,PySem.W.nsMap_none_of_in X hok b,PySem.W.tail_of_in X h⟩
  .cases q
 .cases q
section
variable{X:Cx}
theorem FG{Bn ρ M:String}{bm:List Value}{np O pos:Pos}{e:Expr}{es:List Expr}{t:TA}{W:Hp->Prop}(hc:X.calm=true)(hg:Gl X x)(hm:X.mg x=some (.ref C))(hq:PySem.W.excIn X.K C bm ρ=true)
  (FB:ExcBaseFacts Bn ρ M bm) (hx:Pz X (.ref C) W) (ha:PA X (e::es) t) (U:(x==("__debug__":Str))=false:=by decide)
  (he:starEach (e::es) X.env=9013::starEach es X.env:=by rfl) (Y:(backTo O<|starEach es X.env).any (·.1)=false:=by rfl) :
  PS X (.Raise (some<|.Call (.Name x np) (e::es) [] O) none pos) (TR W t):=by
 intro C0 s J H D I h;obtain⟨o,N,nm,q,bs,hdct,sn,sub,ab,col,dd,k0,k1,k2,k3,k5,mN,k,l,f,T⟩:=Xd I.mod.kin hq;refine wpAny_Raise_call_subT (C:=C) (nm:=nm) (q:=q) (N:=N) (bs:=bs) (bm:=o) (hdct:=hdct) (sn:=sn) (sub:=sub) (ab:=ab) (col:=col) (dd:=dd) (k0:=k0) (k1:=k1) (k2:=k2) (k3:=k3) (k5:=k5)
  FB (mN:=mN) (T.hasType FB.hasBase) (I.ok.hd hc) (by rw[he];show(false||(backTo O<|starEach es X.env).any (·.1))=false;rw[Y];rfl) f (vy I hg hm ⟨rfl,?_⟩ U)
 have g:=ha O C0 s J H _ I h;rw[he]at g⊢;refine Calls.evalArgs_plain (ze5 g (λvs b a=>?_) λ_ _ y=>y)
 obtain⟨us,i,c,n,m,p⟩:=a;exact⟨rfl,by rw[<-n.length];exact zeW m (by simp only[sizeLine];lia),c.bk _ _ k,l.keeps c.bk,T.keeps c.bk,λh' j d=>hx C0 J i b j h' vs c d p⟩
theorem tZ{K:zee}{mg:Str->Option Value}{base:Heap}{N:List Str}{K1:Str}{K0:Scope}{f:Addr}{ρ:Value}{A:Around}{outer:List Env}{s₀:Shared}{H₀:Hp}{E:XK}{cls:Value}
  (hk:K0.kind=.function) (hex:(envOfC K1 K0 s₀.heap.objs.size f ρ).frame=some s₀.heap.objs.size):Pz (Be (CXW P w) P w K mg base N K1 K0 f ρ A outer s₀ H₀ E) cls (λH'=>E cls none H'):=by
 intro C0 J H s e h' vs I hx hw;have g:∀b:Addr,b∉(Be (CXW P w) P w K mg base N K1 K0 f ρ A outer s₀ H₀ E).ex:=λb z=>absurd (show b∈([]:List Addr)from z) (by simp)
 have i:=I.stack;have m:(Be (CXW P w) P w K mg base N K1 K0 f ρ A outer s₀ H₀ E).stack=envOfC K1 K0 s₀.heap.objs.size f ρ::outer:=rfl;rw[m]at i;have p:=I.ok.frames;have k:∀env∈9004,∀b,env.frame=some b->b∈frs 9004:=λenv h b a=>List.mem_filterMap.mpr ⟨env,h,a⟩
 have r:∀b∈frs 9004,H b=none:=λb a=>I.EY b a
 show wpAny _ _ (leaving _<|.ref e) _ _ _;refine wpAny_leaves_madeW (base:=PySem.W.hideAll s.heap<|frs 9004) p hex (λb o q=>PySem.W.of_hideAll _ q) (PySem.W.funFrames_hide i k) hx λh2 t D σ Q F=>?_
 have sub:∀b∈frs outer,b∈frs 9004:=λb a=>by
  obtain⟨env,h,j⟩:=List.mem_filterMap.mp a;exact k env (zei _ h) b j
 have l:∀b o,s₀.heap.get? b=some o->b∉frs outer->b∉frs 9004:=λb o q a hm=>by
  obtain⟨env,h,j⟩:=List.mem_filterMap.mp hm;rcases zed h with rfl|h
  .rw[hex]at j
   cases j;exact absurd (zeo q) (ze2 _)
  .exact a (List.mem_filterMap.mpr ⟨env,h,j⟩)
 refine⟨e,t,cls,_,H,rfl,⟨I.os,I.bare,D,λb o q n a=>?_,λb o q a=>?_,λb o q a n=>?_,λb o q n=>?_,I.base.tups,I.base.x9,I.base.ya,λb u q=>?_,hw⟩⟩
 .exact PySem.W.hideAll_get _ (I.base.keep b o q n a<|g b) (l b o q a)
 .obtain⟨o',d⟩:=I.base.there b o q (g b)
  exact⟨o',PySem.W.hideAll_get _ d<|l b o q a⟩
 .obtain⟨sl,d⟩:=I.base.slot b o q n a (g b)
  obtain⟨_,G,y,hd⟩:=i.mem (sub b a);rw[d]at y;cases y;obtain⟨x,C⟩:=F b _ (hx.keeps b _ d) hd;exact⟨x,C⟩
 .exact I.base.free b o q n (g b)
 .refine(I.hok b u q).stay (λc v B d=>PySem.W.hideAll_get _ d λhm=>?_) (λ_ d=>d) λ_ _ _ d=>d
  have hn:=r c hm;rcases B with z|z
  .rw[z,q]at hn;cases hn
  .rw[z]at hn;cases hn
theorem ft.is(x:ft P w H h a o):∃u,h.get? a=some u:=by
 induction o with
 |lst xs=>obtain⟨z,d,n,r,e⟩:=x;exact⟨_,e⟩
 |tup xs=>first|(obtain⟨z,d,r,ob,e,c⟩:=x;exact⟨_,e⟩)|(obtain⟨z,d,r,⟨ob,e,c⟩,_⟩:=x;exact⟨_,e⟩)
 |dK G0=>obtain⟨z,y,vs,r,ob,es,g,e,c⟩:=x;exact⟨_,e⟩
 |dT G0=>obtain⟨z,y,xs,r,ob,es,g,e,c⟩:=x;exact⟨_,e⟩
 |set S n=>obtain⟨ob,es,g,t,e,c⟩:=x;exact⟨_,e⟩
 |ins C dx fs=>obtain⟨_,_,_,e,_⟩:=x;exact⟨_,e⟩
 |own _=>exact x
 |xd fs=>obtain⟨_,⟨_,_,_,e,_⟩,_⟩:=x;exact⟨_,e⟩
 |rng lo hi=>obtain⟨_,_,_,e⟩:=x;exact⟨_,e⟩
 |frz ob u=>obtain⟨e,_⟩:=x;exact⟨_,e⟩
 |tbl ps=>
  rcases x with⟨_,_,_,_,_,_,_,_,i,e,_⟩|⟨_,_,e,_⟩
  .cases i;exact⟨_,e⟩
  .exact⟨_,e⟩
 |met f y=>exact⟨_,x⟩
 |ext φ=>obtain⟨_,e,_⟩:=x;exact e
theorem ft.BO(x:ft P w H h a<|.tup xs):xs.length<=sizeLine/\∃I:List Value,Vals xs I/\IsTup h a I.toArray:=by
 first|exact x|(obtain⟨z,I,r,p,_⟩:=x;exact⟨z,I,r,p⟩)
theorem Py.inv{J:St}{H H':Hp}{s s':Shared}{E:XK}{ea t:Addr}{cls:Value}{B h2:Heap}(ρ:Py X.prog X.w X.stack H s E ea t cls B H' s')(I:Inv X C0 J H s)(M:Heap.FlyingW B X.stack ea cls (.ref t) h2)(O:s'.heap.UpToSlots h2) :
  Inv X C0 J H' {s' with heap:=h2}:=by
 refine I.call' (ch:=[]) ρ.os ⟨λb o q n a _=>M.1 b o<|ρ.keep b o q n a,λb o q n a _=>?_,λb o q n _=>ρ.free b o q n,λb o q _=>?_,ρ.tups,ρ.x9,ρ.ya⟩ (ρ.hok.kept M.1) ρ.bare (λb z=>absurd z (by simp))
 .obtain⟨sl,c⟩:=ρ.slot b o q a n
  obtain⟨_,h,d,hd⟩:=ρ.fly.2.2.1.mem a;rw[c]at d;cases d;obtain⟨f,g⟩:=O b _ c hd;exact⟨f,g⟩
 .by_cases a:b∈frs X.stack
  .obtain⟨sl,c⟩:=ρ.slot b o q a (I.EY b a)
   obtain⟨_,h,d,hd⟩:=ρ.fly.2.2.1.mem a;rw[c]at d;cases d;obtain⟨f,g⟩:=O b _ c hd;exact⟨_,g⟩
  .obtain⟨o',c⟩:=ρ.there b o q a
   exact⟨o',M.1 b o' c⟩
end
def Cx.mkd(X:Cx)(e:Addr):Cx:={X with A:=X.A.mark<|some<|.ref e,calm:=false,xe:=λ_ _=>False}
def Cx.inX(X:Cx)(e:Addr)(I:Obj):Cx:={X with A:=X.A.mark<|some<|.ref e,calm:=false,pn:=(e,I)::X.pn,xe:=λ_ _=>False}
section
variable{X:Cx}{C0:List<|Addr×Obj}{J:St}{H:Hp}{s:Shared}{e:Addr}{oe:Obj}
theorem Cx.Ok.mkd(ok:X.Ok):(X.mkd e).Ok:=⟨ok.mod,ok.kind,ok.glob,ok.blt,ok.above,ok.inj,ok.has,ok.cab,λh=>absurd (show false=true from h) zek,ok.frames,ok.stk,ok.exf,ok.bs,ok.bsz,ok.Nn,ok.Np,ok.BH,ok.frf,ok.tab⟩
theorem Inv.mkd(I:Inv X C0 J H s):Inv (X.mkd e) C0 J H s:=⟨I.ok.mkd,I.os,I.bare,I.base,I.loc,I.cell,I.free,I.qk,I.pin,I.hok,I.len⟩
theorem Cx.Ok.inX(ok:X.Ok):(X.inX e oe).Ok:=⟨ok.mod,ok.kind,ok.glob,ok.blt,ok.above,ok.inj,ok.has,ok.cab,λh=>absurd (show false=true from h) zek,ok.frames,ok.stk,ok.exf,ok.bs,ok.bsz,ok.Nn,ok.Np,ok.BH,ok.frf,ok.tab⟩
theorem Inv.inX(I:Inv X C0 J H s)(h1:s.heap.get? e=some oe)(h2:H e=none)(h3:e≠X.env.locals)(h4:e∉X.fs)(ρ:∀v,oe.data≠.cell v):Inv (X.inX e oe) C0 J H s :=
 ⟨I.ok.inX,I.os,I.bare,I.base,I.loc,I.cell,I.free,I.qk,λp a=>by
  rcases zed (show p∈(e,oe)::(X.pn++C0)from a)with rfl|a
  .exact⟨h1,h2,h3,h4,ρ⟩
  .exact I.pin p a,I.hok,I.len⟩
def Inv.Xe(ok:X.Ok)(I:Inv (X.inX e oe) C0 J H s):Inv X C0 J H s :=
 ⟨ok,I.os,I.bare,I.base,I.loc,I.cell,I.free,I.qk,λp a=>I.pin p (show p∈(e,oe)::(X.pn++C0)from zei _ a),I.hok,I.len⟩
end
end L2
namespace L2
open PySem.Spec PyProof.Rows PySem.W Builtin Builtin.ObjectAttr Builtin.Getset_descriptor
section
variable{prog:Program}{w:World}{A:Around}{E:Value->Shared->Prop}{K:zee}{a D:Addr}{o:Obj}{h:Heap}{g:Array GenState}{d:Drawn}{t:Nat}{os:OsState}
structure zaV(K:zee)(D:Addr):Prop where
 ga:findIn K (.ref D) "__getattribute__"=some (some<|.builtin "BaseException.__getattribute__")
 gn:findIn K (.ref D) "__getattr__"=some none
 ca:findIn K (.ref D) "__class__"=some (some<|.builtin "object.__class__")
 sub:subIn K (.ref D) (.type "BaseException")=some true
 mro:mroIn K D (.type "object")=some true
 gs:specialIn K (.builtin "object.__class__") "__get__"=some (some<|.builtin "getset_descriptor.__get__")
 tk:takesIn K (.builtin "object.__class__")=some true
 cls:(clsIn K D).isSome=true
end
end L2
namespace Mir
open L2
class Zc where
 e:Addr
instance (priority:=10) zc0:Zc:=⟨0⟩
variable [Zc]
def cIf{α:Type}(c:Prop)(a b : α) : α:=@ite α c (Classical.propDecidable c) a b
theorem bg(h:c):cIf c a b=a:=by unfold cIf;rw[if_pos h]
theorem Xf(h : ¬c):cIf c a b=b:=by unfold cIf;rw[if_neg h]
def j5:cIf True a b=a:=bg trivial
theorem cY(h:cIf c a none=some x):c/\a=some x:=by
 by_cases b:c
 .rw[bg b]at h;exact⟨b,h⟩
 .rw[Xf b]at h;cases h
abbrev D:=PyData
def zdG:Key->D->Prop
 | .inl i,c=>c=.int i
 | .inr x,c=>c=.str x
mutual
inductive Rep(H:Hp):V->D->Prop
 |non:Rep H .non .none
 |bl (b:Bool):Rep H (.bl b) (.bool b)
 |int (i:Int):Rep H (.int i) (.int i)
 |str (x:Str):Rep H (.str x) (.str x)
 |lst {a:Addr} {xs:List V} {ds:List D}:Rd H a (.lst xs)->aZ H xs ds->Rep H (.ref a) (.list ds)
 |tup {a:Addr} {xs:List V} {ds:List D}:H a=some (.tup xs)->aZ H xs ds->Rep H (.ref a) (.tuple ds)
 |dct {a:Addr} {G0:List (Key×V)} {es:List (D×D)}:Rd H a (.dK G0)->qv H G0 es->Rep H (.ref a) (.dict es)
inductive aZ(H:Hp):List V->List D->Prop
 |nil:aZ H [] []
 |cons {x:V} {xs:List V} {d:D} {ds:List D}:Rep H x d->aZ H xs ds->aZ H (x::xs) (d::ds)
inductive qv(H:Hp):List (Key×V)->List (D×D)->Prop
 |nil:qv H [] []
 |cons {k:Key} {x:V} {G0:List (Key×V)} {c d:D} {es:List (D×D)}:zdG k c->Rep H x d->qv H G0 es->qv H ((k,x)::G0) ((c,d)::es)
end
theorem nZ(e:aW H H')(h:Rd H a u):Rd H' a u:=by
 rcases h with h|⟨o,h⟩
 .exact .inl (e _ _ h)
 .exact .inr ⟨o,e _ _ h⟩
mutual
theorem Rep.mono(e:aW H H'):∀{v:V} {d:D},Rep H v d->Rep H' v d
 |_,_,.non=>.non
 |_,_,.bl b=>.bl b
 |_,_,.int i=>.int i
 |_,_,.str x=>.str x
 |_,_,.lst h r=>.lst (nZ e h) (aZ.mono e r)
 |_,_,.tup h r=>.tup (e _ _ h) (aZ.mono e r)
 |_,_,.dct h r=>.dct (nZ e h) (qv.mono e r)
theorem aZ.mono(e:aW H H'):∀{v:List V} {d:List D},aZ H v d->aZ H' v d
 |_,_,.nil=>.nil
 |_,_,.cons a b=>.cons (Rep.mono e a) (aZ.mono e b)
theorem qv.mono(e:aW H H'):∀{v:List<|Key×V} {d:List<|D×D},qv H v d->qv H' v d
 |_,_,.nil=>.nil
 |_,_,.cons k a b=>.cons k (Rep.mono e a) (qv.mono e b)
end
theorem aZ.length:∀{v:List V} {d:List D},aZ H v d->v.length=d.length
 |_,_,.nil=>rfl
 |_,_,.cons _ b=>by simp[aZ.length b]
theorem aZ.get:∀{v:List V} {d:List D} (i:Nat),aZ H v d->∀c,d[i]?=some c->∃x,v[i]?=some x/\Rep H x c
 |_,_,_,.nil,c,e=>by simp at e
 |_,_,0,.cons a _,c,e=>by simp at e;subst e;exact⟨_,rfl,a⟩
 |_,_,i+1,.cons _ b,c,e=>by
  obtain⟨x,h1,h2⟩:=aZ.get i b c (by simpa using e)
  exact⟨x,by simpa using h1,h2⟩
theorem aZ.append:∀{v w:List V} {d c:List D},aZ H v d->aZ H w c->aZ H (v++w) (d++c)
 |_,_,_,_,.nil,r=>r
 |_,_,_,_,.cons a b,r=>.cons a (aZ.append b r)
theorem aZ.take:∀{v:List V} {d:List D} (n:Nat),aZ H v d->aZ H (v.take n) (d.take n)
 |_,_,0,_=>.nil
 |_,_,_+1,.nil=>.nil
 |_,_,n+1,.cons a b=>.cons a (aZ.take n b)
theorem aZ.drop:∀{v:List V} {d:List D} (n:Nat),aZ H v d->aZ H (v.drop n) (d.drop n)
 |_,_,0,r=>r
 |_,_,_+1,.nil=>.nil
 |_,_,n+1,.cons _ b=>aZ.drop n b
theorem aZ.set(r:Rep H x c):∀{v:List V} {d:List D} (i:Nat),aZ H v d->aZ H (v.set i x) (d.set i c)
 |_,_,_,.nil=>.nil
 |_,_,0,.cons _ b=>.cons r b
 |_,_,i+1,.cons a b=>.cons a (aZ.set r i b)
theorem aZ.eraseIdx:∀{v:List V} {d:List D} (i:Nat),aZ H v d->aZ H (v.eraseIdx i) (d.eraseIdx i)
 |_,_,_,.nil=>.nil
 |_,_,0,.cons _ b=>b
 |_,_,i+1,.cons a b=>.cons a (aZ.eraseIdx i b)
theorem aZ.dropLast(r:aZ H v d):aZ H v.dropLast d.dropLast:=by
 rw[List.dropLast_eq_take,List.dropLast_eq_take,r.length];exact r.take _
theorem aZ.reverse:∀{v:List V} {d:List D},aZ H v d->aZ H v.reverse d.reverse
 |_,_,.nil=>.nil
 |_,_,.cons a b=>by rw[List.reverse_cons,List.reverse_cons];exact(aZ.reverse b).append (.cons a .nil)
theorem aZ.flat(r:aZ H v d):∀k,aZ H (List.replicate k v).flatten (List.replicate k d).flatten
 |0=>.nil
 |k+1=>by
  rw[zfb,zfb,List.flatten_cons,List.flatten_cons];exact r.append (aZ.flat r k)
inductive Sl where
 |no|fz (d:D)|own (d:D)|io (d:D)|ro (d:D)|ex
def Sl.oh:Sl->Bool
 | .own _=>true
 | .io _=>true
 |_=>false
def Sl.isRef:Sl->Bool
 | .own _=>true
 | .io _=>true
 | .ro _=>true
 |_=>false
theorem Sl.Jv{s:Sl}(h:s.oh=true):s.isRef=true:=by cases s<;>first|rfl|cases h
abbrev Rho:=List Sl
inductive Kd where
 |fz|new|at(i:Nat)|ro
abbrev RV:=D×Kd
inductive Own(B H:Hp)(p:Addr):D->Prop
 |lst {xs:List V} {ds:List D}:H p=some (.lst xs)->aZ B xs ds->Own B H p (.list ds)
 |dct {G0:List (Key×V)} {es:List (D×D)}:H p=some (.dK G0)->qv B G0 es->Own B H p (.dict es)
theorem Own.there(h:Own B H p d):∃o,H p=some o:=by cases h with
 |lst h _=>exact⟨_,h⟩
 |dct h _=>exact⟨_,h⟩
theorem Own.BP(h:Own B H p d):H p≠none:=by
 obtain⟨o,e⟩:=h.there;rw[e];simp
theorem Own.mono(h:Own B H p d)(e:aW B B')(k:∀o,H p=some o->H' p=some o):Own B' H' p d:=by cases h with
 |lst h r=>exact .lst (k _ h) (r.mono e)
 |dct h r=>exact .dct (k _ h) (r.mono e)
theorem Own.TU(h:Own B H p d)(xs:List V):H p≠some (.tup xs):=by cases h with
 |lst h _=>rw[h];simp
 |dct h _=>rw[h];simp
theorem Own.rep(h:Own B H p d)(e:aW B H):Rep H (.ref p) d:=by cases h with
 |lst h r=>exact .lst (.inl h) (r.mono e)
 |dct h r=>exact .dct (.inl h) (r.mono e)
theorem Own.frozen(h:Own B H p d)(e:aW B B')(k:∀o,H p=some o->B' p=some o):Rep B' (.ref p) d:=by cases h with
 |lst h r=>exact .lst (.inl<|k _ h) (r.mono e)
 |dct h r=>exact .dct (.inl<|k _ h) (r.mono e)
structure Fr where
 B:Hp
 H:Hp
 io:List (Nat×Addr)
 Z:Addr->Prop
def FH(B H:Hp)(J:St)(i:Nat):Sl->Prop
 | .no=>True
 | .ex=>True
 | .fz d=>∃v,J[i]?=some (some v)/\Rep B v d
 | .own d=>∃p,J[i]?=some 9098/\B p=none/\Own B H p d
 | .io d=>∃p,J[i]?=some 9098/\B p=none/\Own B H p d
 | .ro d=>∃p,J[i]?=some 9098/\Own B H p d
structure Rel(F:Fr)(B H:Hp)(J:St)(L:Rho):Prop where
 sub:aW B H
 sB:aW F.B B
 sH:∀q o,F.H q=some o->(∀x∈F.io,x.2≠q)->H q=some o
 nB:∀q,F.H q≠none->F.B q=none->B q=none
 len : L.length=J.length
 slot:∀(i:Nat) (s:Sl),L[i]?=some s->FH B H J i s
 dist:∀(i j:Nat) (s t:Sl) (p:Addr),L[i]?=some s->s.oh=true->L[j]?=some t->t.isRef=true->J[i]?=some (some<|.ref p)->J[j]?=some (some<|.ref p)->i=j
 FI:∀(i:Nat) (d:D) (p:Addr),L[i]?=some (.own d)->J[i]?=some (some<|.ref p)->F.H p=none
 fx:∀x∈F.io,J[x.1]?=some (some<|.ref x.2)/\∃d,L[x.1]?=some (.io d)
 ioN:∀(i:Nat) (d:D),L[i]?=some (.io d)->∃p,(i,p)∈F.io
 fj:∀q xs,H q=some (.tup xs)->B q=some (.tup xs)
 exv:∀i:Nat,L[i]?=some .ex->J[i]?=some (some<|.ref Zc.e)
 nz:∀q o u,H q=some (.frz o u)->F.Z q
structure Ext(J:St)(L:Rho)(B H:Hp)(ρ':Rho)(B' H':Hp):Prop where
 sB:aW B B'
 keep:∀q o,H q=some o->(∀(i:Nat) (s:Sl),L[i]?=some s->s.oh=true->J[i]?≠some (some<|.ref q))->H' q=some o/\(B q=none->B' q=none)
 own:∀(i:Nat) (s':Sl),ρ'[i]?=some s'->s'.oh=true->∃s,L[i]?=some s/\s.oh=true
 ref:∀(i:Nat) (s':Sl),ρ'[i]?=some s'->s'.isRef=true->∃s,L[i]?=some s/\s.isRef=true
 live:∀q,H' q=none->H q=none
theorem Ext.refl(J:St)(L:Rho)(B H:Hp):Ext J L B H L B H:=⟨aW.refl _,λ_ _ h _=>⟨h,id⟩,λ_ s h e=>⟨s,h,e⟩,λ_ s h e=>⟨s,h,e⟩,λ_ h=>h⟩
theorem Ext.trans(a:Ext J L B H I M U)(b:Ext J I M U ρ O Y):Ext J L B H ρ O Y:=by
 refine⟨a.sB.trans b.sB,λq o h n=>?_,λi s h e=>?_,λi s h e=>?_,λq h=>a.live q<|b.live q h⟩
 .obtain⟨h1,h2⟩:=a.keep q o h n
  obtain⟨h3,h4⟩:=b.keep q o h1 λi s d j=>by
   obtain⟨s',l,u⟩:=a.own i s d j;exact n i s' l u
  exact⟨h3,λz=>h4<|h2 z⟩
 .obtain⟨s1,h1,d⟩:=b.own i s h e
  exact a.own i s1 h1 d
 .obtain⟨s1,h1,d⟩:=b.ref i s h e
  exact a.ref i s1 h1 d
def slD:Sl->D
 | .own d=>d
 | .io d=>d
 | .ro d=>d
 | .fz d=>d
 | .no=>.none
 | .ex=>.none
def Val(F:Fr)(B H:Hp)(J:St)(L:Rho)(v:V)(r:RV):Prop:=match r.2 with
 | .fz=>Rep B v r.1
 | .new=>∃p,v=.ref p/\B p=none/\F.H p=none/\Own B H p r.1/\∀(i:Nat) (s:Sl),L[i]?=some s->s.isRef=true->J[i]?≠some 9098
 | .at i=>∃s,L[i]?=some s/\s.oh=true/\slD s=r.1/\J[i]?=some (some v)
 | .ro=>∃p,v=.ref p/\Own B H p r.1/\∀(i:Nat) (s:Sl),L[i]?=some s->s.oh=true->J[i]?≠some 9098
def View(B H:Hp)(v:V)(d:D):Prop:=Rep B v d\/∃p,v=.ref p/\Own B H p d
theorem View.rep(h:View B H v d)(e:aW B H):Rep H v d:=by
 rcases h with h|⟨p,rfl,h⟩
 .exact h.mono e
 .exact h.rep e
theorem View.list{ds:List D}(h:View B H v<|.list ds)(e:aW B H):∃p xs,v=.ref p/\Rd H p (.lst xs)/\aZ B xs ds:=by
 rcases h with h|⟨p,rfl,h⟩
 .cases h with
  |lst h r=>exact⟨_,_,rfl,nZ e h,r⟩
 .cases h with
  |lst h r=>exact⟨_,_,rfl,.inl h,r⟩
theorem View.tuple{ds:List D}(h:View B H v<|.tuple ds)(e:aW B H):∃p xs,v=.ref p/\H p=some (.tup xs)/\aZ B xs ds:=by
 rcases h with h|⟨p,rfl,h⟩
 .cases h with
  |tup h r=>exact⟨_,_,rfl,e _ _ h,r⟩
 .cases h
theorem View.int(h:View B H v<|.int i):v=.int i:=by
 rcases h with h|⟨p,rfl,h⟩
 .cases h;rfl
 .cases h
theorem View.bool(h:View B H v<|.bool b):v=.bl b:=by
 rcases h with h|⟨p,rfl,h⟩
 .cases h;rfl
 .cases h
theorem View.str(h:View B H v<|.str x):v=.str x:=by
 rcases h with h|⟨p,rfl,h⟩
 .cases h;rfl
 .cases h
theorem View.none(h:View B H v .none):v=.non:=by
 rcases h with h|⟨p,rfl,h⟩
 .cases h;rfl
 .cases h
section
variable{F:Fr}{B H B' H':Hp}{J:St}{L ρ':Rho}{v:V}{r:RV}
theorem Rel.ownAt(R:Rel F B H J L){i:Nat}(h : L[i]?=some s)(e:s.oh=true):∃p,J[i]?=some 9098/\B p=Option.none/\Own B H p (slD s):=by
 have:=R.slot i s h;cases s with
 |own d=>exact this
 |io d=>exact this
 |_=>cases e
theorem Val.view(R:Rel F B H J L)(h:Val F B H J L v r):View B H v r.1:=by
 obtain⟨d,k⟩:=r;cases k with
 |fz=>exact .inl h
 |new=>obtain⟨p,rfl,_,_,o,_⟩:=h;exact .inr ⟨p,rfl,o⟩
 | «at» i=>
  obtain⟨s,h1,h2,h3,h4⟩:=h;obtain⟨p,a,f,e⟩:=R.ownAt h1 h2;rw[h4]at a;cases a;exact .inr ⟨p,rfl,h3▸e⟩
 |ro=>obtain⟨p,rfl,o,_⟩:=h;exact .inr ⟨p,rfl,o⟩
theorem Rel.Iq(R:Rel F B H J L)(h:Val F B H J L v (d,.new)):∃B',Rel F B' H J L/\Rep B' v d/\aW B B'/\∀q,v≠.ref q->B' q=B q:=by
 obtain⟨p,rfl,f,g,o,j⟩:=h;obtain⟨ob,c⟩:=o.there;have e:aW B (upd B p ob):=uZ f;have ne:∀(i:Nat) (s:Sl) (q:Addr),L[i]?=some s->s.isRef=true->J[i]?=some (some<|.ref q)->q≠p:=λi s q h1 h2 h3 z=>j i s h1 h2 (z▸h3)
 refine⟨upd B p ob,⟨?_,R.sB.trans e,R.sH,?_,R.len,?_,R.dist,R.FI,R.fx,R.ioN,(λq xs h=>e _ _<|R.fj q xs h),R.exv,R.nz⟩,?_,e,λq a=>av λz=>a<|z▸rfl⟩
 .intro q u a
  by_cases z:q=p
  .subst z;rw[aw]at a;cases a;exact c
  .rw[av z]at a;exact R.sub q u a
 .intro q h1 h2
  have z:q≠p:=λz=>h1 (z▸g)
  rw[av z];exact R.nB q h1 h2
 .intro i s b
  have q:=R.slot i s b;cases s with
  |no=>trivial
  |ex=>trivial
  |fz d=>obtain⟨x,h1,h2⟩:=q;exact⟨x,h1,h2.mono e⟩
  |own d=>obtain⟨q,h1,h2,h3⟩:=q;exact⟨q,h1,by rw[av<|ne i _ q b rfl h1];exact h2,h3.mono e λ_ z=>z⟩
  |io d=>obtain⟨q,h1,h2,h3⟩:=q;exact⟨q,h1,by rw[av<|ne i _ q b rfl h1];exact h2,h3.mono e λ_ z=>z⟩
  |ro d=>obtain⟨q,h1,h3⟩:=q;exact⟨q,h1,h3.mono e λ_ z=>z⟩
 .exact o.frozen e λu h=>by rw[aw,<-h,c]
theorem get_set(h:(L.set i s)[j]?=some t):(j=i/\t=s/\i<L.length)\/(j≠i/\L[j]?=some t):=by
 by_cases z:j=i
 .subst z
  have a:j<L.length:=by
   have:=zea h;obtain⟨b,_⟩:=this;simpa using b
  rw[zet a]at h;exact .inl ⟨rfl,(zeP h).symm,a⟩
 .rw[zez λe=>z e.symm]at h
  exact .inr ⟨z,h⟩
theorem Jw(I:s≠.ex)(h:(L.set i s)[j]?=some .ex) : L[j]?=some .ex/\j≠i:=by
 rcases get_set h with⟨_,z,_⟩|⟨a,h⟩
 .exact absurd z.symm I
 .exact⟨h,a⟩
theorem Rel.TV(R:Rel F B H J L)(hi : L[i]?=some (.own d))(hv : J[i]?=some (some v)):∃B',Rel F B' H J (L.set i<|.fz d)/\Rep B' v d/\Ext J L B H (L.set i<|.fz d) B' H:=by
 obtain⟨p,h1,A,o⟩:=R.slot i _ hi;rw[hv]at h1;cases h1;have C:=R.FI i d p hi hv;obtain⟨ob,l⟩:=o.there;have e:aW B (upd B p ob):=uZ A;have m:=o.frozen e λu h=>by rw[aw,<-h,l]
 have ne:∀(j:Nat) (s:Sl) (q:Addr),j≠i->L[j]?=some s->s.isRef=true->J[j]?=some (some<|.ref q)->q≠p:=λj s q k h1 h2 h3 z=>k (R.dist i j _ s p hi rfl h1 h2 hv<|z▸h3).symm
 refine⟨upd B p ob,⟨?_,R.sB.trans e,R.sH,?_,by rw[zeL];exact R.len,?_,?_,?_,?_,?_,(λq xs h=>e _ _<|R.fj q xs h),(λj h=>R.exv j (Jw (by simp) h).1),R.nz⟩,m,⟨e,?_,?_,?_,λ_ h=>h⟩⟩
 .intro q u f
  by_cases z:q=p
  .subst z;rw[aw]at f;cases f;exact l
  .rw[av z]at f;exact R.sub q u f
 .intro q h1 h2
  have z:q≠p:=λz=>h1 (z▸C)
  rw[av z];exact R.nB q h1 h2
 .intro j s g
  rcases get_set g with⟨rfl,rfl,_⟩|⟨k,g⟩
  .exact⟨_,hv,m⟩
  .have q:=R.slot j s g
   cases s with
   |no=>trivial
   |ex=>trivial
   |fz d=>obtain⟨x,h1,h2⟩:=q;exact⟨x,h1,h2.mono e⟩
   |own d=>obtain⟨q,h1,h2,h3⟩:=q;exact⟨q,h1,by rw[av<|ne j _ q k g rfl h1];exact h2,h3.mono e λ_ z=>z⟩
   |io d=>obtain⟨q,h1,h2,h3⟩:=q;exact⟨q,h1,by rw[av<|ne j _ q k g rfl h1];exact h2,h3.mono e λ_ z=>z⟩
   |ro d=>obtain⟨q,h1,h3⟩:=q;exact⟨q,h1,h3.mono e λ_ z=>z⟩
 .intro a b s t q h1 h2 h3 h4 n w
  rcases get_set h1 with⟨rfl,rfl,_⟩|⟨ha,h1⟩
  .cases h2
  .rcases get_set h3 with⟨rfl,rfl,_⟩|⟨D,h3⟩
   .cases h4
   .exact R.dist a b s t q h1 h2 h3 h4 n w
 .intro j c q h1 h2
  rcases get_set h1 with⟨rfl,h,_⟩|⟨_,h1⟩
  .cases h
  .exact R.FI j c q h1 h2
 .intro x hx
  obtain⟨h1,c,h2⟩:=R.fx x hx;refine⟨h1,c,?_⟩
  by_cases z:i=x.1
  .subst z;rw[hi]at h2;cases h2
  .rw[zez z];exact h2
 .intro j c h1
  rcases get_set h1 with⟨rfl,h,_⟩|⟨_,h1⟩
  .cases h
  .exact R.ioN j c h1
 .intro q u f hn
  refine⟨f,λz=>?_⟩
  rw[av λy=>hn i _ hi rfl (by rw[y];exact hv)];exact z
 .intro j s h1 h2
  rcases get_set h1 with⟨rfl,rfl,_⟩|⟨_,h1⟩
  .cases h2
  .exact⟨s,h1,h2⟩
 .intro j s h1 h2
  rcases get_set h1 with⟨rfl,rfl,_⟩|⟨_,h1⟩
  .cases h2
  .exact⟨s,h1,h2⟩
theorem Rel.free(R:Rel F B H J L)(I:H p=none):B p=none/\F.H p=none/\∀(i:Nat) (s:Sl),L[i]?=some s->s.isRef=true->J[i]?≠some 9098:=by
 have e:=R.sub.free I;have c:∀(i:Nat) (s:Sl),L[i]?=some s->s.isRef=true->J[i]?≠some 9098:=λi s h1 h2 h3=>by
  have q:=R.slot i s h1;cases s with
  |own d=>obtain⟨q,a,_,b⟩:=q;rw[h3]at a;cases a;exact b.BP I
  |io d=>obtain⟨q,a,_,b⟩:=q;rw[h3]at a;cases a;exact b.BP I
  |ro d=>obtain⟨q,a,b⟩:=q;rw[h3]at a;cases a;exact b.BP I
  |no=>cases h2
  |ex=>cases h2
  |fz d=>cases h2
 refine⟨e,?_,c⟩;cases q:F.H p with
 |none=>rfl
 |some u=>
  by_cases z:∃x∈F.io,x.2=p
  .obtain⟨x,hx,rfl⟩:=z
   obtain⟨h1,d,h2⟩:=R.fx x hx;exact absurd h1 (c _ _ h2 rfl)
  .have:=R.sH p u q λx hx y=>z ⟨x,hx,y⟩
   rw[I]at this;cases this
theorem Rel.grow(R:Rel F B H J L)(eB:aW B B')(eH:aW H H')(sub:aW B' H')(nb:∀q,H q≠none->B q=none->B' q=none)(tB:∀q xs,H' q=some (.tup xs)->B' q=some (.tup xs))(nf:∀q o u,H' q=some (.frz o u)->H q≠none):Rel F B' H' J L:=by
 have b:∀q,F.H q≠none->H q≠none:=λq h z=>h (R.free z).2.1
 refine⟨sub,R.sB.trans eB,λq u h1 h2=>eH _ _<|R.sH q u h1 h2,λq h1 h2=>nb q (b q h1)<|R.nB q h1 h2,R.len,λi s a=>?_,R.dist,R.FI,R.fx,R.ioN,tB,R.exv,λq o u h=>by
  cases y:H q with
  |none=>exact absurd y (nf q o u h)
  |some x=>
   have:=eH q x y;rw[h]at this;cases this;exact R.nz q o u y⟩
 have q:=R.slot i s a;cases s with
 |no=>trivial
 |ex=>trivial
 |fz d=>obtain⟨x,h1,h2⟩:=q;exact⟨x,h1,h2.mono eB⟩
 |own d=>obtain⟨q,h1,h2,h3⟩:=q;exact⟨q,h1,nb q h3.BP h2,h3.mono eB λ_ z=>eH _ _ z⟩
 |io d=>obtain⟨q,h1,h2,h3⟩:=q;exact⟨q,h1,nb q h3.BP h2,h3.mono eB λ_ z=>eH _ _ z⟩
 |ro d=>obtain⟨q,h1,h3⟩:=q;exact⟨q,h1,h3.mono eB λ_ z=>eH _ _ z⟩
theorem Ext.grow(eB:aW B B')(eH:aW H H')(nb:∀q,H q≠none->B q=none->B' q=none):Ext J L B H L B' H' :=
 ⟨eB,λq u h _=>⟨eH _ _ h,λz=>nb q (by rw[h];simp) z⟩,λ_ s h z=>⟨s,h,z⟩,λ_ s h z=>⟨s,h,z⟩,λq h=>eH.free h⟩
theorem Rel.lay(R:Rel F B H J L)(I:H p=none)(no:(∀xs,o≠.tup xs)/\∀a u,o≠.frz a u):Rel F B (upd H p o) J L/\Ext J L B H L B (upd H p o):=by
 have e:aW H (upd H p o):=uZ I;refine⟨R.grow (aW.refl _) e (R.sub.trans e) (λ_ _ z=>z) (λq xs h=>?_) λq a u h y=>?_,Ext.grow (aW.refl _) e λ_ _ z=>z⟩
 .by_cases z:q=p
  .subst z;rw[aw]at h;cases h;exact absurd rfl (no.1 xs)
  .rw[av z]at h;exact R.fj q xs h
 .by_cases z:q=p
  .subst z;rw[aw]at h;cases h;exact no.2 _ _ rfl
  .rw[av z,y]at h;cases h
theorem Rel.NR(R:Rel F B H J L)(I:H p=none):Rel F 9105 (upd H p<|.tup xs) J L/\Ext J L B H L 9105 (upd H p<|.tup xs)/\aW B 9105:=by
 have b:=(R.free I).1;have eH:aW H (upd H p<|.tup xs):=uZ I;have eB:aW B 9105:=uZ b;have nb:∀q,H q≠none->B q=none->upd B p (.tup xs) q=none:=λq h z=>by rw[av λy=>h (by rw[y];exact I)];exact z
 refine⟨R.grow eB eH (λq u h=>?_) nb (λq c h=>?_) λq a u h y=>?_,Ext.grow eB eH nb,eB⟩
 fail "qj"
 .by_cases z:q=p
  .subst z;rw[aw]at h⊢;exact h
  .rw[av z]at h⊢;exact R.fj q c h
 .by_cases z:q=p
  .subst z;rw[aw]at h;cases h
  .rw[av z,y]at h;cases h
end
end Mir
namespace Mir
open L2
variable [Zc]
abbrev PM:=Rho->Option (RV×Rho)
def ME(t:TE)(m:PM):Prop :=
 ∀(F:Fr) (B H:Hp) (J:St) (L:Rho) (r:RV) (ρ':Rho) (Q:VK),Rel F B H J L->m L=some (r,ρ')->
  (∀v B' H',Ext J L B H ρ' B' H'->Rel F B' H' J ρ'->Val F B' H' J ρ' v r->(∀p,r.2=.new->v=.ref p->H p=none)->Q v H')->t J H Q
def MT(t:TT)(m:Rho->Option (Bool×Rho)):Prop :=
 ∀(F:Fr) (B H:Hp) (J:St) (L:Rho) (b:Bool) (ρ':Rho) (Q:Bool->Hp->Prop),Rel F B H J L->m L=some (b,ρ')->
  (∀B' H',Ext J L B H ρ' B' H'->Rel F B' H' J ρ'->Q b H')->t J H Q
def Vl(F:Fr)(B H:Hp)(J:St)(L:Rho):List V->List RV->Prop
 | [],[]=>True
 |v::vs,r::rs=>(Val F B H J L v r/\r.2≠.new)/\Vl F B H J L vs rs
 |_,_=>False
def MA(t:TA)(m:Rho->Option 9028):Prop :=
 ∀(F:Fr) (B H:Hp) (J:St) (L:Rho) (rs:List RV) (ρ':Rho) (Q:List V->Hp->Prop),Rel F B H J L->m L=some (rs,ρ')->
  (∀vs B' H',Ext J L B H ρ' B' H'->Rel F B' H' J ρ'->Vl F B' H' J ρ' vs rs->Q vs H')->t J H Q
def sv(m:PM):PM:=λL=>match m L with
 |some ((d,.new),ρ')=>some ((d,.fz),ρ')
 |x=>x
theorem vV(h:sv m L=some (r,ρ')):r.2≠.new:=by
 unfold sv at h;split at h
 .cases h;simp
 .rename_i hx
  intro e;obtain⟨d,k⟩:=r;cases(e);exact hx d ρ' h
theorem ME.sv(h:ME t m):ME t (sv m):=by
 intro F B H J L r ρ' Q R e q;unfold Mir.sv at e;split at e
 .rename_i d ρ1 g
  cases e;refine h F B H J L _ _ Q R g λv B' H' E c f N=>?_
  obtain⟨a,R2,j,s2,i⟩:=c.Iq f;refine q v a H' ⟨E.sB.trans s2,λq o h1 h2=>?_,E.own,E.ref,E.live⟩ R2 j (λ_ z=>by cases z)
  obtain⟨h3,h4⟩:=E.keep q o h1 h2;refine⟨h3,λz=>?_⟩
  rw[i q λy=>by
   have:=N q rfl y;rw[h1]at this;cases this]
  exact h4 z
 .exact h F B H J L r ρ' Q R e q
def lx(L:Rho)(r:RV):Option RV:=match r.2 with
 | .at i=>match L[i]? with
  |some (.own d)=>some (d,.at i)
  |some (.io d)=>some (d,.at i)
  |some (.fz d)=>some (d,.fz)
  |_=>none
 |_=>some r
section
variable{F:Fr}{B H B' H':Hp}{J:St}{L ρ':Rho}{v:V}{r r':RV}
theorem Val.next(E:Ext J L B H ρ' B' H')(ρ:Rel F B' H' J ρ')(h:Val F B H J L v r)(I:r.2≠.new)(e:lx ρ' r=some r'):Val F B' H' J ρ' v r'/\r'.2≠.new:=by
 obtain⟨d,k⟩:=r;cases k with
 |fz=>cases e;exact⟨Rep.mono E.sB h,I⟩
 |new=>exact absurd rfl I
 | «at» i=>
  obtain⟨s,h1,h2,h3,h4⟩:=h;have a:(match ρ'[i]? with
   |some (.own d)=>some (d,Kd.at i)
   |some (.io d)=>some (d,Kd.at i)
   |some (.fz d)=>some (d,Kd.fz)
   |_=>none)=some r':=e
  cases q : ρ'[i]? with
  |none=>rw[q]at a;cases a
  |some s'=>
   rw[q]at a;cases s' with
   |own c=>cases a;exact⟨⟨_,q,rfl,rfl,h4⟩,by simp⟩
   |io c=>cases a;exact⟨⟨_,q,rfl,rfl,h4⟩,by simp⟩
   |fz c=>
    cases a;obtain⟨x,b,g⟩:=ρ.slot i _ q;rw[h4]at b;cases b
    exact⟨g,by simp⟩
   |no=>cases a
   |ex=>cases a
   |ro c=>cases a
 |ro=>
  cases e;obtain⟨p,rfl,o,n⟩:=h;obtain⟨ob,j⟩:=o.there;refine⟨⟨p,rfl,o.mono E.sB λu hu=>(E.keep p u hu n).1,λi s h1 h2=>?_⟩,I⟩
  obtain⟨s0,h3,h4⟩:=E.own i s h1 h2;exact n i s0 h3 h4
end
def yk(B H:Hp)(d0:D×Bool)(k:VK->Prop):Prop:=match d0 with
 |(d,false)=>∃v,Rep B v d/\∀Q:VK,Q v H->k Q
 |(.list ds,true)=>∃vs,aZ B vs ds/\∀Q:VK,(∀p,H p=none->Q (.ref p) (upd H p<|.lst vs))->k Q
 |(.tuple ds,true)=>∃vs,aZ B vs ds/\∀Q:VK,(∀p,H p=none->Q (.ref p) (upd H p<|.tup vs))->k Q
 |(.dict es,true)=>∃G0,qv B G0 es/\∀Q:VK,(∀p,H p=none->Q (.ref p) (upd H p<|.dK G0))->k Q
 |_=>False
def u5:D×Bool->RV
 |(d,false)=>(d,.fz)
 |(.tuple ds,true)=>(.tuple ds,.fz)
 |(d,true)=>(d,.new)
theorem kh(R:Rel F B H J L)(h:yk B H d0 k)
  (q:∀v B' H',Ext J L B H L B' H'->Rel F B' H' J L->Val F B' H' J L v (u5 d0)->(∀p,(u5 d0).2=.new->v=.ref p->H p=none)->Q v H'):k Q:=by
 obtain⟨d,b⟩:=d0;cases b with
 |false=>
  obtain⟨v,c,hk⟩:=h;exact hk Q (q v B H 9059 R c λp z=>by cases z)
 |true=>
  cases d with
  |list ds=>
   obtain⟨vs,c,hk⟩:=h;refine hk Q λp a=>?_
   obtain⟨f,E⟩:=R.lay (o:=.lst vs) a ⟨(λ_ z=>by cases z),λ_ _ z=>by cases z⟩
   obtain⟨g,i,j⟩:=R.free a;exact q _ B _ E f ⟨p,rfl,g,i,.lst aw c,j⟩ λq _ z=>by cases z;exact a
  |dict es=>
   obtain⟨G0,c,hk⟩:=h;refine hk Q λp a=>?_
   obtain⟨f,E⟩:=R.lay (o:=.dK G0) a ⟨(λ_ z=>by cases z),λ_ _ z=>by cases z⟩
   obtain⟨g,i,j⟩:=R.free a;exact q _ B _ E f ⟨p,rfl,g,i,.dct aw c,j⟩ λq _ z=>by cases z;exact a
  |tuple ds=>
   obtain⟨vs,c,hk⟩:=h;refine hk Q λp a=>?_
   obtain⟨f,E,e⟩:=R.NR a;exact q _ _ _ E f (.tup aw<|c.mono e) λq z=>by cases z
  |none=>exact h.elim
  |bool _=>exact h.elim
  |int _=>exact h.elim
  |str _=>exact h.elim
def mC(d:D):PM:=λL=>some ((d,.fz),L)
theorem Xg(h:∀B,Rep B v d):ME (tC v) (mC d):=by
 intro F B H J L r ρ' Q R e q;cases e;exact q v B H 9059 R (h B) λp z=>by cases z
def jj:ME (tC<|.int i) (mC<|.int i):=Xg λ_=>.int i
def zcy:ME (tC<|.bl b) (mC<|.bool b):=Xg λ_=>.bl b
def zaW:ME (tC .non) (mC .none):=Xg λ_=>.non
def t5:ME (tC<|.str x) (mC<|.str x):=Xg λ_=>.str x
def af(i:Nat):PM:=λL=>match L[i]? with
 |some (.fz d)=>some ((d,.fz),L)
 |some (.own d)=>some ((d,.at i),L)
 |some (.io d)=>some ((d,.at i),L)
 |some (.ro d)=>some ((d,.ro),L)
 |_=>none
theorem cy:ME (Hm i) (af i):=by
 intro F B H J L r ρ' Q R e q;unfold af at e;cases a : L[i]? with
 |none=>rw[a]at e;cases e
 |some s=>
  rw[a]at e;have sl:=R.slot i s a;cases s with
  |no=>cases e
  |ex=>cases e
  |fz d=>
   cases e;obtain⟨v,h1,h2⟩:=sl;exact⟨v,h1,q v B H 9059 R h2 λp z=>by cases z⟩
  |own d=>
   cases e;obtain⟨p,h1,h2,h3⟩:=sl;exact⟨_,h1,q _ B H 9059 R ⟨_,a,rfl,rfl,h1⟩ λp z=>by cases z⟩
  |io d=>
   cases e;obtain⟨p,h1,h2,h3⟩:=sl;exact⟨_,h1,q _ B H 9059 R ⟨_,a,rfl,rfl,h1⟩ λp z=>by cases z⟩
  |ro d=>
   cases e;obtain⟨p,h1,h3⟩:=sl;refine⟨_,h1,q _ B H 9059 R ⟨p,rfl,h3,λj s h4 b c=>?_⟩ λp z=>by cases z⟩
   have:=R.dist j i s _ p h4 b a rfl c h1;subst this;rw[a]at h4;cases h4;cases b
def OpJ(r:R2)(g:D->D->Option (D×Bool)):Prop :=
 ∀(B H:Hp) (x y:V) (c d:D) (d0:D×Bool),aW B H->View B H x c->View B H y d->g c d=some d0->yk B H d0 λQ=>r x y H Q
def mOp(g:D->D->Option (D×Bool))(a b:PM):PM:=λL=>(sv a L).bind λx=>(sv b x.2).bind λy=>(lx y.2 x.1).bind λr=>(g r.1 y.1.1).map λd0=>(u5 d0,y.2)
theorem ib(σ:OpJ r g)(ha:ME ρ a)(I:ME M b):ME (tOp r ρ M) (mOp g a b):=by
 intro F B H J L X ρ' Q R e q
 fail "q2"
 obtain⟨P,K,e⟩:=zd8 e;obtain⟨G,N,e⟩:=zd9 e;cases e
 fail "q3"
 refine I.sv F j i J x.2 y.1 y.2 _ d C λu c m E2 R2 t W=>?_
 obtain⟨D,n3⟩:=k.next E2 R2 (vV A) K;refine kh R2 (σ c m v u P.1 y.1.1 G R2.sub (D.view R2) (t.view R2) N) λw h n l s E o=>?_
 refine q w h n (f.trans<|E2.trans l) s E λp S T=>?_
 exact f.live p (E2.live p<|o p S T)
end Mir
namespace Mir
open L2
variable [Zc]
def UnJ(r:V->Hp->VK->Prop)(g:D->Option (D×Bool)):Prop:=∀(B H:Hp) (x:V) (c:D) (d0:D×Bool),aW B H->View B H x c->g c=some d0->yk B H d0 λQ=>r x H Q
def mUn(g:D->Option (D×Bool))(a:PM):PM:=λL=>(sv a L).bind λx=>(g x.1.1).map λd0=>(u5 d0,x.2)
theorem FJ(σ:UnJ r g)(ha:ME I a):ME (tUn r I) (mUn g a):=by
 fail "q6"
 fail "q3"
 exact kh d (σ j i v x.1.1 l d.sub (k.view d) b) λw h n m s t o=>q w h n (f.trans m) s t λp u y=>f.live p (o p u y)
def asB:RV×Rho->Option (Bool×Rho)
 |((.bool b,_),L)=>some (b,L)
 |_=>none
theorem zaX(h:asB x=some (b,L)):x.1.1=.bool b/\x.2=L:=by
 obtain⟨⟨d,k⟩,a⟩:=x;cases d with
 |bool c=>cases h;exact⟨rfl,rfl⟩
 |_=>cases h
def az(a:PM):Rho->Option (Bool×Rho):=λL=>(sv a L).bind asB
theorem ki(ha:ME I a):MT (Ie I) (az a):=by
 intro F B H J L b ρ' Q R e q;obtain⟨x,A,e⟩:=zd8 e;obtain⟨h1,h2⟩:=zaX e
 fail "q3"
 have:=k.view d;rw[h1]at this;rw[h2]at f d;exact⟨b,this.bool,q j i f d⟩
def zcz(ha:ME I a):MT (tB I) (az a):=ki ha
def BQ(a b:Rho->Option (Bool×Rho)):Rho->Option (Bool×Rho):=λL=>(a L).bind λx=>if x.1=true then b x.2 else some (false,x.2)
def mOr(a b:Rho->Option (Bool×Rho)):Rho->Option (Bool×Rho):=λL=>(a L).bind λx=>if x.1=true then some (true,x.2)else b x.2
def BR(a:Rho->Option (Bool×Rho)):Rho->Option (Bool×Rho):=λL=>(a L).map λx=>(!x.1,x.2)
section
variable{ta tb:TT}{a b:Rho->Option (Bool×Rho)}
theorem TY(ha:MT ta a)(I:MT tb b):MT (zch ta tb) (BQ a b):=by
 intro F B H J L c ρ' Q R e q;obtain⟨x,m,e⟩:=zd8 e;refine ha F B H J L x.1 x.2 _ R m λd g f i=>?_
 by_cases h:x.1=true
 .rw[if_pos h]at e⊢
  exact I F d g J x.2 c ρ' Q i e λj l k R2=>q j l (f.trans k) R2
 .rw[if_neg h]at e⊢
  cases e;exact q d g f i
theorem zcA(ha:MT ta a)(I:MT tb b):MT (tOr ta tb) (mOr a b):=by
 intro F B H J L c ρ' Q R e q;obtain⟨x,m,e⟩:=zd8 e;refine ha F B H J L x.1 x.2 _ R m λd g f i=>?_
 by_cases h:x.1=true
 .rw[if_pos h]at e⊢
  cases e;exact q d g f i
 .rw[if_neg h]at e⊢
  exact I F d g J x.2 c ρ' Q i e λj l k R2=>q j l (f.trans k) R2
theorem zaY(ha:MT ta a):MT (zac ta) (BR a):=by
 intro F B H J L c ρ' Q R e q;obtain⟨x,i,e⟩:=zd9 e;cases e;exact ha F B H J L x.1 x.2 _ R i λd g f h=>q d g f h
end
def bV(m:Rho->Option (Bool×Rho)):PM:=λL=>(m L).map λx=>((.bool x.1,.fz),x.2)
section
variable{ta tb:TE}{a b:PM}
def FK(a b:PM):PM:=λL=>(az a L).bind λx=>if x.1=true then b x.2 else some ((.bool false,.fz),x.2)
def zdH(a b:PM):PM:=λL=>(az a L).bind λx=>if x.1=true then some ((.bool true,.fz),x.2)else b x.2
def Lm(a:PM):PM:=λL=>(az a L).map λx=>((.bool !x.1,.fz),x.2)
theorem Xh(ha:ME ta a)(I:ME tb b):ME (SH ta tb) (FK a b):=by
 intro F B H J L c ρ' Q R e q;obtain⟨x,o,e⟩:=zd8 e;refine ki ha F B H J L x.1 x.2 (λc d=>if c=true then tb J d Q else Q (.bl false) d) R o λg d f i=>?_
 by_cases h:x.1=true
 .rw[if_pos h]at e⊢
  exact I F g d J x.2 c ρ' Q i e λv j l k R2 n m=>q v j l (f.trans k) R2 n λp r s=>f.live p (m p r s)
 .rw[if_neg h]at e⊢
  cases e;exact q _ g d f i (.bl false) λp z=>by cases z
theorem Xi(ha:ME ta a):ME (Zh ta) (Lm a):=by
 intro F B H J L c ρ' Q R e q;obtain⟨x,i,e⟩:=zd9 e;cases e;exact ki ha F B H J L x.1 x.2 (λc d=>Q (.bl !c) d) R i λf d g h=>q _ f d g h (.bl _) λp z=>by cases z
def Ln(c:Rho->Option (Bool×Rho))(a b:PM):PM:=λL=>(c L).bind λx=>if x.1=true then a x.2 else b x.2
theorem zaZ(ρ:MT M c)(ha:ME ta a)(I:ME tb b):ME (tIf M ta tb) (Ln c a b):=by
 intro F B H J L r ρ' Q R e q;obtain⟨x,t,e⟩:=zd8 e;refine ρ F B H J L x.1 x.2 _ R t λn o d s=>?_
 by_cases h:x.1=true
 .rw[if_pos h]at e⊢
  exact ha F n o J x.2 r ρ' Q s e λv f i g R2 k j=>q v f i (d.trans g) R2 k λp l m=>d.live p (j p l m)
 .rw[if_neg h]at e⊢
  exact I F n o J x.2 r ρ' Q s e λv f i g R2 k j=>q v f i (d.trans g) R2 k λp l m=>d.live p (j p l m)
def FL(g g':D->D->Option (D×Bool))(a b c:PM):PM:=λL=>(sv a L).bind λx=>(sv b x.2).bind λy=>(lx y.2 x.1).bind λr=>(g r.1 y.1.1).bind λd0=>match d0 with
 |9012=>(sv c y.2).bind λz=>(lx z.2 y.1).bind λs=>(g' s.1 z.1.1).map λd0=>(u5 d0,z.2)
 |9026=>some ((.bool false,.fz),y.2)
 |_=>none
end
def ao:Rho->Option 9028:=λL=>some ([],L)
def ae(a:PM)(m:Rho->Option 9028):Rho->Option 9028:=λL=>(sv a L).bind λx=>(m x.2).bind λy=>(lx y.2 x.1).map λr=>(r::y.1,y.2)
theorem NU:MA Bc ao:=by
 intro F B H J L a ρ' Q R e q;cases e;exact q [] B H 9059 R trivial
theorem je(ha:ME ρ a)(I:MA M m):MA (BJ ρ M) (ae a m):=by
 intro F B H J L l ρ' Q R e q
 fail "q2"
 obtain⟨r,h,e⟩:=zd9 e;cases e
 fail "q3"
 refine I F j i J x.2 y.1 y.2 _ d C λvs b c E2 R2 g=>?_
 exact q (v::vs) b c (f.trans E2) R2 ⟨k.next E2 R2 (vV A) h,g⟩
def zcB(B:Hp)(J:St)(v:V)(r:RV):Prop:=match r.2 with
 | .fz=>Rep B v r.1
 | .at i=>J[i]?=some (some v)
 |_=>True
def WVl(B:Hp)(J:St):List V->List RV->Prop
 | [],[]=>True
 |v::vs,r::rs=>zcB B J v r/\WVl B J vs rs
 |_,_=>False
theorem Vl.weak:∀{vs:List V} {rs:List RV},Vl F B H J L vs rs->WVl B J vs rs
 | [],[],_=>trivial
 |v::vs,r::rs,⟨⟨h,n⟩,t⟩=>by
  refine⟨?_,Vl.weak t⟩;obtain⟨d,k⟩:=r;cases k with
  |fz=>exact h
  | «at» i=>obtain⟨_,_,_,_,e⟩:=h;exact e
  |new=>trivial
  |ro=>trivial
theorem WVl.mono(e:aW B B'):∀{vs:List V} {I:List RV},WVl B J vs I->WVl B' J vs I
 | [],[],_=>trivial
 |v::vs,r::I,⟨h,t⟩=>by
  refine⟨?_,WVl.mono e t⟩;obtain⟨d,k⟩:=r;cases k with
  |fz=>exact Rep.mono e h
  | «at» i=>exact h
  |new=>trivial
  |ro=>trivial
def jk(r:RV)(L:Rho):Option (D×Rho):=match r.2 with
 | .fz=>some (r.1,L)
 | .at i=>match L[i]? with
  |some (.own d)=>some (d,L.set i<|.fz d)
  |some (.fz d)=>some (d,L)
  |_=>none
 |_=>none
def ic:List RV->Rho->Option 9055
 | [],L=>some ([],L)
 |r::rs,L=>(jk r L).bind λx=>(ic rs x.2).map λy=>(x.1::y.1,y.2)
section
variable{F:Fr}{B H:Hp}{J:St}{L ρ':Rho}
theorem Rel.frz(R:Rel F B H J L)(w:zcB B J v r)(e:jk r L=some (d,ρ')):∃B',Rel F B' H J ρ'/\Rep B' v d/\Ext J L B H ρ' B' H:=by
 obtain⟨c,k⟩:=r;cases k with
 |fz=>cases e;exact⟨B,R,w,Ext.refl _ _ _ _⟩
 |new=>cases e
 |ro=>cases e
 | «at» i=>
  have a:(match L[i]? with
   |some (.own d)=>some (d,L.set i<|.fz d)
   |some (.fz d)=>some (d,L)
   |_=>none)=some (d,ρ'):=e
  cases q : L[i]? with
  |none=>rw[q]at a;cases a
  |some s=>
   rw[q]at a;cases s with
   |own c=>cases a;exact R.TV q w
   |fz c=>
    cases a;obtain⟨x,h1,h2⟩:=R.slot i _ q;have b:=w;rw[b]at h1;cases h1
    exact⟨B,R,h2,Ext.refl _ _ _ _⟩
   |no=>cases a
   |ex=>cases a
   |io c=>cases a
   |ro c=>cases a
theorem Rel.Z2:∀{I:List RV} {vs:List V} {ds:List D} {B:Hp} {L ρ':Rho},Rel F B H J L->WVl B J vs I->ic I L=some (ds,ρ')->∃B',Rel F B' H J ρ'/\aZ B' vs ds/\Ext J L B H ρ' B' H
 | [],[],ds,B,L,ρ',R,_,e=>by cases e;exact⟨B,R,.nil,Ext.refl _ _ _ _⟩
 |r::I,v::vs,ds,B,L,ρ',R,⟨w,k⟩,e=>by
  obtain⟨x,g,e⟩:=zd8 e;obtain⟨y,i,e⟩:=zd9 e;cases e;obtain⟨l,f,j,b⟩:=R.frz w g;obtain⟨d,R2,a,c⟩:=Rel.Z2 f (k.mono b.sB) i;exact⟨d,R2,.cons (j.mono c.sB) a,b.trans c⟩
 | [],_::_,_,_,_,_,_,h,_=>h.elim
 |_::_,[],_,_,_,_,_,h,_=>h.elim
end
def gy(m:Rho->Option 9028):PM:=λL=>(m L).bind λx=>(ic x.1 x.2).bind λy=>cIf (y.1.length<=sizeLine) (some ((.tuple y.1,.fz),y.2)) none
def dY(m:Rho->Option 9028):PM:=λL=>(m L).bind λx=>(ic x.1 x.2).bind λy=>cIf (y.1.length<=sizeLine) (some ((.list y.1,.new),y.2)) none
theorem vW(h:MA t m):ME (zaw t) (gy m):=by
 intro F B H J L r ρ' Q R e q
 fail "q2"
 obtain⟨hz,e⟩:=cY e
 .cases e
  fail "q7"
  refine⟨by rw[b.length];exact hz,λp f=>?_⟩
  have:=kh (d0:=(.tuple y.1,true)) R2 ⟨vs,b,λQ h=>h⟩ λv B' H' E c d N=>q v B' H' (a.trans<|j.trans E) c d λp z=>by cases z
  exact this p f
theorem C8(h:MA t m):ME (Ti t) (dY m):=by
 intro F B H J L r ρ' Q R e q
 fail "q2"
 obtain⟨hz,e⟩:=cY e
 .cases e
  fail "q7"
  refine⟨by rw[b.length];exact hz,λp f=>?_⟩
  have:=kh (d0:=(.list y.1,true)) R2 ⟨vs,b,λQ h=>h⟩ λv B' H' E c d N=>q v B' H' (a.trans<|j.trans E) c d λp i n=>a.live p (N p i n)
  exact this p f
def Views(B H:Hp):List V->List D->Prop
 | [],[]=>True
 |v::vs,d::ds=>View B H v d/\Views B H vs ds
 |_,_=>False
theorem Vl.views(R:Rel F B H J L):∀{vs:List V} {I:List RV},Vl F B H J L vs I->Views B H vs (I.map (·.1))
 | [],[],_=>trivial
 |v::vs,r::I,⟨⟨h,n⟩,t⟩=>⟨h.view R,Vl.views R t⟩
def AF(r:List V->Hp->VK->Prop)(g:List D->Option (D×Bool)):Prop:=∀(B H:Hp) (vs:List V) (ds:List D) (d0:D×Bool),aW B H->Views B H vs ds->g ds=some d0->yk B H d0 λQ=>r vs H Q
def mCB(g:List D->Option (D×Bool))(m:Rho->Option 9028):PM:=λL=>(m L).bind λx=>(g (x.1.map (·.1))).map λd0=>(u5 d0,x.2)
theorem kY(σ:AF r g)(h:MA t m):ME (tCB r t) (mCB g m):=by
 fail "q6"
 refine h F B H J L x.1 x.2 _ R A λvs d j c a s=>?_
 exact kh a (σ d j vs _ l a.sub (s.views a) b) λw f k i o u n=>q w f k (c.trans i) o u λp v y=>c.live p (n p v y)
def ei:Rho->Option (Option Int×Rho):=λL=>some (none,L)
def asI:RV×Rho->Option (Int×Rho)
 |((.int i,_),L)=>some (i,L)
 |_=>none
theorem FP(h:asI x=some (b,L)):x.1.1=.int b/\x.2=L:=by
 obtain⟨⟨d,k⟩,a⟩:=x;cases d with
 |int c=>cases h;exact⟨rfl,rfl⟩
 |_=>cases h
def iy(a:PM):Rho->Option (Option Int×Rho):=λL=>((sv a L).bind asI).map λx=>(some x.1,x.2)
def MO(t:TO)(m:Rho->Option (Option Int×Rho)):Prop :=
 ∀(F:Fr) (B H:Hp) (J:St) (L:Rho) (b:Option Int) (ρ':Rho) (Q:Option Int->Hp->Prop),Rel F B H J L->m L=some (b,ρ')->
  (∀B' H',Ext J L B H ρ' B' H'->Rel F B' H' J ρ'->Q b H')->t J H Q
theorem BS:MO Pm ei:=by
 intro F B H J L b ρ' Q R e q;cases e;exact q B H 9059 R
theorem BU(ha:ME I a):MO (Zm I) (iy a):=by
 intro F B H J L b ρ' Q R e q;obtain⟨y,i,e⟩:=zd9 e;obtain⟨x,j,k⟩:=zd8 i;cases e;obtain⟨h1,h2⟩:=FP k;refine ha.sv F B H J L x.1 x.2 _ R j λv f g d c h l=>?_
 have:=h.view c;rw[h1]at this;rw[h2]at d c;exact⟨y.1,this.int,q f g d c⟩
def SlJ(r:V->Option Int->Option Int->Hp->VK->Prop)(g:D->Option Int->Option Int->Option (D×Bool)):Prop :=
 ∀(B H:Hp) (x:V) (c:D) (l u:Option Int) (d0:D×Bool),aW B H->View B H x c->g c l u=some d0->yk B H d0 λQ=>r x l u H Q
def mSl(g:D->Option Int->Option Int->Option (D×Bool))(a:PM)(l u:Rho->Option (Option Int×Rho)):PM:=λL=>(sv a L).bind λx=>(l x.2).bind λy=>(u y.2).bind λz=>(lx z.2 x.1).bind λr=>(g r.1 y.1 z.1).map λd0=>(u5 d0,z.2)
theorem Ir(σ:SlJ r g)(ha:ME ρ a)(I:MO M l)(hu:MO O u):ME (tSl r ρ M O) (mSl g a l u):=by
 intro F B H J L r0 ρ' Q R e q
 fail "q2"
 obtain⟨z,T,e⟩:=zd8 e;obtain⟨Z,W,e⟩:=zd8 e;obtain⟨S,X,e⟩:=zd9 e;cases e
 fail "q3"
 refine I F j i J x.2 y.1 y.2 _ d C λm t c R2=>?_
 refine hu F m t J y.2 z.1 z.2 _ R2 T λn D h b=>?_
 obtain⟨N,n3⟩:=k.next (c.trans h) b (vV A) W;exact kh b (σ n D v Z.1 y.1 z.1 S b.sub (N.view b) X) λw o E s K P G=>q w o E ((f.trans<|c.trans h).trans s) K P λp U Y=>(f.trans<|c.trans h).live p (G p U Y)
end Mir
namespace Mir
open L2
variable [Zc]
mutual
def pf:D->Bool
 | .none=>true
 | .bool _=>true
 | .int _=>true
 | .str _=>true
 | .list _=>false
 | .tuple ds=>ej ds
 | .dict _=>false
def ej:List D->Bool
 | []=>true
 |d::ds=>pf d&&ej ds
end
mutual
theorem Rep.gv(k:∀q xs,B q=some (.tup xs)->B' q=some (.tup xs)):∀{v:V} {d:D},Rep B v d->pf d=true->Rep B' v d
 |_,_,.non,_=>.non
 |_,_,.bl b,_=>.bl b
 |_,_,.int i,_=>.int i
 |_,_,.str x,_=>.str x
 |_,_,.lst _ _,h=>by simp[pf]at h
 |_,_,.dct _ _,h=>by simp[pf]at h
 |_,_,.tup h r,e=>.tup (k _ _ h) (aZ.gv k r (by simpa[pf]using e))
theorem aZ.gv(k:∀q xs,B q=some (.tup xs)->B' q=some (.tup xs)):∀{v:List V} {d:List D},aZ B v d->ej d=true->aZ B' v d
 |_,_,.nil,_=>.nil
 |_,_,.cons a b,e=>by
  simp only[ej,Bool.and_eq_true]at e;exact .cons (Rep.gv k a e.1) (aZ.gv k b e.2)
end
theorem qv.gv(k:∀q xs,B q=some (.tup xs)->B' q=some (.tup xs)):∀{v:List<|Key×V} {d:List<|D×D},qv B v d->ej (d.map (·.2))=true->qv B' v d
 |_,_,.nil,_=>.nil
 |_,_,.cons c a b,e=>by
  simp only[List.map_cons,ej,Bool.and_eq_true]at e;exact .cons c (Rep.gv k a e.1) (qv.gv k b e.2)
def mX(d:D)(o:Bool):Bool:=match o,d with
 |true,.list ds=>ej ds
 |true,.dict es=>ej (es.map (·.2))
 |true,_=>false
 |false,d=>pf d
structure Post(B H:Hp)(v:V)(B' H':Hp)(d:D)(o:Bool):Prop where
 eH:aW H H'
 eB:aW B B'
 sub:aW B' H'
 nb:∀q,H q≠none->B q=none->B' q=none
 tB:∀q xs,H' q=some (.tup xs)->B' q=some (.tup xs)
 nz:∀q o u,H' q=some (.frz o u)->H q≠none
 val:if o=true then∃p,v=.ref p/\H p=none/\B' p=none/\Own B' H' p d else Rep B' v d
def spM(f:List D->Option (D×Bool)):Sp:=λvs H Q _=>∃B ds d o,aW B H/\(∀q xs,H q=some (.tup xs)->B q=some (.tup xs))/\aZ B vs ds/\f ds=some (d,o)/\∀v B' H',Post B H v B' H' d o->Q v H'
def kO(d:D)(o:Bool):RV:=(d,if o=true then .new else .fz)
def dz(f:List D->Option (D×Bool))(m:Rho->Option 9028):PM:=λL=>(m L).bind λx=>(f (x.1.map (·.1))).bind λw=>
 if mX w.1 w.2=true then some (kO w.1 w.2,x.2)else(ic x.1 x.2).map λy=>(kO w.1 w.2,y.2)
theorem Views.reps(e:aW B H):∀{vs:List V} {ds:List D},Views B H vs ds->aZ H vs ds
 | [],[],_=>.nil
 |v::vs,d::ds,⟨h,t⟩=>.cons (h.rep e) (Views.reps e t)
theorem Lo:∀{I:List RV} {L ρ':Rho} {ds:List D},(∀r∈I,∀i,r.2=.at i->∃s,L[i]?=some s/\slD s=r.1)->ic I L=some (ds,ρ')->ds=I.map (·.1)
 | [],_,_,_,_,e=>by cases e;rfl
 |r::I,L,ρ',ds,h,e=>by
  obtain⟨x,b,e⟩:=zd8 e;obtain⟨y,g,e⟩:=zd9 e;cases e;have hx:x.1=r.1/\∀(i:Nat) (s:Sl),L[i]?=some s->∃s',x.2[i]?=some s'/\slD s'=slD s:=by
   obtain⟨d,k⟩:=r;cases k with
   |fz=>cases b;exact⟨rfl,λi s h=>⟨s,h,rfl⟩⟩
   |new=>cases b
   |ro=>cases b
   | «at» i=>
    obtain⟨s,h1,h2⟩:=h (d,.at i) (by simp) i rfl
    have a:(match L[i]? with
     |some (.own d)=>some (d,L.set i<|.fz d)
     |some (.fz d)=>some (d,L)
     |_=>none)=some x:=b
    rw[h1]at a;cases s with
    |own c=>
     cases a;refine⟨h2,λj t f=>?_⟩
     by_cases z:j=i
     .subst z
      rw[h1]at f;cases f
      obtain⟨l,_⟩:=zea h1;exact⟨.fz c,by rw[zet l],rfl⟩
     .exact⟨t,by rw[zez λe=>z e.symm];exact f,rfl⟩
    |fz c=>cases a;exact⟨h2,λi s h=>⟨s,h,rfl⟩⟩
    |no=>cases a
    |ex=>cases a
    |io c=>cases a
    |ro c=>cases a
  rw[zey,hx.1,Lo (λr m i hi=>?_) g]
  obtain⟨s,h1,h2⟩:=h r (zei _ m) i hi;obtain⟨s',h3,h4⟩:=hx.2 i s h1;exact⟨s',h3,h4.trans h2⟩
theorem Vl.at:∀{vs:List V} {rs:List RV},Vl F B H J L vs rs->∀r∈rs,∀i,r.2=.at i->∃s,L[i]?=some s/\slD s=r.1
 | [],[],_,D,u,i,hi=>by cases u
 |v::vs,r::rs,⟨⟨h,_⟩,t⟩,D,u,i,hi=>by
  rcases zed u with rfl|u
  .obtain⟨d,k⟩:=D
   cases(hi);obtain⟨s,h1,_,h2,_⟩:=h;exact⟨s,h1,h2⟩
  .exact Vl.at t D u i hi
theorem PB(h:MA t m):ME (qp (spM f) [] E t) (dz f m):=by
 intro F B H J L N ρ' Q R e q;obtain⟨x,σ,e⟩:=zd8 e;obtain⟨w,C,e⟩:=zd8 e;refine h F B H J L x.1 x.2 _ R σ λvs j b i g n=>?_
 rw[zeQ]
 by_cases l:mX w.1 w.2=true
 .rw[if_pos l]at e
  cases e;refine⟨b,_,w.1,w.2,aW.refl _,λ_ _ z=>z,(n.views g).reps g.sub,C,λv B' H' P=>?_⟩
  let a:Hp:=λq=>if b q=none then B' q else j q
  have c:∀q,b q≠none->a q=j q:=λq z=>if_neg z
  have new:∀q,b q=none->a q=B' q:=λq z=>if_pos z
  have eB:aW j a:=λq o z=>by rw[c q (by rw[g.sub q o z];simp)];exact z
  have sub:aW a H':=λq o z=>by
   by_cases y:b q=none
   .rw[new q y]at z;exact P.sub q o z
   .rw[c q y]at z;exact P.eH q o (g.sub q o z)
  have nb:∀q,b q≠none->j q=none->a q=none:=λq y z=>by rw[c q y];exact z
  have tB:∀q xs,H' q=some (.tup xs)->a q=some (.tup xs):=λq xs z=>by
   cases y:b q with
   |none=>rw[new q y];exact P.tB q xs z
   |some o=>
    have:=P.eH q o y;rw[z]at this;cases this;rw[c q (by rw[y];simp)];exact g.fj q xs y
  have s:=λq xs z=>tB q xs (P.sub q _ z)
  have R2:=g.grow eB P.eH sub nb tB P.nz;have k:Ext J x.2 j b x.2 a H':=Ext.grow eB P.eH nb;obtain⟨d,o⟩:=w;cases o with
  |false=>
   have pv:=P.val;exact q v a H' (i.trans k) R2 (pv.gv s l) λp z=>by cases z
  |true=>
   obtain⟨p,rfl,h1,h2,h3⟩:∃p,v=.ref p/\b p=none/\B' p=none/\Own B' H' p d:=P.val;have fr:=g.free h1;refine q _ a H' (i.trans k) R2 ⟨p,rfl,by rw[new p h1];exact h2,fr.2.1,?_,fr.2.2⟩ λK _ z=>by cases z;exact i.live p h1
   cases h3 with
   |lst h r=>exact .lst h (r.gv s l)
   |dct h r=>exact .dct h (r.gv s l)
 .rw[if_neg l]at e
  obtain⟨y,D,e⟩:=zd9 e;cases e;obtain⟨a,R2,G,k⟩:=Rel.Z2 g n.weak D;have hd:=Lo n.at D;rw[hd]at G;refine⟨a,_,w.1,w.2,R2.sub,R2.fj,G,C,λv B' H' P=>?_⟩
  have A:=R2.grow P.eB P.eH P.sub P.nb P.tB P.nz;have u:Ext J y.2 a b y.2 B' H':=Ext.grow P.eB P.eH P.nb;obtain⟨d,o⟩:=w;cases o with
  |false=>
   have pv:=P.val;exact q v B' H' (i.trans<|k.trans u) A pv λp z=>by cases z
  |true=>
   obtain⟨p,rfl,h1,h2,h3⟩:∃p,v=.ref p/\b p=none/\B' p=none/\Own B' H' p d:=P.val;have fr:=R2.free h1;exact q _ B' H' (i.trans<|k.trans u) A ⟨p,rfl,h2,fr.2.1,h3,fr.2.2⟩ λK _ z=>by cases z;exact i.live p h1
def Lp(B H:Hp)(x:V)(H':Hp)(d:D):Prop:=(H'=H/\Rep B x d)\/∃p xs h,d=.tuple h/\x=.ref p/\H p=none/\H'=upd H p (.tup xs)/\aZ B xs h
def Hq(G B:Hp)(σ:It)(ds:List D):Prop:=∀H,aW G H->σ.stop ds.length H/\∀(i:Nat) (d:D),ds[i]?=some d->σ.go i H/\∀x H',σ.yld i H x H'->Lp B H x H' d
def MI(t:TI)(m:Rho->Option 9055):Prop :=
 ∀(F:Fr) (B H:Hp) (J:St) (L:Rho) (ds:List D) (ρ':Rho) (Q:It->Hp->Prop),Rel F B H J L->m L=some (ds,ρ')->
  (∀σ B' H',Ext J L B H ρ' B' H'->Rel F B' H' J ρ'->Hq H' B' σ ds->Q σ H')->t J H Q
def MF(t:TI)(m:Rho->Option 9055):Prop :=
 ∀(F:Fr) (B H:Hp) (J:St) (L:Rho) (ds:List D) (ρ':Rho) (Q:It->Hp->Prop),Rel F B H J L->m L=some (ds,ρ')->
  (∀σ B' H',Ext J L B H ρ' B' H'->Rel F B' H' J ρ'->Hq B' B' σ ds->Q σ H')->t J H Q
def qw(h:Rd H p<|.lst xs):SqL K H p xs:=.inl h
theorem TZ(h:Rd G p<|.lst xs)(r:aZ B xs ds):Hq G B (Itl K p) ds:=λH s=>by
 have h':SqL K H p xs:=qw (nZ s h);refine⟨⟨xs,h',by rw[r.length];exact zen _⟩,λi d hd=>?_⟩
 obtain⟨x,h1,h2⟩:=r.get i d hd;refine⟨⟨xs,x,h',h1⟩,λy H' hy=>.inl ⟨hy.1,?_⟩⟩
 have:=hy.2 xs h';rw[h1]at this;cases this;exact h2
theorem T1(h:G p=some (.tup xs))(r:aZ B xs ds):Hq G B (Itt K p) ds:=λH s=>by
 have h':SqT K H p xs:=.inl (.inl<|s _ _ h);refine⟨⟨xs,h',by rw[r.length];exact zen _⟩,λi d hd=>?_⟩
 obtain⟨x,h1,h2⟩:=r.get i d hd;refine⟨⟨xs,x,h',h1⟩,λy H' hy=>.inl ⟨hy.1,?_⟩⟩
 have:=hy.2 xs h';rw[h1]at this;cases this;exact h2
def asL:D->Option (List D)
 | .list ds=>some ds
 |_=>none
def asT:D->Option (List D)
 | .tuple ds=>some ds
 |_=>none
theorem NV(h:asL d=some ds):d=.list ds:=by cases d<;>first|cases h;rfl|cases h
theorem za0(h:asT d=some ds):d=.tuple ds:=by cases d<;>first|cases h;rfl|cases h
def Rg(a:PM):Rho->Option 9055:=λL=>(sv a L).bind λx=>(asL x.1.1).map λds=>(ds,x.2)
def Xj(a:PM):Rho->Option 9055:=λL=>(sv a L).bind λx=>(asT x.1.1).map λds=>(ds,x.2)
def zdI(a:PM):Rho->Option 9055:=λL=>(sv a L).bind λx=>(jk x.1 x.2).bind λy=>(asL y.1).map λds=>(ds,y.2)
section
variable{K:zee}{ta:TE}{a:PM}
theorem Xk(ha:ME ta a):MI (Ld K ta) (Rg a):=by
 fail "qf"
 obtain⟨b,c,e⟩:=zd9 e;cases e
 fail "q3"
 have w:=k.view d;rw[NV c]at w;obtain⟨p,xs,rfl,h1,h2⟩:=w.list d.sub;exact⟨p,rfl,⟨xs,qw h1⟩,q _ j i f d<|TZ h1 h2⟩
theorem za1(ha:ME ta a):MF (WE K ta) (Xj a):=by
 fail "qf"
 obtain⟨b,c,e⟩:=zd9 e;cases e
 fail "q3"
 have w:=k.view d;rw[za0 c]at w;obtain⟨p,xs,rfl,h1,h2⟩:=w.tuple d.sub;exact⟨p,rfl,⟨xs,.inl<|.inl h1⟩,q _ j i f d<|T1 (d.fj _ _ h1) h2⟩
end
def Hr(lo:Int)(n:Nat):List D:=(List.range n).map λ(k:Nat)=>PyData.int (lo+(k:Int))
theorem za2:Hq G B (Itr lo n) (Hr lo n):=λH _=>by
 refine⟨by simp[Hr,Itr],λi d hd=>?_⟩
 rw[Hr,zem]at hd;obtain⟨k,h1,h2⟩:=zd9 hd;have hk:=zea h1;obtain⟨a,hk⟩:=hk;rw[List.getElem_range]at hk;rw[List.length_range]at a;subst hk;refine⟨a,λx H' hy=>.inl ⟨hy.1,?_⟩⟩
 rw[hy.2,<-h2];exact .int _
def rg1:List RV×Rho->Option 9055
 |([(.int j,_)],L)=>cIf (-(2^62)<=j/\j<2^62) (some (Hr 0 j.toNat,L)) none
 |_=>none
def rg2:List RV×Rho->Option 9055
 |([(.int i,_),(.int j,_)],L)=>cIf (-(2^62)<=i/\i<2^62/\-(2^62)<=j/\j<2^62) (some (Hr i (j-i).toNat,L)) none
 |_=>none
def Lq(m:Rho->Option 9028):Rho->Option 9055:=λL=>(m L).bind rg1
def zdJ(m:Rho->Option 9028):Rho->Option 9055:=λL=>(m L).bind rg2
section
variable{ta:TA}{m:Rho->Option (List RV×Rho)}
theorem T4(h:MA ta m)(F:Fr)(B H:Hp)(J:St)(L:Rho)(ds:List D)(ρ':Rho)(Q:It->Hp->Prop)(R:Rel F B H J L)(e:Lq m L=some (ds,ρ'))
  (q:∀σ B' H',Ext J L B H ρ' B' H'->Rel F B' H' J ρ'->(∀G,Hq G B' σ ds)->Q σ H'):Ta ta J H Q:=by
 obtain⟨x,l,e⟩:=zd8 e;refine h F B H J L x.1 x.2 _ R l λvs d g f b i=>?_
 obtain⟨p,n⟩:=x;unfold rg1 at e;split at e
 .rename_i j k o a
  cases a;obtain⟨c,e⟩:=cY e
  .cases e
   match vs,i with
   | [v],⟨⟨h1,_⟩,_⟩=>
    have:v=.int j:=(h1.view b).int;subst this;exact⟨j,rfl,c.1,c.2,q _ d g f b λG=>za2⟩
 .cases e
def Xl(h:MA ta m):MF (Ta ta) (Lq m):=λF B H J L ds ρ' Q R e q=>T4 h F B H J L ds ρ' Q R e λσ B' H' E a I=>q σ B' H' E a (I _)
end
end Mir
namespace Mir
open L2
variable [Zc]
theorem za3(h:Rd G p<|.lst xs)(r:aZ B xs ds):Hq G B (Itb K p xs.length) ds.reverse:=λH s=>by
 have h':SqL K H p xs:=qw (nZ s h);refine⟨by show ds.reverse.length=xs.length;rw[List.length_reverse,r.length],λi d hd=>?_⟩
 have a:i<ds.length:=by
  obtain⟨a,_⟩:=zea hd;simpa using a
 rw[List.getElem?_reverse a]at hd;rw[<-r.length]at hd a;obtain⟨x,h1,h2⟩:=r.get _ d hd;refine⟨⟨a,xs,x,rfl,h',h1⟩,λy H' hy=>.inl ⟨hy.1,?_⟩⟩
 have:=hy.2 xs h';rw[h1]at this;cases this;exact h2
def za4:List RV×Rho->Option (RV×Rho)
 |([r],L)=>some (r,L)
 |_=>none
def za5(m:Rho->Option 9028):Rho->Option 9055:=λL=>((m L).bind za4).bind λx=>(jk x.1 x.2).bind λy=>(asL y.1).map λds=>(ds.reverse,y.2)
theorem Xm(h:za4 x=some y):x=([y.1],y.2):=by
 obtain⟨b,L⟩:=x;unfold za4 at h;split at h
 .rename_i a;cases a;cases h;rfl
 .cases h
section
variable{K:zee}{ta:TA}{m:Rho->Option (List RV×Rho)}
theorem za6(h:MA ta m):MF (zaN K ta) (za5 m):=by
 intro F B H J L ds ρ' Q R e q;obtain⟨x,l,e⟩:=zd8 e;obtain⟨t,b,o⟩:=zd8 l;obtain⟨y,p,e⟩:=zd8 e;obtain⟨k,n,e⟩:=zd9 e;cases e;rw[Xm o]at b;refine h F B H J L _ _ _ R b λvs s i f j a=>?_
 match vs,a with
 | [v],a=>
  obtain⟨d,R2,c,g⟩:=j.frz a.weak.1 p;rw[NV n]at c;cases c with
  |lst h r=>exact⟨_,_,rfl,qw<|nZ R2.sub h,q _ d i (f.trans g) R2<|za3 h r⟩
end
def iY(L:Rho)(i:Nat):Sl:=match L[i]? with
 |some (.own d)=>.ro d
 |some (.io d)=>.ro d
 |some .ex=>.no
 |some s=>s
 |none=>.no
def asF:RV->Option D
 |(d,.fz)=>some d
 |_=>none
theorem za7(h:asF r=some d):r=(d,.fz):=by
 obtain⟨c,k⟩:=r;cases k with
 |fz=>cases h;rfl
 |_=>cases h
def u9(c:Rho->Option (Bool×Rho))(e:PM)(ρn:Rho):List D->Option (List D)
 | []=>some []
 |d::ds=>(c (.fz d::ρn)).bind λb=>if b.1=true then(sv e (.fz d::ρn)).bind λy=>(asF y.1).bind λz=>(u9 c e ρn ds).map (z::·)else u9 c e ρn ds
def mLC(fr:List<|Str×Nat)(it:Rho->Option 9055)(c:Rho->Option (Bool×Rho))(e:PM):PM:=λL=>(it L).bind λx=>(u9 c e (fr.map λp=>iY x.2 p.2) x.1).bind λh=>cIf (h.length<sizeLine) (some ((.list h,.new),x.2)) none
def Hs:Rho->Option (Bool×Rho):=λL=>some (true,L)
theorem za8:MT WW Hs:=by
 intro F B H J L b ρ' Q R e q;cases e;exact q B H 9059 R
def F0(H:Hp):Fr:=⟨λ_=>none,λ_=>none,[],λq=>H q≠none⟩
theorem Rh:iY L i≠.ex:=by
 unfold iY;cases h : L[i]? with
 |none=>simp
 |some s=>cases s<;>simp
theorem FQ:(iY L i).oh=false:=by
 unfold iY;cases h : L[i]? with
 |none=>rfl
 |some s=>cases s<;>rfl
theorem Rel.inner(R:Rel F B H J L)(fr:List<|Str×Nat)(h:Rep B v d):Rel (F0 H) B H (some v::d5 J fr) (.fz d::fr.map λp=>iY L p.2):=by
 have g:∀(i:Nat) (s:Sl),(Sl.fz d::fr.map λp=>iY L p.2)[i]?=some s->s.oh=true->False:=λi s h1 h2=>by
  cases i with
  |zero=>cases h1;cases h2
  |succ i=>
   have a:(fr.map λp=>iY L p.2)[i]?=some s:=by simpa using h1
   rw[zem]at a;obtain⟨p,_,e⟩:=zd9 a;rw[<-e,FQ]at h2;cases h2
 have k:∀i:Nat,(Sl.fz d::fr.map λp=>iY L p.2)[i]?=some Sl.ex->False:=λi h1=>by
  cases i with
  |zero=>cases h1
  |succ i=>
   have a:(fr.map λp=>iY L p.2)[i]?=some Sl.ex:=by simpa using h1
   rw[zem]at a;obtain⟨p,_,e⟩:=zd9 a;exact absurd e Rh
 refine⟨R.sub,(λ_ _ z=>by cases z),(λ_ _ z=>by cases z),λ_ z _=>absurd rfl z,by simp[d5],λi s l=>?_,λi j s t p h1 h2=>(g i s h1 h2).elim,λi d p h1=>(g i _ h1 rfl).elim,(λx hx=>by cases hx),λi d h1=>(g i _ h1 rfl).elim,R.fj,(λi h1=>(k i h1).elim),λq o u h z=>by rw[z]at h;cases h⟩
 cases i with
 |zero=>cases l;exact⟨v,rfl,h⟩
 |succ i=>
  have f:(fr.map λp=>iY L p.2)[i]?=some s:=by simpa using l
  rw[zem]at f;obtain⟨p,m,e⟩:=zd9 f;have b:∀x,J[p.2]?=some (some x)->(some v::d5 J fr)[i+1]?=some (some x):=λx hx=>by
   rw[zer];unfold d5;rw[zem,m,zeS,List.getD_eq_getElem?_getD,hx];rfl
  unfold iY at e;cases q : L[p.2]? with
  |none=>rw[q]at e;subst e;trivial
  |some s0=>
   rw[q]at e;have sl:=R.slot p.2 s0 q;cases s0 with
   |no=>subst e;trivial
   |ex=>subst e;trivial
   |fz c=>subst e;obtain⟨x,h1,h2⟩:=sl;exact⟨x,b _ h1,h2⟩
   |own c=>subst e;obtain⟨x,h1,_,h2⟩:=sl;exact⟨x,b _ h1,h2⟩
   |io c=>subst e;obtain⟨x,h1,_,h2⟩:=sl;exact⟨x,b _ h1,h2⟩
   |ro c=>subst e;obtain⟨x,h1,h2⟩:=sl;exact⟨x,b _ h1,h2⟩
theorem Iu(I:∀(i:Nat) (s:Sl),L[i]?=some s->s.oh=true->False)(E:Ext J L B H ρ' B' H'):aW H H'/\∀q,H q≠none->B q=none->B' q=none:=by
 have k:=λq o h=>E.keep q o h λi s h1 h2=>(I i s h1 h2).elim
 refine⟨λq o h=>(k q o h).1,λq h z=>?_⟩
 cases e:H q with
 |none=>exact absurd e h
 |some o=>exact(k q o e).2 z
theorem FT{fr:List<|Str×Nat}{d:D}(i:Nat)(s:Sl)(h1:(Sl.fz d::fr.map λp=>iY L p.2)[i]?=some s)(h2:s.oh=true):False:=by
 cases i with
 |zero=>cases h1;cases h2
 |succ i=>
  have a:(fr.map λp=>iY L p.2)[i]?=some s:=by simpa using h1
  rw[zem]at a;obtain⟨p,_,e⟩:=zd9 a;rw[<-e,FQ]at h2;cases h2
theorem Zq{te:TE}{c:Rho->Option (Bool×Rho)}{e:PM}(hc:MT tc c)(he:ME te e){F:Fr}{Y U:Hp}{J:St}{I:Rho}{σ:It}{ds M:List D}{Q:VK}(R1:Rel F Y U J I)(I1:Hq U Y σ ds)(e2:u9 c e (fr.map λp=>iY I p.2) ds=some M)(hz:M.length<sizeLine)
  (q:∀v B' H',Ext J I Y U I B' H'->Rel F B' H' J I->Val F B' H' J I v (.list M,.new)->(∀p,Kd.new=Kd.new->v=.ref p->U p=none)->Q v H') :
  ∃W:Nat->Nat->List V->Hp->Prop,(∃m,W 0 m [] U)/\∀i m O ρ,W i m O ρ->O.length<sizeLine/\
 ((σ.stop i ρ/\∀D,ρ D=none->Q (.ref D) (upd ρ D<|.lst O))\/
  (σ.go i ρ/\∀v H3,σ.yld i ρ v H3->tc (some v::d5 J fr) H3 λb H4=>
   if b=true then te (some v::d5 J fr) H4 λy H5=>∃m',m'<m/\W (i+1) m' (O++[y]) H5 else∃m',m'<m/\W (i+1) m' O H4)):=by
 refine⟨λi m O ρ=>m=ds.length-i/\i<=ds.length/\∃d done G1,aW Y d/\aW U ρ/\(∀q,U q≠none->Y q=none->d q=none)/\Rel F d ρ J I/\aZ d O done/\u9 c e (fr.map λp=>iY I p.2) (ds.drop i)=some G1/\done++G1=M,
  ⟨ds.length,rfl,Nat.zero_le _,Y,[],M,aW.refl _,aW.refl _,λ_ _ z=>z,R1,.nil,e2,rfl⟩,?_⟩
 rintro i m O ρ ⟨rfl,hil,d,done,G1,eB,eH,nb,R2,P,k,a⟩
 have hlen:O.length<=M.length:=by rw[<-a,zes,P.length];lia
 refine⟨by lia,?_⟩
 by_cases l:i<ds.length
 .refine .inr ?_
  obtain⟨go,yl⟩:=(I1 ρ eH).2 i ds[i] (zeB l);refine⟨go,λv H3 hy=>?_⟩
  rw[zfa l]at k;obtain⟨b,c1,n⟩:=zd8 (k);have had:∃x,aW d x/\aW ρ H3/\(∀q,ρ q≠none->d q=none->x q=none)/\Rel F x H3 J I/\Rep x v ds[i]:=by
   rcases yl v H3 hy with⟨rfl,h2⟩|⟨p,xs,cs,h1,rfl,h3,rfl,h5⟩
   .exact⟨d,aW.refl _,aW.refl _,λ_ _ z=>z,R2,h2.mono eB⟩
   .obtain⟨K,E3,e3⟩:=R2.NR h3
    refine⟨_,e3,uZ h3,λq h z=>?_,K,?_⟩
    .rw[av λy=>h (by rw[y];exact h3)];exact z
    .rw[h1];exact .tup aw (h5.mono<|eB.trans e3)
  obtain⟨x,f,g,nb3,K,rv⟩:=had;have Ri:=K.inner fr rv;refine hc (F0 H3) x H3 _ _ b.1 b.2 _ Ri c1 λR H4 o S=>?_
  obtain⟨j,B⟩:=Iu FT o;have r:=K.grow o.sB j S.sub B S.fj S.nz;have G:∀q,U q≠none->Y q=none->R q=none:=λq h z=>by
   have h2:=λy=>h (eH.free y)
   have h3:=λy=>h2 (g.free y)
   exact B q h3 (nb3 q h2<|nb q h z)
  cases hb:b.1 with
  |false=>
   rw[hb,if_neg zek]at n;exact⟨ds.length-(i+1),by lia,rfl,l,R,done,G1,eB.trans<|f.trans o.sB,eH.trans<|g.trans j,G,r,P.mono<|f.trans o.sB,n,a⟩
  |true=>
   rw[hb,if_pos rfl]at n;obtain⟨y,c3,n⟩:=zd8 n;obtain⟨z,c4,n⟩:=zd8 n;obtain⟨s,c5,c6⟩:=zd9 n;subst c6;have Z:=r.inner fr (rv.mono o.sB);refine he.sv (F0 H4) R H4 _ _ y.1 y.2 _ Z c3 λu B5 H5 H T V5 N5=>?_
   obtain⟨A,C⟩:=Iu FT H;have X:=r.grow H.sB A T.sub C T.fj T.nz;rw[za7 c4]at V5;refine⟨ds.length-(i+1),by lia,rfl,l,B5,done++[z],s,eB.trans<|f.trans<|o.sB.trans H.sB,eH.trans<|g.trans<|j.trans A,λq h w=>?_,X,(P.mono<|f.trans<|o.sB.trans H.sB).append<|.cons V5 .nil,c5,by rw[zeC];exact a⟩
   have h2:=λy=>h (eH.free y)
   have h3:=λy=>h2 (g.free y)
   have h4:=λy=>h3 (j.free y)
   exact C q h4 (G q h w)
 .have hi':i=ds.length:=by lia
  subst hi';refine .inl ⟨(I1 ρ eH).1,λp hp=>?_⟩
  rw[List.drop_length]at k;cases k;rw[zeQ]at a;subst a;have E2:Ext J I Y U I d ρ:=Ext.grow eB eH nb;have:=kh (d0:=(.list done,true)) R2 ⟨O,P,λQ h=>h⟩ λv B' H' E R' V' N=>q v B' H' (E2.trans E) R' V' λp z1 z2=>E2.live p (N p z1 z2)
  exact this p hp
theorem zcC(hi:MI U it)(I:MT M c)(ρ:ME O e):ME (tLC fr U M O) (mLC fr it c e):=by
 intro F B H J L s ρ' Q R a q;obtain⟨x,i,a⟩:=zd8 a;obtain⟨k,j,a⟩:=zd8 a;obtain⟨hz,a⟩:=cY a;cases a;refine hi F B H J L x.1 x.2 _ R i λσ o r b g d=>?_
 obtain⟨ds,n⟩:=x;exact Zq I ρ g d j hz λv B' H' E f h N=>q v B' H' (b.trans E) f h λp l m=>b.live p (N p l m)
end Mir
namespace Mir
open L2
variable [Zc]
def Sl.put:Sl->D->Sl
 | .own _,d=>.own d
 | .io _,d=>.io d
 |s,_=>s
section
variable{F:Fr}{B H:Hp}{J:St}{L ρ':Rho}{v:V}
theorem FH.at(e : I[i]?=J[i]?)(h:FH B H J i s):FH B H I i s:=by
 unfold FH at h⊢;rw[e];exact h
theorem Rel.write(R:Rel F B H J L)(hi : L[i]?=some s)(I:s.oh=true)(hv : J[i]?=some 9098)(no:(∀xs,o≠.tup xs)/\∀a u,o≠.frz a u)(ρ:Own B (upd H p o) p d) :
  Rel F B (upd H p o) J (L.set i<|s.put d)/\Ext J L B H (L.set i<|s.put d) B (upd H p o):=by
 obtain⟨P,l,y,o0⟩:=R.ownAt hi I;rw[hv]at l;cases l;have N:=(zea hi).1;have ne:∀(j:Nat) (t:Sl) (q:Addr),j≠i->L[j]?=some t->t.isRef=true->J[j]?=some (some<|.ref q)->q≠p:=λj t q r h1 h2 h3 z=>r (R.dist i j s t p hi I h1 h2 hv<|z▸h3).symm
 have g:∀(j:Nat) (t:Sl),(L.set i<|s.put d)[j]?=some t->∃t0,L[j]?=some t0/\t.oh=t0.oh/\t.isRef=t0.isRef/\(∀c,t=.own c->∃c0,t0=.own c0)/\∀c,t=.io c->∃c0,t0=.io c0:=λj t h=>by
  rcases get_set h with⟨rfl,rfl,_⟩|⟨_,h⟩
  .refine⟨s,hi,?_⟩
   cases s with
   |own c=>exact⟨rfl,rfl,λ_ _=>⟨_,rfl⟩,λ_ z=>by cases z⟩
   |io c=>exact⟨rfl,rfl,(λ_ z=>by cases z),λ_ _=>⟨_,rfl⟩⟩
   |_=>cases I
  .exact⟨t,h,rfl,rfl,λc z=>⟨c,z⟩,λc z=>⟨c,z⟩⟩
 have K:F.H p=none\/∃x∈F.io,x.2=p:=by
  cases s with
  |own c=>exact .inl (R.FI i c p hi hv)
  |io c=>
   obtain⟨P,D⟩:=R.ioN i c hi;obtain⟨h1,_⟩:=R.fx _ D;have f:=h1;rw[hv]at f;cases f;exact .inr ⟨_,D,rfl⟩
  |_=>cases I
 have C:s.put d≠.ex:=by
  cases s with
  |own c=>simp[Sl.put]
  |io c=>simp[Sl.put]
  |_=>cases I
 refine⟨⟨?_,R.sB,?_,R.nB,by rw[zeL];exact R.len,?_,?_,?_,?_,?_,?_,(λj h=>R.exv j (Jw C h).1),λq a u h=>by
  by_cases z:q=p
  .subst z;rw[aw]at h;cases h;exact absurd rfl (no.2 _ _)
  .rw[av z]at h;exact R.nz q a u h⟩,⟨aW.refl _,?_,?_,?_,?_⟩⟩
 .intro q u A
  rw[av λz=>by rw[z,y]at A;cases A];exact R.sub q u A
 .intro q u h1 h2
  have z:q≠p:=λz=>by
   rcases K with h|⟨x,hx,h⟩
   .rw[z,h]at h1;cases h1
   .exact h2 x hx (h.trans z.symm)
  rw[av z];exact R.sH q u h1 h2
 .intro j t m
  rcases get_set m with⟨rfl,rfl,_⟩|⟨r,m⟩
  .cases s with
   |own c=>exact⟨p,hv,y,ρ⟩
   |io c=>exact⟨p,hv,y,ρ⟩
   |_=>cases I
  .have q:=R.slot j t m
   have k:∀q,q≠p->∀u,H q=some u->upd H p o q=some u:=λq z u h=>by rw[av z];exact h
   cases t with
   |no=>trivial
   |ex=>trivial
   |fz c=>exact q
   |own c=>obtain⟨q,h1,h2,h3⟩:=q;exact⟨q,h1,h2,h3.mono (aW.refl _)<|k q<|ne j _ q r m rfl h1⟩
   |io c=>obtain⟨q,h1,h2,h3⟩:=q;exact⟨q,h1,h2,h3.mono (aW.refl _)<|k q<|ne j _ q r m rfl h1⟩
   |ro c=>obtain⟨q,h1,h3⟩:=q;exact⟨q,h1,h3.mono (aW.refl _)<|k q<|ne j _ q r m rfl h1⟩
 .intro a b t u q h1 h2 h3 h4 G σ
  obtain⟨t0,f,l,_,_,_⟩:=g a t h1;obtain⟨u0,w,_,E,_,_⟩:=g b u h3;exact R.dist a b t0 u0 q f (l▸h2) w (E▸h4) G σ
 .intro j c q h1 h2
  obtain⟨t0,f,_,_,l,_⟩:=g j _ h1;obtain⟨c0,rfl⟩:=l c rfl;exact R.FI j c0 q f h2
 .intro x hx
  obtain⟨h1,c,h2⟩:=R.fx x hx;refine⟨h1,?_⟩
  by_cases z:i=x.1
  .subst z
   rw[hi]at h2;cases h2;exact⟨d,by rw[zet N];rfl⟩
  .exact⟨c,by rw[zez z];exact h2⟩
 .intro j c h1
  obtain⟨t0,f,_,_,_,l⟩:=g j _ h1;obtain⟨c0,rfl⟩:=l c rfl;exact R.ioN j c0 f
 .intro q xs h
  by_cases z:q=p
  .subst z;rw[aw]at h;cases h;exact absurd rfl (no.1 xs)
  .rw[av z]at h;exact R.fj q xs h
 .intro q u h n
  refine⟨?_,id⟩;rw[av λz=>n i s hi I (by rw[z];exact hv)];exact h
 .intro j t h1 h2
  obtain⟨t0,f,l,_,_,_⟩:=g j t h1;exact⟨t0,f,l▸h2⟩
 .intro j t h1 h2
  obtain⟨t0,f,_,l,_,_⟩:=g j t h1;exact⟨t0,f,l▸h2⟩
 .intro q h
  by_cases z:q=p
  .subst z;rw[aw]at h;cases h
  .rw[av z]at h;exact h
end
def qx:Option Sl->Option (List D)
 |some (.own (.list ds))=>some ds
 |some (.io (.list ds))=>some ds
 |_=>none
theorem r6(h:qx s=some ds):∃t,s=some t/\t.oh=true/\slD t=.list ds:=by
 unfold qx at h;split at h
 .cases h;exact⟨_,rfl,rfl,rfl⟩
 .cases h;exact⟨_,rfl,rfl,rfl⟩
 .cases h
def putAt(L:Rho)(i:Nat)(d:D):Rho:=match L[i]? with
 |some s=>L.set i (s.put d)
 |none=>L
def Lr(r:V->List V->Hp->VK->Prop)(f:List D->List D->Option (List D×D)):Prop :=
 ∀(B H:Hp) (p:Addr) (xs:List V) (ds:List D) (vs:List V) (E:List D) (w:List D×D),H p=some (.lst xs)->aZ B xs ds->aW B H->aZ B vs E->f ds E=some w->
  ∃h v,aZ B h w.1/\Rep B v w.2/\∀Q:VK,Q v (upd H p<|.lst h)->r (.ref p) vs H Q
def rz(i:Nat)(f:List D->List D->Option (List D×D))(m:Rho->Option 9028):PM:=λL=>(qx L[i]?).bind λ_=>(m L).bind λx=>(ic x.1 x.2).bind λy=>(qx y.2[i]?).bind λds=>(f ds y.1).map λw=>((w.2,.fz),putAt y.2 i<|.list w.1)
theorem Own.list{ds:List D}(h:Own B H p<|.list ds):∃xs,H p=some (.lst xs)/\aZ B xs ds:=by
 cases h with
 |lst h r=>exact⟨_,h,r⟩
theorem Jx(σ:Lr r f)(h:MA t m):ME (tBM K "list" r (Hm i) t) (rz i f m):=by
 intro F B H J L r0 ρ' Q R e q;obtain⟨X,Z,e⟩:=zd8 e
 fail "q2"
 obtain⟨ds,I,e⟩:=zd8 e;obtain⟨w,ρ,e⟩:=zd9 e;cases e;obtain⟨s0,D,n,k⟩:=r6 Z;obtain⟨p,hv,hB,P⟩:=R.ownAt D n;rw[k]at P;obtain⟨G,o,_⟩:=P.list;refine⟨_,hv,.inl ⟨rfl,G,SqL.of o⟩,?_⟩
 fail "q7"
 obtain⟨s,v,N,hd⟩:=r6 I;obtain⟨p',c,O,d⟩:=R2.ownAt v N;rw[hv]at c;cases c;rw[hd]at d;obtain⟨xs,U,rx⟩:=d.list;obtain⟨xs',u,E,ru,Y⟩:=σ g l p xs ds vs y.1 w U rx R2.sub b ρ;obtain⟨T,S⟩:=R2.write v N hv ⟨(λ_ z=>by cases z),λ_ _ z=>by cases z⟩ (.lst aw E)
 have M:putAt y.2 i (.list w.1)=y.2.set i (s.put<|.list w.1):=by unfold putAt;rw[v]
 rw[M]at q;exact Y Q (q u g _ (a.trans<|j.trans S) T ru λp z=>by cases z)
def DZ(i:Nat)(f:List D->List D->Option (List D×D)):PM:=λL=>(qx L[i]?).bind λds=>(f ds []).map λw=>((w.2,.fz),putAt L i<|.list w.1)
theorem Jy(σ:Lr r f):ME (WT K "list" r<|Hm i) (DZ i f):=by
 intro F B H J L y ρ' Q R e q;obtain⟨ds,k,e⟩:=zd8 e;obtain⟨w,l,e⟩:=zd9 e;cases e;obtain⟨s,a,c,hd⟩:=r6 k;obtain⟨p,hv,x,g⟩:=R.ownAt a c;rw[hd]at g;obtain⟨xs,d,t⟩:=g.list;refine⟨_,hv,.inl ⟨rfl,xs,SqL.of d⟩,?_⟩;obtain⟨v,u,b,o,n⟩:=σ B H p xs ds [] [] w d t R.sub .nil l;obtain⟨j,h⟩:=R.write a c hv ⟨(λ_ z=>by cases z),λ_ _ z=>by cases z⟩ (.lst aw b)
 have m:putAt L i (.list w.1)=L.set i (s.put<|.list w.1):=by unfold putAt;rw[a]
 rw[m]at q;exact n Q (q u B _ h j o λp z=>by cases z)
def MtJ(K:zee)(T:String)(r:V->List V->Hp->VK->Prop)(g:D->List D->Option (D×Bool)):Prop :=
 (∀(B H:Hp) (x:V) (c:D) (ds:List D) (d0:D×Bool),aW B H->View B H x c->g c ds=some d0->tyV K T x H)/\
 ∀(B H:Hp) (x:V) (c:D) (vs:List V) (ds:List D) (d0:D×Bool),aW B H->View B H x c->Views B H vs ds->g c ds=some d0->yk B H d0 λQ=>r x vs H Q
def za9(g:D->List D->Option (D×Bool))(a:PM):PM:=λL=>(sv a L).bind λx=>(g x.1.1 []).map λd0=>(u5 d0,x.2)
theorem zba(σ:MtJ K T r g)(ha:ME I a):ME (WT K T r I) (za9 g a):=by
 fail "q6"
 fail "q3"
 refine⟨σ.1 j i v x.1.1 [] l d.sub (k.view d) b,?_⟩;exact kh d (σ.2 j i v x.1.1 [] [] l d.sub (k.view d) trivial b) λw c m h o s n=>q w c m (f.trans h) o s λp t u=>f.live p (n p t u)
def mBM(g:D->List D->Option (D×Bool))(a:PM)(m:Rho->Option 9028):PM:=λL=>(sv a L).bind λx=>(m x.2).bind λy=>(lx y.2 x.1).bind λr=>(g x.1.1 (y.1.map (·.1))).bind λ_=>(g r.1 (y.1.map (·.1))).map λd0=>(u5 d0,y.2)
theorem T5(σ:MtJ K T r g)(ha:ME I a)(h:MA t m):ME (tBM K T r I t) (mBM g a m):=by
 intro F B H J L O ρ' Q R e q
 fail "q2"
 obtain⟨Z,S,e⟩:=zd8 e;obtain⟨b,X,e⟩:=zd8 e;obtain⟨P,W,e⟩:=zd9 e;cases e
 fail "q3"
 refine⟨σ.1 j i v x.1.1 _ b d.sub (k.view d) X,?_⟩;refine h F j i J x.2 y.1 y.2 _ d C λvs c o E2 R2 E=>?_
 obtain⟨G,n3⟩:=k.next E2 R2 (vV A) S;exact kh R2 (σ.2 c o v Z.1 vs _ P R2.sub (G.view R2) (E.views R2) W) λw l s n D N u=>q w l s ((f.trans E2).trans n) D N λp ρ M=>(f.trans E2).live p (u p ρ M)
end Mir
namespace Mir
open L2
variable [Zc]
inductive Out where
 |nx (L:Rho)|rt (r:RV) (L:Rho)|bk (L:Rho)|ct (L:Rho)
abbrev SM:=Rho->Option Out
def FU(F:Fr)(D:Ends):Out->Prop
 | .nx L=>∀B H J,Rel F B H J L->D.nx J H
 | .rt r L=>∀v B H J,Rel F B H J L->Val F B H J L v r->D.rt v H
 | .bk L=>∀B H J,Rel F B H J L->D.bk J H
 | .ct L=>∀B H J,Rel F B H J L->D.ct J H
def MS(t:TS)(m:SM):Prop:=∀(F:Fr) (B H:Hp) (J:St) (L:Rho) (o:Out) (D:Ends),Rel F B H J L->m L=some o->FU F D o->t D J H
def du(a b:SM):SM:=λL=>(a L).bind λo=>match o with
 | .nx ρ'=>b ρ'
 |o=>some o
theorem NW(ha:MS t a)(I:MS u b):MS (Wy t u) (du a b):=by
 fail "q8"
 refine ha F B H J L x _ R f ?_;cases x with
 |nx ρ'=>exact λB' H' c d=>I F B' H' c ρ' o D d e q
 |rt r ρ'=>cases e;exact q
 |bk ρ'=>cases e;exact q
 |ct ρ'=>cases e;exact q
def gp:SM:=λL=>some (.nx L)
theorem vX:MS SO gp:=by
 intro F B H J L o D R e q;cases e;exact q B H J R
def C9:SM:=λ_=>none
theorem T6:MS Nr C9:=by
 intro F B H J L o D R e q;cases e
def ez(a:PM):SM:=λL=>(a L).map λx=>.rt x.1 x.2
theorem Dc(ha:ME t a):MS (SQ t) (ez a):=by
 intro F B H J L o D R e q;obtain⟨x,d,e⟩:=zd9 e;cases e;exact ha F B H J L x.1 x.2 _ R d λv B' H' E b c N=>q v B' H' J b c
def zcD:SM:=λL=>some (.rt (.none,.fz) L)
def jY(a:PM):SM:=λL=>(a L).map λx=>.nx x.2
theorem E8(ha:ME t a):MS (Pg t) (jY a):=by
 intro F B H J L o D R e q;obtain⟨x,c,e⟩:=zd9 e;cases e;exact ha F B H J L x.1 x.2 _ R c λv B' H' E b d N=>q B' H' J b
def j6(c:Rho->Option (Bool×Rho))(a b:SM):SM:=λL=>(c L).bind λx=>if x.1=true then a x.2 else b x.2
theorem PD(ρ:MT M c)(ha:MS t a)(I:MS u b):MS (Wz M t u) (j6 c a b):=by
 fail "q8"
 refine ρ F B H J L x.1 x.2 _ R f λB' H' E d=>?_
 by_cases h:x.1=true
 .rw[if_pos h]at e⊢;exact ha F B' H' J x.2 o D d e q
 .rw[if_neg h]at e⊢;exact I F B' H' J x.2 o D d e q
def om(L:Rho)(i:Nat)(s:Sl):Option Rho:=match L[i]? with
 |none=>none
 |some (.io _)=>none
 |some _=>some (L.set i s)
theorem Ls(h:om L i s=some ρ') : ρ'=L.set i s/\∃s0,L[i]?=some s0/\∀d,s0≠.io d:=by
 unfold om at h;cases q : L[i]? with
 |none=>rw[q]at h;cases h
 |some s0=>
  rw[q]at h;cases s0 with
  |io d=>cases h
  |no=>cases h;exact⟨rfl,_,rfl,λ_ z=>by cases z⟩
  |ex=>cases h;exact⟨rfl,_,rfl,λ_ z=>by cases z⟩
  |fz _=>cases h;exact⟨rfl,_,rfl,λ_ z=>by cases z⟩
  |own _=>cases h;exact⟨rfl,_,rfl,λ_ z=>by cases z⟩
  |ro _=>cases h;exact⟨rfl,_,rfl,λ_ z=>by cases z⟩
section
variable{F:Fr}{B H:Hp}{J:St}{L ρ':Rho}{v:V}
theorem Rel.BV(R:Rel F B H J L)(I:Rep B v d)(h:om L i (.fz d)=some ρ'):Rel F B H 9104 ρ':=by
 obtain⟨rfl,s0,h0,m⟩:=Ls h;have u:=(zea h0).1;have k:=R.len▸u;have g:∀j,j≠i->(J.set i<|some v)[j]?=J[j]?:=λj f=>zez λe=>f e.symm
 refine⟨R.sub,R.sB,R.sH,R.nB,by rw[zeL,zeL];exact R.len,?_,?_,?_,?_,?_,R.fj,(λj h=>by obtain⟨h1,h2⟩:=Jw (by simp) h;rw[g j h2];exact R.exv j h1),R.nz⟩
 .intro j s l
  rcases get_set l with⟨rfl,rfl,_⟩|⟨f,l⟩
  .exact⟨v,zet k,I⟩
  .exact(R.slot j s l).at (g j f)
 .intro a b s t p h1 h2 h3 h4 n o
  rcases get_set h1 with⟨rfl,rfl,_⟩|⟨ha,h1⟩
  .cases h2
  .rcases get_set h3 with⟨rfl,rfl,_⟩|⟨q,h3⟩
   .cases h4
   .rw[g a ha]at n;rw[g b q]at o;exact R.dist a b s t p h1 h2 h3 h4 n o
 .intro j c p h1 h2
  rcases get_set h1 with⟨rfl,e,_⟩|⟨f,h1⟩
  .cases e
  .rw[g j f]at h2;exact R.FI j c p h1 h2
 .intro x hx
  obtain⟨h1,c,h2⟩:=R.fx x hx;have z:x.1≠i:=λz=>by rw[z,h0]at h2;cases h2;exact m _ rfl
  exact⟨by rw[g _ z];exact h1,c,by rw[zez λe=>z e.symm];exact h2⟩
 .intro j c h1
  rcases get_set h1 with⟨rfl,e,_⟩|⟨f,h1⟩
  .cases e
  .exact R.ioN j c h1
theorem Rel.Rj(R:Rel F B H J L)(I:Val F B H J L v (d,.new))(h:om L i (.own d)=some ρ'):Rel F B H 9104 ρ':=by
 obtain⟨rfl,s0,h0,y⟩:=Ls h;obtain⟨p,rfl,C,D,G,A⟩:=I;have E:=(zea h0).1;have u:=R.len▸E;have f:∀j,j≠i->(J.set i<|some<|.ref p)[j]?=J[j]?:=λj l=>zez λe=>l e.symm
 have n:(J.set i<|some<|.ref p)[i]?=some 9098:=zet u;refine⟨R.sub,R.sB,R.sH,R.nB,by rw[zeL,zeL];exact R.len,?_,?_,?_,?_,?_,R.fj,(λj h=>by obtain⟨h1,h2⟩:=Jw (by simp) h;rw[f j h2];exact R.exv j h1),R.nz⟩
 .intro j s w
  rcases get_set w with⟨rfl,rfl,_⟩|⟨l,w⟩
  .exact⟨p,n,C,G⟩
  .exact(R.slot j s w).at (f j l)
 .intro a b s t q h1 h2 h3 h4 g k
  rcases get_set h1 with⟨rfl,rfl,_⟩|⟨ha,m⟩
  .rcases get_set h3 with⟨rfl,rfl,_⟩|⟨o,h3⟩
   .rfl
   .rw[n]at g
    cases g;rw[f b o]at k;exact absurd k (A b t h3 h4)
  .rcases get_set h3 with⟨rfl,rfl,_⟩|⟨o,h3⟩
   .rw[n]at k
    cases k;rw[f a ha]at g;exact absurd g (A a s m<|Sl.Jv h2)
   .rw[f a ha]at g;rw[f b o]at k;exact R.dist a b s t q m h2 h3 h4 g k
 .intro j c q h1 h2
  rcases get_set h1 with⟨rfl,e,_⟩|⟨l,h1⟩
  .rw[n]at h2;cases h2;exact D
  .rw[f j l]at h2;exact R.FI j c q h1 h2
 .intro x hx
  obtain⟨h1,c,h2⟩:=R.fx x hx;have z:x.1≠i:=λz=>by rw[z,h0]at h2;cases h2;exact y _ rfl
  exact⟨by rw[f _ z];exact h1,c,by rw[zez λe=>z e.symm];exact h2⟩
 .intro j c h1
  rcases get_set h1 with⟨rfl,e,_⟩|⟨l,h1⟩
  .cases e
  .exact R.ioN j c h1
end
def sto(i:Nat)(x:RV×Rho):Option Rho:=match x.1.2 with
 | .fz=>om x.2 i (.fz x.1.1)
 | .new=>om x.2 i (.own x.1.1)
 | .at j=>if j=i then some x.2 else(jk x.1 x.2).bind λy=>om y.2 i (.fz y.1)
 | .ro=>none
def d6(i:Nat)(a:PM):SM:=λL=>(a L).bind λx=>(sto i x).map .nx
theorem lY(ha:ME t a):MS (Nt t<|DS i) (d6 i a):=by
 fail "q8"
 obtain⟨u,m,e⟩:=zd9 e;cases e;refine ha F B H J L x.1 x.2 _ R f λv n g σ l p N=>?_
 show D.nx 9104 g;obtain⟨⟨d,k⟩,h⟩:=x;cases k with
 |fz=>exact q n g _ (l.BV p m)
 |new=>exact q n g _ (l.Rj p m)
 |ro=>cases m
 | «at» j=>
  have b:(if j=i then some h else(jk (d,.at j) h).bind λy=>om y.2 i<|.fz y.1)=some u:=m
  obtain⟨s,h1,h2,h3,h4⟩:=p;have c:=h4
  by_cases z:j=i
  .rw[if_pos z]at b
   cases b;subst z;have : J.set j (some v)=J:=by
    apply List.ext_getElem?;intro k
    by_cases hk:k=j
    .subst hk
     obtain⟨E,_⟩:=zea c;rw[zet E,c]
    .rw[zez λe=>hk e.symm]
   rw[this];exact q n g _ l
  .rw[if_neg z]at b
   obtain⟨y,A,C⟩:=zd8 b;obtain⟨w,R2,G,K⟩:=l.frz (r:=(d,.at j)) (c) A;exact q w g _ (R2.BV G C)
def NY(i:Nat)(f:Int->Int->Int)(a:PM):SM:=λL=>match L[i]? with
 |some (.fz (.int x))=>((sv a L).bind asI).bind λy=>(om y.2 i<|.fz<|.int<|f x y.1).map .nx
 |_=>none
theorem zbb(ha:ME t a):MS (zck i t<|ipI f) (NY i f a):=by
 intro F B H J L o D R e q;unfold NY at e;split at e
 .rename_i x hx
  obtain⟨y,j,e⟩:=zd8 e;obtain⟨z,k,l⟩:=zd8 j;obtain⟨r,m,e⟩:=zd9 e;cases e;obtain⟨w,h1,h2⟩:=R.slot i _ hx;cases h2;refine⟨_,h1,?_⟩;refine ha.sv F B H J L z.1 z.2 _ R k λv d g s b h u=>?_
  obtain⟨n,p⟩:=FP l;have c:=h.view b;rw[n]at c;rw[p]at b;exact⟨x,y.1,rfl,c.int,q d g _<|b.BV (.int _) m⟩
 .cases e
def MG(g:TG)(mg:D->Rho->Option Rho):Prop:=∀(F:Fr) (B H:Hp) (J:St) (L:Rho) (v:V) (d:D) (ρ':Rho) (Q:St->Hp->Prop),Rel F B H J L->Rep B v d->mg d L=some ρ'->(∀B' H' h,Rel F B' H' h ρ'->aW B B'->Q h H')->g v J H Q
def mgN(i:Nat):D->Rho->Option Rho:=λd L=>om L i (.fz d)
def Xn:MG (DS i) (mgN i):=λF B H J L v d ρ' Q R a e q=>q B H _ (R.BV a e) (aW.refl _)
def zbc:List D->Rho->Option Rho:=λds L=>match ds with
 | []=>some L
 |_=>none
def Xo(g:D->Rho->Option Rho)(gs:List D->Rho->Option Rho):List D->Rho->Option Rho:=λds L=>match ds with
 |d::ds=>(g d L).bind fun ρ1=>gs ds ρ1
 |_=>none
def mgT(n:Nat)(I:List D->Rho->Option Rho):D->Rho->Option Rho:=λd L=>(asT d).bind λds=>if ds.length=n then I ds L else none
def D0(a:PM)(g:D->Rho->Option Rho):SM:=λL=>(sv a L).bind λx=>(jk x.1 x.2).bind λy=>(g y.1 y.2).map .nx
theorem Xp(ha:ME t a)(I:MG tg g):MS (Nt t tg) (D0 a g):=by
 intro F B H J L o D R e q
 fail "q2"
 obtain⟨b,m,e⟩:=zd9 e;cases e
 fail "q3"
 have w:=(Vl.weak (vs:=[v]) (rs:=[x.1]) ⟨⟨k,vV A⟩,trivial⟩).1;obtain⟨h,R2,n,p⟩:=d.frz w C;exact I F h i J y.2 v y.1 b _ R2 n m λB' H' c l _=>q B' H' c l
def D2(i:Nat)(a:PM):D->Rho->Option Rho:=λd L=>(qx L[i]?).bind λ_=>((sv a L).bind asI).bind λy=>(qx y.2[i]?).bind λds=>(ixN ds.length y.1).map λj=>putAt y.2 i (.list<|ds.set j d)
theorem zbd(ha:ME t a):MG (ql (Hm i) t Ik) (D2 i a):=by
 intro F B H J L v d ρ' Q R Z e q;obtain⟨C,D,e⟩:=zd8 e;obtain⟨y,E,e⟩:=zd8 e;obtain⟨z,G,σ⟩:=zd8 E;obtain⟨ds,K,e⟩:=zd8 e;obtain⟨j,N,e⟩:=zd9 e;subst e;obtain⟨s0,l,h,W⟩:=r6 D;obtain⟨p,hv,O,U⟩:=R.ownAt l h;refine⟨_,hv,?_⟩;refine ha.sv F B H J L z.1 z.2 _ R G λu w ρ g f A M=>?_
 obtain⟨S,T⟩:=FP σ;have r:=A.view f;rw[S]at r;rw[T]at f g;obtain⟨s,k,n,hd⟩:=r6 K;obtain⟨Y,b,V,c⟩:=f.ownAt k n;rw[hv]at b;cases b;rw[hd]at c;obtain⟨xs,X,o⟩:=c.list;have m:=aZ.set (Z.mono g.sB) j o;obtain⟨x,I⟩:=f.write k n hv ⟨(λ_ z=>by cases z),λ_ _ z=>by cases z⟩ (.lst aw m)
 have P:putAt y.2 i (.list<|ds.set j d)=y.2.set i (s.put<|.list<|ds.set j d):=by unfold putAt;rw[k]
 rw[P]at q;exact⟨p,xs,y.1,j,rfl,r.int,X,by rw[o.length];exact N,q w _ J x g.sB⟩
def j2(c:Rho->Option (Bool×Rho))(b:SM):Nat->SM
 |0=>λ_=>none
 |n+1=>λL=>(c L).bind λx=>if x.1=true then(b x.2).bind λo=>match o with
   | .nx ρ'=>j2 c b n ρ'
   | .ct ρ'=>j2 c b n ρ'
   | .bk ρ'=>some (.nx ρ')
   | .rt r ρ'=>some (.rt r ρ')
  else some (.nx x.2)
theorem Lu(ρ:MT O c)(I:MS M b):MS (SY O M) (j2 c b n):=by
 intro F B H J L o D R e q;refine⟨λm J H=>∃B L,Rel F B H J L/\j2 c b m L=some o,⟨n,B,L,R,e⟩,?_⟩
 rintro m d t ⟨s,j,u,p⟩
 cases m with
 |zero=>cases p
 |succ m=>
  obtain⟨x,v,f⟩:=zd8 (p);refine ρ F s t d j x.1 x.2 _ u v λk l A R2=>?_
  by_cases h:x.1=true
  .rw[if_pos h]at f⊢
   obtain⟨w,y,g⟩:=zd8 f;refine⟨λa H'=>∃B' ρ',Rel F B' H' a ρ'/\j2 c b m ρ'=some o,λa H' h'=>⟨m,Nat.lt_succ_self _,h'⟩,?_⟩
   refine I F k l d x.2 w _ R2 y ?_;cases w with
   |nx ρ'=>exact λB' H' a i=>⟨B',ρ',i,g⟩
   |ct ρ'=>exact λB' H' a i=>⟨B',ρ',i,g⟩
   |bk ρ'=>cases g;exact q
   |rt r ρ'=>cases g;exact q
  .rw[if_neg h]at f⊢
   cases f;exact q k l d R2
def forL(g:D->Rho->Option Rho)(b:SM):List D->SM
 | []=>λL=>some (.nx L)
 |d::ds=>λL=>(g d L).bind fun ρ1=>(b ρ1).bind λo=>match o with
   | .nx ρ'=>forL g b ds ρ'
   | .ct ρ'=>forL g b ds ρ'
   | .bk ρ'=>some (.nx ρ')
   | .rt r ρ'=>some (.rt r ρ')
def Jz(it:Rho->Option 9055)(g:D->Rho->Option Rho)(b:SM):SM:=λL=>(it L).bind λx=>forL g b x.1 x.2
section
variable{F:Fr}{B B1 H H1:Hp}{J σ1:St}{L ρ1:Rho}
def Rel.up(I:Rel F B1 H1 σ1 ρ1)(R:Rel ⟨B1,F.H,F.io,F.Z⟩ B H J L):Rel F B H J L :=
 ⟨R.sub,I.sB.trans R.sB,R.sH,λq h z=>R.nB q h<|I.nB q h z,R.len,R.slot,R.dist,R.FI,R.fx,R.ioN,R.fj,R.exv,R.nz⟩
def Rel.down(I:Rel F B1 H1 σ1 ρ1):Rel ⟨B1,F.H,F.io,F.Z⟩ B1 H1 σ1 ρ1 :=
 ⟨I.sub,aW.refl _,I.sH,λq h z=>z,I.len,I.slot,I.dist,I.FI,I.fx,I.ioN,I.fj,I.exv,I.nz⟩
end
theorem FU.down{M:St}{ρ:Rho}(I:Rel F O U M ρ){D:Ends}{o:Out}(h:FU F D o):FU ⟨O,F.H,F.io,F.Z⟩ D o:=by
 cases o with
 |nx L=>exact λB H J R=>h B H J (I.up R)
 |bk L=>exact λB H J R=>h B H J (I.up R)
 |ct L=>exact λB H J R=>h B H J (I.up R)
 |rt r L=>exact λv B H J R V=>h v B H J (I.up R) V
theorem zbe(hi:MF ti it)(U:MG tg g)(O:MS tb b):MS (WH ti tg tb) (Jz it g b):=by
 fail "q8"
 refine hi F B H J L x.1 x.2 _ R f λσ k H1 E1 T S=>?_
 obtain⟨ds,N⟩:=x;have K:=q.down T;refine⟨λi m J H=>m=ds.length-i/\i<=ds.length/\∃B L,Rel ⟨k,F.H,F.io,F.Z⟩ B H J L/\forL g b (ds.drop i) L=some o,⟨ds.length,rfl,Nat.zero_le _,k,N,T.down,e⟩,?_⟩
 rintro i m d t ⟨rfl,Y,Q,h,R2,n⟩
 have sH:=R2.sB.trans R2.sub
 by_cases c:i<ds.length
 .refine .inr ?_
  obtain⟨go,yl⟩:=(S t sH).2 i ds[i] (zeB c);rw[zfa c]at n;obtain⟨j,C,I⟩:=zd8 (n);obtain⟨w,ρ,s⟩:=zd8 I;refine⟨go,λa H'=>∃B' ρ',Rel ⟨k,F.H,F.io,F.Z⟩ B' H' a ρ'/\forL g b (ds.drop<|i+1) ρ'=some o,λa H' h'=>⟨ds.length-(i+1),by lia,rfl,c,h'⟩,λy u hy=>?_⟩
  have E:∃l,Rel ⟨k,F.H,F.io,F.Z⟩ l u d h/\Rep l y ds[i]:=by
   rcases yl y u hy with⟨rfl,h2⟩|⟨p,xs,cs,h1,rfl,h3,rfl,M⟩
   .exact⟨Q,R2,h2.mono R2.sB⟩
   .obtain⟨A,E3,C⟩:=R2.NR h3
    exact⟨_,A,by rw[h1];exact .tup aw (M.mono<|R2.sB.trans C)⟩
  obtain⟨l,A,rp⟩:=E;refine U _ l u d h y ds[i] j _ A rp C λV W P X _=>?_
  refine O _ V W P j w _ X ρ ?_;cases w with
  |nx ρ'=>exact λB' H' a v=>⟨B',ρ',v,s⟩
  |ct ρ'=>exact λB' H' a v=>⟨B',ρ',v,s⟩
  |bk ρ'=>cases s;exact K
  |rt r ρ'=>cases s;exact K
 .have G:i=ds.length:=by lia
  subst G;rw[List.drop_length]at n;cases n;exact .inl ⟨(S t sH).1,K Q t d R2⟩
def NZ:Out->Option (D×Bool)
 | .rt (d,.fz) _=>some (d,false)
 | .rt (d,.new) _=>some (d,true)
 | .rt (_,.at i) L=>match L[i]? with
  |some (.own d)=>some (d,true)
  |_=>none
 | .nx _=>some (.none,false)
 |_=>none
def fnM(n k:Nat)(b:SM)(ds:List D):Option (D×Bool):=if ds.length=n then(b<|ds.map .fz++List.replicate k .no).bind NZ else none
theorem T7(sub:aW B H)(tB:∀q xs,H q=some (.tup xs)->B q=some (.tup xs))(ρ:aZ B vs ds)(I:ds.length=n)(M:N.length=n+k):Rel ⟨B,H,[],λq=>H q≠none⟩ B H (L2.start N vs) 9092:=by
 have b:vs.length=n:=ρ.length.trans I;have a:∀(i:Nat) (s:Sl),(ds.map Sl.fz++List.replicate k .no)[i]?=some s->s.isRef=true->False:=λi s h1 h2=>by
  have:=zeh h1;rcases zec this with h|h
  .obtain⟨c,_,rfl⟩:=List.mem_map.mp h;cases h2
  .rw[zeF h]at h2;cases h2
 have e:∀i:Nat,(ds.map Sl.fz++List.replicate k .no)[i]?=some Sl.ex->False:=λi h1=>by
  have:=zeh h1;rcases zec this with h|h
  .obtain⟨c,_,z⟩:=List.mem_map.mp h;cases z
  .have:=zeF h;cases this
 refine⟨sub,aW.refl _,λ_ _ z _=>z,λ_ _ z=>z,?_,λi s d=>?_,λi j s t p h1 h2=>(a i s h1<|Sl.Jv h2).elim,λi c p h1=>(a i _ h1 rfl).elim,(λx hx=>by cases hx),λi c h1=>(a i _ h1 rfl).elim,tB,(λi h1=>(e i h1).elim),λq o u h z=>by rw[z]at h;cases h⟩
 .simp[L2.start,I,b,M]
 .by_cases hi:i<n
  .rw[zew (by simpa[I]using hi),zem]at d
   obtain⟨c,h1,rfl⟩:=zd9 d;obtain⟨x,h2,h3⟩:=ρ.get i c h1;refine⟨x,?_,h3⟩;unfold L2.start;rw[zew (by simpa[b]using hi),zem,h2]
   rfl
  .rw[zeM (by simpa[I]using ze9 hi)]at d
   have:=zeF (zeh d);subst this;trivial
theorem T8(I:NZ w=some (d,o))(q:∀v B' H',Post B H v B' H' d o->Q v H'):FU ⟨B,H,[],λq=>H q≠none⟩ {nx:=λ_ H'=>Q .non H',rt:=Q} w:=by
 have post:∀{B' H':Hp} {e:St} {ρ':Rho},Rel ⟨B,H,[],λq=>H q≠none⟩ B' H' e ρ'->aW H H'/\aW B B'/\aW B' H'/\(∀q,H q≠none->B q=none->B' q=none)/\(∀q xs,H' q=some (.tup xs)->B' q=some (.tup xs))/\∀q o u,H' q=some (.frz o u)->H q≠none:=λa=>
  ⟨λq u z=>a.sH q u z (λx hx=>by cases hx),a.sB,a.sub,a.nB,a.fj,a.nz⟩
 cases w with
 |nx ρ'=>
  cases I;intro B' H' e a;obtain⟨p1,p2,p3,p4,g,h⟩:=post a;exact q _ B' H' ⟨p1,p2,p3,p4,g,h,.non⟩
 |bk ρ'=>cases I
 |ct ρ'=>cases I
 |rt r ρ'=>
  intro v B' H' e a j;obtain⟨p1,p2,p3,p4,g,h⟩:=post a;obtain⟨c,kd⟩:=r;cases kd with
  |fz=>cases I;exact q v B' H' ⟨p1,p2,p3,p4,g,h,j⟩
  |new=>
   cases I;obtain⟨p,rfl,h1,h2,h3,_⟩:=j;exact q _ B' H' ⟨p1,p2,p3,p4,g,h,⟨p,rfl,h2,h1,h3⟩⟩
  |ro=>cases I
  | «at» i=>
   obtain⟨s,h1,h2,h3,h4⟩:=j;have b:(match ρ'[i]? with
    |some (.own d)=>some (d,true)
    |_=>none)=some (d,o):=I
   rw[h1]at b;cases s with
   |own n=>
    cases b;obtain⟨p,k,l,m⟩:=a.slot i _ h1;have f:=h4;rw[f]at k;cases k;exact q _ B' H' ⟨p1,p2,p3,p4,g,h,⟨p,rfl,a.FI i _ p h1 f,l,m⟩⟩
   |_=>cases b
theorem zbg(ρ:MS t b)(I:N.length=n+k)(h:spM (fnM n k b) vs H Q E):t {nx:=λ_ H'=>Q .non H',rt:=Q} (L2.start N vs) H:=by
 obtain⟨B,ds,d,o,sub,tB,a,e,q⟩:=h;unfold fnM at e
 fail "qa"
 exact ρ _ B H _ _ w _ (T7 sub tB a s I) m (T8 f q)
theorem cm(h:spM (fnM n k b) vs H Q E):vs.length=n:=by
 obtain⟨B,ds,d,o,sub,tB,c,e,q⟩:=h;unfold fnM at e;split at e
 .rename_i a;exact c.length.trans a
 .cases e
end Mir
namespace Mir
open L2 PySem.Spec PyProof.Rows
variable [Zc]
section
variable{X:Cx}
def Zr:R2:=λx y H Q=>∃l b xs h,x=.ref l/\y=.ref b/\Rd H l (.lst xs)/\Rd H b (.lst h)/\xs.length+h.length<=sizeLine/\∀p,H p=none->Q (.ref p) (upd H p<|.lst<|xs++h)
theorem Xq:OpR X (binaryOp .Add) Zr:=by
 intro C0 s J H x y v u Q I k m h;obtain⟨l,b,xs,t,rfl,rfl,i,g,hz,q⟩:=h;cases k;cases m;obtain⟨z,c,n,r,e⟩:=i.ok I.hok;obtain⟨p,a,n2,d,f⟩:=g.ok I.hok;have o:=r.length;have j:=d.length;refine PySem.P.add_list e f ?_ (by rw[zeJ,zeJ];lia)
 have ea:c.toArray++a.toArray=(c++a).toArray:=by simp
 rw[ea];exact⟨.ref _,_,I.zct (r.append d) (by rw[zes];lia),rfl,q _ I.fresh⟩
def JA(K:zee):R2:=λx y H Q=>rI0 (λi j=>.int<|i+j) x y H Q\/Zr x y H Q\/(∃i j,x=.str i/\y=.str j/\i.length+j.length<=sizeLine/\Q (.str<|i++j) H)\/Zn K x y H Q
def Xr:OpR X (binaryOp .Add) (JA X.K):=zao.or (Xq.or<|Nx.or WO)
end
def km(h:∀Q:VK,Q (.int i) H->k Q):yk B H (.int i,false) k:=⟨_,.int i,h⟩
def jl(h:∀Q:VK,Q (.bl i) H->k Q):yk B H (.bool i,false) k:=⟨_,.bl i,h⟩
def JB(h:∀Q:VK,Q (.str i) H->k Q):yk B H (.str i,false) k:=⟨_,.str i,h⟩
def fe:D->D->Option (D×Bool)
 | .int i,.int j=>some (.int<|i+j,false)
 | .list a,.list b=>cIf (a.length+b.length<=sizeLine) (some (.list<|a++b,true)) none
 | .str a,.str b=>cIf (a.length+b.length<=sizeLine) (some (.str<|a++b,false)) none
 | .tuple (c::a),.tuple b=>cIf ((c::a).length+b.length<=sizeLine/\b≠[]) (some (.tuple<|(c::a)++b,true)) none
 |_,_=>none
theorem Lv{K:zee}:OpJ (JA K) fe:=by
 intro B H x y c d k s hx hy e;unfold fe at e;split at e
 .cases e
  have h1:=hx.int;have h2:=hy.int;subst h1 h2
  exact km λQ q=>.inl ⟨_,_,rfl,rfl,q⟩
 .obtain⟨hz,e⟩:=cY e
  .cases e
   obtain⟨p,xs,rfl,h,a⟩:=hx.list s;obtain⟨p2,f,rfl,i,b⟩:=hy.list s;exact⟨xs++f,a.append b,λQ q=>.inr<|.inl ⟨_,_,_,_,rfl,rfl,h,i,by rw[a.length,b.length];exact hz,q⟩⟩
 .obtain⟨hz,e⟩:=cY e
  .cases e
   have h1:=hx.str;have h2:=hy.str;subst h1 h2
   exact JB λQ q=>.inr (.inr<|.inl ⟨_,_,rfl,rfl,hz,q⟩)
 .obtain⟨hz,e⟩:=cY e
  .cases e
   obtain⟨p,xs,rfl,h,a⟩:=hx.tuple s;obtain⟨p2,f,rfl,i,b⟩:=hy.tuple s;have g:xs≠[]:=by intro z;subst z;cases a
   have j:f≠[]:=by intro z;subst z;cases b;exact hz.2 rfl
   refine⟨xs++f,a.append b,λQ q=>.inr<|.inr<|.inr ⟨_,_,xs,f,rfl,rfl,.inl<|.inl h,.inl<|.inl i,?_⟩⟩
   exact⟨g,by rw[a.length,b.length];exact hz.1,λz=>absurd z j,λ_=>q⟩
 .cases e
def gI(C:Int->Int->Prop)(f:Int->Int->Int):D->D->Option (D×Bool)
 | .int i,.int j=>cIf (C i j) (some (.int<|f i j,false)) none
 |_,_=>none
theorem J_I:OpJ (rI C λi j=>.int<|f i j) (gI C f):=by
 intro B H x y c d b s hx hy e;unfold gI at e;split at e
 .obtain⟨a,e⟩:=cY e
  .cases e
   have h1:=hx.int;have h2:=hy.int;subst h1 h2
   exact km λQ q=>⟨_,_,rfl,rfl,a,q⟩
 .cases e
def gI0(f:Int->Int->Int):D->D->Option (D×Bool)
 | .int i,.int j=>some (.int<|f i j,false)
 |_,_=>none
theorem zcE:OpJ (rI0 λi j=>.int<|f i j) (gI0 f):=by
 intro B H x y c d a s hx hy e;unfold gI0 at e;split at e
 .cases e
  have h1:=hx.int;have h2:=hy.int;subst h1 h2
  exact km λQ q=>⟨_,_,rfl,rfl,q⟩
 .cases e
def gB0(f:Int->Int->Bool):D->D->Option (D×Bool)
 | .int i,.int j=>some (.bool<|f i j,false)
 |_,_=>none
theorem Rk:OpJ (rI0 λi j=>.bl<|f i j) (gB0 f):=by
 intro B H x y c d a s hx hy e;unfold gB0 at e;split at e
 .cases e
  have h1:=hx.int;have h2:=hy.int;subst h1 h2
  exact jl λQ q=>⟨_,_,rfl,rfl,q⟩
 .cases e
abbrev ql:=gI0 λi j=>i-j
abbrev gLt:=gB0 λi j=>decide (i<j)
abbrev gLe:=gB0 λi j=>decide (i<=j)
abbrev gGt:=gB0 λi j=>decide (j<i)
abbrev gGe:=gB0 λi j=>decide (j<=i)
abbrev pz:=gI zan λi j=>i/j
abbrev vY:=gI (λ_ j=>0<j) λi j=>i%j
abbrev Rn:=gI WJ λi j=>i^j.toNat
section
variable{X:Cx}
def E9:R2:=λx y H Q=>rI IntMulOk (λi j=>.int<|i*j) x y H Q\/zcv x y H Q
def JC:OpR X (binaryOp .Mult) E9:=W6.or zaF
end
def BW:D->D->Option (D×Bool)
 | .int i,.int j=>cIf (IntMulOk i j) (some (.int<|i*j,false)) none
 |_,_=>none
theorem Zs:OpJ E9 BW:=by
 intro B H x y c d b s hx hy e;unfold BW at e;split at e
 .obtain⟨a,e⟩:=cY e
  .cases e
   have h1:=hx.int;have h2:=hy.int;subst h1 h2
   exact km λQ q=>.inl ⟨_,_,rfl,rfl,a,q⟩
 .cases e
mutual
theorem Rep.data{K:zee}:∀{v:V} {d:D},Rep H v d->d.canLay0=true->qt K H v d
 |_,_,.non,_=>.non
 |_,_,.bl b,_=>.bl b
 |_,_,.int i,_=>.int i
 |_,_,.str x,_=>.str x
 |_,_,.lst h r,e=>.lst (qw h) (aZ.data r (by simpa[PyData.canLay0]using e))
 |_,_,.tup h r,e=>.tup (.inl<|.inl h) (aZ.data r (by simpa[PyData.canLay0]using e))
 |_,_,.dct _ _,e=>by simp[PyData.canLay0]at e
theorem aZ.data{K:zee}:∀{v:List V} {d:List D},aZ H v d->PyData.canLayAll0 d=true->qu K H v d
 |_,_,.nil,_=>.nil
 |_,_,.cons a b,e=>by
  simp only[PyData.canLayAll0,Bool.and_eq_true]at e;exact .cons (Rep.data a e.1) (aZ.data b e.2)
end
def gEq:D->D->Option (D×Bool):=λc d=>if SeqAt.shaped c=true/\SeqAt.shaped d=true then some (.bool<|PyData.eqv c d,false)else none
def gNe:D->D->Option (D×Bool):=λc d=>if SeqAt.shaped c=true/\SeqAt.shaped d=true then some (.bool<|!PyData.eqv c d,false)else none
theorem N0{K:zee}:OpJ (W4 K) gEq:=by
 intro B H x y c d a s hx hy e;unfold gEq at e;split at e
 .rename_i h
  cases e;exact jl λQ q=>⟨_,_,(hx.rep s).data<|SeqAt.canLay_of_shaped h.1,(hy.rep s).data<|SeqAt.canLay_of_shaped h.2,h.1,h.2,q⟩
 .cases e
theorem zcF{K:zee}:OpJ (W5 K) gNe:=by
 intro B H x y c d a s hx hy e;unfold gNe at e;split at e
 .rename_i h
  cases e;exact jl λQ q=>⟨_,_,(hx.rep s).data<|SeqAt.canLay_of_shaped h.1,(hy.rep s).data<|SeqAt.canLay_of_shaped h.2,h.1,h.2,q⟩
 .cases e
def isNone:D->Bool
 | .none=>true
 |_=>false
theorem Rep.isNone(h:Rep H v d):decide (v=.non)=Mir.isNone d:=by cases h<;>rfl
def gIs:D->D->Option (D×Bool)
 |c,.none=>some (.bool<|isNone c,false)
 |_,_=>none
def zbh:D->D->Option (D×Bool)
 |c,.none=>some (.bool<|!isNone c,false)
 |_,_=>none
theorem zdN:OpJ (λx y H Q=>y=.non/\Q (.bl<|decide<|x=.non) H) gIs:=by
 intro B H x y c d a s hx hy e;unfold gIs at e;split at e
 .cases e
  exact jl λQ q=>⟨hy.none,by rw[(hx.rep s).isNone];exact q⟩
 .cases e
def rW:D->Option (D×Bool)
 | .int i=>some (.int<|-i,false)
 |_=>none
theorem Lw:UnJ (rU λi=>.int<|-i) rW:=by
 intro B H x c a s hx e;unfold rW at e;split at e
 .cases e
  have h1:=hx.int;subst h1
  exact km λQ q=>⟨_,rfl,q⟩
 .cases e
def gIx:D->D->Option (D×Bool)
 | .list ds,.int i=>(atI ds i).map λd=>(d,false)
 | .tuple ds,.int i=>(atI ds i).map λd=>(d,false)
 |_,_=>none
theorem aZ.atI(r:aZ H vs ds)(h:L2.atI ds i=some d):∃v,L2.atI vs i=some v/\Rep H v d:=by
 unfold L2.atI at h⊢;rw[r.length];obtain⟨j,h1,h2⟩:=zd8 h;obtain⟨v,h3,h4⟩:=r.get j d h2;exact⟨v,by rw[h1];exact h3,h4⟩
theorem T9{K:zee}:OpJ (rIx K) gIx:=by
 intro B H x y c d f s hx hy e;unfold gIx at e;split at e
 .obtain⟨w,h1,h2⟩:=zd9 e
  cases h2;obtain⟨p,xs,rfl,b,a⟩:=hx.list s;have h2:=hy.int;subst h2
  obtain⟨v,h3,h4⟩:=a.atI h1;exact⟨v,h4,λQ q=>.inl ⟨_,_,_,_,rfl,rfl,qw b,h3,q⟩⟩
 .obtain⟨w,h1,h2⟩:=zd9 e
  cases h2;obtain⟨p,xs,rfl,b,a⟩:=hx.tuple s;have h2:=hy.int;subst h2
  obtain⟨v,h3,h4⟩:=a.atI h1;exact⟨v,h4,λQ q=>.inr<|.inl ⟨_,_,_,_,rfl,rfl,.inl<|.inl b,h3,q⟩⟩
 .cases e
def cutD(ds:List D)(lo hi:Option Int):List D:=(ds.drop<|HT.sIx ds.length 0 lo).take (HT.sIx ds.length ds.length hi-HT.sIx ds.length 0 lo)
theorem aZ.cut(r:aZ H vs ds)(lo hi:Option Int):aZ H (Q5 vs lo hi) (cutD ds lo hi):=by
 unfold Q5 cutD;rw[r.length];exact(r.drop _).take _
def gSl:D->Option Int->Option Int->Option (D×Bool)
 | .list ds,lo,hi=>some (.list<|cutD ds lo hi,true)
 |_,_,_=>none
theorem Ua{K:zee}:SlJ (zaC K) gSl:=by
 intro B H x c l u d s hx e;unfold gSl at e;split at e
 .cases e
  obtain⟨p,xs,rfl,b,a⟩:=hx.list s;exact⟨_,a.cut _ _,λQ q=>⟨_,_,rfl,qw b,q⟩⟩
 .cases e
def dj:List D->Option (D×Bool)
 | [.list ds]=>some (.int ds.length,false)
 | [.tuple ds]=>some (.int ds.length,false)
 | [.str x]=>cIf (x.length<=sizeLine) (some (.int x.length,false)) none
 |_=>none
theorem yf(h:Views B H vs [d]):∃v,vs=[v]/\View B H v d:=by
 match vs,h with
 | [v],⟨h,_⟩=>exact⟨v,rfl,h⟩
theorem ym{K:zee}:AF (zaR K) dj:=by
 intro B H vs ds d s h e;unfold dj at e;split at e
 .cases e
  fail "qc"
  exact km λQ q=>.inl ⟨_,_,rfl,.inl<|qw b,by rw[a.length];exact q⟩
 .cases e
  obtain⟨v,rfl,c⟩:=yf h;obtain⟨p,xs,rfl,b,a⟩:=c.tuple s;exact km λQ q=>.inl ⟨_,_,rfl,.inr<|.inl<|.inl b,by rw[a.length];exact q⟩
 .obtain⟨hz,e⟩:=cY e
  .cases e
   obtain⟨v,rfl,c⟩:=yf h;have:=c.str;subst this
   exact km λQ q=>.inr ⟨_,rfl,hz,q⟩
 .cases e
def zdO:List D->Option (D×Bool)
 | [.int i,.int j]=>some (.int<|if j>i then j else i,false)
 |_=>none
def zdP:List D->Option (D×Bool)
 | [.int i,.int j]=>some (.int<|if j<i then j else i,false)
 |_=>none
def Xs:List D->Option (D×Bool)
 | [.int i]=>some (.int<|if i<0 then-i else i,false)
 |_=>none
def zdQ:List D->Option (D×Bool)
 | [.int i]=>some (.int i,false)
 | [.bool b]=>some (.int<|if b then 1 else 0,false)
 |_=>none
theorem zcG:AF (λxs H Q=>∃i,xs=[.int i]/\Q (.int<|if i<0 then-i else i) H) Xs:=by
 intro B H vs ds a s h e;unfold Xs at e;split at e
 .cases e
  obtain⟨v,rfl,h1⟩:=yf h;have:=h1.int;subst this
  exact km λQ q=>⟨_,rfl,q⟩
 .cases e
def intsOf:List D->Option (List Int)
 | []=>some []
 | .int i::ds=>(intsOf ds).map (i::·)
 |_=>none
def boolsOf:List D->Option (List Bool)
 | []=>some []
 | .bool i::ds=>(boolsOf ds).map (i::·)
 |_=>none
theorem aZ.ints:∀{vs:List V} {ds:List D} {ns:List Int},aZ H vs ds->intsOf ds=some ns->vs=ns.map V.int
 |_,_,_,.nil,e=>by cases e;rfl
 |_,_,_,.cons (d:=d) a b,e=>by
  cases d with
  |int i=>
   obtain⟨c,h1,h2⟩:=zd9 (e);cases h2;cases a;rw[zey,aZ.ints b h1]
  |_=>cases e
theorem aZ.bools:∀{vs:List V} {ds:List D} {ns:List Bool},aZ H vs ds->boolsOf ds=some ns->vs=ns.map V.bl
 |_,_,_,.nil,e=>by cases e;rfl
 |_,_,_,.cons (d:=d) a b,e=>by
  cases d with
  |bool i=>
   obtain⟨c,h1,h2⟩:=zd9 (e);cases h2;cases a;rw[zey,aZ.bools b h1]
  |_=>cases e
def N7:List D->Option (D×Bool)
 | [.list ds]=>(intsOf ds).map λns=>(.int ns.sum,false)
 |_=>none
def Xt:List D->Option (D×Bool)
 | [.list ds]=>(boolsOf ds).map λns=>(.bool<|ns.all id,false)
 |_=>none
theorem Zt{K:zee}:AF (zaL K) N7:=by
 intro B H vs ds d s h e;unfold N7 at e;split at e
 .obtain⟨ns,h1,h2⟩:=zd9 e
  cases h2
  fail "qc"
  have:=a.ints h1;subst this
  exact km λQ q=>⟨_,_,rfl,qw b,q⟩
 .cases e
theorem zcH{K:zee}:AF (zaM K) Xt:=by
 intro B H vs ds d s h e;unfold Xt at e;split at e
 .obtain⟨ns,h1,h2⟩:=zd9 e
  cases h2
  fail "qc"
  have:=a.bools h1;subst this
  exact jl λQ q=>⟨_,_,rfl,qw b,q⟩
 .cases e
def mY:List D->Option (D×Bool)
 | [.list ds]=>some (.list ds,true)
 | [.tuple ds]=>some (.list ds,true)
 |_=>none
theorem FV{K:zee}:AF (λxs H Q=>∃p I,xs=[.ref p]/\(SqL K H p I\/SqT K H p I)/\∀l,H l=none->Q (.ref l) (upd H l<|.lst I)) mY:=by
 intro B H vs ds d s h e;unfold mY at e;split at e
 .cases e
  fail "qc"
  exact⟨xs,a,λQ q=>⟨_,_,rfl,.inl<|qw b,q⟩⟩
 .cases e
  obtain⟨v,rfl,c⟩:=yf h;obtain⟨p,xs,rfl,b,a⟩:=c.tuple s;exact⟨xs,a,λQ q=>⟨_,_,rfl,.inr<|.inl<|.inl b,q⟩⟩
 .cases e
def tyD:D->String
 | .none=>"NoneType"
 | .bool _=>"bool"
 | .int _=>"int"
 | .str _=>"str"
 | .list _=>"list"
 | .tuple _=>"tuple"
 | .dict _=>"?"
theorem Rep.ty(h:Rep H v d)(hd:tyD d≠"?"):tyN H v=tyD d:=by
 cases h with
 |non=>rfl
 |bl _=>rfl
 |int _=>rfl
 |str _=>rfl
 |lst h _=>
  rcases h with h|⟨o,h⟩
  .unfold tyN;simp only[h];rfl
  .unfold tyN;simp only[h];rfl
 |tup h _=>unfold tyN;simp only[h];rfl
 |dct _ _=>exact absurd rfl hd
def yb(n:String):D->Option (D×Bool):=λd=>if tyD d≠"?"/\n∈iX then some (.bool<|C6 (tyD d) n,false)else none
def Ey(n:String)(a:PM):PM:=mUn (yb n) a
theorem zbi(ha:ME I a):ME (tCB zaK<|BJ I<|BJ (tC<|.ty n) Bc) (Ey n a):=by
 fail "q6"
 fail "q3"
 unfold yb at b;split at b
 .rename_i hd
  cases b;have g:=(k.view d).rep d.sub;have c:=g.ty hd.1;have hk:tyD x.1.1∈fW:=by
   have h2:=hd.1
   revert h2
   cases x.1.1 with
   |none=>intro _;show "NoneType"∈fW;decide
   |bool _=>intro _;show "bool"∈fW;decide
   |int _=>intro _;show "int"∈fW;decide
   |str _=>intro _;show "str"∈fW;decide
   |list _=>intro _;show "list"∈fW;decide
   |tuple _=>intro _;show "tuple"∈fW;decide
   |dict _=>intro h2;exact absurd rfl h2
  exact⟨v,n,rfl,by rw[c];exact hk,hd.2,by rw[c];exact q _ j i f d (.bl _) λp z=>by cases z⟩
 .cases b
def AG:D->Bool
 | .none=>true
 | .bool _=>true
 | .int _=>true
 | .str _=>true
 |_=>false
theorem Rep.flat(h:Rep H v d)(e:AG d=true):rZ v=true:=by cases h<;>first|rfl|cases e
theorem aZ.PH:∀{v:List V} {d:List D},aZ H v d->d.all AG=true->v.all rZ=true
 |_,_,.nil,_=>rfl
 |_,_,.cons a b,e=>by
  simp only[List.all_cons,Bool.and_eq_true]at e⊢;exact⟨a.flat e.1,aZ.PH b e.2⟩
theorem Rep.eqv(h:Rep H v c)(g:Rep H w d)(e:AG c=true)(I:AG d=true):eqV v w=PyData.eqv c d:=by
 cases h<;>first|(cases e;done)|(cases g<;>first|(cases I;done)|(simp[eqV,PyData.eqv]))
def Bf:D->List D->Option (D×Bool)
 | .list ds,[d]=>if AG d=true/\ds.all AG=true then some (.int ((ds.countP λc=>PyData.eqv c d:Nat):Int),false)else none
 |_,_=>none
theorem aZ.countP(g:Rep H w d)(I:AG d=true):∀{vs:List V} {ds:List D},aZ H vs ds->ds.all AG=true->vs.countP (λz=>eqV z w)=ds.countP λc=>PyData.eqv c d
 |_,_,.nil,_=>rfl
 |_,_,.cons a b,e=>by
  simp only[List.all_cons,Bool.and_eq_true]at e;rw[List.countP_cons,List.countP_cons,aZ.countP g I b e.2,a.eqv g e.1 I]
theorem Xu{K:zee}:MtJ K "list" (NP K) Bf:=by
 constructor
 .intro B H x c ds h s hx e
  unfold Bf at e;split at e
  .obtain⟨p,xs,rfl,f,a⟩:=hx.list s
   exact .inl ⟨rfl,xs,qw f⟩
  .cases e
 .intro B H x c vs ds h s hx hv e
  unfold Bf at e;split at e
  .split at e
   .rename_i d
    cases e;obtain⟨p,xs,rfl,f,a⟩:=hx.list s;obtain⟨w,rfl,hw⟩:=yf hv;have b:=hw.rep s;have g:=a.mono s;exact km λQ q=>⟨_,_,_,rfl,rfl,qw f,b.flat d.1,g.PH d.2,by rw[g.countP b d.1 d.2];exact q⟩
   .cases e
  .cases e
def d7:List D->List D->Option (List D×D):=λds h=>match h with
 | [d]=>cIf (ds.length<sizeLine) (some (ds++[d],.none)) none
 |_=>none
theorem BX:Lr BM d7:=by
 intro B H p xs ds vs g w d c s f e;unfold d7 at e;split at e
 .obtain⟨hz,e⟩:=cY e
  .cases e
   cases f with
   |cons a b=>
    cases b;exact⟨_,_,c.append<|.cons a .nil,.non,λQ q=>⟨_,_,_,rfl,rfl,d,by rw[c.length];exact hz,q⟩⟩
 .cases e
def JD:List D->List D->Option (List D×D):=λds h=>match h with
 | []=>(ds[ds.length-1]?).map λd=>(ds.dropLast,d)
 |_=>none
theorem Ub:Lr zcu JD:=by
 intro B H p xs ds vs f w b a s c e;unfold JD at e;split at e
 .obtain⟨d,h1,h2⟩:=zd9 e
  cases h2;cases c;obtain⟨v,h3,h4⟩:=a.get _ d h1;exact⟨_,v,a.dropLast,h4,λQ q=>⟨_,_,_,rfl,rfl,b,by rw[a.length];exact h3,q⟩⟩
 .cases e
def JE:List D->List D->Option (List D×D):=λds h=>match h with
 | [.int i]=>cIf (-(2^63)<=i/\i<2^63) ((seqIndex? i ds.length).bind λk=>(ds[k]?).map λd=>(ds.eraseIdx k,d)) none
 |_=>none
theorem Xv:Lr Tu JE:=by
 intro B H p xs ds vs h w f c s g e;unfold JE at e;split at e
 .obtain⟨hz,e⟩:=cY e
  .obtain⟨k,h0,e⟩:=zd8 e
   obtain⟨d,h1,h2⟩:=zd9 e;cases h2;cases g with
   |cons a b=>
    cases b;cases a;obtain⟨v,h3,h4⟩:=c.get _ d h1;exact⟨_,v,c.eraseIdx k,h4,λQ q=>⟨_,_,_,_,_,rfl,rfl,f,hz.1,hz.2,by rw[c.length];exact h0,h3,q⟩⟩
 .cases e
def zbj:List D->List D->Option (List D×D):=λds h=>match h with
 | []=>some ([],.none)
 |_=>none
end Mir
namespace Mir
open L2 PySem.Spec PyProof.Rows
variable [Zc]
section
variable{X:Cx}{K:zee}
def Xw(h:X.K=K):OpR X (binaryOp .Add) (JA K):=h▸Xr
def N8(h:X.K=K)(hu:X.A.units+64<cLine):OpR X (compareOp .Eq) (W4 K):=h▸zaP hu
def Uc(h:X.K=K)(hu:X.A.units+64<cLine):OpR X (compareOp .NotEq) (W5 K):=h▸zaQ hu
def Fb(h:X.K=K):IxR X (rIx K):=h▸zaA
def yo(h:X.K=K):SlR X (zaC K):=h▸WS
def i9(h:X.K=K):j4 X (.builtin "len") (zaR K):=h▸Ra
def Iv(h:X.K=K)(I:X.calm=true):j4 X (.builtin "sum") (zaL K):=h▸TC I
def Ro(h:X.K=K)(I:X.calm=true):j4 X (.builtin "all") (zaM K):=h▸TH I
def vZ(h:X.K=K):j4 X (.type "list") (λxs H Q=>∃p I,xs=[.ref p]/\(SqL K H p I\/SqT K H p I)/\∀l,H l=none->Q (.ref l) (upd H l<|.lst I)):=h▸Js
def Rp(h:X.K=K):MtR X "list.count" (NP K):=h▸TJ
variable{tg l o e:Expr}{es:List Expr}{tl to:TE}{t:TA}{name:Str}{apos K2:Pos}{T id:String}{r:V->List V->Hp->VK->Prop}
def Ud(h:X.K=K)(I:PE X l tl):PI X tg l (Ld K tl):=h▸WG I
def Xx(h:X.K=K)(I:PE X l tl):PI X tg l (WE K tl):=h▸zak I
theorem Xy(h:X.K=K)(I:Gl X "reversed")(hm:X.mg "reversed"=none)(ha:PA X [a] M)(ρ:starEach [a] X.env=[9111]:=by rfl):PI X tg (.Call (.Name "reversed" p) [a] [] pos) (zaN K M):=h▸zaO I hm ha ρ
theorem Fc(h:X.K=K)(U:PlainAttrs T)(slot:Slot T name id)(M:typeOf (.builtin id)=pure (.type "method_descriptor"))(hm:MtR X id r)(O:PE X o to)
  (I:attributeBase o name X.env (eval o X.env)=eval o X.env:=by rfl) (ρ:(apos.endLine==K2.line)=true:=by rfl):PE X (.Call (.Attribute o name apos) [] [] K2) (WT K T r to):=h▸zaE U slot M hm O I ρ
theorem v7(h:X.K=K)(pa:PlainAttrs T)(slot:Slot T name id)(U:typeOf (.builtin id)=pure (.type "method_descriptor"))(hm:MtR X id r)(Y:PE X o to)(ha:PA X (e::es) t)
  (ρ:attributeBase o name X.env (eval o X.env)=eval o X.env:=by rfl)
  (O:((backTo K2<|starEach (e::es) X.env).all (λx=>!x.1)&&(backToKw K2<|keywordEach [] X.env).all (λx=>x.1.isSome)
   &&decide ((e::es).length+([]:List Keyword).length+(if([]:List Keyword).isEmpty then 0 else 1)<30))=true:=by rfl)
  (M:(apos.endLine==K2.line)=true:=by rfl) (hs:starEach (e::es) X.env=9013::starEach es X.env:=by rfl) (I:(backTo K2<|starEach es X.env).any (·.1)=false:=by rfl) :
  PE X (.Call (.Attribute o name apos) (e::es) [] K2) (tBM K T r to t):=h▸zcs pa slot U hm Y ha ρ O M hs I
end
def zbk:D->D->Option D
 | .list ds,.int k=>cIf (-(2^63)<=k/\k<2^63/\ds.length*k.toNat<=sizeLine) (some<|.list (List.replicate k.toNat ds).flatten) none
 |_,_=>none
def Rq(m:Rho->Option 9028)(b:PM):PM:=λL=>(dY m L).bind λx=>(sv b x.2).bind λy=>(zbk x.1.1 y.1.1).map λd=>((d,.new),y.2)
theorem Ue(h:MA t m)(U:ME tb b):ME (tOp E9 (Ti t) tb) (Rq m b):=by
 intro F B H J L r0 ρ' Q R e q
 fail "q2"
 obtain⟨d,a,e⟩:=zd9 e;cases e;have hk:x.1.2=.new:=by
  obtain⟨z,_,i⟩:=zd8 A;obtain⟨w,_,i⟩:=zd8 i;obtain⟨_,i⟩:=cY i;cases i;rfl
 refine C8 h F B H J L x.1 x.2 _ R A λv B1 S f ρ T Z=>?_
 obtain⟨⟨c,k⟩,l⟩:=x;cases(hk);obtain⟨D,R2,rp,s2,k2⟩:=ρ.Iq T;obtain⟨p,rfl,hB,hF,ow,nn⟩:=T;unfold zbk at a;split at a
 case h_2=>cases a
 rename_i ds n Y hn
 obtain⟨hz,a⟩:=cY a;cases a;have σ:=Y;subst σ;obtain⟨xs,V,rx⟩:=ow.list;have K:D p=some (.lst xs):=by
  cases rp with
  |lst h r=>
   rcases h with h|⟨o,h⟩
   .have:=R2.sub _ _ h
    rw[V]at this;cases this;exact h
   .have:=R2.sub _ _ h
    rw[V]at this;cases this
 refine U.sv F D S J l y.1 y.2 _ R2 C λu B3 X s G O N3=>?_
 have W:=O.view G;rw[hn]at W;have h3:=G.sub _ _ (s.sB _ _ K);have g:Ext J L B H l D S:=⟨f.sB.trans s2,λq o h1 h2=>by
  obtain⟨h3,h4⟩:=f.keep q o h1 h2;refine⟨h3,λz=>?_⟩
  rw[k2 q λy=>by
   have:=Z q rfl y;rw[h1]at this;cases this]
  exact h4 z,f.own,f.ref,f.live⟩
 have j:=rx.mono (s2.trans s.sB);have:=kh (d0:=(.list (List.replicate n.toNat ds).flatten,true)) (k:=λQ=>E9 (.ref p) u X Q) G
  ⟨_,j.flat n.toNat,λQ h=>.inr ⟨p,n,xs,rfl,W.int,h3,hz.1,hz.2.1,by rw[j.length];exact hz.2.2,h⟩⟩
  λv B' H' E I M N=>q v B' H' (g.trans<|s.trans E) I M λP z1 z2=>g.live P (s.live P<|N P z1 z2)
 exact this
theorem Ug(σ:OpJ r g)(ρ:OpJ r' g')(ha:ME ta a)(hb:ME tb b)(hc:ME tc c)(hr:∀x y H Q I,(∀v H,Q v H->I v H)->r x y H Q->r x y H I) :
  ME (Tb r r' ta tb tc) (FL g g' a b c):=by
 intro F B H J L r0 ρ' Q R e q
 fail "q2"
 obtain⟨s1,Y,e⟩:=zd8 e;obtain⟨U,e4,e⟩:=zd8 e
 fail "q3"
 refine hb.sv F j i J x.2 y.1 y.2 _ d C λu n o E2 R2 E N2=>?_
 obtain⟨X,n3⟩:=k.next E2 R2 (vV A) Y;have D:=σ n o v u s1.1 y.1.1 U R2.sub (X.view R2) (E.view R2) e4;split at e
 .rename_i s
  obtain⟨w,h,hk⟩:=D;cases h;refine hk _ ⟨true,rfl,?_⟩;obtain⟨z,e5,e⟩:=zd8 e;obtain⟨s2,e6,e⟩:=zd8 e;obtain⟨m,e7,e⟩:=zd9 e;cases e;refine zdE ?_;refine hc.sv F n o J y.2 z.1 z.2 _ R2 e5 λt G P E3 l Z N4=>?_
  obtain⟨M,n5⟩:=E.next E3 l (vV C) e6;exact kh l (ρ G P u t s2.1 z.1.1 m l.sub (M.view l) (Z.view l) e7) λw K S N W O T=>q w K S ((f.trans<|E2.trans E3).trans N) W O λp z1 z2=>(f.trans<|E2.trans E3).live p (T p z1 z2)
 .rename_i s
  obtain⟨w,h,hk⟩:=D;cases h;cases e;exact hk _ ⟨false,rfl,zdD<|q _ n o (f.trans E2) R2 (.bl false) λp z=>by cases z⟩
 .cases e
def Fd(K:zee):Bool:=K.all λp=>match p.2.cls with
 | .type n=>n !="list"
 |_=>true
theorem Lx{α:Type}:∀{l:List<|Addr×α} {a:Addr} {o : α},l.lookup a=some o->(a,o)∈l
 |(b,c)::l,a,o,h=>by
  rw[ze7]at h
  by_cases z:a=b
  .subst z
   rw[beq_self_eq_true]at h;cases h;exact zeq
  .rw[beq_eq_false_iff_ne.mpr z]at h
   exact zei _ (Lx h)
theorem zcI{K:zee}(h:Fd K=true){a:Addr}{xs:List V}(s:SqL K H a xs):Rd H a (.lst xs):=by
 rcases s with s|⟨o,c,n,hk,b,_⟩
 .exact s
 .have:=List.all_eq_true.mp h _ (Lx hk)
  rw[b]at this;simp at this
theorem Dd:∀ns:List Int,aZ H (ns.map V.int) (ns.map PyData.int)
 | []=>.nil
 |n::ns=>.cons (.int n) (Dd ns)
theorem zbl{K:zee}(h:Fd K=true)(T:∀ns:List Int,ns.length<=63->(∀k∈ns,Builtin.Int.intBits k<=1048576)->f [.list<|ns.map .int]=some 9012)
  (vs:List V) (H:Hp) (Q:VK) (E:XK) (s:TL K vs H Q E):spM f vs H Q E:=by
 obtain⟨a,ns,rfl,b,d,c,q⟩:=s;refine⟨H,_,_,_,aW.refl _,λ_ _ z=>z,.cons (.lst (zcI h b)<|Dd ns) .nil,T ns d c,λv B' H' P=>?_⟩
 have pv:=P.val;cases pv;exact q _
end Mir
namespace Mir
open L2
variable [Zc]
abbrev dI(l:List Int):D:=.list (l.map .int)
theorem zcJ(i j:Int):(i==j)=decide (i=j):=by by_cases h:i=j<;>simp[h]
theorem pW(i j:Int):gEq (.int i) (.int j)=some (.bool<|decide<|i=j,false):=by
 unfold gEq;rw[if_pos ⟨rfl,rfl⟩];simp only[PyData.eqv,zcJ]
theorem PJ(i j:Int):gNe (.int i) (.int j)=some (.bool<|!decide (i=j),false):=by
 unfold gNe;rw[if_pos ⟨rfl,rfl⟩];simp only[PyData.eqv,zcJ]
theorem Uh(i j:Bool):gEq (.bool i) (.bool j)=some (.bool<|i==j,false):=by
 unfold gEq;rw[if_pos ⟨rfl,rfl⟩];simp only[PyData.eqv]
theorem Ui(i j:Bool):gNe (.bool i) (.bool j)=some (.bool<|!(i==j),false):=by
 unfold gNe;rw[if_pos ⟨rfl,rfl⟩];simp only[PyData.eqv]
theorem D3:∀l:List Int,PyData.canLayAll0 (l.map .int)=true
 | []=>rfl
 |_::l=>by simp only[List.map_cons,PyData.canLayAll0,PyData.canLay0,D3 l,Bool.and_self]
theorem N9(l:List Int):(dI l).depth<=2:=by
 have h:∀l:List Int,PyData.depthAll (l.map .int)<=1:=by
  intro l
  induction l with
  |nil=>simp[PyData.depthAll]
  |cons a l b=>simp only[List.map_cons,PyData.depthAll,PyData.depth];lia
 have:=h l;simp only[dI,PyData.depth]
 lia
theorem shaped_ints(l:List Int):SeqAt.shaped (dI l)=true:=by
 unfold SeqAt.shaped;have h:=N9 l;rw[zeG (by lia),Bool.and_true]
 simp only[dI,PyData.canLay0,D3]
theorem D4:∀a b:List Int,PyData.eqvAll (a.map .int) (b.map .int)=decide (a=b)
 | [],[]=>by simp[PyData.eqvAll]
 | [],_::_=>by simp[PyData.eqvAll]
 |_::_,[]=>by simp[PyData.eqvAll]
 |x::a,y::b=>by
  simp only[List.map_cons,PyData.eqvAll,PyData.eqv,D4 a b]
  by_cases h:x=y<;>by_cases g:a=b<;>simp[h,g]
theorem Ly(a b:List Int):PyData.eqv (dI a) (dI b)=decide (a=b):=by simp only[dI,PyData.eqv,D4]
theorem FW(a b:List Int):gEq (dI a) (dI b)=some (.bool<|decide<|a=b,false):=by
 unfold gEq;rw[if_pos ⟨shaped_ints a,shaped_ints b⟩,Ly]
theorem Uj(a b:List Int):gNe (dI a) (dI b)=some (.bool<|!decide (a=b),false):=by
 unfold gNe;rw[if_pos ⟨shaped_ints a,shaped_ints b⟩,Ly]
theorem D6(i:Int):yb "int" (.int i)=some 9012:=by simp[yb,tyD,iX,C6]
theorem BY(i:Int):yb "bool" (.int i)=some 9026:=by simp[yb,tyD,iX,C6]
theorem Ht(i:List D):yb "list" (.list i)=some 9012:=by simp[yb,tyD,iX,C6]
theorem Ez(i:List D):yb "tuple" (.tuple i)=some 9012:=by simp[yb,tyD,iX,C6]
theorem pq(xs:List α)(i:Nat):atI xs (i:Int)=xs[i]?:=by
 unfold atI ixN;rw[if_pos (by lia)]
 split
 .simp
 .rename_i h
  rw[Option.bind_none,List.getElem?_eq_none (by lia)]
theorem FA(xs:List α):atI xs (-1)=xs.getLast?:=by
 unfold atI ixN;rw[if_neg (by lia)]
 cases xs with
 |nil=>simp
 |cons a l=>
  rw[if_pos (by simp only[List.length_cons];lia),zeg,List.getLast?_eq_getElem?]
  congr 1
  simp only[List.length_cons];lia
theorem Rr(l:List Int)(a b:Option Int):cutD (l.map .int) a b=((l.drop<|HT.sIx l.length 0 a).take<|HT.sIx l.length l.length b-HT.sIx l.length 0 a).map .int:=by
 simp only[cutD,List.length_map,List.map_take,List.map_drop]
theorem JF(f : α->I)(xs:List α)(i:Int):atI (xs.map f) i=(atI xs i).map f:=by
 simp only[atI,List.length_map,List.getElem?_map];cases ixN xs.length i with
 |none=>rfl
 |some j=>simp only[Option.bind_some]
theorem FX(h1:c L=some (true,I))(h2:b I=some (.nx ρ))(h3:j2 c b n ρ=o):j2 c b (n+1) L=o:=by
 unfold j2;simp only[h1,h2,Option.bind_some,if_true,h3]
theorem De(h1:c L=some (false,I)):j2 c b (n+1) L=some (.nx I):=by
 unfold j2;simp only[h1,Option.bind_some,Bool.false_eq_true,if_false]
theorem Uk(lo:Int)(n:Nat):(Hr lo n).length=n:=by simp[Hr]
def Df(i:Int):mX (.int i) false=true:=rfl
def Oa(i:Bool):mX (.bool i) false=true:=rfl
def Rt(i:Str):mX (.str i) false=true:=rfl
def Ob:mX .none false=true:=rfl
def Oc(l:List D):mX (.list l) false=false:=rfl
theorem Iw(l:List D):mX (.tuple l) false=ej l:=by simp only[mX,pf]
def ie(l:List D):mX (.list l) true=ej l:=rfl
theorem v9:ej []=true:=by simp only[ej]
theorem FY(i:Int)(l:List D):ej (.int i::l)=ej l:=by simp only[ej,pf,Bool.true_and]
theorem Lz(i:Bool)(l:List D):ej (.bool i::l)=ej l:=by simp only[ej,pf,Bool.true_and]
theorem D8(i l:List D):ej (.list i::l)=false:=by simp only[ej,pf,Bool.false_and]
theorem sd:∀l:List Int,ej (l.map .int)=true
 | []=>v9
 |i::l=>by rw[zey,FY,sd l]
def t7(d:D):u5 (d,false)=(d,.fz):=rfl
def zbm(l:List D):u5 (.list l,true)=(.list l,.new):=rfl
def zbn(l:List D):u5 (.tuple l,true)=(.tuple l,.fz):=rfl
def Ul(d:D):kO d false=(d,.fz):=rfl
def zdR(d:D):kO d true=(d,.new):=rfl
theorem bj(h1:a L=some (.nx ρ1))(h2:b ρ1=o):du a b L=o:=by
 unfold du;simp only[h1,Option.bind_some,h2]
theorem FZ(h1:a L=some (.rt r I)):du a b L=some (.rt r I):=by
 unfold du;simp only[h1,Option.bind_some]
theorem ef(h0:ds.length=n)(h1:b 9092=some o)(h2:NZ o=some w):fnM n k b ds=some w:=by
 unfold fnM;rw[if_pos h0,h1,zeg,h2]
theorem ig(h1:m L=some (rs,ρ1))(h2:f (rs.map (·.1))=some (d,o))(h3:mX d o=true):dz f m L=some (kO d o,ρ1):=by
 unfold dz;rw[h1,zeg];dsimp only;rw[h2,zeg,if_pos h3]
theorem cj(h:a L=some (r,ρ1)):ez a L=some (.rt r ρ1):=by
 unfold ez;rw[h,zeS]
theorem JG(h1:it L=some (ds,ρ1))(h2:forL g b ds ρ1=o):Jz it g b L=o:=by
 unfold Jz;rw[h1,zeg];exact h2
theorem Od{m:Rho->Option 9028}{j:Int}{k:Kd}(h1:m L=some ([(.int j,k)],ρ1))(h2 : -(2^62)<=j/\j<2^62):Lq m L=some (Hr 0 j.toNat,ρ1):=by
 unfold Lq;rw[h1,zeg];show cIf _ _ _=_;rw[bg h2]
end Mir
namespace Mir
open L2
variable [Zc]
def SF(s:Sl):Prop:=s=.no\/∃d,s=.fz d
theorem SF.fz(d:D):SF (.fz d):=.inr ⟨d,rfl⟩
theorem SF.no:SF .no:=.inl rfl
theorem zdS{r:Rho}{d:D}(h:SF s):mgN 2 d (a::b::s::r)=some (a::b::.fz d::r):=by
 rcases h with rfl|⟨c,rfl⟩<;>rfl
theorem LA(I:∀w x:Int,b [.fz R,.fz<|.int w,.fz<|.int x]=some (.nx [.fz R,.fz<|.int<|f w x,.fz<|.int x])):∀(l:List Int) (w:Int) (s:Sl),SF s->
  ∃s',SF s'/\forL (mgN 2) b (l.map .int) [.fz R,.fz<|.int w,s]=some (.nx [.fz R,.fz<|.int<|l.foldl f w,s'])
 | [],w,s,h=>⟨s,h,rfl⟩
 |x::l,w,s,h=>by
  obtain⟨s',h1,h2⟩:=LA I l (f w x) (.fz<|.int x) (SF.fz _);refine⟨s',h1,?_⟩;rw[zey];unfold forL;simp only[zdS h,I,Option.bind_some,h2,List.foldl_cons]
theorem LB(l:List Int)(k:Int):(l.map PyData.int).countP (λc=>PyData.eqv c<|.int k)=l.countP (λz=>z==k):=by
 rw[List.countP_map]
 congr 1
theorem Iy:∀l:List Int,(l.map PyData.int).all AG=true
 | []=>rfl
 |_::l=>by rw[zey,List.all_cons,Iy l];rfl
theorem D9(l:List Int)(k:Int):Bf (.list<|l.map .int) [.int k]=some (.int ((l.countP (λz=>z==k):Nat):Int),false):=by
 unfold Bf;simp only[Iy,AG,and_self,if_true,LB]
theorem JH(h:k<n):ixN n (k:Int)=some k:=by
 unfold ixN;rw[if_pos (by lia),if_pos (by lia),Int.toNat_natCast]
theorem AH(h:n<=100000):n<=sizeLine:=zeW h (by decide)
theorem AI(h:n<=100000):n<sizeLine:=Nat.lt_of_le_of_lt h (by decide)
theorem drop_set{α:Type}(a:List α)(x y : α)(b:List α):(a++x::b).set a.length y=a++y::b:=by
 rw[List.set_append_right _ _<|zen _,Nat.sub_self,List.set_cons_zero]
end Mir
namespace Mir
open L2 PySem.Spec PyProof.Rows
variable [Zc]
def Zu(K:zee):V->V->Hp->VK->Prop:=λx y H Q=>∃p xs i v,x=.ref p/\y=.int i/\SqL K H p xs/\0<=i/\xs[i.toNat]?=some v/\Q v H
theorem Ru{K:zee}(hk:X.K=K):zcl X (Zu K):=by
 subst hk;intro C0 s J H o i j g Q I ro d h;obtain⟨p,xs,k,v,rfl,rfl,c,h0,hv,q⟩:=h;cases ro;obtain⟨t,rfl⟩:=d;obtain⟨e,r,pl,hz⟩:=I.list c;obtain⟨w,b,a⟩:=r.get hv;have f:k.toNat<xs.length:=(zea hv).1;refine wpAny_getItem_list pl.isList h0 ?_ (by simpa using b) ⟨v,H,I,a,q⟩
 have:=Bb
 lia
def Oe(i:Nat)(k a:PM)(f:Int->Int->Int):SM:=λL=>(qx L[i]?).bind λ_=>((sv k L).bind asI).bind λy=>(qx y.2[i]?).bind λds=>match(if 0<=y.1 then ds[y.1.toNat]? else none)with
 |some (.int x)=>((sv a y.2).bind asI).bind λz=>(qx z.2[i]?).bind λh=>if y.1.toNat<h.length then some (.nx<|putAt z.2 i<|.list<|h.set y.1.toNat<|.int<|f x z.1)else none
 |_=>none
theorem Xz{K:zee}{f:Int->Int->Int}{tk I:TE}{k a:PM}(hk:ME tk k)(ha:ME I a):MS (Zj (Hm i) tk I (Zu K) (ipI f) Ik) (Oe i k a f):=by
 intro F B H J L o D R e q;obtain⟨ds0,e0,e⟩:=zd8 e;obtain⟨y,e1,e⟩:=zd8 e;obtain⟨X,e2,e3⟩:=zd8 e1;obtain⟨ds,e4,e⟩:=zd8 e;split at e
 case h_2=>cases e
 rename_i x hx
 obtain⟨z,e5,e⟩:=zd8 e;obtain⟨Z,e6,e7⟩:=zd8 e5;obtain⟨c,e8,e⟩:=zd8 e;split at e
 case isFalse=>cases e
 rename_i hlt
 cases e;split at hx
 case isFalse=>cases hx
 rename_i h
 obtain⟨s0,P,G,hd0⟩:=r6 e0;obtain⟨p,hv,hB,ow⟩:=R.ownAt P G;refine⟨_,hv,?_⟩;refine hk.sv F B H J L X.1 X.2 _ R e2 λu ρ U M A V1 N1=>?_
 obtain⟨g1,g2⟩:=FP (b:=y.1) (L:=y.2) e3;have V:=V1.view A;rw[g1]at V;rw[g2]at A M;obtain⟨s1,Q,σ,C⟩:=r6 e4;obtain⟨p1,l,hB1,n⟩:=A.ownAt Q σ;rw[hv]at l;cases l;rw[C]at n;obtain⟨xs,hp,rx⟩:=n.list;obtain⟨v,S,rv⟩:=rx.get _ _ hx;cases rv;refine⟨p,xs,y.1,_,rfl,V.int,SqL.of hp,h,S,?_⟩;refine ha.sv F ρ U J y.2 Z.1 Z.2 _ A e6 λw B2 H2 O R2 V2 N2=>?_
 obtain⟨g3,g4⟩:=FP (b:=z.1) (L:=z.2) e7;have vw:=V2.view R2;rw[g3]at vw;rw[g4]at R2 O;refine⟨x,z.1,rfl,vw.int,?_⟩;obtain⟨s2,g,j,E⟩:=r6 e8;obtain⟨p2,m,hB2,r⟩:=R2.ownAt g j;rw[hv]at m;cases m;rw[E]at r;obtain⟨t,N,s⟩:=r.list;have T:=aZ.set (.int<|f x z.1) y.1.toNat s;obtain⟨Y,E3⟩:=R2.write (o:=.lst<|t.set y.1.toNat<|.int<|f x z.1) (d:=.list<|c.set y.1.toNat<|.int<|f x z.1) g j hv ⟨(λ_ z=>by cases z),λ_ _ z=>by cases z⟩ (.lst aw T)
 have ep:Mir.putAt z.2 i (.list<|c.set y.1.toNat<|.int<|f x z.1)=z.2.set i (s2.put<|.list<|c.set y.1.toNat<|.int<|f x z.1):=by unfold Mir.putAt;rw[g]
 have W:∀B H J,Rel F B H J (Mir.putAt z.2 i<|.list<|c.set y.1.toNat<|.int<|f x z.1)->D.nx J H:=q;rw[ep]at W;refine⟨p,t,y.1,y.1.toNat,rfl,V.int,N,?_,W _ _ _ Y⟩;rw[s.length];unfold ixN;rw[if_pos h,if_pos (by lia)]
end Mir
namespace Mir
open L2
variable [Zc]
def yp:List D->Option (D×Bool)
 | [.list ds]=>some (.list ds.reverse,true)
 |_=>none
theorem Iz:AF (FE K) yp:=by
 intro B H vs ds d s h e;unfold yp at e;split at e
 .cases e
  fail "qc"
  exact⟨xs.reverse,a.reverse,λQ q=>⟨_,_,rfl,qw b,q⟩⟩
 .cases e
def zbo(ds:List D)(i:Int)(y:D):List D:=ds.take (if i<0 then(i+(ds.length:Int)).toNat else min i.toNat ds.length)++y::ds.drop (if i<0 then(i+(ds.length:Int)).toNat else min i.toNat ds.length)
def BZ:List D->List D->Option (List D×D):=λds h=>match h with
 | [.int i,y]=>cIf (-(2^63)<=i/\i<2^63/\ds.length<sizeLine) (some (zbo ds i y,.none)) none
 |_=>none
theorem Um:Lr Px BZ:=by
 intro B H p xs ds vs i w g c s h e;unfold BZ at e;split at e
 .obtain⟨hz,e⟩:=cY e
  cases e;cases h with
  |cons a b=>
   cases b with
   |cons d f=>
    cases f;cases a;refine⟨_,_,?_,.non,λQ q=>⟨_,_,_,_,rfl,rfl,g,by rw[c.length];exact hz.2.2,hz.1,hz.2.1,q⟩⟩
    unfold zaU zbo;rw[c.length];exact(c.take _).append (.cons d<|c.drop _)
 .cases e
section
variable{X:Cx}{K:zee}
def zbp(h:X.K=K):OpR X (compareOp .In) (rIn K false):=h▸Q6
def Rv(h:X.K=K):OpR X (compareOp .NotIn) (rIn K true):=h▸Jp
theorem Ea{p U pos I:Pos}(h:X.K=K)(Y:X.calm=true)(hg:Gl X "list")(hm:X.mg "list"=none)(ρ:Gl X "reversed")(M:X.mg "reversed"=none)(ha:PA X [a] ta)
  (hs:starEach [a] X.env=[9111]:=by rfl) (O:starEach [DY "reversed" U [a] I] X.env=[(false,eval (DY "reversed" U [a] I) X.env)]:=by rfl) :
  PE X (DY "list" p [DY "reversed" U [a] I] pos) (tCB (FE K) ta):=h▸NQ Y hg hm ρ M ha hs O
end
end Mir
namespace Mir
open L2
variable [Zc]
section
variable{a b:PM}{L ρ1 ρ2 ρ3:Rho}{x y d:D}{r:RV}{d0:D×Bool}
theorem bz(h:a L=some ((d,.new),ρ1)):sv a L=some ((d,.fz),ρ1):=by unfold sv;rw[h]
theorem ah(h:a L=some ((d,.fz),ρ1)):sv a L=some ((d,.fz),ρ1):=by unfold sv;rw[h]
theorem IA(h:a L=some ((d,.at i),ρ1)):sv a L=some ((d,.at i),ρ1):=by unfold sv;rw[h]
theorem bc(h1:sv a L=some ((x,.fz),ρ1))(h2:sv b ρ1=some (r,ρ2))(h3:g x r.1=some d0):mOp g a b L=some (u5 d0,ρ2):=by
 unfold mOp;rw[h1,zeg];dsimp only;rw[h2,zeg];dsimp only[lx,Option.bind_some];rw[h3,zeS]
theorem Uo(h1:sv a L=some ((x,.at i),ρ1))(h2:sv b ρ1=some (r,ρ2))(h4 : ρ2[i]?=some (.own y))(h3:g y r.1=some d0):mOp g a b L=some (u5 d0,ρ2):=by
 unfold mOp;rw[h1,zeg];dsimp only;rw[h2,zeg];dsimp only[lx];rw[h4];dsimp only[Option.bind_some];rw[h3,zeS]
theorem au{rs:List RV}(h1:sv a L=some ((x,.fz),ρ1))(h2:m ρ1=some (rs,ρ2)):ae a m L=some ((x,.fz)::rs,ρ2):=by
 unfold ae;rw[h1,zeg];dsimp only;rw[h2,zeg];rfl
theorem JI{I:List RV}{i:Nat}(h1:sv a L=some ((x,.at i),ρ1))(h2:m ρ1=some (I,ρ2))(h4 : ρ2[i]?=some (.own y)):ae a m L=some ((y,.at i)::I,ρ2):=by
 unfold ae;rw[h1,zeg];dsimp only;rw[h2,zeg];dsimp only[lx];rw[h4];rfl
def aX:ao L=some ([],L):=rfl
theorem ax(h : L[i]?=some (.fz d)):af i L=some ((d,.fz),L):=by unfold af;rw[h]
theorem se(h : L[i]?=some (.own d)):af i L=some ((d,.at i),L):=by unfold af;rw[h]
theorem gz(h1:m L=some (rs,ρ1))(h2:g (rs.map (·.1))=some d0):mCB g m L=some (u5 d0,ρ1):=by
 unfold mCB;rw[h1,zeg];dsimp only;rw[h2,zeS]
theorem t8(h1:a L=some ((d,.fz),ρ1))(h2:om ρ1 i (.fz d)=some ρ2):d6 i a L=some (.nx ρ2):=by
 unfold d6;rw[h1,zeg];dsimp only[sto];rw[h2,zeS]
theorem jf(h1:a L=some ((d,.new),ρ1))(h2:om ρ1 i (.own d)=some ρ2):d6 i a L=some (.nx ρ2):=by
 unfold d6;rw[h1,zeg];dsimp only[sto];rw[h2,zeS]
theorem Hu(h1:c L=some (true,ρ1))(h2:s ρ1=o):j6 c s t L=o:=by
 unfold j6;rw[h1,zeg];dsimp only;rw[if_pos rfl,h2]
theorem yc(h1:c L=some (false,ρ1))(h2:t ρ1=o):j6 c s t L=o:=by
 unfold j6;rw[h1,zeg];dsimp only;rw[if_neg zek,h2]
theorem test_ev{k:Kd}(h:a L=some ((.bool v,.fz),ρ1)):az a L=some (v,ρ1):=by
 unfold az;rw[ah h];rfl
theorem wa(h:c L=some (v,ρ1)):BR c L=some (!v,ρ1):=by unfold BR;rw[h];rfl
theorem IB(h:c L=some (true,ρ1))(h2:e ρ1=o):BQ c e L=o:=by unfold BQ;rw[h];simpa using h2
theorem LC(h:c L=some (false,ρ1)):BQ c e L=some (false,ρ1):=by unfold BQ;rw[h];rfl
theorem zdT(h:c L=some (true,ρ1)):mOr c e L=some (true,ρ1):=by unfold mOr;rw[h];rfl
theorem JJ(h:c L=some (false,ρ1))(h2:e ρ1=o):mOr c e L=o:=by unfold mOr;rw[h];simpa using h2
theorem ik(a b:List D)(h:a.length+b.length<=100000):fe (.list a) (.list b)=some (.list<|a++b,true):=by
 show cIf _ _ _=_;rw[bg<|AH h]
theorem f6(h1:m L=some (rs,ρ1))(h2:ic rs ρ1=some (ds,ρ2))(h3:ds.length<=100000):dY m L=some ((.list ds,.new),ρ2):=by
 unfold dY;rw[h1,zeg];dsimp only;rw[h2,zeg];dsimp only;rw[bg<|AH h3]
theorem g7(h1:m L=some (rs,ρ1))(h2:ic rs ρ1=some (ds,ρ2))(h3:ds.length<=100000):gy m L=some ((.tuple ds,.fz),ρ2):=by
 unfold gy;rw[h1,zeg];dsimp only;rw[h2,zeg];dsimp only;rw[bg<|AH h3]
theorem PK(h1:it L=some (ds,ρ1))(h2:u9 c e (fr.map λp=>iY ρ1 p.2) ds=some I)(h3:I.length<=100000) :
  mLC fr it c e L=some ((.list I,.new),ρ1):=by
 unfold mLC;rw[h1,zeg];dsimp only;rw[h2,zeg,bg<|AI h3]
theorem XA(h:a L=some (r,ρ1)):jY a L=some (.nx ρ1):=by unfold jY;rw[h];rfl
end
theorem va{ρn:Rho}{α:Type}{f : α->D}{g : α->D}:∀l:List α,(∀x∈l,∃L,sv e (.fz (f x)::ρn)=some ((g x,.fz),L))->u9 Hs e ρn (l.map f)=some (l.map g)
 | [],_=>rfl
 |x::l,h=>by
  obtain⟨L,h1⟩:=h x zeq;have h2:=va l λy hy=>h y (zei _ hy)
  rw[zey,zey];unfold u9;simp only[Hs,h1,h2,asF,Option.bind_some,Option.map_some,if_true]
def IE(m:PM)(L:Rho)(v:Int):Prop:=m L=some ((.int v,.fz),L)
def BE(m:PM)(L:Rho)(v:Bool):Prop:=m L=some ((.bool v,.fz),L)
section
variable{a b:PM}{L:Rho}{i j:Int}{u v:Bool}
def Rw(h1:IE a L i)(h2:IE b L j)(h3:g (.int i) (.int j)=some (.int k,false)):IE (mOp g a b) L k:=bc (ah h1) (ah h2) h3
def Rx(h1:IE a L i)(h2:IE b L j)(h3:g (.int i) (.int j)=some (.bool k,false)):BE (mOp g a b) L k:=bc (ah h1) (ah h2) h3
def de:IE (mC<|.int i) L i:=rfl
def bq(h : L[k]?=some (.fz<|.int i)):IE (af k) L i:=ax h
def Of(h1:IE a L i)(h2:IE b L j):IE (mOp fe a b) L (i+j):=Rw h1 h2 rfl
def t9(h1:IE a L i)(h2:IE b L j):IE (mOp ql a b) L (i-j):=Rw h1 h2 rfl
theorem Up(h:C i j):gI C f (.int i) (.int j)=some (.int<|f i j,false):=by show cIf _ _ _=_;rw[bg h]
theorem F4(h1:IE a L i)(h2:IE b L j)(h:IntMulOk i j):IE (mOp BW a b) L (i*j):=Rw h1 h2 (by show cIf _ _ _=_;rw[bg h])
def qy(h1:IE a L i)(h2:IE b L j)(h:zan i j):IE (mOp pz a b) L (i/j):=Rw h1 h2 (Up h)
def yq(h1:IE a L i)(h2:IE b L j)(h : 0<j):IE (mOp vY a b) L (i%j):=Rw h1 h2 (Up h)
def Uq(h1:IE a L i)(h2:IE b L j)(h:WJ i j):IE (mOp Rn a b) L (i^j.toNat):=Rw h1 h2 (Up h)
theorem Dg(h1:IE a L i):IE (mUn rW a) L (-i):=by unfold IE mUn;rw[ah h1];rfl
def Ur(h1:IE a L i)(h2:IE b L j):BE (mOp gEq a b) L (decide<|i=j):=Rx h1 h2 (pW i j)
def Us(h1:IE a L i)(h2:IE b L j):BE (mOp gNe a b) L (!decide (i=j)):=Rx h1 h2 (PJ i j)
def LF(h1:IE a L i)(h2:IE b L j):BE (mOp gLt a b) L (decide<|i<j):=Rx h1 h2 rfl
def zcK(h1:IE a L i)(h2:IE b L j):BE (mOp gLe a b) L (decide<|i<=j):=Rx h1 h2 rfl
def qz(h1:IE a L i)(h2:IE b L j):BE (mOp gGt a b) L (decide<|j<i):=Rx h1 h2 rfl
def zcL(h1:IE a L i)(h2:IE b L j):BE (mOp gGe a b) L (decide<|j<=i):=Rx h1 h2 rfl
def BE.t(h:BE a L v):az a L=some (v,L):=test_ev (k:=.fz) h
def BE.is(h:BE a L u)(e:u=v):BE a L v:=e▸h
def IE.is(h:IE a L i)(e:i=j):IE a L j:=e▸h
def PL(h1:m L=some (I,L))(h2:f (I.map (·.1))=some (.int i,false)):IE (dz f m) L i:=ig h1 h2 rfl
def B0(h1:m L=some (rs,L))(h2:f (rs.map (·.1))=some (.bool v,false)):BE (dz f m) L v:=ig h1 h2 rfl
theorem Og(h1:BE a L u)(h2:u=true->BE b L v)(h3:u=false->v=false):BE (FK a b) L v:=by
 unfold BE FK;rw[h1.t];cases u with
 |true=>exact h2 rfl
 |false=>rw[h3 rfl];rfl
theorem zbq(h1:BE a L u):BE (Lm a) L (!u):=by unfold BE Lm;rw[h1.t];rfl
def Hv(h:IE a L i)(h2:om L k (.fz<|.int i)=some ρ'):d6 k a L=some (.nx ρ'):=t8 h h2
def o4(h:BE a L u)(e:u=v):az a L=some (v,L):=e▸h.t
def IC{I:List RV}(h:IE a L i)(h2:m L=some (I,L)):ae a m L=some ((.int i,.fz)::I,L):=au (ah h) h2
def tEq(h1:IE a L i)(h2:IE b L j)(h:i=j):az (mOp gEq a b) L=some (true,L):=o4 (Ur h1 h2) (zeG h)
def tNe(h1:IE a L i)(h2:IE b L j)(h:i≠j):az (mOp gEq a b) L=some (false,L):=o4 (Ur h1 h2) (zeN h)
end
theorem Ry{L ρ I:Rho}{r:RV}{d:D}{ds M:List D}(h0 : L[i]?=some (.own<|.list M))(h1:m L=some ([r],ρ))(h2:jk r ρ=some (d,I))(h3 : I[i]?=some (.own<|.list ds))(hz:ds.length<=100000) :
  rz i d7 m L=some ((.none,.fz),I.set i<|.own<|.list<|ds++[d]):=by
 unfold rz;simp only[h0,h1,h2,h3,qx,ic,Option.bind_some,Option.map_some,d7,bg<|AI hz,Mir.putAt,Sl.put]
theorem zcM(h1:c L=some (true,I))(h2:a I=o):Ln c a b L=o:=by unfold Ln;rw[h1];simpa using h2
theorem zcN(h1:c L=some (false,I))(h2:b I=o):Ln c a b L=o:=by unfold Ln;rw[h1];simpa using h2
theorem F5(h1:sv a L=some ((d,k),I))(h2:yb n d=some (.bool v,false)):Ey n a L=some ((.bool v,.fz),I):=by
 unfold Ey mUn;rw[h1,zeg];dsimp only;rw[h2];rfl
def JK{L ρ1 I M:Rho}{r:RV}(d:D)(ds:List D){O:List D}(h0 : L[i]?=some (.own<|.list O))(h1:m L=some ([r],ρ1))(h2:jk r ρ1=some (d,I))(h3 : I[i]?=some (.own<|.list ds))(hz:ds.length<=100000)
  (U : I.set i (.own<|.list<|ds++[d])=M):jY (rz i d7 m) L=some (.nx M):=U▸XA (Ry h0 h1 h2 h3 hz)
def oo(x : α)(l:List α):atI (x::l) 0=some x:=pq (x::l) 0
theorem Dh(h1:g d L=some ρ1)(h2:b ρ1=some (.nx I))(h3:forL g b ds I=o):forL g b (d::ds) L=o:=by
 show((g d L).bind _)=_;rw[h1,zeg,h2];exact h3
theorem Oh{L ρ1:Rho}(d:D)(ds:List D)(h0 : L[i]?=some (.own<|.list<|ds++[d]))(I : L.set i (.own<|.list ds)=ρ1):DZ i JD L=some ((d,.fz),ρ1):=by
 unfold DZ;have e:(ds++[d])[(ds++[d]).length-1]?=some d:=by simp
 simp only[qx,Option.bind_some,JD,e,Option.map_some,List.dropLast_concat,Mir.putAt,h0,Sl.put,I]
theorem F6:∀l:List Int,intsOf (l.map .int)=some l
 | []=>rfl
 |x::l=>by rw[zey];unfold intsOf;rw[F6 l];rfl
theorem ID(l:List Int):N7 [.list<|l.map .int]=some (.int l.sum,false):=by
 show(intsOf _).map _=_;rw[F6];rfl
end Mir
namespace Mir
open L2
variable [Zc]
def asS:D->Option (List D)
 | .list ds=>some ds
 | .tuple ds=>some ds
 |_=>none
def mgU(n:Nat)(I:List D->Rho->Option Rho):D->Rho->Option Rho:=λd L=>(asS d).bind λds=>if ds.length=n then I ds L else none
end Mir
namespace L2
open PySem.Spec PyProof.Rows
variable{X:Cx}
end L2
namespace Mir
open L2
variable [Zc]
theorem PN(s:Str):yb "str" (.str s)=some 9012:=by simp[yb,tyD,iX,C6]
end Mir
namespace Mir
open L2
inductive Hw where
 |ok (o:Out)|er (c:Str) (L:Rho)
abbrev EM:=Rho->Option Hw
section
variable [Zc]
def zbr(F:Fr)(D:Ends)(W:Str->Hp->Prop):Hw->Prop
 | .ok o=>FU F D o
 | .er c L=>∀B H J,Rel F B H J L->W c H
def MSE(W:Str->Hp->Prop)(t:TS)(m:EM):Prop:=∀(F:Fr) (B H:Hp) (J:St) (L:Rho) (o:Hw) (D:Ends),Rel F B H J L->m L=some o->zbr F D W o->t D J H
def eW(m:SM):EM:=λL=>(m L).map .ok
theorem dk(h:MS t m):MSE W t (eW m):=by
 intro F B H J L o D R e q;obtain⟨x,a,e⟩:=zd9 e;cases e;exact h F B H J L x D R a q
def jm(a b:EM):EM:=λL=>(a L).bind λo=>match o with
 | .ok (.nx ρ')=>b ρ'
 |o=>some o
theorem gh(ha:MSE W t a)(I:MSE W u b):MSE W (Wy t u) (jm a b):=by
 fail "q8"
 refine ha F B H J L x _ R f ?_;cases x with
 |er c d=>cases e;exact q
 |ok x=>
  cases x with
  |nx d=>exact λh i g j=>I F h i g d o D j e q
  |rt r d=>cases e;exact q
  |bk d=>cases e;exact q
  |ct d=>cases e;exact q
def eIf(c:Rho->Option (Bool×Rho))(a b:EM):EM:=λL=>(c L).bind λx=>if x.1=true then a x.2 else b x.2
theorem Oi(ρ:MT M c)(ha:MSE W t a)(I:MSE W u b):MSE W (Wz M t u) (eIf c a b):=by
 fail "q8"
 refine ρ F B H J L x.1 x.2 _ R f λB' H' E d=>?_
 by_cases h:x.1=true
 .rw[if_pos h]at e⊢;exact ha F B' H' J x.2 o D d e q
 .rw[if_neg h]at e⊢;exact I F B' H' J x.2 o D d e q
def Di(c:Str)(m:Rho->Option 9028):EM:=λL=>(m L).bind λx=>if x.1.length<=100 then some (.er c x.2)else none
theorem Ut:∀{vs:List V} {I:List RV},Vl F B H J L vs I->vs.length=I.length
 | [],[],_=>rfl
 |_::_,_::_,⟨_,t⟩=>by rw[zeu,zeu,Ut t]
theorem Dj(h:MA t m)(hw:∀H,W c H->I H):MSE W (TR I t) (Di c m):=by
 fail "q8"
 split at e
 .rename_i hz
  cases e;refine h F B H J L x.1 x.2 _ R f λvs a b i d g=>⟨by rw[Ut g];exact hz,hw _<|q a b J d⟩
 .cases e
def fnX(n k:Nat)(b:EM)(ds:List D):Option 9047:=if ds.length=n then(b<|ds.map .fz++List.replicate k .no).bind λo=>match o with
 | .ok o=>(NZ o).map .inl
 | .er c _=>some (.inr c)
 else none
def spX(cl:Str->Value)(f:List D->Option 9047):Sp:=λvs H Q E=>∃B ds w,aW B H/\(∀q xs,H q=some (.tup xs)->B q=some (.tup xs))/\aZ B vs ds/\f ds=some w/\
 match w with
 | .inl (d,o)=>∀v B' H',Post B H v B' H' d o->Q v H'
 | .inr c=>∀B' H',Post B H .non B' H' .none false->E (cl c) none H'
theorem Fe(ρ:MSE (λc H=>E (cl c) none H) t b)(I:N.length=n+k)(h:spX cl (fnX n k b) vs H Q E):t {nx:=λ_ H'=>Q .non H',rt:=Q} (L2.start N vs) H:=by
 obtain⟨B,ds,l,sub,tB,i,e,q⟩:=h;unfold fnX at e
 fail "qa"
 refine ρ _ B H _ _ w _ (T7 sub tB i s I) m ?_;cases w with
 |er c ρ'=>
  cases f;intro B' H' j a;exact q B' H' ⟨λq u z=>a.sH q u z (λx hx=>by cases hx),a.sB,a.sub,a.nB,a.fj,a.nz,.non⟩
 |ok w=>
 replace f:=zd9 f
 obtain⟨⟨d,o⟩,f,g⟩:=f;subst g;exact T8 f q
theorem B6(h:spX cl (fnX n k b) vs H Q E):vs.length=n:=by
 obtain⟨B,ds,w,sub,tB,c,e,q⟩:=h;unfold fnX at e;split at e
 .rename_i a;exact c.length.trans a
 .cases e
end
end Mir
namespace L2
open PySem.Spec PyProof.Rows
theorem Top.Uu{K:zee}{mg:Str->Option Value}{base:Heap}{x:Str}{st:Stmt}{N ps:List Str}{k:Nat}{sp:Sp}(T:Top K mg x st)(S:ay N ps<|ai st)(len:∀vs H Q E,sp vs H Q E->vs.length=ps.length)
  (ρ:∀(kV doc pm:Value) (an:Option Addr) (cdv ct:Value) (us:List Value),us.length=ps.length->bindArgs (PySem.W.fnOf x x (jd st) (fw st) (ai st) .none kV doc pm an cdv ct) ⟨us,[]⟩=pure (ps.zip us))
  (I:∀(f:Addr) (cdv:Value) (A:Around) (outer:List Env) (s:Shared) (H:Hp) (vs:List V) (Q:VK) (E:XK),cn k (A.deeper<|envOfC x (ai st) s.heap.objs.size f cdv)->sp vs H Q E->
   ∃t,PSs (Be (CXW P w) P w K mg base N x (ai st) f cdv A outer s H E) (fw st) t/\t {nx:=λ_ H'=>Q .non H',rt:=Q} (start N vs) H):Def P w K mg base (CXW P w) (k+1) x ps sp:=by
 obtain⟨f,fd,F,m⟩:=T.ex;refine⟨⟨f,fd,?_,m,F.kp,F.binds ρ⟩⟩;obtain⟨oc,od,kV,doc,pm,an,cdv,ct,osl,rfl,lk,a⟩:=F.ex;exact ef lk a S len λA outer s H vs Q E c b=>I f cdv A outer s H vs Q E c b
def clM(mg:Str->Option Value)(c:Str):Value:=(mg c).getD .none
theorem JL(h:mg c=some v):clM mg c=v:=by unfold clM;rw[h];rfl
def okX(K:zee)(C:Addr)(cls:Value):Prop:=∃D,cls=.ref D/\zaV K D/\PySem.W.exmOne K cls (.ref C)=some true
end L2
namespace Mir
open L2
variable [Zc]
end Mir
namespace Mir
open L2
section
variable [Zc]
def tups(H:Hp):Hp:=λq=>match H q with
 |some (.tup xs)=>some (.tup xs)
 |_=>none
def ownAt(L:Rho)(i:Nat):Option Sl:=match L[i]? with
 |some s=>if s.oh=true then some s else none
 |none=>none
end
end Mir
namespace L2
open PySem.Spec PyProof.Rows
abbrev XE:=St->Value->Hp->Prop
abbrev TX:=XE->TS
abbrev TEX:=XE->TE
def XP(X:Cx)(C0:List<|Addr×Obj)(E:XE)(I:Value)(s':Shared):Prop :=
 ∃(ea t:Addr) (cls:Value) (B:Heap) (H':Hp) (s1:Shared) (D:Hp) (h:St),I=.ref ea/\Inv X C0 h D s1/\Py X.prog X.w X.stack D s1 (λcls _ H'=>E h cls H') ea t cls B H' s'
def PX(X:Cx)(st:Stmt)(t:TX):Prop :=
 ∀(C0:List<|Addr×Obj) (s:Shared) (J:St) (H:Hp) (D:Ends) (E:XE),Inv X C0 J H s->t E D J H->wpAny 9001 X.A (exec st X.env) (SP X C0 D) (XP X C0 E) s
def PXs(X:Cx)(st:List Stmt)(t:TX):Prop :=
 ∀(C0:List<|Addr×Obj) (s:Shared) (J:St) (H:Hp) (D:Ends) (E:XE),Inv X C0 J H s->t E D J H->wpAny 9001 X.A (execs st X.env) (SP X C0 D) (XP X C0 E) s
def PEX(X:Cx)(e:Expr)(t:TEX):Prop :=
 ∀(C0:List<|Addr×Obj) (s:Shared) (J:St) (H:Hp) (Q:VK) (E:XE),Inv X C0 J H s->t E J H Q->wpAny 9001 X.A (eval e X.env) 9033 (XP X C0 E) s
def Oj(sp:Sp)(t:TA):TEX:=λE J H Q=>t J H λvs h=>sp vs h Q (λcls _ D=>E J cls D)
def Uv(te:TEX):TX:=λE=>Pg (te E)
section
variable{X:Cx}{st:Stmt}{G1:List Stmt}{t:TX}{u:TX}{pos:Pos}
theorem XB(h1:PX X st t):PXs X [st] t:=by
 intro C0 s J H D E I h;refine wpAny_execs_cons (thn (h1 C0 s J H D E I h) λf s1 q=>?_)
 cases f with
 |next=>exact wpAny_execs_nil q
 |ret v=>exact q
 |brk=>exact q
 |cont=>exact q
theorem XC(ρ:PEX X e O)(M:swapsWith e none pos.line X.env=pure false:=by rfl):PX X (.Expr e pos) (Uv O):=by
 intro C0 s J H D E I h;exact wpAny_Expr_any (thn (ρ C0 s J H _ E I h) λv s1 ⟨x,a,b,d,c⟩=>⟨J,a,b,c⟩) I.quiet M
end
def Zv(I:TX)(ok:Value->Prop)(M:Value->Addr->TS):TS:=λD J H=>I (λh cls E=>ok cls/\∀e:Addr,E e=none->M cls e D h E) D J H
section
variable{X:Cx}
theorem XD{K:zee}{xC:Str}{np pos hpos:Pos}{O:List Stmt}{tb:TX}{th:Value->Addr->TS}{U:Stmt}{ρ:List Stmt}(hK:X.K=K)(hb:PXs X O tb)
  (M:X.stack=X.env::X.outer) (Y:X.env.frame=some X.env.locals) (hgC:Gl X xC) (hmC:X.mg xC=some (.ref C)) (hS:∀(cls:Value) (e:Addr) (oe:Obj),oe.cls=cls->L2.okX K C cls->PSs (X.inX e oe) (U::ρ) (th cls e))
  (hdC:(xC==("__debug__":Str))=false:=by decide):PS X (.Try O [.ExceptHandler (some<|.Name xC np) none (U::ρ) hpos] [] [] pos) (Zv tb (L2.okX K C) th):=by
 subst hK;intro C0 s J H D I h;refine wpAny_Try_except ?_;refine ze5 (hb C0 s J H D _ I h) (λf s1 q=>?_) λev s' hq=>?_
 .cases f with
  |next=>exact wpAny_execs_nil q
  |ret v=>exact q
  |brk=>exact q
  |cont=>exact q
 .obtain⟨ea,t',cls,B,k,s1,H1,c,rfl,I1,l⟩:=hq
  obtain⟨t,R⟩:=l.wish;have fly:=l.fly;rw[M]at fly;refine wpAny_looks_onW (by rw[I.ok.frames,M]) Y fly λh4 Z S=>?_
  refine wpAny_landsW Z λG j T=>?_
  have sm:s'.heap.UpToSlots G:=S.trans T;have I5:Inv X C0 c k {s' with heap:=G}:=l.inv I1 (by rw[M];exact j) sm
  have A:=I5.mkd (e:=ea);refine wpAny_handleBy_cons (codeAny_handlers_test<|vy A hgC hmC ?_ hdC) (by intro q;cases q)
  have LT:PySem.W.Looks 9001 G (typeOf<|.ref ea) cls:=by
   obtain⟨ob,Q,n⟩:=j.there;exact n▸(PySem.W.Looks.ld Q).andThen .now
  have hex:PySem.W.exmOne X.K cls (.ref C)=some true:=by obtain⟨_,_,_,z⟩:=id t;exact z
  refine(PySem.W.exm_one I5.kIn LT hex) _ _ _ _ (λ_ _ z=>z) ?_
  refine codeAny_handlers_suite ?_;refine lands_againW j λh6 y V=>?_
  have I6:Inv X C0 c k {s' with heap:=h6}:=l.inv I1 (by rw[M];exact y) (sm.trans V)
  obtain⟨oe,ws,o,p,d,_⟩:=y.first;have m:k ea=none:=by
   cases z:k ea with
   |none=>rfl
   |some u=>
    obtain⟨o',x⟩:=(l.hok ea u z).is;rw[y.2.1]at x;cases x
  have r:ea∉frs (X.env::X.outer):=λP=>by
   obtain⟨_,o',x,hd⟩:=y.2.2.1.mem P;rw[o]at x;cases x;exact hd ws d
  have E:Inv (X.inX ea oe) C0 c k {s' with heap:=h6}:=I6.inX o m (λz=>r<|List.mem_filterMap.mpr ⟨X.env,zeq,by rw[Y,z]⟩) (λz=>r (by
   obtain⟨env,σ,N⟩:=List.mem_filterMap.mp z;exact List.mem_filterMap.mpr ⟨env,zei _ σ,N⟩)) (λv z=>by rw[d]at z;cases z)
  refine ze5 (hS cls ea oe p t C0 _ c k D E<|R ea m) (λF s8 b=>?_) (λ_ _ z=>z.elim)
  cases F with
  |next=>
   obtain⟨a,g,i,b⟩:=b;exact⟨a,g,i.Xe I.ok,b⟩
  |brk=>
   obtain⟨a,g,i,b⟩:=b;exact⟨a,g,i.Xe I.ok,b⟩
  |cont=>
   obtain⟨a,g,i,b⟩:=b;exact⟨a,g,i.Xe I.ok,b⟩
  |ret u=>
   obtain⟨v8,a,g,i,r8,b⟩:=b;exact⟨v8,a,g,i.Xe I.ok,r8,b⟩
end
end L2
namespace Mir
open L2
section
variable [Zc]
abbrev XM:=Rho->Option ((RV×Rho) ⊕ (Str×Rho))
def zbt(cl:Str->Value)(F:Fr)(D:Ends)(E:XE):Hw->Prop
 | .ok o=>FU F D o
 | .er c L=>∀B H J,Rel F B H J L->E J (cl c) H
def MSX(cl:Str->Value)(t:TX)(m:EM):Prop:=∀(F:Fr) (B H:Hp) (J:St) (L:Rho) (o:Hw) (D:Ends) (E:XE),Rel F B H J L->m L=some o->zbt cl F D E o->t E D J H
variable{cl:Str->Value}
def mOk(m:XM):PM:=λL=>match m L with
 |some (.inl x)=>some x
 |_=>none
theorem zbu(h:mOk m L=some x):m L=some (.inl x):=by
 unfold mOk at h;split at h
 .rename_i y e;cases h;exact e
 .cases h
structure MEX(cl:Str->Value)(t:TEX)(m:XM):Prop where
 ok:∀E,ME (t E) (mOk m)
 er:∀(F:Fr) (B H:Hp) (J:St) (L:Rho) (c:Str) (ρ':Rho) (Q:VK) (E:XE),Rel F B H J L->m L=some (.inr (c,ρ'))->(∀B' H',Rel F B' H' J ρ'->E J (cl c) H')->t E J H Q
def qW(f:List D->Option 9047)(m:Rho->Option 9028):XM:=λL=>(m L).bind λx=>(ic x.1 x.2).bind λy=>(f y.1).map λw=>match w with
 | .inl (d,o)=>.inl (kO d o,y.2)
 | .inr c=>.inr (c,y.2)
theorem IF(h:qW f m L=some z):∃x y w,m L=some x/\ic x.1 x.2=some y/\f y.1=some w/\z=(match w with
 | .inl (d,o)=>.inl (kO d o,y.2)
 | .inr c=>.inr (c,y.2)):=by
 obtain⟨x,a,h⟩:=zd8 h;obtain⟨y,b,h⟩:=zd8 h;obtain⟨w,e,h⟩:=zd9 h;exact⟨x,y,w,a,b,e,h.symm⟩
theorem Uw(h:MA t m):MEX cl (Oj (spX cl f) t) (qW f m):=by
 refine⟨λE=>?_,?_⟩
 .intro F B H J L r ρ' Q R e q
  obtain⟨x,y,w,A,C,k,i⟩:=IF (zbu e);cases w with
  |inr c=>cases i
  |inl w=>
   obtain⟨d,o⟩:=w;cases i
   fail "q7"
   refine⟨g,y.1,_,R2.sub,R2.fj,b,k,λv B' H' P=>?_⟩
   have s:=R2.grow P.eB P.eH P.sub P.nb P.tB P.nz;have n:Ext J y.2 g l y.2 B' H':=Ext.grow P.eB P.eH P.nb;cases o with
   |false=>
    have pv:Rep B' v d:=P.val;exact q v B' H' (a.trans<|j.trans n) s pv λp z=>by cases z
   |true=>
    obtain⟨p,rfl,h1,h2,h3⟩:∃p,v=.ref p/\l p=none/\B' p=none/\Own B' H' p d:=P.val;have fr:=R2.free h1;exact q _ B' H' (a.trans<|j.trans n) s ⟨p,rfl,h2,fr.2.1,h3,fr.2.2⟩ λD _ z=>by cases z;exact a.live p h1
 .intro F B H J L c ρ' Q E R e q
  obtain⟨x,y,w,A,C,k,i⟩:=IF e;cases w with
  |inl w=>obtain⟨d,o⟩:=w;cases i
  |inr u=>
   cases i
   fail "q7"
   refine⟨g,y.1,_,R2.sub,R2.fj,b,k,λB' H' P=>?_⟩
   exact q B' H' (R2.grow P.eB P.eH P.sub P.nb P.tB P.nz)
def eX(k:PM->SM)(m:XM):EM:=λL=>(m L).bind λo=>match o with
 | .inl _=>(k (mOk m) L).map .ok
 | .inr x=>some (.er x.1 x.2)
theorem zcP{T:TE->TS}{k:PM->SM}{m:XM}(I:∀(te:TE) D J H,(∀Q,te J H Q)->T te D J H)(hk:∀t m,ME t m->MS (T t) (k m))(h:MEX cl te m):MSX cl (λE=>T<|te E) (eX k m):=by
 intro F B H J L o D E R e q;obtain⟨x,b,e⟩:=zd8 e;cases x with
 |inl x=>
  obtain⟨y,c,e⟩:=zd9 e;cases e;exact hk _ _ (h.ok E) F B H J L y D R c q
 |inr x=>
  cases e;exact I _ D J H λQ=>h.er F B H J L x.1 x.2 Q E R b λB' H' a=>q B' H' J a
end
end Mir
namespace L2
open PySem.Spec PyProof.Rows
theorem F7{K:zee}{mg:Str->Option Value}{base:Heap}{N:List Str}{K1:Str}{K0:Scope}{f:Addr}{ρ:Value}{A:Around}{outer:List Env}{s₀:Shared}{H₀:Hp}{E:XK}
  (hex:(envOfC K1 K0 s₀.heap.objs.size f ρ).frame=some s₀.heap.objs.size):Passes (CXW P w) (Be (CXW P w) P w K mg base N K1 K0 f ρ A outer s₀ H₀ E) E:=by
 intro C0 J H s e s' I h;obtain⟨ea,t,cls,B,H',rfl,d⟩:=h;have a:∀b:Addr,b∉(Be (CXW P w) P w K mg base N K1 K0 f ρ A outer s₀ H₀ E).ex:=λb z=>absurd (show b∈([]:List Addr)from z) (by simp)
 have fly:Heap.FlyingW B 9004 ea cls (.ref t) s'.heap:=d.fly;have m:∀env∈9004,∀b,env.frame=some b->b∈frs 9004:=λenv g b c=>List.mem_filterMap.mpr ⟨env,g,c⟩
 have sub:∀b∈frs outer,b∈frs 9004:=λb c=>by
  obtain⟨env,g,i⟩:=List.mem_filterMap.mp c;exact m env (zei _ g) b i
 have j:∀b o,s₀.heap.get? b=some o->b∉frs outer->b∉frs 9004:=λb o q c hm=>by
  obtain⟨env,g,i⟩:=List.mem_filterMap.mp hm;rcases zed g with rfl|g
  .rw[hex]at i
   cases i;exact absurd (zeo q) (ze2 _)
  .exact c (List.mem_filterMap.mpr ⟨env,g,i⟩)
 show wpAny _ _ (leaving _<|.ref ea) _ _ _;refine wpAny_leaves_onW I.ok.frames hex fly λh2 l F=>?_
 refine⟨ea,t,cls,B,H',rfl,⟨d.os.trans I.os,d.bare,l,λb o q n c=>?_,λb o q c=>?_,λb o q c n=>?_,λb o q n=>?_,λb xs q=>d.tups b xs<|I.base.tups b xs q,λb o u q=>d.x9 b o u<|I.base.x9 b o u q,λb ps q=>?_,d.hok,d.wish⟩⟩
 .exact d.keep b o (I.base.keep b o q n c<|a b) (I.base.free b o q n<|a b) (j b o q c)
 .obtain⟨o',k⟩:=I.base.there b o q (a b)
  exact d.there b o' k (j b o q c)
 .obtain⟨sl,k⟩:=I.base.slot b o q n c (a b)
  obtain⟨D,r⟩:=d.slot b _ k (sub b c) (I.base.free b o q n<|a b);obtain⟨_,Q,v,hd⟩:=fly.2.2.1.mem (sub b c);rw[r]at v;cases v;obtain⟨p,C⟩:=F b _ r hd;exact⟨p,C⟩
 .obtain⟨o',k⟩:=I.base.there b o q (a b)
  exact d.free b o' k (I.base.free b o q n<|a b)
 .obtain⟨x,G⟩:=I.base.ya b ps q
  obtain⟨y,σ⟩:=d.ya b _ G;exact⟨x++y,by rw[σ];simp⟩
theorem B7{x:Str}{ps:List Str}{sp:Sp}{p pos:Pos}{e:Expr}{es:List Expr}{t:TA}{E:XK}(D:Def X.prog X.w X.K X.mg X.base (CXW X.prog X.w) k x ps sp)(U:cn k X.A)(hx:Passes (CXW X.prog X.w) X E)(ha:PA X (e::es) t)(O:Gl X x:=by rfl)
  (I:(x==("__debug__":Str))=false:=by decide) (M:starEach (e::es) X.env=9013::starEach es X.env:=by rfl) (ρ:(backTo pos<|starEach es X.env).any (·.1)=false:=by rfl) :
  PE X 9032 (qp sp [] E t):=by
 obtain⟨f,fd,F,m,kp,b⟩:=D.ex;exact Pk F U O m kp b .nil hx ha I M ρ
end L2
namespace Mir
open L2
section
variable [Zc]
theorem Zw{T:TE->TS}{k:PM->SM}{f:List D->Option 9047}{t:TA}{m:Rho->Option 9028}(I:∀(te:TE) D J H,(∀Q,te J H Q)->T te D J H)(hk:∀t m,ME t m->MS (T t) (k m))(h:MA t m) :
  MSE (λc H=>E (cl c) none H) (T<|qp (spX cl f) [] E t) (eX k<|qW f m):=by
 have j:qp (spX cl f) [] E t=Oj (spX cl f) t (λ_ cls H=>E cls none H):=by
  funext J H Q
  show t J H (λvs a=>spX cl f (vs++[]) a Q E)=t J H (λvs a=>spX cl f vs a Q λcls _ g=>E cls none g)
  congr 1
  funext vs a
  rw[zeQ];rfl
 rw[j];intro F B H J L o D R e q;refine zcP (cl:=cl) (T:=T) (te:=Oj (spX cl f) t) I hk (Uw h) F B H J L o D _ R e ?_;cases o with
 |ok o=>exact q
 |er c l=>exact λd a b i=>q d a b i
def Ux(h:MA t m):MSE (λc H=>E (cl c) none H) (SQ<|qp (spX cl f) [] E t) (eX ez<|qW f m):=Zw (T:=SQ) (λa D J H q=>q _) (λt m h=>Dc h) h
def Uy(h:MA t m):MSE (λc H=>E (cl c) none H) (Nt (qp (spX cl f) [] E t)<|DS i) (eX (d6 i)<|qW f m):=Zw (T:=λa=>Nt a<|DS i) (λa D J H q=>q _) (λt m h=>lY h) h
end
end Mir
namespace L2
open PySem.Spec PyProof.Rows PySem.W
def excAt(e:Addr)(cls:Value):Heap->Prop:=λh=>∃D,h.get? e=some D/\D.cls=cls
end L2
namespace Mir
open L2
end Mir
namespace L2
def zdU(e:Addr)(cls:Value)(dx:Addr):Heap->Prop:=λh=>∃D vs,h.get? e=some D/\D.cls=cls/\D.dict=some dx/\D.data=.fields vs
end L2
namespace Mir
open L2
class Zl where
 cl:Str->Value
instance (priority:=10) zl0:Zl:=⟨λ_=>.none⟩
section
variable [Zc] [Zl]
inductive SV where
 |pl (d:D)|lc (k:Nat)|tp (xs:List SV)
inductive Cl where
 |dat (d:D)|obj (C:Addr) (fs:List (Str×SV))|lst (xs:List SV)|dct (es:List (Key×SV))|exc (c:Str) (n:Option Int)
structure SS where
 S:List (Option Cl)
 t:List (Option SV)
mutual
inductive ek(A:List Addr)(B:Hp):V->SV->Prop
 |pl {v:V} {d:D}:Rep B v d->ek A B v (.pl d)
 |lc {k:Nat} {a:Addr}:A[k]?=some a->ek A B (.ref a) (.lc k)
 |tp {t:Addr} {vs:List V} {xs:List SV}:B t=some (.tup vs)->cZ A B vs xs->ek A B (.ref t) (.tp xs)
inductive cZ(A:List Addr)(B:Hp):List V->List SV->Prop
 |nil:cZ A B [] []
 |cons {v:V} {x:SV} {vs:List V} {xs:List SV}:ek A B v x->cZ A B vs xs->cZ A B (v::vs) (x::xs)
end
def Gro(A A':List Addr):Prop:=∀(k:Nat) (a:Addr),A[k]?=some a->A'[k]?=some a
def Gro.refl(A:List Addr):Gro A A:=λ_ _ h=>h
def Gro.trans(a:Gro A I)(b:Gro I ρ):Gro A ρ:=λk x h=>b k x (a k x h)
theorem Gro.app(A N:List Addr):Gro A (A++N):=λk a h=>by rw[zew (zea h).1];exact h
mutual
theorem ek.mono(g:Gro A A')(e:aW B B'):∀{v:V} {x:SV},ek A B v x->ek A' B' v x
 |_,_,.pl r=>.pl (r.mono e)
 |_,_,.lc h=>.lc (g _ _ h)
 |_,_,.tp h r=>.tp (e _ _ h) (cZ.mono g e r)
theorem cZ.mono(g:Gro A A')(e:aW B B'):∀{v:List V} {x:List SV},cZ A B v x->cZ A' B' v x
 |_,_,.nil=>.nil
 |_,_,.cons a b=>.cons (ek.mono g e a) (cZ.mono g e b)
end
theorem cZ.length:∀{v:List V} {x:List SV},cZ A B v x->v.length=x.length
 |_,_,.nil=>rfl
 |_,_,.cons _ b=>by rw[zeu,zeu,cZ.length b]
theorem cZ.get:∀{v:List V} {x:List SV} (i:Nat),cZ A B v x->∀c,x[i]?=some c->∃y,v[i]?=some y/\ek A B y c
 |_,_,i,.nil,c,h=>by simp at h
 |_,_,0,.cons a _,c,h=>by simp at h;subst h;exact⟨_,rfl,a⟩
 |_,_,i+1,.cons _ b,c,h=>by
  exact cZ.get i b c h
inductive gq(A:List Addr)(B:Hp):List (Str×V)->List (Str×SV)->Prop
 |nil:gq A B [] []
 |cons {f:Str} {v:V} {x:SV} {gs:List (Str×V)} {fs:List (Str×SV)}:ek A B v x->gq A B gs fs->gq A B ((f,v)::gs) ((f,x)::fs)
theorem gq.mono(g:Gro A A')(e:aW B B'):∀{v:List<|Str×V} {x:List<|Str×SV},gq A B v x->gq A' B' v x
 |_,_,.nil=>.nil
 |_,_,.cons a b=>.cons (a.mono g e) (gq.mono g e b)
inductive gW(A:List Addr)(B:Hp):List (Key×V)->List (Key×SV)->Prop
 |nil:gW A B [] []
 |cons {f:Key} {v:V} {x:SV} {gs:List (Key×V)} {fs:List (Key×SV)}:ek A B v x->gW A B gs fs->gW A B ((f,v)::gs) ((f,x)::fs)
theorem gW.mono(g:Gro A A')(e:aW B B'):∀{v:List<|Key×V} {x:List<|Key×SV},gW A B v x->gW A' B' v x
 |_,_,.nil=>.nil
 |_,_,.cons a b=>.cons (a.mono g e) (gW.mono g e b)
theorem gq.look:∀{gs:List<|Str×V} {fs:List<|Str×SV} {x:SV},gq A B gs fs->fs.lookup f=some x->∃v,gs.lookup f=some v/\ek A B v x
 |_,_,x,.nil,h=>by cases h
 |_,_,x,.cons (f:=k) (v:=v) a b,h=>by
  by_cases e:f=k
  .have d:=beq_iff_eq.mpr e
   simp only[List.lookup,d]at h⊢;cases h;exact⟨v,rfl,a⟩
  .have d:=beq_eq_false_iff_ne.mpr e
   simp only[List.lookup,d]at h⊢;exact gq.look b h
theorem gq.Dk:∀{gs:List<|Str×V} {fs:List<|Str×SV},gq A B gs fs->fs.lookup f=none->gs.lookup f=none
 |_,_,.nil,_=>rfl
 |_,_,.cons (f:=k) a b,h=>by
  by_cases e:f=k
  .have d:=beq_iff_eq.mpr e
   simp only[List.lookup,d]at h;cases h
  .have d:=beq_eq_false_iff_ne.mpr e
   simp only[List.lookup,d]at h⊢;exact gq.Dk b h
theorem gq.length:∀{gs:List<|Str×V} {fs:List<|Str×SV},gq A B gs fs->gs.length=fs.length
 |_,_,.nil=>rfl
 |_,_,.cons _ b=>by rw[zeu,zeu,gq.length b]
def AJ(f:Str)(x:SV):List (Str×SV)->List (Str×SV)
 | []=>[(f,x)]
 |(k,y)::r=>if k=f then(k,x)::r else(k,y)::AJ f x r
theorem gq.put(I:ek A B v x):∀{gs:List<|Str×V} {fs:List<|Str×SV},gq A B gs fs->gq A B (BG f v gs) (AJ f x fs)
 |_,_,.nil=>.cons I .nil
 |_,_,.cons (f:=k) (v:=u) (x:=y) (gs:=gs) (fs:=fs) a b=>by
  show gq A B (if k=f then(k,v)::gs else(k,u)::BG f v gs) (if k=f then(k,x)::fs else(k,y)::AJ f x fs)
  by_cases e:k=f
  .rw[if_pos e,if_pos e];exact .cons I b
  .rw[if_neg e,if_neg e];exact .cons a (gq.put I b)
def Mx:HO->Prop
 | .lst _=>True
 | .dK _=>True
 | .ins _ _ _=>True
 | .ext _=>True
 |_=>False
def MxF(o:HO):Prop:=Mx o\/∃ob u,o=.frz ob u
def XG(H:Hp)(a:Addr)(φ:Heap->Prop):Prop:=H a=some (.ext φ)\/∃o,H a=some (.frz o<|.ext φ)
def XG.mono(h:XG H a φ)(k:∀o,H a=some o->H' a=some o):XG H' a φ:=h.elim (λh=>.inl<|k _ h) λ⟨o,h⟩=>.inr ⟨o,k _ h⟩
theorem XH : ¬MxF (.own x):=λz=>by rcases z with z|⟨_,_,z⟩;exact z;cases z
theorem zbv : ¬MxF (.xd fs):=λz=>by rcases z with z|⟨_,_,z⟩;exact z;cases z
inductive jc(A:List Addr)(B H:Hp)(a:Addr):Cl->Prop
 |dat {d:D}:Own B H a d->jc A B H a (.dat d)
 |obj {C dx:Addr} {gs:List (Str×V)} {fs:List (Str×SV)}:H a=some (.ins C dx gs)->H dx=some (.own a)->gq A B gs fs->jc A B H a (.obj C fs)
 |lst {vs:List V} {xs:List SV}:H a=some (.lst vs)->cZ A B vs xs->jc A B H a (.lst xs)
 |dct {G0:List (Key×V)} {es:List (Key×SV)}:H a=some (.dK G0)->gW A B G0 es->jc A B H a (.dct es)
 |exc {c:Str} {n:Option Int} {φ:Heap->Prop}:XG H a φ->(∀h,φ h->excAt a (Zl.cl c) h)->(∀k,n=some k->∃dx,(∀h,φ h->zdU a (Zl.cl c) dx h)/\H dx=some (.xd [("by",.int k)]))->jc A B H a (.exc c n)
theorem jc.mono(h:jc A B H a c)(g:Gro A A')(e:aW B B')(k:∀o,H a=some o->H' a=some o)(I:∀q o,H q=some o->¬MxF o->H' q=some o):jc A' B' H' a c:=by
 cases h with
 |dat h=>exact .dat (h.mono e k)
 |obj h1 h2 h3=>exact .obj (k _ h1) (I _ _ h2 XH) (h3.mono g e)
 |lst h1 h2=>exact .lst (k _ h1) (h2.mono g e)
 |dct h1 h2=>exact .dct (k _ h1) (h2.mono g e)
 |exc h1 h2 h3=>exact .exc (h1.mono k) h2 λn e=>(let⟨dx,p1,p2⟩:=h3 n e;⟨dx,p1,I _ _ p2 zbv⟩)
structure StO(A:List Addr)(B H:Hp)(S:List<|Option Cl):Prop where
 len:A.length=S.length
 nd:A.Nodup
 dis:∀a∈A,B a=none
 mx:∀a∈A,∃o,H a=some o/\MxF o
 cell:∀(k:Nat) (c:Cl) (a:Addr),S[k]?=some (some c)->A[k]?=some a->jc A B H a c
structure FrN where
 B:Hp
 H:Hp
 io:List Addr
 Z:Addr->Prop
structure bp(G:FrN)(A:List Addr)(B H:Hp)(J:St)(s:SS):Prop where
 sub:aW B H
 sB:aW G.B B
 fj:∀q xs,H q=some (.tup xs)->B q=some (.tup xs)
 kept:∀q o,G.H q=some o->q∉G.io->H q=some o
 nB:∀q,G.H q≠none->G.B q=none->B q=none
 pre:Gro G.io A
 fresh:∀a∈A,a∈G.io\/G.H a=none
 st:StO A B H s.S
 len:s.t.length=J.length
 slot:∀(i:Nat) (x:SV),s.t[i]?=some (some x)->∃v,J[i]?=some (some v)/\ek A B v x
 nz:∀q o u,H q=some (.frz o u)->G.Z q
section
variable{G:FrN}{A A':List Addr}{B H B' H':Hp}{J:St}{s:SS}
theorem StO.mono(O:StO A B H s.S)(eB:aW B B')(eH:aW H H')(nb:∀q,H q≠none->B q=none->B' q=none):StO A B' H' s.S where
 len:=O.len
 nd:=O.nd
 dis:=λa ha=>by obtain⟨o,h,_⟩:=O.mx a ha;exact nb a (by rw[h];simp) (O.dis a ha)
 mx:=λa ha=>by obtain⟨o,h,m⟩:=O.mx a ha;exact⟨o,eH _ _ h,m⟩
 cell:=λk c a h1 h2=>(O.cell k c a h1 h2).mono 9018 eB (λo h=>eH _ _ h) λq o h _=>eH _ _ h
theorem bp.grow(R:bp G A B H J s)(eB:aW B B')(eH:aW H H')(sub:aW B' H')(nb:∀q,H q≠none->B q=none->B' q=none)(tB:∀q xs,H' q=some (.tup xs)->B' q=some (.tup xs))(nz:∀q o u,H' q=some (.frz o u)->G.Z q):bp G A B' H' J s where
 sub:=sub
 sB:=R.sB.trans eB
 fj:=tB
 kept:=λq o h n=>eH _ _ (R.kept q o h n)
 nB:=λq h z=>by
  have b:=R.nB q h z
  by_cases a:H q=none
  .by_cases hi:q∈G.io
   .obtain⟨k,hk⟩:=List.mem_iff_getElem?.mp hi
    obtain⟨o,h2,_⟩:=R.st.mx q (zeh<|R.pre k q hk);rw[a]at h2;cases h2
   .cases h3:G.H q with
    |none=>exact absurd h3 h
    |some o=>rw[R.kept q o h3 hi]at a;cases a
  .exact nb q a b
 pre:=R.pre
 fresh:=R.fresh
 st:=R.st.mono eB eH nb
 len:=R.len
 slot:=λi x h=>by obtain⟨v,h1,h2⟩:=R.slot i x h;exact⟨v,h1,h2.mono 9018 eB⟩
 nz:=nz
theorem bp.Bh(R:bp G A B H J s)(h:H p=none):G.H p=none/\p∉A/\B p=none:=by
 have a:p∉A:=λz=>by obtain⟨o,h2,_⟩:=R.st.mx p z;rw[h]at h2;cases h2
 refine⟨?_,a,?_⟩
 .cases h3:G.H p with
  |none=>rfl
  |some o=>
   have:p∉G.io:=λz=>by
    obtain⟨k,hk⟩:=List.mem_iff_getElem?.mp z;exact a (zeh<|R.pre k p hk)
   rw[R.kept p o h3 this]at h;cases h
 .cases h3:B p with
  |none=>rfl
  |some o=>rw[R.sub p o h3]at h;cases h
theorem bp.write(R:bp G A B H J s)(hk:A[k]?=some a)(I:Mx o)(ok:jc A B (upd H a o) a c):bp G A B (upd H a o) J ⟨s.S.set k<|some c,s.t⟩:=by
 have ha:=zeh hk;have i:=R.st.dis a ha;obtain⟨o0,h0,p⟩:=R.st.mx a ha;have m:=(zea hk).1;refine⟨λq u h=>?_,R.sB,λq xs h=>?_,λq u h n=>?_,R.nB,R.pre,R.fresh,⟨?_,R.st.nd,R.st.dis,λb l=>?_,λj d b h1 h2=>?_⟩,R.len,R.slot,λq u w h=>?_⟩
 .rw[av λz=>by rw[z,i]at h;cases h];exact R.sub q u h
 .by_cases z:q=a
  .subst z;rw[aw]at h;cases h;cases I
  .rw[av z]at h;exact R.fj q xs h
 .have z:q≠a:=λz=>by
   subst z;rcases R.fresh q ha with g|g
   .exact n g
   .rw[g]at h;cases h
  rw[av z];exact R.kept q u h n
 .show A.length=(s.S.set k<|some c).length
  rw[zeL];exact R.st.len
 .by_cases z:b=a
  .subst z;exact⟨o,aw,.inl I⟩
  .rw[av z];exact R.st.mx b l
 .have f:=h1
  by_cases z:j=k
  .subst z
   rw[hk]at h2;cases h2
   rw[zet (by rw[<-R.st.len];exact m)]at f
   cases f;exact ok
  .rw[zez λe=>z e.symm]at f
   have nb:b≠a:=λe=>by
    subst e;exact z ((List.getElem?_inj (zea h2).1 R.st.nd).mp<|h2.trans hk.symm)
   refine(R.st.cell j d b f h2).mono 9018 (aW.refl _) (λu h=>by rw[av nb];exact h) λq o h hm=>?_
   rw[av λe=>by subst e;rw[h0]at h;cases h;exact hm p];exact h
 .by_cases z:q=a
  .subst z;rw[aw]at h;cases h;cases I
  .rw[av z]at h;exact R.nz q u w h
theorem bp.take(R:bp G A B H J s)(M:G.H p=none)(I:p∉A)(ρ:B p=none)(O:H p=some o)(U:Mx o)(ok:jc (A++[p]) B H p c):bp G (A++[p]) B H J ⟨s.S++[some c],s.t⟩:=by
 refine⟨R.sub,R.sB,R.fj,R.kept,R.nB,R.pre.trans<|Gro.app _ _,λb f=>?_,⟨?_,?_,λb f=>?_,λb f=>?_,λj d b h1 h2=>?_⟩,R.len,λi x h=>?_,R.nz⟩
 .rcases zec f with h|h
  .exact R.fresh b h
  .simp only[List.mem_singleton]at h;subst h;exact .inr M
 .show(A++[p]).length=(s.S++[some c]).length
  rw[zes,zes,R.st.len];rfl
 .rw[List.nodup_append]
  refine⟨R.st.nd,by simp,λx hx y hy=>?_⟩
  simp only[List.mem_singleton]at hy;subst hy
  exact λz=>I (z▸hx)
 .rcases zec f with h|h
  .exact R.st.dis b h
  .simp only[List.mem_singleton]at h;subst h;exact ρ
 .rcases zec f with h|h
  .exact R.st.mx b h
  .simp only[List.mem_singleton]at h;subst h;exact⟨o,O,.inl U⟩
 .have a:=h1
  by_cases z:j<s.S.length
  .rw[zew z]at a
   rw[zew (by rw[R.st.len];exact z)]at h2
   exact(R.st.cell j d b a h2).mono 9102 (aW.refl _) (λ_ h=>h) λ_ _ h _=>h
  .rw[zeM<|ze9 z]at a
   rw[zeM (by rw[R.st.len];exact ze9 z),R.st.len]at h2
   cases hz:j-s.S.length with
   |zero=>
    rw[hz]at a h2;simp at a h2;subst a h2;exact ok
   |succ n=>rw[hz]at a;simp at a
 .obtain⟨v,h1,h2⟩:=R.slot i x h
  exact⟨v,h1,h2.mono 9102<|aW.refl _⟩
theorem bp.NR(R:bp G A B H J s)(I:H p=none):bp G A 9105 (upd H p<|.tup xs) J s/\aW B 9105:=by
 obtain⟨_,_,a⟩:=R.Bh I;have eB:aW B 9105:=λq u h=>by rw[av λz=>by rw[z,a]at h;cases h];exact h
 refine⟨R.grow eB (λq u h=>by rw[av λz=>by rw[z,I]at h;cases h];exact h) (λq u h=>?_) (λq h z=>?_) (λq b h=>?_) λq u w h=>?_,eB⟩
 fail "qj"
 .rw[av λe=>by rw[e]at h;exact h I];exact z
 .by_cases z:q=p
  .subst z;rw[aw]at h⊢;exact h
  .rw[av z]at h⊢;exact R.fj q b h
 .by_cases z:q=p
  .subst z;rw[aw]at h;cases h
  .rw[av z]at h;exact R.nz q u w h
theorem bp.set(R:bp G A B H J s)(h:i<s.t.length)(I:ek A B v x):bp G A B H 9104 ⟨s.S,s.t.set i<|some x⟩:=by
 refine⟨R.sub,R.sB,R.fj,R.kept,R.nB,R.pre,R.fresh,R.st,?_,λj y n=>?_,R.nz⟩
 .show(s.t.set i<|some x).length=_
  rw[zeL,zeL];exact R.len
 .have f:=n
  by_cases z:j=i
  .subst z
   rw[zet h]at f;cases f;exact⟨v,zet<|R.len▸h,I⟩
  .rw[zez λe=>z e.symm]at f
   rw[zez λe=>z e.symm]
   exact R.slot j y f
mutual
def blV(n:Nat):SV->Bool
 | .pl _=>true
 | .lc k=>decide (k<n)
 | .tp xs=>B8 n xs
def B8(n:Nat):List SV->Bool
 | []=>true
 |x::xs=>blV n x&&B8 n xs
end
theorem LG(h:A[k]?=some a)(hk:k<n):(A.take n)[k]?=some a:=by rw[List.getElem?_take,if_pos hk];exact h
mutual
theorem ek.take(n:Nat):∀{v:V} {x:SV},ek A B v x->blV n x=true->ek (A.take n) B v x
 |_,_,.pl r,_=>.pl r
 |_,_,.lc h,e=>.lc (LG h (by simpa[blV]using e))
 |_,_,.tp h r,e=>.tp h (cZ.take n r (by simpa[blV]using e))
theorem cZ.take(n:Nat):∀{v:List V} {x:List SV},cZ A B v x->B8 n x=true->cZ (A.take n) B v x
 |_,_,.nil,_=>.nil
 |_,_,.cons a b,e=>by
  simp only[B8,Bool.and_eq_true]at e;exact .cons (ek.take n a e.1) (cZ.take n b e.2)
end
def yr{α:Type}(n:Nat):List (α×SV)->Bool
 | []=>true
 |x::xs=>blV n x.2&&yr n xs
theorem gq.take(n:Nat):∀{v:List<|Str×V} {x:List<|Str×SV},gq A B v x->yr n x=true->gq (A.take n) B v x
 |_,_,.nil,_=>.nil
 |_,_,.cons a b,e=>by
  simp only[yr,Bool.and_eq_true]at e;exact .cons (a.take n e.1) (gq.take n b e.2)
theorem gW.take(n:Nat):∀{v:List<|Key×V} {x:List<|Key×SV},gW A B v x->yr n x=true->gW (A.take n) B v x
 |_,_,.nil,_=>.nil
 |_,_,.cons a b,e=>by
  simp only[yr,Bool.and_eq_true]at e;exact .cons (a.take n e.1) (gW.take n b e.2)
def blC(n:Nat):Cl->Bool
 | .dat _=>true
 | .obj _ fs=>yr n fs
 | .lst xs=>B8 n xs
 | .dct es=>yr n es
 | .exc _ _=>true
theorem jc.take(n:Nat)(h:jc A B H a c)(e:blC n c=true):jc (A.take n) B H a c:=by
 cases h with
 |dat h=>exact .dat h
 |obj h1 h2 h3=>exact .obj h1 h2 (h3.take n e)
 |lst h1 h2=>exact .lst h1 (h2.take n e)
 |dct h1 h2=>exact .dct h1 (h2.take n e)
 |exc h1 h2 h3=>exact .exc h1 h2 h3
def gcC(n:Nat)(c:Option Cl):Option Cl:=match c with
 |some c=>if blC n c=true then some c else none
 |none=>none
def gcV(n:Nat)(x:Option SV):Option SV:=match x with
 |some x=>if blV n x=true then some x else none
 |none=>none
def gcS(n:Nat)(S:List<|Option Cl):List (Option Cl):=(S.take n).map (gcC n)
def gcT(n:Nat)(t:List<|Option SV):List (Option SV):=t.map (gcV n)
def gc(n:Nat)(s:SS):SS:=⟨gcS n s.S,gcT n s.t⟩
theorem zbw(h:gcC n c=some d):c=some d/\blC n d=true:=by
 cases c with
 |none=>cases h
 |some c=>
  simp only[gcC]at h;split at h
  .rename_i e;cases h;exact⟨rfl,e⟩
  .cases h
theorem zbx(h:gcV n c=some d):c=some d/\blV n d=true:=by
 cases c with
 |none=>cases h
 |some c=>
  simp only[gcV]at h;split at h
  .rename_i e;cases h;exact⟨rfl,e⟩
  .cases h
theorem StO.gc(O:StO A B H S)(n:Nat):StO (A.take n) B H (gcS n S):=by
 refine⟨?_,O.nd.sublist<|List.take_sublist _ _,λa ha=>O.dis a<|List.mem_of_mem_take ha,λa ha=>O.mx a<|List.mem_of_mem_take ha,λk c a h1 h2=>?_⟩
 .unfold gcS;rw[zej,List.length_take,List.length_take,O.len]
 .unfold gcS at h1
  rw[zem]at h1;obtain⟨e,h3,h4⟩:=zd9 h1;obtain⟨rfl,b⟩:=zbw h4;rw[List.getElem?_take]at h3 h2;split at h2
  .rename_i hk
   rw[if_pos hk]at h3;exact(O.cell k c a h3 h2).take n b
  .cases h2
theorem bp.gc(R:bp G A B H J s)(hn:G.io.length<=n):bp G (A.take n) B H J (gc n s):=by
 refine⟨R.sub,R.sB,R.fj,R.kept,R.nB,λk a h=>?_,λa ha=>R.fresh a<|List.mem_of_mem_take ha,R.st.gc n,?_,λi x h=>?_,R.nz⟩
 .exact LG (R.pre k a h) (zeE (zea h).1 hn)
 .show(gcT n s.t).length=_
  unfold gcT;rw[zej];exact R.len
 .have h':(gcT n s.t)[i]?=some (some x):=h
  unfold gcT at h';rw[zem]at h';obtain⟨f,h3,h4⟩:=zd9 h';obtain⟨rfl,b⟩:=zbx h4;obtain⟨v,c,e⟩:=R.slot i x h3;exact⟨v,c,e.take n b⟩
def fh(n:Nat)(S:List<|Option Cl):Bool:=(S.take n).all λc=>match c with
 |some c=>blC n c
 |none=>true
def Uz(n:Nat)(t:List<|Option SV)(i:Nat):Bool:=match t[i]? with
 |some (some x)=>blV n x
 |_=>true
def gcE(n:Nat)(kp:List Nat)(s:SS):SS:=if(fh n s.S&&kp.all (Uz n s.t))=true then gc n s else s
theorem bp.gcE(R:bp G A B H J s)(hn:G.io.length<=n):∃A',bp G A' B H J (gcE n kp s):=by
 unfold Mir.gcE;split
 .exact⟨_,R.gc hn⟩
 .exact⟨_,R⟩
end
mutual
def rdV(S:List<|Option Cl):SV->Option D
 | .pl d=>some d
 | .lc k=>match S[k]? with
  |some (some (.dat d))=>some d
  |_=>none
 | .tp xs=>(JM S xs).map .tuple
def JM(S:List<|Option Cl):List SV->Option (List D)
 | []=>some []
 |x::xs=>(rdV S x).bind λd=>(JM S xs).map λds=>d::ds
end
section
variable{G:FrN}{A:List Addr}{B H:Hp}{J:St}{s:SS}
mutual
theorem wc(O:StO A B H s.S)(sub:aW B H):∀{v:V} {x:SV} {d:D},ek A B v x->rdV s.S x=some d->Rep H v d
 |_,_,d,.pl r,e=>by
  simp only[rdV]at e;cases e;exact r.mono sub
 |_,_,d,.lc (k:=k) h,e=>by
  simp only[rdV]at e;split at e
  .rename_i f b
   cases e;cases O.cell k _ _ b h with
   |dat o=>exact o.rep sub
  .cases e
 |_,_,d,.tp h r,e=>by
  simp only[rdV]at e;obtain⟨ds,a,rfl⟩:=zd9 e;exact .tup (sub _ _ h) (yt O sub r a)
theorem yt(O:StO A B H s.S)(sub:aW B H):∀{v:List V} {x:List SV} {d:List D},cZ A B v x->JM s.S x=some d->aZ H v d
 |_,_,d,.nil,e=>by
  simp only[JM]at e;cases e;exact .nil
 |_,_,d,.cons a b,e=>by
  simp only[JM]at e;obtain⟨c,f,e⟩:=zd8 e;obtain⟨ds,g,rfl⟩:=zd9 e;exact .cons (wc O sub a f) (yt O sub b g)
end
def Rz(S:List<|Option Cl):Option SV->Sl
 |none=>.no
 |some x=>match rdV S x with
  |some d=>.fz d
  |none=>.no
def vw(s:SS):Rho:=s.t.map (Rz s.S)
def slC:Option SV->Sl
 |some (.pl d)=>.fz d
 |_=>.no
def vwC(s:SS):Rho:=s.t.map slC
theorem RA(S:List<|Option Cl)(y:Option SV):Rz S y=.no\/∃d x,Rz S y=.fz d/\y=some x/\rdV S x=some d:=by
 cases y with
 |none=>exact .inl rfl
 |some x=>
  cases h:rdV S x with
  |none=>exact .inl (by simp only[Rz,h])
  |some d=>exact .inr ⟨d,x,by simp only[Rz,h],rfl,h⟩
theorem UA(y:Option SV):slC y=.no\/∃d,slC y=.fz d/\y=some (.pl d):=by
 cases y with
 |none=>exact .inl rfl
 |some x=>cases x with
  |pl d=>exact .inr ⟨d,rfl,rfl⟩
  |lc _=>exact .inl rfl
  |tp _=>exact .inl rfl
theorem Ol{i:Nat}(h:(vw s)[i]?=some x):x=.no\/∃d y,x=.fz d/\s.t[i]?=some (some y)/\rdV s.S y=some d:=by
 unfold vw at h;rw[zem]at h;obtain⟨y,h1,rfl⟩:=zd9 h;rcases RA s.S y with e|⟨d,z,e,rfl,a⟩
 .exact .inl e
 .exact .inr ⟨d,z,e,h1,a⟩
theorem JN{i:Nat}(h:(vwC s)[i]?=some x):x=.no\/∃d,x=.fz d/\s.t[i]?=some (some<|.pl d):=by
 unfold vwC at h;rw[zem]at h;obtain⟨y,h1,rfl⟩:=zd9 h;rcases UA y with e|⟨d,e,rfl⟩
 .exact .inl e
 .exact .inr ⟨d,e,h1⟩
theorem bp.opn(R:bp G A B H J s):Rel ⟨H,H,[],G.Z⟩ H H J (vw s):=by
 have a:∀(i:Nat) (x:Sl),(vw s)[i]?=some x->x.isRef=true->False:=λi x h e=>by
  rcases Ol h with rfl|⟨d,y,rfl,_⟩<;>cases e
 refine⟨aW.refl _,aW.refl _,λ_ _ h _=>h,λ_ h z=>absurd z h,?_,λi x h=>?_,λi j x t p h1 h2=>(a i x h1<|Sl.Jv h2).elim,λi d p h=>(a i _ h rfl).elim,(λx hx=>by cases hx),λi d h=>(a i _ h rfl).elim,λ_ _ h=>h,λi h=>?_,R.nz⟩
 .unfold vw;rw[zej];exact R.len
 .rcases Ol h with rfl|⟨d,y,rfl,h1,h2⟩
  .trivial
  .obtain⟨v,h3,h4⟩:=R.slot i y h1
   exact⟨v,h3,wc R.st R.sub h4 h2⟩
 .rcases Ol h with z|⟨d,y,z,_⟩<;>cases z
theorem bp.cls(R:bp G A B H J s):Rel ⟨B,H,[],G.Z⟩ B H J (vwC s):=by
 have a:∀(i:Nat) (x:Sl),(vwC s)[i]?=some x->x.isRef=true->False:=λi x h e=>by
  rcases JN h with rfl|⟨d,rfl,_⟩<;>cases e
 refine⟨R.sub,aW.refl _,λ_ _ h _=>h,λ_ _ z=>z,?_,λi x h=>?_,λi j x t p h1 h2=>(a i x h1<|Sl.Jv h2).elim,λi d p h=>(a i _ h rfl).elim,(λx hx=>by cases hx),λi d h=>(a i _ h rfl).elim,R.fj,λi h=>?_,R.nz⟩
 .unfold vwC;rw[zej];exact R.len
 .rcases JN h with rfl|⟨d,rfl,h1⟩
  .trivial
  .obtain⟨v,h3,h4⟩:=R.slot i _ h1
   cases h4 with
   |pl r=>exact⟨v,h3,r⟩
 .rcases JN h with z|⟨d,z,_⟩<;>cases z
def tbu(B H:Hp):Hp:=λq=>match B q with
 |some o=>some o
 |none=>match H q with
  |some (.tup xs)=>some (.tup xs)
  |_=>none
theorem yw:aW B (tbu B H):=λq o h=>by unfold tbu;rw[h]
theorem Fg(sub:aW B H)(h:H q=some (.tup xs)):tbu B H q=some (.tup xs):=by
 unfold tbu;cases a:B q with
 |none=>rw[h]
 |some o=>
  have:=sub q o a;rw[h]at this;exact this.symm
theorem Bi(h:tbu B H q=some o):B q=some o\/(B q=none/\∃xs,o=.tup xs/\H q=some (.tup xs)):=by
 unfold tbu at h;cases a:B q with
 |some o'=>rw[a]at h;exact .inl h
 |none=>
  rw[a]at h;refine .inr ⟨rfl,?_⟩;dsimp only at h;split at h
  .rename_i xs hx;cases h;exact⟨xs,rfl,hx⟩
  .cases h
theorem bp.back(R:bp G A B H J s)(ρ:Rel ⟨H,H,[],G.Z⟩ M I J L):bp G A (tbu B I) I J s/\aW B (tbu B I)/\aW H I/\∀q xs,M q=some (.tup xs)->tbu B I q=some (.tup xs):=by
 have eH:=λq o h=>ρ.sH q o h λx hx=>by cases hx
 have a:=R.sub.trans eH;refine⟨R.grow yw eH (λq o h=>?_) (λq h z=>?_) (λq xs h=>Fg a h) ρ.nz,yw,eH,λq xs h=>Fg a<|ρ.sub _ _ h⟩
 .rcases Bi h with h|⟨_,xs,rfl,h'⟩
  .exact a q o h
  .exact h'
 .cases h2:tbu B I q with
  |none=>rfl
  |some o=>
   rcases Bi h2 with h3|⟨_,xs,rfl,h3⟩
   .rw[z]at h3;cases h3
   .cases h4:H q with
    |none=>exact absurd h4 h
    |some u=>
     have:=eH q u h4;rw[h3]at this;cases this;rw[R.fj q xs h4]at z;cases z
theorem bp.zcQ(R:bp G A B H J s)(I:Rel ⟨B,H,[],G.Z⟩ ρ M J L):bp G A ρ M J s/\aW B ρ/\aW H M:=by
 have eH:=λq o h=>I.sH q o h λx hx=>by cases hx
 exact⟨R.grow I.sB eH I.sub (λq h z=>I.nB q h z) I.fj I.nz,I.sB,eH⟩
end
theorem Own.gv(k:∀q xs,B q=some (.tup xs)->B' q=some (.tup xs))(h:Own B H p d)(e:mX d true=true):Own B' H p d:=by
 cases h with
 |lst h r=>exact .lst h (r.gv k e)
 |dct h r=>exact .dct h (r.gv k e)
theorem Own.mx(h:Own B H p d):∃o,H p=some o/\Mx o:=by
 cases h with
 |lst h r=>exact⟨_,h,trivial⟩
 |dct h r=>exact⟨_,h,trivial⟩
structure Xc where
 c:Str
 by_:Option Int
inductive RR(α:Type) where
 |ok (v : α) (s:SS)|er (x:Xc) (s:SS)
abbrev MN(α:Type):=SS->Option (RR α)
abbrev EN:=MN SV
def bN{α I:Type}(m:MN α)(k : α->MN I):MN I:=λs=>match m s with
 |some (.ok v s')=>k v s'
 |some (.er x s')=>some (.er x s')
 |none=>none
abbrev WX:=Xc->St->Hp->Prop
abbrev RL(I α:Type):=List Addr->Hp->I->α->Prop
def ROk{α I:Type}(G:FrN)(A:List Addr)(B:Hp)(J:St)(W:WX)(M:RL I α)(Q : I->Hp->Prop):RR α->Prop
 | .ok v s'=>∀x A' B' H',Gro A A'->aW B B'->bp G A' B' H' J s'->M A' B' x v->Q x H'
 | .er y s'=>∀A' B' H',bp G A' B' H' J s'->W y J H'
def NM{α I:Type}(W:WX)(M:RL I α)(t:St->Hp->(I->Hp->Prop)->Prop)(m:MN α):Prop :=
 ∀(G:FrN) (A:List Addr) (B H:Hp) (J:St) (s:SS) (r:RR α) (Q : I->Hp->Prop),bp G A B H J s->m s=some r->ROk G A B J W M Q r->t J H Q
abbrev NE(W:WX)(t:TE)(m:EN):Prop:=NM W ek t m
abbrev NT(W:WX)(t:TT)(m:MN Bool):Prop:=NM W (λ_ _ (b c:Bool)=>b=c) t m
abbrev NA(W:WX)(t:TA)(m:MN<|List SV):Prop:=NM W cZ t m
section
variable{W:WX}{G:FrN}{A:List Addr}{B H:Hp}{J:St}{s:SS}
theorem ROk.up(q:ROk G A B J W M Q r)(g:Gro A I)(e:aW B ρ):ROk G I ρ J W M Q r:=by
 cases r with
 |ok v s'=>exact λx A' B' H' b a=>q x A' B' H' (g.trans b) (e.trans a)
 |er y s'=>exact q
theorem gr(h:NM W ρ t m)(R:bp G A B H J s)(e:bN m k s=some r)(q:ROk G A B J W I Q r)
  (c:∀x v A' B' H' s',Gro A A'->aW B B'->bp G A' B' H' J s'->ρ A' B' x v->k v s'=some r->ROk G A' B' J W I Q r->C x H'):t J H C:=by
 unfold bN at e;split at e
 .rename_i v s' h1
  exact h G A B H J s _ C R h1 λx A' B' H' g eB a V=>c x v A' B' H' s' g eB a V e (q.up g eB)
 .rename_i y s' h1
  cases e;exact h G A B H J s _ C R h1 q
 .cases e
end
def rdC(S:List<|Option Cl):SV->Option D
 | .pl d=>some d
 | .lc k=>match S[k]? with
  |some (some (.dat d))=>some d
  |_=>none
 | .tp _=>none
def F8(S:List<|Option Cl):List SV->Option (List D)
 | []=>some []
 |x::xs=>(rdC S x).bind λd=>(F8 S xs).map λds=>d::ds
section
variable{W:WX}{G:FrN}{A:List Addr}{B H:Hp}{J:St}{s:SS}
theorem F9(O:StO A B H S)(h:ek A B v x)(e:rdC S x=some d):View B H v d:=by
 cases h with
 |pl r=>cases e;exact .inl r
 |lc h=>
  simp only[rdC]at e;split at e
  .rename_i b a
   cases e;cases O.cell _ _ _ a h with
   |dat o=>exact .inr ⟨_,rfl,o⟩
  .cases e
 |tp _ _=>cases e
theorem Ga(O:StO A B H S):∀{vs:List V} {xs:List SV} {ds:List D},cZ A B vs xs->F8 S xs=some ds->Views B H vs ds
 |_,_,ds,.nil,e=>by
  cases e;trivial
 |_,_,ds,.cons a b,e=>by
  obtain⟨c,d,e⟩:=zd8 e;obtain⟨g,f,rfl⟩:=zd9 e;exact⟨F9 O a d,Ga O b f⟩
theorem LH:∀{vs:List V} {ds:List D},aZ H vs ds->Views H H vs ds
 |_,_,.nil=>trivial
 |_,_,.cons a b=>⟨.inl a,LH b⟩
def newD(d:D)(s:SS):RR SV:=.ok (.lc s.S.length) ⟨s.S++[some<|.dat d],s.t⟩
theorem yx{o:HO}{Q:VK}(R:bp G A B H J s)(ρ:H p=none)(I:Mx o)(ok:∀H',H' p=some o->Own B H' p d)(q:ROk G A B J W ek Q<|newD d s):Q (.ref p) (upd H p o):=by
 obtain⟨b,e,f⟩:=R.Bh ρ;have eH:aW H (upd H p o):=λq u h=>by rw[av λz=>by rw[z,ρ]at h;cases h];exact h
 have R2:=R.grow (aW.refl _) eH (R.sub.trans eH) (λ_ _ z=>z) (λq xs h=>by
  fail "ql"
  .rw[av z]at h;exact R.fj q xs h) λq u w h=>by
  fail "ql"
  .rw[av z]at h;exact R.nz q u w h
 have a:=R2.take b e f aw I (.dat<|ok _ aw);exact q _ _ _ _ 9102 (aW.refl _) a (.lc (by rw[<-R.st.len];exact List.getElem?_concat_length))
theorem PQ{vs:List V}{Q:VK}(R:bp G A B H J s)(I:H p=none)(ρ:aZ B vs ds)(q:ROk G A B J W ek Q<|.ok (.pl<|.tuple ds) s):Q (.ref p) (upd H p<|.tup vs):=by
 obtain⟨R2,eB⟩:=R.NR I;exact q _ A _ _ 9018 eB R2 (.pl<|.tup aw<|ρ.mono eB)
def UB(w:D×Bool)(s:SS):Option (RR SV):=match w with
 |(d,false)=>some 9089
 |(.tuple ds,true)=>some (.ok (.pl<|.tuple ds) s)
 |(d,true)=>some (newD d s)
theorem LI{r:RR SV}{Q:VK}(R:bp G A B H J s)(h:yk B H w k)(e:UB w s=some r)(q:ROk G A B J W ek Q r):k Q:=by
 obtain⟨d,b⟩:=w;cases b with
 |false=>
  cases e;obtain⟨v,a,hk⟩:=h;exact hk Q (q v A B H 9018 (aW.refl _) R<|.pl a)
 |true=>
  cases d with
  |list ds=>
   cases e;obtain⟨vs,a,hk⟩:=h;exact hk Q λp c=>yx R c trivial (λH' h'=>.lst h' a) q
  |dict es=>
   cases e;obtain⟨G0,a,hk⟩:=h;exact hk Q λp c=>yx R c trivial (λH' h'=>.dct h' a) q
  |tuple ds=>
   cases e;obtain⟨vs,a,hk⟩:=h;exact hk Q λp c=>PQ R c a q
  |none=>exact h.elim
  |bool _=>exact h.elim
  |int _=>exact h.elim
  |str _=>exact h.elim
def EA(w:D×Bool)(s:SS):Option (RR SV):=match w with
 |(d,false)=>if pf d=true then some 9089 else none
 |(.tuple ds,true)=>if ej ds=true then some (.ok (.pl<|.tuple ds) s)else none
 |(d,true)=>if mX d true=true then some (newD d s)else none
theorem Gb{r:RR SV}{Q:VK}(R:bp G A B H J s)(h:yk H H w k)(e:EA w s=some r)(q:ROk G A B J W ek Q r):k Q:=by
 obtain⟨d,b⟩:=w;cases b with
 |false=>
  simp only[EA]at e;split at e
  .rename_i c
   cases e;obtain⟨v,f,hk⟩:=h;exact hk Q (q v A B H 9018 (aW.refl _) R<|.pl<|f.gv R.fj c)
  .cases e
 |true=>
  cases d with
  |list ds=>
   simp only[EA]at e;split at e
   .rename_i a
    cases e;obtain⟨vs,f,hk⟩:=h;exact hk Q λp c=>yx R c trivial (λH' h'=>.lst h'<|f.gv R.fj a) q
   .cases e
  |dict es=>
   simp only[EA]at e;split at e
   .rename_i a
    cases e;obtain⟨G0,f,hk⟩:=h;exact hk Q λp c=>yx R c trivial (λH' h'=>.dct h'<|f.gv R.fj a) q
   .cases e
  |tuple ds=>
   simp only[EA]at e;split at e
   .rename_i a
    cases e;obtain⟨vs,f,hk⟩:=h;exact hk Q λp c=>PQ R c (f.gv R.fj a) q
   .cases e
  |none=>exact h.elim
  |bool _=>exact h.elim
  |int _=>exact h.elim
  |str _=>exact h.elim
end
section
variable{W:WX}
def nO(m:PM):EN:=λs=>(m<|vw s).bind λx=>match x.1 with
 |(d,.fz)=>if pf d=true then some 9089 else none
 |(d,.new)=>if mX d true=true then some (newD d s)else none
 |_=>none
theorem zdV(h:ME t m):NE W t (nO m):=by
 intro G A B H J s r Q R e q;obtain⟨x,C,e⟩:=zd8 e;refine h _ H H J (vw s) x.1 x.2 _ R.opn C λv S b T w l V=>?_
 obtain⟨R2,eB,eH,n⟩:=R.back w;obtain⟨⟨d,k⟩,P⟩:=x;cases k with
 |fz=>
  dsimp only at e;split at e
  .rename_i i
   cases e;have c:=l;exact q v A _ b 9018 eB R2 (.pl<|c.gv n i)
  .cases e
 |new=>
  dsimp only at e;split at e
  .rename_i i
   cases e;obtain⟨p,rfl,X,σ,u,_⟩:=l;have g:=σ;obtain⟨D,E,F⟩:=R.Bh g;have a:=u.gv n i;obtain⟨o,K,N⟩:=a.mx;have f:tbu B b p=none:=by
    cases h2:tbu B b p with
    |none=>rfl
    |some o'=>
     rcases Bi h2 with h3|⟨_,xs,rfl,h3⟩
     .rw[F]at h3;cases h3
     .exact absurd h3 (u.TU xs)
   have y:=R2.take D E f K N (.dat a);refine q _ _ _ b 9102 eB y (.lc ?_);rw[<-R.st.len];exact List.getElem?_concat_length
  .cases e
 |ro=>cases e
 | «at» j=>cases e
def nC(m:PM):EN:=λs=>(m<|vwC s).bind λx=>match x.1 with
 |(d,.fz)=>some 9089
 |(d,.new)=>some (newD d s)
 |_=>none
def nTo(m:Rho->Option (Bool×Rho)):MN Bool:=λs=>(m<|vw s).map λx=>.ok x.1 s
theorem zdW(h:MT t m):NT W t (nTo m):=by
 intro G A B H J s r Q R e q;obtain⟨x,c,e⟩:=zd9 e;cases e;refine h _ H H J (vw s) x.1 x.2 _ R.opn c λd a f b=>?_
 obtain⟨R2,eB,eH,g⟩:=R.back b;exact q _ A _ a 9018 eB R2 rfl
def aq(i:Nat):EN:=λs=>match s.t[i]? with
 |some (some x)=>some (.ok x s)
 |_=>none
theorem we:NE W (Hm i) (aq i):=by
 intro G A B H J s r Q R e q;unfold aq at e;split at e
 .rename_i x hx
  cases e;obtain⟨v,h1,h2⟩:=R.slot i _ hx;exact⟨v,h1,q v A B H 9018 (aW.refl _) R h2⟩
 .cases e
def nLit(d:D):EN:=λs=>some 9089
theorem Dm(h:∀B,Rep B v d):NE W (tC v) (nLit d):=by
 intro G A B H J s r Q R e q;cases e;exact q v A B H 9018 (aW.refl _) R (.pl<|h B)
def nOp(g:D->D->Option (D×Bool))(a b:EN):EN:=bN a λx=>bN b λy s=>match rdC s.S x,rdC s.S y with
 |some c,some d=>(g c d).bind λw=>UB w s
 |_,_=>(rdV s.S x).bind λc=>(rdV s.S y).bind λd=>(g c d).bind λw=>EA w s
theorem IG(σ:OpJ r g)(ha:NE W I a)(ρ:NE W M b):NE W (tOp r I M) (nOp g a b):=by
 fail "q1"
 refine gr ρ j i l λy u X P k s2 T C R2 E f K=>?_
 have h:=o.mono T C;split at f
 .rename_i c d h1 h2
  obtain⟨w,m,p⟩:=zd8 f;exact LI R2 (σ P k x y c d w R2.sub (F9 R2.st h h1) (F9 R2.st E h2) m) p K
 .obtain⟨c,h1,f⟩:=zd8 f
  obtain⟨d,h2,f⟩:=zd8 f;obtain⟨w,m,p⟩:=zd8 f;exact Gb R2 (σ k k x y c d w (aW.refl _) (.inl<|wc R2.st R2.sub h h1) (.inl<|wc R2.st R2.sub E h2) m) p K
def ph(a:EN):MN Bool:=bN a λx s=>match x with
 | .pl (.bool b)=>some (.ok b s)
 |_=>none
theorem JO(ha:NE W I a):NT W (Ie I) (ph a):=by
 fail "q1"
 split at i
 .cases i
  cases o with
  |pl r=>cases r;exact⟨_,rfl,l _ D F N 9018 (aW.refl _) j rfl⟩
 .cases i
def zcR(ha:NE W I a):NT W (tB I) (ph a):=JO ha
def okB(b:Bool):MN Bool:=λs=>some (.ok b s)
theorem PR(R:bp G A B H J s)(e:okB b s=some r)(q:ROk G A B J W (λ_ _ (b c:Bool)=>b=c) Q r):Q b H:=by
 cases e;exact q b A B H 9018 (aW.refl _) R rfl
def okD(d:D):EN:=λs=>some 9089
theorem XI{B H:Hp}{J:St}{s:SS}{d:D}{v:V}{r:RR SV}{Q:VK}(R:bp G A B H J s)(e:okD d s=some r)(I:Rep B v d)(q:ROk G A B J W ek Q r):Q v H:=by
 cases e;exact q v A B H 9018 (aW.refl _) R (.pl I)
def nOr(a b:MN Bool):MN Bool:=bN a λx=>if x=true then okB true else b
theorem zcS(ha:NT W I a)(ρ:NT W M b):NT W (tOr I M) (nOr a b):=by
 fail "q1"
 subst o
 by_cases h:x=true
 .rw[if_pos h]at i⊢;exact PR j i l
 .rw[if_neg h]at i⊢;exact ρ G D F N J s1 V Q j i l
def Oo(a:MN Bool):MN Bool:=bN a λx=>okB (!x)
theorem zby(ha:NT W I a):NT W (zac I) (Oo a):=by
 fail "q1"
 subst o;exact PR j i l
def LJ(a b:EN):EN:=bN (ph a) λx=>if x=true then b else okD (.bool false)
theorem PU(ha:NE W I a)(ρ:NE W M b):NE W (SH I M) (LJ a b):=by
 intro G A B H J s m Q R e q;refine gr (t:=Ie I) (JO ha) R e q λx v g i j s1 n l d k c f=>?_
 subst k
 by_cases h:x=true
 .rw[if_pos h]at c⊢;exact ρ G g i j J s1 m Q d c f
 .rw[if_neg h]at c⊢;exact XI d c (.bl false) f
def LK(c:MN Bool)(a b:EN):EN:=bN c λx=>if x=true then a else b
theorem zbz(M:NT W I c)(ha:NE W O a)(ρ:NE W U b):NE W (tIf I O U) (LK c a b):=by
 intro G A B H J s l Q R e q;refine gr (t:=I) M R e q λx v f g i s1 o n j m d k=>?_
 subst m
 by_cases h:x=true
 .rw[if_pos h]at d⊢;exact ha G f g i J s1 l Q j d k
 .rw[if_neg h]at d⊢;exact ρ G f g i J s1 l Q j d k
def ixV(S:List<|Option Cl)(x:SV)(i:Int):Option SV:=match x with
 | .tp xs=>L2.atI xs i
 | .pl (.tuple ds)=>(L2.atI ds i).map .pl
 | .pl (.list ds)=>(L2.atI ds i).map .pl
 | .lc k=>match S[k]? with
  |some 9078=>(L2.atI ds i).map .pl
  |some (some (.lst xs))=>L2.atI xs i
  |_=>none
 |_=>none
theorem B9{P : α->ρ->Prop}{xs:List α}{I:List ρ}(M:xs.length=I.length)(h:∀(n:Nat) (y : ρ),I[n]?=some y->∃x,xs[n]?=some x/\P x y){i:Int}{y : ρ}(e:L2.atI I i=some y):∃x,L2.atI xs i=some x/\P x y:=by
 unfold L2.atI at e⊢;rw[M];obtain⟨j,a,b⟩:=zd8 e;obtain⟨x,h1,h2⟩:=h j y b;exact⟨x,by rw[a,zeg];exact h1,h2⟩
theorem zbA(R:bp G A B H J s)(I:ek A B v x)(e:ixV s.S x i=some y):∃u,ek A B u y/\∀Q:VK,Q u H->rIx K v (.int i) H Q:=by
 have lst:∀{a:Addr} {xs:List V} {u:V},H a=some (.lst xs)\/Rd H a (.lst xs)->L2.atI xs i=some u->∀Q:VK,Q u H->rIx K (.ref a) (.int i) H Q:=λh h1 Q q=>
  .inl ⟨_,_,_,_,rfl,rfl,.inl<|h.elim .inl id,h1,q⟩
 cases x with
 |tp xs=>
  cases I with
  |tp g b=>
   obtain⟨u,h1,h2⟩:=B9 b.length (λn y hy=>b.get n y hy) e
   exact⟨u,h2,λQ q=>.inr<|.inl ⟨_,_,_,_,rfl,rfl,.inl<|.inl<|R.sub _ _ g,h1,q⟩⟩
 |pl d=>
  cases d with
  |tuple ds=>
   obtain⟨c,f,rfl⟩:=zd9 e;cases I with
   |pl l=>
    cases l with
    |tup g b=>
     obtain⟨u,h1,h2⟩:=B9 b.length (λn y hy=>b.get n y hy) f
     exact⟨u,.pl h2,λQ q=>.inr<|.inl ⟨_,_,_,_,rfl,rfl,.inl<|.inl<|R.sub _ _ g,h1,q⟩⟩
  |list ds=>
   obtain⟨c,f,rfl⟩:=zd9 e;cases I with
   |pl l=>
    cases l with
    |lst g b=>
     obtain⟨u,h1,h2⟩:=B9 b.length (λn y hy=>b.get n y hy) f
     exact⟨u,.pl h2,lst (.inr<|nZ R.sub g) h1⟩
  |_=>cases e
 |lc k=>
  simp only[ixV]at e;cases I with
  |lc m=>
   split at e
   .rename_i ds hk
    obtain⟨c,f,rfl⟩:=zd9 e;cases R.st.cell k _ _ hk m with
    |dat o=>
     obtain⟨xs,j,b⟩:=o.list;obtain⟨u,h1,h2⟩:=B9 b.length (λn y hy=>b.get n y hy) f
     exact⟨u,.pl h2,lst (.inl j) h1⟩
   .rename_i xs hk
    cases R.st.cell k _ _ hk m with
    |lst j b=>
     obtain⟨u,h1,h2⟩:=B9 b.length (λn y hy=>b.get n y hy) e
     exact⟨u,h2,lst (.inl j) h1⟩
   .cases e
def nIx(a b:EN):EN:=bN a λx=>bN b λy s=>match y with
 | .pl (.int i)=>(ixV s.S x i).map λz=>.ok z s
 |_=>none
theorem Zx(ha:NE W I a)(ρ:NE W M b):NE W (tOp (rIx K) I M) (nIx a b):=by
 fail "q1"
 refine gr ρ j i l λy u f g h s2 p d R2 k c r=>?_
 split at c
 .obtain⟨z,m,n⟩:=zd9 c
  cases n;cases k with
  |pl C=>
   cases C;obtain⟨w,h1,h2⟩:=zbA R2 (o.mono p d) m;exact h2 Q (r w f g h 9018 (aW.refl _) R2 h1)
 .cases c
def aj:MN (List SV):=λs=>some (.ok [] s)
theorem wg:NA W Bc aj:=by
 intro G A B H J s a Q R e q;cases e;exact q [] A B H 9018 (aW.refl _) R .nil
def aa(a:EN)(m:MN<|List SV):MN (List SV):=bN a λx=>bN m λxs s=>some (.ok (x::xs) s)
theorem wj(ha:NE W I a)(ρ:NA W M m):NA W (BJ I M) (aa a m):=by
 fail "q1"
 refine gr ρ j i l λy u c d f s2 k b R2 g h n=>?_
 cases h;exact n _ c d f 9018 (aW.refl _) R2 (.cons (o.mono k b) g)
def mZ:List SV->Option (List D)
 | []=>some []
 | .pl d::xs=>(mZ xs).map λds=>d::ds
 |_=>none
theorem m4:∀{vs:List V} {xs:List SV} {ds:List D},cZ A B vs xs->mZ xs=some ds->aZ B vs ds
 |_,_,ds,.nil,e=>by
  cases e;exact .nil
 |_,_,ds,.cons (x:=x) a b,e=>by
  cases x with
  |pl d=>
   obtain⟨c,f,rfl⟩:=zd9 e;cases a with
   |pl r=>exact .cons r (m4 b f)
  |lc k=>simp[mZ]at e
  |tp k=>simp[mZ]at e
def mkT(xs:List SV):SV:=match mZ xs with
 |some ds=>.pl (.tuple ds)
 |none=>.tp xs
theorem XJ(h:B t=some (.tup vs))(r:cZ A B vs xs):ek A B (.ref t) (mkT xs):=by
 unfold mkT;split
 .rename_i ds e;exact .pl (.tup h<|m4 r e)
 .exact .tp h r
def lZ(m:MN<|List SV):EN:=bN m λxs s=>cIf (xs.length<=sizeLine) (some<|.ok (mkT xs) s) none
theorem zbB(h:NA W t m):NE W (zaw t) (lZ m):=by
 fail "q4"
 obtain⟨hz,b⟩:=cY b;cases b;refine⟨by rw[j.length];exact hz,λp d=>?_⟩
 obtain⟨R2,c⟩:=a.NR d;exact i _ l _ _ 9018 c R2 (XJ aw<|j.mono 9018 c)
def mkL(xs:List SV):Cl:=match mZ xs with
 |some ds=>.dat (.list ds)
 |none=>.lst xs
def UD(c:Cl)(s:SS):RR SV:=.ok (.lc s.S.length) ⟨s.S++[some c],s.t⟩
theorem UE{B H:Hp}{J:St}{s:SS}{c:Cl}{p:Addr}{o:HO}{Q:VK}(R:bp G A B H J s)(ρ:H p=none)(I:Mx o)(ok:∀H',H' p=some o->jc (A++[p]) B H' p c)(q:ROk G A B J W ek Q<|UD c s):Q (.ref p) (upd H p o):=by
 obtain⟨b,d,e⟩:=R.Bh ρ;have eH:aW H (upd H p o):=λq u h=>by rw[av λz=>by rw[z,ρ]at h;cases h];exact h
 have R2:=R.grow (aW.refl _) eH (R.sub.trans eH) (λ_ _ z=>z) (λq xs h=>by
  fail "ql"
  .rw[av z]at h;exact R.fj q xs h) λq u w h=>by
  fail "ql"
  .rw[av z]at h;exact R.nz q u w h
 have a:=R2.take b d e aw I (ok _ aw);exact q _ _ _ _ 9102 (aW.refl _) a (.lc (by rw[<-R.st.len];exact List.getElem?_concat_length))
def m5(m:MN<|List SV):EN:=bN m λxs s=>cIf (xs.length<=sizeLine) (some<|UD (mkL xs) s) none
theorem Oq(h:NA W t m):NE W (Ti t) (m5 m):=by
 fail "q4"
 obtain⟨hz,b⟩:=cY b;cases b;refine⟨by rw[j.length];exact hz,λp c=>UE a c trivial (λH' h'=>?_) i⟩
 unfold mkL;split
 .rename_i ds ea;exact .dat (.lst h'<|m4 j ea)
 .exact .lst h' (j.mono 9102<|aW.refl _)
def nCB(g:List D->Option (D×Bool))(m:MN<|List SV):EN:=bN m λxs s=>match F8 s.S xs with
 |some ds=>(g ds).bind λw=>UB w s
 |none=>(JM s.S xs).bind λds=>(g ds).bind λw=>EA w s
theorem LL(σ:AF r g)(h:NA W t m):NE W (tCB r t) (nCB g m):=by
 fail "q4"
 split at b
 .rename_i ds h1
  obtain⟨w,c,d⟩:=zd8 b;exact LI a (σ k n vs ds w a.sub (Ga a.st j h1) c) d i
 .obtain⟨ds,h1,b⟩:=zd8 b
  obtain⟨w,c,d⟩:=zd8 b;exact Gb a (σ n n vs ds w (aW.refl _) (LH<|yt a.st a.sub j h1) c) d i
structure IH(A:List Addr)(B H:Hp)(A':List Addr)(B' H':Hp)(S':List<|Option Cl)(v:V)(r:SV):Prop where
 gro:Gro A A'
 eB:aW B B'
 sub:aW B' H'
 tB:∀q xs,H' q=some (.tup xs)->B' q=some (.tup xs)
 kept:∀q o,H q=some o->q∉A->H' q=some o
 nb:∀q,H q≠none->B q=none->B' q=none
 fresh:∀a∈A',a∈A\/H a=none
 st:StO A' B' H' S'
 nz:∀q o u,H' q=some (.frz o u)->∃o0 u0,H q=some (.frz o0 u0)
 val:ek A' B' v r
inductive FR where
 |ok (r:SV) (S:List (Option Cl))|er (x:Xc) (S:List (Option Cl))
abbrev FN:=List (Option Cl)->List SV->Option FR
def spS(f:FN):Sp:=λvs H Q E=>∃A B S xs w,aW B H/\(∀q xs,H q=some (.tup xs)->B q=some (.tup xs))/\StO A B H S/\cZ A B vs xs/\f S xs=some w/\
 match w with
 | .ok r S'=>∀v A' B' H',IH A B H A' B' H' S' v r->Q v H'
 | .er x S'=>∀A' B' H',IH A B H A' B' H' S' .non (.pl .none)->E (Zl.cl x.c) none H'
def spQ(f:FN):Sp:=λvs H Q _=>spS f vs H Q E0
theorem bp.post(R:bp G A B H J s)(P:IH A B H A' B' H' S' v r):bp G A' B' H' J ⟨S',s.t⟩:=by
 refine⟨P.sub,R.sB.trans P.eB,P.tB,λq o h n=>?_,λq h z=>?_,R.pre.trans P.gro,λa ha=>?_,P.st,R.len,λi x h=>?_,λq o u h=>?_⟩
 .refine P.kept q o (R.kept q o h n) λb=>?_
  rcases R.fresh q b with h1|h1
  .exact n h1
  .rw[h1]at h;cases h
 .refine P.nb q (λb=>?_) (R.nB q h z)
  have:=(R.Bh b).1;exact h this
 .rcases P.fresh a ha with h|h
  .exact R.fresh a h
  .exact .inr (R.Bh h).1
 .obtain⟨w,h1,h2⟩:=R.slot i x h
  exact⟨w,h1,h2.mono P.gro P.eB⟩
 .obtain⟨o0,u0,h0⟩:=P.nz q o u h
  exact R.nz q o0 u0 h0
def frR(w:FR)(t:List<|Option SV):RR SV:=match w with
 | .ok r S=>.ok r ⟨S,t⟩
 | .er x S=>.er x ⟨S,t⟩
def j7(f:FN)(m:MN<|List SV):EN:=bN m λxs s=>(f s.S xs).map λw=>frR w s.t
theorem Gd{A:List Addr}{B H:Hp}{J:St}{s:SS}{vs:List V}{xs:List SV}{I:RR SV}{Q:VK}{E:XK}(R:bp G A B H J s)(V:cZ A B vs xs)(e:((f s.S xs).map λw=>frR w s.t)=some I)(q:ROk G A B J W ek Q I)
  (hw:∀x H',W x J H'->E (Zl.cl x.c) none H'):spS f vs H Q E:=by
 obtain⟨w,b,a⟩:=zd9 e;refine⟨A,B,s.S,xs,w,R.sub,R.fj,R.st,V,b,?_⟩;cases w with
 |ok r S'=>
  cases a;exact λv A' B' H' P=>q v A' B' H' P.gro P.eB (R.post P) P.val
 |er x S'=>
  cases a;exact λA' B' H' P=>hw x H' (q A' B' H'<|R.post P)
def W0:WX:=λ_ _ _=>False
def eY(f:List D->Option (D×Bool))(m:MN<|List SV):EN:=bN m λxs s=>match mZ xs with
 |some ds=>(f ds).bind λw=>UB w s
 |none=>(JM s.S xs).bind λds=>(f ds).bind λw=>EA w s
theorem o5(R:bp G A B H J s)(P:Post B H v B' H' d o):bp G A B' H' J s :=
 R.grow P.eB P.eH P.sub (λq h z=>P.nb q h z) P.tB λq u w h=>by
  have a:=P.nz q u w h;cases h2:H q with
  |none=>exact absurd h2 a
  |some b=>
   have:=P.eH q b h2;rw[h]at this;cases this;exact R.nz q u w h2
theorem UG(h:NA W t m):NE W (qp (spM f) [] E t) (eY f m):=by
 fail "q4"
 rw[zeQ];split at b
 .rename_i ds h1
  obtain⟨w,N,c⟩:=zd8 b;obtain⟨d,o⟩:=w;refine⟨k,ds,d,o,a.sub,a.fj,m4 j h1,N,λv B' H' P=>?_⟩
  have R2:=o5 a P;have pv:=P.val;cases o with
  |false=>
   cases c;exact i v l B' H' 9018 P.eB R2 (.pl pv)
  |true=>
   obtain⟨p,rfl,hn,M,y⟩:=pv;have g:∀C,C=newD d s1->ROk G l k J W ek Q C->Q (.ref p) H':=λC er I=>by
    subst er;obtain⟨D,S,ρ⟩:=a.Bh hn;obtain⟨ob,V,X⟩:=y.mx;have K:=R2.take D S M V X (.dat y);exact I _ _ B' H' 9102 P.eB K (.lc (by rw[<-a.st.len];exact List.getElem?_concat_length))
   cases y with
   |lst _ _=>cases c;exact g _ rfl i
   |dct _ _=>cases c;exact g _ rfl i
 .obtain⟨ds,h1,b⟩:=zd8 b
  obtain⟨w,N,c⟩:=zd8 b;obtain⟨d,o⟩:=w;refine⟨n,ds,d,o,aW.refl _,λ_ _ z=>z,yt a.st a.sub j h1,N,λv B' H' P=>?_⟩
  have eH:=P.eH;have σ:=a.sub.trans eH;have R2:=a.grow yw eH (λq u h=>by
    rcases Bi h with h|⟨_,xs,rfl,h'⟩
    .exact σ q u h
    .exact h') (λq h z=>by
    cases h2:tbu k H' q with
    |none=>rfl
    |some u=>
     rcases Bi h2 with h3|⟨_,xs,rfl,h3⟩
     .rw[z]at h3;cases h3
     .cases h4:n q with
      |none=>exact absurd h4 h
      |some u4=>
       have:=eH q u4 h4;rw[h3]at this;cases this;rw[a.fj q xs h4]at z;cases z) (λq xs h=>Fg σ h) λq u w h=>by
    have Y:=P.nz q u w h;cases h2:n q with
    |none=>exact absurd h2 Y
    |some o2=>
     have:=P.eH q o2 h2;rw[h]at this;cases this;exact a.nz q u w h2
  have O:∀q xs,B' q=some (.tup xs)->tbu k H' q=some (.tup xs):=λq xs h=>Fg σ (P.sub _ _ h)
  have pv:=P.val;cases o with
  |false=>
   simp only[EA]at c;split at c
   .rename_i x
    cases c;have Z:=pv;exact i v l _ H' 9018 yw R2 (.pl<|Z.gv O x)
   .cases c
  |true=>
   obtain⟨p,rfl,hn,M,y⟩:=pv;have g:mX d true=true->∀C,C=newD d s1->ROk G l k J W ek Q C->Q (.ref p) H':=λx C er I=>by
    subst er;obtain⟨D,S,ρ⟩:=a.Bh hn;have F:=y.gv O x;obtain⟨ob,V,X⟩:=F.mx;have T:tbu k H' p=none:=by
     cases h2:tbu k H' p with
     |none=>rfl
     |some o'=>
      rcases Bi h2 with h3|⟨_,xs,rfl,h3⟩
      .rw[ρ]at h3;cases h3
      .exact absurd h3 (y.TU xs)
    have K:=R2.take D S T V X (.dat F);exact I _ _ _ H' 9102 yw K (.lc (by rw[<-a.st.len];exact List.getElem?_concat_length))
   cases y with
   |lst h r=>
    simp only[EA]at c;split at c
    .rename_i x;cases c;exact g x _ rfl i
    .cases c
   |dct h r=>
    simp only[EA]at c;split at c
    .rename_i x;cases c;exact g x _ rfl i
    .cases c
end
inductive yd where
 |nx (s:SS)|rt (r:SV) (s:SS)|bk (s:SS)|ct (s:SS)|er (x:Xc) (s:SS)
abbrev SN:=SS->Option yd
def NOk(G:FrN)(W:WX)(D:Ends):yd->Prop
 | .nx s=>∀A B H J,bp G A B H J s->D.nx J H
 | .rt r s=>∀v A B H J,bp G A B H J s->ek A B v r->D.rt v H
 | .bk s=>∀A B H J,bp G A B H J s->D.bk J H
 | .ct s=>∀A B H J,bp G A B H J s->D.ct J H
 | .er x s=>∀A B H J,bp G A B H J s->W x J H
def NS(W:WX)(t:TS)(m:SN):Prop:=∀(G:FrN) (A:List Addr) (B H:Hp) (J:St) (s:SS) (o:yd) (D:Ends),bp G A B H J s->m s=some o->NOk G W D o->t D J H
def bS{α:Type}(m:MN α)(k : α->SN):SN:=λs=>match m s with
 |some (.ok v s')=>k v s'
 |some (.er x s')=>some (.er x s')
 |none=>none
section
variable{W:WX}
theorem Ge{t:St->Hp->(ρ->Hp->Prop)->Prop}{m:MN α}{k : α->SN}{G:FrN}{A:List Addr}{B H:Hp}{J:St}{s:SS}{o:yd}{D:Ends}{C : ρ->Hp->Prop}(h:NM W I t m)(R:bp G A B H J s)(e:bS m k s=some o)(q:NOk G W D o)
  (c:∀x v A' B' H' s',bp G A' B' H' J s'->I A' B' x v->k v s'=some o->C x H'):t J H C:=by
 unfold bS at e;split at e
 .rename_i v s' h1
  exact h G A B H J s _ C R h1 λx A' B' H' g eB a V=>c x v A' B' H' s' a V e
 .rename_i y s' h1
  cases e;exact h G A B H J s _ C R h1 λA' B' H' a=>q A' B' H' J a
 .cases e
def a6(a b:SN):SN:=λs=>match a s with
 |some (.nx s')=>b s'
 |o=>o
theorem JP(ha:NS W t a)(I:NS W u b):NS W (Wy t u) (a6 a b):=by
 intro G A B H J s o D R e q;unfold a6 at e;split at e
 .rename_i s' f
  exact ha G A B H J s _ _ R f λA' B' H' c d=>I G A' B' H' c s' o D d e q
 .rename_i o' hn
  refine ha G A B H J s o _ R e ?_;cases o with
  |nx s'=>exact absurd e (hn s')
  |rt r s'=>exact q
  |bk s'=>exact q
  |ct s'=>exact q
  |er x s'=>exact q
def d9:SN:=λs=>some (.nx s)
theorem XN:NS W SO d9:=by
 intro G A B H J s o D R e q;cases e;exact q A B H J R
def qX:SN:=λ_=>none
theorem UH:NS W Nr qX:=by
 intro G A B H J s o D R e q;cases e
def df(a:EN):SN:=bS a λx s=>some (.rt x s)
theorem Ot(ha:NE W t a):NS W (SQ t) (df a):=by
 intro G A B H J s o D R e q;refine Ge ha R e q λx v A' B' H' s' b c d=>?_
 cases d;exact q x A' B' H' J b c
def jn(a:EN):SN:=bS a λ_ s=>some (.nx s)
theorem PV(ha:NE W t a):NS W (Pg t) (jn a):=by
 intro G A B H J s o D R e q;refine Ge ha R e q λx v A' B' H' s' b d c=>?_
 cases c;exact q A' B' H' J b
def gX(c:MN Bool)(a b:SN):SN:=bS c λx=>if x=true then a else b
theorem zcT(ρ:NT W M c)(ha:NS W t a)(I:NS W u b):NS W (Wz M t u) (gX c a b):=by
 intro G A B H J s o D R e q;refine Ge ρ R e q λx v A' B' H' s' f g d=>?_
 subst g
 by_cases h:x=true
 .rw[if_pos h]at d⊢;exact ha G A' B' H' J s' o D f d q
 .rw[if_neg h]at d⊢;exact I G A' B' H' J s' o D f d q
def NG(W:WX)(g:TG)(mg:SV->SN):Prop:=∀(G:FrN) (A:List Addr) (B H:Hp) (J:St) (s:SS) (v:V) (x:SV) (o:yd) (D:Ends),bp G A B H J s->ek A B v x->mg x s=some o->NOk G W D o->g v J H D.nx
def ngN(i:Nat):SV->SN:=λx s=>if i<s.t.length then some (.nx ⟨s.S,s.t.set i<|some x⟩)else none
theorem Fh:NG W (DS i) (ngN i):=λG A B H J s v x o D R a e q=>by
 unfold ngN at e;split at e
 .rename_i h;cases e;exact q A B H _ (R.set h a)
 .cases e
def NGs(g:TGs)(mg:List SV->SS->Option SS):Prop:=∀(G:FrN) (A:List Addr) (B H:Hp) (J:St) (s:SS) (vs:List V) (xs:List SV) (s':SS) (Q:St->Hp->Prop),bp G A B H J s->cZ A B vs xs->mg xs s=some s'->(∀h,bp G A B H h s'->Q h H)->g vs J H Q
def Gf:List SV->SS->Option SS:=λxs s=>match xs with
 | []=>some s
 |_=>none
def kn(i:Nat)(gs:List SV->SS->Option SS):List SV->SS->Option SS:=λxs s=>match xs with
 |x::xs=>if i<s.t.length then gs xs ⟨s.S,s.t.set i<|some x⟩else none
 |_=>none
theorem XO:NGs zcj Gf:=λG A B H J s vs xs s' Q R a e q=>by
 cases a with
 |nil=>cases e;exact⟨rfl,q J R⟩
 |cons _ _=>cases e
theorem UI(I:NGs gs ρ):NGs (Zi (DS i) gs) (kn i ρ):=λG A B H J s vs xs s' Q R c e q=>by
 cases c with
 |nil=>cases e
 |cons r b=>
  simp only[kn]at e;split at e
  .rename_i h
   exact⟨_,_,rfl,I G A B H _ _ _ _ s' Q (R.set h r) b e λa R2=>q a R2⟩
  .cases e
theorem aZ.plV:∀{vs:List V} {ds:List D},aZ B vs ds->cZ A B vs (ds.map .pl)
 |_,_,.nil=>.nil
 |_,_,.cons a b=>.cons (.pl a) (aZ.plV b)
def EB(S:List<|Option Cl):SV->Option (List SV)
 | .tp xs=>some xs
 | .pl (.tuple ds)=>some (ds.map .pl)
 | .pl (.list ds)=>some (ds.map .pl)
 | .lc k=>match S[k]? with
  |some 9078=>some (ds.map .pl)
  |some (some (.lst xs))=>some xs
  |_=>none
 |_=>none
theorem UJ(R:bp G A B H J s)(h:ek A B v x)(e:EB s.S x=some xs):∃t vs,v=.ref t/\(SqT K H t vs\/SqL K H t vs)/\cZ A B vs xs:=by
 cases x with
 |lc k=>
  simp only[EB]at e;cases h with
  |lc c=>
   split at e
   .rename_i ds hk
    cases e;cases R.st.cell k _ _ hk c with
    |dat g=>
     obtain⟨f,a,b⟩:=g.list;exact⟨_,_,rfl,.inr<|SqL.of a,b.plV⟩
   .rename_i f hk
    cases e;cases R.st.cell k _ _ hk c with
    |lst a b=>exact⟨_,_,rfl,.inr<|SqL.of a,b⟩
   .cases e
 |tp f=>cases e;cases h with|tp h1 h2=>exact⟨_,_,rfl,.inl<|.inl<|.inl<|R.sub _ _ h1,h2⟩
 |pl d=>
  cases d with
  |tuple ds=>cases e;cases h with|pl r=>cases r with|tup h1 h2=>exact⟨_,_,rfl,.inl<|.inl<|.inl<|R.sub _ _ h1,h2.plV⟩
  |list ds=>cases e;cases h with|pl r=>cases r with|lst h1 h2=>exact⟨_,_,rfl,.inr<|.inl<|nZ R.sub h1,h2.plV⟩
  |_=>cases e
def ngT(n:Nat)(I:List SV->SS->Option SS):SV->SN:=λx s=>(EB s.S x).bind λxs=>if xs.length=n then(I xs s).map .nx else none
theorem XQ(h:NGs gs I):NG W (Zp K n gs) (ngT n I):=λG A B H J s v x o D R g e q=>by
 obtain⟨xs,c,e⟩:=zd8 e;obtain⟨t,vs,rfl,h1,h2⟩:=UJ R g c;split at e
 .rename_i hn
  obtain⟨s2,d,f⟩:=zd9 e;cases f;exact⟨_,_,rfl,h1,by rw[h2.length];exact hn,h G A B H J s _ _ s2 _ R h2 d λa b=>q A B H a b⟩
 .cases e
def dW(a:EN)(g:SV->SN):SN:=bS a g
theorem JQ(ha:NE W t a)(I:NG W tg g):NS W (Nt t tg) (dW a g):=by
 intro G A B H J s o D R e q;exact Ge ha R e q λx v A' B' H' s' b c d=>I G A' B' H' J s' x v o D b c d q
def XR(S:List<|Option Cl)(x:SV)(i:Int)(y:SV):Option (List<|Option Cl):=match x with
 | .lc k=>match S[k]? with
  |some 9078=>(L2.ixN ds.length i).map λj=>match y with
   | .pl d=>S.set k (some<|.dat<|.list<|ds.set j d)
   |y=>S.set k (some<|.lst<|(ds.map .pl).set j y)
  |some (some (.lst xs))=>(L2.ixN xs.length i).map λj=>S.set k (some<|.lst<|xs.set j y)
  |_=>none
 |_=>none
theorem cZ.set(r:ek A B x c):∀{v:List V} {d:List SV} (i:Nat),cZ A B v d->cZ A B (v.set i x) (d.set i c)
 |_,_,_,.nil=>.nil
 |_,_,0,.cons _ b=>.cons r b
 |_,_,i+1,.cons a b=>.cons a (cZ.set r i b)
theorem XS(R:bp G A B H J s)(I:ek A B v x)(U:ek A B u y)(e:XR s.S x i y=some S'):∃H',bp G A B H' J ⟨S',s.t⟩/\∀Q:Hp->Prop,Q H'->Ik v (.int i) u H Q:=by
 cases x with
 |pl d=>cases e
 |tp d=>cases e
 |lc k=>
  simp only[XR]at e;cases I with
  |lc f=>
   split at e
   .rename_i ds hk
    obtain⟨j,g,b⟩:=zd9 e;cases R.st.cell k _ _ hk f with
    |dat l=>
     obtain⟨xs,h,a⟩:=l.list;have go:∀c,jc A B (upd H _<|.lst<|xs.set j u) _ c->S'=s.S.set k (some c)->∃H',bp G A B H' J ⟨S',s.t⟩/\∀Q:Hp->Prop,Q H'->Ik _ (.int i) u H Q:=λc ok es=>by
      subst es;exact⟨_,R.write (o:=.lst<|xs.set j u) f trivial ok,λQ q=>⟨_,xs,i,j,rfl,rfl,h,by rw[a.length];exact g,q⟩⟩
     cases y with
     |pl d=>cases U with|pl r=>exact go _ (.dat<|.lst aw<|a.set r j) b.symm
     |lc n=>exact go _ (.lst aw<|a.plV.set U j) b.symm
     |tp m=>exact go _ (.lst aw<|a.plV.set U j) b.symm
   .rename_i m hk
    obtain⟨j,g,b⟩:=zd9 e;subst b;cases R.st.cell k _ _ hk f with
    |lst h a=>exact⟨_,R.write (o:=.lst (_:List V)) f trivial<|.lst aw<|a.set U j,λQ q=>⟨_,_,i,j,rfl,rfl,h,by rw[a.length];exact g,q⟩⟩
   .cases e
def AK(a b:EN):SV->SN:=λy=>bS a λx=>bS b λi s=>match i with
 | .pl (.int i)=>(XR s.S x i y).map λS'=>.nx ⟨S',s.t⟩
 |_=>none
theorem zbC(ha:NE W M a)(I:NE W ρ b):NG W (L2.ql M ρ Ik) (AK a b):=λG A B H J s v y o D R E e q=>by
 unfold AK bS at e;split at e
 .rename_i x s1 h1
  dsimp only at e;refine ha G A B H J s _ _ R h1 λP g h i w f j n=>?_
  split at e
  .rename_i N s2 h2
   refine I G g h i J s1 _ _ j h2 λK l m σ k d R2 p=>?_
   split at e
   .obtain⟨S',t,u⟩:=zd9 e
    cases u;cases p with
    |pl r=>
     cases r;obtain⟨H',c,C⟩:=XS R2 (n.mono k d) (E.mono (w.trans k)<|f.trans d) t;exact C _ (q l m H' J c)
   .cases e
  .rename_i F s2 h2
   cases e;exact I G g h i J s1 _ _ j h2 λA' B' H' c=>q A' B' H' J c
  .cases e
 .rename_i F s2 h2
  cases e;exact ha G A B H J s _ _ R h2 λA' B' H' c=>q A' B' H' J c
 .cases e
def qY(n:Nat)(kp:List Nat)(ok:SS->Prop)(g:SV->SN)(b:SN):List SV->SN
 | []=>λs=>cIf (ok s) (some<|.nx s) none
 |d::ds=>λs=>cIf (ok s) (match g d s with
   |some (.nx s1)=>(match b s1 with
    |some (.nx s')=>qY n kp ok g b ds (gcE n kp s')
    |some (.ct s')=>qY n kp ok g b ds (gcE n kp s')
    |some (.bk s')=>some (.nx s')
    |some (.rt r s')=>some (.rt r s')
    |some (.er x s')=>some (.er x s')
    |none=>none)
   |_=>none) none
theorem bp.down(I:bp G ρ M O U s1)(R:bp ⟨M,O,ρ,G.Z⟩ A B H J s):bp G A B H J s:=by
 refine⟨R.sub,I.sB.trans R.sB,R.fj,λq o h n=>R.kept q o (I.kept q o h n) λb=>?_,λq h z=>R.nB q (λb=>h (I.Bh b).1)<|I.nB q h z,I.pre.trans R.pre,λa ha=>?_,R.st,R.len,R.slot,R.nz⟩
 .rcases I.fresh q b with h1|h1
  .exact n h1
  .rw[h1]at h;cases h
 .rcases R.fresh a ha with h|h
  .exact I.fresh a h
  .exact .inr (I.Bh h).1
def bp.up(I:bp G M O U ρ s1):bp ⟨O,U,M,G.Z⟩ M O U ρ s1 :=
 ⟨I.sub,aW.refl _,I.fj,λ_ _ h _=>h,λ_ _ z=>z,Gro.refl _,λ_ h=>.inl h,I.st,I.len,I.slot,I.nz⟩
theorem NOk.up{M O:Hp}{ρ:St}{s1:SS}(I:bp G U M O ρ s1){D:Ends}{o:yd}(h:NOk G W D o):NOk ⟨M,O,U,G.Z⟩ W D o:=by
 cases o with
 |nx s=>exact λA B H J R=>h A B H J (I.down R)
 |bk s=>exact λA B H J R=>h A B H J (I.down R)
 |ct s=>exact λA B H J R=>h A B H J (I.down R)
 |rt r s=>exact λv A B H J R V=>h v A B H J (I.down R) V
 |er x s=>exact λA B H J R=>h A B H J (I.down R)
def zbD(A:List Addr)(B H:Hp)(x:V)(H':Hp)(y:SV):Prop:=(H'=H/\ek A B x y)\/∃p xs h,y=.pl (.tuple h)/\x=.ref p/\H p=none/\H'=upd H p (.tup xs)/\aZ B xs h
theorem JR{tb:TS}{g:SV->SN}{b:SN}{ok:SS->Prop}{G:FrN}{σ:It}{ds:List SV}{O:List Addr}{U Y:Hp}{σ1:St}{s1:SS}{W0:Ends}{o:yd}
  (hg:NG W tg g) (hb:NS W tb b) (R1:bp G O U Y σ1 s1) (e:qY s1.S.length kp ok g b ds s1=some o) (q:NOk G W W0 o)
  (I:∀A B H J s,bp ⟨U,Y,O,G.Z⟩ A B H J s->ok s->σ.stop ds.length H/\∀(i:Nat) (d:SV),ds[i]?=some d->σ.go i H/\∀x H',σ.yld i H x H'->zbD A B H x H' d) :
  ∃W:Nat->Nat->St->Hp->Prop,(∃m,W 0 m σ1 Y)/\∀i m J H,W i m J H->
   (σ.stop i H/\W0.nx J H)\/(σ.go i H/\∃N:St->Hp->Prop,(∀ρ H',N ρ H'->∃m',m'<m/\W (i+1) m' ρ H')/\∀x H',σ.yld i H x H'->tg x J H' λM H2=>tb {W0 with nx:=N,ct:=N,bk:=W0.nx} M H2):=by
 have F:=q.up R1;have C:=Nat.le_of_eq R1.st.len;refine⟨λi m J H=>m=ds.length-i/\i<=ds.length/\∃A B s,bp ⟨U,Y,O,G.Z⟩ A B H J s/\qY s1.S.length kp ok g b (ds.drop i) s=some o,⟨ds.length,rfl,Nat.zero_le _,O,U,s1,R1.up,e⟩,?_⟩
 rintro i m M H2 ⟨rfl,hil,k,D,s2,R2,a⟩
 by_cases j:i<ds.length
 .refine .inr ?_
  rw[zfa j]at a;obtain⟨hok,a⟩:=cY (a);obtain⟨go,yl⟩:=(I k D H2 M s2 R2 hok).2 i ds[i] (zeB j);refine⟨go,fun ρ H'=>∃A' B' s',bp ⟨U,Y,O,G.Z⟩ A' B' H' ρ s'/\qY s1.S.length kp ok g b (ds.drop<|i+1) s'=some o,fun ρ H' h'=>⟨ds.length-(i+1),by lia,rfl,j,h'⟩,λy P hy=>?_⟩
  have T:∃E,bp ⟨U,Y,O,G.Z⟩ k E P M s2/\ek k E y ds[i]:=by
   rcases yl y P hy with⟨rfl,h2⟩|⟨p,xs,cs,h1,rfl,h3,rfl,X⟩
   .exact⟨D,R2,h2⟩
   .obtain⟨h,R⟩:=R2.NR h3
    exact⟨_,h,by rw[h1];exact .pl (.tup aw<|X.mono R)⟩
  obtain⟨E,h,rp⟩:=T;split at a
  .rename_i l R
   refine hg _ k E P M s2 y ds[i] (.nx l) ⟨λM H2=>tb {W0 with nx:=fun ρ H'=>∃A' B' s',bp ⟨U,Y,O,G.Z⟩ A' B' H' ρ s'/\qY s1.S.length kp ok g b (ds.drop<|i+1) s'=some o,ct:=fun ρ H'=>∃A' B' s',bp ⟨U,Y,O,G.Z⟩ A' B' H' ρ s'/\qY s1.S.length kp ok g b (ds.drop<|i+1) s'=some o,bk:=W0.nx} M H2,W0.rt,W0.bk,W0.ct⟩ h rp R λn u v c w=>?_
   split at a
   .rename_i s' f;exact hb _ n u v c l _ _ w f λA' B' H' ρ Q=>(let⟨K,h⟩:=Q.gcE C;⟨K,B',_,h,a⟩)
   .rename_i s' f;exact hb _ n u v c l _ _ w f λA' B' H' ρ Q=>(let⟨K,h⟩:=Q.gcE C;⟨K,B',_,h,a⟩)
   .rename_i s' f;cases a;exact hb _ n u v c l _ _ w f F
   .rename_i r s' f;cases a;exact hb _ n u v c l _ _ w f F
   .rename_i r s' f;cases a;exact hb _ n u v c l _ _ w f F
   .cases a
  .cases a
 .have V:i=ds.length:=by lia
  subst V;rw[List.drop_length]at a;obtain⟨hok,a⟩:=cY (a);cases a;exact .inl ⟨(I k D H2 M s2 R2 hok).1,F k D H2 M R2⟩
theorem XT(h:Lp B H x H' d):zbD A B H x H' (.pl d):=by
 rcases h with⟨h1,h2⟩|⟨p,xs,a,h1,h2,h3,h4,b⟩
 .exact .inl ⟨h1,.pl h2⟩
 .exact .inr ⟨p,xs,a,by rw[h1],h2,h3,h4,b⟩
theorem Lp.mono(h:Lp B H x H' d)(e:aW B B'):Lp B' H x H' d:=by
 rcases h with⟨h1,h2⟩|⟨p,xs,a,h1,h2,h3,h4,b⟩
 .exact .inl ⟨h1,h2.mono e⟩
 .exact .inr ⟨p,xs,a,h1,h2,h3,h4,b.mono e⟩
theorem Ou{ds:List D}{i:Nat}{x:SV}(h:(ds.map SV.pl)[i]?=some x):∃d,ds[i]?=some d/\x=.pl d:=by
 rw[zem]at h;obtain⟨d,h1,h2⟩:=zd9 h;exact⟨d,h1,h2.symm⟩
def RB(kp:List Nat)(it:Rho->Option 9055)(g:SV->SN)(b:SN):SN:=λs=>(it<|vwC s).bind λx=>qY s.S.length kp (λ_=>True) g b (x.1.map .pl) s
theorem zbE(hi:MF O it)(ρ:NG W tg g)(I:NS W M b):NS W (WH O tg M) (RB kp it g b):=by
 intro G A B H J s o D R e q;obtain⟨x,l,e⟩:=zd8 e;refine hi _ B H J (vwC s) x.1 x.2 _ R.cls l λσ n r p k j=>?_
 obtain⟨R2,eB,eH⟩:=R.zcQ k;refine JR ρ I R2 e q λA' B' H' m s' f _=>?_
 have a:=j H' (f.sB.trans f.sub);rw[zej];refine⟨a.1,λi d hd=>?_⟩
 obtain⟨c,h1,rfl⟩:=Ou hd;exact⟨(a.2 i c h1).1,λy h hy=>XT<|((a.2 i c h1).2 y h hy).mono f.sB⟩
def stays(k:SV)(xs:List SV)(s:SS):Prop:=EB s.S k=some xs
def PY(kp:List Nat)(a:EN)(g:SV->SN)(b:SN):SN:=bS a λy s=>match y with
 | .lc k=>(EB s.S<|.lc k).bind λxs=>qY s.S.length kp (stays (.lc k) xs) g b xs s
 | .pl (.list ds)=>qY s.S.length kp (λ_=>True) g b (ds.map .pl) s
 |_=>none
theorem PZ(h:SqL K H p xs)(r:cZ A B xs I):(Itl K p).stop I.length H/\∀(i:Nat) (d:SV),I[i]?=some d->(Itl K p).go i H/\∀x H',(Itl K p).yld i H x H'->zbD A B H x H' d:=by
 refine⟨⟨xs,h,by rw[r.length];exact zen _⟩,λi d hd=>?_⟩
 obtain⟨u,h1,h2⟩:=r.get i d hd;refine⟨⟨xs,u,h,h1⟩,λx H' hy=>.inl ⟨hy.1,?_⟩⟩
 have:=hy.2 xs h;rw[h1]at this;cases this;exact h2
theorem XU(ha:NE W M a)(ρ:NG W tg g)(I:NS W O b):NS W (WH (Ld K M) tg O) (PY kp a g b):=by
 intro G A B H J s o D R e q;refine Ge (t:=M) ha R e q λx v Q T V s1 l y m=>?_
 split at m
 .rename_i k
  obtain⟨xs,E,F⟩:=zd8 m;cases y with
  | @lc _ p C=>
   have lst:∀{A':List Addr} {B' H':Hp} {d:St} {s':SS} {w:FrN},bp w A' B' H' d s'->A'[k]?=some p->EB s'.S (.lc k)=some xs->∃vs,H' p=some (.lst vs)/\cZ A' B' vs xs:=fun{A' B' H' d s' w} c j i=>by
    simp only[EB]at i;split at i
    .rename_i ds hk
     cases i;cases c.st.cell k _ _ hk j with
     |dat σ=>
      obtain⟨P,f,h⟩:=σ.list;exact⟨_,f,h.plV⟩
    .rename_i P hk
     cases i;cases c.st.cell k _ _ hk j with
     |lst f h=>exact⟨_,f,h⟩
    .cases i
   obtain⟨vs,f,h⟩:=lst l C E;refine⟨_,rfl,⟨vs,SqL.of f⟩,?_⟩;refine JR ρ I l F q λA' B' H' d s' c hok=>?_
   obtain⟨N,n,u⟩:=lst c (c.pre k _ C) hok;exact PZ (SqL.of n) u
 .rename_i ds
  cases y with
  |pl r=>
   cases r with
   |lst f h=>
    refine⟨_,rfl,⟨_,.inl<|nZ l.sub f⟩,?_⟩;refine JR ρ I l m q λA' B' H' d s' c hok=>?_
    exact PZ (.inl<|nZ (c.sB.trans c.sub) f) (h.mono c.sB).plV
 .cases m
def LM(S:List<|Option Cl)(k:Nat):Bool:=match S[k]? with
 |some (some (.dat (.list _)))=>true
 |some (some (.lst _))=>true
 |_=>false
theorem UK(R:bp G A B H J s)(I:A[k]?=some a)(e:LM s.S k=true):tyV K "list" (.ref a) H:=by
 unfold LM at e;split at e
 .rename_i ds hk
  cases R.st.cell k _ _ hk I with
  |dat c=>obtain⟨xs,b,_⟩:=c.list;exact .inl ⟨rfl,xs,SqL.of b⟩
 .rename_i ds hk
  cases R.st.cell k _ _ hk I with
  |lst b _=>exact .inl ⟨rfl,_,SqL.of b⟩
 .cases e
def LN(a:EN)(m:MN<|List SV)(u:Nat->List SV->SS->Option (RR SV)):EN:=bN a λx s=>match x with
 | .lc k=>if LM s.S k=true then bN m (λxs s2=>u k xs s2) s else none
 |_=>none
theorem P0(ha:NE W ρ a)(h:NA W t m)
  (hu:∀(G:FrN) (A:List Addr) (B H:Hp) (J:St) (s:SS) (p:Addr) (k:Nat) (vs:List V) (xs:List SV) (I:RR SV) (Q:VK),bp G A B H J s->A[k]?=some p->cZ A B vs xs->u k xs s=some I->ROk G A B J W ek Q I->r (.ref p) vs H Q):NE W (tBM K "list" r ρ t) (LN a m u):=by
 intro G A B H J s I Q R e q;refine gr (t:=ρ) ha R e q λx v F σ N s1 P o c j b D=>?_
 split at b
 .rename_i k
  split at b
  .rename_i C
   cases j with
   |lc d=>
    refine⟨UK c d C,?_⟩;refine gr h c b D λvs xs f g i s2 y w R2 l n E=>?_
    exact hu G f g i J s2 _ k vs xs I Q R2 (y _ _ d) l n E
  .cases b
 .cases b
def zbF(f:List D->List D->Option (List D×D))(k:Nat)(xs:List SV)(s:SS):Option (RR SV):=(mZ xs).bind λh=>match s.S[k]? with
  |some 9078=>(f ds h).map λw=>.ok (.pl w.2) ⟨s.S.set k<|some<|.dat<|.list w.1,s.t⟩
  |_=>none
theorem XW(σ:Lr r f)(G:FrN)(A:List Addr)(B H:Hp)(J:St)(s:SS)(p:Addr)(k:Nat)(vs:List V)(xs:List SV)(ρ:RR SV)(Q:VK)(R:bp G A B H J s)(I:A[k]?=some p)(M:cZ A B vs xs)(e:zbF f k xs s=some ρ)(q:ROk G A B J W ek Q ρ):r (.ref p) vs H Q:=by
 obtain⟨d,g,e⟩:=zd8 e;split at e
 .rename_i ds hk
  obtain⟨w,h,i⟩:=zd9 e;cases i;cases R.st.cell k _ _ hk I with
  |dat m=>
   obtain⟨v,j,t⟩:=m.list;obtain⟨b,u,a,n,l⟩:=σ B H _ v ds vs d w j t R.sub (m4 M g) h;have c:=R.write (o:=.lst b) I trivial (.dat<|.lst aw a);exact l Q (q u A B _ 9018 (aW.refl _) c<|.pl n)
 .cases e
def XX(k:Nat)(xs:List SV)(s:SS):Option (RR SV):=match xs,s.S[k]? with
 | [.pl d],some 9078=>cIf (ds.length<sizeLine) (some<|.ok (.pl .none) ⟨s.S.set k<|some<|.dat<|.list<|ds++[d],s.t⟩) none
 | [x],some 9078=>cIf (ds.length<sizeLine) (some<|.ok (.pl .none) ⟨s.S.set k<|some<|.lst<|ds.map .pl++[x],s.t⟩) none
 | [x],some (some (.lst h))=>cIf (h.length<sizeLine) (some<|.ok (.pl .none) ⟨s.S.set k<|some<|.lst<|h++[x],s.t⟩) none
 |_,_=>none
theorem cZ.append:∀{v w:List V} {d c:List SV},cZ A B v d->cZ A B w c->cZ A B (v++w) (d++c)
 |_,_,_,_,.nil,r=>r
 |_,_,_,_,.cons a b,r=>.cons a (cZ.append b r)
theorem XY(G:FrN)(A:List Addr)(B H:Hp)(J:St)(s:SS)(p:Addr)(k:Nat)(vs:List V)(xs:List SV)(M:RR SV)(Q:VK)(R:bp G A B H J s)(I:A[k]?=some p)(ρ:cZ A B vs xs)(e:XX k xs s=some M)(q:ROk G A B J W ek Q M):BM (.ref p) vs H Q:=by
 have go:∀{x:SV} {y:V} {g:List V} {c:Cl},vs=[y]->H p=some (.lst g)->g.length<sizeLine->jc A B (upd H p<|.lst<|g++[y]) p c->M=.ok (.pl .none) ⟨s.S.set k<|some c,s.t⟩->BM (.ref p) vs H Q:=fun{x y g c} h1 h2 h3 ok er=>by
  subst er h1;exact⟨p,g,y,rfl,rfl,h2,h3,q .non A B _ 9018 (aW.refl _) (R.write I trivial ok)<|.pl .non⟩
 unfold XX at e;split at e
 .rename_i d ds hk
  obtain⟨hz,e⟩:=cY e;cases e;cases ρ with
  |cons a b=>
   cases b;cases a with
   |pl r=>
    cases R.st.cell k _ _ hk I with
    |dat i=>
     obtain⟨g,h,f⟩:=i.list;exact go (x:=.pl d) rfl h (by rw[f.length];exact hz) (.dat<|.lst aw<|f.append<|.cons r .nil) rfl
 .rename_i x ds _ hk
  obtain⟨hz,e⟩:=cY e;cases e;cases ρ with
  |cons a b=>
   cases b;cases R.st.cell k _ _ hk I with
   |dat i=>
    obtain⟨g,h,f⟩:=i.list;exact go (x:=x) rfl h (by rw[f.length];exact hz) (.lst aw<|f.plV.append<|.cons a .nil) rfl
 .rename_i x g hk
  obtain⟨hz,e⟩:=cY e;cases e;cases ρ with
  |cons a b=>
   cases b;cases R.st.cell k _ _ hk I with
   |lst h f=>exact go (x:=x) rfl h (by rw[f.length];exact hz) (.lst aw<|f.append<|.cons a .nil) rfl
 .cases e
def Hx(a:EN)(m:MN<|List SV):EN:=LN a m XX
def zbG(ha:NE W I a)(h:NA W t m):NE W (tBM K "list" BM I t) (Hx a m):=P0 ha h XY
def nMt(f:List D->List D->Option (List D×D))(a:EN)(m:MN<|List SV):EN:=LN a m (zbF f)
def Zy(σ:Lr r f)(ha:NE W I a)(h:NA W t m):NE W (tBM K "list" r I t) (nMt f a m):=P0 ha h (XW σ)
end
def fS(n:Nat)(S:List<|Option Cl):List (Option Cl):=if fh n S=true then gcS n S else S
def retS(n:Nat):yd->Option FR
 | .rt r s=>if blV n r=true then some (.ok r<|fS n s.S)else some (.ok r s.S)
 | .nx s=>some (.ok (.pl .none)<|fS n s.S)
 | .er x s=>some (.er x<|fS n s.S)
 |_=>none
def fnS(n k:Nat)(b:SN):FN:=λS xs=>if xs.length=n then(b ⟨S,xs.map some++List.replicate k none⟩).bind (retS S.length)else none
theorem II(sub:aW B H)(tB:∀q xs,H q=some (.tup xs)->B q=some (.tup xs))(O:StO A B H S)(ρ:cZ A B vs xs)(I:xs.length=n)(M:N.length=n+k) :
  bp ⟨B,H,A,λq=>∃o u,H q=some (.frz o u)⟩ A B H (L2.start N vs) ⟨S,xs.map some++List.replicate k none⟩:=by
 have a:=ρ.length.trans I;refine⟨sub,aW.refl _,tB,λ_ _ h _=>h,λ_ _ z=>z,Gro.refl _,λ_ h=>.inl h,O,?_,λi x h=>?_,λq o u h=>⟨o,u,h⟩⟩
 .simp[L2.start,I,a,M]
 .have h':=h
  by_cases hi:i<n
  .rw[zew (by simpa[I]using hi),zem]at h'
   obtain⟨c,h1,h2⟩:=zd9 h';cases h2;obtain⟨y,h3,h4⟩:=ρ.get i _ h1;refine⟨y,?_,h4⟩;unfold L2.start;rw[zew (by simpa[a]using hi),zem,h3]
   rfl
  .rw[zeM (by simpa[I]using ze9 hi)]at h'
   have:=zeF (zeh h');cases this
def post_of(I:bp ⟨B,H,A,λq=>∃o u,H q=some (.frz o u)⟩ A' B' H' M s')(ρ:ek A' B' v r):IH A B H A' B' H' s'.S v r:=⟨I.pre,I.sB,I.sub,I.fj,I.kept,I.nB,I.fresh,I.st,I.nz,ρ⟩
theorem Gg(hn:A.length<=n)(ρ:bp ⟨B,H,A,λq=>∃o u,H q=some (.frz o u)⟩ A' B' H' U s')(M:ek A' B' v r)(O:blV n r=true):∃I,IH A B H I B' H' (fS n s'.S) v r:=by
 unfold fS;split
 .exact⟨_,post_of (ρ.gc hn)<|M.take _ O⟩
 .exact⟨_,post_of ρ M⟩
theorem P1(ρ:NS (λx _ H=>E (Zl.cl x.c) none H) t b)(I:N.length=n+k)(h:spS (fnS n k b) vs H Q E):t {nx:=λ_ H'=>Q .non H',rt:=Q} (L2.start N vs) H:=by
 obtain⟨A,B,S,xs,r,sub,tB,O,l,e,q⟩:=h;unfold fnS at e
 fail "qa"
 have R:=II sub tB O l s I;refine ρ _ A B H _ _ w _ R m ?_;have hn:=Nat.le_of_eq O.len;cases w with
 |nx s'=>cases f;exact λA' B' H' d a=>(let⟨g,p⟩:=Gg hn a (.pl .non) rfl;q _ g B' H' p)
 |bk s'=>cases f
 |ct s'=>cases f
 |er x s'=>cases f;exact λA' B' H' d a=>(let⟨g,p⟩:=Gg hn a (.pl .non) rfl;q g B' H' p)
 |rt o s'=>
  simp only[retS]at f;split at f
  .rename_i j
   cases f;exact λv A' B' H' d a i=>(let⟨g,p⟩:=Gg hn a i j;q v g B' H' p)
  .cases f
   exact λv A' B' H' d a i=>q v A' B' H' (post_of a i)
def JS(ρ:NS W0 t b)(I:N.length=n+k)(h:spQ (fnS n k b) vs H Q E):t {nx:=λ_ H'=>Q .non H',rt:=Q} (L2.start N vs) H:=P1 ρ I h
theorem sf(h:spS (fnS n k b) vs H Q E):vs.length=n:=by
 obtain⟨A,B,S,xs,w,sub,tB,O,c,e,q⟩:=h;unfold fnS at e;split at e
 .rename_i a;exact c.length.trans a
 .cases e
def cb(h:spQ (fnS n k b) vs H Q E):vs.length=n:=sf h
def zdX:yd->Option (D×Bool)
 | .rt (.pl d) _=>some (d,false)
 | .rt (.lc k) s=>match s.S[k]? with
  |some (some (.dat d))=>some (d,true)
  |_=>none
 | .nx _=>some (.none,false)
 |_=>none
def fnO(n k:Nat)(b:SN)(ds:List D):Option (D×Bool):=if ds.length=n then(b ⟨[],ds.map (λd=>some<|.pl d)++List.replicate k none⟩).bind zdX else none
theorem XZ(ρ:NS W0 t b)(I:N.length=n+k)(h:spM (fnO n k b) vs H Q E):t {nx:=λ_ H'=>Q .non H',rt:=Q} (L2.start N vs) H:=by
 obtain⟨B,ds,d,o,sub,tB,σ,e,q⟩:=h;unfold fnO at e
 fail "qa"
 have O:StO [] B H ([]:List<|Option Cl):=⟨rfl,List.nodup_nil,(λa h=>by cases h),(λa h=>by cases h),λk c a h=>by simp at h⟩
 have R:=II sub tB O (aZ.plV σ) (by simpa using s) I
 rw[List.map_map]at R;refine ρ _ [] B H _ _ w _ R m ?_;have post:∀{A':List Addr} {B' H':Hp} {l:St} {s':SS},bp ⟨B,H,[],λq=>∃o u,H q=some (.frz o u)⟩ A' B' H' l s'->aW H H'/\aW B B'/\aW B' H'/\(∀q,H q≠none->B q=none->B' q=none)/\(∀q xs,H' q=some (.tup xs)->B' q=some (.tup xs))/\∀q o u,H' q=some (.frz o u)->H q≠none:=λg=>
  ⟨λq u z=>g.kept q u z (by simp),g.sB,g.sub,g.nB,g.fj,λq o u z=>(let⟨_,_,y⟩:=g.nz q o u z;by rw[y];simp)⟩
 cases w with
 |nx s'=>
  cases f;intro A' B' H' l g;obtain⟨p1,p2,p3,p4,p,A⟩:=post g;exact q _ B' H' ⟨p1,p2,p3,p4,p,A,.non⟩
 |bk s'=>cases f
 |ct s'=>cases f
 |er x s'=>cases f
 |rt r s'=>
  intro v A' B' H' l g C;obtain⟨p1,p2,p3,p4,p,A⟩:=post g;cases r with
  |pl c=>
   cases f;cases C with
   |pl K=>exact q v B' H' ⟨p1,p2,p3,p4,p,A,K⟩
  |tp xs=>cases f
  |lc j=>
   have i:(match s'.S[j]? with
    |some (some (.dat d))=>some (d,true)
    |_=>none)=some (d,o):=f
   split at i
   .rename_i P F
    cases i;obtain⟨a,rfl,D⟩:∃a,v=.ref a/\A'[j]?=some a:=by cases C with|lc h=>exact⟨_,rfl,h⟩
    .have ha:=zeh D
     cases g.st.cell j _ _ F D with
     |dat G=>
      have hn:H a=none:=by
       rcases g.fresh a ha with z|z
       .cases z
       .exact z
      exact q _ B' H' ⟨p1,p2,p3,p4,p,A,⟨_,rfl,hn,g.st.dis _ ha,G⟩⟩
   .cases i
theorem X0(h:spM (fnO n k b) vs H Q E):vs.length=n:=by
 obtain⟨B,ds,d,o,sub,tB,c,e,q⟩:=h;unfold fnO at e;split at e
 .rename_i a;exact c.length.trans a
 .cases e
end
end Mir
namespace L2
open PySem.Spec PyProof.Rows
structure gm(P:Program)(w:World)(K:zee)(mg:Str->Option Value)(base:Heap)(CX:CXT)(k:Nat)(C:Addr)(m:Str)(ps:List Str)(dvs:List V)(sp:Sp):Prop where
 ex:∃(f:Addr) (fd:FuncData) (ds:List Value),dt P w K mg base CX k f fd ps sp/\Cls K C/\Meth K C m f/\Binds K fd ps ds/\Vals dvs ds
structure Bj(P:Program)(w:World)(K:zee)(mg:Str->Option Value)(base:Heap)(CX:CXT)(k:Nat)(x:Str)(C:Addr)(ps:List Str)(sp:Sp):Prop where
 ex:∃(f:Addr) (fd:FuncData),dt P w K mg base CX k f fd ps sp/\mg x=some (.ref C)/\Mk K C f/\Binds K fd ps []
structure Mem(K:zee)(x K1:Str)(st:Stmt)(f:Addr)(fd:FuncData)(dv:List V):Prop where
 ex:∃(oc:Value) (od:Option Addr) (dV kV doc pm:Value) (an:Option Addr) (cdv ct:Value) (osl:Array<|Option Value),
  fd=PySem.W.fnOf x K1 (jd st) (fw st) (ai st) dV kV doc pm an cdv ct/\K.lookup f=some ⟨oc,od,.func fd,osl⟩/\PySem.W.codeIn K cdv K1=true/\
  ((dv=[]/\dV=.none)\/dv≠[]/\∃T o items n,dV=.ref T/\K.lookup T=some o/\o.data=.seq items n/\Vals dv items.toList)
section
variable{P:Program}{w:World}{K:zee}{mg:Str->Option Value}{base:Heap}
theorem Mem.ok{st:Stmt}{f:Addr}{fd:FuncData}{dv:List V}{N ps:List Str}{k:Nat}{sp:Sp}(F:Mem K x K1 st f fd dv)(S:ay N ps<|ai st)(len:∀vs H Q E,sp vs H Q E->vs.length=ps.length)
  (I:∀(cdv:Value) (A:Around) (outer:List Env) (s:Shared) (H:Hp) (vs:List V) (Q:VK) (E:XK),cn k 9080->sp vs H Q E->
   ∃t,PSs (Be CX0 P w K mg base N K1 (ai st) f cdv A outer s H E).nox (fw st) t/\t {nx:=λ_ H'=>Q .non H',rt:=Q} (start N vs) H):dt P w K mg base CX0 (k+1) f fd ps sp:=by
 obtain⟨oc,od,dV,kV,doc,pm,an,cdv,ct,osl,rfl,lk,u,_⟩:=F.ex;refine ef lk u S len λA outer s H vs Q E D y=>?_
 obtain⟨t,h,q⟩:=I cdv A outer s H vs Q E D y;exact⟨t,h.nox,q⟩
theorem Mem.okX{st:Stmt}{f:Addr}{fd:FuncData}{dv:List V}{N ps:List Str}{k:Nat}{sp:Sp}(F:Mem K x K1 st f fd dv)(S:ay N ps<|ai st)(len:∀vs H Q E,sp vs H Q E->vs.length=ps.length)
  (I:∀(cdv:Value) (A:Around) (outer:List Env) (s:Shared) (H:Hp) (vs:List V) (Q:VK) (E:XK),cn k 9080->sp vs H Q E->
   ∃t,PSs (Be (CXW P w) P w K mg base N K1 (ai st) f cdv A outer s H E) (fw st) t/\t {nx:=λ_ H'=>Q .non H',rt:=Q} (start N vs) H):dt P w K mg base (CXW P w) (k+1) f fd ps sp:=by
 obtain⟨oc,od,dV,kV,doc,pm,an,cdv,ct,osl,rfl,lk,a,_⟩:=F.ex;exact ef lk a S len λA outer s H vs Q E c b=>I cdv A outer s H vs Q E c b
theorem Mem.binds{st:Stmt}{f:Addr}{fd:FuncData}{ps:List Str}(F:Mem K x K1 st f fd [])
  (h:∀(kV doc pm:Value) (an:Option Addr) (cdv ct:Value) (us:List Value),us.length=ps.length->bindArgs 9046 ⟨us,[]⟩=pure (ps.zip us)):Binds K fd ps []:=by
 obtain⟨oc,od,dV,kV,doc,pm,an,cdv,ct,osl,rfl,lk,_,hd⟩:=F.ex;rcases hd with⟨_,rfl⟩|⟨z,_⟩
 .exact .all (h kV doc pm an cdv ct)
 .exact absurd rfl z
theorem Mem.zbH{st:Stmt}{f:Addr}{fd:FuncData}{ps:List Str}{dv dvs:List V}(F:Mem K x K1 st f fd dv)(I:dv≠[])
  (h:∀(T:Addr) (kV doc pm:Value) (an:Option Addr) (cdv ct:Value) (items:Array Value),Vals dv items.toList->∃ds,Vals dvs ds/\∀us:List Value,(us++ds).length=ps.length->∃k,bindArgs (PySem.W.fnOf x K1 (jd st) (fw st) (ai st) (.ref T) kV doc pm an cdv ct) ⟨us,[]⟩=seqItems? (.ref T)>>=k/\k (some items)=pure (ps.zip<|us++ds)):∃ds,Binds K fd ps ds/\Vals dvs ds:=by
 obtain⟨oc,od,dV,kV,doc,pm,an,cdv,ct,osl,rfl,lk,e,hd⟩:=F.ex;rcases hd with⟨z,_⟩|⟨_,T,o,items,n,rfl,h1,h2,h3⟩
 .exact absurd z I
 .obtain⟨ds,h4,d⟩:=h T kV doc pm an cdv ct items h3
  refine⟨ds,λs us a g=>?_,h4⟩
  obtain⟨k,b,c⟩:=d us g;exact PySem.W.binds_K a rfl h1 h2 b c
def mem_mk{st:Stmt}{f:Addr}{oc:Value}{od an:Option Addr}{osl:Array<|Option Value}{kV doc pm cdv ct:Value}(l:K.lookup f=some ⟨oc,od,.func<|PySem.W.fnOf x K1 (jd st) (fw st) (ai st) .none kV doc pm an cdv ct,osl⟩)
  (c:PySem.W.codeIn K cdv K1=true):Mem K x K1 st f 9046 []:=⟨⟨oc,od,.none,kV,doc,pm,an,cdv,ct,osl,rfl,l,c,.inl ⟨rfl,rfl⟩⟩⟩
def X1{st:Stmt}{f T:Addr}{oc:Value}{od an:Option Addr}{osl:Array<|Option Value}{kV doc pm cdv ct:Value}{o:Obj}{items:Array Value}{n:Nat}{dv:List V}(I:dv≠[])(l:K.lookup f=some ⟨oc,od,.func<|PySem.W.fnOf x K1 (jd st) (fw st) (ai st) (.ref T) kV doc pm an cdv ct,osl⟩)
  (c:PySem.W.codeIn K cdv K1=true) (h1:K.lookup T=some o) (h2:o.data=.seq items n) (h3:Vals dv items.toList):Mem K x K1 st f (PySem.W.fnOf x K1 (jd st) (fw st) (ai st) (.ref T) kV doc pm an cdv ct) dv:=⟨⟨oc,od,.ref T,kV,doc,pm,an,cdv,ct,osl,rfl,l,c,.inr ⟨I,T,o,items,n,rfl,h1,h2,h3⟩⟩⟩
end
section
variable{X:Cx}{K:zee}{o e value:Expr}{es:List Expr}{f m x:Str}{p pos pos' apos:Pos}{ta tv:TE}{t tk:TA}{C:Addr}{k:Nat}{ps ks:List Str}{dvs:List V}{sp:Sp}{kws:List Keyword}
theorem P2(h:X.K=K)(ρ:PE X e ta)(I:attributeBase e f X.env (eval e X.env)=eval e X.env:=by rfl):PE X (.Attribute e f pos) (Th K ta f):=h▸zau ρ I
theorem X2(h:X.K=K)(ha:PE X o ta)(hv:PE X value tv)(I:swapsWith value (some<|.Attribute o f pos') pos.line X.env=pure false:=by rfl):PS X (.Assign [.Attribute o f pos'] value pos) (WM K ta tv f):=h▸zav ha hv I
theorem An{pl:Sem Bool}(D:gm X.prog X.w X.K X.mg X.base CX0 k C m ps dvs sp)(O:PE X o ta)(U:cn k X.A)(ha:PA X (e::es) t)
  (ρ:starEach (e::es) X.env=9013::starEach es X.env:=by rfl) (I:(backTo pos<|starEach es X.env).any (·.1)=false:=by rfl)
  (Y:eval 9006 X.env=(do
   let M<-eval o X.env
   standAt apos.atName
   let(f,first)<-holding [M] (getMethod M m pl)
   callWith pos f first 9050 9014):=by rfl) :
  PE X 9006 (DV C m sp dvs E0 ta t):=by
 obtain⟨f,fd,ds,F,c,hm,b,hd⟩:=D.ex;exact Pl O c hm F U b hd FC ha ρ I Y
theorem i6{pl:Sem Bool}(D:gm X.prog X.w X.K X.mg X.base CX0 k C m ps dvs sp)(ρ:PE X o ta)(M:cn k X.A)
  (O:eval (.Call 9015 [] [] pos) X.env=(do
   let I<-eval o X.env
   standAt apos.atName
   let(f,first)<-holding [I] (getMethod I m pl)
   callWith pos f first (backTo pos<|starEach [] X.env) 9014):=by rfl) :
  PE X (.Call 9015 [] [] pos) (DV C m sp dvs E0 ta Bc):=by
 obtain⟨f,fd,ds,F,c,hm,b,hd⟩:=D.ex;exact To ρ c hm F M b hd FC O
theorem qZ(D:Bj X.prog X.w X.K X.mg X.base CX0 k x C ps sp)(O:cn (k+1) X.A)(ρ:Gl X x:=by rfl)(I:(x==("__debug__":Str))=false:=by decide):PE X 9118 (Tj C sp [] E0 Bc):=by
 obtain⟨f,fd,F,hm,M,b⟩:=D.ex;exact Tq M F O ρ hm b .nil FC I
end
end L2
namespace Mir
open L2
section
variable [Zc] [Zl]{W:WX}
def jg(S:List<|Option Cl)(k:Nat):Option (Addr×List (Str×SV)):=match S[k]? with
 |some (some (.obj C fs))=>some (C,fs)
 |_=>none
theorem j8(h:jg S k=some y):S[k]?=some (some<|.obj y.1 y.2):=by
 unfold jg at h;split at h
 .rename_i C fs hk;cases h;exact hk
 .cases h
def cg(C:Addr)(a:EN)(f:Str):EN:=bN a λx s=>match x with
 | .lc k=>(jg s.S k).bind λy=>if y.1=C then(y.2.lookup f).map λz=>.ok z s else none
 |_=>none
theorem sg(ρ:Cls K C)(hn:di K C f)(ha:NE W I a):NE W (Th K I f) (cg C a f):=by
 fail "q1"
 split at i
 .rename_i k
  fail "qh"
  .rename_i n
   obtain⟨z,c,g⟩:=zd9 b;cases g;subst n;cases o with
   |lc m=>
    cases j.st.cell k _ _ (j8 d) m with
    |obj h1 h2 h3=>
     obtain⟨u,h4,h⟩:=h3.look c;exact⟨_,_,_,_,u,rfl,h1,ρ,hn,h4,l u D F N 9018 (aW.refl _) j h⟩
  .cases b
 .cases i
def jZ(C:Addr)(a v:EN)(f:Str):SN:=bS v λy=>bS a λx s=>match x with
 | .lc k=>(jg s.S k).bind λz=>if z.1=C/\z.2.length<1000 then some (.nx ⟨s.S.set k<|some<|.obj C<|AJ f y z.2,s.t⟩)else none
 |_=>none
theorem yy(I:Cls K C)(hn:di K C f)(ha:NE W ρ a)(hv:NE W M v):NS W (WM K ρ M f) (jZ C a v f):=by
 intro G A B H J s o D R e q;unfold jZ bS at e;split at e
 .rename_i y s1 h1
  dsimp only at e;refine hv G A B H J s _ _ R h1 λyv g h i N w l r=>?_
  split at e
  .rename_i x s2 h2
   try dsimp only at e
   refine ha G g h i J s1 _ _ l h2 λxv n p j E d R2 t=>?_
   split at e
   .rename_i k
    obtain⟨z,u,c⟩:=zd8 e;split at c
    .rename_i hz
     obtain⟨rfl,hz⟩:=hz;cases c;cases t with
     |lc m=>
      cases R2.st.cell k _ _ (j8 u) m with
      |obj h1 h2 h3=>
       have nx:∀{dx a:Addr} {gs:List<|Str×V},j a=some (.ins z.1 dx gs)->j dx=some (.own a)->dx≠a:=fun{dx a gs} p1 p2 F=>by rw[F,p1]at p2;cases p2
       refine⟨_,_,_,_,rfl,h1,I,hn,by rw[h3.length];exact hz,q n p _ J<|R2.write m trivial<|.obj aw (by rw[av<|nx h1 h2];exact h2)<|h3.put<|r.mono E d⟩
    .cases c
   .cases e
  .rename_i σ s2 h2
   cases e;exact ha G g h i J s1 _ _ l h2 λA' B' H' b=>q A' B' H' J b
  .cases e
 .rename_i σ s2 h2
  cases e;exact hv G A B H J s _ _ R h2 λA' B' H' b=>q A' B' H' J b
 .cases e
def cz(C:Addr)(I:Str)(f:FN)(dv:List D)(a:EN)(m:MN<|List SV):EN:=bN a λx s=>match x with
 | .lc k=>(jg s.S k).bind λy=>if y.1=C/\y.2.lookup I=none then bN m (λxs s2=>(f s2.S (.lc k::(xs++dv.map .pl))).map λw=>frR w s2.t) s else none
 |_=>none
theorem X3(hw:∀x J H',W x J H'->E (Zl.cl x.c) none H')(hd:∀B,aZ B dvs dv)(ha:NE W I a)(h:NA W t m):NE W (DV C ρ (spS f) dvs E I t) (cz C ρ f dv a m):=by
 fail "q1"
 split at i
 .rename_i k
  fail "qh"
  .rename_i hz
   obtain⟨rfl,hz⟩:=hz;cases o with
   |lc g=>
    cases j.st.cell k _ _ (j8 d) g with
    |obj h1 h2 h3=>
     refine⟨_,_,_,rfl,h1,h3.Dk hz,?_⟩;refine gr (t:=t) h j b l λvs xs K n P s2 w u R2 p r σ=>?_
     exact Gd R2 (.cons (.lc<|w _ _ g)<|p.append (hd n).plV) r σ λx H'=>hw x J H'
  .cases b
 .cases i
def vc(C:Addr)(f:FN)(m:MN<|List SV):EN:=bN m λxs s=>match f (s.S++9113) (.lc s.S.length::xs)with
 |some (.ok (.pl .none) S')=>some (.ok (.lc s.S.length) ⟨S',s.t⟩)
 |some (.er x S')=>some (.er x ⟨S',s.t⟩)
 |_=>none
def nLC(fr:List<|Str×Nat)(a:EN)(c:Rho->Option (Bool×Rho))(e:PM):EN:=bN a λx s=>(rdV s.S x).bind λd=>(asL d).bind λds=>(u9 c e (fr.map λp=>iY (vw s) p.2) ds).bind λh=>cIf (h.length<sizeLine) (if ej h=true then some (newD (.list h) s)else none) none
theorem zcU(ha:NE W I a)(ρ:MT Y c)(M:ME te e):NE W (tLC fr (Ld K I) Y te) (nLC fr a c e):=by
 intro G A B H J s r0 Q R E q;refine gr (t:=I) ha R E q λx v A1 j r s1 g1 P f D b O=>?_
 obtain⟨d,F,b⟩:=zd8 b;obtain⟨ds,σ,b⟩:=zd8 b;obtain⟨n,N,b⟩:=zd8 b;obtain⟨hz,b⟩:=cY b;split at b
 case isFalse=>cases b
 rename_i V
 cases b;have m:=wc f.st f.sub D F;rw[NV σ]at m;cases m with
 |lst k U=>
  refine⟨_,rfl,⟨_,qw k⟩,?_⟩;refine Zq ρ M f.opn (TZ k U) N hz λu B' H' E' w C _=>?_
  obtain⟨R2,eB,eH,X⟩:=f.back w;obtain⟨p,rfl,hB,S,l,_⟩:=C;have i:r p=none:=S;obtain⟨n1,n2,n3⟩:=f.Bh i;have g:=l.gv X (show mX (.list n) true=true from V);obtain⟨o,T,Z⟩:=g.mx;have h:tbu j H' p=none:=by
   cases h2:tbu j H' p with
   |none=>rfl
   |some o'=>
    rcases Bi h2 with h3|⟨_,xs,rfl,h3⟩
    .rw[n3]at h3;cases h3
    .exact absurd h3 (l.TU xs)
  have y:=R2.take (c:=.dat<|.list n) n1 n2 h T Z (.dat g);exact O _ _ _ H' 9102 eB y (.lc (by rw[<-f.st.len];exact List.getElem?_concat_length))
end
end Mir
namespace L2
open PySem.Spec PyProof.Rows
theorem dt.quiet{K:zee}{mg:Str->Option Value}{base:Heap}{k:Nat}{f:Addr}{fd:FuncData}{ps:List Str}{sp:Sp}(F:dt P w K mg base (CXW P w) k f fd ps sp):dt P w K mg base CX0 k f fd ps (λvs H Q _=>sp vs H Q E0) :=
 ⟨λvs H Q E h=>F.len vs H Q E0 h,λA outer s H args us vs Q E d c b hv g=>codeAny_mono (F.run A outer s H args us vs Q E0 d c b hv g) λr s' h=>by
  cases r with
  |ok a=>cases a with
   |ret u=>exact h
   |next=>exact h
   |brk=>exact h
   |cont=>exact h
  |error e=>obtain⟨_,_,_,_,_,_,a⟩:=h;exact a.wish.elim⟩
section
variable{P:Program}{w:World}{K:zee}{mg:Str->Option Value}{base:Heap}{k:Nat}{C:Addr}{x m:Str}{ps ks:List Str}{dvs:List V}{sp:Sp}
theorem gm.quiet(D:gm P w K mg base (CXW P w) k C m ps dvs sp):gm P w K mg base CX0 k C m ps dvs (λvs H Q _=>sp vs H Q E0):=by
 obtain⟨f,fd,ds,F,h1⟩:=D.ex;exact⟨⟨f,fd,ds,F.quiet,h1⟩⟩
end
section
variable{X:Cx}{K:zee}{o e value:Expr}{es:List Expr}{f m x:Str}{p pos pos' apos:Pos}{ta tv:TE}{t tk:TA}{C:Addr}{k:Nat}{ps ks:List Str}{dvs:List V}{sp:Sp}{kws:List Keyword}{E:XK}
theorem UL{pl:Sem Bool}(D:gm X.prog X.w X.K X.mg X.base (CXW X.prog X.w) k C m ps dvs sp)(hx:Passes (CXW X.prog X.w) X E)(O:PE X o ta)(U:cn k X.A)(ha:PA X (e::es) t)
  (ρ:starEach (e::es) X.env=9013::starEach es X.env:=by rfl) (I:(backTo pos<|starEach es X.env).any (·.1)=false:=by rfl)
  (Y:eval 9006 X.env=(do
   let M<-eval o X.env
   standAt apos.atName
   let(f,first)<-holding [M] (getMethod M m pl)
   callWith pos f first 9050 9014):=by rfl) :
  PE X 9006 (DV C m sp dvs E ta t):=by
 obtain⟨f,fd,ds,F,c,hm,b,hd⟩:=D.ex;exact Pl O c hm F U b hd hx ha ρ I Y
def UM(C:Addr)(m:Str)(sp:Sp)(dvs:List V)(ta:TE)(t:TA):TEX:=λE J H Q=>ta J H λx h=>∃a dx fs,x=.ref a/\h a=some 9099/\fs.lookup m=none/\
 t J h λvs D=>sp (x::(vs++dvs)) D Q (λcls _ F=>E J cls F)
theorem X4{J:St}{H:Hp}{s:Shared}{Q:VK}{us ds:List Value}{vs:List V}{f:Addr}{fd:FuncData}{E:XE}(F:dt X.prog X.w X.K X.mg X.base (CXW X.prog X.w) k f fd ps sp)(O:cn k X.A)(M:Binds X.K fd ps ds)(hd:Vals dvs ds)
  (I:Inv X C0 J H s) (r:Vals vs us) (h:sp (vs++dvs) H Q λcls _ ρ=>E J cls ρ):wpAny 9001 X.A (call (.ref f) us) 9033 (XP X C0 E) s:=by
 have c:Vals (vs++dvs) (us++ds):=r.append hd;have d:(us++ds).length=ps.length:=by rw[<-c.length];exact F.len _ _ _ _ h
 refine wpAny_call (codeAny_mono (F.run X.A X.stack s H ⟨us,[]⟩ (us++ds) (vs++dvs) Q _ O I.env0 (M s us I.kIn d) c h) λr s' a=>?_)
 cases r with
 |ok b=>
  cases b with
  |ret u=>exact I.after a
  |next=>exact False.elim a
  |brk=>exact False.elim a
  |cont=>exact False.elim a
 |error i=>
  obtain⟨ea,g,cls,B,ρ,rfl,b⟩:=a;exact⟨ea,g,cls,B,ρ,s,H,J,rfl,I,b⟩
theorem UN{pl:Sem Bool}(O:X.xe=λ_ _=>False)(D:gm X.prog X.w X.K X.mg X.base (CXW X.prog X.w) k C m ps dvs sp)(Y:PE X o ta)(hr:cn k X.A)(ha:PA X (e::es) t)
  (M:starEach (e::es) X.env=9013::starEach es X.env:=by rfl) (ρ:(backTo pos<|starEach es X.env).any (·.1)=false:=by rfl)
  (ht:eval 9006 X.env=(do
   let U<-eval o X.env
   standAt apos.atName
   let(f,first)<-holding [U] (getMethod U m pl)
   callWith pos f first 9050 9014):=by rfl) :
  PEX X 9006 (UM C m sp dvs ta t):=by
 obtain⟨f,fd,ds,F,c,hm,b,hd⟩:=D.ex;intro C0 s J H Q E I h;have no:∀(d:Value) (s':Shared),X.xe d s'->XP X C0 E d s':=λd s' z=>by rw[O]at z;exact z.elim
 refine PySem.W.methodCall_KW (pl:=pl) (ze5 (Y C0 s J H _ I h) (λu s1 ⟨x,j,g,v,a,dx,fs,ex,ea,l,q⟩=>?_) no) ht
 subst ex;obtain rfl:u=Value.ref a:=v;refine qm g ea c hm l ?_;refine PySem.W.callWith_K (first:=[.ref a]) (h₀:=X.base) I.ok.mod.kin hm.kp (ze5 (ha pos C0 s1 J j _ g q) (λus s2 ⟨vs,y,i,r,n⟩=>⟨i.kIn,?_⟩) no) M ρ
 exact X4 (us:=.ref a::us) (vs:=.ref a::vs) F hr b hd i (.cons rfl r) n
end
end L2
namespace Mir
open L2
section
variable [Zc] [Zl]{W:WX}
def UO(hd:∀B,aZ B dvs dv)(ha:NE (λx _ H=>E (Zl.cl x.c) none H) ρ a)(h:NA (λx _ H=>E (Zl.cl x.c) none H) t m):NE (λx _ H=>E (Zl.cl x.c) none H) (DV C I (spS f) dvs E ρ t) (cz C I f dv a m):=X3 (λ_ _ _ z=>z) hd ha h
def NX(t:TX)(m:SN):Prop:=∀E:XE,NS (λx J H=>E J (Zl.cl x.c) H) (t E) m
def NEX(t:TEX)(m:EN):Prop:=∀E:XE,NE (λx J H=>E J (Zl.cl x.c) H) (t E) m
def X5(h:NEX t m):NX (Uv t) (jn m):=λE=>PV (h E)
theorem UP(hd:∀B,aZ B dvs dv)(ha:∀W:WX,NE W I a)(h:∀W:WX,NA W t m):NEX (UM C ρ (spS f) dvs I t) (cz C ρ f dv a m):=by
 intro E G A B H J s T Q R e q;refine gr (t:=I) (ha _) R e q λx v F K N s1 S p c l i w=>?_
 split at i
 .rename_i k
  fail "qh"
  .rename_i hz
   obtain⟨rfl,hz⟩:=hz;cases l with
   |lc g=>
    cases c.st.cell k _ _ (j8 d) g with
    |obj h1 h2 h3=>
     refine⟨_,_,_,rfl,h1,h3.Dk hz,?_⟩;refine gr (t:=t) (h _) c b w λvs xs σ j P s2 u r R2 n o D=>?_
     exact Gd R2 (.cons (.lc<|u _ _ g)<|n.append (hd j).plV) o D λx H' z=>z
  .cases b
 .cases i
def LO(b:SN)(I:Str->Bool)(h:SN):SN:=λs=>match b s with
 |some (.er x s1)=>if I x.c=true then(match h s1 with
   |some (.er _ _)=>none
   |o=>o)else none
 |o=>o
theorem X6(I:NX O b)(hok:∀c,M c=true->ok (Zl.cl c))(ρ:∀cls e,NS W0 (U cls e) h):NS W (Zv O ok U) (LO b M h):=by
 intro G A B H J s o D R e q;unfold LO at e;split at e
 .rename_i x s1 h1
  split at e
  .rename_i hz
   refine I _ G A B H J s _ D R h1 λf g i d j=>⟨hok _ hz,λea k=>?_⟩
   split at e
   .cases e
   .rename_i a
    refine ρ _ ea G f g i d s1 o D j e ?_;cases o with
    |er y s'=>exact absurd e (a y s')
    |nx s'=>exact q
    |rt r s'=>exact q
    |bk s'=>exact q
    |ct s'=>exact q
  .cases e
 .rename_i o' hn
  refine I _ G A B H J s o D R e ?_;cases o with
  |er x s'=>exact absurd e (hn x s')
  |nx s'=>exact q
  |rt r s'=>exact q
  |bk s'=>exact q
  |ct s'=>exact q
end
end Mir
namespace L2
open PySem.Spec PyProof.Rows
end L2
namespace L2
open PySem.Spec PyProof.Rows PySem.W
end L2
namespace L2
open PySem.Spec PyProof.Rows PySem.W Builtin Builtin.ObjectAttr
abbrev XED:=St->Value->Option Addr->Hp->Prop
abbrev TXD:=XED->TS
end L2
namespace Mir
open L2
end Mir
namespace L2
open PySem.Spec PyProof.Rows
end L2
namespace L2
open PySem.Spec PyProof.Rows PySem.W
end L2
namespace Mir
open L2
section
variable [Zc] [Zl]{W:WX}
theorem aZ.snoc:∀{vs:List V} {ds:List D} {v:V} {d:D},aZ B vs ds->Rep B v d->aZ B (vs++[v]) (ds++[d])
 |_,_,_,_,.nil,r=>.cons r .nil
 |_,_,_,_,.cons a b,r=>.cons a (aZ.snoc b r)
end
end Mir
namespace L2
open PySem.Spec PyProof.Rows
section
variable{X:Cx}
def P4:V->List V->Hp->VK->Prop:=λx vs H Q=>∃z y:Str,x=.str z/\vs=[.str y]/\Q (.bl<|Txt.startswith z y) H
theorem RC:MtR X "str.startswith" P4:=by
 intro C0 s J H x xs v us Q I c b h;obtain⟨z,y,rfl,rfl,q⟩:=h;obtain⟨t,rfl⟩:=(show∃t,v=Value.str z t from c);cases b with
 |cons r a=>
  cases a;obtain⟨u,rfl⟩:=(show∃t,_=Value.str y t from r);exact PySem.SC.startswith ⟨.bl _,H,I,rfl,q⟩
def UQ:V->List V->Hp->VK->Prop:=λx vs H Q=>∃z:Str,x=.str z/\vs=[]/\Q (.bl<|Txt.isdigit z) H
theorem UR:MtR X "str.isdigit" UQ:=by
 intro C0 s J H x xs v us Q I b a h;obtain⟨z,rfl,rfl,q⟩:=h;obtain⟨t,rfl⟩:=(show∃t,v=Value.str z t from b);cases a;exact PySem.SC.isdigit ⟨.bl _,H,I,rfl,q⟩
def US:V->List V->Hp->VK->Prop:=λx vs H Q=>∃z y:Str,x=.str z/\vs=[.str y]/\(y.length==0)=false/\z.length<=100000/\(Txt.split z y).length<=100000/\∀p,H p=none->Q (.ref p) (upd H p<|.lst<|(Txt.split z y).map .str)
theorem IJ:∀{l:List<|Str×Tok} {ts:List Str},l.map (·.1)=ts->Vals (ts.map V.str) (strValues l)
 | [],_,e=>by subst e;exact .nil
 |p::l,_,e=>by subst e;exact .cons ⟨p.2,rfl⟩ (IJ rfl)
theorem UT(hy:(y.length==0)=false)
  (M:x.length<=sizeLine) (ρ:(Txt.split x y).length<=sizeLine)
  (I:∀l k,l.map (·.1)=Txt.split x y->Q (.ref s.heap.objs.size) {s with heap:=s.heap.push {cls:=.type "list",data:=.seq (strValues l).toArray},toks:=k}) :
  wpAny 9017 A (call (.builtin "str.split") [.str x t,.str y u]) Q E s:=by
 cases h1:9108
 .cases a:(Builtin.Str.occurrences x y 0 x.length<|x.length+1).isEmpty
  .have e:Txt.split x y=Builtin.Str.partsBetween x (Builtin.Str.occurrences x y 0 x.length<|x.length+1) y.length:=(if_neg<|ne_true_of_eq_false h1).trans (if_neg<|ne_true_of_eq_false a)
   refine call_meets F.slot_str_split (typeIs_str _ _ _) F.entry_str_split (F.args_str_split_2 _ _) (meets_str_split_sep x y t u h1 hy a M (by rw[<-e];exact ρ)) ?_
   show wants Q E _ {s with toks:=_,heap:=s.heap.push {cls:=.type "list",data:=.seq (strsFrom s.toks<|Builtin.Str.partsBetween x (Builtin.Str.occurrences x y 0 x.length<|x.length+1) y.length).toArray}}
   rw[strsFrom_eq];exact I (numbered s.toks _) _ ((numbered_texts _ _).trans e.symm)
  .exact call_meets F.slot_str_split (typeIs_str _ _ _) F.entry_str_split (F.args_str_split_2 _ _) (meets_str_split_not_found x y t u h1 hy a)
    (I [(x,t)] s.toks ((if_neg<|ne_true_of_eq_false h1).trans<|if_pos a).symm)
 .exact call_meets F.slot_str_split (typeIs_str _ _ _) F.entry_str_split (F.args_str_split_2 _ _) (meets_str_split_cannot_occur x y t u h1)
   (I [(x,t)] s.toks (if_pos h1).symm)
theorem UU:MtR X "str.split" US:=by
 intro C0 s J H x xs v us Q I f d h;obtain⟨z,y,rfl,rfl,hy,hz,a,q⟩:=h;obtain⟨t,rfl⟩:=(show∃t,v=Value.str z t from f);cases d with
 |cons r c=>
  cases c;obtain⟨u,rfl⟩:=(show∃t,_=Value.str y t from r);have w2:(Txt.split z y).length<=sizeLine:=zeW a (by decide)
  refine UT hy (zeW hz (by decide)) w2 λl k e=>?_
  refine⟨.ref s.heap.objs.size,_,I.laid (o:=.lst<|(Txt.split z y).map .str) (λb u e=>zep _ e) (zen _) ?_,rfl,q _<|I.hok.fresh<|zen _⟩
  exact⟨by rw[zej];exact w2,strValues l,0,IJ e,zeK _ rfl⟩
def Zz:List V->Hp->VK->Prop:=λxs H Q=>∃(z:Str) (n:Int),xs=[.str z]/\PySem.intText? z=some n/\z.length<=640/\Q (.int n) H
theorem RD:j4 X (.type "int") Zz:=by
 intro C0 s J H xs us Q I r h;obtain⟨z,n,rfl,hn,a,q⟩:=h;obtain⟨u,rfl,b⟩:=vals1 r;obtain⟨t,rfl⟩:=(show∃t,u=Value.str z t from b);exact PySem.W.KIN.call_text hn a ⟨.int n,H,I.tok _,⟨_,rfl⟩,q⟩
def ba(n:Int):Str:=Str.ofString (toString n)
def ZA:List V->Hp->VK->Prop:=λxs H Q=>∃n:Int,xs=[.int n]/\n.natAbs.log2<1920/\Q (.str<|ba n) H
theorem RE:j4 X (.type "str") ZA:=by
 intro C0 s J H xs us Q I r h;obtain⟨n,rfl,hn,q⟩:=h;obtain⟨u,rfl,a⟩:=vals1 r;obtain⟨t,rfl⟩:=(show∃t,u=Value.int n t from a);exact PySem.P.str_of_int hn ⟨.str<|ba n,H,I.tok _,⟨_,rfl⟩,q⟩
def zcV:V->Option Int->Option Int->Hp->VK->Prop:=λx lo hi H Q=>∃(z:Str) (i:Int),x=.str z/\lo=some i/\hi=none/\z.length<=100000/\Q (.str<|Txt.slice z (some i) none) H
theorem zbI:SlR X zcV:=by
 intro C0 s J H x v f g lo hi sl Q I c a pl b h;obtain⟨z,i,rfl,rfl,rfl,hz,q⟩:=h;obtain⟨t,rfl⟩:=(show∃t,v=Value.str z t from c);cases pl with
 |int i d=>
  cases b;exact⟨"str",_,F.slot_str_getitem.lookup,typeIs_str _ _ _,wpAny_getItem_str_slice (l:=some (i,d)) (u:=none) (st:=none) a rfl
   (post_val_or_str ⟨zeW (Txt.slice_le z _ _) (zeW hz (by decide)),λe k=>⟨.str _,H,I.tok _,⟨_,rfl⟩,q⟩⟩)⟩
abbrev TF:=Str->St->Hp->(Str->Hp->Prop)->Prop
def PF(X:Cx)(es:List Expr)(t:TF):Prop:=∀(E:Str) (C0:List<|Addr×Obj) (s:Shared) (J:St) (H:Hp) (Q:Str->Hp->Prop),Inv X C0 J H s->t E J H Q->
 Joins 9001 X.A X.xe (evalEach es X.env) E (λD h=>∃F,Inv X C0 J F h/\Q D F) s
def ZC:TF:=λh J H Q=>Q h H
def zbJ:PF X [] ZC:=λa C0 s J H Q I h=>Joins_nil ⟨H,I,h⟩
def tFC(z:Str)(t:TF):TF:=λh J H Q=>(h++z).length<=sizeLine/\t (h++z) J H Q
theorem zdY(ρ:PE X c<|tC<|.str z)(h:PF X es t):PF X (c::es) (tFC z t):=by
 intro d C0 s J H Q I b;refine Joins_cons (thn (ρ C0 s J H (λx a=>x=.str z/\a=H) I ⟨rfl,rfl⟩) λu s1 ⟨x,a,e,f,ex,eH⟩=>?_)
 subst ex eH;obtain⟨t,rfl⟩:=(show∃t,u=Value.str z t from f);exact⟨z,t,rfl,b.1,h (d++z) C0 s1 J a Q e b.2⟩
def UW:V->Option Str
 | .int n=>if n.natAbs.log2<1920 then some (ba n)else none
 | .str z=>some z
 |_=>none
def tFV(I:TE)(t:TF):TF:=λh J H Q=>I J H λx D=>∃z,UW x=some z/\z.length<=100000/\(h++z).length<=sizeLine/\t (h++z) J D Q
theorem zdZ(hv:PE X v ρ)(h:PF X es t):PF X (.FormattedValue v (-1) none M::es) (tFV ρ t):=by
 intro g C0 s J H Q I j;refine Joins_cons (wpAny_FormattedValue_plain<|thn (hv C0 s J H _ I j) λf s2 ⟨k,b,c,e,z,a,hz,ha,d⟩=>?_)
 cases k with
 |int n=>
  obtain⟨t2,rfl⟩:=(show∃t,f=Value.int n t from e);simp only[UW]at a;split at a
  .rename_i i
   cases a;exact wpAny_formatField_int i ⟨_,_,rfl,ha,h (g++ba n) C0 _ J b Q (c.tok _) d⟩
  .cases a
 |str x=>
  obtain⟨t2,rfl⟩:=(show∃t,f=Value.str x t from e);cases a;exact wpAny_formatField_str ⟨_,_,rfl,ha,h _ C0 _ J b Q c d⟩ ⟨_,_,rfl,ha,h _ C0 _ J b Q (c.tok _) d⟩ (zeW hz (by decide))
 |_=>cases a
theorem Gh:∀{l:List<|Sem Value} {I:Str} {Q ρ:Str->Shared->Prop} {s:Shared},Joins M A E l I Q s->(∀o s1,Q o s1->ρ o s1)->Joins M A E l I ρ s
 | [],_,_,_,_,h,k=>k _ _ h
 |_::_,_,_,_,_,h,k=>ze5 h (λ_ _ ⟨y,t,e,z,j⟩=>⟨y,t,e,z,Gh j k⟩) λ_ _ e=>e
def tJs(t:TF):TE:=λJ H Q=>t Str.empty J H λh D=>h.length<=sizeLine/\Q (.str h) D
theorem zcW(h:PF X (a::b::es) t):PE X (.JoinedStr (a::b::es) pos) (tJs t):=by
 intro C0 s J H Q I f;refine wpAny_JoinedStr ?_;refine Gh (h Str.empty C0 s J H _ I f) λc s1 ⟨d,e,hz,q⟩=>⟨hz,.str c,d,e.tok _,⟨_,rfl⟩,q⟩
end
section
variable{κ:Type} [DecidableEq κ]
def j3(G0:List<|κ×V)(k : κ):Option V:=(G0.find? λh=>decide<|h.1=k).map (·.2)
def putK(G0:List<|κ×V)(k : κ)(v:V):List (κ×V) :=
 if(G0.any λh=>decide<|h.1=k)=true then G0.map (λh=>if h.1=k then(h.1,v)else h)else G0++[(k,v)]
theorem yV{k : κ}(e:p.1=k):j3 (p::r) k=some p.2:=by simp[j3,List.find?_cons,e]
theorem yW{k : κ}(e : ¬p.1=k):j3 (p::r) k=j3 r k:=by simp[j3,List.find?_cons,e]
theorem Gi(k : κ):∀G0:List (κ×V),(G0.any λI=>decide<|I.1=k)=(j3 G0 k).isSome
 | []=>rfl
 |p::r=>by
  rw[List.any_cons]
  by_cases e:p.1=k
  .simp only[yV e,decide_eq_true e,Bool.true_or,Option.isSome_some]
  .rw[yW e,zeN e,Bool.false_or];exact Gi k r
theorem Eb(G0:List<|κ×V)(k : κ)(v:V):(putK G0 k v).length<=G0.length+1:=by
 unfold putK;split
 .rw[zej];lia
 .rw[zes,zeu,List.length_nil];lia
theorem LP{k : κ}(v:V)(h:j3 G0 k=none):putK G0 k v=G0++[(k,v)]:=by
 unfold putK;rw[Gi,h];exact if_neg (by decide)
theorem vt.qj(r:vt o u):o.isSome=u.isSome:=by
 cases o with
 |none=>cases u with
  |none=>rfl
  |some _=>exact(show False from r).elim
 |some _=>cases u with
  |none=>exact(show False from r).elim
  |some _=>rfl
theorem vt.getD(r:vt o u)(ρ:RelV d I):RelV (o.getD d) (u.getD I):=by
 cases o with
 |none=>cases u with
  |none=>exact ρ
  |some _=>exact(show False from r).elim
 |some _=>cases u with
  |none=>exact(show False from r).elim
  |some _=>exact r
theorem KV.val(r:KV G0 vs)(k : κ):vt (j3 G0 k) (valueAt vs k):=by
 unfold KV at r
 induction r with
 |nil=>exact True.intro
 | @cons p q ps d h t g=>
  obtain⟨h1,h2⟩:=h
  by_cases e:p.1=k
  .have a:q.1=k:=h1.symm.trans e
   have b:valueAt (q::d) k=some q.2:=by simp[valueAt,List.find?_cons,a]
   rw[yV e,b];exact h2
  .have a : ¬q.1=k:=λz=>e (h1.trans z)
   have b:valueAt (q::d) k=valueAt d k:=by simp[valueAt,List.find?_cons,a]
   rw[yW e,b];exact g
theorem KV.any(r:KV G0 vs)(k : κ):(G0.any λI=>decide<|I.1=k)=vs.any λI=>decide (I.1=k):=by
 unfold KV at r
 induction r with
 |nil=>rfl
 |cons h t a=>rw[List.any_cons,List.any_cons,a,h.1]
theorem KV.repl(r:KV G0 vs)(k : κ)(ρ:RelV y u) :
  KV (G0.map λI=>if I.1=k then(I.1,y)else I) (vs.map λI=>if I.1=k then(I.1,u)else I):=by
 unfold KV at r⊢
 induction r with
 |nil=>exact .nil
 | @cons p q ps b h t a=>
  rw[zey,zey];refine .cons ?_ a;obtain⟨h1,h2⟩:=h
  by_cases e:p.1=k
  .rw[if_pos e,if_pos<|h1.symm.trans e];exact⟨h1,ρ⟩
  .rw[if_neg e,if_neg λz=>e<|h1.trans z];exact⟨h1,h2⟩
theorem KV.put(r:KV G0 vs)(k : κ)(I:RelV y u):KV (putK G0 k y) (stored vs k u):=by
 unfold putK stored;rw[r.any k]
 by_cases e:(vs.any λa=>decide<|a.1=k)=true
 .rw[if_pos e,if_pos e];exact r.repl k I
 .rw[if_neg e,if_neg e];exact Paired.snoc r ⟨rfl,I⟩
theorem KV.length{vs:List<|κ×Value}(r:KV G0 vs):G0.length=vs.length:=Paired.length r
end
theorem Ec(r:RelV (kV k) u):(gg P w).is k u=true:=by
 cases k with
 |inl i=>obtain⟨t,e⟩:=(show∃t,u=Value.int i t from r);subst e;exact K7 P w i t
 |inr x=>obtain⟨t,e⟩:=(show∃t,u=Value.str x t from r);subst e;exact K8 P w x t
theorem IK:∀{I:List Key} {us:List Value},Vals (I.map kV) us->ItemsAre (gg P w) I us
 | [],_,r=>by rw[List.map_nil]at r;cases r;exact .nil
 |k::I,_,r=>by
  rw[zey]at r;cases r with
  |cons h t=>exact .cons (Ec h) (IK t)
abbrev KT(H:Hp):List (List Key×V)->List (List Key×Addr×Value)->Prop:=Paired λp q=>p.1=q.1/\H q.2.1=some (.tup<|p.1.map kV)/\RelV p.2 q.2.2
theorem KT.val(r:KT H G0 xs)(k:List Key):vt (j3 G0 k) ((atKey xs k).map (·.2)):=by
 induction r with
 |nil=>exact True.intro
 | @cons p q ps d h t g=>
  obtain⟨h1,_,h2⟩:=h
  by_cases e:p.1=k
  .have a:q.1=k:=h1.symm.trans e
   have b:atKey (q::d) k=some q.2:=by simp[atKey,List.find?_cons,a]
   rw[yV e,b];exact h2
  .have a : ¬q.1=k:=λz=>e (h1.trans z)
   have b:atKey (q::d) k=atKey d k:=by simp[atKey,List.find?_cons,a]
   rw[yW e,b];exact g
theorem KT.repl(r:KT H G0 xs)(k:List Key)(ρ:RelV y u) :
  KT H (G0.map λI=>if I.1=k then(I.1,y)else I) (xs.map<|putAt k u):=by
 induction r with
 |nil=>exact .nil
 | @cons p q ps b h t a=>
  rw[zey,zey];refine .cons ?_ a;obtain⟨h1,h2,h3⟩:=h;unfold putAt
  by_cases e:p.1=k
  .rw[if_pos e,if_pos<|h1.symm.trans e];exact⟨h1,h2,ρ⟩
  .rw[if_neg e,if_neg λz=>e<|h1.trans z];exact⟨h1,h2,h3⟩
theorem KT.put(r:KT H G0 xs)(k:List Key)(ρ:H b=some (.tup<|k.map kV))(I:RelV y u) :
  KT H (putK G0 k y) (storedH xs k b u):=by
 have e:(G0.any λa=>decide<|a.1=k)=(atKey xs k).isSome:=by
  rw[Gi,(r.val k).qj,Option.isSome_map]
 unfold putK storedH;rw[e]
 by_cases q:(atKey xs k).isSome=true
 .rw[if_pos q,if_pos q];exact r.repl k I
 .rw[if_neg q,if_neg q];exact Paired.snoc r ⟨rfl,ρ,I⟩
def KT.keeps(r:KT H G0 xs)(ρ:∀b I,H b=some (.tup I)->H' b=some (.tup I)):KT H' G0 xs :=
 Paired.Z7 r λ_ _ z=>⟨z.1,ρ _ _ z.2.1,z.2.2⟩
section
variable{P:Program}{w:World}{H:Hp}{h:Heap}{a:Addr}
def ZD(ok:HOk P w H h)(e:Rd H a u):ft P w H h a u:=e.ok ok
def LQ(ok:HOk P w H h)(e:Rd H a<|.dK G0):G0.length<=sizeLine/\9101=false/\∃vs,KV G0 vs/\h.DictOf (gg P w) a vs :=
 show ft P w H h a (.dK G0)from ZD ok e
def ZE(ok:HOk P w H h)(e:H a=some (.dK G0)):G0.length<=sizeLine/\9101=false/\∃vs,KV G0 vs/\h.DictOf (gg P w) a vs:=LQ ok (.inl e)
theorem Gj(ok:HOk P w H h)(e:H a=some (.tup<|I.map kV)):(tupleKind<|gg P w).is h I a:=by
 obtain⟨_,b,r,o,h1,h2,n,h3⟩:=ft.BO (P:=P) (w:=w) (H:=H) (ok a _ e);exact⟨o,b.toArray,n,h1,h2,h3,by simpa using IK r⟩
theorem LR(ok:HOk P w H h)(e:Rd H a<|.dT G0):G0.length<=sizeLine/\9101=false/\
  ∃xs,KT H G0 xs/\h.DictOfH (tupleKind<|gg P w) a xs:=by
 obtain⟨z,y,xs,r,o,es,c,h1,h2,h3,h4,d⟩:=(show ft P w H h a (.dT G0)from ZD ok e);refine⟨z,y,xs,r,o,es,c,h1,h2,h3,h4,λx hx=>?_,d⟩
 have all:∀{l:List<|List Key×V} {m:List<|List Key×Addr×Value},KT H l m->∀x∈m,(tupleKind<|gg P w).is h x.1 x.2.1:=by
  intro l m q
  induction q with
  |nil=>intro x hx;exact nomatch hx
  | @cons p q ps g b t f=>
   intro x hx;rcases zed hx with e|hx
   .subst e
    exact Gj ok (by rw[<-b.1];exact b.2.1)
   .exact f x hx
 exact all r x hx
def zcX(ok:HOk P w H h)(e:H a=some (.dT G0)):G0.length<=sizeLine/\9101=false/\
  ∃xs,KT H G0 xs/\h.DictOfH (tupleKind<|gg P w) a xs:=LR ok (.inl e)
end
def JT(H:Hp)(a:Addr)(y:V)(r:Option V):Prop :=
 (∃G0 k,Rd H a (.dK G0)/\y=kV k/\r=j3 G0 k)\/∃G0 k b,Rd H a (.dT G0)/\y=.ref b/\H b=some (.tup<|k.map kV)/\r=j3 G0 k
def zcY(H:Hp)(a:Addr)(y v:V)(H':Hp):Prop :=
 (∃G0 k,H a=some (.dK G0)/\y=kV k/\G0.length<sizeLine/\H'=upd H a (.dK<|putK G0 k v))\/
 ∃G0 k b,H a=some (.dT G0)/\y=.ref b/\H b=some (.tup<|k.map kV)/\G0.length<sizeLine/\H'=upd H a (.dT<|putK G0 k v)
theorem JT.k{G0:List<|Key×V}{k:Key}(e:H a=some (.dK G0)):JT H a (kV k) (j3 G0 k):=.inl ⟨G0,k,.inl e,rfl,rfl⟩
section
variable{X:Cx}{C0:List<|Addr×Obj}{J:St}{H:Hp}{s:Shared}{a:Addr}{y v:V}{u r:Value}{o:Option V}{A:Around}{E:Value->Shared->Prop}
theorem Inv.big(I:Inv X C0 J H s):sysModules<s.heap.objs.size:=by
 have h:mainGlobals<s.heap.objs.size:=(I.mod.glob.keeps I.bk).lt;exact Nat.lt_trans (by decide) h
theorem RF(hu:A.units+1<cLine)(I:Inv X C0 J H s)(g:JT H a y<|some v)(M:RelV y u)(h:∀ρ s',Inv X C0 J H s'->RelV v ρ->Q ρ s') :
  wpAny 9001 A (getItem (.ref a) u) Q E s:=by
 rcases g with⟨G0,k,e,i,l⟩|⟨G0,k,b,e,i,m,l⟩
 .subst i
  obtain⟨z,hd,vs,c,f⟩:=LQ I.hok e;obtain⟨ρ,hw,d⟩:=vt.some_of (v:=v) (o:=valueAt vs k) (by rw[l];exact c.val k)
  exact wpAny_getItem_of (Ec M) f.mapOf hw (h ρ _ (I.tok _) d)
 .subst i
  cases(show u=Value.ref b from M);obtain⟨z,hd,xs,c,f⟩:=LR I.hok e;obtain⟨ρ,hw,d⟩:=vt.some_of (v:=v) (o:=(atKey xs k).map (·.2)) (by rw[l];exact c.val k)
  obtain⟨p,n,j⟩:=zd9 hw;refine wpAny_getItem_heap (tupleKind_room_in1 hu) (Gj I.hok m) f n ?_;rw[j];exact h ρ _ (I.tok _) d
theorem zd0(hu:A.units+1<cLine)(I:Inv X C0 J H s)(g:JT H a y o)(ρ:RelV y u)(h:∀s',Inv X C0 J H s'->Q (.bool o.isSome) s') :
  wpAny 9001 A (compareOp .In u<|.ref a) Q E s:=by
 rcases g with⟨G0,k,e,f,l⟩|⟨G0,k,b,e,f,i,l⟩
 .subst f
  obtain⟨z,hd,vs,c,d⟩:=LQ I.hok e;refine wpAny_in_of (Ec ρ) hd d.mapOf ?_;rw[<-(c.val k).qj,<-l];exact h _ (I.tok _)
 .subst f
  cases(show u=Value.ref b from ρ);obtain⟨z,hd,xs,c,d⟩:=LR I.hok e;refine wpAny_in_heap (tupleKind_room_in1 hu) (Gj I.hok i) hd d ?_;have q:=(c.val k).qj;rw[Option.isSome_map]at q;rw[<-q,<-l];exact h _ (I.tok _)
theorem X7(hu:A.units+1<cLine)(I:Inv X C0 J H s)(g:JT H a y o)(ρ:RelV y u)(h:∀s',Inv X C0 J H s'->Q (.bool<|!o.isSome) s') :
  wpAny 9001 A (compareOp .NotIn u<|.ref a) Q E s:=by
 rcases g with⟨G0,k,e,f,l⟩|⟨G0,k,b,e,f,i,l⟩
 .subst f
  obtain⟨z,hd,vs,c,d⟩:=LQ I.hok e;refine wpAny_notIn_of (Ec ρ) hd d.mapOf ?_;rw[<-(c.val k).qj,<-l];exact h _ (I.tok _)
 .subst f
  cases(show u=Value.ref b from ρ);obtain⟨z,hd,xs,c,d⟩:=LR I.hok e;refine wpAny_notIn_heap (tupleKind_room_in1 hu) (Gj I.hok i) hd d ?_;have q:=(c.val k).qj;rw[Option.isSome_map]at q;rw[<-q,<-l];exact h _ (I.tok _)
def P5(I:Inv X C0 J H s)(O:Mut<|H a)(M:Heap.SameBut a s.heap h')(ρ:∃q,h'.get? a=some q)(new:ft X.prog X.w (upd H a ob) h' a ob) :
  Inv X C0 J (upd H a ob) {s with heap:=h',toks:=U} :=
 I.write (x:=a) (e:=a) O (.inl rfl) (λb q c z=>(M.2 b c).trans z) ρ new
def zbK(z:G0.length<=sizeLine)(hd:9101=false)(I:KV G0 vs)(ρ:h'.DictOf (gg P w) a vs) :
  ft P w H' h' a (.dK G0):=⟨z,hd,vs,I,ρ⟩
theorem RG(hu:A.units+1<cLine)(I:Inv X C0 J H s)(g:zcY H a y v H')(M:RelV y u)(ρ:RelV v r)(h:∀s',Inv X C0 J H' s'->Q () s') :
  wpAny 9001 A (setItem (.ref a) u r) Q E s:=by
 rcases g with⟨G0,k,e,m,l,eH⟩|⟨G0,k,b,e,m,t,l,eH⟩
 .subst m eH
  obtain⟨z,hd,vs,d,j⟩:=ZE I.hok e;have hz:vs.length<=sizeLine:=by rw[<-d.length];exact z
  have n:(putK G0 k v).length<=sizeLine:=by have:=Eb G0 k v;lia
  refine wpAny_setItem_pairs (hsz:=hz) (Ec M) j λh' f p=>h _ ?_
  have D:∃q,h'.get? a=some q:=let⟨q,_,_,i,_⟩:=f;⟨q,i⟩
  exact P5 I (by rw[e];exact True.intro) p D (zbK n hd (d.put k ρ) f)
 .subst m eH
  cases(show u=Value.ref b from M);obtain⟨z,hd,xs,d,j⟩:=zcX I.hok e;have hz:xs.length<=sizeLine:=by rw[<-Paired.length d];exact z
  have n:(putK G0 k v).length<=sizeLine:=by have:=Eb G0 k v;lia
  refine wpAny_setItem_heap (hsz:=hz) (tupleKind_room_in1 hu) (Gj I.hok t) j λh' f p=>h _ ?_
  obtain⟨q,es,B,i,h2,h3,h4,_,C⟩:=f;refine P5 I (by rw[e];exact True.intro) p ⟨q,i⟩ ⟨n,hd,_,(d.put k t ρ).keeps λc F x=>?_,q,es,B,i,h2,h3,h4,C⟩
  rw[av<|zce x e λz=>nomatch z]
  exact x
end
def zbL(i:Expr):Prop:=∀D h,subscripted i false D h=operate [D,h] (getItem D h)
theorem P6{A:Around}{E:Value->Shared->Prop}{s:Shared}{env:Env}{ρ I:Expr}{pos:Pos}{T id:String}{Q:Value->Shared->Prop}
  (U:typeLookup (.type T) "__getitem__"=pure (some<|.builtin id)) (Y:zbL I)
  (h:wpAny 9017 A (eval ρ env) (λo O=>wpAny 9017 A (eval I env) (λi M=>M.TypeIs o T/\wpAny 9017 A (getItem o i) Q E M) E O) E s) :
  wpAny 9017 A (eval (.Subscript ρ I pos) env) Q E s:=by
 refine Subscript_ (ze5 h (λo O d=>ze5 d (λi M a=>?_) λ_ _ x=>x) λ_ _ x=>x)
 obtain⟨f,a⟩:=a;unfold subscriptTail;refine zeH ?_;rw[getitemInPython_of_ne f.not_modules];refine zeH (wpAny_specialOf f U ?_);have c:wpAny 9017 A (subscripted I false o i) (λr b=>wpAny 9017 A (letTemporaryGo ρ o r>>=λ_=>pure r) Q E b) E M:=by
  rw[Y o i];exact wpAny_operating (ze5 a (λr b e=>zeH<|wpAny_letTemporaryGo<|zeY e) λ_ _ x=>x)
 first
  |exact zeY (zeH c)
  |exact zeH (zeY (zeH c))
  |exact zeH c
theorem LU{J:St}{H:Hp}{s:Shared}{a:Addr}{y:V}{o:Option V}(I:Inv X C0 J H s)(g:JT H a y o):s.TypeIs (.ref a) "dict":=by
 rcases g with⟨G0,k,e,_,_⟩|⟨G0,k,b,e,_,_,_⟩
 .obtain⟨_,_,vs,_,c⟩:=LQ I.hok e
  exact c.typeIs
 .obtain⟨_,_,xs,_,c⟩:=LR I.hok e
  exact c.typeIs
def ZF(I ty:TE):TE:=λJ H Q=>I J H λx D=>ty J D λy h=>∃a v,x=.ref a/\JT h a y (some v)/\Q v h
def zcZ(ty I:TE):TE:=λJ H Q=>ty J H λy D=>I J D λx h=>∃a o,x=.ref a/\JT h a y o/\Q (.bl o.isSome) h
def P7(ty I:TE):TE:=λJ H Q=>ty J H λy D=>I J D λx h=>∃a o,x=.ref a/\JT h a y o/\Q (.bl<|!o.isSome) h
def ZG(I ty M:TE):TS:=λD J H=>M J H λv E=>I J E λx F=>ty J F λy σ=>∃a h,x=.ref a/\zcY σ a y v h/\D.nx J h
section
variable{X:Cx}{o i e value:Expr}{pos pos' tpos:Pos}{td ty tv:TE}
theorem X8(hu:X.A.units+1<cLine)(ρ:PE X o td)(hi:PE X i ty)(M:zbL i):PE X (.Subscript o i pos) (ZF td ty):=by
 intro C0 s J H Q I h;refine P6 PySem.F.slot_dict_getitem.lookup M (thn 9075 λu s1 ⟨x,d,j,n,l⟩=>thn (hi C0 s1 J d _ j l) λq s2 ⟨y,f,c,p,a,v,ex,g,m⟩=>?_)
 subst ex;obtain rfl:u=Value.ref a:=n;exact⟨LU c g,RF hu c g p λt r k b=>⟨v,f,k,b,m⟩⟩
theorem zbM(hu:X.A.units+1<cLine)(hi:PE X i ty)(ρ:PE X o td):PC X .In i o (zcZ ty td):=by
 intro C0 s J H Q I h;refine thn (hi C0 s J H _ I h) λq s1 ⟨y,b,d,p,l⟩=>thn (ρ C0 s1 J b _ d l) λu s2 ⟨x,c,f,n,a,k,ex,g,m⟩=>?_
 subst ex;obtain rfl:u=Value.ref a:=n;exact zd0 hu f g p λr j=>⟨.bl k.isSome,c,j,rfl,m⟩
theorem RH(hu:X.A.units+1<cLine)(hi:PE X i ty)(ρ:PE X o td):PC X .NotIn i o (P7 ty td):=by
 intro C0 s J H Q I h;refine thn (hi C0 s J H _ I h) λq s1 ⟨y,b,d,p,l⟩=>thn (ρ C0 s1 J b _ d l) λu s2 ⟨x,c,f,n,a,k,ex,g,m⟩=>?_
 subst ex;obtain rfl:u=Value.ref a:=n;exact X7 hu f g p λr j=>⟨.bl<|!k.isSome,c,j,rfl,m⟩
theorem X9(hu:X.A.units+1<cLine)(ρ:PE X o td)(hi:PE X i ty)(hv:PE X value tv)(M:swapsWith value (some<|.Subscript o i pos') pos.line X.env=pure false) :
  PS X (.Assign [.Subscript o i pos'] value pos) (ZG td ty tv):=by
 intro C0 s J H D I h;refine wpAny_Assign_Subscript (thn (hv C0 s J H _ I h) λr s1 ⟨v,b,f,q,m⟩=>thn (ρ C0 s1 J b _ f m) λu s2 ⟨x,c,j,t,n⟩=>thn (hi C0 s2 J c _ j n) λC E ⟨y,B,k,w,a,d,ex,g,p⟩=>?_) M
 subst ex;obtain rfl:u=Value.ref a:=t;exact RG hu k g w q λF l=>⟨J,d,l,p⟩
end
def UX(h:Heap)(I:sysModules<h.objs.size):ft P w H (h.push {cls:=.type "dict",data:=.dict #[]}) h.objs.size (.dK []) :=
 ⟨Nat.zero_le _,beq_eq_false_iff_ne.mpr<|Ne.symm<|zeR I,[],.nil,Heap.DictOf.new h⟩
def UY:TE:=λ_ H Q=>∀p,H p=none->Q (.ref p) (upd H p<|.dK [])
section
variable{X:Cx}{pos:Pos}
def UZ:PE X (.Dict [] [] pos) UY:=λC0 s J H Q I h=>
 wpAny_Dict_empty ⟨.ref s.heap.objs.size,_,I.laid (a:=s.heap.objs.size) (o:=.dK []) (t':=s.toks) (λ_ _ q=>zep _ q) (zen _)<|UX s.heap I.big,rfl,h _<|I.hok.fresh<|zen _⟩
end
structure DkK(P:Program)(w:World)(K:zee)(a:Addr)(G0:List<|Key×V):Prop where
 hd:(a==sysModules)=false
 of:∀h:Heap,K.In h->∃vs,KV G0 vs/\h.DictOf (gg P w) a vs
section
variable{X:Cx}{C0:List<|Addr×Obj}{J:St}{H:Hp}{s:Shared}{a:Addr}{G0:List<|Key×V}{o i:Expr}{ty:TE}{pos:Pos}
def ZH(G0:List<|Key×V)(ty:TE):TE:=λJ H Q=>ty J H λy h=>∃k v,y=kV k/\j3 G0 k=some v/\Q v h
def zc1(f:Bool->Bool)(G0:List<|Key×V)(ty:TE):TE:=λJ H Q=>ty J H λy h=>∃k,y=kV k/\Q (.bl<|f (j3 G0 k).isSome) h
theorem U0(D:DkK X.prog X.w X.K a G0)(hm:X.mg x=some (.ref a))(hi:PE X i ty)(M:zbL i)(ρ:Gl X x:=by rfl)(hx:(x==("__debug__":Str))=false:=by decide){p:Pos}:PE X (.Subscript (.Name x p) i pos) (ZH G0 ty):=by
 intro C0 s J H Q I h;refine P6 PySem.F.slot_dict_getitem.lookup M (thn (rY (v:=.ref a) ρ hm rfl hx C0 s J H (λx b=>x=.ref a/\b=H) I ⟨rfl,rfl⟩) λu s1 ⟨B,b,j,q,ex,eH⟩=>?_)
 subst ex eH;obtain rfl:u=Value.ref a:=q;refine thn (hi C0 s1 J b _ j h) λt s2 ⟨y,g,e,r,k,v,m,l,n⟩=>?_
 subst m;obtain⟨vs,c,f⟩:=D.of _ e.kIn;obtain⟨A,hw,d⟩:=vt.some_of (by rw[<-l];exact c.val k)
 exact⟨f.typeIs,wpAny_getItem_of (Ec r) f.mapOf hw ⟨v,g,e.tok _,d,n⟩⟩
theorem Ov(D:DkK X.prog X.w X.K a G0)(hm:X.mg x=some (.ref a))(hi:PE X i ty)(ρ:Gl X x:=by rfl)(hx:(x==("__debug__":Str))=false:=by decide){p:Pos}:PC X .NotIn i (.Name x p) (zc1 not G0 ty):=by
 intro C0 s J H Q I h;refine thn (hi C0 s J H _ I h) λq s1 ⟨y,d,f,n,k,j,l⟩=>thn (rY (v:=.ref a) ρ hm rfl hx C0 s1 J d (λx b=>x=.ref a/\b=d) f ⟨rfl,rfl⟩) λu s2 ⟨r,b,e,m,ex,eH⟩=>?_
 subst ex eH j;obtain rfl:u=Value.ref a:=m;obtain⟨vs,c,g⟩:=D.of _ e.kIn;refine wpAny_notIn_of (Ec n) D.hd g.mapOf ?_;rw[<-(c.val k).qj];exact⟨.bl _,b,e.tok _,rfl,l⟩
def U4(G0:List<|Key×V)(t:TA):TE:=λJ H Q=>t J H λvs h=>∃k z,vs=[kV k,z]/\Q ((j3 G0 k).getD z) h
theorem RI{M O p:Pos}{t:TA}(D:DkK X.prog X.w X.K a G0)(hm:X.mg x=some (.ref a))(ha:PA X [e,U] t)(hg:Gl X x:=by rfl)(hx:(x==("__debug__":Str))=false:=by decide)
  (Y:attributeBase (.Name x p) "get" X.env (eval (.Name x p) X.env)=eval (.Name x p) X.env:=by rfl)
  (hfew:((backTo O<|starEach [e,U] X.env).all (λx=>!x.1)&&(backToKw O<|keywordEach [] X.env).all (λx=>x.1.isSome)
   &&decide ([e,U].length+([]:List Keyword).length+(if([]:List Keyword).isEmpty then 0 else 1)<30))=true:=by rfl)
  (hline:(M.endLine==O.line)=true:=by rfl) (hs:starEach [e,U] X.env=9013::starEach [U] X.env:=by rfl) (ρ:(backTo O<|starEach [U] X.env).any (·.1)=false:=by rfl) :
  PE X (.Call (.Attribute (.Name x p) "get" M) [e,U] [] O) (U4 G0 t):=by
 intro C0 s J H Q I h;refine wpAny_Call_method_late Y hfew hline rfl (thn (rY (v:=.ref a) hg hm rfl hx C0 s J H (λx g=>x=.ref a/\g=H) I ⟨rfl,rfl⟩) λv s1 ⟨E,g,j,B,ex,eH⟩=>?_)
 subst ex eH;obtain rfl:v=Value.ref a:=B;obtain⟨vs,f,c⟩:=D.of _ j.kIn;refine⟨"dict","dict.get",PySem.F.plainAttrs_dict,PySem.F.slot_dict_get,PySem.F.type_dict_get,c.typeIs,λb q=>?_,?_⟩
 .cases q
  obtain⟨ob,_,_,h1,h2,_⟩:=c;exact⟨ob,h1,h2.2.1⟩
 .have m:=ha O C0 s1 J g _ j h
  rw[hs]at m⊢;refine Calls.callWith_builtin (by show(false||(backTo O<|starEach [U] X.env).any (·.1))=false;rw[ρ]<;>rfl) (Calls.evalArgs_plain ?_)
  refine thn m λus s2 ⟨C,n,l,d,k,z,r,u⟩=>?_
  subst r;cases d with
  |cons y d=>
   cases d with
   |cons d A=>
    cases A;obtain⟨vs,f,c⟩:=D.of _ l.kIn;exact call_meetsIn PySem.F.slot_dict_get c.typeIs PySem.F.entry_dict_get (PySem.F.args_dict_get_3 _ _ _) (meets_dict_get_default (gg X.prog X.w) a (Ec y) D.hd _) ⟨_,c.mapOf,⟨_,n,l.tok _,(f.val k).getD d,u⟩⟩
end
end L2
namespace Mir
open L2
section
variable [Zc]
def IL:D->D->Option (D×Bool)
 | .str z,.int i=>cIf (z.length<=sizeLine) ((atI z.cps.toList i).map λc=>(.str ⟨#[c]⟩,false)) none
 |c,d=>gIx c d
theorem zbN:OpJ (rIx K) IL:=by
 intro B H x y c d a s hx hy e;unfold IL at e;split at e
 .obtain⟨hz,e⟩:=cY e
  obtain⟨w,h1,h2⟩:=zd9 e;cases h2;rcases hx with hx|⟨p,_,hx⟩
  .cases hx
   rcases hy with hy|⟨p,_,hy⟩
   .cases hy
    exact⟨.str ⟨#[w]⟩,.str _,λQ q=>.inr<|.inr ⟨_,_,w,rfl,rfl,hz,h1,q⟩⟩
   .cases hy
  .cases hx
 .exact T9 B H x y _ _ a s hx hy e
def pX:D->List D->Option (D×Bool)
 | .str z,[.str y]=>some (.bool<|Txt.startswith z y,false)
 |_,_=>none
theorem U5:MtJ K "str" P4 pX:=by
 constructor
 .intro B H x c ds a s hx e
  unfold pX at e;split at e
  .have:=hx.str;subst this;rfl
  .cases e
 .intro B H x c vs ds a s hx hv e
  unfold pX at e;split at e
  .cases e
   have:=hx.str;subst this
   match vs,hv with
   | [v],⟨h1,_⟩=>
    have:=h1.str;subst this
    exact jl λQ q=>⟨_,_,rfl,rfl,q⟩
  .cases e
def Gk:D->List D->Option (D×Bool)
 | .str z,[]=>some (.bool<|Txt.isdigit z,false)
 |_,_=>none
theorem Ya:MtJ K "str" UQ Gk:=by
 constructor
 .intro B H x c ds a s hx e
  unfold Gk at e;split at e
  .have:=hx.str;subst this;rfl
  .cases e
 .intro B H x c vs ds a s hx hv e
  unfold Gk at e;split at e
  .cases e
   have:=hx.str;subst this
   match vs,hv with
   | [],_=>exact jl λQ q=>⟨_,rfl,rfl,q⟩
  .cases e
def kW:D->List D->Option (D×Bool)
 | .str z,[.str y]=>cIf ((y.length==0)=false/\z.length<=100000/\(Txt.split z y).length<=100000) (some (.list<|(Txt.split z y).map .str,true)) none
 |_,_=>none
theorem IM:∀l:List Str,aZ B (l.map V.str) (l.map PyData.str)
 | []=>.nil
 |x::l=>.cons (.str x) (IM l)
theorem Yb:MtJ K "str" US kW:=by
 constructor
 .intro B H x c ds a s hx e
  unfold kW at e;split at e
  .have:=hx.str;subst this;rfl
  .cases e
 .intro B H x c vs ds a s hx hv e
  unfold kW at e;split at e
  .obtain⟨hz,e⟩:=cY e
   cases e;have:=hx.str;subst this
   match vs,hv with
   | [v],⟨h1,_⟩=>
    have:=h1.str;subst this
    exact⟨_,IM _,λQ q=>⟨_,_,rfl,rfl,hz.1,hz.2.1,hz.2.2,q⟩⟩
  .cases e
def P8:List D->Option (D×Bool)
 | [.str z]=>cIf (z.length<=640) ((PySem.intText? z).map λn=>(.int n,false)) none
 |_=>none
theorem zbO:AF Zz P8:=by
 intro B H vs ds b s h e;unfold P8 at e;split at e
 .obtain⟨hz,e⟩:=cY e
  obtain⟨n,h1,h2⟩:=zd9 e;cases h2;obtain⟨v,rfl,a⟩:=yf h;have:=a.str;subst this
  exact km λQ q=>⟨_,_,rfl,h1,hz,q⟩
 .cases e
def kZ:List D->Option (D×Bool)
 | [.int n]=>cIf (n.natAbs.log2<1920) (some (.str<|ba n,false)) none
 |_=>none
theorem U6:AF ZA kZ:=by
 intro B H vs ds b s h e;unfold kZ at e;split at e
 .obtain⟨hz,e⟩:=cY e
  cases e;obtain⟨v,rfl,a⟩:=yf h;have:=a.int;subst this
  exact JB λQ q=>⟨_,rfl,hz,q⟩
 .cases e
def RJ:D->Option Int->Option Int->Option (D×Bool)
 | .str z,some i,none=>cIf (z.length<=100000) (some (.str<|Txt.slice z (some i) none,false)) none
 |_,_,_=>none
theorem zc2:SlJ zcV RJ:=by
 intro B H x c lo hi a s hx e;unfold RJ at e;split at e
 .obtain⟨hz,e⟩:=cY e
  cases e;have:=hx.str;subst this
  exact JB λQ q=>⟨_,_,rfl,rfl,rfl,hz,q⟩
 .cases e
def MFt(t:TF)(m:Str->Rho->Option (Str×Rho)):Prop:=∀(F:Fr) (B H:Hp) (J:St) (L:Rho) (h z:Str) (ρ':Rho) (Q:Str->Hp->Prop),Rel F B H J L->m h L=some (z,ρ')->(∀B' H',Ext J L B H ρ' B' H'->Rel F B' H' J ρ'->Q z H')->t h J H Q
def IP:Str->Rho->Option (Str×Rho):=λh L=>some (h,L)
theorem Yc:MFt ZC IP:=λF B H J L a z ρ' Q R e q=>by
 cases e;exact q B H 9059 R
def mFC(y:Str)(m:Str->Rho->Option (Str×Rho)):Str->Rho->Option (Str×Rho):=λh L=>cIf ((h++y).length<=sizeLine) (m (h++y) L) none
theorem zc3(h:MFt t m):MFt (tFC y t) (mFC y m):=λF B H J L a z ρ' Q R e q=>by
 obtain⟨hz,e⟩:=cY e;exact⟨hz,h F B H J L _ z ρ' Q R e q⟩
def P9:D->Option Str
 | .int n=>cIf (n.natAbs.log2<1920) (some<|ba n) none
 | .str z=>some z
 |_=>none
def mFV(a:PM)(m:Str->Rho->Option (Str×Rho)):Str->Rho->Option (Str×Rho):=λh L=>(sv a L).bind λx=>(P9 x.1.1).bind λz=>cIf (z.length<=100000/\(h++z).length<=sizeLine) (m (h++z) x.2) none
theorem zc4(ha:ME I a)(h:MFt t m):MFt (tFV I t) (mFV a m):=λF B H J L l z ρ' Q R e q=>by
 fail "q2"
 obtain⟨hz,e⟩:=cY e
 fail "q3"
 have b:=k.view d;refine⟨y,?_,hz.1,hz.2,h F j i J x.2 _ z ρ' Q d e λB' H' E c=>q B' H' (f.trans E) c⟩
 unfold P9 at C;split at C
 .rename_i n hn
  obtain⟨g,C⟩:=cY C;cases C;rw[hn]at b;have:=b.int;subst this
  simp only[UW,if_pos g]
 .rename_i n hn
  cases C;rw[hn]at b;have:=b.str;subst this
  rfl
 .cases C
def mJs(m:Str->Rho->Option (Str×Rho)):PM:=λL=>(m Str.empty L).bind λx=>cIf (x.1.length<=sizeLine) (some ((.str x.1,.fz),x.2)) none
theorem zc5(h:MFt t m):ME (tJs t) (mJs m):=λF B H J L r ρ' Q R e q=>by
 obtain⟨x,b,e⟩:=zd8 e;obtain⟨hz,e⟩:=cY e;cases e;exact h F B H J L _ x.1 x.2 _ R b λB' H' E a=>⟨hz,q _ B' H' E a (.str _) λp z=>by cases z⟩
end
end Mir
namespace L2
open PySem.Spec PyProof.Rows
def Gm(K:zee)(a:Addr):List (Str×Addr×Tok):=match K.lookup a with
 |some {data:=.dict es _,.. }=>es.toList.filterMap λe=>match e.key,e.val with
  | .str x t,.ref b=>some (x,b,t)
  |_,_=>none
 |_=>[]
abbrev Ca(K:zee)(a:Addr):List (Key×V):=(Gm K a).map λp=>(Sum.inr p.1,V.ref p.2.1)
def Yd(w:World)(K:zee)(a:Addr):Prop:=∃es h,K.lookup a=some {cls:=.type "dict",data:=.dict es h}/\es.toList=(Gm K a).map λp=>⟨hashStr w p.1,.str p.1 p.2.2,.ref p.2.1⟩
theorem Gn(x:Str)(t:Tok):Value.isStrOf x (.str x t)=true:=by simp[Value.isStrOf]
theorem Ye{K:zee}{a:Addr}(h:Yd w K a)(nd:((Gm K a).map (·.1)).Nodup)(I:9101=false):DkK P w K a (Ca K a):=by
 obtain⟨es,g,hk,d⟩:=h;refine⟨I,λi b=>⟨(Gm K a).map λp=>(Sum.inr p.1,Value.ref p.2.1),?_,_,es,g,b a _ hk,⟨rfl,rfl,rfl⟩,rfl,?_,?_,?_⟩⟩
 .have:∀l:List (Str×Addr×Tok),KV (l.map λp=>9067) (l.map λp=>((Sum.inr p.1:Key),Value.ref p.2.1)):=by
   intro l
   induction l with
   |nil=>exact .nil
   |cons p l c=>exact .cons ⟨rfl,rfl⟩ c
  exact this _
 .intro e hm
  rw[<-Array.mem_toList_iff,d,List.mem_map]at hm;obtain⟨p,_,rfl⟩:=hm;exact⟨Sum.inr p.1,Gn p.1 p.2.2,rfl⟩
 .rw[d]
  generalize Gm K a=l
  induction l with
  |nil=>exact .nil
  |cons p l c=>exact .cons (Gn p.1 p.2.2) rfl c
 .rw[List.map_map]
  have:((λx:Key×Value=>x.1)∘λp:Str×Addr×Tok=>((Sum.inr p.1:Key),Value.ref p.2.1))=λp=>(Sum.inr p.1:Key):=rfl
  rw[this];have f:(Gm K a).map (λp=>(Sum.inr p.1:Key))=((Gm K a).map (·.1)).map (Sum.inr:Str->Key):=by rw[List.map_map];rfl
  rw[f];exact List.Pairwise.map _ (λx y h z=>h (by injection z)) nd
def Gp:List Value->Option (List Str)
 | []=>some []
 | .str x _::l=>(Gp l).map (x::·)
 |_=>none
def Qa:List Value->Option (List Int)
 | []=>some []
 | .int x _::l=>(Qa l).map (x::·)
 |_=>none
theorem wk:∀{l:List Value} {ts:List Str},Gp l=some ts->Vals (ts.map V.str) l
 | [],_,e=>by cases e;exact .nil
 |u::l,ts,e=>by
  cases u with
  |str x t=>
   obtain⟨ts',a,rfl⟩:=zd9 e;exact .cons ⟨t,rfl⟩ (wk a)
  |_=>cases e
theorem Gq:∀{l:List Value} {ts:List Int},Qa l=some ts->Vals (ts.map V.int) l
 | [],_,e=>by cases e;exact .nil
 |u::l,ts,e=>by
  cases u with
  |int x t=>
   obtain⟨ts',a,rfl⟩:=zd9 e;exact .cons ⟨t,rfl⟩ (Gq a)
  |_=>cases e
def BO(K:zee)(b:Addr):Option (List Value):=match K.lookup b with
 |some {cls:=.type "tuple",data:=.seq h _,.. }=>if h.size<=1000 then some h.toList else none
 |_=>none
theorem LV{K:zee}{us:List Value}(h:BO K b=some us){xs:List V}(hv:Vals xs us)(H:Hp):SqT K H b xs:=by
 unfold BO at h;split at h
 .rename_i _ d a n sl hk
  split at h
  .rename_i hz
   cases h;exact .inr ⟨_,a,_,hk,rfl,rfl,zeW hz (by decide),hv⟩
  .cases h
 .cases h
def U7(K:zee)(a:Addr)(T:List<|Str×List Str):Prop:=(Gm K a).map (λp=>(p.1,(BO K p.2.1).bind Gp))=T.map λp=>(p.1,some p.2)
def zbP(K:zee)(a:Addr)(T:List<|Str×List Int):Prop:=(Gm K a).map (λp=>(p.1,(BO K p.2.1).bind Qa))=T.map λp=>(p.1,some p.2)
theorem Fi{α:Type}{K:zee}{g:List Value->Option (List α)}{c : α->V}(I:∀{l ts},g l=some ts->Vals (ts.map c) l)(f:Str):∀{l:List<|Str×Addr×Tok} {T:List<|Str×List α},l.map (λp=>(p.1,(BO K p.2.1).bind g))=T.map (λp=>(p.1,some p.2))->
  match T.lookup f with
  |some ts=>∃b,j3 (l.map λp=>9067) (Sum.inr f)=some (.ref b)/\∀H,SqT K H b (ts.map c)
  |none=>j3 (l.map λp=>9067) (Sum.inr f)=none
 | [],[],_=>rfl
 | [],_::_,e=>by cases e
 |_::_,[],e=>by cases e
 |p::l,q::T,e=>by
  rw[zey,zey,List.cons.injEq,Prod.mk.injEq]at e;obtain⟨⟨a,d⟩,i⟩:=e;obtain⟨m,n⟩:=q;have a:p.1=m:=a;subst a
  by_cases h:f=p.1
  .subst h
   rw[List.lookup_cons_self];obtain⟨us,h1,h2⟩:=zd8 d;exact⟨p.2.1,by rw[zey];exact yV rfl,LV h1<|I h2⟩
  .have j:(f==p.1)=false:=beq_eq_false_iff_ne.mpr h
   have k:((p.1,n)::T).lookup f=T.lookup f:=by rw[ze7,j]
   have hv:j3 ((p::l).map λp=>9067) (Sum.inr f)=j3 (l.map λp=>9067) (Sum.inr f):=by
    rw[zey];exact yW λz=>h (by injection z with z;exact z.symm)
   rw[k,hv];exact Fi I f i
theorem L0(z:Str)(l:List Str):inV (.str z) (l.map .str)=l.contains z:=by
 induction l with
 |nil=>rfl
 |cons x l a=>
  unfold inV at a⊢;rw[zey,List.any_cons,a,List.contains_cons]
  congr 1
  show(x==z)=(z==x);exact BEq.comm
end L2
namespace Mir
open L2
section
variable [Zc]
def neg(n b:Bool):Bool:=if n then !b else b
def Ow(n:Bool)(l:List Str):D->Option (D×Bool)
 | .str z=>some (.bool<|if n then !l.contains z else l.contains z,false)
 |_=>none
theorem IQ(l:List Str):(l.map V.str).all rZ=true:=by
 rw[List.all_eq_true];intro x hx;obtain⟨z,_,rfl⟩:=List.mem_map.mp hx;rfl
theorem zc6(I:∀H,SqT K H b<|l.map .str):UnJ (λx H Q=>rIn K n x (.ref b) H Q) (Ow n l):=by
 intro B H x c a s hx e;unfold Ow at e;split at e
 .rename_i z
  cases e;have:=hx.str;subst this
  exact jl λQ q=>⟨b,_,rfl,.inr<|I H,rfl,IQ l,by rw[L0];exact q⟩
 .cases e
def zbQ(I:∀H,SqT K H b<|l.map .str)(ha:ME ρ a):ME (tOp (rIn K n) ρ<|tC<|.ref b) (mUn (Ow n l) a):=FJ (zc6 I) ha
def Qb{α:Type}(f:Bool->Bool)(T:List<|Str×α):D->Option (D×Bool)
 | .str z=>some (.bool<|f (T.lookup z).isSome,false)
 |_=>none
theorem Yf(ρ:U7 K I T)(ha:ME M a):ME (zc1 f (Ca K I) M) (mUn (Qb f T) a):=by
 refine FJ (r:=λy i Q=>∃k,y=kV k/\Q (.bl<|f (j3 (Ca K I) k).isSome) i) ?_ ha
 intro B H x c j s hx e;unfold Qb at e;split at e
 .rename_i z
  cases e;have:=hx.str;subst this
  refine jl λQ q=>⟨Sum.inr z,rfl,?_⟩
  have h:=Fi (K:=K) (g:=Gp) (c:=V.str) (λh=>wk h) z ρ
  cases d:T.lookup z with
  |none=>
   rw[d]at h q;show Q (.bl<|f (j3 (Ca K I) _).isSome) H;rw[show j3 (Ca K I) (Sum.inr z)=none from h];exact q
  |some ts=>
   rw[d]at h q;obtain⟨b,h,_⟩:=h;rw[show j3 (Ca K I) (Sum.inr z)=some (.ref b)from h];exact q
 .cases e
def JU(n:Bool)(T:List<|Str×List Str):D->D->Option (D×Bool)
 | .str z,.str f=>(T.lookup f).map λl=>(.bool<|if n then !l.contains z else l.contains z,false)
 |_,_=>none
def JV(T:List<|Str×List Int)(m:Rho->Option 9028):Rho->Option 9055:=λL=>(m L).bind λx=>match x.1 with
 | [(.str f,_),(.tuple [],_)]=>some (((T.lookup f).getD []).map .int,x.2)
 |_=>none
theorem Yg(h:∀H,SqT K H p xs)(r:aZ B xs ds):Hq G B (Itt K p) ds:=λH s=>by
 refine⟨⟨xs,h H,by rw[r.length];exact zen _⟩,λi d hd=>?_⟩
 obtain⟨x,h1,h2⟩:=r.get i d hd;refine⟨⟨xs,x,h H,h1⟩,λy H' hy=>.inl ⟨hy.1,?_⟩⟩
 have:=hy.2 xs (h H);rw[h1]at this;cases this;exact h2
theorem U8(ρ:zbP K I T)(h:MA t m):MF (WE K<|U4 (Ca K I) t) (JV T m):=by
 fail "qf"
 obtain⟨j,l⟩:=x;refine h F B H J L j l _ R A λvs n i o a y=>?_
 simp only at e;split at e
 .rename_i f k D
  cases e
  match vs,y with
  | [v,w],⟨⟨h1,_⟩,⟨h2,_⟩,_⟩=>
   have:=(h1.view a).str;subst this;obtain⟨p,xs,rfl,s,j⟩:=(h2.view a).tuple a.sub;cases j;refine⟨Sum.inr f,.ref p,rfl,?_⟩;have d:=Fi (K:=K) (g:=Qa) (c:=V.int) (λh=>Gq h) f ρ
   cases r:T.lookup f with
   |none=>
    rw[r]at d q;rw[show j3 (Ca K I) (Sum.inr f)=none from d];exact⟨p,rfl,⟨[],.inl<|.inl s⟩,q _ n i o a<|T1 (a.fj _ _ s) .nil⟩
   |some ts=>
    rw[r]at d q;obtain⟨b,C,u⟩:=d;rw[show j3 (Ca K I) (Sum.inr f)=some (.ref b)from C];exact⟨b,rfl,⟨_,u i⟩,q _ n i o a<|Yg u<|Dd ts⟩
 .cases e
end
end Mir
namespace L2
open PySem.Spec PyProof.Rows
section
variable{X:Cx}{o e a:Expr}{es:List Expr}{m x:Str}{p pos apos np:Pos}{ta:TE}{t:TA}{k:Nat}{CX:CXT}{E:XK}
def JW(Ds:List<|Addr×Sp)(m:Str)(E:XK)(ta:TE)(t:TA):TE:=λJ H Q=>ta J H λx h=>∃b C sp dx fs,x=.ref b/\(C,sp)∈Ds/\h b=some 9099/\fs.lookup m=none/\t J h λvs D=>sp (x::(vs++[])) D Q E
def IS(P:Program)(w:World)(K:zee)(mg:Str->Option Value)(base:Heap)(CX:CXT)(k:Nat)(m:Str)(Ds:List<|Addr×Sp):Prop:=∀p∈Ds,∃ps,gm P w K mg base CX k p.1 m ps [] p.2
theorem U9{Ds:List<|Addr×Sp}{pl:Sem Bool}(D:IS X.prog X.w X.K X.mg X.base CX k m Ds)(hx:Passes CX X E)(U:PE X o ta)(Y:cn k X.A)(ha:PA X (e::es) t)
  (M:starEach (e::es) X.env=9013::starEach es X.env:=by rfl) (ρ:(backTo pos<|starEach es X.env).any (·.1)=false:=by rfl)
  (ht:eval 9006 X.env=(do
   let O<-eval o X.env
   standAt apos.atName
   let(f,first)<-holding [O] (getMethod O m pl)
   callWith pos f first 9050 9014):=by rfl) :
  PE X 9006 (JW Ds m E ta t):=by
 intro C0 s J H Q I h;refine PySem.W.methodCall_KW (thn (U C0 s J H _ I h) λu s1 ⟨x,j,d,y,b,C,sp,dx,fs,ex,hm,ea,l,q⟩=>?_) ht
 subst ex;obtain rfl:u=Value.ref b:=y;obtain⟨ps,i⟩:=D _ hm;obtain⟨f,fd,ds,F,c,hm,n,hd⟩:=i.ex;refine qm d ea c hm l ?_;refine PySem.W.callWith_K I.ok.mod.kin hm.kp (thn (ha pos C0 s1 J j _ d q) λus s2 ⟨vs,B,g,r,v⟩=>⟨g.kIn,?_⟩) M ρ
 exact Bd (vs:=.ref b::vs) F Y n hd hx g (.cons rfl r) v
theorem RK{Ds:List<|Addr×Sp}(D:IS X.prog X.w X.K X.mg X.base CX k m Ds)(hx:Passes CX X E)(M:PE X o ta)(O:cn k X.A)
  (U:eval (.Call 9015 [] [] pos) X.env=(do
   let ρ<-eval o X.env
   standAt apos.atName
   let(f,first)<-holding [ρ] (getMethod ρ m pl)
   callWith pos f first (backTo pos<|starEach [] X.env) 9014):=by rfl) :
  PE X (.Call 9015 [] [] pos) (JW Ds m E ta Bc):=by
 intro C0 s J H Q I h;refine PySem.W.methodCall_KW (thn (M C0 s J H _ I h) λu s1 ⟨x,n,d,j,b,C,sp,dx,fs,ex,hm,ea,l,q⟩=>?_) U
 subst ex;obtain rfl:u=Value.ref b:=j;obtain⟨ps,g⟩:=D _ hm;obtain⟨f,fd,ds,F,c,hm,i,hd⟩:=g.ex;refine qm d ea c hm l ?_;exact PySem.W.callWith_K0 d.kIn hm.kp (Bd (vs:=[.ref b]) F O i hd hx d (.cons rfl .nil) q)
structure Ox(K:zee)(mg:Str->Option Value)(x m:Str)(f:Addr):Prop where
 ex:∃C,mg x=some (.ref C)/\PySem.W.readsIn K C (.type "type")=true/\PySem.W.findCls K (.ref C) (.type "type") m=some (.val<|.ref f)/\PySem.W.specialIn K (.ref C) "__getattribute__"=some (some<|.builtin "type.__getattribute__")/\PySem.W.keepIn K (.ref f)=true
theorem Yh{f:Addr}{ps:List Str}{sp:Sp}{pl:Sem Bool}(Z:Ox X.K X.mg x m f)(F:dt X.prog X.w X.K X.mg X.base CX k f fd ps sp)(Y:Binds X.K fd ps [])(hx:Passes CX X E)(hr:cn k X.A)(hg:Gl X x)(ha:PA X (a::es) t)(ρ:(x==("__debug__":Str))=false:=by decide)
  (O:starEach (a::es) X.env=9111::starEach es X.env:=by rfl) (M:(backTo pos<|starEach es X.env).any (·.1)=false:=by rfl)
  (ht:eval (.Call (.Attribute (.Name x np) m apos) (a::es) [] pos) X.env=(do
   let U<-eval (.Name x np) X.env
   standAt apos.atName
   let(f,first)<-holding [U] (getMethod U m pl)
   callWith pos f first (backTo pos<|starEach (a::es) X.env) 9014):=by rfl) :
  PE X (.Call (.Attribute (.Name x np) m apos) (a::es) [] pos) (qp sp [] E t):=by
 intro C0 s J H Q I h;obtain⟨C,hm,b,g,i,kp⟩:=Z.ex;refine PySem.W.methodCall_KW (pl:=pl) (vy I hg hm ?_ ρ) ht;refine PySem.W.method_cls I.kIn i (PySem.W.cls_value I.kIn b g rfl ?_);have d:=I.tok (s.toks+1);refine PySem.W.callWith_K I.ok.mod.kin kp (thn (ha pos C0 _ J H _ d h) λus s2 ⟨vs,l,c,r,j⟩=>⟨c.kIn,?_⟩) O M
 exact Bd F hr Y .nil hx c r j
end
end L2
namespace Mir
open L2
variable [Zc]
def Va:PM:=λL=>some ((.dict [],.new),L)
theorem Yi:ME UY Va:=by
 intro F B H J L r ρ' Q R e q;cases e;exact kh (d0:=(.dict [],true)) (k:=λQ=>∀p,H p=none->Q (.ref p) (upd H p<|.dK [])) (Q:=Q) R ⟨[],.nil,λQ h=>h⟩ λv B' H' E a b N=>q v B' H' E a b N
theorem LP{k:Key}{v:V}(h:j3 G0 k=none):putK G0 k v=G0++[(k,v)]:=by
 unfold putK;rw[if_neg];intro z;rw[List.any_eq_true]at z;obtain⟨p,b,e⟩:=z;have a:=of_decide_eq_true e;unfold j3 at h;rw[Option.map_eq_none_iff,List.find?_eq_none]at h;exact h p b (by simpa using a)
end Mir
namespace L2
open PySem.Spec PyProof.Rows
end L2
namespace Mir
open L2
variable [Zc]
end Mir
namespace L2
open PySem.Spec PyProof.Rows
section
variable{X:Cx}{C0:List<|Addr×Obj}{J:St}{H:Hp}{s:Shared}{a:Addr}{G0:List<|Key×V}
theorem Inv.view(I:Inv X C0 J H s)(e:H a=some u)(ρ:∀xs,u≠.tup xs)(no:∀x,u≠.own x)(nz:∀o v,X.H₀ a≠some (.frz o v))(nb:∀ps,u≠.tbl ps)(new:ft X.prog X.w (upd H a M) s.heap a M):Inv X C0 J (upd H a M) s:=by
 have f:∀b,H b=none->b≠a:=λb z y=>by rw[y,e]at z;cases z
 refine⟨I.ok,I.os,I.bare,⟨I.base.keep,I.base.slot,λb o q n hx=>?_,I.base.there,λb xs q=>?_,λb o v q=>?_,λb ps q=>?_⟩,I.loc,I.cell,?_,λx c B=>?_,λp C=>?_,λb v q=>?_,I.len⟩
 .have:=I.base.free b o q n hx
  rw[av<|f b this];exact this
 .have z:=I.base.tups b xs q
  rw[av λy=>by rw[y,e]at z;exact ρ xs (zeP z)];exact z
 .have z:=I.base.x9 b o v q
  rw[av λy=>nz o v (by rw[<-y];exact q)];exact z
 .obtain⟨m,z⟩:=I.base.ya b ps q
  exact⟨m,by rw[av λy=>by rw[y,e]at z;exact nb _ (zeP z)];exact z⟩
 .rw[av<|f _ I.free];exact I.free
 .have z:=I.qk x c B
  rw[av<|f _ z];exact z
 .obtain⟨i,h,j,t,A⟩:=I.pin p C
  exact⟨i,by rw[av<|f _ h];exact h,j,t,A⟩
 .by_cases z:b=a
  .subst z
   rw[aw]at q;cases q;exact new
  .rw[av z]at q
   refine(I.hok b v q).stay (λ_ _ _ r=>r) (λc r=>?_) λc xs hk r=>?_
   .rw[av λy=>by rw[y,e]at r;exact no b (zeP r)];exact r
   .rw[av (λy=>by
     rw[y,e]at r;cases xs with
     |tup l=>exact ρ l (zeP r)
     |tbl l=>exact nb l (zeP r)
     |_=>exact hk)];exact r
theorem Inv.ZI(I:Inv X C0 J H s)(e:H a=some (.dK G0)):∀o v,X.H₀ a≠some (.frz o v):=λo v z=>by
 have:=I.base.x9 a o v z;rw[e]at this;cases this
theorem Inv.zd1(I:Inv X C0 J H s)(e:H a=some (.dK G0)):∃o,Inv X C0 J (upd H a<|.frz o<|.dK G0) s:=by
 obtain⟨z,hd,vs,b,c⟩:=ZE I.hok e;obtain⟨o,es,f,d,r⟩:=id c;exact⟨o,I.view e (λ_ z=>by cases z) (λ_ z=>by cases z) (I.ZI e) (λ_ z=>by cases z) ⟨d,z,hd,vs,b,c⟩⟩
theorem Inv.zbR(I:Inv X C0 J H s)(e:H a=some (.frz o<|.dK G0))(nz:∀o v,X.H₀ a≠some (.frz o v)):Inv X C0 J (upd H a<|.dK G0) s:=by
 obtain⟨_,z,hd,vs,b,c⟩:=I.hok a _ e;exact I.view e (λ_ z=>by cases z) (λ_ z=>by cases z) nz (λ_ z=>by cases z) ⟨z,hd,vs,b,c⟩
def ZJ(t:TE):TE:=λJ H Q=>∃a G0,H a=some (.dK G0)/\∀o,t J (upd H a<|.frz o<|.dK G0) λv H'=>H' a=some (.frz o<|.dK G0)/\Q v (upd H' a<|.dK G0)
theorem zbS(h:PE X ex t):PE X ex (ZJ t):=by
 intro C0 s J H Q I hw;obtain⟨a,G0,e,q⟩:=hw;obtain⟨o,c⟩:=I.zd1 e;have nz:=I.ZI e;refine ze5 (h C0 s J _ _ c<|q o) (λu s1 z=>?_) λ_ _ z=>z
 obtain⟨v,H',b,r,d,z⟩:=z;exact⟨v,_,b.zbR d nz,r,z⟩
end
end L2
namespace Mir
open L2
variable [Zc]
end Mir
namespace Mir
open L2
variable [Zc]
end Mir
namespace L2
open PySem.Spec PyProof.Rows
end L2
namespace Mir
open L2
variable [Zc]
end Mir
namespace L2
open PySem.Spec PyProof.Rows
theorem Yj(r:KV G0 vs)(i:Nat){k:Key}{x:Value}(h:vs[i]?=some (k,x)):∃v,G0[i]?=some (k,v)/\RelV v x:=by
 induction r generalizing i with
 |nil=>simp at h
 |cons h1 t a=>
  cases i with
  |zero=>
   rename_i p q l b
   have e:q=(k,x):=by simpa using h
   subst e;exact⟨p.2,congrArg some<|Prod.ext h1.1 rfl,h1.2⟩
  |succ i=>simpa using a i (by simpa using h)
def ItV(a:Addr)(o:Obj)(G0:List<|Key×V):It where
 go:=λi H=>H a=some (.frz o<|.dK G0)/\i<G0.length
 yld:=λi H x H'=>H'=H/\∃k,G0[i]?=some (k,x)
 stop:=λi H=>H a=some (.frz o<|.dK G0)/\G0.length<=i
theorem RM{K:zee}{x:Str}{cx:Pos}{a it:Addr}{o:Obj}{G0:List<|Key×V}{vs:List<|Key×Value}{U:Nat}{ρ:Heap}(M:KV G0 vs)(Y:ρ.get? a=some o)(O:ρ.DictAt (gg P w) a vs U) :
  Turn P w K (.Name x cx) (ItV a o G0) [it] it (λi h=>h.IsValIter it a i vs.length U) where
 mem:=by simp
 obj:=λi h st b f=>by
  fail "q9"
 keep:=λi h h' st k=>st.at λo e=>k it (by simp) o e
 item:=by
  intro X σ hw G B i C0 s J H E I l st g;obtain⟨y,hi⟩:=g;obtain⟨g,_⟩:=I.hok a _ y;have hd:=O.at' λo' e=>by rw[Y]at e;cases e;exact g
  obtain⟨m,n,F,r,t,u⟩:=l it (by simp)
  have N:=M.length;obtain⟨⟨k,x⟩,hx⟩:∃p,vs[i]?=some p:=⟨vs[i]'(by lia),by simp⟩
  obtain⟨v,hv,R⟩:=Yj M i hx;refine wpAny_pyNext_values_item st hd hx λh' j S=>?_
  have C:Inv X C0 J H {s with heap:=h'}:=I.turned (λb o f e=>(S.2 b f).trans e) m n r t u
  obtain⟨T,e,c,d⟩:=id j;exact⟨x,rfl,Ic e c d (by decide) ⟨v,H,C,R,⟨rfl,k,hv⟩,j,λb f=>(l b f).1⟩⟩
 done:=by
  intro X σ hw G B i C0 s J H E I l st g;obtain⟨y,hi⟩:=g;obtain⟨g,_⟩:=I.hok a _ y;have hd:=O.at' λo' e=>by rw[Y]at e;cases e;exact g
  obtain⟨m,n,F,r,t,u⟩:=l it (by simp)
  have N:=M.length;exact wpAny_pyNext_values_end (I.ok.hd B) st hd (by simp;lia) λh' D=>⟨rfl,I.turned (λb o f e=>D b o f e) m n r t u⟩
 self:=λA i s Q E st q=>wpAny_pyIter_valiter st q
def zc7(I:TE):TI:=λJ H R=>I J H λx h=>∃a o G0,x=.ref a/\h a=some (.frz o<|.dK G0)/\R (ItV a o G0) h
section
variable{X:Cx}
theorem Yk{x:Str}{cx:Pos}{l:Expr}{Y:TE}{ρ U:Pos}(hl:PE X l Y)(M:attributeBase l "values" X.env (eval l X.env)=eval l X.env:=by rfl)(O:(ρ.endLine==U.line)=true:=by rfl) :
  PI X (.Name x cx) (.Call (.Attribute l "values" ρ) [] [] U) (zc7 Y):=by
 intro C0 s J H R I h;refine wpAny_Call_method0_late M O (thn (hl C0 s J H _ I h) λv s1 ⟨x,j,k,A,y⟩=>?_)
 obtain⟨a,o,G0,e,r,q⟩:=y;subst e;cases A;obtain⟨u,z,hd,vs,g,c⟩:=k.hok a _ r;obtain⟨ob,_,_,n,p,_⟩:=id c;obtain⟨B,d⟩:=c.dictAt;refine⟨"dict","dict.values",PySem.F.plainAttrs_dict,PySem.F.slot_dict_values,PySem.F.type_dict_values,c.typeIs,λb m=>by cases m;exact⟨ob,n,p.2.1⟩,Calls.callWith_builtin rfl<|PySem.evalArgs_none ?_⟩
 refine call_meetsIn PySem.F.slot_dict_values c.typeIs PySem.F.entry_dict_values (PySem.F.args_dict_values_1 _) (meets_dict_values (gg X.prog X.w) a hd) ⟨⟨vs,c⟩,?_⟩;have i:(s1.heap.push {cls:=.type "dict_values",data:=.fields #[.ref a]}).IsValuesView s1.heap.objs.size a:=⟨_,zeK _ rfl,rfl,rfl⟩;have f:Inv X C0 J j {s1 with heap:=s1.heap.push {cls:=.type "dict_values",data:=.fields #[.ref a]}}:=k.kept λb o e=>zep _ e
 refine wpAny_pyIter_values i (d.push _) ?_;refine⟨_,[_],_,_,j,rfl,f.kept λb o e=>zep _ e,RM g u d,⟨_,zeK _ rfl,rfl,rfl⟩,λb t=>?_,q⟩
 have e:b=(s1.heap.push {cls:=.type "dict_values",data:=.fields #[.ref a]}).objs.size:=by simpa using t
 subst e;exact f.Wt (zen _) (f.hok.fresh<|zen _)
end
end L2
namespace Mir
open L2
variable [Zc]
end Mir
set_option maxHeartbeats 1000000
namespace L2
open PySem.Spec PyProof.Rows
section
open PySem.SeqAt
open PySem.AutoSeq1 (wpAny_loadPart')
open PySem.MeetsSeq PySem.MeetsSeq2 PySem.MeetsSeq3
end
end L2
namespace Mir
open L2
variable [Zc]
end Mir
set_option maxHeartbeats 1000000
namespace L2
open PySem.Spec PyProof.Rows
section
open PySem.SeqAt
open PySem.AutoSeq1 (wpAny_loadPart')
open PySem.MeetsSeq PySem.MeetsSeq2 PySem.MeetsSeq3
end
end L2
namespace Mir
open L2
variable [Zc]
end Mir
namespace L2
open PySem.Spec PyProof.Rows
end L2
namespace Mir
open L2
section
variable [Zc] [Zl]{W:WX}
theorem Cb{t:St->Hp->(ρ->Hp->Prop)->Prop}{m:MN α}{k : α->SN}{G:FrN}{A:List Addr}{B H:Hp}{J:St}{s:SS}{o:yd}{D:Ends}{C : ρ->Hp->Prop}(h:NM W I t m)(R:bp G A B H J s)(e:bS m k s=some o)(q:NOk G W D o)
  (c:∀x v A' B' H' s',Gro A A'->aW B B'->bp G A' B' H' J s'->I A' B' x v->k v s'=some o->C x H'):t J H C:=by
 unfold bS at e;split at e
 .rename_i v s' h1
  exact h G A B H J s _ C R h1 λx A' B' H' g eB a V=>c x v A' B' H' s' g eB a V e
 .rename_i y s' h1
  cases e;exact h G A B H J s _ C R h1 λA' B' H' a=>q A' B' H' J a
 .cases e
theorem JX{α I:Type} [BEq α] [LawfulBEq α]{a : α}{b : I}:∀{l:List<|α×I},l.lookup a=some b->(a,b)∈l
 | [],h=>by cases h
 |(k,v)::r,h=>by
  by_cases e:a=k
  .subst e
   rw[List.lookup_cons_self]at h;cases h;exact .head _
  .have d:(a==k)=false:=beq_eq_false_iff_ne.mpr e
   rw[ze7,d]at h;exact .tail _ (JX h)
def Dn(fs:List<|Addr×FN)(I:Str)(a:EN)(m:MN<|List SV):EN:=bN a λx s=>match x with
 | .lc k=>(jg s.S k).bind λy=>(fs.lookup y.1).bind λf=>if y.2.lookup I=none then bN m (λxs s2=>(f s2.S (.lc k::(xs++[]))).map λw=>frR w s2.t) s else none
 |_=>none
theorem Vb{g:FN->Sp}{E:XK}{I:TE}{t:TA}{a:EN}{m:MN<|List SV}(ρ:∀f vs H Q,spS f vs H Q E->g f vs H Q E)(hw:∀x J H',W x J H'->E (Zl.cl x.c) none H')(ha:NE W I a)(h:NA W t m):NE W (JW (fs.map λp=>(p.1,g p.2)) M E I t) (Dn fs M a m):=by
 fail "q1"
 split at i
 .rename_i k
  obtain⟨y,u,b⟩:=zd8 i;obtain⟨f,d,b⟩:=zd8 b;split at b
  .rename_i hz
   cases o with
   |lc n=>
    cases j.st.cell k _ _ (j8 u) n with
    |obj h1 h2 h3=>
     refine⟨_,y.1,g f,_,_,rfl,List.mem_map.mpr ⟨_,JX d,rfl⟩,h1,h3.Dk hz,?_⟩;refine gr (t:=t) h j b l λvs xs K P T s2 C w R2 r d σ=>ρ _ _ _ _ ?_
     exact Gd R2 (.cons (.lc<|C _ _ n)<|r.append .nil) d σ λx H'=>hw x J H'
  .cases b
 .cases i
def Qc(I:List Addr)(a:EN)(f:Str):EN:=bN a λx s=>match x with
 | .lc k=>(jg s.S k).bind λy=>if I.contains y.1=true then(y.2.lookup f).map λz=>.ok z s else none
 |_=>none
theorem Yl(ρ:∀C∈M,Cls K C/\di K C f)(ha:NE W I a):NE W (Th K I f) (Qc M a f):=by
 fail "q1"
 split at i
 .rename_i k
  fail "qh"
  .rename_i n
   obtain⟨z,c,g⟩:=zd9 b;cases g;have hm:=List.contains_iff_mem.mp n;cases o with
   |lc m=>
    cases j.st.cell k _ _ (j8 d) m with
    |obj h1 h2 h3=>
     obtain⟨u,h4,h⟩:=h3.look c;exact⟨_,_,_,_,u,rfl,h1,(ρ _ hm).1,(ρ _ hm).2,h4,l u D F N 9018 (aW.refl _) j h⟩
  .cases b
 .cases i
def oq(es:List<|Key×SV)(k:Key):Option SV:=(es.find? λp=>decide<|p.1=k).map (·.2)
def ip(S:List<|Option Cl)(k:Nat):Option (List<|Key×SV):=match S[k]? with
 |some (some (.dct es))=>some es
 |some (some (.dat (.dict [])))=>some []
 |_=>none
theorem gW.val{A:List Addr}{B:Hp}{k:Key}:∀{G0:List<|Key×V} {es:List<|Key×SV},gW A B G0 es->match oq es k with
  |some x=>∃v,j3 G0 k=some v/\ek A B v x
  |none=>j3 G0 k=none
 |_,_,.nil=>rfl
 |_,_,.cons (f:=f) (v:=v) (x:=x) (gs:=gs) (fs:=fs) a b=>by
  by_cases e:f=k
  .have h1:oq ((f,x)::fs) k=some x:=by simp[oq,e]
   rw[h1];exact⟨v,yV e,a⟩
  .have h1:oq ((f,x)::fs) k=oq fs k:=by simp[oq,e]
   rw[h1,yW (p:=(f,v)) (r:=gs) e];exact gW.val b
theorem yX(R:bp G A B H J s)(I:A[k]?=some a)(e:ip s.S k=some es):∃G0,H a=some (.dK G0)/\gW A B G0 es:=by
 unfold ip at e;split at e
 .rename_i h
  cases e;cases R.st.cell k _ _ h I with
  |dct h1 h2=>exact⟨_,h1,h2⟩
 .rename_i h
  cases e;cases R.st.cell k _ _ h I with
  |dat o=>
   cases o with
   |dct h1 h2=>cases h2;exact⟨_,h1,.nil⟩
 .cases e
def L4:SV->Option Key
 | .pl (.str z)=>some (Sum.inr z)
 |_=>none
theorem Fj(h:ek A B v x)(e:L4 x=some k):v=kV k:=by
 unfold L4 at e;split at e
 .cases e;cases h with|pl r=>cases r;rfl
 .cases e
def RN(f:Bool->Bool)(y d:EN):EN:=bN y λv=>bN d λx s=>match x with
 | .lc j=>(L4 v).bind λk=>(ip s.S j).map λes=>.ok (.pl<|.bool<|f (oq es k).isSome) s
 |_=>none
theorem IT(r:gW A B G0 es):(j3 G0 k).isSome=(oq es k).isSome:=by
 have h:=r.val (k:=k);cases e:oq es k with
 |none=>rw[e]at h;rw[h];rfl
 |some x=>rw[e]at h;obtain⟨v,h,_⟩:=h;rw[h];rfl
theorem zbT(hy:NE W ty y)(hd:NE W I d):NE W (zcZ ty I) (RN id y d):=by
 intro G A B H J s T Q R e q;refine gr (t:=ty) hy R e q λv u σ K N s1 P r g h l E=>?_
 refine gr (t:=I) hd g l E λx w b c f s2 S C R2 i a F=>?_
 split at a
 .rename_i j
  obtain⟨k,m,n⟩:=zd8 a;obtain⟨es,o,p⟩:=zd9 n;cases p;cases i with
  |lc D=>
   obtain⟨G0,h1,h2⟩:=yX R2 D o;have hk:=Fj h m;subst hk;refine⟨_,j3 G0 k,rfl,.k h1,?_⟩;rw[IT h2];exact F _ b c f 9018 (aW.refl _) R2 (.pl<|.bl _)
 .cases a
theorem RO(hy:NE W ty y)(hd:NE W I d):NE W (P7 ty I) (RN not y d):=by
 intro G A B H J s T Q R e q;refine gr (t:=ty) hy R e q λv u σ K N s1 P r g h l E=>?_
 refine gr (t:=I) hd g l E λx w b c f s2 S C R2 i a F=>?_
 split at a
 .rename_i j
  obtain⟨k,m,n⟩:=zd8 a;obtain⟨es,o,p⟩:=zd9 n;cases p;cases i with
  |lc D=>
   obtain⟨G0,h1,h2⟩:=yX R2 D o;have hk:=Fj h m;subst hk;refine⟨_,j3 G0 k,rfl,.k h1,?_⟩;rw[IT h2];exact F _ b c f 9018 (aW.refl _) R2 (.pl<|.bl _)
 .cases a
def Dp(d y:EN):EN:=bN d λx=>bN y λv s=>match x with
 | .lc j=>(L4 v).bind λk=>(ip s.S j).bind λes=>(oq es k).map λz=>.ok z s
 |_=>none
theorem Vc(hd:NE W I d)(hy:NE W ty y):NE W (ZF I ty) (Dp d y):=by
 intro G A B H J s X Q R e q;refine gr (t:=I) hd R e q λx w P S T s1 V D i l n K=>?_
 refine gr (t:=ty) hy i n K λv u c f g s2 F E R2 m a N=>?_
 split at a
 .rename_i j
  obtain⟨k,o,b⟩:=zd8 a;obtain⟨es,p,b⟩:=zd8 b;obtain⟨z,r,C⟩:=zd9 b;cases C;cases l with
  |lc σ=>
   obtain⟨G0,h1,h2⟩:=yX R2 (F _ _ σ) p;have hk:=Fj m o;subst hk;have h:=h2.val (k:=k);rw[r]at h;obtain⟨v,h3,h4⟩:=h;exact⟨_,v,rfl,by rw[<-h3];exact .k h1,N v c f g 9018 (aW.refl _) R2 h4⟩
 .cases a
def Qe(d k v:EN):SN:=bS v λy=>bS d λx=>bS k λz s=>match x with
 | .lc j=>(L4 z).bind λh=>(ip s.S j).bind λes=>cIf (es.length<100000/\oq es h=none) (some<|.nx ⟨s.S.set j<|some<|.dct<|es++[(h,y)],s.t⟩) none
 |_=>none
theorem gW.length:∀{G0:List<|Key×V} {es:List<|Key×SV},gW A B G0 es->G0.length=es.length
 |_,_,.nil=>rfl
 |_,_,.cons _ b=>by rw[zeu,zeu,gW.length b]
theorem gW.snoc(r:ek A B v x):∀{G0:List<|Key×V} {es:List<|Key×SV},gW A B G0 es->gW A B (G0++[(k,v)]) (es++[(k,x)])
 |_,_,.nil=>.cons r .nil
 |_,_,.cons a b=>.cons a (gW.snoc r b)
theorem Ym(hd:NE W I d)(hk:NE W ty k)(hv:NE W ρ v):NS W (ZG I ty ρ) (Qe d k v):=by
 intro G A B H J s o D R e q;refine Cb hv R e q λy yv T X M s1 Y Q t w F=>?_
 refine Cb hd t F q λx xv V Z O s2 S i R2 C σ=>?_
 refine Cb hk R2 σ q λz zv p r U s3 m b l E g=>?_
 split at g
 .rename_i j
  obtain⟨a,K,h⟩:=zd8 g;obtain⟨es,N,h⟩:=zd8 h;obtain⟨hz,P⟩:=cY h;cases P;have f:=C.mono m b;cases f with
  |lc n=>
   obtain⟨G0,h1,h2⟩:=yX l n N;obtain rfl:=Fj E K;have hn:=h2.val (k:=a);rw[hz.2]at hn;have u:=l.write (o:=.dK<|G0++[(a,y)]) (c:=.dct<|es++[(a,yv)]) n trivial (.dct aw<|gW.snoc (w.mono (S.trans m)<|i.trans b) h2);refine⟨_,_,rfl,.inl ⟨G0,a,h1,rfl,by rw[h2.length,sizeLine_eq];lia,rfl⟩,?_⟩
   rw[L2.LP _ hn];exact q p r _ J u
 .cases g
theorem bp.frz(R:bp G A B H J s)(hk:A[k]?=some a)(hu:H a=some u)(I:Mx u):bp ⟨G.B,G.H,G.io,λq=>G.Z q\/q=a⟩ A B (upd H a<|.frz o u) J ⟨s.S.set k none,s.t⟩:=by
 have ha:=zeh hk;have i:=R.st.dis a ha;have m:=(zea hk).1;refine⟨λq u h=>?_,R.sB,λq xs h=>?_,λq u h n=>?_,R.nB,R.pre,R.fresh,⟨?_,R.st.nd,R.st.dis,λb l=>?_,λj d b h1 h2=>?_⟩,R.len,R.slot,λq u w h=>?_⟩
 .rw[av λz=>by rw[z,i]at h;cases h];exact R.sub q u h
 .by_cases z:q=a
  .subst z;rw[aw]at h;cases h
  .rw[av z]at h;exact R.fj q xs h
 .have z:q≠a:=λz=>by
   subst z;rcases R.fresh q ha with g|g
   .exact n g
   .rw[g]at h;cases h
  rw[av z];exact R.kept q u h n
 .show A.length=(s.S.set k none).length
  rw[zeL];exact R.st.len
 .by_cases z:b=a
  .subst z;exact⟨_,aw,.inr ⟨_,_,rfl⟩⟩
  .rw[av z];exact R.st.mx b l
 .have f:=h1
  by_cases z:j=k
  .subst z
   rw[zet (by rw[<-R.st.len];exact m)]at f
   cases f
  .rw[zez λe=>z e.symm]at f
   have nb:b≠a:=λe=>by
    subst e;exact z ((List.getElem?_inj (zea h2).1 R.st.nd).mp<|h2.trans hk.symm)
   refine(R.st.cell j d b f h2).mono 9018 (aW.refl _) (λu h=>by rw[av nb];exact h) λq o h hm=>?_
   rw[av λe=>by subst e;rw[hu]at h;cases h;exact hm (.inl I)];exact h
 .by_cases z:q=a
  .exact .inr z
  .rw[av z]at h;exact .inl (R.nz q u w h)
theorem bp.zc9(R:bp ⟨G.B,G.H,G.io,λq=>G.Z q\/q=a⟩ A B H J s)(hk:A[k]?=some a)(hu:H a=some (.frz o u))(I:Mx u)(ok:jc A B (upd H a u) a c):bp G A B (upd H a u) J ⟨s.S.set k<|some c,s.t⟩:=by
 have R2:=R.write hk I ok;refine⟨R2.sub,R2.sB,R2.fj,R2.kept,R2.nB,R2.pre,R2.fresh,R2.st,R2.len,R2.slot,λq v w h=>?_⟩
 by_cases z:q=a
 .subst z;rw[aw]at h;cases h;cases I
 .rcases R2.nz q v w h with h|h
  .exact h
  .exact absurd h z
def Vd:List (Str×SV)->Bool
 | []=>true
 |(_,.pl _)::fs=>Vd fs
 |_=>false
theorem gq.pl:∀{gs:List<|Str×V} {fs:List<|Str×SV},gq A B gs fs->Vd fs=true->gq A' B gs fs
 |_,_,.nil,_=>.nil
 |_,_,.cons (x:=.pl _) (.pl r) b,e=>.cons (.pl r) (gq.pl b e)
 |_,_,.cons (x:=.lc _) _ _,e=>by cases e
 |_,_,.cons (x:=.tp _) _ _,e=>by cases e
theorem bp.Yn(R:bp G A B H J s)(hi:A[i]?=some I)(h0:H I=some o0)(M:Mx o0)(ρ:Vd fs=true)
  (P:IH [I] B H A' B' H' [some<|.obj C fs] v r):bp G A B' H' J ⟨s.S.set i<|some<|.obj C fs,s.t⟩:=by
 have f:A'=[I]:=by
  have h1:=P.st.len;have h2:=P.gro 0 I rfl
  match A',h1,h2 with
  | [b],_,h2=>simp at h2;rw[h2]
 subst f;have ha:=zeh hi;have l:=(zea hi).1;have kp:∀q o,H q=some o->q≠I->H' q=some o:=λq o h n=>P.kept q o h (by simpa using n)
 have p:∀b∈A,H b≠none:=λb d z=>by obtain⟨o,h,_⟩:=R.st.mx b d;rw[z]at h;cases h
 refine⟨P.sub,R.sB.trans P.eB,P.tB,λq o h n=>?_,λq h z=>?_,R.pre,R.fresh,⟨?_,R.st.nd,λb d=>P.nb b (p b d)<|R.st.dis b d,λb d=>?_,λk c b h1 h2=>?_⟩,R.len,λj x h=>?_,λq o u h=>?_⟩
 .refine kp q o (R.kept q o h n) λg=>?_
  subst g;rcases R.fresh q ha with h1|h1
  .exact n h1
  .rw[h1]at h;cases h
 .exact P.nb q (λg=>h (R.Bh g).1) (R.nB q h z)
 .show A.length=(s.S.set i _).length
  rw[zeL];exact R.st.len
 .by_cases z:b=I
  .subst z;exact P.st.mx b (by simp)
  .obtain⟨o,h,m⟩:=R.st.mx b d
   exact⟨o,kp b o h z,m⟩
 .have a:=h1
  by_cases z:k=i
  .subst z
   rw[hi]at h2;cases h2
   rw[zet (by rw[<-R.st.len];exact l)]at a
   cases a;cases P.st.cell 0 _ I rfl rfl with
   |obj p1 p2 p3=>exact .obj p1 p2 (p3.pl ρ)
  .rw[zez λe=>z e.symm]at a
   have nb:b≠I:=λe=>by
    subst e;exact z ((List.getElem?_inj (zea h2).1 R.st.nd).mp<|h2.trans hi.symm)
   exact(R.st.cell k c b a h2).mono 9018 P.eB (λo h=>kp b o h nb) λq o h hm=>kp q o h λe=>by subst e;rw[h0]at h;cases h;exact hm (.inl M)
 .obtain⟨w,h1,h2⟩:=R.slot j x h
  exact⟨w,h1,h2.mono 9018 P.eB⟩
 .obtain⟨y,D,h1⟩:=P.nz q o u h
  exact R.nz q y D h1
def lcC(gs:List<|Addr×FN)(I:Str):List SV->List (Option Cl)->List D->Option (List D×List (Option Cl))
 | [],S,h=>some (h,S)
 | .lc i::xs,S,h=>(jg S i).bind λy=>if Vd y.2=true/\y.2.lookup I=none then(gs.lookup y.1).bind λg=>match g [some<|.obj y.1 y.2] [.lc 0]with
  |some (.ok (.pl d) [some (.obj C fs)])=>if Vd fs=true then lcC gs I xs (S.set i<|some<|.obj C fs) (h++[d])else none
  |_=>none else none
 |_,_,_=>none
def Yo(i:Nat)(C:Addr)(f:Str)(gs:List<|Addr×FN)(I:Str):EN:=λs=>match s.t[i]? with
 |some (some (.lc b))=>(jg s.S b).bind λy=>if y.1=C then(match y.2.lookup f with
  |some (.lc j)=>(ip s.S j).bind λes=>if b≠j then(lcC gs I (es.map (·.2)) (s.S.set j none) []).bind λr=>cIf (es.length<100000) (some<|newD (.list r.1) ⟨r.2.set j<|some<|.dct es,s.t⟩) none else none
  |_=>none)else none
 |_=>none
theorem gW.get:∀{G0:List<|Key×V} {es:List<|Key×SV} (i:Nat) {k:Key} {v:V},gW A B G0 es->G0[i]?=some (k,v)->∃x,(es.map (·.2))[i]?=some x/\ek A B v x
 |_,_,_,_,_,.nil,h=>by simp at h
 |_,_,0,_,_,.cons a b,h=>by simp at h;obtain⟨rfl,rfl⟩:=h;exact⟨_,rfl,a⟩
 |_,_,i+1,_,_,.cons a b,h=>by
  obtain⟨x,h1,h2⟩:=gW.get i b (by simpa using h)
  exact⟨x,by simpa using h1,h2⟩
theorem zbU(h:a≠b):upd (upd H a u) b w=upd (upd H b w) a u:=by
 funext q
 by_cases h1:q=b
 .subst h1;rw[aw,av h.symm,aw]
 .rw[av h1]
  by_cases h2:q=a
  .subst h2;rw[aw,aw]
  .rw[av h2,av h2,av h1]
theorem zbV(I:Cls K C)(hn:di K C f):NE W0 (ZJ<|tLC fr (zc7<|Th K (Hm i) f) WW<|JW (gs.map λp=>(p.1,spQ p.2)) mn E0 (Hm 0) Bc) (Yo i C f gs mn):=by
 intro G A B H J s r0 Q R V q;unfold Yo at V;split at V
 .rename_i b hb
  obtain⟨y,e1,N⟩:=zd8 V;clear V;split at N
  .rename_i ρ
   split at N
   .rename_i j hj
    obtain⟨es,e2,U⟩:=zd8 N;clear N;split at U
    .rename_i hbj
     obtain⟨⟨ds,S2⟩,e3,e6⟩:=zd8 U;clear U;obtain⟨hz,e7⟩:=cY e6;cases e7;clear e6;obtain⟨vb,hvb,rb⟩:=R.slot i _ hb;cases rb with
     |lc hAb=>
      rename_i ab
      cases R.st.cell b _ _ (j8 e1) hAb with
      |obj p1 p2 p3=>
       rename_i dx gs0
       obtain⟨u,hu,ru⟩:=p3.look hj;cases ru with
       |lc hA=>
        rename_i a
        obtain⟨G0,h1,h2⟩:=yX R hA e2;have hab:ab≠a:=λe=>by subst e;rw[p1]at h1;cases h1
        refine⟨a,G0,h1,λo=>?_⟩
        have R1:=R.frz (o:=o) hA h1 trivial;refine⟨_,hvb,ab,_,_,_,_,rfl,by rw[av hab];exact p1,by rw[ρ];exact I,by rw[ρ];exact hn,hu,a,o,G0,rfl,aw,?_⟩
        have hl:=h2.length;refine⟨λk m O T=>m=G0.length-k/\k<=G0.length/\O.length=k/\T a=some (.frz o<|.dK G0)/\∃σ s2 cs,bp ⟨G.B,G.H,G.io,λq=>G.Z q\/q=a⟩ A σ T J ⟨s2,s.t⟩/\aW B σ/\aZ σ O cs/\lcC gs mn ((es.map (·.2)).drop k) s2 cs=some (ds,S2),⟨G0.length,by simp,Nat.zero_le _,rfl,aw,B,_,[],R1,aW.refl _,.nil,by rw[List.drop_zero];exact e3⟩,?_⟩
        rintro k m O T ⟨rfl,hkl,M,h,σ,s2,cs,R2,sB,rs,D⟩
        refine⟨by rw[M,sizeLine_eq];lia,?_⟩
        by_cases F:k<G0.length
        .refine .inr ⟨⟨h,F⟩,λv H3 hy=>?_⟩
         obtain⟨rfl,key,hkv⟩:=hy;dsimp only[WW];rw[if_pos rfl];obtain⟨x,hx,rx⟩:=gW.get k (h2.mono 9018 sB) hkv;have r:k<(es.map (·.2)).length:=by rw[zej,<-hl];exact F
         rw[zfa r,show(es.map (·.2))[k]=x from by rw[zeB r]at hx;exact zeP hx]at D
         cases x with
         |lc n=>
          unfold lcC at D;obtain⟨z,e9,w⟩:=zd8 D;split at w
          .rename_i X
           obtain⟨g,e11,l⟩:=zd8 w;split at l
           .rename_i d C1 fs1 hg
            split at l
            .rename_i hfs
             cases rx with
             |lc E=>
              rename_i an
              cases R2.st.cell n _ _ (j8 e9) E with
              |obj S q2 q3=>
               rename_i dx1 gs1
               refine⟨.ref an,rfl,an,z.1,spQ g,_,_,rfl,List.mem_map.mpr ⟨_,JX e11,rfl⟩,S,q3.Dk X.2,?_⟩;show spQ g [.ref an] H3 _ E0;have hst:StO [an] σ H3 [some<|.obj z.1 z.2]:=⟨rfl,by simp,λc I=>by simp at I;subst I;exact R2.st.dis _ (zeh E),λc I=>by simp at I;subst I;exact⟨_,S,.inl trivial⟩,λc d e f1 f2=>by
                cases c with
                |zero=>cases f1;cases f2;exact .obj S q2 (q3.pl X.1)
                |succ c=>cases f1⟩
               refine⟨[an],σ,[some<|.obj z.1 z.2],[.lc 0],.ok (.pl d) [some<|.obj C1 fs1],R2.sub,R2.fj,hst,.cons (.lc rfl) .nil,hg,λv' A' B' H' P=>?_⟩
               have R3:=R2.Yn E S trivial hfs P;have Y:an≠a:=λe=>by subst e;rw[h]at S;cases S
               cases P.val with
               |pl rv=>
                exact⟨G0.length-(k+1),by lia,rfl,F,by rw[zes,M];rfl,P.kept a _ h (by simpa using Y.symm),B',_,_,R3,sB.trans P.eB,aZ.snoc (rs.mono P.eB) rv,l⟩
            .cases l
           .cases l
          .cases w
         |pl d=>cases D
         |tp d=>cases D
        .have r:k=G0.length:=by lia
         subst r;rw[List.drop_eq_nil_of_le (by rw[zej,<-hl];exact zen _)]at D
         cases D;refine .inl ⟨⟨h,zen _⟩,λp hp=>?_⟩
         have pa:p≠a:=λe=>by subst e;rw[h]at hp;cases hp
         refine⟨by rw[av pa.symm];exact h,?_⟩
         have R4:=R2.zc9 (G:=G) (c:=.dct es) hA h trivial (.dct aw<|h2.mono 9018 sB);rw[show upd (upd T p<|.lst O) a (.dK G0)=upd (upd T a<|.dK G0) p (.lst O)from zbU pa];refine yx (W:=W0) R4 (by rw[av pa];exact hp) trivial (λH' h'=>.lst h' rs) ?_
         exact λx A' B' H' g e R' V'=>q x A' B' H' g (sB.trans e) R' V'
    .cases U
   .cases N
  .cases N
 .cases V
def wm(f:List D->Option 9047)(m:MN<|List SV):EN:=bN m λxs s=>(mZ xs).bind λds=>(f ds).bind λw=>match w with
 | .inl r=>UB r s
 | .inr c=>some (.er ⟨c,none⟩ s)
theorem RP(hw:∀x J H',W x J H'->E (Zl.cl x.c) none H')(h:NA W t m):NE W (qp (spX Zl.cl f) [] E t) (wm f m):=by
 fail "q4"
 rw[zeQ];obtain⟨ds,h1,σ⟩:=zd8 b;obtain⟨w,K,u⟩:=zd8 σ;refine⟨k,ds,w,a.sub,a.fj,m4 j h1,K,?_⟩;cases w with
 |inl r=>
  obtain⟨d,o⟩:=r;intro v B' H' P;have R2:=o5 a P;have pv:=P.val;cases o with
  |false=>
   cases u;exact i v l B' H' 9018 P.eB R2 (.pl pv)
  |true=>
   obtain⟨p,rfl,hn,S,y⟩:=pv;have g:∀C,C=newD d s1->ROk G l k J W ek Q C->Q (.ref p) H':=λC er X=>by
    subst er;obtain⟨D,N,Z⟩:=a.Bh hn;obtain⟨ob,T,V⟩:=y.mx;have F:=R2.take D N S T V (.dat y);exact X _ _ B' H' 9102 P.eB F (.lc (by rw[<-a.st.len];exact List.getElem?_concat_length))
   cases y with
   |lst _ _=>cases u;exact g _ rfl i
   |dct _ _=>cases u;exact g _ rfl i
 |inr c=>
  cases u;exact λB' H' P=>hw ⟨c,none⟩ J H' (i l B' H'<|o5 a P)
def fq(f:FN):FN:=λS xs=>match f S xs with
 |some (.ok r S')=>some (.ok r S')
 |_=>none
theorem Ve(h:fq f S xs=some w):∃r S',w=.ok r S'/\f S xs=some (.ok r S'):=by
 unfold fq at h;split at h
 .rename_i r S' e
  cases h;exact⟨r,S',rfl,e⟩
 .cases h
theorem IU{A:List Addr}{B H:Hp}{J:St}{s:SS}{vs:List V}{xs:List SV}{I:RR SV}{Q:VK}{E:XK}(R:bp G A B H J s)(V:cZ A B vs xs)(e:((fq f s.S xs).map λw=>frR w s.t)=some I)(q:ROk G A B J W ek Q I):spQ f vs H Q E:=by
 obtain⟨w,a,b⟩:=zd9 e;obtain⟨r,S',rfl,c⟩:=Ve a;cases b;exact⟨A,B,s.S,xs,.ok r S',R.sub,R.fj,R.st,V,c,λv A' B' H' P=>q v A' B' H' P.gro P.eB (R.post P) P.val⟩
theorem Vf(h:NA W t m):NE W (qp (spQ f) [] E t) (j7 (fq f) m):=by
 fail "q4"
 rw[zeQ];exact IU a j b i
theorem yY(hd:∀B,aZ B dvs dv)(ha:NE W I a)(h:NA W t m):NE W (DV C ρ (spQ f) dvs E I t) (cz C ρ (fq f) dv a m):=by
 fail "q1"
 split at i
 .rename_i k
  fail "qh"
  .rename_i hz
   obtain⟨rfl,hz⟩:=hz;cases o with
   |lc c=>
    cases j.st.cell k _ _ (j8 d) c with
    |obj h1 h2 h3=>
     refine⟨_,_,_,rfl,h1,h3.Dk hz,?_⟩;refine gr (t:=t) h j b l λvs xs σ g K s2 u r R2 n p w=>?_
     exact IU R2 (.cons (.lc<|u _ _ c)<|n.append (hd g).plV) p w
  .cases b
 .cases i
theorem Vg(h:NA W t m):NE W (Tj C (spQ f) [] E t) (vc C (fq f) m):=by
 fail "q4"
 intro x dx hx F ne;rw[zeQ];have eH:aW n 9121:=λq u d=>by
  rw[av (λz=>by rw[z,hx]at d;cases d),av λz=>by rw[z,F]at d;cases d];exact d
 have R2:bp G l k 9121 J s1:=a.grow (aW.refl _) eH (a.sub.trans eH) (λ_ _ z=>z) (λq xs d=>by
  by_cases z:q=x
  .subst z;rw[aw]at d;cases d
  .rw[av z]at d
   by_cases z:q=dx
   .subst z;rw[aw]at d;cases d
   .rw[av z]at d;exact a.fj q xs d) λq u w d=>by
  by_cases z:q=x
  .subst z;rw[aw]at d;cases d
  .rw[av z]at d
   by_cases z:q=dx
   .subst z;rw[aw]at d;cases d
   .rw[av z]at d;exact a.nz q u w d
 obtain⟨n1,n2,n3⟩:=a.Bh hx;have o:bp G (l++[x]) k 9121 J ⟨s1.S++9113,s1.t⟩:=R2.take (c:=.obj C []) n1 n2 n3 aw trivial (.obj aw (by rw[av ne];exact aw) .nil)
 have hk:(l++[x])[s1.S.length]?=some x:=by rw[<-a.st.len];exact List.getElem?_concat_length
 split at b
 .rename_i S' g
  cases b;obtain⟨K,σ,p,g⟩:=Ve g;cases p;refine⟨_,k,_,_,_,o.sub,o.fj,o.st,.cons (.lc hk)<|j.mono 9102<|aW.refl _,g,λv A' B' H' P=>?_⟩
  have pv:=P.val;cases pv with
  |pl r=>
   cases r;exact⟨rfl,i (.ref x) A' B' H' ((Gro.app _ _).trans P.gro) P.eB (o.post P)<|.lc<|P.gro _ _ hk⟩
 .rename_i y S' g
  obtain⟨K,σ,p,_⟩:=Ve g;cases p
 .cases b
def JY(I:List Addr)(a v:EN)(f:Str):SN:=bS v λy=>bS a λx s=>match x with
 | .lc k=>(jg s.S k).bind λz=>if I.contains z.1=true/\z.2.length<1000 then some (.nx ⟨s.S.set k<|some<|.obj z.1<|AJ f y z.2,s.t⟩)else none
 |_=>none
theorem Yp(I:∀C∈ρ,Cls K C/\di K C f)(ha:NE W M a)(hv:NE W O v):NS W (WM K M O f) (JY ρ a v f):=by
 intro G A B H J s o D R e q;refine Cb hv R e q λy yv E F σ s1 N t l m p=>?_
 refine Cb ha l p q λx xv i j g s2 u d R2 n b=>?_
 split at b
 .rename_i k
  obtain⟨z,r,c⟩:=zd8 b;split at c
  .rename_i hz
   cases c;have hm:=List.contains_iff_mem.mp hz.1;cases n with
   |lc h=>
    cases R2.st.cell k _ _ (j8 r) h with
    |obj h1 h2 h3=>
     have nx:∀{dx a:Addr} {gs:List<|Str×V},g a=some (.ins z.1 dx gs)->g dx=some (.own a)->dx≠a:=fun{dx a gs} p1 p2 w=>by rw[w,p1]at p2;cases p2
     refine⟨_,_,_,_,rfl,h1,(I _ hm).1,(I _ hm).2,by rw[h3.length];exact hz.2,q i j _ J<|R2.write h trivial<|.obj aw (by rw[av<|nx h1 h2];exact h2)<|h3.put<|m.mono u d⟩
  .cases c
 .cases b
theorem bp.zd2(R:bp G A B H J s)(I:H p=none):bp G A (upd B p<|.lst xs) (upd H p<|.lst xs) J s/\aW B (upd B p<|.lst xs):=by
 obtain⟨_,_,a⟩:=R.Bh I;have eB:aW B (upd B p<|.lst xs):=λq u h=>by rw[av λz=>by rw[z,a]at h;cases h];exact h
 refine⟨R.grow eB (λq u h=>by rw[av λz=>by rw[z,I]at h;cases h];exact h) (λq u h=>?_) (λq h z=>?_) (λq b h=>?_) λq u w h=>?_,eB⟩
 fail "qj"
 .rw[av λe=>by rw[e]at h;exact h I];exact z
 .by_cases z:q=p
  .subst z;rw[aw]at h;cases h
  .rw[av z]at h⊢;exact R.fj q b h
 .by_cases z:q=p
  .subst z;rw[aw]at h;cases h
  .rw[av z]at h;exact R.nz q u w h
def AL(m:MN<|List SV):EN:=bN m λxs s=>(mZ xs).bind λds=>cIf (xs.length<=sizeLine) (some<|.ok (.pl<|.list ds) s) none
theorem Yq(h:NA W t m):NE W (Ti t) (AL m):=by
 fail "q4"
 obtain⟨ds,d,f⟩:=zd8 b;obtain⟨hz,g⟩:=cY f;cases g;refine⟨by rw[j.length];exact hz,λp o=>?_⟩
 obtain⟨R2,c⟩:=a.zd2 (xs:=vs) o;exact i _ l _ _ 9018 c R2 (.pl<|.lst (.inl aw)<|(m4 j d).mono c)
theorem Yr(ρ:U7 K I T):OpJ (λx y H Q=>∃k v,y=kV k/\j3 (Ca K I) k=some v/\rIn K n x v H Q) (JU n T):=by
 intro B H x y c d j s hx hy e;unfold JU at e;split at e
 .rename_i z f
  obtain⟨l,h1,h2⟩:=zd9 e;cases h2;have:=hx.str;subst this
  have:=hy.str;subst this
  have h:=Fi (K:=K) (g:=Gp) (c:=V.str) (λh=>wk h) f ρ
  rw[h1]at h;obtain⟨b,a,i⟩:=h;exact jl λQ q=>⟨Sum.inr f,_,rfl,a,b,_,rfl,.inr<|i H,rfl,IQ l,by rw[L0];exact q⟩
 .cases e
theorem Vh(ρ:U7 K I T)(hx:NE W U x)(M:NE W O f):NE W (tOp (rIn K n) U<|ZH (Ca K I) O) (nOp (JU n T) x f):=by
 have h:=IG (W:=W) (Yr (n:=n) ρ) hx M;exact h
end
end Mir
namespace L2
theorem L5{α:Type}{w:World}{K:zee}{a:Addr}{T:List<|Str×α}{g:Str×Addr×Tok->Option α}(h:Yd w K a)(I:(Gm K a).map (λp=>(p.1,g p))=T.map λp=>(p.1,some p.2))(nd:(T.map (·.1)).Nodup)(ρ:9101=false):DkK P w K a (Ca K a):=by
 refine Ye h ?_ ρ;have e:=congrArg (List.map (·.1)) I
 rw[List.map_map,List.map_map]at e;have b:(Gm K a).map (·.1)=T.map (·.1):=e
 rw[b];exact nd
theorem Vi(h:(BO K b).bind Gp=some l):∀H,SqT K H b (l.map .str):=by
 obtain⟨us,h1,h2⟩:=zd8 h;exact LV h1 (wk h2)
end L2
namespace Mir
open L2
section
variable [Zc] [Zl]{W:WX}
def Oy(S:List<|Option Cl)(x:SV):Option D:=match x with
 | .lc k=>match S[k]? with
  |some (some (.lst xs))=>(JM S xs).map .list
  |_=>rdV S x
 |_=>rdV S x
theorem L6{s:SS}(O:StO A B H s.S)(sub:aW B H){v:V}{x:SV}{d:D}(h:ek A B v x)(e:Oy s.S x=some d):Rep H v d:=by
 unfold Oy at e;split at e
 .rename_i k
  split at e
  .rename_i xs b
   obtain⟨ds,a,rfl⟩:=zd9 e;cases h with
   |lc h=>
    cases O.cell k _ _ b h with
    |lst h1 h2=>exact .lst (.inl h1) (yt O sub h2 a)
  .exact wc O sub h e
 .exact wc O sub h e
def zbW(g:D->D->Option (D×Bool))(a b:EN):EN:=bN a λx=>bN b λy s=>(Oy s.S x).bind λc=>(Oy s.S y).bind λd=>(g c d).bind λw=>EA w s
theorem zbX(σ:OpJ r g)(ha:NE W I a)(ρ:NE W M b):NE W (tOp r I M) (zbW g a b):=by
 fail "q1"
 refine gr ρ j i l λy u P T m s2 E k R2 n f K=>?_
 have h:=o.mono E k;obtain⟨c,h1,f⟩:=zd8 f;obtain⟨d,h2,f⟩:=zd8 f;obtain⟨w,p,C⟩:=zd8 f;exact Gb R2 (σ m m x y c d w (aW.refl _) (.inl<|L6 R2.st R2.sub h h1) (.inl<|L6 R2.st R2.sub n h2) p) C K
end
end Mir
namespace L2
open PySem.W
def Gr(l:List Obj):Nat->List Nat->List Obj :=
 @List.rec Obj (λ_=>Nat->List Nat->List Obj) (λ_ _=>[]) (λo _ D i h=>
  @List.rec Nat (λ_=>List Obj) [] (λa r _=>@Bool.rec (λ_=>List Obj) (D (Nat.add i 1) h) (o::D (Nat.add i 1) r)<|Nat.beq i a) h) l
def ZK(o:Obj):Bool:=match o.data with| .freed=>false|_=>true
theorem RQ{h:Heap}{a:Nat}{o:Obj}(e:h.objs[a]?=some o)(l:ZK o=true):h.get? a=some o:=by
 unfold Heap.get?;rw[e];obtain⟨c,d,x,y⟩:=o
 cases x<;>first|rfl|cases l
theorem Dq:∀{l:List Obj} {i:Nat} {K:List<|Nat×Obj},Gr l i (K.map (·.1))=K.map (·.2)->∀(a:Nat) (o:Obj),K.lookup a=some o->∃j,a=i+j/\l[j]?=some o
 | [],i,[],_,a,o,h=>by cases h
 | [],i,_::_,e,a,o,h=>nomatch e
 |_::_,i,[],_,a,o,h=>by cases h
 |x::l,i,(b,y)::K,e,a,o,h=>by
  have d : @Bool.rec (λ_=>List Obj) (Gr l (Nat.add i 1) (((b,y)::K).map (·.1))) (x::Gr l (Nat.add i 1) (K.map (·.1))) (Nat.beq i b)=y::K.map (·.2):=e
  cases f:Nat.beq i b with
  |true=>
   rw[f]at d;obtain⟨rfl,k⟩:=List.cons.inj (show x::Gr l (i+1) (K.map (·.1))=y::K.map (·.2)from d)
   have hi:i=b:=Nat.eq_of_beq_eq_true f;rw[ze7]at h;cases c:a==b with
   |true=>
    rw[c]at h;cases h
    exact⟨0,by have:=beq_iff_eq.mp c;lia,rfl⟩
   |false=>
    rw[c]at h;obtain⟨j,m,g⟩:=Dq k a o h;exact⟨j+1,by lia,by simpa using g⟩
  |false=>
   rw[f]at d;obtain⟨j,m,g⟩:=Dq (l:=l) (i:=i+1) (K:=(b,y)::K) d a o h;exact⟨j+1,by lia,by simpa using g⟩
theorem lookup_mem:∀{K:List<|Addr×Obj} {a o},K.lookup a=some o->∃b,(b,o)∈K
 | [],_,_,h=>by cases h
 |(b,y)::K,a,o,h=>by
  rw[ze7]at h;cases d:a==b with
  |true=>rw[d]at h;cases h;exact⟨b,.head _⟩
  |false=>rw[d]at h;obtain⟨c,e⟩:=lookup_mem h;exact⟨c,.tail _ e⟩
def Oz(K:Params->Frag)(as:List Addr)(e:∀P,as=(K P).map (·.1))(l:∀P,((K P).all λp=>ZK p.2)=true)(ts:List Addr):Hook where
 α:=List Obj×List (Option Obj)
 obs:=λs=>(Gr s.heap.objs.toList 0 as,ts.map s.heap.get?)
 val:=λw=>((K w.params).map λp=>p.2,ts.map λ_=>some<|tabObj #[])
 says:=λw h=>InK K w h/\∀P∈ts,h.get? P=some (tabObj #[])
 of:=λw s x=>⟨λa o h=>by
   have x1:=(Prod.mk.inj x).1;rw[e w.params]at x1;obtain⟨j,r1,r2⟩:=Dq x1 a o h;obtain⟨b,hb⟩:=lookup_mem h;refine RQ ?_ (List.all_eq_true.mp (l w.params) _ hb);rw[r1,Nat.zero_add];rw[Array.getElem?_toList]at r2;exact r2,List.map_inj_left.mp (Prod.mk.inj x).2⟩
 keeps:=λw h h' x k=>⟨InK.keeps w h h' x.1 k,λP hP=>k _ _<|x.2 P hP⟩
def Vj(Y:(Oz K I e l ts).says w h):(K w.params).In h:=Y.1
def OA(Y:(Oz K I e l ts).says w h):∀P∈ts,h.get? P=some (tabObj #[]):=Y.2
def ZL(xs:List V)(H:Hp)(Q:VK):Prop:=zaK xs H Q\/∃a o G0 n,xs=[.ref a,.ty n]/\(H a=some (.dK G0)\/H a=some (.frz o<|.dK G0))/\n∈iX/\Q (.bl<|C6 "dict" n) H
theorem RS:j4 X (.builtin "isinstance") ZL:=by
 intro C0 s J H xs us Q I r h;rcases h with h|⟨a,o,G0,n,rfl,hd,h2,q⟩
 .exact Li C0 s J H xs us Q I r h
 .obtain⟨u,v,rfl,d,e⟩:=vals2 r
  cases e;have b:∀{vs} {h:Heap},h=s.heap->h.DictOf (gg X.prog X.w) a vs->wpAny 9001 X.A (call (.builtin "isinstance") [u,.type n]) 9033 X.xe s:=fun{vs h} c p=>by
   subst c;cases(d);obtain⟨o,es,f,h1,h3,_⟩:=p;exact ze3 PySem.W.kitx_dict I.kIn ⟨o,h1,h3.1⟩ (Io X.K "dict" (by decide) n h2) (λz=>nomatch z) λtk=>⟨.bl _,H,I.tok tk,rfl,q⟩
  rcases hd with hd|hd
  .obtain⟨_,_,vs,_,p⟩:=(I.hok a _ hd)
   exact b rfl p
  .obtain⟨_,_,_,vs,_,p⟩:=(I.hok a _ hd)
   exact b rfl p
end L2
namespace Mir
open L2
section
variable [Zc]
def ZM(n:String):D->Option (D×Bool)
 | .dict _=>if n∈iX then some (.bool<|C6 "dict" n,false)else none
 |d=>yb n d
def ZN(n:String)(a:PM):PM:=mUn (ZM n) a
theorem Ys(ha:ME I a):ME (tCB ZL<|BJ I<|BJ (tC<|.ty n) Bc) (ZN n a):=by
 fail "q6"
 by_cases hd:∃es,x.1.1=.dict es
 .obtain⟨es,hd⟩:=hd
  fail "q3"
  rw[hd]at b;have c:(if n∈iX then some ((PyData.bool<|C6 "dict" n,false):D×Bool)else none)=some l:=b
  by_cases hn:n∈iX
  .rw[if_pos hn]at c
   cases c;have r:=(k.view d).rep d.sub;rw[hd]at r;cases r with
   |dct h _=>
    rcases h with h|⟨o,h⟩
    .exact .inr ⟨_,⟨.none,none,.plain,#[]⟩,_,n,rfl,.inl h,hn,q _ j i f d (.bl _) λp z=>by cases z⟩
    .exact .inr ⟨_,o,_,n,rfl,.inr h,hn,q _ j i f d (.bl _) λp z=>by cases z⟩
  .rw[if_neg hn]at c;cases c
 .have m:yb n x.1.1=some l:=by
   revert b hd
   cases x.1.1 with
   |dict es=>intro _ hd;exact absurd ⟨es,rfl⟩ hd
   |_=>intro b _;exact b
  refine ha.sv F B H J L x.1 x.2 _ R A λv j i f d k V=>.inl ?_
  unfold yb at m;split at m
  .rename_i g
   cases m;have r:=(k.view d).rep d.sub;have s:=r.ty g.1;have hk:tyD x.1.1∈fW:=by
    have h2:=g.1
    revert h2
    cases x.1.1 with
    |none=>intro _;show "NoneType"∈fW;decide
    |bool _=>intro _;show "bool"∈fW;decide
    |int _=>intro _;show "int"∈fW;decide
    |str _=>intro _;show "str"∈fW;decide
    |list _=>intro _;show "list"∈fW;decide
    |tuple _=>intro _;show "tuple"∈fW;decide
    |dict _=>intro h2;exact absurd rfl h2
   exact⟨v,n,rfl,by rw[s];exact hk,g.2,by rw[s];exact q _ j i f d (.bl _) λp z=>by cases z⟩
  .cases m
end
end Mir
namespace L2
end L2
namespace Mir
open L2
end Mir
namespace L2
open PySem.Spec PyProof.Rows PySem.W
end L2
namespace Mir
open L2
end Mir
namespace L2
theorem Yt{ts:List Addr}{h:Heap}(e:((vx K).all λx=>ts.contains x.2.1)=true)(t:∀T∈ts,h.get? T=some (PySem.W.tabObj #[])):∀c T ps,vx K=some (c,T,ps)->h.get? T=some (PySem.W.tabObj #[]):=λc T ps z=>by
 rw[z]at e;exact t T (by simpa using e)
end L2
namespace Mir
open L2
end Mir
namespace L2
open PySem.Spec PyProof.Rows
def Its(x:Str):It:=⟨λi _=>i<x.cps.size,λi H v H'=>H'=H/\∃c,x.cps[i]?=some c/\v=.str ⟨#[c]⟩,λi _=>x.cps.size<=i⟩
theorem RT{K:zee}{tg:Expr}{it:Addr}{x:Str}{t:Tok}{T:String}(ρ:∀A:Around,A.handled=none->Walks P w A it [it] [it] x.cps.size (SignAt x) λi h=>h.IsStrIter it T x t i)
  (O : ["enumerate","zip","dict_itemiterator","dict_reverseitemiterator","odict_iterator","itertools.zip_longest","itertools.pairwise"].contains T=false)
  (M:∀(A:Around) (i:Nat) (s:Shared) (Q:Value->Shared->Prop) (E:Value->Shared->Prop),s.heap.IsStrIter it T x t i->Q (.ref it) s->wpAny (model P w) A (pyIter<|.ref it) Q E s) :
  Turn P w K tg (Its x) [it] it (λi h=>i<=x.cps.size/\h.IsStrIter it T x t i) where
 mem:=by simp
 obj:=λi h st b a=>by
  have e:b=it:=by simpa using a
  subst e;obtain⟨_,o,e,c,d⟩:=st;exact⟨o,e,λv z=>by rw[d]at z;cases z⟩
 keep:=λi h h' st k=>by
  obtain⟨hi,o,e,c,d⟩:=st;exact⟨hi,o,k it (by simp) o e,c,d⟩
 item:=by
  intro X N hw σ r i C0 s J H E I g st j;obtain⟨l,m,G,n,p,q⟩:=g it (by simp)
  refine(ρ X.A<|I.ok.hd r).item i s _ _ j st.2 λv h' tk hv f B=>?_
  obtain⟨c,u,y,rfl⟩:=hv;have C:Inv X C0 J H {s with heap:=h',toks:=tk}:=I.turned (λb o a e=>B b o (by simpa using a) e) l m n p q
  obtain⟨o,e,D,F⟩:=id f;exact⟨_,rfl,Ic e D F O ⟨.str ⟨#[c]⟩,H,C,⟨u,rfl⟩,⟨rfl,c,y,rfl⟩,⟨j,f⟩,λb a=>(g b a).1⟩⟩
 done:=by
  intro X N hw σ r i C0 s J H E I g st j;obtain⟨l,m,G,n,p,q⟩:=g it (by simp)
  have hi:=Nat.le_antisymm st.1 j;subst hi;exact(ρ X.A<|I.ok.hd r).done s _ _ st.2 λh' tk B=>⟨rfl,I.turned (λb o a e=>B b o (by simpa using a) e) l m n p q⟩
 self:=λA i s Q E st h=>M A i s Q E st.2 h
section
variable{X:Cx}{tg:Expr}
def zda(te:TE):TI:=λJ H R=>te J H λv h=>∃x,v=.str x/\R (Its x) h
theorem zbY(ρ:PE X l M):PI X tg l (zda M):=by
 intro C0 s J H R I h;refine thn 9075 λv s1 ⟨y,g,c,r,p⟩=>?_
 obtain⟨x,rfl,q⟩:=p;obtain⟨t,rfl⟩:=r;have a:∀(o:Obj) (T:String),(∀A:Around,A.handled=none->Walks X.prog X.w A s1.heap.objs.size 9120 9120 x.cps.size (SignAt x) λi h=>h.IsStrIter s1.heap.objs.size T x t i)->
   ["enumerate","zip","dict_itemiterator","dict_reverseitemiterator","odict_iterator","itertools.zip_longest","itertools.pairwise"].contains T=false->
   (∀(A:Around) (i:Nat) (s:Shared) (Q:Value->Shared->Prop) (E:Value->Shared->Prop),s.heap.IsStrIter s1.heap.objs.size T x t i->Q (.ref s1.heap.objs.size) s->wpAny 9001 A (pyIter<|.ref s1.heap.objs.size) Q E s)->
   (s1.heap.push o).IsStrIter s1.heap.objs.size T x t 0->PIE X C0 J tg R (.ref s1.heap.objs.size) {s1 with heap:=s1.heap.push o}:=λo T m k j st=>
  ⟨s1.heap.objs.size,9120,_,_,g,rfl,c.kept λb o e=>zep _ e,RT m k j,⟨Nat.zero_le _,st⟩,λb n=>by
   have e:b=s1.heap.objs.size:=by simpa using n
   subst e;exact c.Wt (zen _) (c.hok.fresh<|zen _),q⟩
 cases ha:x.cps.all (· <128)
 .exact wpAny_pyIter_wide ha (a _ _ (λA' d=>Walks.strWide d _ x t) (by decide) (λ_ _ _ _ _ st f=>wpAny_pyIter_striter_wide st f) ⟨_,zeK _ rfl,rfl,rfl⟩)
 .exact wpAny_pyIter_ascii ha (a _ _ (λA' d=>Walks.strAscii d _ x t) (by decide) (λ_ _ _ _ _ st f=>wpAny_pyIter_striter_ascii st f) ⟨_,zeK _ rfl,rfl,rfl⟩)
def leS(x y:Str):Bool:=!decide (y.cps.toList<x.cps.toList)
def Yu:R2:=λa b H Q=>∃x y,a=.str x/\b=.str y/\Q (.bl<|leS x y) H
theorem Vk:OpR X (compareOp .LtE) Yu:=by
 intro C0 s J H x y v u Q I c d h;obtain⟨a,b,rfl,rfl,q⟩:=h;obtain⟨t1,rfl⟩:=c;obtain⟨t2,rfl⟩:=d;exact PySem.P.le_str ⟨.bl<|leS a b,H,I,rfl,q⟩
end
end L2
namespace Mir
open L2
section
variable [Zc]
def JZ(x:Str):List D:=x.cps.toList.map λc=>.str ⟨#[c]⟩
def zbZ(a:PM):Rho->Option 9055:=λL=>(sv a L).bind λx=>match x.1.1 with
 | .str z=>some (JZ z,x.2)
 |_=>none
theorem zb0:Hq G B (Its x) (JZ x):=λH _=>by
 refine⟨by simp[JZ,Its],λi d hd=>?_⟩
 unfold JZ at hd;rw[zem]at hd;obtain⟨c,h1,h2⟩:=zd9 hd;rw[Array.getElem?_toList]at h1;refine⟨(Array.getElem?_eq_some_iff.mp h1).1,λv H' hy=>.inl ⟨hy.1,?_⟩⟩
 obtain⟨_,a,h3,h4⟩:=hy;rw[h1]at h3;cases h3;rw[h4,<-h2];exact .str _
theorem zb1(ha:ME I a):MI (zda I) (zbZ a):=by
 fail "qf"
 split at e
 .rename_i z hz
  cases e
  fail "q3"
  have w:=k.view d;rw[hz]at w;exact⟨z,w.str,q _ j i f d zb0⟩
 .cases e
def Hy:D->D->Option (D×Bool)
 | .str x,.str y=>some (.bool<|leS x y,false)
 |_,_=>none
theorem ZO:OpJ Yu Hy:=by
 intro B H x y c d a s hx hy e;unfold Hy at e;split at e
 .cases e
  have:=hx.str;subst this
  have:=hy.str;subst this
  exact jl λQ q=>⟨_,_,rfl,rfl,q⟩
 .cases e
theorem RU(h:Yu x y H Q)(k:∀v H',Q v H'->I v H'):Yu x y H I:=by
 obtain⟨a,b,c,d,q⟩:=h;exact⟨a,b,c,d,k _ _ q⟩
end
end Mir
namespace Txs
open PySem.Builtin.Str PySem.StrLaws
def good(y l:List Nat)(i:Nat):Bool:=decide (i+y.length<=l.length)&&decide ((l.drop i).take y.length=y)
theorem Gs(h:good (c::I) l i=true):l[i]?=some c/\∀k,k<I.length->l[i+1+k]?=I[k]?:=by
 simp only[good,Bool.and_eq_true,decide_eq_true_eq]at h;obtain⟨h1,h2⟩:=h;constructor
 .have:=congrArg (λt=>t[0]?) h2
  simpa[List.getElem?_take,List.getElem?_drop]using this
 .intro k hk
  have:=congrArg (λt=>t[k+1]?) h2
  simp only[List.length_cons,List.getElem?_cons_succ]at this;rw[List.getElem?_take,if_pos (by lia),List.getElem?_drop]at this
  rw[<-this]
  congr 1
  lia
theorem far(ρ:c∉I)(hi:good (c::I) l i=true)(M:good (c::I) l j=true)(h:i<j):i+(I.length+1)<=j:=by
 refine Classical.byContradiction λhn=>?_
 have h1:=(Gs M).1;have h2:=(Gs hi).2 (j-i-1) (by lia)
 rw[show i+1+(j-i-1)=j by lia,h1]at h2
 exact ρ (zeh h2.symm)
theorem Gu(hy:y.cps.toList=c::ρ)(M:c∉ρ)(I:Nat):∀(n lo:Nat) (st:Array Nat×Nat),st.1.size+n<=I->(∀i,lo<=i->good (c::ρ) x.cps.toList i=true->st.2<=i)->
  (forIn (List.range' lo n) st<|occBody x y x.length I).run.fst.toList=st.1.toList++(List.range' lo n).filter (good (c::ρ) x.cps.toList)
 |0,lo,st,_,_=>by simp
 |n+1,lo,st,h,d=>by
  rw[List.range'_succ,List.forIn_cons];have f:y.length=(c::ρ).length:=by rw[<-hy];rfl
  have hx:x.length=x.cps.toList.length:=rfl;have e:((lo+y.length<=x.length)/\subAt x y lo=true)↔good (c::ρ) x.cps.toList lo=true:=by
   simp only[good,Bool.and_eq_true,decide_eq_true_eq,<-f,<-hx];refine and_congr Iff.rfl ?_;unfold subAt;rw[beq_iff_eq,<-hy,<-Array.toList_inj,Array.toList_extract,List.extract_eq_take_drop];rw[show lo+y.length-lo=y.length by lia]
  by_cases g:good (c::ρ) x.cps.toList lo=true
  .have b:=e.mpr g
   have:occBody x y x.length I lo st=pure (ForInStep.yield (st.1.push lo,lo+y.length)):=by
    unfold occBody;rw[if_pos ⟨⟨⟨by lia,d lo (zen _) g⟩,b.1⟩,b.2⟩]
   rw[this,List.filter_cons_of_pos g];show(forIn (List.range' (lo+1) n) (st.1.push lo,lo+y.length)<|occBody x y x.length I).run.fst.toList=_;rw[Gu hy M I n (lo+1) _ (by simp;lia) λi hi a=>?_]
   .simp
   .have:=far M g a (by lia)
    rw[f];simpa using this
  .have:occBody x y x.length I lo st=pure (ForInStep.yield (st.1,st.2)):=by
    unfold occBody;rw[if_neg λz=>g<|e.mp ⟨z.1.2,z.2⟩]
   rw[this,List.filter_cons_of_neg g];show(forIn (List.range' (lo+1) n) st<|occBody x y x.length I).run.fst.toList=_;exact Gu hy M I n (lo+1) st (by lia) λi hi a=>d i (by lia) a
def pos(y l:List Nat):List Nat:=(List.range<|l.length+1).filter (good y l)
theorem Yv(hy:y.cps.toList=c::I)(ρ:c∉I):occurrences x y 0 x.length (x.length+1)=pos (c::I) x.cps.toList:=by
 rw[occ_eq,Gu hy ρ _ _ _ _ (by simp) λi _ _=>Nat.zero_le _]
 simp[pos,List.range_eq_range'];rfl
theorem pos_none(h:c∉l):pos (c::I) l=[]:=by
 unfold pos;rw[List.filter_eq_nil_iff];intro i _ g;exact h (zeh (Gs g).1)
theorem Gv(k:Nat):good y (w++r) (w.length+k)=good y r k:=by
 unfold good;rw[zes,List.drop_append,List.drop_eq_nil_of_le (by lia:w.length<=w.length+k),List.nil_append,show w.length+k-w.length=k by lia]
 congr 1
 exact decide_eq_decide.mpr ⟨λh=>by lia,λh=>by lia⟩
theorem Vm(hw:c∉w)(ρ:c∉I):pos (c::I) (w++(c::I)++r)=w.length::(pos (c::I) r).map (· +9063):=by
 unfold pos;have e:(w++(c::I)++r).length+1=w.length+(1+(I.length+(r.length+1))):=by simp;lia
 rw[e,List.range_add,List.filter_append];have f:(List.range w.length).filter (good (c::I)<|w++(c::I)++r)=[]:=by
  rw[List.filter_eq_nil_iff];intro i hi g;have h:=(Gs g).1;have a:i<w.length:=List.mem_range.mp hi;rw[zeC,zew a]at h;exact hw (zeh h)
 rw[f,List.nil_append,List.range_add,ze0,List.filter_append];have j:((List.range 1).map λx=>w.length+x).filter (good (c::I)<|w++(c::I)++r)=[w.length]:=by
  have g:good (c::I) (w++(c::I)++r) w.length=true:=by
   have:=Gv (y:=c::I) (w:=w) (r:=(c::I)++r) 0;rw[zeC,show w.length=w.length+0 from rfl,this];simp[good]
  show([w.length+0]).filter _=_;rw[Nat.add_zero,List.filter_cons_of_pos g];rfl
 rw[j,List.map_map,List.range_add,ze0,List.filter_append];have l:((List.range I.length).map<|(λx=>w.length+x)∘λx=>1+x).filter (good (c::I)<|w++(c::I)++r)=[]:=by
  rw[List.filter_eq_nil_iff];intro i hi g;obtain⟨k,hk,rfl⟩:=List.mem_map.mp hi;have b:k<I.length:=List.mem_range.mp hk;have h:=(Gs g).1;simp only[Function.comp]at h;rw[zeC,zeM (by lia),show w.length+(1+k)-w.length=k+1 by lia,zex,zer,zew b]at h
  exact ρ (zeh h)
 rw[l,List.nil_append,List.map_map,List.singleton_append]
 congr 1
 rw[List.filter_map];have d:(good (c::I) (w++(c::I)++r)∘(((λx=>w.length+x)∘λx=>1+x)∘λx=>I.length+x))=good (c::I) r:=by
  funext k
  have:=Gv (y:=c::I) (w:=w++(c::I)) (r:=r) k;rw[<-this];simp only[Function.comp]
  congr 1
  simp;lia
 rw[d];refine List.map_congr_left λk _=>?_
 simp only[Function.comp]
 lia
def OB(l:List Nat)(p:Nat×Nat):List Nat:=(l.drop p.1).take (p.2-p.1)
def parts(y l:List Nat):List (List Nat):=((0::(pos y l).map (· +y.length)).zip<|pos y l++[l.length]).map (OB l)
theorem OC(h:c∉l):parts (c::I) l=[l]:=by
 unfold parts;rw[pos_none h];simp[OB]
theorem IV(n:Nat):∀a b:List Nat,(a.map (· +n)).zip (b.map (· +n))=(a.zip b).map λp=>(p.1+n,p.2+n)
 | [],_=>by simp
 |_::_,[]=>by simp
 |x::a,y::b=>by simp[IV n a b]
theorem OD(hw:c∉w)(ρ:c∉I):parts (c::I) (w++(c::I)++r)=w::parts (c::I) r:=by
 unfold parts;rw[Vm hw ρ];have a:(w.length::(pos (c::I) r).map (· +9063)).map (· +(c::I).length)=(0::(pos (c::I) r).map (· +(c::I).length)).map (· +9063):=by
  simp only[List.map_cons,List.map_map,List.length_cons,Nat.zero_add]
  congr 1
  exact List.map_congr_left λk _=>by simp only[Function.comp];lia
 have b:(w.length::(pos (c::I) r).map (· +9063))++[(w++(c::I)++r).length]=w.length::((pos (c::I) r++[r.length]).map (· +9063)):=by
  simp;lia
 rw[a,b,List.zip_cons_cons,zey,IV,List.map_map]
 congr 1
 .simp[OB,List.append_assoc]
 .refine List.map_congr_left λp _=>?_
  simp only[Function.comp,OB];rw[show p.2+9063-(p.1+9063)=p.2-p.1 by lia]
  congr 1
  rw[List.drop_append,List.drop_eq_nil_of_le (by simp),List.nil_append]
  congr 1
  simp
def sj(y:List Nat):List (List Nat)->List Nat
 | []=>[]
 | [w]=>w
 |w::ws=>w++y++sj y ws
theorem Gw(M:c∉ρ):∀{I:List<|List Nat},I≠[]->(∀w∈I,c∉w)->parts (c::ρ) (sj (c::ρ) I)=I
 | [],h,_=>absurd rfl h
 | [w],_,h=>OC (h w (by simp))
 |w::v::I,_,h=>by
  show parts (c::ρ) (w++(c::ρ)++sj (c::ρ) (v::I))=_;rw[OD (h w (by simp)) M,Gw M (by simp) λu hu=>h u (by simp[List.mem_cons]at hu⊢;exact .inr hu)]
def mk(l:List Nat):Str:=⟨l.toArray⟩
theorem L7(hy:y.cps.toList=c::I)(ρ:c∉I)(hk:Builtin.Str.strKind y=1):Txt.split x y=(parts (c::I) x.cps.toList).map mk:=by
 have a:y.length=(c::I).length:=by rw[<-hy];rfl
 have b : ¬Builtin.Str.strKind x<Builtin.Str.strKind y:=by
  rw[hk];unfold Builtin.Str.strKind;split
  .lia
  .split<;>lia
 have one:pos (c::I) x.cps.toList=[]->[x]=(parts (c::I) x.cps.toList).map mk:=λh=>by
  unfold parts;rw[h];simp only[List.map_nil,List.nil_append,List.zip_cons_cons,List.zip_nil_left,List.map_cons,OB,mk,List.drop_zero,Nat.sub_zero];rw[List.take_of_length_le<|zen _]
 unfold Txt.split
 by_cases h1:9108=true
 .rw[if_pos h1]
  apply one;unfold pos;rw[List.filter_eq_nil_iff];intro i _ g;simp only[good,Bool.and_eq_true,decide_eq_true_eq]at g;simp only[Bool.or_eq_true,decide_eq_true_eq]at h1;rcases h1 with h1|h1
  .have:x.length=x.cps.toList.length:=rfl
   lia
  .exact b h1
 .rw[if_neg h1,Yv hy ρ]
  by_cases h2:(pos (c::I) x.cps.toList).isEmpty=true
  .rw[if_pos h2]
   exact one (List.isEmpty_iff.mp h2)
  .rw[if_neg h2]
   unfold partsBetween parts;rw[List.map_map];have:x.length=x.cps.toList.length:=rfl;rw[a,this];refine List.map_congr_left λp _=>?_
   obtain⟨i,j⟩:=p;show strSub x i j=mk (OB x.cps.toList (i,j));have:=strSub_toList x i j;unfold mk OB;rw[<-this]
theorem Gx(hy:y.cps.toList=c::ρ)(M:c∉ρ)(hk:Builtin.Str.strKind y=1)(h0:I≠[])(h:∀w∈I,c∉w):Txt.split (mk<|sj (c::ρ) I) y=I.map mk:=by
 rw[L7 hy M hk];show(parts (c::ρ)<|sj (c::ρ) I).map mk=_;rw[Gw M h0 h]
end Txs
namespace Txs
open PySem.NumText PySem.W PyProof.Rows
def dg(m:Nat):List Nat:=(Nat.toDigits 10 m).map Char.toNat
theorem OE(m:Nat):AllDigits (dg m):=by
 intro c b;obtain⟨d,a,e⟩:=List.mem_map.mp b;have r:=digit_range (Nat.isDigit_of_mem_toDigits (by decide) (by decide) a)
 rw[<-e];exact r
theorem IW(m:Nat):dg m≠[]:=by
 intro e;have h:=toDigits_len_ge 10 m;rw[List.map_eq_nil_iff.mp e]at h;exact absurd h (by decide)
def Dr(m:Nat):(L2.ba (m:Int)).cps.toList=dg m:=KIN.signs_num m
theorem Fl(m:Nat):(L2.ba<|-9103).cps.toList=45::dg (m+1):=by
 unfold L2.ba;rw[signs_ofString];show(toString<|Int.negSucc m).toList.map Char.toNat=_;show(("-"++Nat.repr (m+1)):String).toList.map Char.toNat=_;rw[String.toList_append,ze0,Nat.toList_repr];rfl
theorem Dt(h:m<10^k)(hk : 0<k):(dg m).length<=k:=by
 unfold dg;rw[zej];have:=Nat.length_toDigits_le_iff (b:=10) (n:=m) (k:=k) (by decide) hk
 exact this.mpr h
theorem J0:∀m:Nat,(dg m)[0]?=some 48->m=0:=by
 intro m
 induction m using Nat.strongRecOn with
 |_ m b=>
  intro h
  by_cases hm:m<10
  .unfold dg at h
   rw[Nat.toDigits_of_lt_base hm]at h;have:(Nat.digitChar m).toNat=48:=by simpa using h
   have:=KIN.digit_back m hm
   lia
  .have a:m%10<10:=Nat.mod_lt m (by decide)
   have t:Nat.toDigits 10 (m/10)++Nat.toDigits 10 (m%10)=Nat.toDigits 10 (10*(m/10)+m%10):=Nat.toDigits_append_toDigits (by decide) (by lia) a
   rw[Nat.div_add_mod]at t;have e:dg m=dg (m/10)++dg (m%10):=by unfold dg;rw[<-t,ze0]
   rw[e,zew<|List.length_pos_iff.mpr<|IW _]at h;have:=b (m/10) (by lia) h
   lia
theorem Qf(h:n.natAbs<10^200):PySem.intText? (L2.ba n)=some n:=by
 by_cases h0 : 0<=n
 .obtain⟨m,rfl⟩:=Int.eq_ofNat_of_zero_le h0
  have e:=Dr m;have a:(L2.ba (m:Int)).length<=200:=by
   show(L2.ba (m:Int)).cps.size<=_;rw[<-Array.length_toList,e];exact Dt (by simpa using h) (by decide)
  have:=intText_digits (x:=L2.ba (m:Int)) (by rw[e];exact OE m) (by rw[e];exact IW m) (by omega)
  rw[this,e];unfold dg;rw[KIN.val_back]
 .obtain⟨m,rfl⟩:∃m:Nat,n= -9103:=⟨n.natAbs-1,by omega⟩
  have e:=Fl m;have a:(L2.ba<|-9103).length<=201:=by
   show(L2.ba<|-9103).cps.size<=_;rw[<-Array.length_toList,e,zeu];have:=Dt (m:=m+1) (k:=200) (by omega) (by decide)
   omega
  have:=intText_neg (x:=L2.ba<|-9103) e (OE _) (IW _) (by omega)
  rw[this];unfold dg;rw[KIN.val_back]
def Bl(h:c∈dg m) : 48<=c/\c<=57:=OE m c h
theorem Fn(h:c∈(L2.ba n).cps.toList):c=45\/48<=c/\c<=57:=by
 by_cases h0 : 0<=n
 .obtain⟨m,rfl⟩:=Int.eq_ofNat_of_zero_le h0
  rw[Dr]at h;exact .inr (Bl h)
 .obtain⟨m,rfl⟩:∃m:Nat,n= -9103:=⟨n.natAbs-1,by omega⟩
  rw[Fl]at h;rcases zed h with h|h
  .exact .inl h
  .exact .inr (Bl h)
theorem Hz:∀c:Nat,48<=c->c<=57->Unicode.isDigit c=true:=by
 intro c h1 h2;have:c=48\/c=49\/c=50\/c=51\/c=52\/c=53\/c=54\/c=55\/c=56\/c=57:=by lia
 rcases this with rfl|rfl|rfl|rfl|rfl|rfl|rfl|rfl|rfl|rfl<;>kernel_rfl
theorem L8(m:Nat):Txt.isdigit (L2.ba (m:Int))=true:=by
 unfold Txt.isdigit;have e:=Dr m;have hn:(L2.ba (m:Int)).length>0:=by
  show 0<(L2.ba (m:Int)).cps.size;rw[<-Array.length_toList,e];exact List.length_pos_iff.mpr (IW m)
 rw[Bool.and_eq_true];refine⟨zeG hn,?_⟩;rw[Array.all_eq_true_iff_forall_mem];intro c a;rw[<-Array.mem_toList_iff,e]at a;have:=Bl a;exact Hz c this.1 this.2
end Txs
namespace Ctr
def up:List Int->List Int
 | []=>[1]
 |x::r=>if x=1 then 0::up r else 1::r
def lead:List Int->Nat
 | []=>0
 |x::r=>if x=1 then lead r+1 else 0
def worth:List Int->Int
 | []=>0
 |x::r=>2*worth r+x
def ones:List Int->Nat
 | []=>0
 |x::r=>(if x=1 then 1 else 0)+ones r
def iZ(ns:List Int):Prop:=∀x∈ns,x=0\/x=1
def iZ.tail(h:iZ (x::r)):iZ r:=λy hy=>h y (zei _ hy)
def iZ.head(h:iZ (x::r)):x=0\/x=1:=h x zeq
theorem pY:∀ns:List Int,lead ns<=ns.length
 | []=>zen _
 |x::r=>by
  unfold lead;have:=pY r;split
  .simp;lia
  .lia
theorem L9:∀(ns:List Int) (i:Nat),i<lead ns->ns[i]?=some 1
 | [],i,h=>by simp[lead]at h
 |x::r,i,h=>by
  unfold lead at h;split at h
  .rename_i hx
   cases i with
   |zero=>simp[hx]
   |succ i=>simpa using L9 r i (by lia)
  .lia
theorem yZ:∀(ns:List Int),ns[lead ns]?≠some 1
 | []=>by simp
 |x::r=>by
  unfold lead;split
  .simpa using yZ r
  .rename_i hx
   simpa using hx
theorem up_eq:∀ns:List Int,up ns=List.replicate (lead ns) 0++(1::ns.drop (lead ns+1))
 | []=>by simp[up,lead]
 |x::r=>by
  unfold up lead;split
  .rw[up_eq r];simp[List.replicate_succ]
  .simp
theorem zb2(ns:List Int):(up ns).length=if lead ns=ns.length then ns.length+1 else ns.length:=by
 rw[up_eq];have:=pY ns;simp;split<;>lia
theorem Mb:∀ns:List Int,iZ ns->worth (up ns)=worth ns+1
 | [],_=>by simp[up,worth]
 |x::r,h=>by
  unfold up;split
  .rename_i hx
   simp only[worth,Mb r h.tail];lia
  .rename_i hx
   have:=h.head;simp only[worth];lia
theorem Qg:∀ns:List Int,iZ ns->lead ns+1+ones (up ns)=ones ns+2
 | [],_=>by simp[up,ones,lead]
 |x::r,h=>by
  unfold up lead;split
  .rename_i hx
   have:=Qg r h.tail;simp only[ones,hx,if_true];simp
   lia
  .rename_i hx
   have:=h.head;simp only[ones,hx,if_false];simp
   lia
theorem Qh:∀ns:List Int,iZ ns->iZ (up ns)
 | [],_=>by intro x hx;simp[up]at hx;exact .inr hx
 |y::r,h=>by
  unfold up;split
  .intro x hx
   rcases zed hx with rfl|hx
   .exact .inl rfl
   .exact Qh r h.tail x hx
  .intro x hx
   rcases zed hx with rfl|hx
   .exact .inr rfl
   .exact h.tail x hx
theorem Mc(ns:List Int):ns.reverse.foldl (λa x=>2*a+x) 0=worth ns:=by
 rw[List.foldl_reverse]
 induction ns with
 |nil=>rfl
 |cons x r b=>simp only[List.foldr_cons,worth,b]
theorem OF(ns:List Int):ns.countP (λz=>z==1)=ones ns:=by
 induction ns with
 |nil=>rfl
 |cons x r a=>
  rw[List.countP_cons,a,ones]
  by_cases h:x=1<;>simp[h]<;>lia
end Ctr
namespace Fig
open Ctr
def mvr(b:Int):List Int->List Int
 | []=>[b]
 |x::r=>if x=b then 0::mvr b r else(x+b)::r
def lead(b:Int):List Int->Nat
 | []=>0
 |x::r=>if x=b then lead b r+1 else 0
theorem pY(b:Int):∀r:List Int,lead b r<=r.length
 | []=>zen _
 |x::r=>by
  unfold lead;have:=pY b r;split
  .simp;lia
  .lia
theorem Qi(b:Int):∀(r:List Int) (i:Nat),i<lead b r->r[i]?=some b
 | [],i,h=>by simp[lead]at h
 |x::r,i,h=>by
  unfold lead at h;split at h
  .rename_i hx
   cases i with
   |zero=>simp[hx]
   |succ i=>simpa using Qi b r i (by lia)
  .lia
theorem yZ(b:Int):∀(r:List Int),r[lead b r]?≠some b
 | []=>by simp
 |x::r=>by
  unfold lead;split
  .simpa using yZ b r
  .rename_i hx
   simpa using hx
theorem OG(b:Int):∀r:List Int,mvr b r=List.replicate (lead b r) 0++((r[lead b r]?.getD 0+b)::r.drop (lead b r+1))
 | []=>by simp[mvr,lead]
 |x::r=>by
  unfold mvr lead;split
  .rw[OG b r];simp[List.replicate_succ]
  .simp
theorem Yw(b:Int)(r:List Int):(mvr b r).length<=r.length+1:=by
 rw[OG];have:=pY b r;simp
 lia
theorem Du(b:Int):∀r:List Int,worth (mvr b r)=worth r+b
 | []=>by simp[mvr,worth]
 |x::r=>by
  unfold mvr;split
  .rename_i hx
   simp only[worth,Du b r];lia
  .simp only[worth];lia
def rX(r:List Int):Int:=(r.length:Int)-((r.countP (λz=>z==0):Nat):Int)
theorem Qj(r:List Int) : 0<=rX r:=by
 unfold rX;have:=List.countP_le_length (p:=λz:Int=>z==0) (l:=r)
 lia
theorem m7(x:Int)(r:List Int):rX (x::r)=rX r+(if x=0 then 0 else 1):=by
 unfold rX;rw[List.countP_cons]
 by_cases h:x=0<;>simp[h]<;>lia
theorem IX:∀r:List Int,rX r=0->worth r=0/\∀x∈r,x=0
 | [],_=>⟨rfl,λx h=>by cases h⟩
 |x::r,h=>by
  rw[m7]at h;have:=Qj r;split at h
  .rename_i hx
   obtain⟨h1,h2⟩:=IX r (by lia)
   refine⟨by simp only[worth,h1,hx];decide,λy hy=>?_⟩
   rcases zed hy with rfl|hy
   .exact hx
   .exact h2 y hy
  .lia
def moved(b:Int)(r:List Int):List Int:=if rX (mvr b r)=0 then []else mvr b r
theorem Md(b:Int)(r:List Int):worth (moved b r)=worth r+b:=by
 unfold moved;split
 .rename_i h
  have:=(IX _ h).1;rw[Du]at this;show(0:Int)=_
  lia
 .exact Du b r
theorem RW(b:Int)(r:List Int):(moved b r).length<=r.length+1:=by
 unfold moved;split
 .simp
 .exact Yw b r
def neg(r:List Int):List Int:=r.map λx=>0-x
def HA(r:List Int):Prop:=∀x∈r,x=0-1\/x=0\/x=1
def Bm(r:List Int):Prop:=r=[]\/∃x,r.getLast?=some x/\x≠0
def HA.tail(h:HA (x::r)):HA r:=λy hy=>h y (zei _ hy)
theorem Bm.tail(h:Bm (x::r)):Bm r:=by
 cases r with
 |nil=>exact .inl rfl
 |cons y r=>
  rcases h with h|⟨z,h,n⟩
  .cases h
  .exact .inr ⟨z,by simpa using h,n⟩
theorem Me(b:Int)(I:b=1\/b=0-1):∀r:List Int,HA r->HA (mvr b r)
 | [],_=>by
  intro x hx;have:x=b:=by simpa[mvr]using hx
  lia
 |y::r,h=>by
  have hy:=h y zeq;unfold mvr;split
  .intro x hx
   rcases zed hx with rfl|hx
   .exact .inr (.inl rfl)
   .exact Me b I r h.tail x hx
  .intro x hx
   rcases zed hx with rfl|hx
   .lia
   .exact h.tail x hx
theorem zb3(b:Int)(r:List Int):mvr b r≠[]:=by
 cases r with
 |nil=>simp[mvr]
 |cons x r=>unfold mvr;split<;>simp
theorem Mf(b:Int)(I:b=1\/b=0-1):∀r:List Int,HA r->Bm r->rX (mvr b r)=0\/∃x,(mvr b r).getLast?=some x/\x≠0
 | [],_,_=>.inr ⟨b,by simp[mvr],by lia⟩
 |y::r,h,l=>by
  have hy:=h y zeq;unfold mvr;split
  .rcases Mf b I r h.tail l.tail with e|⟨x,e,n⟩
   .exact .inl (by rw[m7,e];rfl)
   .refine .inr ⟨x,?_,n⟩
    cases a:mvr b r with
    |nil=>exact absurd a (zb3 b r)
    |cons z t=>rw[a]at e;simpa using e
  .rename_i hx
   cases r with
   |nil=>
    rcases l with l|⟨x,l,n⟩
    .cases l
    .have:y=x:=by simpa using l
     subst this;have:y+b=0:=by lia
     rw[this];exact .inl rfl
   |cons z t=>
    rcases l with l|⟨x,l,n⟩
    .cases l
    .exact .inr ⟨x,by simpa using l,n⟩
theorem OH(b:Int)(I:b=1\/b=0-1)(r:List Int)(h:HA r)(l:Bm r):HA (moved b r)/\Bm (moved b r):=by
 unfold moved;split
 .exact⟨λx hx=>(by cases hx),.inl rfl⟩
 .rename_i a
  refine⟨Me b I r h,?_⟩;rcases Mf b I r h l with e|e
  .exact absurd e a
  .exact .inr e
theorem OI(b:Int)(r:List Int):rX (moved b r)=rX (mvr b r):=by
 unfold moved;split
 .rename_i h;rw[h];rfl
 .rfl
theorem Mg(b:Int)(I:b=1\/b=0-1):∀r:List Int,HA r->rX (mvr b r)+lead b r<=rX r+1
 | [],_=>by
  show rX [b]+0<=rX []+1;rw[m7];have:rX []=0:=rfl;split<;>lia
 |y::r,h=>by
  have hy:=h y zeq;have a:=Mg b I r h.tail;unfold mvr lead
  by_cases hx:y=b
  .rw[if_pos hx,if_pos hx,m7,m7,if_pos rfl,if_neg (by lia)]
   lia
  .rw[if_neg hx,if_neg hx,m7,m7]
   split<;>split<;>lia
end Fig
namespace Mir
open L2
theorem pix(K:zee)(ha:PE X a I)(h:X.K=K:=by rfl):PE X (.Subscript a (.Constant (.int i) j p) pos) (tOp (rIx K) I<|tC<|.int i):=Po (Fb h) ha j0 λ_ _=>rfl
theorem pd{x:Str}{ps:List Str}{sp:Sp}{p pos:Pos}{e:Expr}{es:List Expr}{t:TA}(D:Def X.prog X.w X.K X.mg X.base CX0 k x ps sp)(U:cn n X.A)(ha:PA X (e::es) t)(hk:k<=n:=by lia)(O:Gl X x:=by rfl)
  (I:(x==("__debug__":Str))=false:=by decide) (M:starEach (e::es) X.env=9013::starEach es X.env:=by rfl) (ρ:(backTo pos<|starEach es X.env).any (·.1)=false:=by rfl) :
  PE X 9032 (qp sp [] E0 t):=zaS D (U.mono hk) ha O I M ρ
theorem pne(K:zee)(hu:X.A.units+64<cLine)(ha:PE X a ρ)(I:PE X b M)(h:X.K=K:=by rfl):PT X (.Compare a [.NotEq] [b] pos) (Ie<|tOp (W5 K) ρ M):=lX (Uc h hu) ha I (lW _)
theorem peq(K:zee)(hu:X.A.units+64<cLine)(ha:PE X a ρ)(I:PE X b M)(h:X.K=K:=by rfl):PT X (.Compare a [.Eq] [b] pos) (Ie<|tOp (W4 K) ρ M):=lX (N8 h hu) ha I (lW _)
theorem pa1(ha:PE X e ρ)(I:starEach [e] X.env=9013::starEach [] X.env:=by rfl):PA X [e] (BJ ρ Bc):=fv ha NH I
theorem Yx(K:zee)(ha:PE X a ρ)(I:PE X b M)(h:X.K=K:=by rfl):PE X (.BinOp a .Add b pos) (tOp (JA K) ρ M):=AD (Xw h) ha I
variable [Zc] [Zl]{W:WX}
def nli:NE W (tC<|.int i) (nLit<|.int i):=Dm λ_=>.int i
def nix(h:NE W I a):NE W (tOp (rIx K) I<|tC<|.int i) (nIx a<|nLit<|.int i):=Zx h nli
def mix(h:ME I a):ME (tOp (rIx K) I<|tC<|.int i) (mOp gIx a<|mC<|.int i):=ib T9 h jj
def ma1(ha:ME I a):MA (BJ I Bc) (ae a ao):=je ha NU
end Mir
set_option maxHeartbeats 4000000
namespace K81
open L2 Mir
structure CA where
 bo:Addr
 Thing:Addr
 iZ:Addr
 cu:Addr
 Queue:Addr
 bW:Addr
 cn:Addr
 cq:Addr
 nd : [iZ,cu,Queue,bW,cn].Nodup
def bX:List Str:=["bits 2","figures 2","queue 2","double 2","room 2","groups 3","tree 2","pile 2"]
def ia:List (Str×List Str):=[("up 2",["bits","figures"]),("down 2",["figures"]),("put 3",["queue","room","tree"]),("take 2",["queue","room"]),("first 3",["double"]),("last 3",["double"]),("shift 2",["double"]),("pop 2",["double"]),("join 4",["groups"]),("same 4",["groups"]),("take 3",["tree"]),("ask 3",["tree"]),("at 3",["tree"]),("below 3",["tree"]),("cut 4",["tree"]),("tie 3",["tree"]),("lay 4",["pile"]),("least 2",["pile"]),("draw 2",["pile"]),("less 4",["pile"]),("out 3",["pile"]),("pour 3",["pile"])]
def ck:List (Str×List Int):=[("groups 3",[2]),("put 3",[2]),("first 3",[2]),("last 3",[2]),("join 4",[2,3]),("same 4",[2,3]),("take 3",[2]),("ask 3",[2]),("at 3",[2]),("below 3",[2]),("cut 4",[2]),("lay 4",[3]),("less 4",[3])]
def UC(ca:CA):List Addr:=[ca.iZ,ca.cu,ca.Queue,ca.bW,ca.cn]
def HB(ca:CA):SN :=
  (jZ ca.bo (aq 0) (m5 aj) "rows")
def j9(ca:CA):FN:=fnS 1 0 (HB ca)
def Mh(ca:CA):SN :=
  (a6 (jZ ca.cq (aq 0) (nO Va) "things")
  (jZ ca.cq (aq 0) (vc ca.bo (fq<|j9 ca) aj) "accounts"))
def sk(ca:CA):FN:=fnS 1 0 (Mh ca)
def AM:SM :=
  (du (d6 4<|mOp fe (af 4)<|mOp IL (af 1)<|mOp vY (af 5)<|mC<|.int 26)
  (d6 5<|mOp pz (af 5)<|mC<|.int 26))
def AN:SM :=
  (du (d6 4<|mOp IL (af 1)<|af 3)
  (du (d6 5<|mOp vY (mOp pz (af 0)<|mOp fe (af 3)<|mC<|.int 2)<|mOp Rn (mC<|.int 10)<|mC<|.int 12)
  (du (Jz (Lq<|ae (mOp vY (mOp pz (af 0)<|mC<|.int 7)<|mOp ql (mC<|.int 8)<|af 3) ao) (mgN 6)
  AM)
  (jY<|rz 2 d7<|ae (af 4) ao))))
def Mi:SM :=
  (du (d6 1<|mC<|.str "abcdefghijklmnopqrstuvwxyz")
  (du (d6 2<|dY ao)
  (du (Jz (Lq<|ae (mC<|.int 5) ao) (mgN 3)
  AN)
  (ez<|af 2))))
def sr:List D->Option (D×Bool):=fnM 1 6 Mi
def Dv(ca:CA):SN :=
  (df<|nCB mY<|aa (cg ca.bo (aq 0) "rows") aj)
def jw(ca:CA):FN:=fnS 1 0 (Dv ca)
def HC(ca:CA):SN :=
  (df<|cz ca.bo "entries" (fq<|jw ca) [] (cg ca.cq (aq 0) "accounts") aj)
def dq(ca:CA):FN:=fnS 1 0 (HC ca)
def HD:SM :=
  (du (j6 (az<|mOp gLt (af 1)<|mCB dj<|ae (af 0) ao)
  (ez<|mOp gIx (af 0)<|af 1)
  gp)
  (ez<|mC<|.int 0))
def n8:List D->Option (D×Bool):=fnM 2 0 HD
def RX:SM :=
  (du (d6 1<|mOp gIx (af 0)<|mC<|.int 0)
  (du (d6 2<|mCB dj<|ae (af 0) ao)
  (ez<|mJs<|mFV (af 1)<|mFC " "<|mFV (af 2) IP)))
def jx:List D->Option (D×Bool):=fnM 1 2 RX
def EC:PM :=
  (FL Hy Hy (mC<|.str "0") (af 0)<|mC<|.str "9")
def HE:SM :=
  (du (j6 (mOr (az<|mOp gLt 9024<|mC<|.int 1)<|az<|mOp gGt 9024<|mC<|.int 60)
  (ez<|mC<|.bool false)
  gp)
  (du (j6 (BQ (az<|mBM pX (af 0)<|ae (mC<|.str "0") ao)<|az<|mOp gNe (af 0)<|mC<|.str "0")
  (ez<|mC<|.bool false)
  gp)
  (ez<|mCB Xt<|ae (mLC [] (zbZ<|af 0) Hs EC) ao)))
def g8:List D->Option (D×Bool):=fnM 1 0 HE
def Mj:SM :=
  (du (j6 (az<|mBM pX (af 0)<|ae (mC<|.str "-") ao)
  (ez<|FK (dz g8<|ae (mSl RJ (af 0) (iy<|mC<|.int 1) ei) ao)<|mOp gNe (af 0)<|mC<|.str "-0")
  gp)
  (ez<|dz g8<|ae (af 0) ao))
def k6:List D->Option (D×Bool):=fnM 1 0 Mj
def Cc:SM :=
  (j6 (BR<|az<|dz k6<|ae (mOp gIx (af 1)<|af 3) ao)
  C9
  gp)
def OJ:SM :=
  (du (j6 (BR<|az<|Ey "str"<|af 0)
  C9
  gp)
  (du (d6 1<|mBM kW (af 0)<|ae (mC<|.str " ") ao)
  (du (d6 2<|dz jx<|ae (af 1) ao)
  (du (j6 (BQ (az<|mOp gNe (af 2)<|mC<|.str "account 1")<|BQ (az<|mUn (Ow true bX)<|af 2)<|az<|mUn (Qb not ia)<|af 2)
  C9
  gp)
  (du (Jz (JV ck<|ae (af 2)<|ae (gy ao) ao) (mgN 3)
  Cc)
  (ez<|af 1))))))
def g9:List D->Option (D×Bool):=fnM 1 3 OJ
def Ml:PM :=
  (FL Hy Hy (mC<|.str "a") (af 0)<|mC<|.str "z")
def RY:SM :=
  (du (j6 (mOr (BR<|az<|ZN "str"<|af 0)<|mOr (az<|mOp gLt 9024<|mC<|.int 1)<|az<|mOp gGt 9024<|mC<|.int 8)
  (ez<|mC<|.bool false)
  gp)
  (ez<|mCB Xt<|ae (mLC [] (zbZ<|af 0) Hs Ml) ao))
def Ao:List D->Option (D×Bool):=fnM 1 0 RY
def Mm:SM :=
  (j6 (BR<|az<|dz Ao<|ae (af 0) ao)
  C9
  gp)
def jo:List D->Option (D×Bool):=fnM 1 0 Mm
def n9:Rho->Option (Bool×Rho) :=
  (BQ (az<|mOp gLt (af 3)<|mCB dj<|ae (af 1) ao)<|az<|mOp gEq (mOp gIx (af 1)<|af 3)<|mC<|.int 1)
def ua:SM :=
  (du (D0 9074<|D2 1<|af 3)
  (du (jY<|rz 2 d7<|ae (af 3) ao)
  (NY 3 (λi j=>i+j)<|mC<|.int 1)))
def Mn:SM :=
  (du (d6 1<|mCB mY<|ae (af 0) ao)
  (du (d6 2<|dY ao)
  (du (d6 3<|mC<|.int 0)
  (du (j2 n9
  ua 1000000)
  (du (j6 (az<|mOp gEq (af 3)<|mCB dj<|ae (af 1) ao)
  (jY<|rz 1 d7<|ae 9074 ao)
  gp)
  (du (D0 (mC<|.int 1)<|D2 1<|af 3)
  (du (jY<|rz 2 d7<|ae (af 3) ao)
  (ez<|gy<|ae (af 1)<|ae (af 2) ao))))))))
def sx:List D->Option (D×Bool):=fnM 1 3 Mn
def AO:SM :=
  (d6 1<|mOp fe (mOp BW 9123<|af 1)<|af 2)
def Mo:SM :=
  (du (d6 1<|mC<|.int 0)
  (du (Jz (za5<|ae (af 0) ao) (mgN 2)
  AO)
  (ez<|af 1)))
def k9:List D->Option (D×Bool):=fnM 1 2 Mo
def RZ(ca:CA):SN :=
  (a6 (dW (eY sx<|aa (cg ca.iZ (aq 0) "row") aj)<|ngN 2)
  (a6 (jZ ca.iZ (aq 0) 9095 "row")
  (df<|lZ<|aa (nCB kZ<|aa (eY k9<|aa (cg ca.iZ (aq 0) "row") aj) aj)<|aa 9044<|aa 9086 aj)))
def Dw(ca:CA):FN:=fnS 2 1 (RZ ca)
def Dx:SM :=
  (ez<|mOp ql 9024<|mBM Bf (af 0)<|ae 9074 ao)
def fZ:List D->Option (D×Bool):=fnM 1 0 Dx
def pZ:Rho->Option (Bool×Rho) :=
  (BQ (az<|mOp gLt (af 4)<|mCB dj<|ae (af 2) ao)<|az<|mOp gEq (mOp gIx (af 2)<|af 4)<|af 1)
def wo:SM :=
  (du (D0 9074<|D2 2<|af 4)
  (du (jY<|rz 3 d7<|ae (af 4) ao)
  (NY 4 (λi j=>i+j)<|mC<|.int 1)))
def OK:SM :=
  (du (d6 2<|mCB mY<|ae (af 0) ao)
  (du (d6 3<|dY ao)
  (du (d6 4<|mC<|.int 0)
  (du (j2 pZ
  wo 1000000)
  (du (j6 (az<|mOp gEq (af 4)<|mCB dj<|ae (af 2) ao)
  (jY<|rz 2 d7<|ae 9074 ao)
  gp)
  (du (Oe 2 (af 4) (af 1) λi j=>i+j)
  (du (jY<|rz 3 d7<|ae (af 4) ao)
  (du (j6 (az<|mOp gEq (dz fZ<|ae (af 2) ao)<|mC<|.int 0)
  (d6 2<|dY ao)
  gp)
  (ez<|gy<|ae (af 2)<|ae (af 3) ao)))))))))
def m8:List D->Option (D×Bool):=fnM 2 3 OK
def J2:SM :=
  (ez<|dz m8<|ae (af 0)<|ae (mC<|.int 1) ao)
def p8:List D->Option (D×Bool):=fnM 1 0 J2
def Gy:SM :=
  (ez<|dz m8<|ae (af 0)<|ae (mUn rW<|mC<|.int 1) ao)
def l6:List D->Option (D×Bool):=fnM 1 0 Gy
def xq:SM :=
  (ez<|dz k9<|ae (af 0) ao)
def i7:List D->Option (D×Bool):=fnM 1 0 xq
def J3(ca:CA):SN :=
  (a6 (dW (LK (nTo<|az<|mOp gEq 9008<|mC<|.str "up") (eY p8<|aa (cg ca.cu (aq 0) "row") aj)<|eY l6<|aa (cg ca.cu (aq 0) "row") aj)<|ngN 2)
  (a6 (jZ ca.cu (aq 0) 9095 "row")
  (df<|lZ<|aa (nCB kZ<|aa (eY i7<|aa (cg ca.cu (aq 0) "row") aj) aj)<|aa 9044<|aa 9086 aj)))
def wq(ca:CA):FN:=fnS 2 1 (J3 ca)
def y3:Rho->Option (Bool×Rho) :=
  (az<|mOp gGt (mCB dj<|ae (af 2) ao)<|mC<|.int 0)
def y4:SM :=
  (du (jY<|rz 1 d7<|ae (DZ 2 JD) ao)
  (jY<|rz 3 d7<|ae (mC<|.str "turned") ao))
def HF:EM :=
  (jm (eW<|d6 1<|mCB mY<|ae 9002 ao)
  (jm (eW<|d6 2<|mCB mY<|ae 9010 ao)
  (jm (eW<|d6 3<|dY ao)
  (jm (eW (j6 9045
  (j2 y3
  y4 1000000)
  gp))
  (jm (eIf 9045
  (Di "Empty"<|ae (mC<|.str "the queue has no things") ao)
  (eW gp))
  (jm (eW<|d6 4<|DZ 1 JD)
  (jm (eW<|jY<|rz 3 d7<|ae (mC<|.str "taken") ao)
  (eW<|ez<|gy<|ae (af 4)<|ae 9116<|ae (af 3) ao))))))))
def l8:List D->Option 9047:=fnX 1 4 HF
def Mp:SM :=
  (ez<|gy<|ae (gy<|ae (mCB mY<|ae 9002 ao)<|ae (mOp fe 9010<|dY<|ae (af 1) ao) ao)<|ae (dY<|ae (mC<|.str "laid") ao) ao)
def sy:List D->Option (D×Bool):=fnM 2 0 Mp
def Mq:SM :=
  (du (j6 (BR<|az<|dz k6<|ae (af 0) ao)
  C9
  gp)
  (ez<|mCB P8<|ae (af 0) ao))
def gY:List D->Option (D×Bool):=fnM 1 0 Mq
def Mr:SM :=
  (ez<|mOp fe (mCB yp<|ae 9002 ao)<|mOp gIx (af 0)<|mC<|.int 1)
def sW:List D->Option (D×Bool):=fnM 1 0 Mr
def OL(ca:CA):SN :=
  (a6 (gX (nTo<|az<|mOp gEq 9008<|mC<|.str "put")
  (a6 (dW (eY sy<|aa (cg ca.Queue (aq 0) "queue")<|aa (nO<|dz gY<|ae 9019 ao) aj)<|ngN 2)
  (a6 (jZ ca.Queue (aq 0) 9095 "queue")
  (df<|lZ<|aa (nCB kZ<|aa (nCB dj<|aa (eY sW<|aa (cg ca.Queue (aq 0) "queue") aj) aj) aj)<|aa 9044<|aa 9086 aj)))
  d9)
  (a6 (dW (wm l8<|aa (cg ca.Queue (aq 0) "queue") aj)<|ngN 3)
  (a6 (jZ ca.Queue (aq 0) (nIx (aq 3)<|nLit<|.int 1) "queue")
  (df<|lZ<|aa (nO<|mCB kZ<|ae 9125 ao)<|aa (nO<|mCB dj<|ae (mOp gIx (af 3)<|mC<|.int 2) ao)<|aa (nLit<|.int 1) aj))))
def q0(ca:CA):FN:=fnS 2 2 (OL ca)
def y6(ca:CA):SN :=
  (a6 (jZ ca.bW (aq 0) 9031 "double")
  (df<|lZ<|aa (nO<|mCB kZ<|ae 9008 ao)<|aa (nO<|mCB dj<|ae (mOp gIx (af 1)<|mC<|.int 2) ao)<|aa 9086 aj))
def eZ(ca:CA):FN:=fnS 2 0 (y6 ca)
def Ms:SM :=
  (ez<|gy<|ae (gy<|ae (mOp fe 9002<|dY<|ae (af 1) ao)<|ae (mCB mY<|ae 9010 ao) ao)<|ae (dY<|ae (mC<|.str "laid") ao) ao)
def ot:List D->Option (D×Bool):=fnM 2 0 Ms
def OM:SM :=
  (ez<|gy<|ae (gy<|ae (mCB mY<|ae 9002 ao)<|ae (mOp fe 9010<|dY<|ae (af 1) ao) ao)<|ae (dY<|ae (mC<|.str "laid") ao) ao)
def q9:List D->Option (D×Bool):=fnM 2 0 OM
def J4:EM :=
  (jm (eW (j6 (az<|mOp gGt 9024<|mC<|.int 0)
  (ez<|gy<|ae (mOp gIx (af 0)<|mUn rW<|mC<|.int 1)<|ae 9107<|ae (dY<|ae (mC<|.str "taken") ao) ao)
  gp))
  (jm (eIf 9045
  (Di "Empty"<|ae (mC<|.str "the double has no things") ao)
  (eW gp))
  (jm (eW<|d6 2<|mOp pz (mOp fe (mCB dj<|ae (af 1) ao)<|mC<|.int 1)<|mC<|.int 2)
  (jm (eW<|d6 3<|mCB yp<|ae (mSl gSl (af 1) ei<|iy<|af 2) ao)
  (jm (eW<|d6 4<|DZ 3 JD)
  (eW<|ez<|gy<|ae (af 4)<|ae (gy<|ae (af 3)<|ae (mSl gSl (af 1) (iy<|af 2) ei) ao)<|ae (mOp fe (Rq (ae (mC<|.str "moved") ao)<|mCB dj<|ae (af 1) ao)<|dY<|ae (mC<|.str "taken") ao) ao))))))
def jq:List D->Option 9047:=fnX 2 3 J4
def HG:EM :=
  (eX ez<|qW jq<|ae 9002<|ae 9010 ao)
def l9:List D->Option 9047:=fnX 1 0 HG
def J5:EM :=
  (jm (eX (d6 1)<|qW jq<|ae 9010<|ae 9002 ao)
  (eW<|ez<|gy<|ae 9008<|ae (gy<|ae (mOp gIx 9019<|mC<|.int 1)<|ae (mOp gIx 9019<|mC<|.int 0) ao)<|ae (mOp gIx (af 1)<|mC<|.int 2) ao))
def ou:List D->Option 9047:=fnX 1 1 J5
def J6:SM :=
  (ez<|mOp fe (mCB yp<|ae 9002 ao)<|mOp gIx (af 0)<|mC<|.int 1)
def qa:List D->Option (D×Bool):=fnM 1 0 J6
def Mt(ca:CA):SN :=
  (a6 (gX (nTo<|az<|mOp gEq 9008<|mC<|.str "shift")
  (df<|cz ca.bW "without_one" (fq<|eZ ca) [] (aq 0)<|aa (wm l9<|aa (cg ca.bW (aq 0) "double") aj) aj)
  d9)
  (a6 (gX (nTo<|az<|mOp gEq 9008<|mC<|.str "pop")
  (df<|cz ca.bW "without_one" (fq<|eZ ca) [] (aq 0)<|aa (wm ou<|aa (cg ca.bW (aq 0) "double") aj) aj)
  d9)
  (a6 (dW (nO<|dz gY<|ae 9019 ao)<|ngN 2)
  (a6 (dW (LK (nTo<|az<|mOp gEq 9008<|mC<|.str "first") (eY ot<|aa (cg ca.bW (aq 0) "double")<|aa (aq 2) aj)<|eY q9<|aa (cg ca.bW (aq 0) "double")<|aa (aq 2) aj)<|ngN 3)
  (a6 (jZ ca.bW (aq 0) (nIx (aq 3)<|nLit<|.int 0) "double")
  (df<|lZ<|aa (nCB kZ<|aa (nCB dj<|aa (eY qa<|aa (cg ca.bW (aq 0) "double") aj) aj) aj)<|aa (nO<|mCB dj<|ae 9124 ao)<|aa 9086 aj))))))
def ox(ca:CA):FN:=fnS 2 2 (Mt ca)
def Yy:SM :=
  (ez<|Rq (ae (mC<|.str "moved") ao)<|mCB dj<|ae (af 0) ao)
def Ap:List D->Option (D×Bool):=fnM 1 0 Yy
def J7:EM :=
  (jm (eIf (az<|mOp gEq (mCB dj<|ae 9002 ao)<|mC<|.int 0)
  (Di "Empty"<|ae (mC<|.str "the room has no things") ao)
  (eW gp))
  (jm (eW<|d6 1<|mSl gSl 9002 ei<|iy<|mUn rW<|mC<|.int 1)
  (jm (eW<|d6 2<|mOp gIx (af 0)<|mC<|.int 1)
  (jm (eW<|d6 3<|dY<|ae (mC<|.str "taken") ao)
  (jm (eW (j6 (BQ (az<|mOp gGt (af 2)<|mC<|.int 4)<|az<|mOp gLe (mOp BW (mC<|.int 4)<|mCB dj<|ae (af 1) ao)<|af 2)
  (du (d6 2<|mOp pz (af 2)<|mC<|.int 2)
  (d6 3<|mOp fe (af 3)<|dz Ap<|ae (af 1) ao))
  gp))
  (eW<|ez<|gy<|ae (mOp gIx 9002<|mUn rW<|mC<|.int 1)<|ae 9116<|ae (af 3) ao))))))
def oz:List D->Option 9047:=fnX 1 3 J7
def ON:SM :=
  (du (d6 2<|mOp gIx (af 0)<|mC<|.int 0)
  (du (d6 3<|mOp gIx (af 0)<|mC<|.int 1)
  (du (d6 4<|dY ao)
  (du (j6 (az<|mOp gEq (mCB dj<|ae (af 2) ao)<|af 3)
  (du (d6 3<|mOp BW 9123<|af 3)
  (d6 4<|dz Ap<|ae (af 2) ao))
  gp)
  (ez<|gy<|ae (gy<|ae (mOp fe (af 2)<|dY<|ae (af 1) ao)<|ae (af 3) ao)<|ae (mOp fe (af 4)<|dY<|ae (mC<|.str "laid") ao) ao)))))
def wt:List D->Option (D×Bool):=fnM 2 3 ON
def R0(ca:CA):SN :=
  (a6 (gX (nTo<|az<|mOp gEq 9008<|mC<|.str "put")
  (a6 (dW (eY wt<|aa (cg ca.cn (aq 0) "room")<|aa (nO<|dz gY<|ae 9019 ao) aj)<|ngN 2)
  (a6 (jZ ca.cn (aq 0) 9095 "room")
  (df<|lZ<|aa (nCB kZ<|aa (nCB dj<|aa (nIx (cg ca.cn (aq 0) "room")<|nLit<|.int 0) aj) aj)<|aa 9044<|aa (nLit<|.int 3) aj)))
  d9)
  (a6 (dW (wm oz<|aa (cg ca.cn (aq 0) "room") aj)<|ngN 3)
  (a6 (jZ ca.cn (aq 0) (nIx (aq 3)<|nLit<|.int 1) "room")
  (df<|lZ<|aa (nO<|mCB kZ<|ae 9125 ao)<|aa (nO<|mCB dj<|ae (mOp gIx (af 3)<|mC<|.int 2) ao)<|aa 9086 aj))))
def ve(ca:CA):FN:=fnS 2 2 (R0 ca)
def Dy(ca:CA):List (Addr×FN):=[(ca.iZ,Dw ca),(ca.cu,wq ca),(ca.Queue,q0 ca),(ca.bW,ox ca),(ca.cn,ve ca)]
def Dz(ca:CA):SN :=
  (gX (ph<|RN id (aq 1)<|cg ca.cq (aq 0) "things")
  qX
  d9)
def jy(ca:CA):FN:=fnS 2 0 (Dz ca)
def J8(ca:CA):SN :=
  (JY (UC ca) (aq 0) (aq 1) "kind")
def dc(ca:CA):FN:=fnS 2 0 (J8 ca)
def Mu(ca:CA):SN :=
  (a6 (jn<|j7 (fq<|dc ca)<|aa (aq 0)<|aa (nLit<|.str "bits") aj)
  (jZ ca.iZ (aq 0) (AL aj) "row"))
def y8(ca:CA):FN:=fnS 1 0 (Mu ca)
def Gz(ca:CA):SN :=
  (a6 (jn<|j7 (fq<|dc ca)<|aa (aq 0)<|aa (nLit<|.str "figures") aj)
  (jZ ca.cu (aq 0) (AL aj) "row"))
def rg(ca:CA):FN:=fnS 1 0 (Gz ca)
def J9(ca:CA):SN :=
  (a6 (jn<|j7 (fq<|dc ca)<|aa (aq 0)<|aa (nLit<|.str "queue") aj)
  (jZ ca.Queue (aq 0) (lZ<|aa (AL aj)<|aa (AL aj) aj) "queue"))
def wx(ca:CA):FN:=fnS 1 0 (J9 ca)
def HH(ca:CA):SN :=
  (a6 (jn<|j7 (fq<|dc ca)<|aa (aq 0)<|aa (nLit<|.str "double") aj)
  (jZ ca.bW (aq 0) (lZ<|aa (AL aj)<|aa (AL aj) aj) "double"))
def ub(ca:CA):FN:=fnS 1 0 (HH ca)
def R6:SM :=
  (ez<|gy<|ae (dY ao)<|ae (mC<|.int 4) ao)
def Aq:List D->Option (D×Bool):=fnM 0 0 R6
def Mv(ca:CA):SN :=
  (a6 (jn<|j7 (fq<|dc ca)<|aa (aq 0)<|aa (nLit<|.str "room") aj)
  (jZ ca.cn (aq 0) (eY Aq aj) "room"))
def y9(ca:CA):FN:=fnS 1 0 (Mv ca)
def Mw(ca:CA):SN :=
  (a6 (gX (nTo<|az<|mOp gEq 9002<|mC<|.str "bits")
  (df<|vc ca.iZ (fq<|y8 ca) aj)
  d9)
  (a6 (gX (nTo<|az<|mOp gEq 9002<|mC<|.str "figures")
  (df<|vc ca.cu (fq<|rg ca) aj)
  d9)
  (a6 (gX (nTo<|az<|mOp gEq 9002<|mC<|.str "queue")
  (df<|vc ca.Queue (fq<|wx ca) aj)
  d9)
  (a6 (gX (nTo<|az<|mOp gEq 9002<|mC<|.str "double")
  (df<|vc ca.bW (fq<|ub ca) aj)
  d9)
  (a6 (gX (nTo<|az<|mOp gEq 9002<|mC<|.str "room")
  (df<|vc ca.cn (fq<|y9 ca) aj)
  d9)
  (a6 (gX (nTo<|az<|mOp gEq 9002<|mC<|.str "groups")
  qX
  d9)
  (a6 (gX (nTo<|az<|mOp gEq 9002<|mC<|.str "tree")
  qX
  d9)
  qX)))))))
def oW(ca:CA):FN:=fnS 1 0 (Mw ca)
def Ka(ca:CA):SN :=
  (a6 (jn<|nO<|dz jo<|ae 9019 ao)
  (a6 (jn<|cz ca.cq "hold_free" (fq<|jy ca) [] (aq 0)<|aa 9031 aj)
  (a6 (Qe (cg ca.cq (aq 0) "things") 9031<|j7 (fq<|oW ca)<|aa (aq 1) aj)
  (df<|lZ<|aa (nLit<|.str "ok")<|aa 9039<|aa 9039 aj))))
def qc(ca:CA):FN:=fnS 2 0 (Ka ca)
def ED:PM :=
  9010
def HI(ca:CA):SN :=
  (df<|nCB N7<|aa (nLC [] (cg ca.bo (aq 0) "rows") Hs ED) aj)
def hX(ca:CA):FN:=fnS 1 0 (HI ca)
def GB:PM :=
  (mOp gIx (af 0)<|mC<|.int 2)
def Kb(ca:CA):SN :=
  (df<|nCB N7<|aa (nLC [] (cg ca.bo (aq 0) "rows") Hs GB) aj)
def i0(ca:CA):FN:=fnS 1 0 (Kb ca)
def EE(ca:CA):SN :=
  (a6 (gX (ph<|nOp gEq (cg ca.bo (aq 0) "rows")<|m5 aj)
  (df<|nLit<|.int 0)
  d9)
  (df<|nIx (nIx (cg ca.bo (aq 0) "rows")<|nO<|mUn rW<|mC<|.int 1)<|nLit<|.int 4))
def c8(ca:CA):FN:=fnS 1 0 (EE ca)
def GC(ca:CA):SN :=
  (df<|nOp ql (nOp ql (cz ca.bo "due" (fq<|i0 ca) [] (aq 0) aj)<|cz ca.bo "paid" (fq<|hX ca) [] (aq 0) aj)<|cz ca.bo "credit" (fq<|c8 ca) [] (aq 0) aj)
def md(ca:CA):FN:=fnS 1 0 (GC ca)
def GD(ca:CA):SN :=
  (a6 (dW (cz ca.bo "paid" (fq<|hX ca) [] (cg ca.cq (aq 0) "accounts") aj)<|ngN 1)
  (a6 (dW (cz ca.bo "due" (fq<|i0 ca) [] (cg ca.cq (aq 0) "accounts") aj)<|ngN 2)
  (a6 (dW (cz ca.bo "credit" (fq<|c8 ca) [] (cg ca.cq (aq 0) "accounts") aj)<|ngN 3)
  (a6 (dW (cz ca.bo "spare" (fq<|md ca) [] (cg ca.cq (aq 0) "accounts") aj)<|ngN 4)
  (df<|nO<|mJs<|mFV (af 1)<|mFC " "<|mFV (af 2)<|mFC " "<|mFV (af 3)<|mFC " "<|mFV (af 4) IP)))))
def me(ca:CA):FN:=fnS 1 4 (GD ca)
def DA(ca:CA):SN :=
  (a6 (dW (nIx (aq 1)<|aq 2)<|ngN 3)
  (a6 (gX (nOr (ph<|RN not (aq 3)<|cg ca.cq (aq 0) "things")<|ph<|nOp (JU true ia) (Qc (UC ca) (Dp (cg ca.cq (aq 0) "things")<|aq 3) "kind")<|nO<|dz jx<|ae (af 1) ao)
  qX
  d9)
  (df<|Dp (cg ca.cq (aq 0) "things")<|aq 3)))
def et(ca:CA):FN:=fnS 3 1 (DA ca)
def GG(ca:CA):SN :=
  (a6 (dW (nO<|dz jx<|ae (af 1) ao)<|ngN 2)
  (a6 (gX (nTo<|az<|mOp gEq (af 2)<|mC<|.str "account 1")
  (df<|lZ<|aa (cz ca.cq "account" (fq<|me ca) [] (aq 0) aj)<|aa 9039<|aa 9039 aj)
  d9)
  (a6 (gX (nTo<|az<|mUn (Ow false bX)<|af 2)
  (df<|cz ca.cq "begin" (fq<|qc ca) [] (aq 0)<|aa (aq 1) aj)
  d9)
  (a6 (gX (nTo<|az<|mOp gEq (af 2)<|mC<|.str "cut 4")
  qX
  d9)
  (a6 (gX (nTo<|az<|mOp gEq (af 2)<|mC<|.str "tie 3")
  qX
  d9)
  (a6 (gX (nTo<|az<|mOp gEq (af 2)<|mC<|.str "pour 3")
  qX
  d9)
  (a6 (jn<|nO<|dz jo<|ae 9019 ao)
  (df<|Dn (Dy ca) "do" (cz ca.cq "thing_for" (fq<|et ca) [] (aq 0)<|aa (aq 1)<|aa (nLit<|.int 1) aj)<|aa (nO<|mOp fe (dY<|ae 9008 ao)<|mSl gSl (af 1) (iy<|mC<|.int 2) ei) aj))))))))
def fk(ca:CA):FN:=fnS 2 1 (GG ca)
def OO:SM :=
  (ez<|mBM Bf (af 0)<|ae (mC<|.int 1) ao)
def wz:List D->Option (D×Bool):=fnM 1 0 OO
def HJ(ca:CA):SN :=
  (df<|eY wz<|aa (cg ca.iZ (aq 0) "row") aj)
def uc(ca:CA):FN:=fnS 1 0 (HJ ca)
def DB(ca:CA):SN :=
  (df<|eY fZ<|aa (cg ca.cu (aq 0) "row") aj)
def m9(ca:CA):FN:=fnS 1 0 (DB ca)
def GH:SM :=
  (ez<|mCB dj<|ae 9010 ao)
def mf:List D->Option (D×Bool):=fnM 1 0 GH
def GI(ca:CA):SN :=
  (df<|eY mf<|aa (cg ca.Queue (aq 0) "queue") aj)
def rh(ca:CA):FN:=fnS 1 0 (GI ca)
def EF:SM :=
  (ez<|mCB Xs<|ae (mOp ql (mCB dj<|ae 9002 ao)<|mCB dj<|ae 9010 ao) ao)
def kq:List D->Option (D×Bool):=fnM 1 0 EF
def EG(ca:CA):SN :=
  (df<|eY kq<|aa (cg ca.bW (aq 0) "double") aj)
def o6(ca:CA):FN:=fnS 1 0 (EG ca)
def HK:SM :=
  (du (d6 1<|mCB dj<|ae 9002 ao)
  (du (d6 2<|mOp gIx (af 0)<|mC<|.int 1)
  (du (j6 (az<|mOp gGt (mOp BW 9123<|af 1)<|af 2)
  (ez<|mOp ql (mOp BW 9123<|af 1)<|af 2)
  gp)
  (du (j6 (az<|mOp gGt (af 2)<|mC<|.int 4)
  (ez<|mOp ql (mOp pz (af 2)<|mC<|.int 2)<|af 1)
  gp)
  (ez<|mC<|.int 0)))))
def oa:List D->Option (D×Bool):=fnM 1 2 HK
def HL(ca:CA):SN :=
  (df<|eY oa<|aa (cg ca.cn (aq 0) "room") aj)
def ue(ca:CA):FN:=fnS 1 0 (HL ca)
def fb(ca:CA):List (Addr×FN):=[(ca.iZ,uc ca),(ca.cu,m9 ca),(ca.Queue,rh ca),(ca.bW,o6 ca),(ca.cn,ue ca)]
def HM(ca:CA):SN :=
  (df<|nCB N7<|aa (Yo 0 ca.cq "things" (fb ca) "credit") aj)
def dZ(ca:CA):FN:=fnS 1 0 (HM ca)
def OP:SM :=
  (ez<|FK (Ey "int"<|af 0)<|FK (Lm<|Ey "bool"<|af 0)<|mOp gGe (af 0)<|mC<|.int 0)
def wV:List D->Option (D×Bool):=fnM 1 0 OP
def nc(ca:CA):SN :=
  (gX (nTo<|BR<|az<|dz wV<|ae (af 7) ao)
  qX
  d9)
def GJ(ca:CA):SN :=
  (a6 (dW (cz ca.bo "credit" (fq<|c8 ca) [] (aq 0) aj)<|ngN 5)
  (a6 (dW (nO<|Ln (az<|mOp gIs (af 4)<|mC .none) (af 5)<|af 4)<|ngN 6)
  (a6 (RB [0,1,2,3,4,5,6,8] (Xj<|gy<|ae (af 2)<|ae (af 3)<|ae (af 6) ao) (ngN 7)
  (nc ca))
  (a6 (dW (nO<|mOp ql (mOp ql (mOp fe (af 2)<|af 6)<|af 5)<|af 3)<|ngN 8)
  (a6 (gX (nTo<|az<|mOp gGt (af 8)<|mC<|.int 0)
  qX
  d9)
  (jn<|Hx (cg ca.bo (aq 0) "rows")<|aa (lZ<|aa (aq 1)<|aa (aq 2)<|aa (aq 3)<|aa (aq 5)<|aa (aq 6) aj) aj))))))
def mh(ca:CA):FN:=fnS 5 4 (GJ ca)
def OQ(ca:CA):SN :=
  (a6 (dW (nO<|dz g9<|ae (af 1) ao)<|ngN 2)
  (a6 (dW (cz ca.cq "run" (fk ca) [] (aq 0)<|aa (aq 2) aj)<|ngN 3)
  (a6 (dW (nIx (aq 3)<|nLit<|.int 0)<|ngN 4)
  (a6 (dW (nIx (aq 3)<|nLit<|.int 1)<|ngN 5)
  (a6 (dW (nIx (aq 3)<|nLit<|.int 2)<|ngN 6)
  (a6 (dW (cz ca.cq "credit" (fq<|dZ ca) [] (aq 0) aj)<|ngN 7)
  (a6 (jn<|cz ca.bo "enter" (fq<|mh ca) [] (cg ca.cq (aq 0) "accounts")<|aa 9095<|aa (aq 5)<|aa (aq 6)<|aa (aq 7) aj)
  (df<|nO<|mJs<|mFV (af 4)<|mFC "; "<|mFV (af 5)<|mFC " "<|mFV (af 6)<|mFC " "<|mFV (af 7) IP))))))))
def i3(ca:CA):FN:=fnS 2 6 (OQ ca)
def wW:PM :=
  (mCB P8<|ae (af 0) ao)
def wX:Rho->Option (Bool×Rho) :=
  (mOr (BR<|az<|za9 Gk<|af 0)<|BQ (az<|mOp gGt 9024<|mC<|.int 1)<|az<|mOp gEq (mOp IL (af 0)<|mC<|.int 0)<|mC<|.str "0")
def Cd:PM :=
  (af 0)
def OR(ca:CA):SN :=
  (a6 (dW (cz ca.cq "say" (fq<|i3 ca) [] (aq 0)<|aa (aq 1) aj)<|ngN 2)
  (a6 (gX (nTo<|BR<|az<|Ey "str"<|af 2)
  (df<|nLit .none)
  d9)
  (a6 (dW (nO<|mBM kW (af 2)<|ae (mC<|.str "; ") ao)<|ngN 3)
  (a6 (gX (nTo<|mOr (az<|mOp gNe (mCB dj<|ae (af 3) ao)<|mC<|.int 2)<|az<|mOp gNe (mCB dj<|ae (mBM kW 9124<|ae (mC<|.str " ") ao) ao)<|mC<|.int 3)
  (df<|nLit .none)
  d9)
  (a6 (dW (nO<|mBM kW 9124<|ae (mC<|.str " ") ao)<|ngN 4)
  (a6 (gX (nTo<|az<|mOp gNe (mLC [] (Rg<|af 4) wX Cd)<|dY ao)
  (df<|nLit .none)
  d9)
  (df<|nO<|mOp fe (dY<|ae 9125 ao)<|mLC [] (Rg<|af 4) Hs wW)))))))
def wY(ca:CA):FN:=fnS 2 3 (OR ca)
def GK(ca:CA):SN :=
  (a6 (dW (j7 (fq<|wY ca)<|aa (aq 0)<|aa (aq 2) aj)<|ngN 5)
  (a6 (gX (nTo<|mOr (az<|mOp gIs (af 5)<|mC .none)<|mOr (az<|mOp gNe (mOp gIx (af 5)<|mC<|.int 0)<|af 3)<|az<|mOp gNe (mOp gIx (af 5)<|mC<|.int 2)<|af 4)
  9065
  d9)
  (a6 (jn<|Hx (nIx (aq 1)<|nLit<|.int 2)<|aa (lZ<|aa (nO<|mOp gIx (mBM kW (af 2)<|ae (mC<|.str " ") ao)<|mC<|.int 0)<|aa (nIx (aq 5)<|nLit<|.int 1)<|aa (nIx (aq 5)<|nLit<|.int 2)<|aa 9021<|aa (nIx (aq 5)<|nLit<|.int 3) aj) aj)
  (a6 (dW (nOp fe (nIx (aq 1)<|nLit<|.int 0)<|nIx (aq 5)<|nLit<|.int 1)<|AK (aq 1)<|nLit<|.int 0)
  (a6 (dW (nOp fe 9031<|nIx (aq 5)<|nLit<|.int 2)<|AK (aq 1)<|nLit<|.int 1)
  (a6 (dW (nIx (aq 5)<|nLit<|.int 3)<|AK (aq 1)<|nLit<|.int 3)
  (df<|LJ (nOp gLe (nOp fe (nIx (aq 1)<|nLit<|.int 0)<|nIx (aq 5)<|nLit<|.int 3)<|nIx (aq 1)<|nLit<|.int 1)<|nOp gEq (cz ca.cq "credit" (fq<|dZ ca) [] (aq 0) aj)<|nIx (aq 5)<|nLit<|.int 3)))))))
def i4(ca:CA):FN:=fnS 5 1 (GK ca)
def Kc:SM :=
  (du (j6 (az<|mOp gEq (mOp vY (af 0)<|mC<|.int 2)<|mC<|.int 0)
  (ez<|mOp ql (mOp vY (mOp pz (af 0)<|mC<|.int 2)<|mC<|.int 19)<|mC<|.int 9)
  gp)
  (ez<|mOp ql (mOp vY (mOp pz (af 0)<|mC<|.int 2)<|mOp ql (mOp BW 9123<|mOp Rn (mC<|.int 10)<|mC<|.int 60)<|mC<|.int 1)<|mOp ql (mOp Rn (mC<|.int 10)<|mC<|.int 60)<|mC<|.int 1))
def mi:List D->Option (D×Bool):=fnM 1 0 Kc
def My(ca:CA):SN :=
  (a6 (gX (nTo<|az<|mOp gEq (af 0)<|dY ao)
  (df<|nLit .none)
  d9)
  (df<|nCB kZ<|aa (nMt JE (aq 0)<|aa (aq 1) aj) aj))
def jr(ca:CA):FN:=fnS 2 0 (My ca)
def OS(ca:CA):SN :=
  (a6 (dW (nO<|mOp vY (af 2)<|mC<|.int 12)<|ngN 3)
  (a6 (dW (nO<|mOp pz (af 2)<|mC<|.int 12)<|ngN 4)
  (a6 (dW (nO<|dz mi<|ae (mOp pz (af 4)<|mC<|.int 2) ao)<|ngN 5)
  (a6 (gX (nTo<|az<|mOp gLt (af 3)<|mC<|.int 2)
  (a6 (dW (nOp fe (nIx (aq 1)<|nLit<|.int 0)<|nLit<|.int 1)<|AK (aq 1)<|nLit<|.int 0)
  (df<|lZ<|aa (nO<|mOp fe (mC<|.str "up ")<|mOp gIx (af 0)<|mC<|.int 0)<|aa (nCB kZ<|aa (nIx (aq 1)<|nLit<|.int 0) aj)<|aa 9086 aj))
  d9)
  (a6 (gX (nTo<|az<|mOp gLt (af 3)<|mC<|.int 6)
  (a6 (dW (nOp ql (nOp fe 9031<|nLit<|.int 1)<|nO<|mOp BW 9123<|mOp pz (af 3)<|mC<|.int 4)<|AK (aq 1)<|nLit<|.int 1)
  (df<|lZ<|aa (nO<|mOp fe (mOp gIx (dY<|ae (mC<|.str "up ")<|ae (mC<|.str "down ") ao)<|mOp pz (af 3)<|mC<|.int 4)<|mOp gIx (af 0)<|mC<|.int 1)<|aa (nCB kZ<|aa 9031 aj)<|aa 9086 aj))
  d9)
  (a6 (gX (nTo<|mOr (az<|mOp gEq (af 3)<|mC<|.int 6)<|az<|mOp gEq (af 3)<|mC<|.int 8)
  (a6 (dW 9068<|ngN 6)
  (a6 (jn<|Hx (aq 6)<|aa (aq 5) aj)
  (df<|lZ<|aa (nO<|mOp fe (mOp fe (mOp fe (mC<|.str "put ")<|mOp gIx (dY<|ae (mOp gIx (af 0)<|mC<|.int 2)<|ae (mOp gIx (af 0)<|mC<|.int 4) ao)<|mOp pz (af 3)<|mC<|.int 8)<|mC<|.str " ")<|mCB kZ<|ae (af 5) ao)<|aa (nO<|mCB kZ<|ae (mCB dj<|ae (af 6) ao) ao)<|aa (nO<|mOp gIx (dY<|ae 9123<|ae (mC<|.int 3) ao)<|mOp pz (af 3)<|mC<|.int 8) aj)))
  d9)
  (a6 (gX (nTo<|az<|mOp gEq (af 3)<|mC<|.int 7)
  (df<|lZ<|aa (nO<|mOp fe (mC<|.str "take ")<|mOp gIx (af 0)<|mC<|.int 2)<|aa (j7 (fq<|jr ca)<|aa (nIx (aq 1)<|nLit<|.int 2)<|aa 9039 aj)<|aa (nLit<|.int 1) aj)
  d9)
  (a6 (gX (nTo<|az<|mOp gEq (af 3)<|mC<|.int 9)
  (df<|lZ<|aa (nO<|mOp fe (mC<|.str "take ")<|mOp gIx (af 0)<|mC<|.int 4)<|aa (j7 (fq<|jr ca)<|aa (nIx (aq 1)<|nLit<|.int 4)<|aa (nO<|mUn rW<|mC<|.int 1) aj)<|aa 9086 aj)
  d9)
  (a6 (gX (nTo<|az<|mOp gEq (af 3)<|mC<|.int 10)
  (a6 (jn<|nMt BZ 9021<|aa (nIx (m5<|aa 9039<|aa (nCB dj<|aa 9021 aj) aj)<|nO<|mOp vY (af 4)<|mC<|.int 2)<|aa (aq 5) aj)
  (df<|lZ<|aa (nO<|mOp fe (mOp fe (mOp fe (mOp gIx (dY<|ae (mC<|.str "first ")<|ae (mC<|.str "last ") ao)<|mOp vY (af 4)<|mC<|.int 2)<|mOp gIx (af 0)<|mC<|.int 3)<|mC<|.str " ")<|mCB kZ<|ae (af 5) ao)<|aa (nCB kZ<|aa (nCB dj<|aa 9021 aj) aj)<|aa 9086 aj))
  d9)
  (df<|lZ<|aa (nO<|mOp fe (mOp gIx (dY<|ae (mC<|.str "shift ")<|ae (mC<|.str "pop ") ao)<|mOp vY (af 4)<|mC<|.int 2)<|mOp gIx (af 0)<|mC<|.int 3)<|aa (j7 (fq<|jr ca)<|aa 9021<|aa (nO<|mUn rW<|mOp vY (af 4)<|mC<|.int 2) aj)<|aa 9086 aj))))))))))
def f7(ca:CA):FN:=fnS 3 4 (OS ca)
def Mz(ca:CA):SN :=
  (a6 (dW (m5<|aa (cz ca.cq "ledger" (fq<|dq ca) [] (aq 0) aj)<|aa (cz ca.cq "credit" (fq<|dZ ca) [] (aq 0) aj) aj)<|ngN 2)
  (a6 (dW (nLit<|.bool false)<|ngN 3)
  (a6 (LO (jn<|cz ca.cq "say" (i3 ca) [] (aq 0)<|aa (aq 1) aj) (λc=>decide<|c="Empty")
  (dW (nLit<|.bool true)<|ngN 3))
  (df<|LJ (aq 3)<|zbW gEq (aq 2)<|m5<|aa (cz ca.cq "ledger" (fq<|dq ca) [] (aq 0) aj)<|aa (cz ca.cq "credit" (fq<|dZ ca) [] (aq 0) aj) aj))))
def oX(ca:CA):FN:=fnS 2 2 (Mz ca)
def wZ(ca:CA):SN :=
  (a6 (dW (j7 (fq<|f7 ca)<|aa (aq 2)<|aa (aq 6)<|aa (aq 7) aj)<|ngT 3<|kn 5<|kn 8<|kn 9 Gf)
  (gX (nTo<|az<|mOp gIs (af 8)<|mC .none)
  (gX (Oo<|ph<|j7 (fq<|oX ca)<|aa (aq 1)<|aa (aq 5) aj)
  9065
  d9)
  (gX (Oo<|ph<|j7 (fq<|i4 ca)<|aa (aq 1)<|aa (aq 3)<|aa (aq 5)<|aa (aq 8)<|aa (aq 9) aj)
  9065
  d9)))
def Ke(ca:CA):SN :=
  (a6 (dW (nO<|mOp fe (mOp gIx (dY<|ae (mC<|.str "bits ")<|ae (mC<|.str "figures ")<|ae (mC<|.str "queue ")<|ae (mC<|.str "double ")<|ae (mC<|.str "room ") ao)<|af 4)<|mOp gIx (af 2)<|af 4)<|ngN 5)
  (gX (Oo<|ph<|j7 (fq<|i4 ca)<|aa (aq 1)<|aa (aq 3)<|aa (aq 5)<|aa (nLit<|.str "ok")<|aa 9039 aj)
  9065
  d9))
def Qk(ca:CA):SN :=
  (a6 (dW (vc ca.cq (fq<|sk ca) aj)<|ngN 1)
  (a6 (dW (nO<|dz sr<|ae (dz n8<|ae (af 0)<|ae 9074 ao) ao)<|ngN 2)
  (a6 (dW (m5<|aa 9039<|aa 9039<|aa (m5 aj)<|aa 9039 aj)<|ngN 3)
  (a6 (gX (Oo<|ph<|j7 (fq<|i4 ca)<|aa (aq 1)<|aa (aq 3)<|aa (nLit<|.str "account")<|aa (nLit<|.str "0 0 0 0")<|aa 9039 aj)
  9065
  d9)
  (a6 (RB [0,1,2,3,5,6,7,8,9,10] (Lq<|ae (mC<|.int 5) ao) (ngN 4)
  (Ke ca))
  (a6 (dW (m5<|aa 9039<|aa 9039<|aa (m5 aj)<|aa (m5 aj)<|aa (m5 aj) aj)<|ngN 6)
  (a6 (PY [0,1,2,3,4,5,6,10] (nO<|mSl gSl (af 0) (iy<|mC<|.int 1)<|iy<|mC<|.int 61) (ngN 7)
  (wZ ca))
  (a6 (dW (cz ca.cq "ledger" (fq<|dq ca) [] (aq 1) aj)<|ngN 10)
  (a6 (gX (nOr (nTo<|BR<|az<|Ey "list"<|af 10)<|ph<|nOp gNe (aq 10)<|nIx (aq 3)<|nLit<|.int 2)
  9065
  d9)
  (a6 (jn<|Hx (aq 10)<|aa (nLit<|.int 5) aj)
  (df<|nOp gEq (cz ca.cq "ledger" (fq<|dq ca) [] (aq 1) aj)<|nIx (aq 3)<|nLit<|.int 2)))))))))))
def ZP(ca:CA):List D->Option (D×Bool):=fnO 1 10 (Qk ca)
local macro_rules | `(tactic| fail "mir") => `(tactic| simp only [*, fnM, du, j6, az, mOp, sv, af, mC, mCB, ae, ao, lx, gB0, gI0, gI, fe, BW, rW, gIx, JF, gSl, dj, zdO, zdP, Xs, zdQ, gIs, zbh, t7, zbm, zbn, asB, asI, mUn, Ey, pW, PJ, FW, Uj, Uh, Ui, D6, BY, Ht, Ez, isNone,
 BQ,mOr,BR,FK,zdH,Lm,Ln,gy,dY,ic,jk,d6,sto,om,ez,zcD,jY,gp,NY,NZ,dz,Df,Oa,Rt,Ob,Oc,Iw,ie,v9,FY,Lz,D8,sd,Ul,zdR,Lq,zdJ,rg1,rg2,Rg,zdI,asL,asT,Jz,mgN,mgT,mgU,asS,Xo,zbc,D0,D2,qx,Mir.putAt,Sl.put,rz,DZ,d7,JD,zbj,
 List.length_cons,List.length_nil,List.map_cons,List.map_nil,List.cons_append,List.nil_append,List.replicate,List.getElem?_cons_zero,List.getElem?_cons_succ,List.getElem?_nil,List.set_cons_zero,List.set_cons_succ,
 Option.bind_some,Option.bind_none,Option.map_some,Option.map_none,if_true,if_false,j5,Bool.false_eq_true,reduceIte,decide_true,decide_false,Bool.not_true,Bool.not_false,ite_true,ite_false,Nat.reduceAdd,Nat.reduceEqDiff,Bool.and_true,Bool.true_and,Bool.and_false,Bool.not_eq_true,not_true_eq_false,not_false_eq_true,Int.reduceLT,Int.reduceLE,Int.reduceEq,Nat.reduceLeDiff])
local macro_rules | `(tactic| fail "st") => `(tactic| (apply bj; · (fail "mir"; try exact rfl)))
def cell(ns:List Int)(k:Nat):Int:=ns.getD k 0
theorem Vn(M:∀w x:Int,b [.fz<|.list<|r.map .int,.fz<|.int w,.fz<|.int x]=some (.nx [.fz<|.list<|r.map .int,.fz<|.int<|2*w+x,.fz<|.int x]))
  (I:ρ=du (d6 1<|mC<|.int 0) (du (Jz (za5<|ae (af 0) ao) (mgN 2) b)<|ez<|af 1)):fnM 1 2 ρ 9071=some (.int<|Ctr.worth r,false):=by
 obtain⟨s',_,h⟩:=LA M r.reverse 0 .no SF.no;rw[Ctr.Mc]at h;subst I;refine ef (o:=.rt (.int<|Ctr.worth r,.fz) [.fz<|.list<|r.map .int,.fz<|.int<|Ctr.worth r,s']) rfl ?_ rfl;refine bj rfl (bj (JG ?_ h)<|cj rfl);rw[List.map_reverse];rfl
theorem Ce(r:List Int):k9 9071=some (.int<|Ctr.worth r,false):=Vn (λw x=>by
 have q:IntMulOk 2 w:=IntMulOk.of_left (by decide)
 unfold AO
 fail "mir") rfl
theorem MB(r:List Int):wz 9071=some (.int (Ctr.ones r:Nat),false):=by
 have g:=D9 r 1;rw[Ctr.OF]at g;refine ef (o:=.rt (.int (Ctr.ones r:Nat),.fz) [.fz<|.list<|r.map .int]) rfl (cj ?_) rfl;simp only[mBM,sv,af,ae,ao,mC,lx,List.map_cons,List.map_nil,List.cons_append,List.nil_append,List.replicate,List.getElem?_cons_zero,Option.bind_some,Option.map_some,g,t7]
def rng(n:Nat):List Int:=(List.range n).map λk=>((k:Nat):Int)
theorem Cf(n:Nat):rng (n+1)=rng n++[(n:Int)]:=by unfold rng;rw[List.range_succ,ze0];rfl
theorem Ar(n:Nat):(rng n).length=n:=by simp[rng]
theorem Ql(R:D)(a s:List Int)(k:Nat):n9 [.fz R,.own<|.list<|a.map .int,.own<|.list<|s.map .int,.fz<|.int k]=
  some (decide<|a[k]?=some 1,[.fz R,.own<|.list<|a.map .int,.own<|.list<|s.map .int,.fz<|.int k]):=by
 unfold n9
 by_cases h:k<a.length
 .have c:(k:Int)<9106:=by simp only[List.length_map];lia
  have e:L2.atI a (k:Int)=some a[k]:=by rw[Mir.pq,zeB h]
  have b:decide (a[k]=1)=decide (a[k]?=some 1):=by rw[zeB h];simp
  fail "mir"
 .have c : ¬(k:Int)<9106:=by simp only[List.length_map];lia
  have b:decide (a[k]?=some 1)=false:=by rw[List.getElem?_eq_none (by lia)];rfl
  fail "mir"
theorem Yz(R:D)(a b:List Int)(x:Int)(s:List Int)(I:s.length<=100000):ua [.fz R,.own<|.list<|(a++x::b).map .int,.own<|.list<|s.map .int,.fz<|.int (a.length:Nat)]=
  some (.nx [.fz R,.own<|.list<|(a++0::b).map .int,.own<|.list<|(s++[9070]).map .int,.fz<|.int (a.length+1:Nat)]):=by
 have z:(s.map PyData.int).length<sizeLine:=AI (by simpa using I)
 have i:L2.ixN ((a++x::b).map PyData.int).length 9070=some a.length:=JH (by simp)
 have e:((a++x::b).map PyData.int).set a.length (.int 0)=(a++0::b).map .int:=by
  rw[ze0,zey];have:=drop_set (a.map PyData.int) (.int x) (.int 0) (b.map .int);rw[zej]at this;rw[this,ze0,zey]
 have c:9070+1=((a.length+1:Nat):Int):=by lia
 have d:(s.map PyData.int)++[.int 9070]=(s++[9070]).map .int:=by rw[ze0];rfl
 refine bj (ρ1:=[.fz R,.own<|.list<|(a++0::b).map .int,.own<|.list<|s.map .int,.fz<|.int (a.length:Nat)]) ?_ (bj (ρ1:=[.fz R,.own<|.list<|(a++0::b).map .int,.own<|.list<|(s++[9070]).map .int,.fz<|.int (a.length:Nat)]) ?_ ?_)
 .simp only[D0,mC,sv,jk,D2,qx,af,asI,i,e,Mir.putAt,Sl.put,List.getElem?_cons_zero,List.getElem?_cons_succ,List.set_cons_zero,List.set_cons_succ,Option.bind_some,Option.map_some]
 .simp only[jY,rz,qx,ae,ao,af,sv,lx,ic,jk,d7,z,j5,d,Mir.putAt,Sl.put,List.getElem?_cons_zero,List.getElem?_cons_succ,List.set_cons_zero,List.set_cons_succ,Option.bind_some,Option.map_some]
 .simp only[NY,mC,sv,asI,om,c,List.getElem?_cons_zero,List.getElem?_cons_succ,List.set_cons_zero,List.set_cons_succ,Option.bind_some,Option.map_some]
theorem Qm(R:D)(r:List Int)(ρ:r.length<=90000):∀(n k I:Nat),k+n=Ctr.lead r->n<I->j2 n9 ua I [.fz R,.own<|.list<|(List.replicate k 0++r.drop k).map .int,.own<|.list<|(rng k).map .int,.fz<|.int k]=
  some (.nx [.fz R,.own<|.list<|(List.replicate (Ctr.lead r) 0++r.drop (Ctr.lead r)).map .int,.own<|.list<|(rng<|Ctr.lead r).map .int,.fz<|.int<|Ctr.lead r])
 |_,_,0,_,h=>by lia
 |0,k,I+1,h,_=>by
  have:k=Ctr.lead r:=by lia
  subst this;refine De ((Ql _ _ _ _).trans ?_);rw[zeN];rw[zeM (by simp),List.length_replicate,Nat.sub_self,List.getElem?_drop,Nat.add_zero]
  exact Ctr.yZ r
 |n+1,k,I+1,h,c=>by
  have b:=Ctr.pY r;have hk:k<r.length:=by lia
  have h1:=Ctr.L9 r k (by lia)
  have hd:=zfa hk;have t:=Yz R (List.replicate k 0) (r.drop<|k+1) r[k] (rng k) (by rw[Ar];lia)
  rw[List.length_replicate]at t;have a:=Qm R r ρ n (k+1) I (by lia) (by lia)
  rw[Cf,List.replicate_succ',zeC,List.singleton_append]at a;rw[hd];refine FX ((Ql _ _ _ _).trans ?_) t a;rw[zeG];rw[zeM (by simp),List.length_replicate,Nat.sub_self,zeO,<-zeB hk]
  exact h1
theorem Vo(r:List Int)(I:r.length<=90000):sx 9071=some (.tuple 9057,false):=by
 have d:=Ctr.pY r;have ρ:=Qm (.list<|r.map .int) r I (Ctr.lead r) 0 1000000 (by lia) (by lia)
 have g : 2<=sizeLine:=by decide
 have l : 0<=sizeLine:=by decide
 refine ef (o:=.rt (.tuple 9057,.fz) [.fz<|.list<|r.map .int,.fz<|.list<|(Ctr.up r).map .int,.fz<|.list<|(rng<|Ctr.lead r+1).map .int,.fz<|.int<|Ctr.lead r]) rfl ?_ rfl;refine bj rfl ?_;refine bj (ρ1:=[.fz<|.list<|r.map .int,.own<|.list<|r.map .int,.own<|.list [],.no]) (by fail "mir") ?_
 refine bj rfl ?_;refine bj ρ ?_;generalize hk:Ctr.lead r=k at*;refine bj (ρ1:=[.fz<|.list<|r.map .int,.own<|.list<|(List.replicate k 0++(if k=r.length then [0]else r.drop k)).map .int,.own<|.list<|(rng k).map .int,.fz<|.int k]) ?_ ?_
 .have b:(((List.replicate k 0++r.drop k).map PyData.int).length:Int)=(r.length:Int):=by simp;lia
  by_cases h:k=r.length
  .have c:(k:Int)=(r.length:Int):=by lia
   have z:((List.replicate k 0++r.drop k).map PyData.int).length<sizeLine:=AI (by simp;lia)
   have a:((List.replicate k 0++r.drop k).map PyData.int)++[.int 0]=(List.replicate k (0:Int)++[0]).map .int:=by
    rw[h,List.drop_length,zeQ,ze0];rfl
   rw[if_pos h];simp only[j6,az,mOp,mCB,ae,ao,af,sv,lx,dj,b,pW,t7,asB,c,decide_true,if_true,jY,rz,qx,mC,ic,jk,d7,z,j5,a,Mir.putAt,Sl.put,List.map_cons,List.map_nil,List.getElem?_cons_zero,List.getElem?_cons_succ,List.set_cons_zero,List.set_cons_succ,Option.bind_some,Option.map_some]
  .have c : ¬(k:Int)=(r.length:Int):=by lia
   rw[if_neg h];simp only[j6,az,mOp,mCB,ae,ao,af,sv,lx,dj,b,pW,t7,asB,c,decide_false,if_false,Bool.false_eq_true,gp,List.map_cons,List.map_nil,List.getElem?_cons_zero,List.getElem?_cons_succ,Option.bind_some,Option.map_some]
 obtain⟨x,t,hx,f⟩:∃x t,(if k=r.length then [0]else r.drop k)=x::t/\t=r.drop (k+1):=by
  by_cases h:k=r.length
  .rw[if_pos h];exact⟨0,[],rfl,by rw[List.drop_eq_nil_of_le (by lia)]⟩
  .rw[if_neg h];exact⟨r[k],r.drop<|k+1,zfa (by lia),rfl⟩
 rw[hx];have i:L2.ixN ((List.replicate k 0++x::t).map PyData.int).length (k:Int)=some k:=JH (by simp)
 have e:((List.replicate k 0++x::t).map PyData.int).set k (.int 1)=(Ctr.up r).map .int:=by
  have:=drop_set ((List.replicate k (0:Int)).map PyData.int) (.int x) (.int 1) (t.map .int);rw[zej,List.length_replicate]at this;rw[ze0,zey,this,Ctr.up_eq,hk,f,ze0,zey]
 have z:((rng k).map PyData.int).length<sizeLine:=AI (by rw[zej,Ar];lia)
 have a:((rng k).map PyData.int)++[.int (k:Int)]=(rng<|k+1).map .int:=by rw[Cf,ze0];rfl
 refine bj (ρ1:=[.fz<|.list<|r.map .int,.own<|.list<|(Ctr.up r).map .int,.own<|.list<|(rng k).map .int,.fz<|.int k]) ?_ (bj (ρ1:=[.fz<|.list<|r.map .int,.own<|.list<|(Ctr.up r).map .int,.own<|.list<|(rng<|k+1).map .int,.fz<|.int k]) ?_ ?_)
 .clear ρ
  simp only[D0,mC,sv,jk,D2,qx,af,asI,i,e,Mir.putAt,Sl.put,List.getElem?_cons_zero,List.getElem?_cons_succ,List.set_cons_zero,List.set_cons_succ,Option.bind_some,Option.map_some]
 .clear ρ
  simp only[jY,rz,qx,ae,ao,af,sv,lx,ic,jk,d7,z,j5,a,Mir.putAt,Sl.put,List.getElem?_cons_zero,List.getElem?_cons_succ,List.set_cons_zero,List.set_cons_succ,Option.bind_some,Option.map_some]
 .clear ρ
  refine cj ?_;simp only[gy,ae,ao,af,sv,lx,ic,jk,g,j5,List.length_cons,List.length_nil,Nat.reduceAdd,List.getElem?_cons_zero,List.getElem?_cons_succ,List.set_cons_zero,List.set_cons_succ,Option.bind_some,Option.map_some]
theorem R7(r:List Int):i7 9071=some (.int<|Ctr.worth r,false):=by
 have h:=Ce r;unfold i7 xq
 fail "mir"
theorem GL(r:List Int):fZ 9071=some (.int<|Fig.rX r,false):=by
 have g:=D9 r 0;refine ef (o:=.rt (.int<|Fig.rX r,.fz) [.fz<|.list<|r.map .int]) rfl (cj ?_) rfl;simp only[mOp,mCB,dj,gI0,mBM,sv,af,ae,ao,mC,lx,List.map_cons,List.map_nil,List.cons_append,List.nil_append,List.replicate,List.getElem?_cons_zero,Option.bind_some,Option.map_some,g,t7,List.length_map,Fig.rX]
theorem Qn(R:D)(b:Int)(a s:List Int)(k:Nat):pZ 9112=
  some (decide<|a[k]?=some b,9112):=by
 unfold pZ
 by_cases h:k<a.length
 .have c:(k:Int)<9106:=by simp only[List.length_map];lia
  have e:L2.atI a (k:Int)=some a[k]:=by rw[Mir.pq,zeB h]
  have d:decide (a[k]=b)=decide (a[k]?=some b):=by rw[zeB h];simp
  fail "mir"
 .have c : ¬(k:Int)<9106:=by simp only[List.length_map];lia
  have d:decide (a[k]?=some b)=false:=by rw[List.getElem?_eq_none (by lia)];rfl
  fail "mir"
theorem YA(R:D)(y:Int)(a b:List Int)(x:Int)(s:List Int)(I:s.length<=100000):wo [.fz R,.fz<|.int y,.own<|.list<|(a++x::b).map .int,.own<|.list<|s.map .int,.fz<|.int (a.length:Nat)]=
  some (.nx [.fz R,.fz<|.int y,.own<|.list<|(a++0::b).map .int,.own<|.list<|(s++[9070]).map .int,.fz<|.int (a.length+1:Nat)]):=by
 have z:(s.map PyData.int).length<sizeLine:=AI (by simpa using I)
 have i:L2.ixN ((a++x::b).map PyData.int).length 9070=some a.length:=JH (by simp)
 have e:((a++x::b).map PyData.int).set a.length (.int 0)=(a++0::b).map .int:=by
  rw[ze0,zey];have:=drop_set (a.map PyData.int) (.int x) (.int 0) (b.map .int);rw[zej]at this;rw[this,ze0,zey]
 have c:9070+1=((a.length+1:Nat):Int):=by lia
 have d:(s.map PyData.int)++[.int 9070]=(s++[9070]).map .int:=by rw[ze0];rfl
 refine bj (ρ1:=[.fz R,.fz<|.int y,.own<|.list<|(a++0::b).map .int,.own<|.list<|s.map .int,.fz<|.int (a.length:Nat)]) ?_ (bj (ρ1:=[.fz R,.fz<|.int y,.own<|.list<|(a++0::b).map .int,.own<|.list<|(s++[9070]).map .int,.fz<|.int (a.length:Nat)]) ?_ ?_)
 .simp only[D0,mC,sv,jk,D2,qx,af,asI,i,e,Mir.putAt,Sl.put,List.getElem?_cons_zero,List.getElem?_cons_succ,List.set_cons_zero,List.set_cons_succ,Option.bind_some,Option.map_some]
 .simp only[jY,rz,qx,ae,ao,af,sv,lx,ic,jk,d7,z,j5,d,Mir.putAt,Sl.put,List.getElem?_cons_zero,List.getElem?_cons_succ,List.set_cons_zero,List.set_cons_succ,Option.bind_some,Option.map_some]
 .simp only[NY,mC,sv,asI,om,c,List.getElem?_cons_zero,List.getElem?_cons_succ,List.set_cons_zero,List.set_cons_succ,Option.bind_some,Option.map_some]
theorem Qo(R:D)(b:Int)(r:List Int)(ρ:r.length<=90000):∀(n k I:Nat),k+n=Fig.lead b r->n<I->j2 pZ wo I [.fz R,.fz<|.int b,.own<|.list<|(List.replicate k 0++r.drop k).map .int,.own<|.list<|(rng k).map .int,.fz<|.int k]=
  some (.nx [.fz R,.fz<|.int b,.own<|.list<|(List.replicate (Fig.lead b r) 0++r.drop (Fig.lead b r)).map .int,.own<|.list<|(rng<|Fig.lead b r).map .int,.fz<|.int<|Fig.lead b r])
 |_,_,0,_,h=>by lia
 |0,k,I+1,h,_=>by
  have:k=Fig.lead b r:=by lia
  subst this;refine De ((Qn _ _ _ _ _).trans ?_);rw[zeN];rw[zeM (by simp),List.length_replicate,Nat.sub_self,List.getElem?_drop,Nat.add_zero]
  exact Fig.yZ b r
 |n+1,k,I+1,h,d=>by
  have c:=Fig.pY b r;have hk:k<r.length:=by lia
  have h1:=Fig.Qi b r k (by lia)
  have hd:=zfa hk;have t:=YA R b (List.replicate k 0) (r.drop<|k+1) r[k] (rng k) (by rw[Ar];lia)
  rw[List.length_replicate]at t;have a:=Qo R b r ρ n (k+1) I (by lia) (by lia)
  rw[Cf,List.replicate_succ',zeC,List.singleton_append]at a;rw[hd];refine FX ((Qn _ _ _ _ _).trans ?_) t a;rw[zeG];rw[zeM (by simp),List.length_replicate,Nat.sub_self,zeO,<-zeB hk]
  exact h1
theorem MC(b:Int)(r:List Int)(I:r.length<=90000):m8 [.list<|r.map .int,.int b]=some (.tuple [.list<|(Fig.moved b r).map .int,.list<|(rng<|Fig.lead b r+1).map .int],false):=by
 have l:=Fig.pY b r;have ρ:=Qo (.list<|r.map .int) b r I (Fig.lead b r) 0 1000000 (by lia) (by lia)
 have u : 2<=sizeLine:=by decide
 have s : 0<=sizeLine:=by decide
 have f:=Fig.OG b r;refine ef (o:=.rt (.tuple [.list<|(Fig.moved b r).map .int,.list<|(rng<|Fig.lead b r+1).map .int],.fz) [.fz<|.list<|r.map .int,.fz<|.int b,.fz<|.list<|(Fig.moved b r).map .int,.fz<|.list<|(rng<|Fig.lead b r+1).map .int,.fz<|.int<|Fig.lead b r]) rfl ?_ rfl;refine bj rfl ?_;refine bj (ρ1:=[.fz<|.list<|r.map .int,.fz<|.int b,.own<|.list<|r.map .int,.own<|.list [],.no]) (by clear ρ;fail "mir") ?_
 refine bj rfl ?_;refine bj ρ ?_;generalize hk:Fig.lead b r=k at*;refine bj (ρ1:=[.fz<|.list<|r.map .int,.fz<|.int b,.own<|.list<|(List.replicate k 0++(if k=r.length then [0]else r.drop k)).map .int,.own<|.list<|(rng k).map .int,.fz<|.int k]) ?_ ?_
 .have g:(((List.replicate k 0++r.drop k).map PyData.int).length:Int)=(r.length:Int):=by simp;lia
  by_cases h:k=r.length
  .have c:(k:Int)=(r.length:Int):=by lia
   have z:((List.replicate k 0++r.drop k).map PyData.int).length<sizeLine:=AI (by simp;lia)
   have a:((List.replicate k 0++r.drop k).map PyData.int)++[.int 0]=(List.replicate k (0:Int)++[0]).map .int:=by
    rw[h,List.drop_length,zeQ,ze0];rfl
   rw[if_pos h];simp only[j6,az,mOp,mCB,ae,ao,af,sv,lx,dj,g,pW,t7,asB,c,decide_true,if_true,jY,rz,qx,mC,ic,jk,d7,z,j5,a,Mir.putAt,Sl.put,List.map_cons,List.map_nil,List.getElem?_cons_zero,List.getElem?_cons_succ,List.set_cons_zero,List.set_cons_succ,Option.bind_some,Option.map_some]
  .have c : ¬(k:Int)=(r.length:Int):=by lia
   rw[if_neg h];simp only[j6,az,mOp,mCB,ae,ao,af,sv,lx,dj,g,pW,t7,asB,c,decide_false,if_false,Bool.false_eq_true,gp,List.map_cons,List.map_nil,List.getElem?_cons_zero,List.getElem?_cons_succ,Option.bind_some,Option.map_some]
 obtain⟨x,t,hx,m,d⟩:∃x t,(if k=r.length then [0]else r.drop k)=x::t/\t=r.drop (k+1)/\x=r[k]?.getD 0:=by
  by_cases h:k=r.length
  .rw[if_pos h];exact⟨0,[],rfl,by rw[List.drop_eq_nil_of_le (by lia)],by rw[List.getElem?_eq_none (by lia)];rfl⟩
  .rw[if_neg h];exact⟨r[k],r.drop<|k+1,zfa (by lia),rfl,by rw[zeB (by lia)];rfl⟩
 rw[hx];have i:((List.replicate k 0++x::t).map PyData.int)[k]?=some (.int x):=by
  rw[zem,zeM (by simp),List.length_replicate,Nat.sub_self];rfl
 have n:k<((List.replicate k 0++x::t).map PyData.int).length:=by simp
 have p:(0:Int)<=(k:Int):=by lia
 have q:((k:Int)).toNat=k:=by lia
 have e:((List.replicate k 0++x::t).map PyData.int).set k (.int<|x+b)=(Fig.mvr b r).map .int:=by
  have:=drop_set ((List.replicate k (0:Int)).map PyData.int) (.int x) (.int<|x+b) (t.map .int);rw[zej,List.length_replicate]at this;rw[ze0,zey,this,f,m,d,ze0,zey]
 have z:((rng k).map PyData.int).length<sizeLine:=AI (by rw[zej,Ar];lia)
 have a:((rng k).map PyData.int)++[.int (k:Int)]=(rng<|k+1).map .int:=by rw[Cf,ze0];rfl
 refine bj (ρ1:=[.fz<|.list<|r.map .int,.fz<|.int b,.own<|.list<|(Fig.mvr b r).map .int,.own<|.list<|(rng k).map .int,.fz<|.int k]) ?_ (bj (ρ1:=[.fz<|.list<|r.map .int,.fz<|.int b,.own<|.list<|(Fig.mvr b r).map .int,.own<|.list<|(rng<|k+1).map .int,.fz<|.int k]) ?_ ?_)
 .clear ρ f
  simp only[Oe,sv,qx,af,asI,i,n,p,q,e,Mir.putAt,Sl.put,List.getElem?_cons_zero,List.getElem?_cons_succ,List.set_cons_zero,List.set_cons_succ,Option.bind_some,Option.map_some,if_true]
 .clear ρ f
  simp only[jY,rz,qx,ae,ao,af,sv,lx,ic,jk,d7,z,j5,a,Mir.putAt,Sl.put,List.getElem?_cons_zero,List.getElem?_cons_succ,List.set_cons_zero,List.set_cons_succ,Option.bind_some,Option.map_some]
 have j:=GL (Fig.mvr b r);refine bj (ρ1:=[.fz<|.list<|r.map .int,.fz<|.int b,.own<|.list<|(Fig.moved b r).map .int,.own<|.list<|(rng<|k+1).map .int,.fz<|.int k]) ?_ ?_
 .unfold Fig.moved
  by_cases h:Fig.rX (Fig.mvr b r)=0
  .rw[if_pos h]
   simp only[j6,az,mOp,dz,ae,ao,mC,af,sv,lx,j,Df,Ul,h,pW,decide_true,t7,asB,d6,dY,ic,s,j5,sto,om,List.length_nil,List.map_cons,List.map_nil,List.getElem?_cons_zero,List.getElem?_cons_succ,List.set_cons_zero,List.set_cons_succ,Option.bind_some,Option.map_some,if_true]
  .rw[if_neg h]
   simp only[j6,az,mOp,dz,ae,ao,mC,af,sv,lx,j,Df,Ul,h,pW,decide_false,t7,asB,gp,List.map_cons,List.map_nil,List.getElem?_cons_zero,List.getElem?_cons_succ,Option.bind_some,Option.map_some,if_true,Bool.false_eq_true,if_false]
 .refine cj ?_
  simp only[gy,ae,ao,af,sv,lx,ic,jk,u,j5,List.length_cons,List.length_nil,Nat.reduceAdd,List.getElem?_cons_zero,List.getElem?_cons_succ,List.set_cons_zero,List.set_cons_succ,Option.bind_some,Option.map_some]
theorem IY(a b:List D):mX (.tuple [.list a,.list b]) false=false:=by simp only[Iw,D8]
theorem zdb(r:List Int)(I:r.length<=90000):p8 9071=some (.tuple [.list<|(Fig.moved 1 r).map .int,.list<|(rng<|Fig.lead 1 r+1).map .int],false):=by
 have h:=MC 1 r I;have p:=IY ((Fig.moved 1 r).map .int) ((rng<|Fig.lead 1 r+1).map .int);refine ef (o:=.rt (.tuple [.list<|(Fig.moved 1 r).map .int,.list<|(rng<|Fig.lead 1 r+1).map .int],.fz) [.fz<|.list<|r.map .int]) rfl (cj ?_) rfl;simp only[dz,ae,ao,mC,af,sv,lx,h,p,Ul,ic,jk,List.map_cons,List.map_nil,List.cons_append,List.nil_append,List.replicate,List.getElem?_cons_zero,Option.bind_some,Option.map_some,Bool.false_eq_true,if_false]
theorem YB(r:List Int)(I:r.length<=90000):l6 9071=some (.tuple 9114,false):=by
 have h:=MC (-1) r I;have p:=IY ((Fig.moved (-1) r).map .int) ((rng<|Fig.lead (-1) r+1).map .int);refine ef (o:=.rt (.tuple 9114,.fz) [.fz<|.list<|r.map .int]) rfl (cj ?_) rfl;simp only[dz,ae,ao,mC,af,mUn,rW,t7,sv,lx,h,p,Ul,ic,jk,List.map_cons,List.map_nil,List.cons_append,List.nil_append,List.replicate,List.getElem?_cons_zero,Option.bind_some,Option.map_some,Bool.false_eq_true,if_false]
theorem YC(h1:m L=some (I,ρ1))(h2:f (I.map (·.1))=some (d,o))(h3:ic I ρ1=some (ds,ρ1)):dz f m L=some (kO d o,ρ1):=by
 unfold dz;rw[h1,zeg];dsimp only;rw[h2,zeg]
 split
 .rfl
 .rw[h3];rfl
theorem dy(h1:a L=some (.ok<|.nx ρ1))(h2:b ρ1=o):jm a b L=o:=by unfold jm;rw[h1];exact h2
theorem Fo(h1:a L=some (.er c I)):jm a b L=some (.er c I):=by unfold jm;rw[h1];rfl
theorem bx(h:m L=some o):eW m L=some (.ok o):=by unfold eW;rw[h];rfl
theorem Vp(h1:c L=some (true,I))(h2:a I=o):eIf c a b L=o:=by unfold eIf;rw[h1,zeg];dsimp only;rw[if_pos rfl,h2]
theorem Vq(h1:c L=some (false,ρ1))(h2:b ρ1=o):eIf c a b L=o:=by unfold eIf;rw[h1,zeg];dsimp only;rw[if_neg zek,h2]
theorem GN(I:ds.length=n)(h:b 9092=some (.er c L)):fnX n k b ds=some (.inr c):=by
 unfold fnX;rw[if_pos I,h];rfl
theorem za(I:ds.length=n)(h:b 9092=some (.ok o))(ρ:NZ o=some r):fnX n k b ds=some (.inl r):=by
 unfold fnX;rw[if_pos I,h];show(NZ o).map _=_;rw[ρ];rfl
local macro_rules | `(tactic| fail "szo") => `(tactic| (try simp only [List.length_append, List.length_cons, List.length_nil, List.length_reverse, List.length_replicate, List.length_map]; lia))
theorem MD(h1:m L=some (M,I))(h2:ic M I=some (ds,ρ))(h3:f ds=some (.inl (d,o))):qW f m L=some (.inl (kO d o,ρ)):=by
 unfold qW;rw[h1,zeg];dsimp only;rw[h2,zeg];dsimp only;rw[h3];rfl
theorem MH(h1:m L=some (M,I))(h2:ic M I=some (ds,ρ))(h3:f ds=some (.inr c)):qW f m L=some (.inr (c,ρ)):=by
 unfold qW;rw[h1,zeg];dsimp only;rw[h2,zeg];dsimp only;rw[h3];rfl
theorem ZQ(h:m L=some (.inl x))(h2:∀I:PM,I L=some x->k I L=some o):eX k m L=some (.ok o):=by
 unfold eX;rw[h,zeg];dsimp only
 rw[h2 (mOk m) (by unfold mOk;rw[h]),zeS]
theorem ZR(h:m L=some (.inr (c,I))):eX k m L=some (.er c I):=by
 unfold eX;rw[h,zeg]
inductive Thing:D->Prop
 |non:Thing .none
 |s0:Thing (.str "")
 |s1:Thing (.str " A1 ")
 |s2:Thing (.str "b ~")
 |int (i:Int):Thing (.int i)
 |unit:Thing (.tuple [])
 |tup (i:Int):Thing (.tuple [.int i,.str "t",.tuple [.none,.tuple []]])
def ix0(a b:D):gIx (.tuple [a,b]) (.int 0)=some (a,false):=rfl
def ix1(a b:D):gIx (.tuple [a,b]) (.int 1)=some (b,false):=rfl
def MJ{l:List D}(h : L[i]?=some (.own<|.list l)):IE (mCB dj<|ae (af i) ao) L 9087 :=
 gz (d0:=(.int 9087,false)) (JI (IA<|se h) aX h) rfl
def oY{l:List D}{k:Kd}(h:sv a L=some ((.list l,.fz),L)):IE (mCB dj<|ae a ao) L 9087 :=
 gz (d0:=(.int 9087,false)) (au h aX) rfl
theorem MK(ds:List D)(d:D):cutD (ds++[d]) none (some<|-1)=ds:=by
 unfold cutD;have e:HT.sIx (ds++[d]).length (ds++[d]).length (some<|-1)=ds.length:=by
  unfold HT.sIx;simp
  lia
 rw[HT.Fz,e,List.drop_zero,Nat.sub_zero,List.take_append_of_le_length<|zen _,List.take_length]
theorem Qp(ds:List D)(d:D):gIx (.list<|ds++[d]) (.int<|-1)=some (d,false):=by
 show(L2.atI (ds++[d])<|-1).map (λd=>(d,false))=_
 rw[Mir.FA];simp
theorem Qq(d:D)(n:Nat)(h:n<=90000):zbk (.list [d]) (.int (n:Int))=some (.list<|List.replicate n d):=by
 show cIf _ _ _=_;rw[bg ⟨by lia,by lia,by rw[Int.toNat_natCast,ze6,Nat.one_mul];exact AH (by lia)⟩,Int.toNat_natCast]
 congr 2
 induction n with
 |zero=>rfl
 |succ n a=>rw[zfb,List.flatten_cons,a (by lia),zfb];rfl
abbrev Qd(f b:List D):D:=.tuple [.list f,.list b]
theorem YD(f b:List D)(hz:f.length+b.length<=90000):sW [Qd f b]=some (.list<|f.reverse++b,true):=by
 refine ef (o:=.rt (.list<|f.reverse++b,.new) [.fz<|Qd f b]) rfl (cj ?_) rfl
 fail "q5"
 exact bc (bz<|gz (d0:=(.list f.reverse,true)) (au (ah a) aX) rfl) (ah c) (ik _ _ (by rw[List.length_reverse];lia))
theorem Vr(f b:List D):mf [Qd f b]=some (.int (b.length:Int),false):=by
 refine ef (o:=.rt (.int (b.length:Int),.fz) [.fz<|Qd f b]) rfl (cj ?_) rfl;have a:mOp gIx (af 0) (mC<|.int 1) [.fz<|Qd f b]=some ((.list b,.fz),[.fz<|Qd f b]):=bc 9007 (ah rfl) (ix1 _ _);exact gz (d0:=(.int (b.length:Int),false)) (au (ah a) aX) rfl
theorem YE(f b:List D)(t:D)(hz:f.length+b.length<=90000):sy [Qd f b,t]=some (.tuple [Qd f<|b++[t],.list [.str "laid"]],false):=by
 refine ef (o:=.rt (.tuple [Qd f<|b++[t],.list [.str "laid"]],.fz) 9060) rfl (cj ?_) rfl
 fail "q0"
 have g:mCB mY (ae 9002 ao) 9060=some ((.list f,.new),9060):=gz (d0:=(.list f,true)) (au (ah a) aX) rfl;have h:=bc (ah c) (bz d) (ik _ _ (by fail "szo"))
 have i:=g7 (au (bz g)<|au (bz h) aX) rfl (by simp)
 exact g7 (au (ah i)<|au (bz e) aX) rfl (by simp)
abbrev turned(n:Nat):List D:=List.replicate n (.str "turned")
theorem DC(Q:D):∀(c fr st:List D) (I:Nat),c.length<I->fr.length+c.length<=90000->st.length+c.length<=90000->
  j2 y3 y4 I [.fz Q,.own<|.list fr,.own<|.list c.reverse,.own<|.list st,.no]=some (.nx [.fz Q,.own<|.list<|fr++c,.own<|.list [],.own<|.list<|st++turned c.length,.no])
 |c,fr,st,0,h,_,_=>by lia
 | [],fr,st,I+1,_,_,_=>by
  rw[zeQ,List.length_nil,show turned 0=[]from rfl,zeQ,List.reverse_nil];exact De (o4 (qz (MJ rfl) de)<|zeN (by simp))
 |x::c,fr,st,I+1,h,h1,h2=>by
  rw[zeu]at h h1 h2;have a:=DC Q c (fr++[x]) (st++[.str "turned"]) I (by lia) (by rw[zes,ze6];lia) (by rw[zes,ze6];lia)
  rw[zeC,List.singleton_append,zeC,List.singleton_append]at a;rw[List.reverse_cons];refine FX (o4 (qz (MJ rfl) de)<|zeG (by fail "szo")) ?_ a
  have pp:=Oh (i:=2) (L:=[.fz Q,.own<|.list fr,.own<|.list<|c.reverse++[x],.own<|.list st,.no]) x c.reverse rfl rfl;exact bj (JK x fr rfl (au (ah pp) aX) rfl rfl (by lia) rfl) (JK (.str "turned") st rfl (au (ah rfl) aX) rfl rfl (by lia) rfl)
theorem Vs(f b:List D)(t:D)(p:List D)(I:f.reverse++b=t::p)(hz:f.length+b.length<=90000):∃M ρ st,M.reverse++ρ=p/\st.length+ρ.length=b.length+1/\M.length+ρ.length<=f.length+b.length/\l8 [Qd f b]=some (.inl (.tuple [t,Qd M ρ,.list st],false)):=by
 have j:∀{s1 s2 d g:Sl},mOp gIx (af 0) 9074 [.fz<|Qd f b,s1,s2,d,g]=some ((.list f,.fz),[.fz<|Qd f b,s1,s2,d,g]):=bc 9007 (ah rfl) (ix0 _ _);have l:∀{s1 s2 d g:Sl},mOp gIx (af 0) (mC<|.int 1) [.fz<|Qd f b,s1,s2,d,g]=some ((.list b,.fz),[.fz<|Qd f b,s1,s2,d,g]):=bc 9007 (ah rfl) (ix1 _ _);have h:∀(fs c st:List D),fs.length<=90000->st.length<=90000->
   jm (eIf 9045 (Di "Empty"<|ae (mC<|.str "the queue has no things") ao)<|eW gp)
    (jm (eW<|d6 4<|DZ 1 JD)<|jm (eW<|jY<|rz 3 d7<|ae (mC<|.str "taken") ao)<|eW<|ez<|gy<|ae (af 4)<|ae 9116<|ae (af 3) ao)
    [.fz<|Qd f b,.own<|.list<|fs++[t],.own<|.list c,.own<|.list st,.no]=some (.ok<|.rt (.tuple [t,Qd fs c,.list<|st++[.str "taken"]],.fz) [.fz<|Qd f b,.fz<|.list fs,.fz<|.list c,.fz<|.list<|st++[.str "taken"],.fz t]):=λfs c st h1 h2=>by
  refine dy (Vq (tNe (MJ rfl) de (by fail "szo"))<|bx rfl) ?_
  have pp:=Oh (i:=1) (L:=[.fz<|Qd f b,.own<|.list<|fs++[t],.own<|.list c,.own<|.list st,.no]) t fs rfl rfl;refine dy (bx<|t8 pp rfl) ?_;refine dy (bx<|JK (.str "taken") st rfl (au (ah rfl) aX) rfl rfl (by lia) rfl) ?_
  refine bx (cj ?_);have n:gy (ae (af 1)<|ae (af 2) ao) [.fz<|Qd f b,.own<|.list fs,.own<|.list c,.own<|.list<|st++[.str "taken"],.fz t]=some ((Qd fs c,.fz),[.fz<|Qd f b,.fz<|.list fs,.fz<|.list c,.own<|.list<|st++[.str "taken"],.fz t]):=g7 rfl rfl (by simp)
  exact g7 (au 9007<|au (ah n) rfl) rfl (by simp)
 have hd:∀(k:EM) (o:Option Hw),k [.fz<|Qd f b,.own<|.list f,.own<|.list b,.own<|.list [],.no]=o->jm (eW<|d6 1<|mCB mY<|ae 9002 ao) (jm (eW<|d6 2<|mCB mY<|ae 9010 ao)<|jm (eW<|d6 3<|dY ao) k) [.fz<|Qd f b,.no,.no,.no,.no]=o:=λk o hk=>by
  refine dy (bx<|jf (gz (d0:=(.list f,true)) (au (ah j) aX) rfl) rfl) ?_;refine dy (bx<|jf (gz (d0:=(.list b,true)) (au (ah l) aX) rfl) rfl) ?_;exact dy (bx<|jf (f6 rfl rfl (by simp)) rfl) hk
 cases f with
 |nil=>
  subst I;rw[List.length_nil,zeu]at hz;refine⟨p.reverse,[],turned (p.length+1)++[.str "taken"],by simp,by simp,by simp,?_⟩
  refine za (o:=.rt (.tuple [t,Qd p.reverse [],.list<|turned (p.length+1)++[.str "taken"]],.fz) [.fz<|Qd [] (t::p),.fz<|.list p.reverse,.fz<|.list [],.fz<|.list<|turned (p.length+1)++[.str "taken"],.fz t]) rfl (hd _ _ ?_) rfl;have m:=DC (Qd [] (t::p)) (t::p).reverse [] [] 1000000 (by fail "szo") (by fail "szo") (by fail "szo")
  rw[List.reverse_reverse,List.nil_append,List.nil_append,List.reverse_cons]at m;refine dy (bx<|Hu (tEq (MJ rfl) de rfl) ?_) (h p.reverse [] _ (by fail "szo") (by fail "szo"))
  rw[m];simp
 |cons a f=>
  have:∃fs,a::f=fs++[t]:=by
   have h1:=I;cases e:(a::f).reverse with
   |nil=>simp at e
   |cons u fs=>
    rw[e,zex]at h1;cases h1;refine⟨fs.reverse,?_⟩;rw[<-List.reverse_cons,<-e,List.reverse_reverse]
  obtain⟨fs,e⟩:=this;rw[e]at hd j l I hz h⊢;rw[List.reverse_append,List.reverse_singleton,List.singleton_append,zex]at I;rw[zes,ze6]at hz;refine⟨fs,b,[.str "taken"],by cases I;rfl,by fail "szo",by fail "szo",?_⟩
  refine za (o:=.rt (.tuple [t,Qd fs b,.list<|[]++[.str "taken"]],.fz) [.fz<|Qd (fs++[t]) b,.fz<|.list fs,.fz<|.list b,.fz<|.list<|[]++[.str "taken"],.fz t]) rfl (hd _ _ ?_) rfl;exact dy (bx<|yc (tNe (MJ rfl) de (by fail "szo")) rfl) (h fs b [] (by lia) (by simp))
theorem Vt:l8 [Qd [] []]=some (.inr "Empty"):=by
 have c:∀{s1 s2 a b:Sl},mOp gIx (af 0) 9074 [.fz<|Qd [] [],s1,s2,a,b]=some ((.list [],.fz),[.fz<|Qd [] [],s1,s2,a,b]):=bc 9007 (ah rfl) (ix0 _ _);have d:∀{s1 s2 a b:Sl},mOp gIx (af 0) (mC<|.int 1) [.fz<|Qd [] [],s1,s2,a,b]=some ((.list [],.fz),[.fz<|Qd [] [],s1,s2,a,b]):=bc 9007 (ah rfl) (ix1 _ _);refine GN (L:=[.fz<|Qd [] [],.own<|.list [],.own<|.list [],.own<|.list [],.no]) rfl ?_;refine dy (bx<|jf (gz (d0:=(.list [],true)) (au (ah c) aX) rfl) rfl) ?_;refine dy (bx<|jf (gz (d0:=(.list [],true)) (au (ah d) aX) rfl) rfl) ?_;refine dy (bx<|jf (f6 rfl rfl (by simp)) rfl) ?_
 have e:=DC (Qd [] []) [] [] [] 1000000 (by simp) (by simp) (by simp)
 refine dy (bx<|Hu (tEq (MJ rfl) de rfl) e) ?_;refine Fo (Vp (tEq (MJ rfl) de rfl) rfl)
def ab(i:Int):Int:=if i<0 then-i else i
theorem YF(f b:List D)(hz:f.length+b.length<=90000):qa [Qd f b]=some (.list<|f.reverse++b,true):=by
 refine ef (o:=.rt (.list<|f.reverse++b,.new) [.fz<|Qd f b]) rfl (cj ?_) rfl
 fail "q5"
 exact bc (bz<|gz (d0:=(.list f.reverse,true)) (au (ah a) aX) rfl) (ah c) (ik _ _ (by rw[List.length_reverse];lia))
theorem Vu(f b:List D):kq [Qd f b]=some (.int<|ab<|(f.length:Int)-b.length,false):=by
 refine ef (o:=.rt (.int<|ab<|(f.length:Int)-b.length,.fz) [.fz<|Qd f b]) rfl (cj ?_) rfl
 fail "q5"
 exact gz (d0:=(.int<|ab<|(f.length:Int)-b.length,false)) (IC (t9 (oY (k:=.fz)<|ah a)<|oY (k:=.fz)<|ah c) aX) rfl
theorem R8(f b:List D)(t:D)(hz:f.length+b.length<=90000):ot [Qd f b,t]=some (.tuple [Qd (f++[t]) b,.list [.str "laid"]],false):=by
 refine ef (o:=.rt (.tuple [Qd (f++[t]) b,.list [.str "laid"]],.fz) 9060) rfl (cj ?_) rfl
 fail "q0"
 have g:mCB mY (ae 9010 ao) 9060=some ((.list b,.new),9060):=gz (d0:=(.list b,true)) (au (ah c) aX) rfl;have h:=bc (ah a) (bz d) (ik _ _ (by fail "szo"))
 have i:=g7 (au (bz h)<|au (bz g) aX) rfl (by simp)
 exact g7 (au (ah i)<|au (bz e) aX) rfl (by simp)
theorem Vv(f b:List D)(t:D)(hz:f.length+b.length<=90000):q9 [Qd f b,t]=some (.tuple [Qd f<|b++[t],.list [.str "laid"]],false):=by
 refine ef (o:=.rt (.tuple [Qd f<|b++[t],.list [.str "laid"]],.fz) 9060) rfl (cj ?_) rfl
 fail "q0"
 have g:mCB mY (ae 9002 ao) 9060=some ((.list f,.new),9060):=gz (d0:=(.list f,true)) (au (ah a) aX) rfl;have h:=bc (ah c) (bz d) (ik _ _ (by fail "szo"))
 have i:=g7 (au (bz g)<|au (bz h) aX) rfl (by simp)
 exact g7 (au (ah i)<|au (bz e) aX) rfl (by simp)
theorem zb4(ds:List D)(k:Nat)(h:k<=ds.length):cutD ds none (some (k:Int))=ds.take k:=by
 unfold cutD;rw[HT.E7,HT.Fz,Nat.min_eq_left h,List.drop_zero,Nat.sub_zero]
theorem ML(ds:List D)(j:Nat)(h:j<=ds.length):cutD ds (some (j:Int)) none=ds.drop j:=by
 unfold cutD;rw[HT.E7,HT.Fz,Nat.min_eq_left h,List.take_of_length_le (by rw[List.length_drop];lia)]
theorem Qr:jq [.list [],.list []]=some (.inr "Empty"):=by
 refine GN (L:=[.fz<|.list [],.fz<|.list [],.no,.no,.no]) rfl ?_;refine dy (bx<|yc (o4 (qz 9036 de)<|zeN (by simp)) rfl) ?_
 exact Fo (Vp (tEq 9036 de rfl) rfl)
theorem near_is(n f:List D)(t:D)(p:List D)(I:n.reverse++f=t::p)(hz:n.length+f.length<=80000):∃M ρ st:List D,M.reverse++ρ=p/\(st.length:Int)+ab ((M.length:Int)-ρ.length)<=ab ((n.length:Int)-f.length)+2/\jq [.list n,.list f]=some (.inl (.tuple [t,Qd M ρ,.list st],false)):=by
 cases n with
 |cons a n0=>
  have:∃fs,a::n0=fs++[t]:=by
   have h1:=I;cases e:(a::n0).reverse with
   |nil=>simp at e
   |cons u fs=>
    rw[e,zex]at h1;cases h1;refine⟨fs.reverse,?_⟩;rw[<-List.reverse_cons,<-e,List.reverse_reverse]
  obtain⟨fs,e⟩:=this;rw[e]at I hz⊢;rw[List.reverse_append,List.reverse_singleton,List.singleton_append,zex]at I;refine⟨fs,f,[.str "taken"],by cases I;rfl,by rw[zes,ze6,ze6];unfold ab;split<;>split<;>lia,?_⟩
  have r:=Qp fs t;have cl:=MK fs t;have b:(fs++[t]).length=fs.length+1:=by simp
  generalize fs++[t]=N at*;refine za (o:=.rt (.tuple [t,Qd fs f,.list [.str "taken"]],.fz) 9005) rfl ?_ rfl;have i:ez (gy<|ae (mOp gIx (af 0)<|mUn rW<|mC<|.int 1)<|ae 9107<|ae (dY<|ae (mC<|.str "taken") ao) ao) 9005=some (.rt (.tuple [t,Qd fs f,.list [.str "taken"]],.fz) 9005):=by
   have j:mOp gIx (af 0) (mUn rW<|mC<|.int 1) 9005=some ((t,.fz),9005):=bc 9007 (ah<|Dg de) r;have sl:mSl gSl (af 0) ei (iy<|mUn rW<|mC<|.int 1) 9005=some ((.list fs,.new),9005):=by
    show some ((PyData.list<|cutD N none<|some<|-1,Kd.new),_)=_;rw[cl]
   have l:mCB mY (ae (af 1) ao) 9005=some ((.list f,.new),9005):=gz (d0:=(.list f,true)) (au 9007 aX) rfl;have c:dY (ae (mC<|.str "taken") ao) 9005=some ((.list [.str "taken"],.new),9005):=f6 rfl rfl (by simp)
   have d:=g7 (au (bz sl)<|au (bz l) aX) rfl (by simp)
   exact cj (g7 (au (ah j)<|au (ah d)<|au (bz c) aX) rfl (by simp))
  show jm _ _ 9005=_;unfold jm;rw[bx<|Hu (o4 (qz 9036 de)<|zeG (by lia)) i]
  rfl
 |nil=>
  subst I;obtain⟨k,hk⟩:∃k,k=(p.length+2)/2:=⟨_,rfl⟩;refine⟨(p.take<|k-1).reverse,p.drop<|k-1,List.replicate (p.length+1) (.str "moved")++[.str "taken"],by rw[List.reverse_reverse,List.take_append_drop],?_,?_⟩
  .rw[List.length_reverse,List.length_take,List.length_drop,zes,List.length_replicate,ze6,List.length_nil,zeu]
   unfold ab;split<;>split<;>lia
  have ct:cutD (t::p) none (some (k:Int))=t::p.take (k-1):=by
   rw[zb4 _ _ (by rw[zeu];lia)]
   cases k with
   |zero=>lia
   |succ k=>rfl
  have h:cutD (t::p) (some (k:Int)) none=p.drop (k-1):=by
   rw[ML _ _ (by rw[zeu];lia)]
   cases k with
   |zero=>lia
   |succ k=>rfl
  have q:(t::p.take (k-1)).reverse=(p.take<|k-1).reverse++[t]:=List.reverse_cons ..;have b:(t::p).length=p.length+1:=zeu;generalize s:(p.take<|k-1).reverse=A at*;generalize v:p.drop (k-1)=B at*;generalize w:t::p=F at*;refine za (o:=.rt (.tuple [t,Qd A B,.list<|List.replicate (p.length+1) (.str "moved")++[.str "taken"]],.fz) 9009) rfl ?_ rfl;refine dy (bx<|yc (o4 (qz 9036 de)<|zeN (by simp)) rfl) ?_
  refine dy (Vq (tNe 9036 de (by lia))<|bx rfl) ?_
  refine dy (ρ1:=9072) (bx<|Hv ((qy (Of 9036 de) de ⟨by decide,by decide⟩).is (by lia)) rfl) ?_
  have s1:mSl gSl (af 1) ei (iy<|af 2) 9072=some ((.list (t::p.take (k-1)),.new),9072):=by
   show some ((PyData.list<|cutD F none<|some (k:Int),Kd.new),_)=_;rw[ct]
  refine dy (bx<|jf (gz (d0:=(.list<|A++[t],true)) (au (bz s1) aX) (by show some (PyData.list (t::p.take (k-1)).reverse,true)=_;rw[q])) rfl) ?_
  refine dy (bx<|t8 (Oh t A rfl rfl) rfl) ?_;refine bx (cj ?_);have s2:mSl gSl (af 1) (iy<|af 2) ei 9052=some ((.list B,.new),9052):=by
   show some ((PyData.list<|cutD F (some (k:Int)) none,Kd.new),_)=_;rw[h]
  have d:gy (ae (af 3)<|ae (mSl gSl (af 1) (iy<|af 2) ei) ao) 9052=some ((Qd A B,.fz),9009):=g7 (JI (IA<|se rfl) (au (bz s2) aX) rfl) rfl (by simp)
  have m:Rq (ae (mC<|.str "moved") ao) (mCB dj<|ae (af 1) ao) 9009=some ((.list<|List.replicate (p.length+1)<|.str "moved",.new),9009):=by
   unfold Rq;rw[f6 rfl rfl (by simp),zeg]
   rw[ah<|oY (k:=.fz)<|ah<|ax rfl,zeg];rw[b,Qq _ _ (by lia)];rfl
  have c:dY (ae (mC<|.str "taken") ao) 9009=some ((.list [.str "taken"],.new),9009):=f6 rfl rfl (by simp)
  have g:=bc (bz m) (bz c) (ik _ _ (by fail "szo"))
  exact g7 (au 9007<|au (ah d)<|au (bz g) aX) rfl (by simp)
def YG{l r:List D}(h : L[0]?=some (.fz<|Qd l r)):mOp gIx (af 0) 9074 L=some ((.list l,.fz),L):=bc (ah<|ax h) (ah rfl) (ix0 _ _)
def YH{l r:List D}(h : L[0]?=some (.fz<|Qd l r)):mOp gIx (af 0) (mC<|.int 1) L=some ((.list r,.fz),L):=bc (ah<|ax h) (ah rfl) (ix1 _ _)
def Vw:l9 [Qd [] []]=some (.inr "Empty"):=GN rfl (ZR<|MH (au (ah<|YG rfl)<|au (ah<|YH rfl) aX) rfl Qr)
def YI:ou [Qd [] []]=some (.inr "Empty"):=GN rfl (Fo<|ZR<|MH (au (ah<|YH rfl)<|au (ah<|YG rfl) aX) rfl Qr)
theorem first_is(l r:List D)(t:D)(p:List D)(M:l.reverse++r=t::p)(hz:l.length+r.length<=80000):∃I ρ st:List D,I.reverse++ρ=p/\(st.length:Int)+ab ((I.length:Int)-ρ.length)<=ab (9087-r.length)+2/\l9 [Qd l r]=some (.inl (.tuple [t,Qd I ρ,.list st],false)):=by
 obtain⟨b,a,st,h1,h2,nr⟩:=near_is l r t p M hz;exact⟨b,a,st,h1,h2,za rfl (ZQ (MD (au (ah<|YG rfl)<|au (ah<|YH rfl) aX) rfl nr) λc hm=>cj hm) rfl⟩
theorem Vx(a b:Int):ab (a-b)=ab (b-a):=by unfold ab;split<;>split<;>lia
theorem YJ(l r:List D)(t:D)(p:List D)(M:l.reverse++r=p++[t])(hz:l.length+r.length<=80000):∃I ρ st:List D,I.reverse++ρ=p/\(st.length:Int)+ab ((I.length:Int)-ρ.length)<=ab (9087-r.length)+2/\ou [Qd l r]=some (.inl (.tuple [t,Qd I ρ,.list st],false)):=by
 have f:r.reverse++l=t::p.reverse:=by
  have:=congrArg List.reverse M;rw[List.reverse_append,List.reverse_reverse,List.reverse_append,List.reverse_singleton,List.singleton_append]at this;exact this
 obtain⟨b,a,st,h1,h2,nr⟩:=near_is r l t p.reverse f (by lia)
 refine⟨a,b,st,?_,?_,?_⟩
 .have:=congrArg List.reverse h1
  rw[List.reverse_append,List.reverse_reverse,List.reverse_reverse]at this;exact this
 .rw[Vx,Vx 9087];exact h2
 .generalize e:PyData.tuple [t,Qd b a,.list st]=T at nr
  have h:mOp gIx (af 1) 9074 9035=some ((t,.fz),9035):=bc (d0:=(t,false)) 9007 (ah rfl) (by rw[<-e];rfl)
  have g:mOp gIx (af 1) (mC<|.int 1) 9035=some ((Qd b a,.fz),9035):=bc (d0:=(Qd b a,false)) 9007 (ah rfl) (by rw[<-e];rfl)
  have i:mOp gIx (af 1) 9123 9035=some ((.list st,.fz),9035):=bc (d0:=(.list st,false)) 9007 (ah rfl) (by rw[<-e];rfl)
  have d:mOp gIx 9019 (mC<|.int 1) 9035=some ((.list a,.fz),9035):=bc (ah g) (ah rfl) (ix1 _ _);have c:mOp gIx 9019 9074 9035=some ((.list b,.fz),9035):=bc (ah g) (ah rfl) (ix0 _ _);have j:=g7 (au (ah d)<|au (ah c) aX) rfl (by simp)
  refine za (o:=.rt (.tuple [t,Qd a b,.list st],.fz) 9035) rfl ?_ rfl;refine dy (ZQ (MD (au (ah<|YH rfl)<|au (ah<|YG rfl) aX) rfl nr) λk hm=>t8 hm rfl) ?_
  exact bx (cj<|g7 (au (ah h)<|au (ah j)<|au (ah i) aX) rfl (by simp))
abbrev Rm(I:List D)(s:Nat):D:=.tuple [.list I,.int (s:Int)]
def crd(m s:Nat):Int:=if(s:Int)<2*(m:Int)then 2*(m:Int)-s else if(4:Int)<s then(s:Int)/2-m else 0
def Pw(s:Nat):Prop:=s=4\/s=8\/s=16\/s=32\/s=64\/s=128\/s=256\/s=512\/s=1024\/s=2048\/s=4096
structure Fm(m s:Nat):Prop where
 pw:Pw s
 le:m<=s
 low:s=4\/s<4*m
def up(m s:Nat):Nat:=if m=s then 2*s else s
def ups(m s:Nat):Nat:=if m=s then m+1 else 1
def dn(m s:Nat):Nat:=if 4<s/\4*m<=s then s/2 else s
def dns(m s:Nat):Nat:=if 4<s/\4*m<=s then m+1 else 1
theorem Fm.put(h:Fm m s)(hm:m<=1000):Fm (m+1) (up m s)/\(ups m s:Int)+crd (m+1) (up m s)<=crd m s+3:=by
 obtain⟨p,l,w⟩:=h;unfold up ups
 by_cases e:m=s
 .rw[if_pos e,if_pos e]
  refine⟨⟨?_,by omega,by unfold Pw at p;omega⟩,?_⟩
  .unfold Pw at p⊢;omega
  .unfold crd
   omega
 .rw[if_neg e,if_neg e]
  refine⟨⟨p,by omega,by omega⟩,?_⟩
  unfold crd Pw at*;split<;>split<;>(try split)<;>omega
theorem Fm.take(h:Fm (m+1) s):Fm m (dn m s)/\(dns m s:Int)+crd m (dn m s)<=crd (m+1) s+2:=by
 obtain⟨p,l,w⟩:=h;unfold dn dns
 by_cases e : 4<s/\4*m<=s
 .rw[if_pos e,if_pos e]
  unfold Pw at p;refine⟨⟨by unfold Pw;omega,by omega,by omega⟩,?_⟩
  unfold crd;split<;>split<;>(try split)<;>omega
 .rw[if_neg e,if_neg e]
  unfold Pw at p;refine⟨⟨by unfold Pw;omega,by omega,by omega⟩,?_⟩
  unfold crd;split<;>split<;>(try split)<;>omega
theorem MM(I:List D)(h:I.length<=90000):Ap [.list I]=some (.list<|List.replicate I.length<|.str "moved",true):=by
 refine ef (o:=.rt (.list<|List.replicate I.length<|.str "moved",.new) [.fz<|.list I]) rfl (cj ?_) rfl;unfold Rq;rw[f6 rfl rfl (by simp),zeg]
 rw[ah<|rfl,zeg];rw[Qq _ _ h];rfl
theorem Vy(I:List D)(s:Nat):oa [Rm I s]=some (.int<|crd I.length s,false):=by
 have b:∀{s1 s2:Sl},mOp gIx (af 0) 9074 [.fz<|Rm I s,s1,s2]=some ((.list I,.fz),[.fz<|Rm I s,s1,s2]):=bc 9007 (ah rfl) (ix0 _ _);have c:∀{s1 s2:Sl},IE 9010 [.fz<|Rm I s,s1,s2] (s:Int):=bc 9007 (ah rfl) (ix1 _ _);refine ef (o:=.rt (.int<|crd I.length s,.fz) [.fz<|Rm I s,.fz<|.int (I.length:Int),.fz<|.int (s:Int)]) rfl ?_ rfl;refine bj (Hv (oY (k:=.fz)<|ah b) rfl) ?_;refine bj (Hv c rfl) ?_;have a:IE (mOp BW 9123<|af 1) [.fz<|Rm I s,.fz<|.int (I.length:Int),.fz<|.int (s:Int)] (2*(I.length:Int)):=F4 de (bq rfl) (IntMulOk.of_left (by decide))
 unfold crd
 by_cases h1:(s:Int)<2*(I.length:Int)
 .rw[if_pos h1]
  exact FZ (Hu (o4 (qz a<|bq rfl)<|zeG h1)<|cj<|t9 a<|bq rfl)
 .rw[if_neg h1]
  refine bj (yc (o4 (qz a<|bq rfl)<|zeN h1) rfl) ?_
  by_cases h2:(4:Int)<s
  .rw[if_pos h2]
   exact FZ (Hu (o4 (qz (bq rfl) de)<|zeG h2)<|cj<|t9 (qy (bq rfl) de ⟨by decide,by decide⟩)<|bq rfl)
  .rw[if_neg h2]
   exact bj (yc (o4 (qz (bq rfl) de)<|zeN h2) rfl) (cj de)
theorem YK(I:List D)(s:Nat)(t:D)(hz:I.length<=80000):∃st:List D,st.length=ups I.length s/\wt [Rm I s,t]=some (.tuple [Rm (I++[t])<|up I.length s,.list st],false):=by
 have f:∀{s1 s2 b c:Sl},mOp gIx (af 0) 9074 [.fz<|Rm I s,s1,s2,b,c]=some ((.list I,.fz),[.fz<|Rm I s,s1,s2,b,c]):=bc 9007 (ah rfl) (ix0 _ _);have g:∀{s1 s2 b c:Sl},IE 9010 [.fz<|Rm I s,s1,s2,b,c] (s:Int):=bc 9007 (ah rfl) (ix1 _ _);have a:∀(s':Nat) (st:List D),st.length<=80000->ez (gy<|ae (gy<|ae (mOp fe (af 2)<|dY<|ae (af 1) ao)<|ae (af 3) ao)<|ae (mOp fe (af 4)<|dY<|ae (mC<|.str "laid") ao) ao) 9003=some (.rt (.tuple [Rm (I++[t]) s',.list<|st++[.str "laid"]],.fz) 9003):=λs' st i=>by
  have j:dY (ae (af 1) ao) 9003=some ((.list [t],.new),9003):=f6 (au 9007 aX) rfl (by simp)
  have l:dY (ae (mC<|.str "laid") ao) 9003=some ((.list [.str "laid"],.new),9003):=f6 rfl rfl (by simp)
  have d:mOp fe (af 2) (dY<|ae (af 1) ao) 9003=some ((.list<|I++[t],.new),_):=bc 9007 (bz j) (ik _ _ (by fail "szo"))
  have e:mOp fe (af 4) (dY<|ae (mC<|.str "laid") ao) 9003=some ((.list<|st++[.str "laid"],.new),_):=Uo (IA<|se rfl) (bz l) rfl (ik _ _ (by fail "szo"))
  have m:gy (ae (mOp fe (af 2)<|dY<|ae (af 1) ao)<|ae (af 3) ao) 9003=some ((Rm (I++[t]) s',.fz),9003):=g7 (au (bz d)<|au 9007 aX) rfl (by simp)
  exact cj (g7 (au (ah m)<|au (bz e) aX) rfl (by simp))
 have hd:∀(k:SM) (o:Option Out),k [.fz<|Rm I s,.fz t,.fz<|.list I,.fz<|.int (s:Int),.own<|.list []]=o->du (d6 2<|mOp gIx (af 0)<|mC<|.int 0) (du (d6 3<|mOp gIx (af 0)<|mC<|.int 1)<|du (d6 4<|dY ao) k) [.fz<|Rm I s,.fz t,.no,.no,.no]=o:=λk o hk=>by
  refine bj (t8 f rfl) ?_;refine bj (Hv g rfl) ?_;exact bj (jf (f6 rfl rfl (by simp)) rfl) hk
 unfold ups up
 by_cases h:I.length=s
 .rw[if_pos h,if_pos h]
  refine⟨List.replicate I.length (.str "moved")++[.str "laid"],by simp,Mir.ef (o:=.rt (.tuple [Rm (I++[t])<|2*s,.list<|List.replicate I.length (.str "moved")++[.str "laid"]],.fz) [.fz<|Rm I s,.fz t,.fz<|.list I,.fz<|.int ((2*s:Nat):Int),.own<|.list<|List.replicate I.length<|.str "moved"]) rfl (hd _ _ ?_) rfl⟩
  refine bj (Hu (tEq 9036 (bq rfl) (by lia)) ?_) (a (2*s) _ (by rw[List.length_replicate];exact hz))
  refine bj (ρ1:=[.fz<|Rm I s,.fz t,.fz<|.list I,.fz<|.int ((2*s:Nat):Int),.own<|.list []]) (Hv ((F4 de (bq rfl)<|IntMulOk.of_left (by decide)).is (by lia)) rfl) ?_
  exact jf (YC (au 9007 aX) (MM I (by lia)) rfl) rfl
 .rw[if_neg h,if_neg h]
  refine⟨[]++[.str "laid"],by simp,Mir.ef (o:=.rt (.tuple [Rm (I++[t]) s,.list<|[]++[.str "laid"]],.fz) [.fz<|Rm I s,.fz t,.fz<|.list I,.fz<|.int (s:Int),.own<|.list []]) rfl (hd _ _ ?_) rfl⟩
  exact bj (yc (tNe 9036 (bq rfl) (by lia)) rfl) (a s [] (by simp))
theorem Vz(s:Nat):oz [Rm [] s]=some (.inr "Empty"):=by
 have a:mOp gIx (af 0) 9074 [.fz<|Rm [] s,.no,.no,.no]=some ((.list [],.fz),[.fz<|Rm [] s,.no,.no,.no]):=bc 9007 (ah rfl) (ix0 _ _);exact GN rfl (Fo<|Vp (tEq (oY (k:=.fz)<|ah a) de rfl) rfl)
theorem VA(fs:List D)(t:D)(s:Nat)(hz:fs.length<=80000):∃st:List D,st.length=dns fs.length s/\oz [Rm (fs++[t]) s]=some (.inl (.tuple [t,Rm fs<|dn fs.length s,.list st],false)):=by
 generalize d:Rm (fs++[t]) s=R;have c:∀{s1 s2 a:Sl},mOp gIx (af 0) 9074 [.fz R,s1,s2,a]=some ((.list<|fs++[t],.fz),[.fz R,s1,s2,a]):=bc (d0:=(.list<|fs++[t],false)) 9007 (ah rfl) (by rw[<-d];rfl)
 have e:∀{s1 s2 a:Sl},IE 9010 [.fz R,s1,s2,a] (s:Int):=bc (d0:=(.int (s:Int),false)) 9007 (ah rfl) (by rw[<-d];rfl)
 have f:∀{s1 s2 a:Sl},mOp gIx 9002 (mUn rW<|mC<|.int 1) [.fz R,s1,s2,a]=some ((t,.fz),[.fz R,s1,s2,a]):=bc (r:=(.int<|-1,.fz)) (ah c) (ah<|Dg de) (Qp fs t);have sl:mSl gSl 9002 ei (iy<|mUn rW<|mC<|.int 1) [.fz R,.no,.no,.no]=some ((.list fs,.new),[.fz R,.no,.no,.no]):=by
  unfold mSl;rw[ah c,zeg];show some ((PyData.list<|cutD (fs++[t]) none<|some<|-1,Kd.new),_)=_;rw[MK]
 have b:∀(s':Nat) (st:List D),ez (gy<|ae (mOp gIx 9002<|mUn rW<|mC<|.int 1)<|ae 9116<|ae (af 3) ao) [.fz R,.own<|.list fs,.fz<|.int (s':Int),.own<|.list st]=some (.rt (.tuple [t,Rm fs s',.list st],.fz) [.fz R,.fz<|.list fs,.fz<|.int (s':Int),.fz<|.list st]):=λs' st=>by
  have i:gy (ae (af 1)<|ae (af 2) ao) [.fz R,.own<|.list fs,.fz<|.int (s':Int),.own<|.list st]=some ((Rm fs s',.fz),[.fz R,.fz<|.list fs,.fz<|.int (s':Int),.own<|.list st]):=g7 rfl rfl (by simp)
  exact cj (g7 (au (ah f)<|au (ah i) rfl) rfl (by simp))
 have hd:∀(k:EM) (o:Option Hw),k [.fz R,.own<|.list fs,.fz<|.int (s:Int),.own<|.list [.str "taken"]]=o->
   jm (eIf (az<|mOp gEq (mCB dj<|ae 9002 ao)<|mC<|.int 0) (Di "Empty"<|ae (mC<|.str "the room has no things") ao)<|eW gp) (jm (eW<|d6 1<|mSl gSl 9002 ei<|iy<|mUn rW<|mC<|.int 1)<|jm (eW<|d6 2<|mOp gIx (af 0)<|mC<|.int 1)<|jm (eW<|d6 3<|dY<|ae (mC<|.str "taken") ao) k) [.fz R,.no,.no,.no]=o:=λk o hk=>by
  refine dy (Vq (tNe (oY (k:=.fz)<|ah c) de (by fail "szo"))<|bx rfl) ?_
  refine dy (bx<|jf sl rfl) ?_;refine dy (bx<|Hv e rfl) ?_;exact dy (bx<|jf (f6 rfl rfl (by simp)) rfl) hk
 have t1:az (mOp gGt (af 2)<|mC<|.int 4) [.fz R,.own<|.list fs,.fz<|.int (s:Int),.own<|.list [.str "taken"]]=some (decide<|(4:Int)<s,_):=(qz (bq rfl) de).t;have t2:az (mOp gLe (mOp BW (mC<|.int 4)<|mCB dj<|ae (af 1) ao)<|af 2) [.fz R,.own<|.list fs,.fz<|.int (s:Int),.own<|.list [.str "taken"]]=some (decide<|4*(fs.length:Int)<=s,_):=(zcK (F4 de (MJ rfl)<|IntMulOk.of_left (by decide))<|bq rfl).t
 unfold dns dn
 by_cases h : 4<s/\4*fs.length<=s
 .rw[if_pos h,if_pos h]
  rw[zeG (by lia)]at t1 t2
  refine⟨[.str "taken"]++List.replicate fs.length (.str "moved"),by fail "szo",za (o:=.rt (.tuple [t,Rm fs<|s/2,.list<|[.str "taken"]++List.replicate fs.length (.str "moved")],.fz) [.fz R,.fz<|.list fs,.fz<|.int ((s/2:Nat):Int),.fz<|.list<|[.str "taken"]++List.replicate fs.length (.str "moved")]) rfl (hd _ _ ?_) rfl⟩
  refine dy (bx<|Hu (IB t1 t2) ?_) (bx<|b (s/2) _);refine bj (ρ1:=[.fz R,.own<|.list fs,.fz<|.int ((s/2:Nat):Int),.own<|.list [.str "taken"]]) (Hv ((qy (bq rfl) de ⟨by decide,by decide⟩).is (by lia)) rfl) ?_
  refine jf (Uo (IA<|se rfl) (bz<|ig (rs:=[(.list fs,.at 1)]) rfl (MM fs (by lia)) ?_) rfl<|ik _ _ (by fail "szo")) rfl
  rw[ie];generalize fs.length=n
  induction n with
  |zero=>exact v9
  |succ n g=>rw[zfb];simp only[ej,pf,Bool.true_and,g]
 .rw[if_neg h,if_neg h]
  refine⟨[.str "taken"],by simp,za (o:=.rt (.tuple [t,Rm fs s,.list [.str "taken"]],.fz) [.fz R,.fz<|.list fs,.fz<|.int (s:Int),.fz<|.list [.str "taken"]]) rfl (hd _ _ ?_) rfl⟩
  refine dy (bx<|yc ?_ rfl) (bx<|b s _)
  by_cases h4:(4:Int)<s
  .rw[zeG h4]at t1
   rw[zeN (by lia)]at t2
   exact IB t1 t2
  .rw[zeN h4]at t1
   exact LC t1
theorem zb{α:Type}(p : α->Bool):∀l:List α,boolsOf (l.map λc=>PyData.bool<|p c)=some (l.map p)
 | []=>rfl
 |c::l=>by
  show(boolsOf<|l.map λc=>PyData.bool<|p c).map _=_
  rw[zb p l];rfl
theorem MP(lo hi z:Str)(L:Rho):FL Hy Hy (mC<|.str lo) (af 0) (mC<|.str hi) (.fz (.str z)::L)=some ((.bool<|leS lo z&&leS z hi,.fz),.fz (.str z)::L):=by
 have e:FL Hy Hy (mC<|.str lo) (af 0) (mC<|.str hi) (.fz (.str z)::L)=(match leS lo z with|true=>some ((.bool<|leS z hi,.fz),.fz (.str z)::L)|false=>some ((.bool false,.fz),.fz (.str z)::L)):=by
  show(match((PyData.bool<|leS lo z,false):D×Bool)with
   |9012=>_
   |9026=>_
   |_=>_)=_
  cases leS lo z<;>rfl
 rw[e];cases leS lo z<;>rfl
theorem qd(h:PyData.strOk x=true):SeqAt.shaped (.str x)=true:=by
 unfold SeqAt.shaped;rw[zeG (by simp[PyData.depth]),Bool.and_true]
 simp only[PyData.canLay0,h]
theorem Cg(ha:PyData.strOk a=true)(I:PyData.strOk b=true):gNe (.str a) (.str b)=some (.bool<|!decide (a=b),false):=by
 unfold gNe;rw[if_pos ⟨qd ha,qd I⟩];simp only[PyData.eqv]
 by_cases e:a=b
 .subst e;simp
 .simp[e]
theorem Ci(ha:PyData.strOk a=true)(I:PyData.strOk b=true):gEq (.str a) (.str b)=some (.bool<|decide<|a=b,false):=by
 unfold gEq;rw[if_pos ⟨qd ha,qd I⟩];simp only[PyData.eqv]
 by_cases e:a=b
 .subst e;simp
 .simp[e]
theorem As(h:∀c∈z.cps.toList,c<128):PyData.strOk z=true:=by
 unfold PyData.strOk;rw[<-Array.all_toList,List.all_eq_true];intro c a;have:=h c a;exact zeG (by lia)
theorem Qs(n:Int):∀c∈(ba n).cps.toList,c<128:=λc a=>by
 have:=Txs.Fn a;omega
def fg(z:Str):Bool:=z.cps.toList.all λc=>leS "0" ⟨#[c]⟩&&leS ⟨#[c]⟩ "9"
theorem GO(h1:sv a L=some ((d,.fz),I))(h2:m I=some (rs,ρ))(h3:g d (rs.map (·.1))=some d0):mBM g a m L=some (u5 d0,ρ):=by
 unfold mBM;rw[h1,zeg];rw[h2,zeg];simp only[lx,Option.bind_some,h3,Option.map_some]
theorem YL(z:Str)(ok:PyData.strOk z=true)(hz : 1<=z.length/\z.length<=60)(h0:(Txt.startswith z "0"&& !decide (z="0"))=false):g8 [.str z]=some (.bool<|fg z,false):=by
 have f:z.length=z.cps.toList.length:=rfl;have a:IE 9024 9066 9097:=gz (d0:=(.int 9097,false)) rfl (bg<|zeW hz.2 (by decide))
 have es:az (mBM pX (af 0)<|ae (mC<|.str "0") ao) 9066=some (Txt.startswith z "0",9066):=test_ev (k:=.fz) (GO 9007 (d0:=(.bool<|Txt.startswith z "0",false)) rfl rfl);have d:az (mOp gNe (af 0)<|mC<|.str "0") 9066=some (!decide (z="0"),9066):=test_ev (k:=.fz) (bc (r:=(.str "0",.fz)) 9007 rfl<|Cg ok (by decide+kernel))
 have ea:BQ (az<|mBM pX (af 0)<|ae (mC<|.str "0") ao) (az<|mOp gNe (af 0)<|mC<|.str "0") 9066=some (false,9066):=by
  cases b:Txt.startswith z "0"with
  |false=>rw[b]at es;exact LC es
  |true=>
   rw[b]at es h0;rw[IB es d];simpa using h0
 have h1 : ¬9097<1:=by lia
 have h2 : ¬(60:Int)<9097:=by lia
 have e:=Mir.va z.cps.toList λc _=>⟨_,ah<|MP "0" "9" ⟨#[c]⟩ []⟩
 refine ef rfl (bj (yc (JJ (o4 (LF a de)<|zeN h1)<|o4 (qz a de)<|zeN h2) rfl)<|bj (yc ea rfl)<|cj<|gz (d0:=(.bool<|fg z,false)) (au (bz<|PK rfl e ?_) aX) ?_) rfl
 .rw[zej];show z.cps.toList.length<=_;lia
 .show(boolsOf _).map _=_
  rw[zb];show some (PyData.bool _,false)=_;rw[List.all_map];rfl
theorem YM:∀c:Nat,48<=c->c<=57->(leS "0" ⟨#[c]⟩&&leS ⟨#[c]⟩ "9")=true:=by
 intro c h1 h2;have:c=48\/c=49\/c=50\/c=51\/c=52\/c=53\/c=54\/c=55\/c=56\/c=57:=by lia
 rcases this with rfl|rfl|rfl|rfl|rfl|rfl|rfl|rfl|rfl|rfl<;>decide+kernel
theorem GP(h:z.cps.toList=c::l)(e:Nat):Txt.startswith z ⟨#[e]⟩=decide (c=e):=by
 unfold Txt.startswith Builtin.Str.subAt;have b:z.length=l.length+1:=by show z.cps.size=_;rw[<-Array.length_toList,h];rfl
 have h1:decide (0+(⟨#[e]⟩:Str).length<=z.length)=true:=by rw[b];simp[Str.length]
 rw[h1,Bool.true_and];have:(z.cps.extract 0<|0+(⟨#[e]⟩:Str).length).toList=[c]:=by
  rw[Array.toList_extract,h];simp[Str.length]
 by_cases a:c=e
 .subst a
  rw[zeG rfl,beq_iff_eq,<-Array.toList_inj,this]
 .rw[zeN a,beq_eq_false_iff_ne]
  intro hx;rw[hx]at this;simp at this;exact a this.symm
theorem zdc(h:z.cps.toList=Txs.dg m):fg z=true:=by
 unfold fg;rw[h,List.all_eq_true];intro c a;have:=Txs.Bl a;exact YM c this.1 this.2
theorem GQ(m:Nat):∃c l,Txs.dg m=c::l:=by
 cases h:Txs.dg m with
 |nil=>exact absurd h (Txs.IW m)
 |cons c l=>exact⟨c,l,rfl⟩
theorem Cj{a b:Str}(h:a.cps.toList=b.cps.toList):a=b:=by
 cases a;cases b;simp only[Str.mk.injEq];exact Array.toList_inj.mp h
theorem Qt(h:z.cps.toList=Txs.dg m)(hm:m<10^60):g8 [.str z]=some 9012:=by
 have e:z.length=(Txs.dg m).length:=by show z.cps.size=_;rw[<-Array.length_toList,h]
 have h1:=Txs.Dt hm (by decide)
 have h2:=List.length_pos_iff.mpr (Txs.IW m);obtain⟨c,l,a⟩:=GQ m;rw[YL z (As λc a=>by rw[h]at a;have:=Txs.Bl a;lia) (by lia) ?_,zdc h]
 have d:=GP (by rw[h,a]) 48
 have b:("0":Str)=⟨#[48]⟩:=by decide
 rw[b,d]
 by_cases hz:c=48
 .subst hz
  have:=Txs.J0 m (by rw[a];rfl)
  subst this;have:z=⟨#[48]⟩:=Cj (by rw[h];decide)
  rw[zeG rfl,zeG this];rfl
 .rw[zeN hz];rfl
theorem VB:∀l:List Nat,List.filterMap (λk=>l[k]?) (List.range l.length)=l
 | []=>rfl
 |c::l=>by
  rw[zeu,List.range_succ_eq_map,List.filterMap_cons_some (f:=λk=>(c::l)[k]?) rfl,List.filterMap_map]
  have:((λk=>(c::l)[k]?)∘Nat.succ)=λk=>l[k]?:=funext λk=>zer
  rw[this,VB l]
theorem zb5(h:z.cps.toList=c::l):(Txt.slice z (some 1) none).cps.toList=l:=by
 have a:z.length=l.length+1:=by show z.cps.size=_;rw[<-Array.length_toList,h];rfl
 have hi:Builtin.Str.strSliceIndices (some 1) none 1 z.length=(List.range l.length).map λk=>k+1:=by
  unfold Builtin.Str.strSliceIndices sliceRange;simp only[a,show(1:Int)>0 by decide,if_true]
  have b:max 0 (min (if(1:Int)<0 then 1+((l.length+1:Nat):Int)else 1) ((l.length+1:Nat):Int))=1:=by
   rw[if_neg (by decide)];lia
  rw[b];have d:(if(1:Int)<((l.length+1:Nat):Int)then(((l.length+1:Nat):Int)-1+1-1)/1 else 0).toNat=l.length:=by
   rw[Int.ediv_one];split<;>lia
  rw[d];apply List.map_congr_left;intro k _
  lia
 unfold Txt.slice;rw[hi,if_neg (by simp[a])]
 rw[List.filterMap_map];have:∀k,((λx=>z.cps[x]?)∘λk=>k+1) k=l[k]?:=λk=>by
  show z.cps[k+1]?=_;rw[<-Array.getElem?_toList,h,zer]
 rw[funext this]
 exact VB l
theorem zdd(h1:sv a L=some ((.str z,.fz),I))(hz:z.length<=100000)(i:Int):mSl RJ a (iy<|mC<|.int i) ei L=some ((.str<|Txt.slice z (some i) none,.fz),I):=by
 unfold mSl;rw[h1,zeg];show(some (_,_)).bind _=_;simp only[Option.bind_some,ei,lx,RJ,bg hz,Option.map_some,u5]
theorem IZ(hn:n.natAbs<10^60):k6 [.str<|ba n]=some 9012:=by
 have em:("-":Str)=⟨#[45]⟩:=by decide
 by_cases h0 : 0<=n
 .obtain⟨m,rfl⟩:=Int.eq_ofNat_of_zero_le h0
  have h:=Txs.Dr m;obtain⟨c,l,b⟩:=GQ m;have f:=Txs.Bl (c:=c) (by rw[b];simp)
  have a:Txt.startswith (ba m) "-"=false:=by rw[em,GP (by rw[h,b]) 45];exact zeN (by lia)
  have es:az (mBM pX (af 0)<|ae (mC<|.str "-") ao) [.fz<|.str<|ba m]=some (false,[.fz<|.str<|ba m]):=test_ev (k:=.fz) (GO 9007 (d0:=9026) rfl (by show some (PyData.bool<|Txt.startswith (ba m) "-",false)=_;rw[a]))
  exact ef rfl (bj (yc es rfl)<|cj<|ig (rs:=[(.str<|ba m,.fz)]) rfl (Qt h (by simpa using hn)) rfl) rfl
 .obtain⟨m,rfl⟩:∃m:Nat,n= -9103:=⟨n.natAbs-1,by lia⟩
  have hm:m+1<10^60:=by rwa[Int.natAbs_neg,Int.natAbs_natCast]at hn
  generalize hz:ba (-9103)=z;have h:=hz▸Txs.Fl m;have ok:=hz▸As (Qs _);have a:Txt.startswith z "-"=true:=by rw[em,GP h 45];exact zeG rfl
  have es:az (mBM pX (af 0)<|ae (mC<|.str "-") ao) 9066=some (true,9066):=test_ev (k:=.fz) (GO 9007 (d0:=9012) rfl (by show some (PyData.bool<|Txt.startswith z "-",false)=_;rw[a]))
  have hd:=zb5 h;have d:BE (dz g8<|ae (mSl RJ (af 0) (iy<|mC<|.int 1) ei) ao) 9066 true:=B0 (au (ah<|zdd 9007 (by rw[show z.length=(Txs.dg<|m+1).length+1 from by show z.cps.size=_;rw[<-Array.length_toList,h];rfl];have:=Txs.Dt hm (by decide);lia) 1) aX) (Qt hd hm)
  have e:BE (mOp gNe (af 0)<|mC<|.str "-0") 9066 true:=by
   have:mOp gNe (af 0) (mC<|.str "-0") 9066=_:=bc 9007 rfl (Cg ok (by decide+kernel))
   rwa[zeN ?_]at this
   intro hx;have h2:=(congrArg (λs:Str=>s.cps.toList) hx).symm.trans h
   have h3:(45::Txs.dg (m+1))[1]?=some 48:=h2▸rfl;have h4:=Txs.J0 (m+1) h3
   lia
  exact ef rfl (FZ<|Hu es<|cj<|Og d (λ_=>e) (by simp)) rfl
def al:Str:="abcdefghijklmnopqrstuvwxyz"
theorem zde:∀k:Nat,k<26->atI al.cps.toList (k:Int)=some (97+k):=by decide+kernel
theorem VC{a b:PM}{k:Nat}(h1:a L=some ((.str al,.fz),L))(h2:IE b L (k:Int))(hk:k<26):mOp IL a b L=some ((.str ⟨#[97+k]⟩,.fz),L) :=
 bc (d0:=(.str ⟨#[97+k]⟩,false)) (ah h1) (ah h2) (by
  show cIf (al.length<=sizeLine) _ _=_;rw[bg (by decide+kernel),zde k hk];rfl)
def Nm(k:Nat)(z:Str):Prop:=∃l,z.cps.toList=(97+k)::l/\l.length<=7/\∀x∈l,97<=x/\x<=122
theorem Nm.low(h:Nm k z)(hk:k<5):∀c∈z.cps.toList,97<=c/\c<=122:=by
 obtain⟨l,e,h1,h2⟩:=h;intro c a;rw[e]at a;rcases zed a with rfl|h
 .lia
 .exact h2 c h
theorem Nm.ne(h:Nm j y)(h':Nm k z)(e:y=z):j=k:=by
 obtain⟨l,b,_⟩:=h;obtain⟨f,d,_⟩:=h';rw[e,d]at b;have:=(List.cons.inj b).1
 lia
def Ck(a b:Str):(a++b).cps.toList=a.cps.toList++b.cps.toList:=Array.toList_append
theorem i8{a b:PM}{x y:Str}(h1:a L=some ((.str x,.fz),I))(h2:b I=some ((.str y,.fz),ρ))(h:x.length+y.length<=100000):mOp fe a b L=some ((.str<|x++y,.fz),ρ) :=
 bc (d0:=(.str<|x++y,false)) (ah h1) (ah h2) (by show cIf _ _ _=_;rw[bg<|AH h])
def osl:Option D->Sl
 |none=>.no
 |some d=>.fz d
def nsl(n:Int)(ρ:D)(k:Nat)(z:Str)(v:Int)(s:Option D):Rho:=[.fz<|.int n,.fz<|.str al,.own ρ,.fz<|.int (k:Int),.fz<|.str z,.fz<|.int v,osl s]
theorem Qu:∀(ds:List D) {z:Str} {l:List Nat} (v:Int) (s:Option D),z.cps.toList=(97+k)::l->l.length+ds.length<=7->(∀x∈l,97<=x/\x<=122)->∃I M s',forL (mgN 6) AM ds (nsl n ρ k z v s)=some (.nx<|nsl n ρ k I M s')/\Nm k I
 | [],z,l,v,s,h,a,c=>⟨z,v,s,rfl,l,h,by simpa using a,c⟩
 |d::ds,z,l,v,s,h,a,c=>by
  rw[zeu]at a;obtain⟨w,hw,e⟩:∃w:Nat,v%26=(w:Int)/\w<26:=⟨(v%26).toNat,by lia,by lia⟩
  have hz:z.length=l.length+1:=by show z.cps.size=_;rw[<-Array.length_toList,h];rfl
  obtain⟨I,M,s',h1,h2⟩:=Qu ds (z:=z++⟨#[97+w]⟩) (l:=l++[97+w]) (v/26) (some d) (by rw[Ck,h];rfl) (by rw[zes];simp;lia) (by
   intro x hx;rcases zec hx with hx|hx
   .exact c x hx
   .rw[zeb hx];lia)
  refine⟨I,M,s',Dh (by cases s<;>rfl) ?_ h1,h2⟩
  refine bj (t8 (i8 (ax rfl) (VC (ax rfl) ((yq (bq rfl) de (by decide)).is hw) e) ?_) rfl) (Hv (qy (bq rfl) de ⟨by decide,by decide⟩) rfl)
  rw[hz];show l.length+1+1<=_
  lia
def nso(n:Int)(I:List Str)(a b c d:Option D):Rho:=[.fz<|.int n,.fz<|.str al,.own<|.list<|I.map .str,osl a,osl b,osl c,osl d]
theorem MQ:∀(m k:Nat) (I:List Str) (a b c d:Option D),k+m<=5->I.length=k->∃(ts:List Str) (M O U Y:Option D),forL (mgN 3) AN ((List.range' k m).map λk:Nat=>PyData.int (k:Int)) (nso n I a b c d)=some (.nx<|nso n (I++ts) M O U Y)/\ts.length=m/\∀j,(h:j<ts.length)->Nm (k+j) ts[j]
 |0,k,I,a,b,c,d,_,_=>⟨[],a,b,c,d,by rw[zeQ];rfl,rfl,λj h=>by simp at h⟩
 |m+1,k,I,a,b,c,d,hk,q=>by
  obtain⟨r,l,p⟩:∃r:Nat,n/7%(8-(k:Int))=(r:Int)/\r<=7-k:=by
   have h1:=Int.emod_nonneg (n/7) (b:=8-(k:Int)) (by lia)
   have h2:=Int.emod_lt_of_pos (n/7) (b:=8-(k:Int)) (by lia)
   exact⟨(n/7%(8-(k:Int))).toNat,by lia,by lia⟩
  obtain⟨e,s,s',h1,h2⟩:=Qu (n:=n) (ρ:=.list<|I.map .str) (Hr 0 r) (z:=⟨#[97+k]⟩) (n/((k:Int)+2)%10^12) d rfl (by rw[Uk];simp;lia) (by simp)
  obtain⟨ts,M,O,U,Y,h3,h4,f⟩:=MQ m (k+1) (I++[e]) (some<|.int (k:Int)) (some<|.str e) (some<|.int s) s' (by lia) (by simp[q])
  refine⟨e::ts,M,O,U,Y,?_,by simp[h4],?_⟩
  .rw[List.range'_succ,zey]
   rw[zeC]at h3;refine Dh (ρ1:=nso n I (some<|.int (k:Int)) b c d) (by cases a<;>rfl) ?_ h3
   have i:IE (mOp Rn (mC<|.int 10)<|mC<|.int 12) (nso n I (some<|.int (k:Int)) (some<|.str ⟨#[97+k]⟩) c d) (10^12):=Uq de de ⟨by decide,by decide,by decide⟩
   refine bj (t8 (VC (ax rfl) (bq rfl) (by lia)) (by cases b<;>rfl)) ?_
   refine bj (Hv (yq (qy (bq rfl) (Of (bq rfl) de) ⟨by lia,by lia⟩) i (by decide)) (by cases c<;>rfl)) ?_
   refine bj (JG (Od (IC ((yq (qy (bq rfl) de ⟨by decide,by decide⟩) (t9 de<|bq rfl) (by lia)).is l) aX) ⟨by lia,by lia⟩) h1) ?_
   refine JK (.str e) (I.map .str) rfl (au 9007 aX) rfl rfl (by rw[zej];lia) ?_
   unfold nso nsl;simp[osl]
  .intro j g
   cases j with
   |zero=>exact h2
   |succ j=>
    have:=f j (by simpa using g)
    rw[show k+(j+1)=k+1+j by lia]
    exact this
theorem VD(n:Int):∃ts:List Str,sr [.int n]=some (.list<|ts.map .str,true)/\ts.length=5/\∀j,(h:j<ts.length)->Nm j ts[j]:=by
 obtain⟨ts,a,b,c,d,h1,h2,h3⟩:=MQ 5 0 [] none none none none (by lia) rfl
 refine⟨ts,ef (o:=.rt (.list<|ts.map .str,.at 2)<|nso n ts a b c d) rfl ?_ rfl,h2,λj h=>by have:=h3 j h;rwa[Nat.zero_add]at this⟩
 refine bj (t8 rfl rfl) (bj (jf (f6 aX rfl (by simp)) rfl)<|bj (JG (Od rfl ⟨by decide,by decide⟩) h1)<|cj<|se rfl)
def f9(ws:List Str):Str:=Txs.mk (Txs.sj [32]<|ws.map λw=>w.cps.toList)
theorem VE(z:Str):Txs.mk z.cps.toList=z:=by cases z;rfl
def Wd(z:Str):Prop:=32∉z.cps.toList/\z.length<=80
theorem MR:∀I:List Str,(∀w∈I,w.length<=80)->(Txs.sj [32]<|I.map λw=>w.cps.toList).length<=81*I.length
 | [],_=>by simp[Txs.sj]
 | [w],h=>by
  have:=h w (by simp)
  exact zeW this (by simp)
 |w::v::I,h=>by
  have h1:=h w (by simp)
  have h2:=MR (v::I) λu hu=>h u (by simp[List.mem_cons]at hu⊢;exact .inr hu)
  show(w.cps.toList++[32]++_).length<=_;rw[zes,zes];have:w.cps.toList.length<=80:=h1;simp only[List.length_cons,List.length_nil]at h2⊢
  lia
theorem vf(h0:ws≠[])(h:∀w∈ws,Wd w)(I:ws.length<=5):kW (.str<|f9 ws) [.str " "]=some (.list<|ws.map .str,true):=by
 have e:Txt.split (f9 ws) " "=ws:=by
  unfold f9;rw[Txs.Gx (by decide+kernel) (by simp) (by decide+kernel) (by simpa using h0) (by
   intro w hw;obtain⟨z,hz,rfl⟩:=List.mem_map.mp hw;exact(h z hz).1),List.map_map]
  rw[show(Txs.mk∘λw:Str=>w.cps.toList)=id from funext VE,List.map_id]
 show cIf _ _ _=_;have hz:(f9 ws).length<=100000:=by
  have:=MR ws λw hw=>(h w hw).2
  show(Txs.sj [32]<|ws.map λw=>w.cps.toList).length<=_
  lia
 rw[e,bg ⟨by decide+kernel,hz,by lia⟩]
theorem GR(hz:(I++y).length<=100000)(h:m (I++y) L=o):mFC y m I L=o:=by
 unfold mFC;rw[bg<|AH hz,h]
theorem AQ(h1:sv a L=some ((d,k),ρ))(h2:P9 d=some z)(hz:z.length<=100000)(I:(M++z).length<=100000)(h:m (M++z) ρ=o):mFV a m M L=o:=by
 unfold mFV;rw[h1,zeg];dsimp only;rw[h2,zeg,bg ⟨hz,AH I⟩,h]
theorem VF(h:m Str.empty L=some (z,I))(hz:z.length<=100000):mJs m L=some ((.str z,.fz),I):=by
 unfold mJs;rw[h,zeg];dsimp only;rw[bg<|AH hz]
theorem len_app(a b:Str):(a++b).length=a.length+b.length:=by
 exact Array.size_append
theorem fi(z:Str):Str.empty++z=z:=Cj (by rw[Ck];rfl)
theorem oZ(h:n.natAbs<10^60):P9 (.int n)=some (ba n):=by
 show cIf _ _ _=_;rw[bg];have:n.natAbs<2^200:=Nat.lt_trans h (by decide)
 rcases Nat.eq_zero_or_pos n.natAbs with h0|h0
 .rw[h0];decide
 .have:=(Nat.log2_lt (by lia)).mpr this
  lia
theorem fX(h:n.natAbs<10^60):(ba n).length<=61:=by
 show(ba n).cps.size<=_;rw[<-Array.length_toList]
 by_cases h0 : 0<=n
 .obtain⟨m,rfl⟩:=Int.eq_ofNat_of_zero_le h0
  rw[Txs.Dr];have:=Txs.Dt (m:=m) h (by decide)
  omega
 .obtain⟨m,rfl⟩:∃m:Nat,n= -9103:=⟨n.natAbs-1,by omega⟩
  rw[Int.natAbs_neg,Int.natAbs_natCast]at h;rw[Txs.Fl,zeu];have:=Txs.Dt h (by decide)
  omega
def cW(w:Str)(n:Nat):Str:=w++" "++ba (n:Int)
theorem Qv(hw:w.length<=80)(I:ws.length<=5):jx [.list<|(w::ws).map .str]=some (.str<|cW w<|ws.length+1,false):=by
 have hn:((ws.length+1:Nat):Int).natAbs<10^60:=by rw[Int.natAbs_natCast];exact Nat.lt_of_le_of_lt (show ws.length+1<=6 by lia) (by decide)
 have a:=fX hn;have b:(" ":Str).length=1:=by decide+kernel
 refine ef (o:=.rt (.str<|cW w<|ws.length+1,.fz) [.fz<|.list<|(w::ws).map .str,.fz<|.str w,.fz<|.int ((ws.length+1:Nat):Int)]) rfl ?_ rfl;refine bj (t8 (bc (d0:=(.str w,false)) 9007 rfl (by show(atI (PyData.str w::ws.map PyData.str) 0).map _=_;rw[oo];rfl)) rfl) ?_
 refine bj (Hv (gz (d0:=(.int ((ws.length+1:Nat):Int),false)) (au 9007 aX) (by show some (PyData.int ((List.map PyData.str (w::ws)).length:Int),false)=_;rw[zej];rfl)) rfl) ?_
 refine cj (VF (AQ 9007 rfl (by lia) (by rw[fi];lia)<|GR (by rw[fi,len_app];lia)<|AQ 9007 (oZ hn) (by lia) (by rw[fi,len_app,len_app];lia) (by rw[fi];rfl)) ?_)
 unfold cW;rw[len_app,len_app]
 lia
theorem MU(h1:sv a L=some ((d,k),I))(h2:g d=some d0)(hk:k=.fz):mUn g a L=some (u5 d0,I):=by
 unfold mUn;rw[h1,zeg];dsimp only;rw[h2];rfl
theorem JF(f : α->I)(l:List α)(i:Int):atI (l.map f) i=(atI l i).map f:=by
 unfold atI;rw[zej];cases ixN l.length i with
 |none=>rfl
 |some j=>simp
def wsl(z:Str)(ws:List Str)(f:Str)(s:Option D):Rho:=[.fz<|.str z,.own<|.list<|ws.map .str,.fz<|.str f,osl s]
theorem Ja:∀(l:List Int) (s:Option D),(∀i∈l,∃n:Int,n.natAbs<10^60/\atI ws i=some (ba n))->∃s',forL (mgN 3) Cc (l.map .int) (wsl z ws f s)=some (.nx<|wsl z ws f s')
 | [],s,_=>⟨s,rfl⟩
 |i::l,s,h=>by
  obtain⟨n,hn,e⟩:=h i (by simp)
  obtain⟨s',h1⟩:=Ja l (some<|.int i) λj a=>h j (by simp[a])
  refine⟨s',Dh (by cases s<;>rfl) (yc (wa<|(B0 (au (ah<|Uo (d0:=(.str<|ba n,false)) (IA<|se rfl) rfl rfl ?_) aX)<|IZ hn).t) rfl) h1⟩
  show(atI (ws.map PyData.str) i).map _=_;rw[JF,e];rfl
theorem GS(hw:∀x∈w::ws,Wd x)(ρ:ws.length<=4)(ok:PyData.strOk (cW w<|ws.length+1)=true)
  (h0:(!decide (cW w (ws.length+1)="account 1")&&(!bX.contains (cW w<|ws.length+1)&& !(ia.lookup<|cW w<|ws.length+1).isSome))=false)
  (I:∀i∈(ck.lookup<|cW w<|ws.length+1).getD [],∃n:Int,n.natAbs<10^60/\atI (w::ws) i=some (ba n)) :
  g9 [.str<|f9 (w::ws)]=some (.list<|(w::ws).map .str,true):=by
 generalize hz:f9 (w::ws)=z;have b:=Qv (ws:=ws) (hw w (by simp)).2 (by lia)
 generalize cW w (ws.length+1)=f at b h0 I ok;obtain⟨s',c⟩:=Ja _ none I;refine ef (o:=.rt (.list<|(w::ws).map .str,.at 1)<|wsl z (w::ws) f s') rfl ?_ rfl;refine bj (yc (wa<|test_ev (k:=.fz)<|F5 9007<|PN z) rfl) ?_;refine bj (jf (GO (d0:=(.list<|(w::ws).map .str,true)) 9007 rfl<|hz▸vf (by simp) hw (by simp;lia)) rfl) ?_
 refine bj (t8 (ig (JI (IA<|se rfl) aX rfl) b rfl) rfl) ?_;have a:JV ck (ae (af 2)<|ae (gy ao) ao) (wsl z (w::ws) f none)=some (((ck.lookup f).getD []).map .int,wsl z (w::ws) f none):=by
  unfold JV;rw[au 9007<|au (ah<|g7 aX rfl (by simp)) aX]
  rfl
 refine bj (yc ?_ rfl) (bj (JG a c)<|cj<|se rfl);have t1:az (mOp gNe (af 2)<|mC<|.str "account 1") (wsl z (w::ws) f none)=some (!decide (f="account 1"),wsl z (w::ws) f none):=test_ev (k:=.fz) (bc (r:=(.str "account 1",.fz)) 9007 rfl<|Cg ok (by decide+kernel))
 have t2:az (mUn (Ow true bX)<|af 2) (wsl z (w::ws) f none)=some (!bX.contains f,wsl z (w::ws) f none):=test_ev (k:=.fz) (MU (d0:=(.bool<|!bX.contains f,false)) 9007 rfl rfl);have t3:az (mUn (Qb not ia)<|af 2) (wsl z (w::ws) f none)=some (!(ia.lookup f).isSome,wsl z (w::ws) f none):=test_ev (k:=.fz) (MU (d0:=(.bool<|!(ia.lookup f).isSome,false)) 9007 rfl rfl);rw[<-h0];cases h1:(!decide (f="account 1"))with
 |false=>rw[h1]at t1;exact LC t1
 |true=>
  rw[h1]at t1;refine IB t1 ?_;cases h2:(!bX.contains f)with
  |false=>rw[h2]at t2;exact LC t2
  |true=>rw[h2]at t2;exact IB t2 t3
theorem YN:∀c:Nat,97<=c->c<=122->(leS "a" ⟨#[c]⟩&&leS ⟨#[c]⟩ "z")=true:=by
 intro c h1 h2;obtain⟨k,hk,rfl⟩:∃k,k<26/\c=97+k:=⟨c-97,by lia,by lia⟩
 have:∀k:Nat,k<26->(leS "a" ⟨#[97+k]⟩&&leS ⟨#[97+k]⟩ "z")=true:=by decide+kernel
 exact this k hk
theorem Nm.len(h:Nm k z) : 1<=z.length/\z.length<=8:=by
 obtain⟨l,e,h1,_⟩:=h;have:z.length=l.length+1:=by show z.cps.size=_;rw[<-Array.length_toList,e];rfl
 lia
theorem R9(h:Nm k z)(hk:k<5):Ao [.str z]=some 9012:=by
 have d:=h.len;have b:IE 9024 9066 9097:=gz (d0:=(.int 9097,false)) rfl (bg<|zeW d.2 (by decide))
 have a:=Mir.va z.cps.toList λc _=>⟨_,ah<|MP "a" "z" ⟨#[c]⟩ []⟩
 have h1 : ¬9097<1:=by lia
 have h2 : ¬(8:Int)<9097:=by lia
 refine ef rfl (bj (yc (JJ (wa<|test_ev (k:=.fz)<|MU (d0:=9012) 9007 (by simp[ZM,yb,tyD,iX,C6]) rfl)<|JJ (o4 (LF b de)<|zeN h1)<|o4 (qz b de)<|zeN h2) rfl)<|cj<|gz (d0:=9012) (au (bz<|PK rfl a ?_) aX) ?_) rfl
 .rw[zej];show z.cps.toList.length<=_;have:z.cps.toList.length=z.length:=rfl;lia
 .show(boolsOf _).map _=_
  rw[zb];show some (PyData.bool _,false)=_;rw[List.all_map,List.all_eq_true.mpr];intro c a;have:=h.low hk c a;exact YN c this.1 this.2
def YO(h:Nm k z)(hk:k<5):jo [.str z]=some (.none,false) :=
 ef rfl (yc (wa<|(B0 (au 9007 aX)<|R9 h hk).t) rfl) rfl
theorem YQ(ns:List Int)(h:ns.length<=63):n8 [.list<|ns.map .int,.int 0]=some (.int<|ns.headD 0,false):=by
 have a:IE 9024 [.fz<|.list<|ns.map .int,.fz<|.int 0] (ns.length:Int):=gz (d0:=(.int (ns.length:Int),false)) rfl (by show some (PyData.int ((ns.map PyData.int).length:Int),false)=_;rw[zej])
 cases ns with
 |nil=>exact ef rfl (bj (yc (o4 (LF (bq rfl) a) rfl) rfl)<|cj de) rfl
 |cons n ns=>
  refine ef rfl (FZ<|Hu (o4 (LF (bq rfl) a)<|zeG (by simp))<|cj<|bc (d0:=(.int n,false)) 9007 9007 ?_) rfl
  show(atI (PyData.int n::ns.map PyData.int) 0).map _=_;rw[oo];rfl
theorem Sa(c:Int):∃n:Int,mi [.int c]=some (.int n,false)/\n.natAbs<10^60:=by
 have d:WJ 10 60:=⟨by decide,by decide,by decide⟩
 have pp:(0:Int)<2*10^(60:Int).toNat-1:=by decide+kernel
 have s:(9:Int)<10^(60:Int).toNat:=by decide+kernel
 have l:((10^60:Nat):Int)=10^(60:Int).toNat:=by decide+kernel
 generalize r:(10:Int)^(60:Int).toNat=T at pp l s;have j:∀{L:Rho},IE (mOp Rn (mC<|.int 10)<|mC<|.int 60) L T:=fun{L}=>r▸Uq de de d
 have e:IE (mOp vY (af 0)<|mC<|.int 2) [.fz<|.int c] (c%2):=yq (bq rfl) de (by decide)
 have f:IE (mOp pz (af 0)<|mC<|.int 2) [.fz<|.int c] (c/2):=qy (bq rfl) de ⟨by decide,by decide⟩
 by_cases h:c%2=0
 .refine⟨c/2%19-9,ef rfl (FZ<|Hu (tEq e de h)<|cj<|t9 (yq f de (by decide)) de) rfl,?_⟩
  omega
 .refine⟨c/2%(2*T-1)-(T-1),ef rfl (bj (yc (tNe e de h) rfl)<|cj<|t9 (yq f (t9 (F4 de j<|IntMulOk.of_left (by decide)) de) pp)<|t9 j de) rfl,?_⟩
  have h1:=Int.emod_nonneg (c/2) (b:=2*T-1) (by omega)
  have h2:=Int.emod_lt_of_pos (c/2) (by omega)
  omega
section
variable{α β:Type}
theorem c9(h:m s=some (.ok v s')):bN m k s=k v s':=by unfold bN;rw[h]
theorem o3(h:m s=some (.ok v s')):bS m k s=k v s':=by unfold bS;rw[h]
theorem ag(h:a s=some (.nx s'))(h2:b s'=o):a6 a b s=o:=by unfold a6;rw[h];exact h2
theorem eu(h:a s=some (.rt r s')):a6 a b s=some (.rt r s'):=by unfold a6;rw[h]
theorem jh(h:c s=some (.ok true s'))(h2:a s'=o):gX c a b s=o:=by unfold gX;rw[o3 h,if_pos rfl];exact h2
theorem bh(h:c s=some (.ok false s'))(h2:b s'=o):gX c a b s=o:=by unfold gX;rw[o3 h,if_neg zek];exact h2
theorem bZ(h:a s=some (.ok x s'))(hi:i<s'.t.length):dW a (ngN i) s=some (.nx ⟨s'.S,s'.t.set i<|some x⟩):=by unfold dW;rw[o3 h];unfold ngN;rw[if_pos hi]
theorem bt(h:a s=some (.ok x s')):df a s=some (.rt x s'):=by unfold df;rw[o3 h]
theorem ka(h:a s=some (.ok x s')):jn a s=some (.nx s'):=by unfold jn;rw[o3 h]
theorem ar(h:s.t[i]?=some (some x)):aq i s=some (.ok x s):=by unfold aq;rw[h]
theorem ak(h:a s=some (.ok x s1))(h2:m s1=some (.ok xs s2)):aa a m s=some (.ok (x::xs) s2):=by unfold aa;rw[c9 h,c9 h2]
theorem kc(h:a s=some (.ok (.pl<|.bool b) s')):ph a s=some (.ok b s'):=by unfold ph;rw[c9 h]
theorem Fp(h:a s=some (.ok b s')):Oo a s=some (.ok (!b) s'):=by unfold Oo;rw[c9 h];rfl
theorem ZS(h:a s=some (.ok false s'))(h2:b s'=r):nOr a b s=r:=by unfold nOr;rw[c9 h,if_neg zek];exact h2
theorem Qw(h:a s=some (.ok 9043 s'))(h2:b s'=r):LJ a b s=r:=by unfold LJ;rw[c9<|kc h,if_pos rfl];exact h2
theorem vg(h:a s=some (.ok (.lc k) s'))(h1:s'.S[k]?=some 9064)(h2:fs.lookup f=some x):cg C a f s=some (.ok x s'):=by
 unfold cg;rw[c9 h];simp only[jg,h1,Option.bind_some,if_true,h2,Option.map_some]
theorem cv(h:a s=some (.ok (.lc k) s1))(h1:s1.S[k]?=some 9064)(h2:fs.lookup I=none)(h3:m s1=some (.ok xs s2))(h4:f s2.S (.lc k::(xs++dv.map .pl))=some (.ok r S')):cz C I f dv a m s=some (.ok r ⟨S',s2.t⟩):=by
 unfold cz;rw[c9 h];simp only[jg,h1,Option.bind_some,h2,and_self,if_true,c9 h3,h4,Option.map_some,frR]
theorem gZ(h:m s=some (.ok xs s1))(h2:f s1.S xs=some (.ok r S')):j7 f m s=some (.ok r ⟨S',s1.t⟩):=by unfold j7;rw[c9 h,h2];rfl
def hZ:nLit d s=some 9089:=rfl
def aY:aj s=some (.ok [] s):=rfl
theorem iq(h:m s=some (.ok xs s1))(h1:mZ xs=some ds)(h2:f ds=some (d,false)):eY f m s=some (.ok (.pl d) s1):=by
 unfold eY;rw[c9 h];simp only[h1,h2,Option.bind_some];rfl
theorem bY(h0:xs.length=n)(h1:b ⟨S,xs.map some++List.replicate k none⟩=some o)(h2:retS S.length o=some w):fnS n k b S xs=some w:=by
 unfold fnS;rw[if_pos h0,h1];exact h2
end
theorem DD(h:fh n S=true)(I:some c∈S.take n):blC n c=true:=by
 exact(List.all_eq_true.mp h) _ I
theorem YR(h:∀d,c=some d->blC n d=true):gcC n c=c:=by
 cases c with
 |none=>rfl
 |some d=>simp only[gcC,h d rfl,if_true]
theorem Qx(h:fh S.length S=true):gcS S.length (S++X)=S:=by
 unfold gcS;rw[List.take_left];refine(List.map_congr_left λc a=>YR λd e=>?_).trans (List.map_id _)
 subst e;exact DD h (by rw[List.take_length];exact a)
theorem Jb(h:fh S.length S=true):fh S.length (S++X)=true:=by
 unfold fh at h⊢;rw[List.take_left];rw[List.take_length]at h;exact h
theorem ml(h:fh S.length S=true):fS S.length (S++X)=S:=by
 unfold fS;rw[if_pos<|Jb h,Qx h]
theorem ji(h:fh S.length S=true):fS S.length S=S:=by
 have:=ml (X:=[]) h
 rwa[zeQ]at this
theorem ir(h:fh S.length S=true)(I:blC S.length c=true):fh (S.set k<|some c).length (S.set k<|some c)=true:=by
 unfold fh at h⊢;rw[List.take_length]at h⊢;rw[zeL];refine List.all_eq_true.mpr λx hx=>?_
 rcases List.mem_or_eq_of_mem_set hx with hx|rfl
 .exact(List.all_eq_true.mp h) x hx
 .exact I
theorem zc(h:fh S.length S=true)(I:blC S.length c=true):fS S.length (S.set k<|some c)=S.set k (some c):=by
 have:=ji (ir h (k:=k) I)
 rwa[zeL]at this
theorem br{α:Type}{S X:List α}{j:Nat}{c : α}(h:S[j]?=some c):(S++X)[j]?=some c:=by
 rw[zew (zea h).1];exact h
def fY{α:Type}{S:List α}{c : α}:(S++[c])[S.length]?=some c:=List.getElem?_concat_length
theorem YS(h:∀y,x=some y->blV n y=true):gcV n x=x:=by
 cases x with
 |none=>rfl
 |some y=>simp only[gcV,h y rfl,if_true]
def MV(n:Nat)(t:List<|Option SV):Bool:=t.all λx=>match x with
 |some x=>blV n x
 |none=>true
def Qy(h:MV n t=true)(hx:some x∈t):blV n x=true:=(List.all_eq_true.mp h) _ hx
theorem YT(h:MV n t=true):gcT n t=t:=by
 refine(List.map_congr_left λc a=>YS λd e=>?_).trans (List.map_id _)
 subst e;exact Qy h a
theorem Sb(h:MV n t=true)(kp:List Nat):kp.all (Uz n t)=true:=by
 refine List.all_eq_true.mpr λi _=>?_
 unfold Uz;split
 .rename_i x hx;exact Qy h (zeh hx)
 .rfl
theorem YU(h:fh S.length S=true)(I:MV S.length t=true):gcE S.length kp ⟨S++X,t⟩=⟨S,t⟩:=by
 unfold gcE;rw[Jb h,Sb I,Bool.and_true,if_pos rfl];unfold gc;rw[Qx h,YT I]
theorem lg(h:S[j]?=some (some<|.dat d)):rdV S (.lc j)=some d:=by simp only[rdV,h]
theorem zdf:rdV S (.pl d)=some d:=by simp only[rdV]
theorem xr(h:S[j]?=some (some<|.dat d)):rdC S (.lc j)=some d:=by simp only[rdC,h]
def sX:rdC S (.pl d)=some d:=rfl
theorem pj{k:Nat}{x:SV}{d:D}(h:s.t[k]?=some (some x))(e:rdV s.S x=some d):(vw s)[k]?=some (.fz d):=by
 unfold vw;rw[zem,h];simp only[Option.map_some,Rz,e]
def dh{k:Nat}{d:D}(h:s.t[k]?=some (some<|.pl d)):(vw s)[k]?=some (.fz d):=pj h zdf
theorem OT{k:Nat}{d:D}(h:s.t[k]?=some (some<|.pl d)):(vwC s)[k]?=some (.fz d):=by
 unfold vwC;rw[zem,h];rfl
theorem vh{m:PM}{d:D}{L:Rho}(h:m (vw s)=some ((d,.fz),L))(I:pf d=true):nO m s=some 9089:=by
 unfold nO;rw[h,zeg];dsimp only;rw[if_pos I]
def sY(h:IE m (vw s) i):nO m s=some (.ok (.pl<|.int i) s):=vh h rfl
theorem w4{m:PM}{d:D}{L:Rho}(h:m (vw s)=some ((d,.new),L))(I:mX d true=true):nO m s=some (.ok (.lc s.S.length) ⟨s.S++[some<|.dat d],s.t⟩):=by
 unfold nO;rw[h,zeg];dsimp only;rw[if_pos I];rfl
theorem c7(h:m (vw s)=some (b,L)):nTo m s=some (.ok b s):=by unfold nTo;rw[h];rfl
theorem uf(h1:a s=some (.ok x s1))(h2:b s1=some (.ok y s2))(h3:rdC s2.S x=some c)(h4:rdC s2.S y=some d)(I:g c d=some (e,false)):nOp g a b s=some (.ok (.pl e) s2):=by
 unfold nOp;rw[c9 h1,c9 h2];simp only[h3,h4,I,Option.bind_some];rfl
theorem iz(h1:a s=some (.ok x s1))(h2:b s1=some (.ok (.pl<|.int i) s2))(h3:ixV s2.S x i=some y):nIx a b s=some (.ok y s2):=by
 unfold nIx;rw[c9 h1,c9 h2];simp only[h3,Option.map_some]
theorem mm(h:m s=some (.ok xs s1))(h1:F8 s1.S xs=some ds)(h2:g ds=some (d,false)):nCB g m s=some (.ok (.pl d) s1):=by
 unfold nCB;rw[c9 h];simp only[h1,h2,Option.bind_some];rfl
theorem VG{s s1:SS}{xs:List SV}{ds:List D}{l:List D}(h:m s=some (.ok xs s1))(h1:F8 s1.S xs=some ds)(h2:g ds=some (.list l,true)):nCB g m s=some (.ok (.lc s1.S.length) ⟨s1.S++[some<|.dat<|.list l],s1.t⟩):=by
 unfold nCB;rw[c9 h];simp only[h1,h2,Option.bind_some];rfl
theorem Jc:m5 aj s=some (.ok (.lc s.S.length) ⟨s.S++[some<|.dat<|.list []],s.t⟩):=by
 unfold m5;rw[c9<|rfl,bg<|show([]:List SV).length<=sizeLine from Nat.zero_le _];rfl
theorem zb6{c:Rho->Option (Bool×Rho)}{e:PM}{s s1:SS}{x:SV}{ds I:List D}(h:a s=some (.ok x s1))(h1:rdV s1.S x=some (.list ds))(h2:u9 c e (fr.map λp=>iY (vw s1) p.2) ds=some I)(h3:I.length<=100000)(h4:ej I=true):nLC fr a c e s=some (.ok (.lc s1.S.length) ⟨s1.S++[some<|.dat<|.list I],s1.t⟩):=by
 unfold nLC;rw[c9 h];simp only[h1,Option.bind_some,asL,h2,bg<|AI h3,h4,if_true];rfl
theorem Au(h:m s=some (.ok xs s1))(h1:mZ xs=some ds)(h2:xs.length<=100):lZ m s=some (.ok (.pl<|.tuple ds) s1):=by
 unfold lZ;rw[c9 h,bg<|AH (by lia)]
 simp only[mkT,h1]
theorem Fq{s s1 s2:SS}{k:Nat}{ds:List D}{d:D}{I:List D}(h:a s=some (.ok (.lc k) s1))(h0:s1.S[k]?=some (some<|.dat<|.list I))(h1:m s1=some (.ok [.pl d] s2))(h2:s2.S[k]?=some (some<|.dat<|.list ds))(h3:ds.length<=100000):Hx a m s=some (.ok (.pl .none) ⟨s2.S.set k<|some<|.dat<|.list<|ds++[d],s2.t⟩):=by
 unfold Hx LN;rw[c9 h];simp only[LM,h0,if_true];rw[c9 h1];simp only[XX,h2,bg<|AI h3]
theorem MW:qY n kp (λ_=>True) g b [] s=some (.nx s):=by unfold qY;rw[bg trivial]
theorem lh(h1:g d s=some (.nx s1))(h2:b s1=some (.nx s2))(h3:gcE n kp s2=I)(h4:qY n kp (λ_=>True) g b ds I=o):qY n kp (λ_=>True) g b (d::ds) s=o:=by
 unfold qY;rw[bg trivial,h1];dsimp only;rw[h2];dsimp only;rw[h3];exact h4
theorem Qz(h1:it (vwC s)=some (ds,L))(h2:qY s.S.length kp (λ_=>True) g b (ds.map .pl) s=o):RB kp it g b s=o:=by unfold RB;rw[h1,zeg];exact h2
theorem w8(h:i<s.t.length):ngN i x s=some (.nx ⟨s.S,s.t.set i<|some x⟩):=by unfold ngN;rw[if_pos h]
theorem Cm(h:fh S.length S=true)(I:MV S.length t=true):gcE S.length kp ⟨S,t⟩=⟨S,t⟩:=by
 have:=YU (X:=[]) (kp:=kp) h I
 rwa[zeQ]at this
theorem dX(h:f S xs=some (.ok r S')):fq f S xs=some (.ok r S'):=by unfold fq;rw[h]
structure Ent where
 w:Str
 s:Int
 p:Int
 a:Int
 b:Int
def eD(e:Ent):D:=.tuple [.str e.w,.int e.s,.int e.p,.int e.a,.int e.b]
def rD(l:List Ent):D:=.list (l.map eD)
def bu(l:List Ent):Int:=(l.getLast?.map (·.b)).getD 0
structure Led(ca:CA)(S:List<|Option Cl)(i j:Nat)(l:List Ent):Prop where
 o:S[i]?=some (some<|.obj ca.bo [("rows",.lc j)])
 r:S[j]?=some (some<|.dat<|rD l)
 w:fh S.length S=true
 z:l.length<=100
 k:∀e∈l,PyData.strOk e.w=true
theorem zd:∀l:List Ent,(∀e∈l,PyData.strOk e.w=true)->PyData.canLayAll0 (l.map eD)=true
 | [],_=>rfl
 |e::l,h=>by
  rw[zey];simp only[PyData.canLayAll0,zd l λx hx=>h x<|List.mem_cons_of_mem _ hx,eD,PyData.canLay0,Bool.and_true,h e List.mem_cons_self]
theorem GU(l:List Ent):(rD l).depth<=3:=by
 unfold rD;have h:∀l:List Ent,PyData.depthAll (l.map eD)<=2:=by
  intro l
  induction l with
  |nil=>simp[PyData.depthAll]
  |cons e l a=>
   rw[zey];simp only[PyData.depthAll,eD,PyData.depth]
   lia
 simp only[PyData.depth];have:=h l
 lia
theorem js(l:List Ent)(hk:∀e∈l,PyData.strOk e.w=true):SeqAt.shaped (rD l)=true:=by
 unfold SeqAt.shaped;have h:=GU l;rw[zeG (by lia),Bool.and_true]
 simp only[rD,PyData.canLay0,zd l hk]
theorem YV(l:List Ent)(hk:∀e∈l,PyData.strOk e.w=true):gEq (rD l) (.list [])=some (.bool l.isEmpty,false):=by
 unfold gEq;rw[if_pos ⟨js l hk,js [] λe a=>by cases a⟩]
 cases l with
 |nil=>rfl
 |cons e l=>simp only[rD,List.map_cons,PyData.eqv,PyData.eqvAll,List.isEmpty_cons]
def QA(l:List Ent)(hk:∀e∈l,PyData.strOk e.w=true):PyData.eqv (rD l) (rD l)=true:=SeqAt.eqv_refl _ (SeqAt.canLay_of_shaped<|js l hk)
section
variable{ca:CA}{S:List<|Option Cl}{i j:Nat}{l:List Ent}
def VH(h:Led ca S i j l)(I:t[0]?=some (some<|.lc i)):cg ca.bo (aq 0) "rows" ⟨S++X,t⟩=some (.ok (.lc j) ⟨S++X,t⟩) :=
 vg (ar I) (br h.o) rfl
def Av(h:Led ca S i j l)(I:t[0]?=some (some<|.lc i)):cg ca.bo (aq 0) "rows" ⟨S,t⟩=some (.ok (.lc j) ⟨S,t⟩) :=
 vg (ar I) h.o rfl
theorem OU(h:Led ca S i j l):jw ca S [.lc i]=some (.ok 9117<|S++[some<|.dat<|rD l]):=by
 refine bY rfl (o:=.rt 9117 ⟨S++[some<|.dat<|rD l],9090⟩) (bt ?_) ?_
 .exact VG (ds:=[rD l]) (ak (Av h rfl) aY) (by simp only[F8,xr h.r,Option.bind_some,Option.map_some]) rfl
 .simp only[retS,blV,Nat.lt_irrefl,decide_false,Bool.false_eq_true,if_false]
theorem DE(h:Led ca S i j l):c8 ca S [.lc i]=some (.ok (.pl<|.int<|bu l) S):=by
 have t1:ph (nOp gEq (cg ca.bo (aq 0) "rows")<|m5 aj) ⟨S,9090⟩=some (.ok l.isEmpty ⟨S++[some<|.dat<|.list []],9090⟩) :=
  kc (uf (Av h rfl) Jc (xr<|br h.r) (xr fY)<|YV l h.k)
 cases l with
 |nil=>
  refine bY rfl (eu<|jh t1 rfl) ?_;simp only[retS,blV,if_true,ml h.w];rfl
 |cons e l=>
  obtain⟨q,f,a⟩:∃q f,e::l=q++[f]:=⟨(e::l).dropLast,(e::l).getLast (by simp),(List.dropLast_concat_getLast (by simp)).symm⟩
  rw[a]at h⊢;have c:L2.atI ((q++[f]).map eD) (-1)=some (eD f):=by rw[Mir.FA,ze0];simp
  refine bY rfl (o:=.rt (.pl<|.int f.b) ⟨S++[some<|.dat<|.list []],9090⟩) (ag (bh t1 rfl)<|bt ?_) ?_
  .refine iz (x:=.pl<|eD f) (iz (VH h rfl) (sY<|Dg de) ?_) rfl rfl
   simp only[ixV,br h.r,rD,c,Option.map_some]
  .simp only[retS,blV,if_true,ml h.w]
   simp[bu]
theorem VI(I:b=df (nCB N7<|aa (nLC [] (cg ca.bo (aq 0) "rows") Hs e) aj))(ρ:∀x:Ent,∃L,sv e [.fz<|eD x]=some ((.int<|g x,.fz),L))(h:Led ca S i j l):fnS 1 0 b S [.lc i]=some (.ok (.pl<|.int (l.map g).sum) S):=by
 subst I;refine bY rfl (o:=.rt (.pl<|.int (l.map g).sum) ⟨S++[some<|.dat<|.list<|(l.map g).map .int],9090⟩) (bt ?_) ?_
 .refine mm (ak (zb6 (Av h rfl) (lg h.r) ?_ (by have:=h.z;simp;lia) (sd _)) aY) ?_ (ID _)
  .rw[List.map_map]
   exact va l λx _=>ρ x
  .simp only[F8,xr fY,Option.bind_some,Option.map_some]
 .simp only[retS,blV,if_true,ml h.w]
def VJ(h:Led ca S i j l):i0 ca S [.lc i]=some (.ok (.pl (.int (l.map (·.p)).sum)) S):=VI rfl (λx=>⟨_,rfl⟩) h
def QB(h:Led ca S i j l):hX ca S [.lc i]=some (.ok (.pl (.int (l.map (·.s)).sum)) S):=VI rfl (λx=>⟨_,rfl⟩) h
theorem VL(h:Led ca S i j l):md ca S [.lc i]=some (.ok (.pl (.int ((l.map (·.p)).sum-(l.map (·.s)).sum-bu l))) S):=by
 refine bY rfl (o:=.rt (.pl (.int ((l.map (·.p)).sum-(l.map (·.s)).sum-bu l))) ⟨S,9090⟩) (bt ?_) ?_
 .have a:cz ca.bo "due" (fq<|i0 ca) [] (aq 0) aj ⟨S,9090⟩=some (.ok (.pl (.int (l.map (·.p)).sum)) ⟨S,9090⟩):=cv (ar rfl) h.o rfl aY (dX<|VJ h)
  have b:cz ca.bo "paid" (fq<|hX ca) [] (aq 0) aj ⟨S,9090⟩=some (.ok (.pl (.int (l.map (·.s)).sum)) ⟨S,9090⟩):=cv (ar rfl) h.o rfl aY (dX<|QB h)
  have c:cz ca.bo "credit" (fq<|c8 ca) [] (aq 0) aj ⟨S,9090⟩=some (.ok (.pl<|.int<|bu l) ⟨S,9090⟩):=cv (ar rfl) h.o rfl aY (dX<|DE h);exact uf (uf a b sX sX rfl) c sX sX rfl
 .simp only[retS,blV,if_true,ji h.w]
end
theorem count_is(i:Int)(h : 0<=i):wV [.int i]=some 9012:=by
 refine ef (o:=.rt (.bool true,.fz) [.fz<|.int i]) rfl (cj ?_) rfl;have a:BE (Ey "int"<|af 0) [.fz<|.int i] true:=F5 9007 (D6 i);have b:BE (Ey "bool"<|af 0) [.fz<|.int i] false:=F5 9007 (BY i);exact Og a (λ_=>Og (zbq b) (λ_=>(zcL (bq rfl) de).is<|zeG h) λz=>by cases z) (λz=>by cases z)
section
variable{ca:CA}{S:List<|Option Cl}{i j:Nat}{l:List Ent}
def Led.lti(h:Led ca S i j l):i<S.length:=(zea h.o).1
def Led.ltj(h:Led ca S i j l):j<S.length:=(zea h.r).1
theorem VM(h:Led ca S i j l)(w:Str)(s p b:Int)(c:D)(O : 0<=s)(M : 0<=p)(I : 0<=b)(ρ:c=.int b\/(c=.none/\b=bu l))(le:s+b<=bu l+p) :
  mh ca S [.lc i,.pl<|.str w,.pl<|.int s,.pl<|.int p,.pl c]=some (.ok (.pl .none)<|S.set j<|some<|.dat<|rD<|l++[⟨w,s,p,bu l,b⟩]):=by
 have lti:=h.lti
 let T (x:Option SV) (y:Option SV):List (Option SV):=[some<|.lc i,some<|.pl<|.str w,some<|.pl<|.int s,some<|.pl<|.int p,some<|.pl c,some<|.pl<|.int<|bu l,some<|.pl<|.int b,x,y]
 have a:cz ca.bo "credit" (fq<|c8 ca) [] (aq 0) aj ⟨S,9079⟩=some (.ok (.pl<|.int<|bu l) ⟨S,9079⟩):=cv (ar rfl) h.o rfl aY (dX<|DE h);have e:nO (Ln (az<|mOp gIs (af 4)<|mC .none) (af 5)<|af 4) ⟨S,9062⟩=some (.ok (.pl<|.int b) ⟨S,9062⟩):=by
  refine sY ?_;rcases ρ with rfl|⟨rfl,rfl⟩
  .exact zcN (test_ev (k:=.fz)<|bc (d0:=9026) 9041 (ah rfl) rfl) (ax<|dh rfl)
  .exact zcM (test_ev (k:=.fz)<|bc (d0:=9012) 9041 (ah rfl) rfl) (ax<|dh rfl)
 have low:∀x:Option SV,(x=none\/∃d,x=some (.pl d))->MV S.length (T x none)=true:=λx hx=>by
  rcases hx with rfl|⟨d,rfl⟩<;>simp[T,MV,blV,lti]
 have turn:∀(x:Option SV) (v:Int),0<=v->nc ca ⟨S,T (some<|.pl<|.int v) none⟩=some (.nx ⟨S,T (some<|.pl<|.int v) none⟩):=λx v hv=>by
  refine bh (c7 (L:=vw ⟨S,T (some<|.pl<|.int v) none⟩) ?_) rfl;exact wa ((B0 (IC 9056 aX)<|count_is v hv).t)
 have loop:RB [0,1,2,3,4,5,6,8] (Xj<|gy<|ae (af 2)<|ae (af 3)<|ae (af 6) ao) (ngN 7) (nc ca) ⟨S,T none none⟩=some (.nx ⟨S,T 9073 none⟩):=by
  refine Qz (ds:=[.int s,.int p,.int b]) (L:=vwC ⟨S,T none none⟩) ?_ ?_
  .have q:gy (ae (af 2)<|ae (af 3)<|ae (af 6) ao) (vwC ⟨S,T none none⟩)=some ((.tuple [.int s,.int p,.int b],.fz),vwC ⟨S,T none none⟩) :=
    g7 (IC (bq<|OT rfl)<|IC (bq<|OT rfl)<|IC (bq<|OT rfl) aX) rfl (by simp)
   unfold Xj;rw[ah q];rfl
  .refine lh (w8 (by simp[T])) (turn none s O) (Cm h.w<|low _<|.inr ⟨_,rfl⟩) ?_
   refine lh (w8 (by simp[T])) (turn none p M) (Cm h.w<|low _<|.inr ⟨_,rfl⟩) ?_
   refine lh (w8 (by simp[T])) (turn none b I) (Cm h.w<|low _<|.inr ⟨_,rfl⟩) ?_
   exact MW
 have f:nO (mOp ql (mOp ql (mOp fe (af 2)<|af 6)<|af 5)<|af 3) ⟨S,T 9073 none⟩=some (.ok (.pl<|.int<|s+b-bu l-p) ⟨S,T 9073 none⟩) :=
  sY (t9 (t9 (Of 9056<|bq<|dh rfl)<|bq<|dh rfl)<|bq<|dh rfl)
 have g:nTo (az<|mOp gGt (af 8)<|mC<|.int 0) ⟨S,T 9073<|some<|.pl<|.int<|s+b-bu l-p⟩=some (.ok false ⟨S,T 9073<|some<|.pl<|.int<|s+b-bu l-p⟩) :=
  c7 (o4 (qz 9056 de)<|zeN (by lia))
 refine bY rfl (o:=.nx ⟨S.set j<|some<|.dat<|rD<|l++[⟨w,s,p,bu l,b⟩],T 9073<|some<|.pl<|.int<|s+b-bu l-p⟩) ?_ ?_
 .refine ag (bZ a (by simp)) (ag (bZ e (by simp))<|ag loop<|ag (bZ f (by simp[T]))<|ag (bh g rfl)<|ka (x:=.pl .none) ?_)
  have m:lZ (aa (aq 1)<|aa (aq 2)<|aa (aq 3)<|aa (aq 5)<|aa (aq 6) aj) ⟨S,T 9073<|some<|.pl<|.int<|s+b-bu l-p⟩=some (.ok (.pl<|eD ⟨w,s,p,bu l,b⟩) ⟨S,T 9073<|some<|.pl<|.int<|s+b-bu l-p⟩) :=
   Au (ak (ar rfl)<|ak (ar rfl)<|ak (ar rfl)<|ak (ar rfl)<|ak (ar rfl) aY) rfl (by simp)
  have n:=Fq (Av h rfl) h.r (ak m aY) h.r (by have:=h.z;simp;lia)
  refine n.trans ?_;simp only[rD,List.map_append,List.map_cons,List.map_nil]
 .simp only[retS]
  rw[zc h.w rfl]
theorem Led.enter(h:Led ca S i j l)(e:Ent)(I:PyData.strOk e.w=true)(hz:l.length<100)(ij:i≠j):Led ca (S.set j<|some<|.dat<|rD<|l++[e]) i j (l++[e]):=by
 refine⟨?_,?_,ir h.w rfl,by simp;lia,λx hx=>?_⟩
 .rw[zez<|Ne.symm ij];exact h.o
 .rw[zet h.ltj]
 .rcases zec hx with hx|hx
  .exact h.k x hx
  .simp only[List.mem_singleton]at hx;subst hx;exact I
end
theorem kr(h:n.natAbs<10^60):kZ [.int n]=some (.str<|ba n,false):=by
 show cIf _ _ _=_;rw[bg];have:n.natAbs<2^200:=Nat.lt_trans h (by decide)
 rcases Nat.eq_zero_or_pos n.natAbs with h0|h0
 .rw[h0];decide
 .have:=(Nat.log2_lt (by lia)).mpr this
  lia
theorem zf(h1:v s=some (.ok y s1))(h2:a s1=some (.ok (.lc k) s2))(h3:s2.S[k]?=some 9064)(h4:fs.length<1000):jZ C a v f s=some (.nx ⟨s2.S.set k<|some<|.obj C<|AJ f y fs,s2.t⟩):=by
 unfold jZ;rw[o3 h1,o3 h2];simp only[jg,h3,Option.bind_some,true_and];rw[if_pos h4]
def oB(C:Addr)(kd f:Str)(d:D):Cl:=.obj C [("kind",.pl<|.str kd),(f,.pl d)]
structure Obj(S:List<|Option Cl)(k:Nat)(C:Addr)(kd f:Str)(d:D):Prop where
 o:S[k]?=some (some<|oB C kd f d)
 w:fh S.length S=true
 n:f≠"kind"
section
variable{S:List<|Option Cl}{k:Nat}{C:Addr}{kd f:Str}{d:D}{t:List<|Option SV}
def Obj.lt(h:Obj S k C kd f d):k<S.length:=(zea h.o).1
theorem Obj.set(h:Obj S k C kd f d)(e:D):Obj (S.set k<|some<|oB C kd f e) k C kd f e:=⟨zet h.lt,ir h.w rfl,h.n⟩
theorem Obj.fld(h:Obj S k C kd f d)(I:t[0]?=some (some<|.lc k)):cg C (aq 0) f ⟨S,t⟩=some (.ok (.pl d) ⟨S,t⟩) :=
 vg (ar I) h.o (by
  have:=h.n;simp[List.lookup,beq_eq_false_iff_ne.mpr this])
theorem Obj.put(h:Obj S k C kd f d)(I:t[0]?=some (some<|.lc k))(hv:v ⟨S,t⟩=some (.ok (.pl e) ⟨S,t⟩)):jZ C (aq 0) v f ⟨S,t⟩=some (.nx ⟨S.set k<|some<|oB C kd f e,t⟩):=by
 rw[zf hv (ar I) h.o (by simp)]
 have:=h.n;simp[AJ,oB,Ne.symm this]
theorem Obj.ret(h:Obj S k C kd f d)(e x:D):retS S.length (.rt (.pl x) ⟨S.set k<|some<|oB C kd f e,t⟩)=some (.ok (.pl x)<|S.set k<|some<|oB C kd f e):=by
 simp only[retS,blV,if_true,zc h.w<|show blC S.length (oB C kd f e)=true from rfl]
end
def qe(z:Str)(s p:Int):D:=.tuple [.str z,.int s,.int p]
theorem C2(h1:a s=some (.ok (.pl<|.str z) s))(h2:b s=some (.ok (.pl<|.int i) s))(h3:c s=some (.ok (.pl<|.int j) s)):lZ (aa a<|aa b<|aa c aj) s=some (.ok (.pl<|qe z i j) s):=Au (ak h1<|ak h2<|ak h3 aY) rfl (by simp)
theorem uV{j k:Nat}{ds:List D}{l:List D}(I:t[j]?=some (some<|.pl<|.tuple ds))(hd:atI ds (k:Int)=some (.list l)):nO (mCB dj<|ae (mOp gIx (af j)<|mC<|.int (k:Int)) ao) ⟨S,t⟩=some (.ok (.pl<|.int 9087) ⟨S,t⟩) :=
 sY (gz (d0:=(.int 9087,false)) (au (ah<|bc (d0:=(.list l,false)) (ah<|ax<|dh I) rfl (by show(atI ds (k:Int)).map _=_;rw[hd];rfl)) aX) rfl)
section
variable{ca:CA}{S:List<|Option Cl}{k:Nat}{W:SV}
theorem YW(h:Obj S k ca.iZ "bits" "row"<|.list<|r.map .int)(I:r.length<=1000)(hw:(Ctr.worth<|Ctr.up r).natAbs<10^60) :
  Dw ca S [.lc k,W]=some (.ok (.pl<|qe (ba<|Ctr.worth<|Ctr.up r) ((Ctr.lead r+1:Nat):Int) 2)<|S.set k<|some<|oB ca.iZ "bits" "row"<|.list<|(Ctr.up r).map .int):=by
 let T:D:=.tuple 9057
 have h2:=h.set (.list<|(Ctr.up r).map .int);refine bY rfl (o:=.rt (.pl _) ⟨S.set k<|some<|oB ca.iZ "bits" "row"<|.list<|(Ctr.up r).map .int,9096⟩) ?_ (h.ret _ _);refine ag (bZ (iq 9029 rfl<|Vo r (by lia)) (by simp)) ?_
 refine ag (h.put rfl<|iz (ar rfl) rfl rfl) (bt<|C2 ?_ ?_ rfl)
 .exact mm (ak (iq (ak (h2.fld rfl) aY) rfl<|Ce _) aY) rfl (kr hw)
 .have:=uV (S:=S.set k<|some<|oB ca.iZ "bits" "row"<|.list<|(Ctr.up r).map .int) (t:=9096) (j:=2) (k:=1) rfl rfl
  rwa[zej,Ar]at this
theorem VN(h:n.natAbs<10^60):gY [.str<|ba n]=some (.int n,false):=by
 refine ef rfl (bj (yc (wa<|(B0 (au 9007 aX)<|IZ h).t) rfl)<|cj<|gz (d0:=(.int n,false)) (au 9007 aX) ?_) rfl;show cIf _ _ _=_;rw[bg (zeW (fX h) (by decide)),Txs.Qf<|Nat.lt_trans h (by decide)]
 rfl
theorem gj(hx:s.t[v]?=some (some x))(ρ:rdV s.S x=some (.list<|(w::ws).map .str))(ok:PyData.strOk w=true)(y:Str)(M:PyData.strOk y=true)(I:decide (w=y)=b):nTo (az<|mOp gEq (mOp gIx (af v)<|mC<|.int 0)<|mC<|.str y) s=some (.ok b s):=by
 subst I;exact c7 (test_ev (k:=.fz)<|bc (r:=(.str y,.fz)) (ah<|bc (d0:=(.str w,false)) (ah<|ax<|pj hx ρ) rfl (by show(atI (PyData.str w::ws.map PyData.str) 0).map _=_;rw[oo];rfl)) rfl<|Ci ok M)
def Kf(hx:s.t[1]?=some (some x))(I:rdV s.S x=some (.list [.str w,.str<|ba n]))(h:n.natAbs<10^60):nO (dz gY<|ae 9019 ao) s=some (.ok (.pl<|.int n) s) :=
 sY (PL (au (ah<|bc (d0:=(.str<|ba n,false)) (ah<|ax<|pj hx I) rfl rfl) aX)<|VN h)
theorem VO(h:c s=some (.ok true s'))(h2:a s'=r):LK c a b s=r:=by unfold LK;rw[c9 h,if_pos rfl];exact h2
theorem VP(h:c s=some (.ok false s'))(h2:b s'=r):LK c a b s=r:=by unfold LK;rw[c9 h,if_neg zek];exact h2
def mvb:Bool->Int
 |true=>1
 |false=>-1
def wUD:Bool->Str
 |true=>"up"
 |false=>"down"
theorem YX(u:Bool)(h:Obj S k ca.cu "figures" "row"<|.list<|r.map .int)(hx:rdV S W=some (.list<|(wUD u::ρ).map .str))(I:r.length<=1000)(hw:(Ctr.worth<|Fig.moved (mvb u) r).natAbs<10^60) :
  wq ca S [.lc k,W]=some (.ok (.pl<|qe (ba<|Ctr.worth<|Fig.moved (mvb u) r) ((Fig.lead (mvb u) r+1:Nat):Int) 2)<|S.set k<|some<|oB ca.cu "figures" "row"<|.list<|(Fig.moved (mvb u) r).map .int):=by
 let T:D:=.tuple [.list<|(Fig.moved (mvb u) r).map .int,.list<|(rng<|Fig.lead (mvb u) r+1).map .int]
 have h2:=h.set (.list<|(Fig.moved (mvb u) r).map .int);refine bY rfl (o:=.rt (.pl _) ⟨S.set k<|some<|oB ca.cu "figures" "row"<|.list<|(Fig.moved (mvb u) r).map .int,9096⟩) ?_ (h.ret _ _);refine ag (bZ (x:=.pl T) (s':=⟨S,[some<|.lc k,some W,none]⟩) ?_ (by simp)) ?_
 .cases u with
  |true=>exact VO (gj rfl hx (by decide+kernel) _ (by decide+kernel) (by decide+kernel)) (iq 9029 rfl<|zdb r (by lia))
  |false=>exact VP (gj rfl hx (by decide+kernel) _ (by decide+kernel) (by decide+kernel)) (iq 9029 rfl<|YB r (by lia))
 refine ag (h.put rfl<|iz (ar rfl) rfl rfl) (bt<|C2 ?_ ?_ rfl)
 .exact mm (ak (iq (ak (h2.fld rfl) aY) rfl<|R7 _) aY) rfl (kr hw)
 .have:=uV (S:=S.set k<|some<|oB ca.cu "figures" "row"<|.list<|(Fig.moved (mvb u) r).map .int) (t:=9096) (j:=2) (k:=1) rfl rfl
  rwa[zej,Ar]at this
theorem OV{s s1:SS}{xs:List SV}{ds:List D}{l:List D}(h:m s=some (.ok xs s1))(h1:mZ xs=some ds)(h2:f ds=some (.list l,true)):eY f m s=some (.ok (.lc s1.S.length) ⟨s1.S++[some<|.dat<|.list l],s1.t⟩):=by
 unfold eY;rw[c9 h];simp only[h1,h2,Option.bind_some];rfl
theorem Aw(h:m s=some (.ok xs s1))(h1:mZ xs=some ds)(h2:f ds=some (.inl (d,false))):wm f m s=some (.ok (.pl d) s1):=by
 unfold wm;rw[c9 h];simp only[h1,h2,Option.bind_some];rfl
theorem Ax(h:m s=some (.ok xs s1))(h1:mZ xs=some ds)(h2:f ds=some (.inr c)):wm f m s=some (.er ⟨c,none⟩ s1):=by
 unfold wm;rw[c9 h];simp only[h1,h2,Option.bind_some]
theorem ZT{k : α->MN I}{s s':SS}{x:Xc}(h:m s=some (.er x s')):bN m k s=some (.er x s'):=by unfold bN;rw[h]
theorem VQ{k : α->SN}{s s':SS}{x:Xc}(h:m s=some (.er x s')):bS m k s=some (.er x s'):=by unfold bS;rw[h]
def Kg(h:a s=some (.er x s')):dW a g s=some (.er x s'):=VQ h
def Kh(h:a s=some (.er x s')):df a s=some (.er x s'):=VQ h
theorem Cn(h:a s=some (.er x s')):a6 a b s=some (.er x s'):=by unfold a6;rw[h]
theorem QC(h1:a s=some (.ok (.pl<|.str z) s1))(h2:b s1=some (.ok (.pl<|.int i) s1))(h3:c s1=some (.ok (.pl<|.int j) s1)):lZ (aa a<|aa b<|aa c aj) s=some (.ok (.pl<|qe z i j) s1):=Au (ak h1<|ak h2<|ak h3 aY) rfl (by simp)
theorem Obj.zdg(h:Obj S k C kd f d)(e x:D):retS S.length (.rt (.pl x) ⟨S.set k (some<|oB C kd f e)++X,t⟩)=some (.ok (.pl x)<|S.set k<|some<|oB C kd f e):=by
 have h2:=(h.set e).w;have a:=ml (X:=X) h2;rw[zeL]at a;simp only[retS,blV,if_true,a]
theorem Obj.rer(h:Obj S k C kd f d)(x:Xc):retS S.length (.er x ⟨S,t⟩)=some (.er x S):=by
 simp only[retS,ji h.w]
theorem Jd{a:EN}{d:D}{l:List D}(h:a s=some 9089)(I:g [d]=some (.list l,true))(ρ:(l.length:Nat)<10^60):nCB kZ (aa (nCB dj<|aa (eY g<|aa a aj) aj) aj) s=some (.ok (.pl<|.str<|ba 9087) ⟨s.S++[some<|.dat<|.list l],s.t⟩) :=
 mm (ak (mm (ds:=[.list l]) (ak (OV (ak h aY) rfl I) aY) (by simp only[F8,xr fY,Option.bind_some,Option.map_some]) rfl) aY) rfl (kr (by rw[Int.natAbs_natCast];exact ρ))
theorem GV(h:n<=100000):n<10^60:=Nat.lt_of_le_of_lt h (by decide)
theorem Sd(h:Obj S k ca.Queue "queue" "queue"<|Qd f b)(hx:rdV S W=some (.list [.str "put",.str<|ba n]))(hn:n.natAbs<10^60)(hz:f.length+b.length<=1000) :
  q0 ca S [.lc k,W]=some (.ok (.pl<|qe (ba ((f.length+b.length+1:Nat):Int)) 1 2)<|S.set k<|some<|oB ca.Queue "queue" "queue"<|Qd f<|b++[.int n]):=by
 let T:D:=.tuple [Qd f<|b++[.int n],.list [.str "laid"]]
 have h2:=h.set (Qd f<|b++[.int n]);have i:=h.zdg (X:=[some<|.dat<|.list<|f.reverse++(b++[.int n])]) (t:=9076) (Qd f<|b++[.int n]) (qe (ba ((f.length+b.length+1:Nat):Int)) 1 2);have d:=h.put (v:=nIx (aq 2)<|nLit<|.int 0) (t:=9076) rfl (iz (ar rfl) rfl rfl);have ll:(f.reverse++(b++[PyData.int n])).length=f.length+b.length+1:=by simp;lia
 refine bY rfl ?_ i;refine eu (jh (gj (ws:=[ba n]) rfl hx (by decide+kernel) _ (by decide+kernel) (by decide+kernel))<|ag (bZ (iq (ak (h.fld rfl)<|ak (Kf rfl hx hn) aY) rfl<|YE f b (.int n) (by lia)) (by simp)) ?_)
 refine ag d (bt<|QC ?_ ?_ rfl)
 .have g:=YD f (b++[.int n]) (by simp;lia)
  have a:=h2.fld (t:=9076) rfl;have c:(f.reverse++(b++[PyData.int n])).length<10^60:=by rw[ll];exact GV (by lia)
  have:=Jd a g c;rw[ll]at this;exact this
 .exact uV (l:=[.str "laid"]) rfl rfl
theorem QT{j:Nat}{n:Int}{ds:List D}(I:t[j]?=some (some<|.pl<|.tuple (.int n::ds)))(hn:n.natAbs<10^60):nO (mCB kZ<|ae (mOp gIx (af j)<|mC<|.int 0) ao) ⟨S,t⟩=some (.ok (.pl<|.str<|ba n) ⟨S,t⟩) :=
 vh (gz (au (ah<|bc (d0:=(.int n,false)) (ah<|ax<|dh I) rfl (by show(atI (PyData.int n::ds) 0).map _=_;rw[oo];rfl)) aX)<|kr hn) rfl
theorem OW(hn:n.natAbs<10^60)(hz:f.length+b.length<=1000)(M:f.reverse++b=.int n::p) :
  ∃(ρ I:List D) (st:Nat),ρ.reverse++I=p/\st+I.length=b.length+1/\ρ.length+I.length<=f.length+b.length/\∀(S:List<|Option Cl) (k:Nat) (W:SV),Obj S k ca.Queue "queue" "queue" (Qd f b)->rdV S W=some (.list [.str "take"])->q0 ca S [.lc k,W]=some (.ok (.pl<|qe (ba n) (st:Int) 1)<|S.set k<|some<|oB ca.Queue "queue" "queue"<|Qd ρ I):=by
 obtain⟨ρ,I,st,h1,h3,h4,a⟩:=Vs f b (.int n) p M (by lia)
 refine⟨ρ,I,st.length,h1,h3,h4,λS k W h hx=>?_⟩
 let T:D:=.tuple [.int n,Qd ρ I,.list st]
 refine bY rfl (o:=.rt (.pl _) ⟨S.set k<|some<|oB ca.Queue "queue" "queue"<|Qd ρ I,[some<|.lc k,some W,none,some<|.pl T]⟩) ?_ (h.ret _ _);refine ag (bh (gj (ws:=[]) rfl hx (by decide+kernel) _ (by decide+kernel) (by decide+kernel)) rfl) (ag (bZ (Aw 9029 rfl a) (by simp)) ?_)
 fail "qe"
theorem OX(h:Obj S k ca.Queue "queue" "queue"<|Qd [] [])(hx:rdV S W=some (.list [.str "take"])):q0 ca S [.lc k,W]=some (.er ⟨"Empty",none⟩ S):=by
 refine bY rfl (o:=.er ⟨"Empty",none⟩ ⟨S,9030⟩) ?_ (h.rer _);exact ag (bh (gj (ws:=[]) rfl hx (by decide+kernel) _ (by decide+kernel) (by decide+kernel)) rfl) (Cn<|Kg<|Ax 9029 rfl Vt)
theorem VR(h:Obj S k ca.cn "room" "room"<|Rm I s)(hx:rdV S W=some (.list [.str "put",.str<|ba n]))(hn:n.natAbs<10^60)(hz:I.length<=1000) :
  ve ca S [.lc k,W]=some (.ok (.pl<|qe (ba ((I.length+1:Nat):Int)) ((ups I.length s:Nat):Int) 3)<|S.set k<|some<|oB ca.cn "room" "room"<|Rm (I++[.int n])<|up I.length s):=by
 obtain⟨st,h1,b⟩:=YK I s (.int n) (by lia)
 rw[<-h1]
 let T:D:=.tuple [Rm (I++[.int n])<|up I.length s,.list st]
 have h2:=h.set (Rm (I++[.int n])<|up I.length s);refine bY rfl (o:=.rt (.pl _) ⟨S.set k<|some<|oB ca.cn "room" "room"<|Rm (I++[.int n])<|up I.length s,9076⟩) ?_ (h.ret _ _);refine eu (jh (gj (ws:=[ba n]) rfl hx (by decide+kernel) _ (by decide+kernel) (by decide+kernel))<|ag (bZ (iq (ak (h.fld rfl)<|ak (Kf rfl hx hn) aY) rfl b) (by simp)) ?_)
 refine ag (h.put rfl<|iz (ar rfl) rfl rfl) (bt<|C2 ?_ (uV rfl rfl) rfl);have a:((I++[PyData.int n]).length)=I.length+1:=by simp
 rw[<-a];exact mm (ak (mm (ak (iz (h2.fld rfl) rfl rfl) aY) rfl rfl) aY) rfl (kr (by rw[Int.natAbs_natCast,a];exact GV (by lia)))
theorem Se(h:Obj S k ca.cn "room" "room"<|Rm (fs++[.int n]) s)(hx:rdV S W=some (.list [.str "take"]))(hn:n.natAbs<10^60)(hz:fs.length<=1000) :
  ve ca S [.lc k,W]=some (.ok (.pl<|qe (ba n) ((dns fs.length s:Nat):Int) 2)<|S.set k<|some<|oB ca.cn "room" "room"<|Rm fs<|dn fs.length s):=by
 obtain⟨st,h1,a⟩:=VA fs (.int n) s (by lia)
 rw[<-h1]
 let T:D:=.tuple [.int n,Rm fs<|dn fs.length s,.list st]
 refine bY rfl (o:=.rt (.pl _) ⟨S.set k<|some<|oB ca.cn "room" "room"<|Rm fs<|dn fs.length s,[some<|.lc k,some W,none,some<|.pl T]⟩) ?_ (h.ret _ _);refine ag (bh (gj (ws:=[]) rfl hx (by decide+kernel) _ (by decide+kernel) (by decide+kernel)) rfl) (ag (bZ (Aw 9029 rfl a) (by simp)) ?_)
 fail "qe"
theorem Sf(h:Obj S k ca.cn "room" "room"<|Rm [] s)(hx:rdV S W=some (.list [.str "take"])):ve ca S [.lc k,W]=some (.er ⟨"Empty",none⟩ S):=by
 refine bY rfl (o:=.er ⟨"Empty",none⟩ ⟨S,9030⟩) ?_ (h.rer _);exact ag (bh (gj (ws:=[]) rfl hx (by decide+kernel) _ (by decide+kernel) (by decide+kernel)) rfl) (Cn<|Kg<|Ax 9029 rfl<|Vz s)
theorem GW{st:List D}{n:Int}(h:Obj S k ca.bW "double" "double"<|Qd l r)(hn:n.natAbs<10^60) :
  eZ ca S [.lc k,.pl<|.tuple [.int n,Qd I ρ,.list st]]=some (.ok (.pl<|qe (ba n) (st.length:Int) 2)<|S.set k<|some<|oB ca.bW "double" "double"<|Qd I ρ):=by
 let T:D:=.tuple [.int n,Qd I ρ,.list st]
 refine bY rfl (o:=.rt (.pl _) ⟨S.set k<|some<|oB ca.bW "double" "double"<|Qd I ρ,[some<|.lc k,some<|.pl T]⟩) ?_ (h.ret _ _)
 fail "qe"
theorem Je(h:a s=some (.ok (.lc k) s1))(h1:s1.S[k]?=some 9064)(h2:fs.lookup I=none)(h3:m s1=some (.er x s2)):cz C I f dv a m s=some (.er x s2):=by
 unfold cz;rw[c9 h];simp only[jg,h1,Option.bind_some,h2,and_self,if_true,ZT h3]
theorem Jf(h:a s=some (.er x s1)):aa a m s=some (.er x s1):=by unfold aa;rw[ZT h]
def wSP:Bool->Str
 |true=>"shift"
 |false=>"pop"
def wFL:Bool->Str
 |true=>"first"
 |false=>"last"
theorem MX(u:Bool)(hn:n.natAbs<10^60)(hz:l.length+r.length<=1000)(M:l.reverse++r=if u then .int n::p else p++[.int n]) :
  ∃(I ρ:List D) (st:Nat),I.reverse++ρ=p/\(st:Int)+ab ((I.length:Int)-ρ.length)<=ab (9087-r.length)+2/\∀(S:List<|Option Cl) (k:Nat) (W:SV),Obj S k ca.bW "double" "double" (Qd l r)->rdV S W=some (.list [.str<|wSP u])->ox ca S [.lc k,W]=some (.ok (.pl<|qe (ba n) (st:Int) 2)<|S.set k<|some<|oB ca.bW "double" "double"<|Qd I ρ):=by
 cases u with
 |true=>
  obtain⟨I,ρ,st,h1,h3,a⟩:=first_is l r (.int n) p M (by lia)
  refine⟨I,ρ,st.length,h1,h3,λS k W h hx=>bY rfl (o:=.rt (.pl _) ⟨S.set k<|some<|oB ca.bW "double" "double"<|Qd I ρ,9030⟩) ?_ (h.ret _ _)⟩
  exact eu (jh (gj (ws:=[]) rfl hx (by decide+kernel) _ (by decide+kernel) (by decide+kernel))<|bt<|cv (ar rfl) h.o rfl (ak (Aw 9029 rfl a) aY)<|dX<|GW h hn)
 |false=>
  obtain⟨I,ρ,st,h1,h3,a⟩:=YJ l r (.int n) p M (by lia)
  refine⟨I,ρ,st.length,h1,h3,λS k W h hx=>bY rfl (o:=.rt (.pl _) ⟨S.set k<|some<|oB ca.bW "double" "double"<|Qd I ρ,9030⟩) ?_ (h.ret _ _)⟩
  exact ag (bh (gj (ws:=[]) rfl hx (by decide+kernel) _ (by decide+kernel) (by decide+kernel)) rfl) (eu<|jh (gj (ws:=[]) rfl hx (by decide+kernel) _ (by decide+kernel) (by decide+kernel))<|bt<|cv (ar rfl) h.o rfl (ak (Aw 9029 rfl a) aY)<|dX<|GW h hn)
theorem MY(u:Bool)(h:Obj S k ca.bW "double" "double"<|Qd [] [])(hx:rdV S W=some (.list [.str<|wSP u])):ox ca S [.lc k,W]=some (.er ⟨"Empty",none⟩ S):=by
 refine bY rfl (o:=.er ⟨"Empty",none⟩ ⟨S,9030⟩) ?_ (h.rer _);cases u with
 |true=>exact Cn ((jh (gj (ws:=[]) rfl hx (by decide+kernel) _ (by decide+kernel) (by decide+kernel))<|Kh<|Je (ar rfl) h.o rfl<|Jf<|Ax 9029 rfl Vw))
 |false=>exact ag (bh (gj (ws:=[]) rfl hx (by decide+kernel) _ (by decide+kernel) (by decide+kernel)) rfl) (Cn<|jh (gj (ws:=[]) rfl hx (by decide+kernel) _ (by decide+kernel) (by decide+kernel))<|Kh<|Je (ar rfl) h.o rfl<|Jf<|Ax 9029 rfl YI)
theorem OY(u:Bool)(h:Obj S k ca.bW "double" "double"<|Qd l r)(hx:rdV S W=some (.list [.str<|wFL u,.str<|ba n]))(hn:n.natAbs<10^60)(hz:l.length+r.length<=1000) :
  ox ca S [.lc k,W]=some (.ok (.pl<|qe (ba ((l.length+r.length+1:Nat):Int)) 1 2)<|S.set k<|some<|oB ca.bW "double" "double"<|if u then Qd (l++[.int n]) r else Qd l (r++[.int n])):=by
 obtain⟨a,b,d,ll⟩:∃a b,(if u then Qd (l++[.int n]) r else Qd l (r++[.int n]))=Qd a b/\(a.reverse++b).length=l.length+r.length+1:=by
  cases u with
  |true=>exact⟨_,_,rfl,by simp<;>lia⟩
  |false=>exact⟨_,_,rfl,by simp<;>lia⟩
 have g:LK (nTo<|az<|mOp gEq 9008<|mC<|.str "first") (eY ot<|aa (cg ca.bW (aq 0) "double")<|aa (aq 2) aj) (eY q9<|aa (cg ca.bW (aq 0) "double")<|aa (aq 2) aj) ⟨S,[some<|.lc k,some W,some<|.pl<|.int n,none]⟩=some (.ok (.pl<|.tuple [Qd a b,.list [.str "laid"]]) ⟨S,[some<|.lc k,some W,some<|.pl<|.int n,none]⟩):=by
  rw[<-d];cases u with
  |true=>exact VO (gj (ws:=[ba n]) rfl hx (by decide+kernel) _ (by decide+kernel) (by decide+kernel)) (iq (ak (h.fld rfl)<|ak (ar rfl) aY) rfl<|R8 l r (.int n) (by lia))
  |false=>exact VP (gj (ws:=[ba n]) rfl hx (by decide+kernel) _ (by decide+kernel) (by decide+kernel)) (iq (ak (h.fld rfl)<|ak (ar rfl) aY) rfl<|Vv l r (.int n) (by lia))
 rw[d]
 let T:D:=.tuple [Qd a b,.list [.str "laid"]]
 have h2:=h.set (Qd a b);have w:=h.zdg (X:=[some<|.dat<|.list<|a.reverse++b]) (t:=9084) (Qd a b) (qe (ba ((l.length+r.length+1:Nat):Int)) 1 2);have m:=h.put (v:=nIx (aq 3)<|nLit<|.int 0) (t:=9084) rfl (iz (ar rfl) rfl rfl);have f:∀y:Str,PyData.strOk y=true->y≠wFL u->nTo (az<|mOp gEq 9008<|mC<|.str y) ⟨S,9030⟩=some (.ok false ⟨S,9030⟩):=λy hy c=>gj (ws:=[ba n]) rfl hx (by cases u<;>decide+kernel) y hy (zeN<|Ne.symm c)
 refine bY rfl ?_ w;refine ag (bh (f "shift" (by decide+kernel) (by cases u<;>decide+kernel)) rfl) (ag (bh (f "pop" (by decide+kernel) (by cases u<;>decide+kernel)) rfl)<|ag (bZ (Kf rfl hx hn) (by simp))<|ag (bZ g (by simp))<|ag m<|bt<|QC ?_ ?_ rfl)
 .have p:=YF a b (by have:=ll;simp at this;lia)
  have i:=h2.fld (t:=9084) rfl;have j:(a.reverse++b).length<10^60:=by rw[ll];exact GV (by lia)
  have:=Jd i p j;rw[ll]at this;exact this
 .exact uV (l:=[.str "laid"]) rfl rfl
end
structure Tg where
 n:Str
 p:Nat
 C:Addr
 kd:Str
 f:Str
 d:D
 c:Int
def Tg.cl(t:Tg):Cl:=oB t.C t.kd t.f t.d
structure Tg.Ok(ca:CA)(t:Tg):Prop where
 nf:t.f≠"credit"
 k:∃g,(fb ca).lookup t.C=some g/\g [some t.cl] [.lc 0]=some (.ok (.pl<|.int t.c) [some t.cl])
theorem set_same{α:Type}{S:List α}{i:Nat}{x : α}(h:S[i]?=some x):S.set i x=S:=by
 obtain⟨h1,h2⟩:=zea h;rw[<-h2,List.set_getElem_self]
theorem VS:∀(ts:List Tg) (S:List<|Option Cl) (I:List D),(∀t∈ts,S[t.p]?=some (some t.cl)/\t.Ok ca)->lcC (fb ca) "credit" (ts.map λt=>SV.lc t.p) S I=some (I++ts.map (λt=>PyData.int t.c),S)
 | [],S,I,_=>by rw[List.map_nil,List.map_nil,zeQ];rfl
 |t::ts,S,I,h=>by
  obtain⟨h1,h2⟩:=h t (by simp)
  obtain⟨g,e,b⟩:=h2.k;have l:=VS ts S (I++[.int t.c]) λu hu=>h u (by simp[hu])
  have hn:List.lookup ("credit":Str) [(("kind":Str),SV.pl<|.str t.kd),(t.f,SV.pl t.d)]=none:=by
   have:=h2.nf;simp[List.lookup,beq_eq_false_iff_ne.mpr<|Ne.symm this,show(("credit":Str)=="kind")=false by decide+kernel]
  have i:jg S t.p=some (t.C,[(("kind":Str),SV.pl<|.str t.kd),(t.f,SV.pl t.d)]):=by unfold jg;rw[h1];rfl
  show(jg S t.p).bind _=_;rw[i,zeg];rw[if_pos ⟨rfl,hn⟩,e,zeg];have a:g [some<|.obj t.C [("kind",.pl<|.str t.kd),(t.f,.pl t.d)]] [.lc 0]=some (.ok (.pl<|.int t.c) [some<|.obj t.C [("kind",.pl<|.str t.kd),(t.f,.pl t.d)]]):=b;rw[a];dsimp only;have j:S.set t.p (some<|.obj t.C [("kind",.pl<|.str t.kd),(t.f,.pl t.d)])=S:=set_same h1;rw[j,l,zey,zeC];rfl
def VT{kd f:Str}{d:D}(h:f≠"kind"):Obj [some<|oB C kd f d] 0 C kd f d:=⟨rfl,rfl,h⟩
section
variable{ca:CA}{S:List<|Option Cl}{k:Nat}
theorem Co(h:Obj S k C kd f d)(ρ:g [d]=some (.int c,false))(I:b=df (eY g<|aa (cg C (aq 0) f) aj)):fnS 1 0 b S [.lc k]=some (.ok 9077 S):=by
 subst I;refine bY rfl (bt<|iq 9029 rfl ρ) ?_;simp only[retS,blV,if_true,ji h.w]
theorem YY:(fb ca).lookup ca.iZ=some (uc ca):=by simp[fb,List.lookup]
theorem OZ:(fb ca).lookup ca.cu=some (m9 ca):=by
 fail "qd"
 simp[fb,List.lookup,beq_eq_false_iff_ne.mpr<|Ne.symm this.1.1]
theorem VU:(fb ca).lookup ca.Queue=some (rh ca):=by
 fail "qd"
 simp[fb,List.lookup,beq_eq_false_iff_ne.mpr<|Ne.symm this.1.2.1,beq_eq_false_iff_ne.mpr<|Ne.symm this.2.1.1]
theorem Sg:(fb ca).lookup ca.bW=some (o6 ca):=by
 fail "qd"
 simp[fb,List.lookup,beq_eq_false_iff_ne.mpr<|Ne.symm this.1.2.2.1,beq_eq_false_iff_ne.mpr<|Ne.symm this.2.1.2.1,beq_eq_false_iff_ne.mpr<|Ne.symm this.2.2.1.1]
theorem YZ:(fb ca).lookup ca.cn=some (ue ca):=by
 fail "qd"
 simp[fb,List.lookup,beq_eq_false_iff_ne.mpr<|Ne.symm this.1.2.2.2.1,beq_eq_false_iff_ne.mpr<|Ne.symm this.2.1.2.2.1,beq_eq_false_iff_ne.mpr<|Ne.symm this.2.2.1.2.1,beq_eq_false_iff_ne.mpr<|Ne.symm this.2.2.2.1.1]
theorem QD(n:Str)(p:Nat)(r:List Int):Tg.Ok ca ⟨n,p,ca.iZ,"bits","row",.list<|r.map .int,(Ctr.ones r:Nat)⟩:=⟨show("row":Str)≠"credit" by decide+kernel,_,YY,Co (VT<|show("row":Str)≠"kind" by decide+kernel) (MB r) rfl⟩
theorem GX(n:Str)(p:Nat)(r:List Int):Tg.Ok ca ⟨n,p,ca.cu,"figures","row",.list<|r.map .int,Fig.rX r⟩:=⟨show("row":Str)≠"credit" by decide+kernel,_,OZ,Co (VT<|show("row":Str)≠"kind" by decide+kernel) (GL r) rfl⟩
theorem GY(n:Str)(p:Nat)(f b:List D):Tg.Ok ca ⟨n,p,ca.Queue,"queue","queue",Qd f b,(b.length:Int)⟩:=⟨show("queue":Str)≠"credit" by decide+kernel,_,VU,Co (VT<|show("queue":Str)≠"kind" by decide+kernel) (Vr f b) rfl⟩
theorem DF(n:Str)(p:Nat)(f b:List D):Tg.Ok ca ⟨n,p,ca.bW,"double","double",Qd f b,ab<|(f.length:Int)-b.length⟩:=⟨show("double":Str)≠"credit" by decide+kernel,_,Sg,Co (VT<|show("double":Str)≠"kind" by decide+kernel) (Vu f b) rfl⟩
theorem Ki(n:Str)(p:Nat)(I:List D)(s:Nat):Tg.Ok ca ⟨n,p,ca.cn,"room","room",Rm I s,crd I.length s⟩:=⟨show("room":Str)≠"credit" by decide+kernel,_,YZ,Co (VT<|show("room":Str)≠"kind" by decide+kernel) (Vy I s) rfl⟩
end
def esT(ts:List Tg):List (Key×SV):=ts.map λt=>(Sum.inr t.n,SV.lc t.p)
structure Bk(ca:CA)(S:List<|Option Cl)(b d i j:Nat)(ts:List Tg)(l:List Ent):Prop where
 o:S[b]?=some (some<|.obj ca.cq [("things",.lc d),("accounts",.lc i)])
 d:ip S d=some (esT ts)
 t:∀t∈ts,S[t.p]?=some (some t.cl)/\t.Ok ca/\t.f≠"kind"
 led:Led ca S i j l
 z:ts.length<=100
 nd:(ts.map (·.n)).Nodup
 np:(ts.map (·.p)).Nodup
 u:∀t∈ts,(UC ca).contains t.C=true
section
variable{ca:CA}{S:List<|Option Cl}{b d i j:Nat}{ts:List Tg}{l:List Ent}
theorem mq(h:ip S d=some es)(h2:S[k]?=some 9064):k≠d:=by
 rintro rfl
 unfold ip at h;rw[h2]at h;cases h
theorem iu(h:ip S d=some es):d<S.length:=by
 unfold ip at h;cases e:S[d]? with
 |none=>rw[e]at h;cases h
 |some x=>exact(zea e).1
def Bk.plt(h:Bk ca S b d i j ts l){t:Tg}(I:t∈ts):t.p<S.length:=(zea (h.t t I).1).1
theorem Kk:∀ts:List Tg,(∀t∈ts,t.p<n)->blC n (.dct<|esT ts)=true
 | [],_=>rfl
 |t::ts,h=>by
  have:=Kk ts λu hu=>h u (by simp[hu])
  show(decide (t.p<n)&&blC n (.dct<|esT ts))=true;rw[this,zeG<|h t (by simp)];rfl
def Bk.w2(h:Bk ca S b d i j ts l):fh (S.set d<|some<|.dct<|esT ts).length (S.set d<|some<|.dct<|esT ts)=true:=ir h.led.w (Kk ts λt a=>h.plt a)
theorem zg(h:Bk ca S b d i j ts l):dZ ca S [.lc b]=some (.ok (.pl (.int (ts.map (·.c)).sum))<|S.set d<|some<|.dct<|esT ts):=by
 have f:=mq h.d h.o;have g:=VS ts (S.set d none) [] λt a=>⟨by rw[zez<|Ne.symm<|mq h.d (h.t t a).1];exact(h.t t a).1,(h.t t a).2.1⟩
 have hm:(esT ts).map (·.2)=ts.map λt=>SV.lc t.p:=by unfold esT;rw[List.map_map];rfl
 have hn:Yo 0 ca.cq "things" (fb ca) "credit" ⟨S,[some<|.lc b]⟩=some (.ok (.lc (S.set d<|some<|.dct<|esT ts).length) ⟨S.set d 9085++9094,[some<|.lc b]⟩):=by
  show(jg S b).bind _=_;rw[show jg S b=some (ca.cq,[(("things":Str),SV.lc d),(("accounts":Str),SV.lc i)]) by unfold jg;rw[h.o],zeg]
  rw[if_pos rfl];show(ip S d).bind _=_;rw[h.d,zeg];rw[if_pos f,hm,g,zeg];rw[bg (by unfold esT;rw[zej];have:=h.z;lia),List.set_set,List.nil_append,List.map_map]
  rfl
 refine bY rfl (o:=.rt (.pl (.int (ts.map (·.c)).sum)) ⟨S.set d 9085++9094,[some<|.lc b]⟩) (bt<|mm (ak hn aY) (by simp only[F8,xr fY,Option.bind_some,Option.map_some])<|ID _) ?_
 have e:=ml (X:=9094) h.w2
 rw[zeL]at e;simp only[retS,blV,if_true,e]
def Bk.acc(h:Bk ca S b d i j ts l){t:List<|Option SV}(I:t[0]?=some (some<|.lc b)):cg ca.cq (aq 0) "accounts" ⟨S,t⟩=some (.ok (.lc i) ⟨S,t⟩):=vg (ar I) h.o rfl
def Bk.thg(h:Bk ca S b d i j ts l){t:List<|Option SV}(I:t[0]?=some (some<|.lc b)):cg ca.cq (aq 0) "things" ⟨S,t⟩=some (.ok (.lc d) ⟨S,t⟩):=vg (ar I) h.o rfl
theorem zh(h:Bk ca S b d i j ts l):dq ca S [.lc b]=some (.ok 9117<|S++[some<|.dat<|rD l]):=by
 refine bY rfl (bt<|cv (h.acc rfl) h.led.o rfl aY<|dX<|OU h.led) ?_;simp only[retS,blV,Nat.lt_irrefl,decide_false,Bool.false_eq_true,if_false]
def ly(l:List Ent):Int:=(l.map (·.s)).sum
def lz(l:List Ent):Int:=(l.map (·.p)).sum
def Si(a b c e:Int):Str:=ba a++" "++ba b++" "++ba c++" "++ba e
theorem js4{a b c e:PM}{p q r s:Int}(h1:IE a L p)(h2:IE b L q)(h3:IE c L r)(h4:IE e L s)(I:p.natAbs<10^60)(ρ:q.natAbs<10^60)(M:r.natAbs<10^60)(O:s.natAbs<10^60):mJs (mFV a<|mFC " "<|mFV b<|mFC " "<|mFV c<|mFC " "<|mFV e IP) L=some ((.str<|Si p q r s,.fz),L):=by
 have g:=fX I;have h:=fX ρ;have k:=fX M;have m:=fX O;have f:(" ":Str).length=1:=by decide+kernel
 refine VF (AQ (ah h1) (oZ I) (by lia) (by rw[fi];lia)<|GR (by simp only[fi,len_app];lia)<|AQ (ah h2) (oZ ρ) (by lia) (by simp only[fi,len_app];lia)<|GR (by simp only[fi,len_app];lia)<|AQ (ah h3) (oZ M) (by lia) (by simp only[fi,len_app];lia)<|GR (by simp only[fi,len_app];lia)<|AQ (ah h4) (oZ O) (by lia) (by simp only[fi,len_app];lia) (by rw[fi];rfl)) ?_
 unfold Si;simp only[len_app]
 lia
theorem Kl(h:Bk ca S b d i j ts l)(I:(ly l).natAbs<10^60)(ρ:(lz l).natAbs<10^60)(M:(bu l).natAbs<10^60)(O:(lz l-ly l-bu l).natAbs<10^60):me ca S [.lc b]=some (.ok (.pl<|.str<|Si (ly l) (lz l) (bu l)<|lz l-ly l-bu l) S):=by
 refine bY rfl (o:=.rt (.pl<|.str<|Si (ly l) (lz l) (bu l)<|lz l-ly l-bu l) ⟨S,[some<|.lc b,some<|.pl<|.int<|ly l,some<|.pl<|.int<|lz l,some<|.pl<|.int<|bu l,some<|.pl<|.int<|lz l-ly l-bu l]⟩) ?_ (by simp only[retS,blV,if_true,ji h.led.w])
 refine ag (bZ (cv (h.acc rfl) h.led.o rfl aY<|dX<|QB h.led) (by simp)) ?_
 refine ag (bZ (cv (h.acc rfl) h.led.o rfl aY<|dX<|VJ h.led) (by simp)) ?_
 refine ag (bZ (cv (h.acc rfl) h.led.o rfl aY<|dX<|DE h.led) (by simp)) ?_
 refine ag (bZ (cv (h.acc rfl) h.led.o rfl aY<|dX<|VL h.led) (by simp)) ?_
 exact bt (vh (js4 9056 9056 9056 9056 I ρ M O) rfl)
theorem QE:∀(ts:List Tg),(ts.map (·.n)).Nodup->∀t∈ts,oq (esT ts) (Sum.inr t.n)=some (.lc t.p)
 | [],_,t,a=>by simp at a
 |u::ts,hn,t,a=>by
  rw[zey,List.nodup_cons]at hn;unfold oq esT;rw[zey]
  by_cases e:u.n=t.n
  .have:u=t:=by
    rcases zed a with rfl|a
    .rfl
    .exact absurd (List.mem_map.mpr ⟨t,a,e.symm⟩) hn.1
   subst this;rw[List.find?_cons_of_pos (by simp)];rfl
  .have c:t∈ts:=by
    rcases zed a with rfl|a
    .exact absurd rfl e
    .exact a
   rw[List.find?_cons_of_neg (by simp[e])]
   exact QE ts hn.2 t c
theorem QF{y d:EN}{s:SS}{z:Str}{j:Nat}{es:List<|Key×SV}{v:Bool}(h1:y s=some (.ok (.pl<|.str z) s))(h2:d s=some (.ok (.lc j) s))(h3:ip s.S j=some es)(h4:f (oq es<|Sum.inr z).isSome=v):RN f y d s=some (.ok (.pl<|.bool v) s):=by
 unfold RN;rw[c9 h1,c9 h2]
 simp only[L4,Option.bind_some,h3,Option.map_some,h4]
theorem VV{d y:EN}{z:Str}{j:Nat}{es:List<|Key×SV}{x:SV}(h1:d s=some (.ok (.lc j) s))(h2:y s=some (.ok (.pl<|.str z) s))(h3:ip s.S j=some es)(h4:oq es (Sum.inr z)=some x):Dp d y s=some (.ok x s):=by
 unfold Dp;rw[c9 h1,c9 h2]
 simp only[L4,Option.bind_some,h3,h4,Option.map_some]
theorem VW(h1:a s=some (.ok (.lc k) s))(h2:s.S[k]?=some 9064)(h3:I.contains C=true)(h4:fs.lookup f=some x):Qc I a f s=some (.ok x s):=by
 unfold Qc;rw[c9 h1]
 simp only[jg,h2,Option.bind_some,h3,if_true,h4,Option.map_some]
def Fs(ρ:t[1]?=some (some x))(hx:rdV S x=some (.list<|(w::ws).map .str))(hw:w.length<=80)(I:ws.length<=5):nO (dz jx<|ae (af 1) ao) ⟨S,t⟩=some (.ok (.pl<|.str<|cW w<|ws.length+1) ⟨S,t⟩) :=
 vh (ig (au (ah<|ax<|pj ρ hx) aX) (Qv hw I) rfl) rfl
theorem Sj(h:Bk ca S b d i j ts l)(ρ:t∈ts)(M:S[q]?=some 9115)(hw:w.length<=80)(U:I.length<=3)(hk:ia.lookup (cW w<|I.length+2)=some K)(O:K.contains t.kd=true) :
  et ca S [.lc b,.lc q,.pl<|.int 1]=some (.ok (.lc t.p) S):=by
 have c:=QE ts h.nd t ρ;have h2:=h.t t ρ
 let T:List (Option SV):=[some<|.lc b,some<|.lc q,some<|.pl<|.int 1,some<|.pl<|.str t.n]
 have e:Dp (cg ca.cq (aq 0) "things") (aq 3) ⟨S,T⟩=some (.ok (.lc t.p) ⟨S,T⟩):=VV (h.thg rfl) (ar rfl) h.d c;refine bY rfl (o:=.rt (.lc t.p) ⟨S,T⟩) ?_ ?_
 .refine ag (bZ (iz (ar rfl) (ar rfl) ?_) (by simp)) (ag (bh (ZS (kc<|QF (ar rfl) (h.thg rfl) h.d (by rw[c];rfl))<|kc<|uf (VW e h2.1 (h.u t ρ) rfl) (Fs rfl (lg M) hw (by simp;lia)) sX sX ?_) rfl)<|bt e)
  .simp only[ixV,M]
   have f:atI (List.map PyData.str (w::t.n::I)) 1=(List.map PyData.str (w::t.n::I))[1]?:=pq _ 1;rw[f];rfl
  .show(ia.lookup<|cW w<|I.length+2).map _=_
   rw[hk];simp only[Option.map_some,O,if_true,Bool.not_true]
 .simp only[retS,blV,decide_eq_true<|h.plt ρ,if_true,ji h.led.w]
end
structure FO(f:Str):Prop where
 ok:PyData.strOk f=true
 a:f≠"account 1"
 b:bX.contains f=false
 c:f≠"cut 4"
 t:f≠"tie 3"
 p:f≠"pour 3"
theorem g5:∀l:List Str,ej (l.map .str)=true
 | []=>by simp only[List.map_nil,v9]
 |x::l=>by
  have:=g5 l;simp only[List.map_cons,ej,this,pf,Bool.and_self]
section
variable{ca:CA}{S:List<|Option Cl}{b d i j:Nat}{ts:List Tg}{l:List Ent}
theorem zi(ρ:t[2]?=some (some<|.pl<|.str f))(ok:PyData.strOk f=true)(M:PyData.strOk y=true)(I:f≠y):nTo (az<|mOp gEq (af 2)<|mC<|.str y) ⟨S,t⟩=some (.ok false ⟨S,t⟩) :=
 c7 (test_ev (k:=.fz)<|bc (d0:=9026) (ah<|ax<|dh ρ) rfl (by rw[Ci ok M,zeN I]))
theorem Y0(ρ:t[1]?=some (some x))(hx:rdV S x=some (.list<|(w::n::I).map .str))(M:I.length<=5):nO (mOp fe (dY<|ae 9008 ao)<|mSl gSl (af 1) (iy<|mC<|.int 2) ei) ⟨S,t⟩=some (.ok 9117 ⟨S++9049,t⟩):=by
 have c:dY (ae 9008 ao) (vw ⟨S,t⟩)=some ((.list [.str w],.new),vw ⟨S,t⟩):=f6 (au (ah<|bc (d0:=(.str w,false)) (ah<|ax<|pj ρ hx) rfl (by show(atI (PyData.str w::(n::I).map PyData.str) 0).map _=_;rw[oo];rfl)) aX) rfl (by simp)
 have e:mSl gSl (af 1) (iy<|mC<|.int 2) ei (vw ⟨S,t⟩)=some ((.list<|I.map .str,.new),vw ⟨S,t⟩):=by
  unfold mSl;rw[ah<|ax<|pj ρ hx,zeg];have f:cutD (List.map PyData.str (w::n::I)) (some 2) none=I.map .str:=ML _ 2 (by simp)
  show(some (_,_)).bind _=_;simp only[Option.bind_some,ei,lx,gSl,Option.map_some,f,u5]
 refine w4 (bc (d0:=(.list<|(w::I).map .str,true)) (bz c) (bz e) ?_) ?_
 .exact ik [.str w] (I.map .str) (by simp;lia)
 .simp only[ie,g5]
theorem Sk(h:a s=some (.ok (.lc k) s1))(h1:s1.S[k]?=some (some<|.obj C gs))(I:fs.lookup C=some f)(h2:gs.lookup ρ=none)(h3:m s1=some (.ok xs s2))(h4:f s2.S (.lc k::xs)=some w):Dn fs ρ a m s=some (frR w s2.t):=by
 unfold Dn;rw[c9 h];simp only[jg,h1,Option.bind_some,I,h2,if_true,c9 h3,List.append_nil,h4,Option.map_some]
theorem VX(h:Bk ca S b d i j ts l)(M:t∈ts){I:List Str}{q k:Nat}(hn:Nm k t.n)(Y:k<5)(ρ:S[q]?=some 9115)(hw:w.length<=80)(hl:I.length<=3){K:List Str}(hk:ia.lookup (cW w<|I.length+2)=some K)(O:K.contains t.kd=true)(fo:FO<|cW w<|I.length+2)
  {f:FN} (U:(Dy ca).lookup t.C=some f) (hd:t.f≠"do") {r:FR} (hr:f (S++9049) [.lc t.p,.lc S.length]=some r) :
  df (Dn (Dy ca) "do" (cz ca.cq "thing_for" (fq<|et ca) [] (aq 0)<|aa (aq 1)<|aa (nLit<|.int 1) aj)<|aa (nO<|mOp fe (dY<|ae 9008 ao)<|mSl gSl (af 1) (iy<|mC<|.int 2) ei) aj) ⟨S,9027⟩=(match r with| .ok x S'=>some (.rt x ⟨S',9027⟩)| .er x S'=>some<|.er x ⟨S',9027⟩):=by
 have g:List.lookup ("do":Str) [(("kind":Str),SV.pl<|.str t.kd),(t.f,SV.pl t.d)]=none:=by
  simp[List.lookup,beq_eq_false_iff_ne.mpr<|Ne.symm hd,show(("do":Str)=="kind")=false by decide+kernel]
 have e:=Sk (a:=cz ca.cq "thing_for" (fq<|et ca) [] (aq 0)<|aa (aq 1)<|aa (nLit<|.int 1) aj) (s:=⟨S,9027⟩) (cv (ar rfl) h.o rfl (ak (ar rfl)<|ak hZ aY)<|dX<|Sj h M ρ hw hl hk O) (h.t t M).1 U g (ak (Y0 rfl (lg ρ) (by lia)) aY) hr
 cases r with
 |ok x S'=>exact bt e
 |er x S'=>exact Kh e
theorem zdh(I:t[2]?=some (some<|.pl<|.str f))(h:bX.contains f=false):nTo (az<|mUn (Ow false bX)<|af 2) ⟨S,t⟩=some (.ok false ⟨S,t⟩) :=
 c7 (test_ev (k:=.fz)<|MU (d0:=9026) (ah<|ax<|dh I) (by show some (PyData.bool<|bX.contains f,false)=_;rw[h]) rfl)
theorem QG(hn:Nm k n)(hk:k<5)(I:t[1]?=some (some x))(hx:rdV S x=some (.list<|(w::n::ws).map .str)):nO (dz jo<|ae 9019 ao) ⟨S,t⟩=some (.ok (.pl .none) ⟨S,t⟩) :=
 vh (ig (au (ah (bc (d0:=(.str n,false)) (ah<|ax<|pj I hx) rfl (by
  have a:atI (List.map PyData.str (w::n::ws)) 1=(List.map PyData.str (w::n::ws))[1]?:=pq _ 1;show(atI (List.map PyData.str (w::n::ws)) 1).map _=_;rw[a];rfl))) aX) (YO hn hk) rfl) rfl
theorem MZ(h:Bk ca S b d i j ts l)(hn:Nm k n)(I:k<5)(ρ:S[q]?=some (some<|.dat<|.list<|(w::n::ws).map .str))(hw:w.length<=80)(O:ws.length<=3)(fo:FO<|cW w<|ws.length+2)
  (M:df (Dn (Dy ca) "do" (cz ca.cq "thing_for" (fq<|et ca) [] (aq 0)<|aa (aq 1)<|aa (nLit<|.int 1) aj)<|aa (nO<|mOp fe (dY<|ae 9008 ao)<|mSl gSl (af 1) (iy<|mC<|.int 2) ei) aj) ⟨S,[some<|.lc b,some<|.lc q,some<|.pl<|.str<|cW w<|ws.length+2]⟩=o):GG ca ⟨S,[some<|.lc b,some<|.lc q,none]⟩=o:=by
 refine ag (bZ (Fs (ws:=n::ws) rfl (lg ρ) hw (by simp;lia)) (by simp)) ?_
 refine ag (bh (zi rfl fo.ok (by decide+kernel) fo.a) rfl) (ag (bh (zdh rfl fo.b) rfl)<|ag (bh (zi rfl fo.ok (by decide+kernel) fo.c) rfl)<|ag (bh (zi rfl fo.ok (by decide+kernel) fo.t) rfl)<|ag (bh (zi rfl fo.ok (by decide+kernel) fo.p) rfl)<|ag (ka<|QG hn I rfl<|lg ρ) M)
theorem VY(h:Bk ca S b d i j ts l)(U:t∈ts)(hn:Nm k t.n)(ρ:k<5)(O:S[q]?=some 9115)(hw:w.length<=80)(M:I.length<=3)(hk:ia.lookup (cW w<|I.length+2)=some K)(Y:K.contains t.kd=true)(fo:FO<|cW w<|I.length+2)
  (hf:(Dy ca).lookup t.C=some f) (hd:t.f≠"do") (hr:f (S++9049) [.lc t.p,.lc S.length]=some (.ok (.pl a)<|(S++9020).set t.p<|some<|oB t.C t.kd t.f e)) :
  fk ca S [.lc b,.lc q]=some (.ok (.pl a)<|S.set t.p<|some<|oB t.C t.kd t.f e):=by
 refine bY rfl (MZ h hn ρ O hw M fo<|VX h U hn ρ O hw M hk Y fo hf hd hr) ?_;have m:(S++9020).set t.p (some<|oB t.C t.kd t.f e)=S.set t.p (some<|oB t.C t.kd t.f e)++9020:=List.set_append_left _ _ (h.plt U);have g:=ml (X:=9020) (ir h.led.w (k:=t.p) (c:=oB t.C t.kd t.f e) rfl);rw[zeL]at g;simp only[retS,blV,if_true,m,g]
theorem M0(h:Bk ca S b d i j ts l)(ht:t∈ts)(hn:Nm k t.n)(I:k<5)(O:S[q]?=some (some<|.dat<|.list<|(w::t.n::ρ).map .str))(hw:w.length<=80)(M:ρ.length<=3)(hk:ia.lookup (cW w<|ρ.length+2)=some K)(U:K.contains t.kd=true)(fo:FO<|cW w<|ρ.length+2)
  (Y:(Dy ca).lookup t.C=some f) (hd:t.f≠"do") (hr:f (S++[some<|.dat<|.list<|(w::ρ).map .str]) [.lc t.p,.lc S.length]=some (.er x<|S++[some<|.dat<|.list<|(w::ρ).map .str])) :
  fk ca S [.lc b,.lc q]=some (.er x S):=by
 refine bY rfl (MZ h hn I O hw M fo<|VX h ht hn I O hw M hk U fo Y hd hr) ?_;simp only[retS,ml h.led.w]
end
mutual
theorem VZ(h:n<=m):∀x:SV,blV n x=true->blV m x=true
 | .pl _,_=>rfl
 | .lc k,e=>by
  have:=of_decide_eq_true e;exact zeG (by lia)
 | .tp xs,e=>Km h xs e
theorem Km(h:n<=m):∀xs:List SV,B8 n xs=true->B8 m xs=true
 | [],_=>rfl
 |x::xs,e=>by
  simp only[B8,Bool.and_eq_true]at e⊢;exact⟨VZ h x e.1,Km h xs e.2⟩
end
theorem Kn(h:n<=m):∀fs:List (I×SV),yr n fs=true->yr m fs=true
 | [],_=>rfl
 |(_,x)::fs,e=>by
  simp only[yr,Bool.and_eq_true]at e⊢;exact⟨VZ h x e.1,Kn h fs e.2⟩
def V0(h:n<=m):∀c:Cl,blC n c=true->blC m c=true
 | .dat _,_=>rfl
 | .obj _ fs,e=>Kn h fs e
 | .lst xs,e=>Km h xs e
 | .dct es,e=>Kn h es e
 | .exc _ _,_=>rfl
theorem O0(h:fh S.length S=true):fh (S++[some<|Cl.dat d]).length (S++[some<|Cl.dat d])=true:=by
 unfold fh at h⊢;rw[List.take_length]at h⊢;rw[List.all_append,Bool.and_eq_true];refine⟨?_,rfl⟩;rw[List.all_eq_true]at h⊢;intro c a;have:=h c a;cases c with
 |none=>rfl
 |some c=>exact V0 (by simp) c this
section
variable{ca:CA}{S:List<|Option Cl}{b d i j:Nat}{ts:List Tg}{l:List Ent}
def Led.snoc(h:Led ca S i j l)(x:D):Led ca (S++[some<|.dat x]) i j l:=⟨br h.o,br h.r,O0 h.w,h.z,h.k⟩
theorem Ft(h:ip S d=some es):ip (S++X) d=some es:=by
 have a:=iu h;unfold ip at h⊢;rw[zew a];exact h
theorem Bk.snoc(h:Bk ca S b d i j ts l)(x:D):Bk ca (S++[some<|.dat x]) b d i j ts l:=⟨br h.o,Ft h.d,λt a=>⟨br (h.t t a).1,(h.t t a).2⟩,h.led.snoc x,h.z,h.nd,h.np,h.u⟩
theorem Bk.upd{t:Tg}(h:Bk ca S b d i j (A++t::B) l){e:D}{c:Int}(ok:Tg.Ok ca ⟨t.n,t.p,t.C,t.kd,t.f,e,c⟩):Bk ca (S.set t.p<|some<|oB t.C t.kd t.f e) b d i j 9042 l:=by
 have m:=h.t t (by simp)
 have ne:∀{k:Nat} {x:Option Cl},S[k]?=some x->x≠some t.cl->t.p≠k:=fun{k x} h1 h2 e=>h2 (by rw[<-e,m.1]at h1;exact(zeP h1).symm)
 have nb:=ne h.o (by intro e;simp only[Tg.cl,oB,Option.some.injEq,Cl.obj.injEq,List.cons.injEq,Prod.mk.injEq]at e;cases e.2.1.2)
 have s:=ne h.led.o (by intro e;simp only[Tg.cl,oB,Option.some.injEq,Cl.obj.injEq,List.cons.injEq,Prod.mk.injEq]at e;cases e.2.1.2)
 have nj:=ne h.led.r (by intro e;cases e)
 have nd:=mq h.d m.1;have g:=h.np;rw[ze0,zey,List.nodup_append]at g;have q:∀u:Tg,u∈A\/u∈B->t.p≠u.p:=λu hu e=>by
  rcases hu with hu|hu
  .exact g.2.2 u.p (List.mem_map.mpr ⟨u,hu,rfl⟩) t.p (by simp) e.symm
  .exact(List.nodup_cons.mp g.2.1).1 (List.mem_map.mpr ⟨u,hu,e.symm⟩)
 have es:esT 9042=esT (A++t::B):=by unfold esT;simp
 refine⟨by rw[zez nb];exact h.o,?_,λu hu=>?_,⟨by rw[zez s];exact h.led.o,by rw[zez nj];exact h.led.r,ir h.led.w rfl,h.led.z,h.led.k⟩,by have:=h.z;simp at this⊢;lia,by have:=h.nd;simpa using this,by have:=h.np;simpa using this,λu hu=>?_⟩
 .rw[es,<-h.d];unfold ip;rw[zez nd]
 .rcases zec hu with hu|hu
  .rw[zez<|q u<|.inl hu];exact h.t u (by simp[hu])
  .rcases zed hu with rfl|hu
   .exact⟨zet (h.plt (by simp)),ok,m.2.2⟩
   .rw[zez<|q u<|.inr hu];exact h.t u (by simp[hu])
 .rcases zec hu with hu|hu
  .exact h.u u (by simp[hu])
  .rcases zed hu with rfl|hu
   .exact h.u t (by simp)
   .exact h.u u (by simp[hu])
theorem nh(h:ip S d=some es)(h2:S[k]?=some (some<|.dat x))(hx:x≠.dict []):k≠d:=by
 rintro rfl
 unfold ip at h;rw[h2]at h;cases x with
 |dict e=>cases e with
  |nil=>exact hx rfl
  |cons a e=>cases h
 |_=>cases h
theorem Bk.fix(h:Bk ca S b d i j ts l):Bk ca (S.set d<|some<|.dct<|esT ts) b d i j ts l:=by
 have nb:=mq h.d h.o;have a:=mq h.d h.led.o;have nj:=nh h.d h.led.r (by intro e;cases e)
 refine⟨by rw[zez<|Ne.symm nb];exact h.o,?_,λu hu=>?_,⟨by rw[zez<|Ne.symm a];exact h.led.o,by rw[zez<|Ne.symm nj];exact h.led.r,h.w2,h.led.z,h.led.k⟩,h.z,h.nd,h.np,h.u⟩
 .unfold ip;rw[zet<|iu h.d]
 .rw[zez<|Ne.symm<|mq h.d (h.t u hu).1];exact h.t u hu
theorem Bk.ij(h:Bk ca S b d i j ts l):i≠j:=by
 rintro rfl
 have:=h.led.o.symm.trans h.led.r;cases this
theorem Bk.enter(h:Bk ca S b d i j ts l)(e:Ent)(I:PyData.strOk e.w=true)(hz:l.length<100):Bk ca (S.set j<|some<|.dat<|rD<|l++[e]) b d i j ts (l++[e]):=by
 have nj:=nh h.d h.led.r (by intro e;cases e)
 have ne:∀{k:Nat} {C:Addr} {fs:List<|Str×SV},S[k]?=some 9064->j≠k:=fun{k C fs} h1 e=>by
  have:=h.led.r;rw[e,h1]at this;cases this
 refine⟨by rw[zez<|ne h.o];exact h.o,?_,λu hu=>?_,h.led.enter e I hz h.ij,h.z,h.nd,h.np,h.u⟩
 .rw[<-h.d];unfold ip;rw[zez nj]
 .rw[zez<|ne (h.t u hu).1];exact h.t u hu
def EH(z:Str)(s p c:Int):Str:=z++"; "++ba s++" "++ba p++" "++ba c
theorem zd3{a b c e:PM}{z:Str}{q r s:Int}(h1:a L=some ((.str z,.fz),L))(h2:IE b L q)(h3:IE c L r)(h4:IE e L s)(O:z.length<=500)(I:q.natAbs<10^60)(ρ:r.natAbs<10^60)(M:s.natAbs<10^60):mJs (mFV a<|mFC "; "<|mFV b<|mFC " "<|mFV c<|mFC " "<|mFV e IP) L=some ((.str<|EH z q r s,.fz),L):=by
 have h:=fX I;have k:=fX ρ;have m:=fX M;have f:(" ":Str).length=1:=by decide+kernel
 have g:("; ":Str).length=2:=by decide+kernel
 refine VF (AQ (ah h1) rfl (by lia) (by rw[fi];lia)<|GR (by simp only[fi,len_app];lia)<|AQ (ah h2) (oZ I) (by lia) (by simp only[fi,len_app];lia)<|GR (by simp only[fi,len_app];lia)<|AQ (ah h3) (oZ ρ) (by lia) (by simp only[fi,len_app];lia)<|GR (by simp only[fi,len_app];lia)<|AQ (ah h4) (oZ M) (by lia) (by simp only[fi,len_app];lia) (by rw[fi];rfl)) ?_
 unfold EH;simp only[len_app]
 lia
end
def ff(ts:List Tg):Int:=(ts.map (·.c)).sum
section
variable{ca:CA}{S:List<|Option Cl}{b d i j:Nat}{ts:List Tg}{l:List Ent}
theorem QH(h:Bk ca S b d i j ts l)(hw:g9 [.str A0]=some (.list<|(w::ρ).map .str,true))
  (hr:fk ca (S++[some<|.dat<|.list<|(w::ρ).map .str]) [.lc b,.lc S.length]=some (.ok (.pl<|qe z s p) I)) (h2:Bk ca I b d i j ts' l) (M:I[S.length]?=some (some<|.dat<|.list<|(w::ρ).map .str))
  (hs : 0<=s) (hp : 0<=p) (hc : 0<=(ff ts')) (le:s+(ff ts')<=bu l+p) (O:z.length<=500) (U:s.natAbs<10^60) (Y:p.natAbs<10^60) (b4:(ff ts').natAbs<10^60) :
  i3 ca S 9110=some (.ok (.pl<|.str<|EH z s p<|ff ts')<|fS S.length<|(I.set d<|some<|.dct<|esT ts').set j<|some<|.dat<|rD<|l++[⟨w,s,p,bu l,(ff ts')⟩]):=by
 let X:List (Option Cl):=[some<|Cl.dat<|.list<|(w::ρ).map .str]
 have a:=zg h2;have h4:=h2.fix;have f:=VM h4.led w s p (ff ts') (.int<|ff ts') hs hp hc (.inl rfl) le
 let A:SV:=.pl (qe z s p)
 let T:List (Option SV):=[some<|.lc b,some<|.pl<|.str A0,some<|.lc S.length,some A,some<|.pl<|.str z,some<|.pl<|.int s,some<|.pl<|.int p,some<|.pl<|.int<|ff ts']
 refine bY rfl (o:=.rt (.pl<|.str<|EH z s p<|ff ts') ⟨(I.set d<|some<|.dct<|esT ts').set j<|some<|.dat<|rD<|l++[⟨w,s,p,bu l,(ff ts')⟩],T⟩) ?_ (by simp only[retS,blV,if_true])
 refine ag (bZ (w4 (ig (au 9041 aX) hw (by simp only[ie,g5])) (by simp only[ie,g5])) (by simp)) ?_
 refine ag (bZ (s':=⟨I,9119⟩) (cv (ar rfl) (h.snoc _).o rfl (ak (ar rfl) aY) hr) (by simp)) ?_
 refine ag (bZ (iz (ar rfl) hZ rfl) (by simp)) ?_
 refine ag (bZ (iz (ar rfl) hZ rfl) (by simp)) ?_
 refine ag (bZ (iz (ar rfl) hZ rfl) (by simp)) ?_
 refine ag (bZ (cv (ar rfl) h2.o rfl aY<|dX a) (by simp)) ?_
 refine ag (ka<|cv (h4.acc rfl) h4.led.o rfl (ak (iz (ar rfl) hZ ?_)<|ak (ar rfl)<|ak (ar rfl)<|ak (ar rfl) aY)<|dX f) (bt<|vh (zd3 (ax<|dh rfl) 9056 9056 9056 O U Y b4) rfl);have g:(I.set d<|some<|.dct<|esT ts')[S.length]?=some (some<|Cl.dat<|.list<|(w::ρ).map .str):=by
  rw[zez<|Ne.symm<|nh h2.d M (by intro e;cases e)];exact M
 simp only[ixV,g,List.map_cons,oo];rfl
def isL(c:Cl):Prop:=(∃xs,c=.lst xs)\/∃ds,c=.dat (.list ds)
structure V7(ca:CA)(S:List<|Option Cl)(b d i j:Nat)(l:List Ent)(A0 w z:Str)(s p:Int)(ts':List Tg)(S1:List<|Option Cl):Prop where
 say:i3 ca S [.lc b,.pl<|.str A0]=some (.ok (.pl<|.str<|EH z s p<|ff ts') S1)
 bk:Bk ca S1 b d i j ts' (l++[⟨w,s,p,bu l,ff ts'⟩])
 fr:∀(m:Nat) (c:Cl),S[m]?=some (some c)->isL c->m≠j->S1[m]?=some (some c)
 le:S.length<=S1.length
 gc:S1.length=S.length\/blC S.length (.dct<|esT ts')=false
theorem jt(h:ip S d=some es)(hm:S[m]?=some (some c))(I:isL c):m≠d:=by
 rcases I with⟨xs,rfl⟩|⟨ds,rfl⟩
 .rintro rfl
  unfold ip at h;rw[hm]at h;cases h
 .exact nh h hm (by intro e;cases e)
theorem w9{k m:Nat}{C:Addr}{fs:List<|Str×SV}(h:S[k]?=some 9064)(hm:S[m]?=some (some c))(I:isL c):m≠k:=by
 rintro rfl
 rw[h]at hm;cases hm;rcases I with⟨xs,e⟩|⟨ds,e⟩<;>cases e
theorem V8(h:Bk ca S b d i j ts l)(hw:g9 [.str A0]=some (.list<|(w::U).map .str,true))(O:PyData.strOk w=true)(hl:l.length<100)
  (hr:fk ca (S++[some<|.dat<|.list<|(w::U).map .str]) [.lc b,.lc S.length]=some (.ok (.pl<|qe z s p)<|M++[some<|.dat<|.list<|(w::U).map .str])) (h2:Bk ca M b d i j ts' l) (I:M.length=S.length) (ρ:∀(m:Nat) (c:Cl),S[m]?=some (some c)->isL c->M[m]?=some (some c))
  (hs : 0<=s) (hp : 0<=p) (hc : 0<=(ff ts')) (le:s+(ff ts')<=bu l+p) (Y:z.length<=500) (b2:s.natAbs<10^60) (b3:p.natAbs<10^60) (b4:(ff ts').natAbs<10^60) :
  V7 ca S b d i j l A0 w z s p ts' ((M.set d<|some<|.dct<|esT ts').set j<|some<|.dat<|rD<|l++[⟨w,s,p,bu l,(ff ts')⟩]):=by
 refine⟨(QH h hw hr (h2.snoc _) (by rw[<-I];exact fY) hs hp hc le Y b2 b3 b4).trans ?_,h2.fix.enter _ O hl,λm c hm h1 h3=>?_,by rw[zeL,zeL,I];exact zen _,.inl (by rw[zeL,zeL,I])⟩
 .rw[List.set_append_left _ _<|iu h2.d,List.set_append_left _ _ (by rw[zeL];exact h2.led.ltj)]
  have a:=ml (X:=[some<|Cl.dat<|.list<|(w::U).map .str]) (ir h2.fix.led.w (k:=j) (c:=.dat<|rD<|l++[⟨w,s,p,bu l,(ff ts')⟩]) rfl);rw[zeL,zeL,I]at a;rw[a]
 .rw[zez<|Ne.symm h3,zez<|Ne.symm<|jt h2.d (ρ m c hm h1) h1]
  exact ρ m c hm h1
theorem Jg(h:a s=some (.ok (.lc k) s1))(h1:s1.S[k]?=some 9064)(h2:fs.lookup I=none)(h3:m s1=some (.ok xs s2))(h4:f s2.S (.lc k::(xs++dv.map .pl))=some (.er x S')):cz C I f dv a m s=some (.er x ⟨S',s2.t⟩):=by
 unfold cz;rw[c9 h];simp only[jg,h1,Option.bind_some,h2,and_self,if_true,c9 h3,h4,Option.map_some,frR]
theorem zb7(h:Bk ca S b d i j ts l)(hw:g9 [.str A0]=some (.list<|(w::I).map .str,true))
  (ρ:fk ca (S++9049) [.lc b,.lc S.length]=some (.er x<|S++9020)):i3 ca S 9110=some (.er x S):=by
 let X:List (Option Cl):=9020
 refine bY rfl (o:=.er x ⟨S++X,9119⟩) ?_ (by simp only[retS,ml h.led.w])
 refine ag (bZ (w4 (ig (au 9041 aX) hw (by simp only[ie,g5])) (by simp only[ie,g5])) (by simp)) ?_
 exact Cn (Kg<|Jg (ar rfl) (h.snoc _).o rfl (ak (ar rfl) aY) ρ)
theorem M1(h:Bk ca S b d i j ts l)(U:S[q]?=some (some<|.dat<|.list [.str "account"]))(I:(ly l).natAbs<10^60)(ρ:(lz l).natAbs<10^60)(M:(bu l).natAbs<10^60)(O:(lz l-ly l-bu l).natAbs<10^60) :
  fk ca S [.lc b,.lc q]=some (.ok (.pl<|qe (Si (ly l) (lz l) (bu l)<|lz l-ly l-bu l) 0 0) S):=by
 have a:cW "account" 1="account 1":=by decide+kernel
 refine bY rfl (o:=.rt (.pl<|qe (Si (ly l) (lz l) (bu l)<|lz l-ly l-bu l) 0 0) ⟨S,[some<|.lc b,some<|.lc q,some<|.pl<|.str "account 1"]⟩) ?_ (by simp only[retS,blV,if_true,ji h.led.w])
 refine ag (bZ (by have:=Fs (t:=[some<|.lc b,some<|.lc q,none]) (ws:=[]) rfl (lg U) (by decide+kernel) (by simp);rwa[show([]:List Str).length+1=1 from rfl,a]at this) (by simp)) ?_
 refine eu (jh (c7<|test_ev (k:=.fz)<|bc (d0:=9012) 9041 rfl (by rw[Ci (by decide+kernel) (by decide+kernel),zeG rfl]))<|bt<|C2 (cv (ar rfl) h.o rfl aY<|dX<|Kl h I ρ M O) hZ hZ)
theorem sZ(h:fh S.length S=true)(I:blC (S.length+1) c=true):fh (S++[some c]).length (S++[some c])=true:=by
 unfold fh at h⊢;rw[List.take_length]at h⊢;rw[List.all_append,Bool.and_eq_true];refine⟨?_,by rw[zes];simpa using I⟩
 rw[List.all_eq_true]at h⊢;intro c I;have:=h c I;cases c with
 |none=>rfl
 |some c=>exact V0 (by simp) c this
theorem V9:(S++[x]).set S.length y=S++[y]:=by simp
theorem Sm(h1:v s=some (.ok y s1))(h2:a s1=some (.ok (.lc k) s2))(h3:s2.S[k]?=some 9064)(h4:I.contains C=true)(ρ:fs.length<1000):JY I a v f s=some (.nx ⟨s2.S.set k<|some<|.obj C<|AJ f y fs,s2.t⟩):=by
 unfold JY;rw[o3 h1,o3 h2];simp only[jg,h3,Option.bind_some];rw[if_pos ⟨h4,ρ⟩]
theorem O1(I:(UC ca).contains C=true)(w:fh S.length S=true):dc ca (S++9113) [.lc S.length,.pl<|.str kd]=some (.ok (.pl .none)<|S++[some<|.obj C [("kind",.pl<|.str kd)]]):=by
 refine bY rfl (o:=.nx ⟨S++[some<|.obj C [("kind",.pl<|.str kd)]],[some<|.lc S.length,some<|.pl<|.str kd]⟩) ?_ ?_
 .have:=Sm (f:="kind") (a:=aq 0) (v:=aq 1) (s:=⟨S++9113,[some<|.lc S.length,some<|.pl<|.str kd]⟩) (ar rfl) (ar rfl) fY I (by simp)
  rw[V9]at this;exact this
 .have e:=ji (sZ (c:=.obj C [("kind",.pl<|.str kd)]) w rfl)
  simp only[retS,List.length_append,List.length_cons,List.length_nil]at e⊢;rw[e]
theorem Cp{f:Str}{C:Addr}{v:EN}{e:D}{b:SN}(I:(UC ca).contains C=true)(hn:f≠"kind")(hv:∀s,v s=some (.ok (.pl e) s))(ρ:b=a6 (jn<|j7 (fq<|dc ca)<|aa (aq 0)<|aa (nLit<|.str kd) aj) (jZ C (aq 0) v f))(w:fh S.length S=true) :
  fnS 1 0 b (S++9113) [.lc S.length]=some (.ok (.pl .none)<|S++[some<|oB C kd f e]):=by
 subst ρ;refine bY rfl (o:=.nx ⟨S++[some<|oB C kd f e],[some<|.lc S.length]⟩) ?_ ?_
 .refine ag (ka<|gZ (ak (ar rfl)<|ak hZ aY)<|dX<|O1 I w) ?_
  have:=zf (f:=f) (a:=aq 0) (s:=⟨S++[some<|.obj C [("kind",.pl<|.str kd)]],[some<|.lc S.length]⟩) (hv _) (ar rfl) fY (by simp)
  refine this.trans ?_;simp[AJ,oB,Ne.symm hn]
 .have e:=ji (sZ (c:=oB C kd f e) w rfl)
  simp only[retS,List.length_append,List.length_cons,List.length_nil]at e⊢;rw[e]
theorem GZ(h:m s=some (.ok xs s1))(h2:f (s1.S++9113) (.lc s1.S.length::xs)=some (.ok (.pl .none) S')):vc C f m s=some (.ok (.lc s1.S.length) ⟨S',s1.t⟩):=by
 unfold vc;rw[c9 h];simp only[h2]
def bgW:Nat->Str
 |0=>"bits"
 |1=>"figures"
 |2=>"queue"
 |3=>"double"
 |_=>"room"
def bgF:Nat->Str
 |0=>"row"
 |1=>"row"
 |2=>"queue"
 |3=>"double"
 |_=>"room"
def bgD:Nat->D
 |0=>.list []
 |1=>.list []
 |2=>Qd [] []
 |3=>Qd [] []
 |_=>Rm [] 4
def bgC(ca:CA):Nat->Addr
 |0=>ca.iZ
 |1=>ca.cu
 |2=>ca.Queue
 |3=>ca.bW
 |_=>ca.cn
theorem five{P:Nat->Prop}(h0:P 0)(h1:P 1)(h2:P 2)(h3:P 3)(h4:P 4):∀k,k<5->P k
 |0,_=>h0
 |1,_=>h1
 |2,_=>h2
 |3,_=>h3
 |4,_=>h4
 |k+5,h=>by lia
theorem Jh:∀k,k<5->(UC ca).contains (bgC ca k)=true:=five (by simp[UC,bgC]) (by simp[UC,bgC]) (by simp[UC,bgC]) (by simp[UC,bgC]) (by simp[UC,bgC])
theorem Ko:AL aj s=some (.ok (.pl<|.list []) s):=by
 show cIf _ _ _=_;rw[bg<|show([]:List SV).length<=sizeLine from Nat.zero_le _]
theorem Sn:Aq []=some (Rm [] 4,false):=by
 refine ef (o:=.rt (Rm [] 4,.fz) []) rfl (cj ?_) rfl;exact g7 (au (bz<|f6 aX rfl (by simp))<|au rfl aX) rfl (by simp)
theorem zb8(w:fh S.length S=true):∀k,k<5->S[q]?=some 9122->oW ca S [.lc q]=some (.ok 9117<|S++9058):=by
 intro k hk a;have T:∀{k y:Str} {b:Bool},S[q]?=some (some<|.dat<|.list [.str k,.str n])->PyData.strOk k=true->PyData.strOk y=true->decide (k=y)=b->nTo (az<|mOp gEq 9002<|mC<|.str y) ⟨S,[some<|.lc q]⟩=some (.ok b ⟨S,[some<|.lc q]⟩):=λa ok p m=>gj (ws:=[n]) rfl (lg a) ok _ p m
 have c:∀s:SS,lZ (aa (AL aj)<|aa (AL aj) aj) s=some (.ok (.pl<|Qd [] []) s):=λs=>Au (ak Ko<|ak Ko aY) rfl (by simp)
 have R:∀{C:Addr} {kd f:Str} {e:D} {g:FN},g (S++9113) [.lc S.length]=some (.ok (.pl .none)<|S++[some<|oB C kd f e])->df (vc C (fq g) aj) ⟨S,[some<|.lc q]⟩=some (.rt 9117 ⟨S++[some<|oB C kd f e],[some<|.lc q]⟩):=λh=>bt (GZ aY<|dX h)
 refine bY rfl (o:=.rt 9117 ⟨S++9058,[some<|.lc q]⟩) ?_ (by simp only[retS,blV,Nat.lt_irrefl,decide_false,Bool.false_eq_true,if_false])
 rcases(show k=0\/k=1\/k=2\/k=3\/k=4 by lia)with rfl|rfl|rfl|rfl|rfl
 .exact eu (jh (T a (by decide+kernel) (by decide+kernel) (by decide+kernel))<|R<|Cp (Jh 0 (by lia)) (by decide+kernel) (λs=>Ko) rfl w)
 .exact ag (bh (T a (by decide+kernel) (by decide+kernel) (by decide+kernel)) rfl) (eu<|jh (T a (by decide+kernel) (by decide+kernel) (by decide+kernel))<|R<|Cp (Jh 1 (by lia)) (by decide+kernel) (λs=>Ko) rfl w)
 .exact ag (bh (T a (by decide+kernel) (by decide+kernel) (by decide+kernel)) rfl) (ag (bh (T a (by decide+kernel) (by decide+kernel) (by decide+kernel)) rfl)<|eu<|jh (T a (by decide+kernel) (by decide+kernel) (by decide+kernel))<|R<|Cp (Jh 2 (by lia)) (by decide+kernel) c rfl w)
 .exact ag (bh (T a (by decide+kernel) (by decide+kernel) (by decide+kernel)) rfl) (ag (bh (T a (by decide+kernel) (by decide+kernel) (by decide+kernel)) rfl)<|ag (bh (T a (by decide+kernel) (by decide+kernel) (by decide+kernel)) rfl)<|eu<|jh (T a (by decide+kernel) (by decide+kernel) (by decide+kernel))<|R<|Cp (Jh 3 (by lia)) (by decide+kernel) c rfl w)
 .exact ag (bh (T a (by decide+kernel) (by decide+kernel) (by decide+kernel)) rfl) (ag (bh (T a (by decide+kernel) (by decide+kernel) (by decide+kernel)) rfl)<|ag (bh (T a (by decide+kernel) (by decide+kernel) (by decide+kernel)) rfl)<|ag (bh (T a (by decide+kernel) (by decide+kernel) (by decide+kernel)) rfl)<|eu<|jh (T a (by decide+kernel) (by decide+kernel) (by decide+kernel))<|R<|Cp (Jh 4 (by lia)) (by decide+kernel) (λs=>iq aY rfl Sn) rfl w)
theorem Kq:∀{ts:List Tg} {n:Str},(∀t∈ts,t.n≠n)->oq (esT ts) (Sum.inr n)=none
 | [],_,_=>rfl
 |u::ts,n,h=>by
  have a:=Kq (ts:=ts) λt c=>h t (by simp[c])
  unfold oq esT at a⊢;rw[zey,List.find?_cons_of_neg (by simp[h u (by simp)])]
  exact a
theorem esc(hk:k<n)(h:S[k]?=some (some c))(I:blC n c=false):fS n S=S:=by
 unfold fS;rw[if_neg];intro e;have:some c∈S.take n:=zeh (by rw[List.getElem?_take,if_pos hk];exact h)
 rw[DD e this]at I;cases I
theorem O2{n:Nat}{e:Key}:∀es:List (Key×SV),yr n (es++[(e,.lc n)])=false
 | []=>by simp[yr,blV]
 |x::es=>by
  have:=O2 (n:=n) (e:=e) es;obtain⟨a,y⟩:=x;simp only[List.cons_append,yr,this,Bool.and_false]
theorem Kr(hm:n<=m):∀es:List (Key×SV),yr n (es++[(e,.lc m)])=false
 | []=>by simp[yr,blV];lia
 |x::es=>by
  have:=Kr hm (e:=e) es;obtain⟨a,y⟩:=x;simp only[List.cons_append,yr,this,Bool.and_false]
theorem Wa(h:Bk ca S b d i j ts l)(hn:Nm p n)(M:p<5)(ρ:∀t∈ts,t.n≠n)(hk:k<5)(I:S[q]?=some 9122) :
  qc ca S [.lc b,.lc q]=some (.ok (.pl<|qe "ok" 0 0)<|(S++9058).set d<|some<|.dct<|esT ts++9025):=by
 let N:=oB (bgC ca k) (bgW k) (bgF k) (bgD k)
 let T:List (Option SV):=[some<|.lc b,some<|.lc q]
 have hd:=iu h.d;have f:∀{X:List<|Option Cl},nIx (aq 1) (nLit<|.int 1) ⟨S++X,T⟩=some (.ok (.pl<|.str n) ⟨S++X,T⟩):=iz (ar rfl) hZ (by
  have g:atI [PyData.str<|bgW k,.str n] 1=[PyData.str<|bgW k,.str n][1]?:=pq _ 1;simp only[ixV,br I,g];rfl)
 have ix0:nIx (aq 1) (nLit<|.int 1) ⟨S,T⟩=some (.ok (.pl<|.str n) ⟨S,T⟩):=by have:=f (X:=[]);rwa[zeQ]at this
 have a:jy ca S [.lc b,.pl<|.str n]=some (.ok (.pl .none) S):=by
  refine bY rfl (bh (kc<|QF (ar rfl) (h.thg rfl) h.d (by rw[Kq ρ];rfl)) rfl) (by simp only[retS,ji h.led.w])
 have c:Qe (cg ca.cq (aq 0) "things") 9031 (j7 (fq<|oW ca)<|aa (aq 1) aj) ⟨S,T⟩=some (.nx ⟨(S++[some N]).set d<|some<|.dct<|esT ts++9025,T⟩):=by
  unfold Qe;rw[o3<|gZ (ak (ar rfl) aY)<|dX<|zb8 h.led.w k hk I,o3<|vg (ar rfl) (br h.o) rfl,o3 f];simp only[L4,Option.bind_some,Ft h.d];rw[bg ⟨by unfold esT;rw[zej];have:=h.z;lia,Kq ρ⟩]
 refine bY rfl (o:=.rt (.pl<|qe "ok" 0 0) ⟨(S++[some N]).set d<|some<|.dct<|esT ts++9025,T⟩) ?_ ?_
 .exact ag (ka<|QG (ws:=[]) hn M rfl<|lg I) (ag (ka<|cv (ar rfl) h.o rfl (ak ix0 aY)<|dX a)<|ag c<|bt<|C2 hZ hZ hZ)
 .have e:fS S.length ((S++[some N]).set d<|some<|.dct<|esT ts++9025)=(S++[some N]).set d (some<|.dct<|esT ts++9025):=esc hd (zet (by rw[zes];lia)) (O2 _)
  simp only[retS,blV,if_true,e];rfl
theorem Bk.more(h:Bk ca S b d i j ts l){t:Tg}(I:t.p=S.length)(hn:∀u∈ts,u.n≠t.n)(ok:t.Ok ca)(hk:t.f≠"kind")(hu:(UC ca).contains t.C=true)(hz:ts.length<100):Bk ca ((S++[some t.cl]).set d<|some<|.dct<|esT<|ts++[t]) b d i j (ts++[t]) l:=by
 have hd:=iu h.d;have g:=Ft (X:=[some t.cl]) h.d;have ob:=br (X:=[some t.cl]) h.o;have q:=br (X:=[some t.cl]) h.led.o;have s:=br (X:=[some t.cl]) h.led.r;have tp:∀u∈ts++[t],(S++[some t.cl])[u.p]?=some (some u.cl)/\u.Ok ca/\u.f≠"kind":=λu hu=>by
  rcases zec hu with hu|hu
  .exact⟨br (h.t u hu).1,(h.t u hu).2⟩
  .cases zeb hu
   exact⟨by rw[I];exact fY,ok,hk⟩
 have low:=λu hu=>(zea (tp u hu).1).1
 refine⟨by rw[zez<|Ne.symm<|mq g ob];exact ob,?_,λu hu=>⟨by rw[zez<|Ne.symm<|mq g (tp u hu).1];exact(tp u hu).1,(tp u hu).2⟩,⟨by rw[zez<|Ne.symm<|mq g q];exact q,by rw[zez<|Ne.symm<|nh g s (by intro e;cases e)];exact s,ir (sZ h.led.w rfl)<|Kk _ low,h.led.z,h.led.k⟩,by rw[zes];simp;lia,?_,?_,λu hu=>?_⟩
 .unfold ip;rw[zet (by rw[zes];lia)]
 .rw[ze0,List.nodup_append]
  refine⟨h.nd,by simp,λa ha c m=>?_⟩
  obtain⟨u,hu,rfl⟩:=List.mem_map.mp ha;cases zeb (m);exact hn u hu
 .rw[ze0,List.nodup_append]
  refine⟨h.np,by simp,λa ha c m=>?_⟩
  obtain⟨u,hu,rfl⟩:=List.mem_map.mp ha;cases zeb (show c∈[t.p]from m);have:=h.plt hu;rw[I];lia
 .rcases zec hu with hu|hu
  .exact h.u u hu
  .cases zeb hu;assumption
theorem So(h:Bk ca S b d i j ts l)(hn:Nm p n)(M:p<5)(ρ:∀t∈ts,t.n≠n)(hk:k<5)(I:S[q]?=some 9122) :
  fk ca S [.lc b,.lc q]=some (.ok (.pl<|qe "ok" 0 0)<|(S++9058).set d<|some<|.dct<|esT ts++9025):=by
 let N:=oB (bgC ca k) (bgW k) (bgF k) (bgD k)
 have a:PyData.strOk (cW (bgW k) 2)=true/\cW (bgW k) 2≠"account 1"/\bX.contains (cW (bgW k) 2)=true/\(bgW k).length<=80:=by
  rcases(show k=0\/k=1\/k=2\/k=3\/k=4 by lia)with rfl|rfl|rfl|rfl|rfl<;>decide+kernel
 have e:fS S.length ((S++[some N]).set d<|some<|.dct<|esT ts++9025)=(S++[some N]).set d (some<|.dct<|esT ts++9025):=esc (iu h.d) (zet (by rw[zes];have:=iu h.d;lia)) (O2 _)
 refine bY rfl (o:=.rt (.pl<|qe "ok" 0 0) ⟨(S++[some N]).set d<|some<|.dct<|esT ts++9025,[some<|.lc b,some<|.lc q,some<|.pl<|.str<|cW (bgW k) 2]⟩) ?_ (by simp only[retS,blV,if_true,e];rfl)
 refine ag (bZ (Fs (ws:=[n]) rfl (lg I) a.2.2.2 (by simp)) (by simp)) ?_
 refine ag (bh (zi rfl a.1 (by decide+kernel) a.2.1) rfl) (eu<|jh (c7<|test_ev (k:=.fz)<|MU (d0:=9012) 9041 (by show some (PyData.bool<|bX.contains<|cW (bgW k) 2,false)=_;rw[a.2.2.1]) rfl)<|bt<|cv (ar rfl) h.o rfl (ak (ar rfl) aY)<|dX<|Wa h hn M ρ hk I)
theorem Nm.wd(h:Nm k z)(hk:k<5):Wd z:=⟨λe=>by have:=h.low hk 32 e;lia,by have:=h.len;lia⟩
theorem Ks(h:n.natAbs<10^60):Wd (ba n):=⟨λe=>by rcases Txs.Fn e with e|e<;>omega,by have:=fX h;omega⟩
theorem Sq(h:Bk ca S b d i j ts l)(hn:Nm p n)(M:p<5)(ρ:∀t∈ts,t.n≠n)(hk:k<5)(hz:ts.length<100)(U:l.length<100)(ok:Tg.Ok ca ⟨n,S.length+1,bgC ca k,bgW k,bgF k,bgD k,0⟩)(I:ff ts=bu l)(h0 : 0<=bu l)(O:(bu l).natAbs<10^60) :
  ∃S',V7 ca S b d i j l (f9 [bgW k,n]) (bgW k) "ok" 0 0 (ts++9023) S'/\ff (ts++9023)=bu l:=by
 let t:Tg:=⟨n,S.length+1,bgC ca k,bgW k,bgF k,bgD k,0⟩
 let X:List (Option Cl):=[some<|Cl.dat<|.list<|[bgW k,n].map .str]
 have a:PyData.strOk (cW (bgW k) 2)=true/\(!decide (cW (bgW k) 2="account 1")&&(!bX.contains (cW (bgW k) 2)&& !(ia.lookup<|cW (bgW k) 2).isSome))=false/\(ck.lookup<|cW (bgW k) 2).getD []=[]/\(bgW k).length<=80/\32∉(bgW k).cps.toList/\bgF k≠"kind"/\PyData.strOk (bgW k)=true:=by
  rcases(show k=0\/k=1\/k=2\/k=3\/k=4 by lia)with rfl|rfl|rfl|rfl|rfl<;>decide+kernel
 have hw:g9 [.str<|f9 [bgW k,n]]=some (.list<|[bgW k,n].map .str,true):=GS (λx hx=>by
  rcases zed hx with rfl|hx
  .exact⟨a.2.2.2.2.1,a.2.2.2.1⟩
  .cases zeb hx;exact hn.wd M) (by simp) a.1 a.2.1 (λi hi=>by
  have:(ck.lookup<|cW (bgW k)<|[n].length+1).getD []=[]:=a.2.2.1;rw[this]at hi;cases hi)
 have q:=h.snoc (.list<|[bgW k,n].map .str);have s:=So q hn M ρ hk fY;have hm:=q.more (by show S.length+1=_;rw[zes];rfl) ρ ok a.2.2.2.2.2.1 (Jh k hk) hz
 have es:esT (ts++[t])=esT ts++[(Sum.inr n,.lc (S++X).length)]:=by unfold esT;rw[ze0];simp[t,X]
 have sc:ff (ts++[t])=bu l:=by unfold ff at I⊢;rw[ze0,List.sum_append,I];simp[t]
 rw[show(some (oB (bgC ca k) (bgW k) (bgF k)<|bgD k):Option Cl)=some t.cl from rfl,show(esT ts++[(Sum.inr n,SV.lc (S++[some<|Cl.dat<|.list<|[bgW k,n].map .str]).length)])=esT (ts++[t])from es.symm]at s;have hd:=iu h.d;have nq:S.length≠d:=by lia
 have o:(((S++X)++[some t.cl]).set d<|some<|.dct<|esT<|ts++[t])[S.length]?=some (some<|.dat<|.list<|[bgW k,n].map .str):=by
  rw[zez<|Ne.symm nq];exact br fY
 have u:=QH h hw s hm o (by lia) (by lia) (by rw[sc];exact h0) (by rw[sc];lia) (by decide+kernel) (by decide) (by decide) (by rw[sc];exact O)
 have ne:blC S.length (.dct<|esT<|ts++[t])=false:=by rw[es];exact Kr (by rw[zes];lia) _
 have g:fS S.length ((((((S++X)++[some t.cl]).set d<|some<|.dct<|esT<|ts++[t]).set d<|some<|.dct<|esT<|ts++[t]).set j<|some<|.dat<|rD<|l++[⟨bgW k,0,0,bu l,ff<|ts++[t]⟩]))=_:=esc hd (by
   rw[zez (λe:j=d=>nh h.d h.led.r (by intro e;cases e) e),zet (by rw[zeL];simp only[List.length_append];lia)]) ne
 rw[g]at u;refine⟨_,⟨u,hm.fix.enter _ a.2.2.2.2.2.2 U,λm c f h1 h2=>?_,by simp only[List.length_set,List.length_append];lia,.inr ne⟩,sc⟩
 have h3:=jt h.d f h1;rw[zez<|Ne.symm h2,zez<|Ne.symm h3,zez<|Ne.symm h3];exact br (br f)
end
theorem Wb(z:Str)(s p c:Int):EH z s p c=Txs.mk (Txs.sj (59::[32]) [z.cps.toList,(f9 [ba s,ba p,ba c]).cps.toList]):=by
 refine Cj ?_;have a:(("; ":Str)).cps.toList=[59,32]:=by decide+kernel
 have b:((" ":Str)).cps.toList=[32]:=by decide+kernel
 unfold EH f9;simp only[Ck,a,b,Txs.sj,Txs.mk,List.map_cons,List.map_nil,List.append_assoc]
theorem Wc : 59∉(f9 [ba s,ba p,ba c]).cps.toList:=by
 have h:∀n:Int,59∉(ba n).cps.toList:=λn e=>by rcases Txs.Fn e with e|e<;>lia
 unfold f9;simp only[Txs.sj,Txs.mk,List.map_cons,List.map_nil,List.mem_append,not_or];exact⟨⟨h s,by simp⟩,⟨h p,by simp⟩,h c⟩
theorem Sr(hz : 59∉z.cps.toList)(I:z.length<=500)(h1:s.natAbs<10^60)(h2:p.natAbs<10^60)(h3:c.natAbs<10^60):kW (.str<|EH z s p c) [.str "; "]=some (.list [.str z,.str<|f9 [ba s,ba p,ba c]],true):=by
 have e:Txt.split (EH z s p c) "; "= [z,f9 [ba s,ba p,ba c]]:=by
  rw[Wb,Txs.Gx (by decide+kernel) (by simp) (by decide+kernel) (by simp) (by
   intro w hw;rcases zed hw with rfl|hw
   .exact hz
   .cases zeb hw;exact Wc)]
  simp only[List.map_cons,List.map_nil,VE]
 have d:=fX h1;have g:=fX h2;have h:=fX h3;have a:(" ":Str).length=1:=by decide+kernel
 have b:("; ":Str).length=2:=by decide+kernel
 show cIf _ _ _=_;rw[e,bg ⟨by decide+kernel,by unfold EH;simp only[len_app];lia,by simp⟩]
 rfl
theorem M3(h:z.length<=1000):IE 9024 9066 9097:=gz (d0:=(.int 9097,false)) rfl (bg<|zeW h (by decide))
theorem Kt(h0 : 0<=n)(h:n.natAbs<10^60):wX [.fz<|.str<|ba n]=some (false,[.fz<|.str<|ba n]):=by
 obtain⟨m,rfl⟩:=Int.eq_ofNat_of_zero_le h0;have g:=fX h;have t1:az (za9 Gk<|af 0) [.fz<|.str<|ba (m:Int)]=some (true,[.fz<|.str<|ba (m:Int)]):=by
  refine test_ev (k:=.fz) ?_;show some (u5 (.bool<|Txt.isdigit<|ba (m:Int),false),_)=_;rw[Txs.L8];rfl
 refine JJ (wa t1) ?_
 by_cases h1 : 1<((ba (m:Int)).length:Int)
 .refine IB (o4 (qz (M3 (by lia)) de)<|zeG h1) ?_
  obtain⟨a,l,e⟩:=GQ m;have b:=(Txs.Dr m).trans e;have ha:a≠48:=by
   rintro rfl
   have:m=0:=Txs.J0 m (by rw[e];rfl)
   subst this;have:(ba ((0:Nat):Int)).length=1:=by decide+kernel
   lia
  have hi:(.fz (.str<|ba (m:Int))::[]:Rho)[0]?=some (.fz<|.str<|ba (m:Int)):=rfl;refine test_ev (k:=.fz) (bc (d0:=9026) (ah<|bc (d0:=(.str ⟨#[a]⟩,false)) (ah<|ax hi) rfl ?_) rfl ?_)
  .show cIf _ _ _=_
   rw[bg (zeW (g) (by decide)),b,oo];rfl
  .have hm:a∈Txs.dg m:=by rw[e];simp
   rw[Ci (As λc d=>by have:=Txs.Bl hm;simp at d;lia) (by decide+kernel),zeN]
   intro q;have:=congrArg (λz:Str=>z.cps.toList) q
   have h2 : [a]=[48]:=this;exact ha (by simpa using h2)
 .exact LC (o4 (qz (M3 (by lia)) de)<|zeN h1)
section
variable{ca:CA}{S:List<|Option Cl}{b d i j:Nat}{ts:List Tg}{l:List Ent}
def nums(s p c:Int):List Str:=[ba s,ba p,ba c]
theorem Y1(U:S[b]?=some (some<|.obj ca.cq fs))(hs:fs.lookup ("say":Str)=none)(h:i3 ca S 9110=some (.ok (.pl<|.str<|EH z s p c) S1))(hz : 59∉z.cps.toList)(O:z.length<=500)(n1 : 0<=s)(n2 : 0<=p)(n3 : 0<=c)(I:s.natAbs<10^60)(ρ:p.natAbs<10^60)(M:c.natAbs<10^60)(hS:S.length<=S1.length) :
  wY ca S 9110=some (.ok (.lc<|S1.length+2)<|S1++[some<|.dat<|.list [.str z,.str<|f9<|nums s p c],some<|.dat<|.list<|(nums s p c).map .str,some<|.dat<|.list [.str z,.int s,.int p,.int c]]):=by
 have A:=Sr hz O I ρ M;have wd:∀w∈nums s p c,Wd w:=λw hw=>by
  rcases zed hw with rfl|hw
  .exact Ks I
  rcases zed hw with rfl|hw
  .exact Ks ρ
  .cases zeb hw;exact Ks M
 have Q:=vf (by simp[nums]) wd (by simp[nums])
 let P:D:=.list [.str z,.str<|f9<|nums s p c]
 let N:D:=.list ((nums s p c).map .str)
 let T:SV->Option SV->Option SV->Option SV->List (Option SV):=λx a C E=>[some<|.lc b,some x,a,C,E]
 let X:SV:=.pl (.str A0)
 let y:SV:=.pl (.str<|EH z s p c)
 let u:List (Option SV):=[some<|.lc b,some X,some y,some<|.lc S1.length,none]
 let m:List (Option SV):=[some<|.lc b,some X,some y,some<|.lc S1.length,some<|.lc<|S1.length+1]
 let v:=S1++[some<|Cl.dat P]
 let g:=S1++[some<|Cl.dat P,some<|.dat N]
 have σ:∀{Y:List<|Option Cl},(S1++some (Cl.dat P)::Y)[S1.length]?=some (some<|.dat P):=by intro Y;rw[zeM<|zen _,Nat.sub_self];rfl
 have K:(g)[S1.length+1]?=some (some<|.dat N):=by rw[zeM (by lia),Nat.add_sub_cancel_left];rfl
 have B:∀{t:List<|Option SV} {Y:List<|Option Cl},t[3]?=some (some<|.lc S1.length)->(vw ⟨S1++some (Cl.dat P)::Y,t⟩)[3]?=some (.fz P):=λq=>pj q (lg σ)
 have p1:∀{t:List<|Option SV} {Y:List<|Option Cl},t[3]?=some (some<|.lc S1.length)->mOp gIx (af 3) (mC<|.int 1) (vw ⟨S1++some (Cl.dat P)::Y,t⟩)=some ((.str<|f9<|nums s p c,.fz),vw ⟨S1++some (Cl.dat P)::Y,t⟩):=λq=>bc (d0:=(.str<|f9<|nums s p c,false)) (ah<|ax<|B q) rfl rfl
 have sp:∀{t:List<|Option SV} {Y:List<|Option Cl},t[3]?=some (some<|.lc S1.length)->mBM kW 9124 (ae (mC<|.str " ") ao) (vw ⟨S1++some (Cl.dat P)::Y,t⟩)=some ((N,.new),vw ⟨S1++some (Cl.dat P)::Y,t⟩):=λq=>GO (rs:=[(.str " ",.fz)]) (ah<|p1 q) rfl Q
 have R:(vw ⟨g,m⟩)[4]?=some (.fz N):=pj rfl (lg K);have n4:∀n∈[s,p,c],0<=n/\n.natAbs<10^60:=λn hn=>by
  rcases zed hn with rfl|hn
  .exact⟨n1,I⟩
  rcases zed hn with rfl|hn
  .exact⟨n2,ρ⟩
  .cases zeb hn;exact⟨n3,M⟩
 have r:Rg (af 4) (vw ⟨g,m⟩)=some ((nums s p c).map .str,vw ⟨g,m⟩):=by
  unfold Rg;rw[ah<|ax R];rfl
 have F:u9 wX Cd [] ((nums s p c).map .str)=some []:=by
  simp only[nums,List.map_cons,List.map_nil,u9,Kt n1 I,Kt n2 ρ,Kt n3 M,Option.bind_some,Bool.false_eq_true,if_false]
 have G:u9 Hs wW [] ((nums s p c).map .str)=some [.int s,.int p,.int c]:=by
  have:=va (e:=wW) (ρn:=[]) (f:=λn:Int=>PyData.str<|ba n) [s,p,c] λn hn=>⟨_,ah (gz (d0:=(.int n,false)) rfl (by
   have O:=fX (n4 n hn).2;show cIf _ _ _=_;rw[bg (by lia),Txs.Qf<|Nat.lt_trans (n4 n hn).2 (by decide)];rfl))⟩
  exact this
 refine bY rfl (o:=.rt (.lc<|S1.length+2) ⟨g++[some<|.dat<|.list [.str z,.int s,.int p,.int c]],m⟩) ?_ (by
  have:blV S.length (.lc<|S1.length+2)=false:=zeN (by lia)
  simp only[retS,this,Bool.false_eq_true,if_false,g,List.append_assoc];rfl)
 refine ag (bZ (cv (ar rfl) U hs (ak (ar rfl) aY)<|dX h) (by simp)) ?_
 refine ag (bh (c7<|wa<|test_ev (k:=.fz)<|F5 9041<|PN _) rfl) ?_;refine ag (bZ (s':=⟨v,[some<|.lc b,some X,some y,none,none]⟩) (w4 (GO (rs:=[(.str "; ",.fz)]) 9041 rfl A) rfl) (by simp)) ?_
 refine ag (bh (c7<|JJ (o4 (Us (oY (k:=.fz)<|ah<|ax<|B rfl) de) rfl)<|o4 (Us (oY (k:=.fz)<|bz<|sp rfl) de) rfl) rfl) ?_;refine ag (bZ (x:=.lc<|S1.length+1) (s':=⟨g,u⟩) ?_ (by simp[u])) ?_
 .have:=w4 (s:=⟨v,u⟩) (sp rfl) (by simp only[N,ie,g5])
  simpa[v,g]using this
 refine ag (bh (c7<|test_ev (k:=.fz)<|bc (d0:=9026) (bz<|PK r F (by simp)) (bz<|f6 aX rfl (by simp)) rfl) rfl) ?_
 refine bt (?_:nO _ ⟨g,m⟩=_);have H:dY (ae 9125 ao) (vw ⟨g,m⟩)=some ((.list [.str z],.new),vw ⟨g,m⟩):=f6 (au (ah<|bc (d0:=(.str z,false)) (ah<|ax<|B rfl) rfl rfl) aX) rfl (by simp)
 have:=w4 (bc (bz H) (bz<|PK (fr:=[]) r G (by simp))<|ik [.str z] [.int s,.int p,.int c] (by simp)) rfl
 simpa[g]using this
end
structure LS(ca:CA)(S:List<|Option Cl)(b d i j u v:Nat)(ts:List Tg)(l:List Ent):Prop where
 bk:Bk ca S b d i j ts l
 hu:S[u]?=some (some<|.lst [.pl<|.int<|ly l,.pl<|.int<|lz l,.lc v,.pl<|.int<|bu l])
 hv:S[v]?=some (some<|.dat<|rD l)
 vj:v≠j
theorem Cq(l:List Ent)(e:Ent):ly (l++[e])=ly l+e.s:=by unfold ly;rw[ze0,List.sum_append];simp
theorem Cr(l:List Ent)(e:Ent):lz (l++[e])=lz l+e.p:=by unfold lz;rw[ze0,List.sum_append];simp
theorem Ay(l:List Ent)(e:Ent):bu (l++[e])=e.b:=by unfold bu;simp
section
variable{ca:CA}{S:List<|Option Cl}{b d i j u v:Nat}{ts:List Tg}{l:List Ent}
theorem Bk.put(h:Bk ca S b d i j ts l)(hk:S[k]?=some (some c))(I:isL c)(ρ:k≠j)(bl:blC S.length c'=true):Bk ca (S.set k<|some c') b d i j ts l:=by
 have nb:=w9 h.o hk I;have g:=w9 h.led.o hk I;have nd:=jt h.d hk I;refine⟨by rw[zez nb];exact h.o,?_,λt a=>?_,⟨by rw[zez g];exact h.led.o,by rw[zez ρ];exact h.led.r,ir h.led.w bl,h.led.z,h.led.k⟩,h.z,h.nd,h.np,h.u⟩
 .rw[<-h.d];unfold ip;rw[zez nd]
 .rw[zez<|w9 (h.t t a).1 hk I];exact h.t t a
def Bo(l:List Ent)(v:Nat):Cl:=.lst 9069
theorem gd{α:Type}{S:List α}{u v:Nat}{a c : α}(h1:S[u]?=some a)(h2:S[v]?=some c)(h:a≠c):u≠v:=by
 rintro rfl
 rw[h1]at h2;exact h (zeP h2)
theorem Bk.law(h:Bk ca S b d i j ts l)(hu:S[u]?=some (some<|Bo I v))(hv:S[v]?=some (some<|.dat<|rD I))(vj:v≠j):LS ca (((S.set v<|some<|.dat<|rD l).set u<|some<|Bo l v).set d<|some<|.dct<|esT ts) b d i j u v ts l/\∀(m:Nat) (c:Cl),S[m]?=some (some c)->isL c->m≠u->m≠v->(((S.set v<|some<|.dat<|rD l).set u<|some<|Bo l v).set d<|some<|.dct<|esT ts)[m]?=some (some c):=by
 have f:isL (Bo I v):=.inl ⟨_,rfl⟩;have g:isL (.dat<|rD I):=.inr ⟨_,rfl⟩;have n:=gd hu hv (by intro e;cases e)
 have t:=jt h.d hu f;have y:=jt h.d hv g;have o:=(zea hv).1;have x:=(zea hu).1;have w:=gd hu h.led.r (by intro e;cases e)
 have h1:=h.put hv g vj (c':=.dat<|rD l) rfl;have a:(S.set v<|some<|.dat<|rD l)[u]?=some (some<|Bo I v):=by rw[zez<|Ne.symm n];exact hu
 have h2:=h1.put a f w (c':=Bo l v) (by rw[zeL];simp[Bo,blC,B8,blV,o])
 refine⟨⟨h2.fix,?_,?_,vj⟩,λm c hm p q s=>?_⟩
 .rw[zez<|Ne.symm t,zet (by rw[zeL];exact x)];rfl
 .rw[zez<|Ne.symm y,zez n,zet o]
 .rw[zez<|Ne.symm<|jt h.d hm p,zez<|Ne.symm q,zez<|Ne.symm s];exact hm
theorem zk(h:a s=some (.ok y s1))(hv:s1.t[p]?=some (some<|.lc u))(hu:s1.S[u]?=some (some<|.lst xs))(I:ixN xs.length k=some q):dW a (AK (aq p)<|nLit<|.int k) s=some (.nx ⟨s1.S.set u<|some<|.lst<|xs.set q y,s1.t⟩):=by
 unfold dW;rw[o3 h]
 unfold AK;rw[o3<|ar hv,o3 hZ]
 simp only[XR,hu,I,Option.map_some]
theorem ju(hv:s.t[p]?=some (some<|.lc u))(hu:s.S[u]?=some (some<|.lst xs))(hx:atI xs k=some x):nIx (aq p) (nLit<|.int k) s=some (.ok x s):=iz (ar hv) hZ (by simp only[ixV,hu,hx])
theorem Ed(hv:s.t[p]?=some (some<|.lc u))(hu:s.S[u]?=some (some<|.dat<|.list xs))(hx:atI xs k=some x):nIx (aq p) (nLit<|.int k) s=some (.ok (.pl x) s):=iz (ar hv) hZ (by simp only[ixV,hu,hx,Option.map_some])
def Ct{a b:EN}{m n:Int}(h1:a s=some (.ok (.pl<|.int m) s1))(h2:b s1=some (.ok (.pl<|.int n) s2)):nOp fe a b s=some (.ok (.pl<|.int<|m+n) s2):=uf h1 h2 sX sX rfl
theorem Kw(h:LS ca S b d i j u v ts l)(H:V7 ca S b d i j l A0 w z s p ts' S1)(hr:kW (.str A0) [.str " "]=some (.list<|(w::ws).map .str,true))(I:PyData.strOk z=true)(hz : 59∉z.cps.toList)(hl:z.length<=500)(n1 : 0<=s)(n2 : 0<=p)(n3 : 0<=ff ts')(b1:s.natAbs<10^60)(b2:p.natAbs<10^60)(b3:(ff ts').natAbs<10^60)(le:ly l+s+ff ts'<=lz l+p) :
  ∃S',i4 ca S [.lc b,.lc u,.pl<|.str A0,.pl<|.str z,.pl<|.int p]=some (.ok 9043 S')/\LS ca S' b d i j u v ts' (l++[⟨w,s,p,bu l,ff ts'⟩])/\(∀(m:Nat) (c:Cl),S[m]?=some (some c)->isL c->m≠j->m≠u->m≠v->S'[m]?=some (some c))/\(S1.length=S.length->S'.length=S.length):=by
 let e:Ent:=⟨w,s,p,bu l,ff ts'⟩
 let R:D:=.list [.str z,.int s,.int p,.int<|ff ts']
 let X:List (Option Cl):=[some<|.dat<|.list [.str z,.str<|f9<|nums s p<|ff ts'],some<|.dat<|.list<|(nums s p<|ff ts').map .str,some<|.dat R]
 let f:=S1++X
 let k:=S1.length+2
 have ht:=Y1 h.bk.o rfl H.say hz hl n1 n2 n3 b1 b2 b3 H.le;have a:f[k]?=some (some<|.dat R):=by rw[zeM (by lia)];simp[k,X]
 have uj:=gd h.hu h.bk.led.r (by intro e;cases e)
 have O:S1[u]?=some (some<|Bo l v):=H.fr u _ h.hu (.inl ⟨_,rfl⟩) uj;have N:=H.fr v _ h.hv 9011 h.vj;have A:f[u]?=some (some<|Bo l v):=br O;have G:f[v]?=some (some<|.dat<|rD l):=br N;have E:Bk ca f b d i j ts' (l++[e]):=by
  have:=((H.bk.snoc<|.list [.str z,.str<|f9<|nums s p<|ff ts']).snoc<|.list<|(nums s p<|ff ts').map .str).snoc R;simpa[f,X]using this
 have uv:=gd h.hu h.hv (by intro e;cases e)
 have vl:=(zea G).1;have ul:=(zea A).1;have ku:=gd a A (by intro e;cases e)
 have kv:k≠v:=by have:=(zea N).1;lia
 let T:List (Option SV):=[some<|.lc b,some<|.lc u,some<|.pl<|.str A0,some<|.pl<|.str z,some<|.pl<|.int p,some<|.lc k]
 let c3:Cl:=.dat (rD<|l++[e])
 let x:=f.set v (some c3)
 have Y:x[u]?=some (some<|Bo l v):=by rw[zez<|Ne.symm uv];exact A
 have k3:x[k]?=some (some<|.dat R):=by rw[zez<|Ne.symm kv];exact a
 let U1:List SV:=[.pl<|.int<|ly l+s,.pl<|.int<|lz l,.lc v,.pl<|.int<|bu l]
 let U2:List SV:=[.pl<|.int<|ly l+s,.pl<|.int<|lz l+p,.lc v,.pl<|.int<|bu l]
 let y:List SV:=[.pl<|.int<|ly l+s,.pl<|.int<|lz l+p,.lc v,.pl<|.int<|ff ts']
 have ul3:u<x.length:=by rw[zeL];exact ul
 have C:∀c:Cl,(x.set u<|some c)[u]?=some (some c):=λc=>zet ul3
 have B:∀c:Cl,(x.set u<|some c)[k]?=some (some<|.dat R):=λc=>by rw[zez<|Ne.symm ku];exact k3
 have e4:Cl.lst y=Bo (l++[e]) v:=by unfold Bo;rw[Cq,Cr,Ay]
 obtain⟨Q,F2⟩:=E.law A G h.vj;obtain⟨L1,F1⟩:=H.bk.law O N h.vj
 let σ:=x.set u (some<|.lst y)
 have n:Bk ca σ b d i j ts' (l++[e]):=(E.put G 9011 h.vj rfl).put Y (.inl ⟨_,rfl⟩) uj (by simp[y,blC,B8,blV,vl])
 have W:=zg n;have run:GK ca ⟨S,[some<|.lc b,some<|.lc u,some<|.pl<|.str A0,some<|.pl<|.str z,some<|.pl<|.int p,none]⟩=some (.rt 9043 ⟨σ.set d<|some<|.dct<|esT ts',T⟩):=by
  refine ag (bZ (gZ (ak (ar rfl)<|ak (ar rfl) aY)<|dX ht) (by simp)) ?_
  have v5:(vw ⟨f,T⟩)[5]?=some (.fz R):=pj rfl (lg a);refine ag (bh (c7<|JJ (test_ev (k:=.fz)<|bc (d0:=9026) (ah<|ax v5) rfl rfl)<|JJ (test_ev (k:=.fz)<|bc (d0:=9026) (ah<|bc (d0:=(.str z,false)) (ah<|ax v5) rfl rfl) 9041 (by rw[Cg I I];simp))<|o4 (Us (bc (d0:=(.int p,false)) (ah<|ax v5) rfl rfl)<|bq<|dh rfl) (by simp)) rfl) ?_
  have w0:nO (mOp gIx (mBM kW (af 2)<|ae (mC<|.str " ") ao)<|mC<|.int 0) ⟨f,T⟩=some (.ok (.pl<|.str w) ⟨f,T⟩):=vh (bc (d0:=(.str w,false)) (bz<|GO (rs:=[(.str " ",.fz)]) 9041 rfl hr) rfl (by show(atI (PyData.str w::ws.map PyData.str) 0).map _=_;rw[oo];rfl)) rfl
  refine ag (ka<|Fq (d:=eD e) (ju rfl A rfl) G (ak (Au (ak w0<|ak (Ed rfl a rfl)<|ak (Ed rfl a rfl)<|ak (ju rfl A rfl)<|ak (Ed rfl a rfl) aY) rfl (by simp)) aY) G (by rw[zej];have:=h.bk.led.z;lia)) ?_
  have q3:(f.set v<|some<|Cl.dat<|.list<|l.map eD++[eD e])=x:=by simp only[x,c3,rD,List.map_append,List.map_cons,List.map_nil]
  rw[q3];refine ag (zk (Ct (ju rfl Y rfl)<|Ed rfl k3 rfl) rfl Y rfl) ?_;refine ag (zk (Ct (ju rfl (C _) rfl)<|Ed rfl (B _) rfl) rfl (C _) rfl) ?_;rw[List.set_set];refine ag (zk (Ed rfl (B _) rfl) rfl (C _) rfl) ?_;rw[List.set_set];refine bt (Qw (uf (Ct (ju rfl (C<|.lst y) rfl)<|Ed rfl (B<|.lst y) rfl) (ju rfl (C<|.lst y) rfl) sX sX ?_)<|uf (cv (ar rfl) n.o rfl aY<|dX W) (Ed (xs:=[.str z,.int s,.int p,.int<|ff ts']) rfl ?_ rfl) sX sX ?_)
  .show some (PyData.bool<|decide<|ly l+s+ff ts'<=lz l+p,false)=_
   rw[zeG le]
  .rw[zez<|Ne.symm<|jt n.d (B<|.lst y)<|.inr ⟨_,rfl⟩];exact B _
  .rw[pW];simp[ff]
 have e5:σ.set d (some<|.dct<|esT ts')=(((f.set v<|some<|.dat<|rD<|l++[e]).set u<|some<|Bo (l++[e]) v).set d<|some<|.dct<|esT ts'):=by rw[<-e4]
 by_cases g:S1.length=S.length
 .refine⟨9093,bY rfl run ?_,L1,λm c hm F Z ρ M=>F1 m c (H.fr m c hm F Z) F ρ M,λ_=>by rw[zeL,zeL,zeL,g]⟩
  have v1l:=(zea N).1;have U:=(zea O).1;have V:=iu H.bk.d;have e6:σ.set d (some<|.dct<|esT ts')=9093++X:=by
   rw[e5,List.set_append_left _ _ v1l,List.set_append_left _ _ (by rw[zeL];exact U),List.set_append_left _ _ (by rw[zeL,zeL];exact V)]
  have K:=ml (X:=X) L1.bk.led.w;rw[zeL,zeL,zeL,g]at K;simp only[retS,blV,if_true,e6];exact congrArg (λq=>some<|FR.ok (SV.pl<|.bool true) q) K
 .have g':=g
  replace g:=H.gc.resolve_left g
  refine⟨_,bY rfl run ?_,Q,λm c hm F Z ρ M=>F2 m c (br<|H.fr m c hm F Z) F ρ M,λq=>by contradiction⟩
  have K:=esc (iu h.bk.d) (zet<|iu n.d) g;simp only[retS,blV,if_true,K];rw[e5]
def Bk.Ee(h:Bk ca S b d i j ts l)(I:blC (S.length+1) c=true):Bk ca (S++[some c]) b d i j ts l:=⟨br h.o,Ft h.d,λt a=>⟨br (h.t t a).1,(h.t t a).2⟩,⟨br h.led.o,br h.led.r,sZ h.led.w I,h.led.z,h.led.k⟩,h.z,h.nd,h.np,h.u⟩
theorem Y2(l:List Ent)(c:Int)(hk:∀e∈l,PyData.strOk e.w=true):gEq (.list [rD l,.int c]) (.list [rD l,.int c])=some 9012:=by
 have a:SeqAt.shaped (.list [rD l,.int c])=true:=by
  unfold SeqAt.shaped;have h:=GU l;rw[zeG (by simp only[PyData.depth,PyData.depthAll];lia),Bool.and_true]
  have h2:PyData.canLay0 (rD l)=true:=by simp only[rD,PyData.canLay0,zd l hk]
  simp only[PyData.canLay0,PyData.canLayAll0,h2,Bool.and_true]
 unfold gEq;rw[if_pos ⟨a,a⟩,SeqAt.eqv_refl _<|SeqAt.canLay_of_shaped a]
theorem QI(h:Bk ca S b d i j ts l)(I:t[0]?=some (some<|.lc b)):m5 (aa (cz ca.cq "ledger" (fq<|dq ca) [] (aq 0) aj)<|aa (cz ca.cq "credit" (fq<|dZ ca) [] (aq 0) aj) aj) ⟨S,t⟩=some (.ok (.lc<|S.length+1) ⟨S.set d 9085++[some<|.dat<|rD l,some<|.lst [.lc S.length,.pl<|.int<|ff ts]],t⟩):=by
 have h1:=h.snoc (rD l);have e:(S++[some<|Cl.dat<|rD l]).set d 9085=S.set d 9085++[some<|Cl.dat<|rD l]:=List.set_append_left _ _ (iu h.d);have a:=zg h1;rw[e]at a;unfold m5;rw[c9<|ak (cv (ar I) h.o rfl aY<|dX<|zh h)<|ak (cv (ar I) h1.o rfl aY<|dX a) aY];refine(bg<|show 2<=sizeLine by decide).trans ?_
 simp[UD,mkL,mZ,ff]
theorem QJ(l:List Ent)(c:Int)(hn:S.length=n):Oy (S++[some<|.dat<|rD l,some<|.lst [.lc n,.pl<|.int c]]++X) (.lc<|n+1)=some (.list [rD l,.int c]):=by
 subst hn;have e:(S++[some<|Cl.dat<|rD l,some<|.lst [.lc S.length,.pl<|.int c]]++X)[S.length+1]?=some (some<|.lst [.lc S.length,.pl<|.int c]):=br (by rw[zeM (by lia)];simp)
 have a:(S++[some<|Cl.dat<|rD l,some<|.lst [.lc S.length,.pl<|.int c]]++X)[S.length]?=some (some<|.dat<|rD l):=br (by rw[zeM (by lia)];simp)
 simp only[Oy,e,JM,rdV,a,Option.bind_some,Option.map_some]
theorem We(h1:a s=some (.er x s1))(h2:I x.c=true)(h3:h s1=some (.nx s2)):LO a I h s=some (.nx s2):=by
 unfold LO;rw[h1];dsimp only;rw[if_pos h2,h3]
theorem Wf(h:Bk ca S b d i j ts l)(hw:g9 [.str A0]=some (.list<|(w::I).map .str,true))(ρ:∀S0,Bk ca S0 b d i j ts l->fk ca (S0++9049) [.lc b,.lc S0.length]=some (.er ⟨"Empty",none⟩<|S0++9020)) :
  oX ca S 9110=some (.ok 9043<|S.set d<|some<|.dct<|esT ts):=by
 let n:=S.length
 let S':=S.set d 9085
 have hn:S'.length=n:=zeL
 let P:List (Option Cl):=[some<|.dat<|rD l,some<|.lst [.lc n,.pl<|.int<|ff ts]]
 have h1:Bk ca (S'++P) b d i j ts l:=by
  have:=(h.fix.snoc<|rD l).Ee (c:=.lst [.lc n,.pl<|.int<|ff ts]) (by rw[zes,zeL];simp[blC,B8,blV,n];lia)
  simpa[P,S']using this
 have m:=zb7 h1 hw (ρ _ h1)
 let T:List (Option SV):=[some<|.lc b,some<|.pl<|.str A0,some<|.lc<|n+1,some<|.pl<|.bool true]
 have a:(S'++P).set d 9085=S'++P:=by
  rw[List.set_append_left _ _ (by rw[zeL];exact iu h.d),List.set_set]
 have f:=QI h1 (t:=T) rfl;rw[a]at f;refine bY rfl (o:=.rt 9043 ⟨S'++(P++9048),T⟩) ?_ ?_
 .refine ag (bZ (QI h rfl) (by simp)) ?_
  refine ag (bZ hZ (by simp)) ?_
  refine ag (s':=⟨S'++P,T⟩) ?_ (bt<|Qw (ar rfl) ?_)
  .exact We (VQ<|Jg (ar rfl) h1.o rfl (ak (ar rfl) aY) m) (by simp) (bZ hZ (by simp))
  .unfold zbW
   rw[c9<|ar rfl,c9 f];have p:=QJ l (ff ts) hn (X:=9048);have g:=QJ (S:=S'++P) l (ff ts) rfl (X:=[]);rw[zeQ]at g;rw[show Oy (S'++P++[some<|Cl.dat<|rD l,some<|.lst [.lc (S'++P).length,.pl<|.int<|ff ts]]) (.lc<|n+1)=some (.list [rD l,.int<|ff ts])from p,g,zeg,zeg,Y2 l _ h.led.k,zeg,zeC];rfl
 .have e:=ml (X:=P++9048) h.fix.led.w
  rw[hn]at e;exact congrArg (λq=>some<|FR.ok (SV.pl<|.bool true) q) e
end
structure DW(w:Str)(k:Nat)(K:List Str):Prop where
 fo:FO (cW w<|k+2)
 hk:ia.lookup (cW w<|k+2)=some K
 np:(ck.lookup<|cW w<|k+2).getD []=if k=0 then []else [2]
 wl:w.length<=80
 w32 : 32∉w.cps.toList
 ok:PyData.strOk w=true
theorem lk5{ca:CA}{α:Type}{a b c d e : α} : [(ca.iZ,a),(ca.cu,b),(ca.Queue,c),(ca.bW,d),(ca.cn,e)].lookup ca.iZ=some a/\[(ca.iZ,a),(ca.cu,b),(ca.Queue,c),(ca.bW,d),(ca.cn,e)].lookup ca.cu=some b/\[(ca.iZ,a),(ca.cu,b),(ca.Queue,c),(ca.bW,d),(ca.cn,e)].lookup ca.Queue=some c/\[(ca.iZ,a),(ca.cu,b),(ca.Queue,c),(ca.bW,d),(ca.cn,e)].lookup ca.bW=some d/\[(ca.iZ,a),(ca.cu,b),(ca.Queue,c),(ca.bW,d),(ca.cn,e)].lookup ca.cn=some e:=by
 fail "qd"
 refine⟨by simp[List.lookup],?_,?_,?_,?_⟩
 .simp[List.lookup,beq_eq_false_iff_ne.mpr<|Ne.symm this.1.1]
 .simp[List.lookup,beq_eq_false_iff_ne.mpr<|Ne.symm this.1.2.1,beq_eq_false_iff_ne.mpr<|Ne.symm this.2.1.1]
 .simp[List.lookup,beq_eq_false_iff_ne.mpr<|Ne.symm this.1.2.2.1,beq_eq_false_iff_ne.mpr<|Ne.symm this.2.1.2.1,beq_eq_false_iff_ne.mpr<|Ne.symm this.2.2.1.1]
 .simp[List.lookup,beq_eq_false_iff_ne.mpr<|Ne.symm this.1.2.2.2.1,beq_eq_false_iff_ne.mpr<|Ne.symm this.2.1.2.2.1,beq_eq_false_iff_ne.mpr<|Ne.symm this.2.2.1.2.1,beq_eq_false_iff_ne.mpr<|Ne.symm this.2.2.2.1.1]
def nws(o:Option Int):List Str:=match o with
 |none=>[]
 |some m=>[ba m]
def nwl(o:Option Int):Nat:=match o with
 |none=>0
 |some _=>1
theorem Fu(o:Option Int):(nws o).length=nwl o:=by cases o<;>rfl
theorem Bp(I:DW w (nwl o) K)(hn:Nm k n)(hk:k<5)(ρ:∀m,o=some m->m.natAbs<10^60):g9 [.str<|f9 (w::n::nws o)]=some (.list<|(w::n::nws o).map .str,true)/\kW (.str<|f9 (w::n::nws o)) [.str " "]=some (.list<|(w::n::nws o).map .str,true):=by
 have a:(n::nws o).length+1=nwl o+2:=by rw[zeu,Fu]
 have wd:∀x∈w::n::nws o,Wd x:=λx hx=>by
  rcases zed hx with rfl|hx
  .exact⟨I.w32,I.wl⟩
  rcases zed hx with rfl|hx
  .exact hn.wd hk
  cases o with
  |none=>cases hx
  |some m=>cases zeb hx;exact Ks (ρ m rfl)
 have b:(w::n::nws o).length<=5:=by rw[zeu,a];cases o<;>simp[nwl]
 refine⟨GS wd (by simp only[List.length_cons]at b⊢;lia) (by rw[a];exact I.fo.ok) (by rw[a,I.hk];simp) λi hi=>?_,vf (by simp) wd b⟩
 rw[a,I.np]at hi;cases o with
 |none=>cases hi
 |some m=>
  cases zeb hi;exact⟨m,ρ m rfl,rfl⟩
section
variable{ca:CA}{S:List<|Option Cl}{b d i j u v:Nat}{l:List Ent}{A B:List Tg}{t:Tg}
theorem Ss(h:Bk ca S b d i j (A++t::B) l)(I:DW w (nwl o) K)(hn:Nm k t.n)(hk:k<5)(ho:∀m,o=some m->m.natAbs<10^60)(M:K.contains t.kd=true)(U:(Dy ca).lookup t.C=some f)(hd:t.f≠"do")
  (hr:∀(S0:List<|Option Cl) (q:Nat),Obj S0 t.p t.C t.kd t.f t.d->rdV S0 (.lc q)=some (.list<|(w::nws o).map .str)->f S0 [.lc t.p,.lc q]=some (.ok (.pl<|qe z s p)<|S0.set t.p<|some<|oB t.C t.kd t.f e)) (ok:Tg.Ok ca ⟨t.n,t.p,t.C,t.kd,t.f,e,c⟩) (Y:l.length<100)
  (hs : 0<=s) (hp : 0<=p) (O : 0<=ff 9042) (le:s+ff 9042<=bu l+p) (ρ:z.length<=500) (b0:bu l<=1000) (b3:p<=1000) :
  ∃S1,V7 ca S b d i j l (f9 (w::t.n::nws o)) w z s p 9042 S1/\S1.length=S.length:=by
 have r:t∈A++t::B:=by simp
 have y:=h.snoc (.list<|(w::t.n::nws o).map .str);have g:=y.snoc (.list<|(w::nws o).map .str);have ll:(nws o).length<=3:=by rw[Fu];cases o<;>simp[nwl]
 have a:=VY y r hn hk fY I.wl ll (by rw[Fu];exact I.hk) M (by rw[Fu];exact I.fo) U hd (hr _ _ ⟨(g.t t r).1,g.led.w,(g.t t r).2.2⟩<|lg fY)
 rw[List.set_append_left _ _<|h.plt r]at a;refine⟨_,V8 h (Bp I hn hk ho).1 I.ok Y a (h.upd ok) zeL (λm x hm hx=>?_) hs hp O le ρ (by lia) (by lia) (by lia),by simp only[List.length_set]⟩
 rw[zez<|Ne.symm<|w9 (h.t t r).1 hm hx];exact hm
theorem zb9(ρ:t∈ts)(I:DW w 0 K)(hn:Nm k t.n)(hk:k<5)(M:K.contains t.kd=true)(O:(Dy ca).lookup t.C=some f)(hd:t.f≠"do")
  (U:∀(S0:List<|Option Cl) (q:Nat),Obj S0 t.p t.C t.kd t.f t.d->rdV S0 (.lc q)=some (.list [.str w])->f S0 [.lc t.p,.lc q]=some (.er x S0)) (S0:List<|Option Cl) (h:Bk ca S0 b d i j ts l):fk ca (S0++[some<|.dat<|.list<|[w,t.n].map .str]) [.lc b,.lc S0.length]=some (.er x<|S0++[some<|Cl.dat<|.list<|[w,t.n].map .str]):=by
 have c:=h.snoc (.list<|[w,t.n].map .str);have a:=c.snoc (.list<|[w].map .str);exact M0 c ρ hn hk fY I.wl (by simp) I.hk M I.fo O hd (U _ _ ⟨(a.t t ρ).1,a.led.w,(a.t t ρ).2.2⟩<|lg fY)
end
theorem Ef(h:(PyData.strOk (cW w<|k+2)&& !decide (cW w (k+2)="account 1")&& !bX.contains (cW w<|k+2)&& !decide (cW w (k+2)="cut 4")&& !decide (cW w (k+2)="tie 3")&& !decide (cW w (k+2)="pour 3")&&decide (ia.lookup (cW w<|k+2)=some K)&&decide ((ck.lookup<|cW w<|k+2).getD []=if k=0 then []else [2])&&decide (w.length<=80)&& !w.cps.toList.contains 32&&PyData.strOk w)=true):DW w k K:=by
 simp only[Bool.and_eq_true,Bool.not_eq_true',decide_eq_false_iff_not,decide_eq_true_eq]at h;obtain⟨⟨⟨⟨⟨⟨⟨⟨⟨⟨h1,h2⟩,h3⟩,h4⟩,c⟩,d⟩,f⟩,g⟩,i⟩,a⟩,b⟩:=h;exact⟨⟨h1,h2,h3,h4,c,d⟩,f,g,i,(λe=>by rw[List.contains_iff_mem.mpr e]at a;cases a),b⟩
theorem ZU:DW "up" 0 ["bits","figures"]:=Ef (by decide+kernel)
theorem zdi:∀u,DW (wUD u) 0 (match u with|true=>["bits","figures"]|false=>["figures"])
 |true=>ZU
 |false=>Ef (by decide+kernel)
theorem Wg:DW "put" 1 ["queue","room","tree"]:=Ef (by decide+kernel)
theorem Fv:DW "take" 0 ["queue","room"]:=Ef (by decide+kernel)
theorem zdj:∀u,DW (wFL u) 1 ["double"]
 |true=>Ef (by decide+kernel)
 |false=>Ef (by decide+kernel)
theorem ZV:∀u,DW (wSP u) 0 ["double"]
 |true=>Ef (by decide+kernel)
 |false=>Ef (by decide+kernel)
structure LD(S:List<|Option Cl)(W x y z N:Nat)(ns:List Str)(nb nf:Int)(q e r:List Int):Prop where
 hw:S[W]?=some (some<|.lst [.pl<|.int nb,.pl<|.int nf,.lc x,.lc y,.lc z])
 hx:S[x]?=some (some<|.dat<|.list<|q.map .int)
 hy:S[y]?=some (some<|.dat<|.list<|e.map .int)
 hz:S[z]?=some (some<|.dat<|.list<|r.map .int)
 hn:S[N]?=some (some<|.dat<|.list<|ns.map .str)
 xy:x≠y
 xz:x≠z
 yz:y≠z
 xn:x≠N
 yn:y≠N
 zn:z≠N
theorem row2(h:a.cps.toList=w.cps.toList++[32]):a++n=f9 [w,n]:=by
 refine Cj ?_;unfold f9;simp only[Ck,h,Txs.sj,Txs.mk,List.map_cons,List.map_nil,List.append_assoc]
theorem zdk(h:a.cps.toList=w.cps.toList++[32]):a++n++" "++m=f9 [w,n,m]:=by
 have d:((" ":Str)).cps.toList=[32]:=by decide+kernel
 refine Cj ?_;unfold f9;simp only[Ck,h,d,Txs.sj,Txs.mk,List.map_cons,List.map_nil,List.append_assoc]
section
variable{ca:CA}{S:List<|Option Cl}{W x y z N:Nat}{nb nf:Int}{q e r:List Int}
theorem Wh{m:MN<|List SV}{s s1 s2:SS}{k:Nat}{ds ρ I:List D}{d:D}{xs:List SV}(h:a s=some (.ok (.lc k) s1))(h0:s1.S[k]?=some (some<|.dat<|.list ds))(h1:m s1=some (.ok xs s2))(ha:mZ xs=some ρ)(h2:s2.S[k]?=some (some<|.dat<|.list ds))(h3:f ds ρ=some (I,d)):nMt f a m s=some (.ok (.pl d) ⟨s2.S.set k<|some<|.dat<|.list I,s2.t⟩):=by
 unfold nMt LN;rw[c9 h];simp only[LM,h0,if_true];rw[c9 h1];simp only[zbF,ha,Option.bind_some,h2,h3,Option.map_some]
theorem Bq(w:fh S.length S=true)(hx:S[x]?=some (some<|.dat<|.list []))(i:Int):jr ca S [.lc x,.pl<|.int i]=some (.ok (.pl .none) S):=by
 refine bY rfl (eu<|jh (c7<|test_ev (k:=.fz)<|bc (ah<|ax<|pj rfl<|lg hx) (bz<|f6 aX rfl (by simp))<|FW [] [])<|bt hZ) (by simp only[retS,blV,if_true,ji w])
theorem Br(w:fh S.length S=true)(hx:S[x]?=some (some<|.dat<|.list<|q.map .int))(u:Bool)(I:q=if u then n::p else p++[n])(hn:n.natAbs<10^60):jr ca S [.lc x,.pl<|.int<|if u then 0 else-1]=some (.ok (.pl<|.str<|ba n)<|S.set x<|some<|.dat<|.list<|p.map .int):=by
 have d:q≠[]:=by rw[I];cases u<;>simp
 have f:JE (q.map .int) [.int<|if u then 0 else-1]=some (p.map .int,.int n):=by
  show cIf _ _ _=_;rw[bg (by cases u<;>decide)]
  cases u with
  |true=>subst I;simp[seqIndex?]
  |false=>
   subst I;have:seqIndex? (-1) (List.map PyData.int<|p++[n]).length=some p.length:=by
    unfold seqIndex?;simp only[List.length_map,List.length_append,List.length_cons,List.length_nil];rw[if_pos (show(-1:Int)<0 by decide),if_pos (by simp only[Bool.and_eq_true,decide_eq_true_eq];lia)]
    congr 1;lia
   simp only[Bool.false_eq_true,if_false];rw[this,zeg,ze0,zeM (by simp),zej,Nat.sub_self]
   rw[show p.length=(List.map PyData.int p).length by simp,List.eraseIdx_append_of_length_le<|zen _]
   simp
 refine bY rfl (ag (bh (c7<|test_ev (k:=.fz)<|bc (ah<|ax<|pj rfl<|lg hx) (bz<|f6 aX rfl (by simp))<|(FW q []).trans (by rw[zeN d])) rfl)<|bt<|mm (ak (Wh (ar rfl) hx (ak (ar rfl) aY) rfl hx f) aY) rfl<|kr hn) ?_
 simp only[retS,blV,if_true,zc w (c:=.dat<|.list<|p.map .int) rfl]
end
def wL(nb nf:Int)(x y z:Nat):Cl:=.lst [.pl<|.int nb,.pl<|.int nf,.lc x,.lc y,.lc z]
def dL(q:List Int):Cl:=.dat (.list<|q.map .int)
inductive EI(S:List<|Option Cl)(W x y z:Nat)(n0 n1 n2 n3 n4:Str)(nb nf:Int)(q e r:List Int):Str->D->Int->List (Option Cl)->Prop
 |bits:EI S W x y z n0 n1 n2 n3 n4 nb nf q e r (f9 ["up",n0]) (.str (ba (nb+1))) 2 (S.set W (some (wL (nb+1) nf x y z)))
 |DG (u:Bool):EI S W x y z n0 n1 n2 n3 n4 nb nf q e r (f9 [wUD u,n1]) (.str (ba (nf+mvb u))) 2 (S.set W (some (wL nb (nf+mvb u) x y z)))
 |zdl (m:Int) (hm:m.natAbs<10^60):EI S W x y z n0 n1 n2 n3 n4 nb nf q e r (f9 ["put",n2,ba m]) (.str (ba ((q.length+1:Nat):Int))) 2 (S.set x (some (dL (q++[m]))))
 |zdm (m:Int) (hm:m.natAbs<10^60):EI S W x y z n0 n1 n2 n3 n4 nb nf q e r (f9 ["put",n4,ba m]) (.str (ba ((r.length+1:Nat):Int))) 3 (S.set z (some (dL (r++[m]))))
 |dput (u:Bool) (m:Int) (hm:m.natAbs<10^60):EI S W x y z n0 n1 n2 n3 n4 nb nf q e r (f9 [wFL u,n3,ba m]) (.str (ba ((e.length+1:Nat):Int))) 2 (S.set y (some (dL (if u then m::e else e++[m]))))
 |ZW (h:q=[]):EI S W x y z n0 n1 n2 n3 n4 nb nf q e r (f9 ["take",n2]) .none 1 S
 |ZX (h:r=[]):EI S W x y z n0 n1 n2 n3 n4 nb nf q e r (f9 ["take",n4]) .none 2 S
 |ZY (u:Bool) (h:e=[]):EI S W x y z n0 n1 n2 n3 n4 nb nf q e r (f9 [wSP u,n3]) .none 2 S
 |ZZ (m:Int) (p:List Int) (h:q=m::p):EI S W x y z n0 n1 n2 n3 n4 nb nf q e r (f9 ["take",n2]) (.str (ba m)) 1 (S.set x (some (dL p)))
 |Z0 (m:Int) (p:List Int) (h:r=p++[m]):EI S W x y z n0 n1 n2 n3 n4 nb nf q e r (f9 ["take",n4]) (.str (ba m)) 2 (S.set z (some (dL p)))
 |Z1 (u:Bool) (m:Int) (p:List Int) (h:e=if u then m::p else p++[m]):EI S W x y z n0 n1 n2 n3 n4 nb nf q e r (f9 [wSP u,n3]) (.str (ba m)) 2 (S.set y (some (dL p)))
theorem ends(u:Bool):∀e:List Int,e=[]\/∃m p,e=if u then m::p else p++[m]
 | []=>.inl rfl
 |m::p=>.inr (match u with
  |true=>⟨m,p,rfl⟩
  |false=>⟨(m::p).getLast (by simp),(m::p).dropLast,(List.dropLast_concat_getLast (by simp)).symm⟩)
theorem ix2(a b:D)(u:Bool):gIx (.list [a,b]) (.int<|if u then 0 else 1)=some (if u then a else b,false):=by cases u<;>rfl
theorem AR{A B C:D}(h1:a s=some (.ok (.pl A) s1))(h2:b s1=some (.ok (.pl B) s2))(h3:c s2=some (.ok (.pl C) I)):lZ (aa a<|aa b<|aa c aj) s=some (.ok (.pl<|.tuple [A,B,C]) I):=Au (ak h1<|ak h2<|ak h3 aY) rfl (by simp)
section
variable{ca:CA}{S:List<|Option Cl}{W x y z N:Nat}{n0 n1 n2 n3 n4:Str}{nb nf:Int}{q e r:List Int}
def QK{m:PM}{d:D}(h:m (vw s)=some ((d,.fz),vw s))(I:pf d=true):nO m s=some 9089:=vh h I
theorem two_lst:dY (ae (mC<|.str a)<|ae (mC<|.str b) ao) L=some ((.list [.str a,.str b],.new),L):=f6 rfl rfl (by simp)
theorem Y3(h:LD S W x y z N [n0,n1,n2,n3,n4] nb nf q e r)(w:fh S.length S=true)(l0:n0.length<=8)(l1:n1.length<=8)(l2:n2.length<=8)(l3:n3.length<=8)(l4:n4.length<=8)(bb:nb.natAbs<=1000)(bf:nf.natAbs<=1000)(zq:q.length<=1000)(ze:e.length<=1000)(zr:r.length<=1000)(hq:∀m∈q,m.natAbs<10^60)(he:∀m∈e,m.natAbs<10^60)(hr:∀m∈r,m.natAbs<10^60)(c:Int) :
  ∃A0 I p S',f7 ca S 9034=some (.ok (.pl<|.tuple [.str A0,I,.int p]) S')/\EI S W x y z n0 n1 n2 n3 n4 nb nf q e r A0 I p S':=by
 obtain⟨m,hm,bm⟩:=Sa (c/12/2)
 let k:=c%12
 let g:=c/12
 let T:Option SV->List (Option SV):=λa=>[some<|.lc N,some<|.lc W,some<|.pl<|.int c,some<|.pl<|.int k,some<|.pl<|.int g,some<|.pl<|.int m,a]
 have xl:=(zea h.hx).1;have yl:=(zea h.hy).1;have zl:=(zea h.hz).1;have wl:=(zea h.hw).1;have wn:=gd h.hw h.hn (by intro e;cases e)
 have head:∀{R:SN} {Y S':List<|Option Cl} {t:List<|Option SV} {a:D},fS S.length Y=S'->R ⟨S,T none⟩=some (.rt (.pl a) ⟨Y,t⟩)->fnS 3 4 (a6 (dW (nO<|mOp vY (af 2)<|mC<|.int 12)<|ngN 3)<|a6 (dW (nO<|mOp pz (af 2)<|mC<|.int 12)<|ngN 4)<|a6 (dW (nO<|dz mi<|ae (mOp pz (af 4)<|mC<|.int 2) ao)<|ngN 5) R) S 9034=some (.ok (.pl a) S'):=fun{R Y S' t a} h1 h2=>by
  refine bY rfl (o:=.rt (.pl a) ⟨Y,t⟩) ?_ (by simp only[retS,blV,if_true,h1])
  refine ag (bZ (sY<|yq 9056 de (by decide)) (by simp)) ?_
  refine ag (bZ (sY<|qy 9056 de ⟨by decide,by decide⟩) (by simp)) ?_
  refine ag (bZ (sY<|PL (au (ah<|qy 9056 de ⟨by decide,by decide⟩) aX) hm) (by simp)) ?_
  exact h2
 have j:∀(n:Int) {a:Option SV} {v:Bool},decide (k<n)=v->nTo (az<|mOp gLt (af 3)<|mC<|.int n) ⟨S,T a⟩=some (.ok v ⟨S,T a⟩):=λn a v hv=>c7 (o4 (LF 9056 de) hv)
 have f:∀(n:Int) {a:Option SV} {v:Bool},decide (k=n)=v->az (mOp gEq (af 3)<|mC<|.int n) (vw ⟨S,T a⟩)=some (v,vw ⟨S,T a⟩):=λn a v hv=>o4 (Ur 9056 de) hv
 have v0:∀{S':List<|Option Cl} {a:Option SV},S'[N]?=some 9051->(vw ⟨S',T a⟩)[0]?=some (.fz<|.list<|[n0,n1,n2,n3,n4].map .str):=λhN=>pj rfl (lg hN)
 have Q:∀{S':List<|Option Cl} {a:Option SV} {i:Int} {n:Str},S'[N]?=some 9051->atI 9037 i=some (.str n)->mOp gIx (af 0) (mC<|.int i) (vw ⟨S',T a⟩)=some ((.str n,.fz),vw ⟨S',T a⟩):=fun{S' a i n} hN hi=>bc (d0:=(.str n,false)) (ah<|ax<|v0 hN) rfl (by show(atI _ i).map _=_;rw[hi];rfl)
 have gl:∀{a b:Str} {u:Bool} {i:PM} {L:Rho},IE i L (if u then 0 else 1)->mOp gIx (dY<|ae (mC<|.str a)<|ae (mC<|.str b) ao) i L=some ((.str<|if u then a else b,.fz),L):=fun{a b u i L} hi=>by
  have:=bc (d0:=(if u then PyData.str a else .str b,false)) (bz two_lst) (ah hi) (ix2 (.str a) (.str b) u)
  cases u<;>exact this
 have nS:∀t (V:Cl),t≠N->(S.set t<|some V)[N]?=some 9051:=λt V ht=>by rw[zez ht];exact h.hn
 have bl:∀a b,blC S.length (wL a b x y z)=true:=λa b=>by simp[wL,blC,B8,blV,xl,yl,zl]
 have gw:∀V:Cl,(S.set W<|some V)[W]?=some (some V):=λV=>zet wl
 by_cases h2:k<2
 .refine⟨_,_,_,_,head (t:=T none) (zc w<|bl _ _) ?_,.bits⟩
  refine eu (jh (j 2<|zeG h2)<|ag (zk (q:=0) (Ct 9053 hZ) rfl h.hw rfl) ?_);have H:=i8 (show mC (.str "up ") (vw ⟨S.set W<|some<|wL (nb+1) nf x y z,T none⟩)=some ((.str "up ",.fz),_)from rfl) (Q (nS W _ wn)<|show atI 9037 0=some (.str n0)from rfl) (by have:("up ":Str).length=3:=(by decide+kernel);lia)
  rw[row2 (w:="up") (by decide+kernel)]at H
  exact bt (AR (s1:=⟨S.set W<|some<|wL (nb+1) nf x y z,T none⟩) (vh H rfl) (mm (ds:=[.int<|nb+1]) (ak (ju rfl (gw _) rfl) aY) rfl<|kr (by lia)) hZ)
 by_cases G:k<6
 .let u:=decide (k<4)
  have hu:k/4=if u then 0 else 1:=by by_cases h4:k<4<;>simp only[u,h4,decide_true,decide_false,if_true,if_false,Bool.false_eq_true]<;>lia
  have hv:nf+1-2*(k/4)=nf+mvb u:=by rw[hu];cases u<;>simp[mvb]<;>lia
  refine⟨_,_,_,_,head (t:=T none) (zc w<|bl _ _) ?_,.DG u⟩;have d4:∀{S':List<|Option Cl},IE (mOp pz (af 3)<|mC<|.int 4) (vw ⟨S',T none⟩) (k/4):=qy 9056 de ⟨by decide,by decide⟩
  have Z:dW (nOp ql (nOp fe 9031<|nLit<|.int 1)<|nO<|mOp BW 9123<|mOp pz (af 3)<|mC<|.int 4) (AK (aq 1)<|nLit<|.int 1) ⟨S,T none⟩=some (.nx ⟨S.set W<|some<|wL nb (nf+mvb u) x y z,T none⟩):=by
   refine zk (q:=1) (uf (g:=ql) (Ct 9053 hZ) (sY<|F4 de d4<|IntMulOk.of_left (by decide)) sX sX ?_) rfl h.hw rfl
   show some (PyData.int<|nf+1-2*(k/4),false)=_;rw[hv]
  refine ag 9038 (eu<|jh (j 6<|zeG G)<|ag Z ?_);have H:=i8 (gl (a:="up ") (b:="down ")<|hu▸d4 (S':=S.set W<|some<|wL nb (nf+mvb u) x y z)) (Q (nS W _ wn)<|show atI 9037 1=some (.str n1)from rfl) (by cases u<;>simp only[if_true,if_false,Bool.false_eq_true]<;>have:("up ":Str).length=3:=(by decide+kernel)<;>have:("down ":Str).length=5:=(by decide+kernel)<;>lia)
  rw[row2 (w:=wUD u) (by cases u<;>decide+kernel)]at H
  exact bt (AR (vh H rfl) (mm (ak (ju rfl (gw _) rfl) aY) rfl<|kr (by cases u<;>simp only[mvb]<;>lia)) hZ)
 by_cases σ:k=6\/k=8
 .let u:=decide (k=6)
  have hu:k/8=if u then 0 else 1:=by rcases σ with h|h<;>simp[u,h]
  let t:=if u then x else z
  let ρ:=if u then q else r
  have ht:S[t]?=some (some<|dL ρ):=by cases l:u<;>simp only[t,ρ,l,if_true,if_false,Bool.false_eq_true]<;>first|exact h.hx|exact h.hz
  have tn:t≠N:=by cases l:u<;>simp only[t,l,if_true,if_false,Bool.false_eq_true]<;>first|exact h.xn|exact h.zn
  have lL:ρ.length<=1000:=by cases l:u<;>simp only[ρ,l,if_true,if_false,Bool.false_eq_true]<;>assumption
  have tl:=(zea ht).1;have d0:f7 ca S 9034=some (.ok (.pl<|.tuple [.str<|f9 ["put",if u then n2 else n4,ba m],.str<|ba ((ρ.length+1:Nat):Int),.int<|if u then 2 else 3])<|S.set t<|some<|dL<|ρ++[m]):=by
   let X:List (Option Cl):=[some<|.lst [.lc x,.lc z]]
   have M:=ml (X:=X) (ir w (k:=t) (c:=dL<|ρ++[m]) rfl);rw[zeL]at M;have d8:∀{S':List<|Option Cl} {a:Option SV},IE (mOp pz (af 3)<|mC<|.int 8) (vw ⟨S',T a⟩) (if u then 0 else 1):=fun{S' a}=>hu▸qy 9056 de ⟨by decide,by decide⟩
   refine head (t:=T<|some<|.lc t) M ?_;have Z:dW 9068 (ngN 6) ⟨S,T none⟩=some (.nx ⟨S++X,T<|some<|.lc t⟩):=by
    have e0:m5 (aa (nIx (aq 1)<|nLit<|.int 2)<|aa (nIx (aq 1)<|nLit<|.int 4) aj) ⟨S,T none⟩=some (.ok 9117 ⟨S++X,T none⟩):=by
     unfold m5;rw[c9<|ak 9053<|ak 9053 aY];refine(bg<|show 2<=sizeLine by decide).trans ?_
     rfl
    refine bZ (iz e0 (sY d8) ?_) (by simp[T])
    simp only[ixV,X,fY,t];cases u<;>rfl
   have g6:(S++X)[t]?=some (some<|dL ρ):=br ht;have H:jn (Hx (aq 6)<|aa (aq 5) aj) ⟨S++X,T<|some<|.lc t⟩=some (.nx ⟨S.set t 9082++X,T<|some<|.lc t⟩):=by
    have:=ka (Fq (s1:=⟨S++X,T<|some<|.lc t⟩) (ar (i:=6) rfl) g6 (ak (ar (i:=5) rfl) aY) g6 (by rw[zej];lia))
    rw[this,List.set_append_left _ _ tl];simp only[dL,List.map_append,List.map_cons,List.map_nil]
   have n6:(S.set t 9082++X)[N]?=some 9051:=br (nS t _ tn);have t6:(S.set t 9082++X)[t]?=some 9082:=br (zet tl);have C:nTo (mOr (az<|mOp gEq (af 3)<|mC<|.int 6)<|az<|mOp gEq (af 3)<|mC<|.int 8) ⟨S,T none⟩=some (.ok true ⟨S,T none⟩):=by
    rcases σ with G|h8
    .exact c7 (zdT<|f 6<|zeG G)
    .exact c7 (JJ (f 6<|zeN (by lia))<|f 8<|zeG h8)
   refine ag 9038 (ag 9061<|eu<|jh C<|ag Z<|ag H<|bt ?_);refine AR (QK ?_ rfl) (QK ?_ rfl) (QK ?_ rfl)
   .have p1:("put ":Str).length=4:=by decide+kernel
    have p2:(" ":Str).length=1:=by decide+kernel
    have p3:=fX bm;have ln:(if u then n2 else n4).length<=8:=by cases u<;>simp<;>assumption
    have en:mOp gIx (dY<|ae (mOp gIx (af 0)<|mC<|.int 2)<|ae (mOp gIx (af 0)<|mC<|.int 4) ao) (mOp pz (af 3)<|mC<|.int 8) (vw ⟨S.set t 9082++X,T<|some<|.lc t⟩)=some ((.str<|if u then n2 else n4,.fz),vw ⟨S.set t 9082++X,T<|some<|.lc t⟩):=by
     have:=bc (bz<|f6 (au (ah<|Q (i:=2) (a:=some<|.lc t) n6 rfl)<|au (ah<|Q (i:=4) n6 rfl) aX) rfl (by simp)) (ah d8) (ix2 (.str n2) (.str n4) u)
     refine Eq.trans this ?_;cases u<;>rfl
    have F:=i8 (i8 (i8 (show mC (.str "put ") (vw ⟨S.set t 9082++X,T<|some<|.lc t⟩)=some ((.str "put ",.fz),_)from rfl) en (by lia)) (show mC (.str " ") _=some ((.str " ",.fz),_)from rfl) (by rw[len_app];lia)) (gz (au (ah<|bq (k:=5)<|dh rfl) aX)<|kr bm) (by rw[len_app,len_app];lia)
    rw[zdk (w:="put") (by decide+kernel)]at F
    exact F
   .exact gz (d0:=(.str<|ba ((ρ.length+1:Nat):Int),false)) (au (ah<|oY (k:=.fz)<|ah<|ax<|pj rfl<|lg t6) aX) (by
     have:(((ρ++[m]).map PyData.int).length:Int)=((ρ.length+1:Nat):Int):=by simp
     rw[zey,List.map_nil,this];exact kr (by lia))
   .have:=bc (bz<|f6 (m:=ae 9123<|ae (mC<|.int 3) ao) rfl rfl (by simp)) (ah<|d8 (S':=S.set t 9082++X) (a:=some<|.lc t)) (ix2 (.int 2) (.int 3) u)
    refine Eq.trans this ?_;cases u<;>rfl
  cases l:u with
  |true=>simp only[t,ρ,l,if_true]at d0;exact⟨_,_,_,_,d0,.zdl m bm⟩
  |false=>simp only[t,ρ,l,if_false,Bool.false_eq_true]at d0;exact⟨_,_,_,_,d0,.zdm m bm⟩
 have C:nTo (mOr (az<|mOp gEq (af 3)<|mC<|.int 6)<|az<|mOp gEq (af 3)<|mC<|.int 8) ⟨S,T none⟩=some (.ok false ⟨S,T none⟩):=c7 (JJ (f 6<|zeN λh=>σ<|.inl h)<|f 8<|zeN λh=>σ<|.inr h)
 have tk:∀{n:Str} {i:Int},atI 9037 i=some (.str n)->n.length<=8->nO (mOp fe (mC<|.str "take ")<|mOp gIx (af 0)<|mC<|.int i) ⟨S,T none⟩=some (.ok (.pl<|.str<|f9 ["take",n]) ⟨S,T none⟩):=λhi hl=>by
  have p1:("take ":Str).length=5:=by decide+kernel
  have F:=i8 (show mC (.str "take ") (vw ⟨S,T none⟩)=some ((.str "take ",.fz),_)from rfl) (Q h.hn hi) (by lia)
  rw[row2 (w:="take") (by decide+kernel)]at F
  exact vh F rfl
 by_cases P:k=7
 .rcases ends true q with d|⟨n,p,d⟩
  .refine⟨_,_,_,_,head (t:=T none) (ji w) ?_,.ZW d⟩
   exact ag 9038 (ag 9061<|ag (bh C rfl)<|eu<|jh (c7<|f 7<|zeG P)<|bt<|AR (tk rfl l2) (gZ (ak 9053<|ak hZ aY)<|dX<|Bq w (by rw[h.hx,d];rfl) 0) hZ)
  .refine⟨_,_,_,_,head (t:=T none) (zc w (by rfl)) ?_,.ZZ n p d⟩
   exact ag 9038 (ag 9061<|ag (bh C rfl)<|eu<|jh (c7<|f 7<|zeG P)<|bt<|AR (tk rfl l2) (gZ (ak 9053<|ak hZ aY)<|dX<|Br w h.hx true d<|hq n (by rw[d];simp)) hZ)
 by_cases O:k=9
 .rcases ends false r with d|⟨n,p,d⟩
  .refine⟨_,_,_,_,head (t:=T none) (ji w) ?_,.ZX d⟩
   exact ag 9038 (ag 9061<|ag (bh C rfl)<|ag 9100<|eu<|jh (c7<|f 9<|zeG O)<|bt<|AR (tk rfl l4) (gZ (ak 9053<|ak (sY<|Dg de) aY)<|dX<|Bq w (by rw[h.hz,d];rfl)<|-1) hZ)
  .refine⟨_,_,_,_,head (t:=T none) (zc w (by rfl)) ?_,.Z0 n p d⟩
   exact ag 9038 (ag 9061<|ag (bh C rfl)<|ag 9100<|eu<|jh (c7<|f 9<|zeG O)<|bt<|AR (tk rfl l4) (gZ (ak 9053<|ak (sY<|Dg de) aY)<|dX<|Br w h.hz false d<|hr n (by rw[d];simp)) hZ)
 let u:=decide (g%2=0)
 have hu:g%2=if u then 0 else 1:=by by_cases h4:g%2=0<;>simp only[u,h4,decide_true,decide_false,if_true,if_false,Bool.false_eq_true]<;>lia
 have m2:∀{S':List<|Option Cl} {a:Option SV},IE (mOp vY (af 4)<|mC<|.int 2) (vw ⟨S',T a⟩) (if u then 0 else 1):=fun{S' a}=>hu▸yq 9056 de (by decide)
 by_cases K:k=10
 .let X:List (Option Cl):=[some<|.dat<|.list [.int 0,.int (e.length:Int)]]
  let E:=if u then m::e else e++[m]
  have M:=ml (X:=X) (ir w (k:=y) (c:=dL E) rfl);rw[zeL]at M;refine⟨_,_,_,_,head (t:=T none) M ?_,.dput u m bm⟩;have ln0:nCB dj (aa 9021 aj) ⟨S,T none⟩=some (.ok (.pl<|.int (e.length:Int)) ⟨S,T none⟩):=mm (ds:=[.list<|e.map .int]) (ak 9053 aY) (by simp only[F8,xr h.hy,Option.bind_some,Option.map_some]) (by show some (PyData.int ((e.map PyData.int).length:Int),false)=_;rw[zej])
  have e0:m5 (aa 9039<|aa (nCB dj<|aa 9021 aj) aj) ⟨S,T none⟩=some (.ok 9117 ⟨S++X,T none⟩):=by
   unfold m5;rw[c9<|ak hZ<|ak ln0 aY];refine(bg<|show 2<=sizeLine by decide).trans ?_
   rfl
  have Z:nIx (m5<|aa 9039<|aa (nCB dj<|aa 9021 aj) aj) (nO<|mOp vY (af 4)<|mC<|.int 2) ⟨S,T none⟩=some (.ok (.pl<|.int<|if u then 0 else(e.length:Int)) ⟨S++X,T none⟩):=by
   refine iz e0 (sY m2) ?_;simp only[ixV,X,fY];cases u<;>rfl
  have ins:BZ (e.map .int) [.int<|if u then 0 else(e.length:Int),.int m]=some (E.map .int,.none):=by
   show cIf _ _ _=_;have s1:(1000:Nat)<sizeLine:=by decide
   rw[bg ⟨by cases u<;>simp<;>lia,by cases u<;>simp<;>lia,by rw[zej];lia⟩]
   have nl : ¬((e.length:Int)<0):=by lia
   cases l:u<;>simp[zbo,E,l,nl,List.take_of_length_le]
  have yS:(S.set y (some<|dL E)++X)[y]?=some (some<|.dat<|.list<|E.map .int):=br (zet yl);have H:jn (nMt BZ 9021<|aa (nIx (m5<|aa 9039<|aa (nCB dj<|aa 9021 aj) aj)<|nO<|mOp vY (af 4)<|mC<|.int 2)<|aa (aq 5) aj) ⟨S,T none⟩=some (.nx ⟨S.set y (some<|dL E)++X,T none⟩):=by
   have:=ka (Wh (ju (p:=1) (k:=3) rfl h.hw rfl) h.hy (ak Z<|ak (ar (i:=5) rfl) aY) rfl (br h.hy) ins);rw[this,List.set_append_left _ _ yl];rfl
  have lE:(E.map PyData.int).length=e.length+1:=by cases l:u<;>simp[E,l]
  have wy:=gd h.hw h.hy (by intro e;cases e)
  have w6:(S.set y (some<|dL E)++X)[W]?=some (some<|wL nb nf x y z):=br (by rw[zez<|Ne.symm wy];exact h.hw)
  refine ag 9038 (ag 9061<|ag (bh C rfl)<|ag 9100<|ag (bh (c7<|f 9<|zeN O) rfl)<|eu<|jh (c7<|f 10<|zeG K)<|ag H<|bt ?_);refine AR (QK ?_ rfl) (mm (ak (mm (ds:=[.list<|E.map .int]) (ak (ju rfl w6 rfl) aY) (by simp only[F8,xr yS,Option.bind_some,Option.map_some]) (by show some (PyData.int ((E.map PyData.int).length:Int),false)=_;rw[lE])) aY) rfl<|kr (by lia)) hZ
  have p1:("first ":Str).length=6:=by decide+kernel
  have p4:("last ":Str).length=5:=by decide+kernel
  have p2:(" ":Str).length=1:=by decide+kernel
  have p3:=fX bm;have p5:(if u then("first ":Str)else "last ").length<=6:=by cases u<;>simp[p1,p4]
  have F:=i8 (i8 (i8 (gl (a:="first ") (b:="last ")<|m2 (S':=S.set y (some<|dL E)++X) (a:=none)) (Q (br<|nS y _ h.yn)<|show atI 9037 3=some (.str n3)from rfl) (by lia)) (show mC (.str " ") _=some ((.str " ",.fz),_)from rfl) (by rw[len_app];lia)) (gz (au (ah<|bq (k:=5)<|dh rfl) aX)<|kr bm) (by rw[len_app,len_app];lia)
  rw[zdk (w:=wFL u) (by cases u<;>decide+kernel)]at F
  exact F
 .have U:nO (mOp fe (mOp gIx (dY<|ae (mC<|.str "shift ")<|ae (mC<|.str "pop ") ao)<|mOp vY (af 4)<|mC<|.int 2)<|mOp gIx (af 0)<|mC<|.int 3) ⟨S,T none⟩=some (.ok (.pl<|.str<|f9 [wSP u,n3]) ⟨S,T none⟩):=by
   have p1:("shift ":Str).length=6:=by decide+kernel
   have p4:("pop ":Str).length=4:=by decide+kernel
   have p5:(if u then("shift ":Str)else "pop ").length<=6:=by cases u<;>simp[p1,p4]
   have F:=i8 (gl (a:="shift ") (b:="pop ")<|m2 (a:=none)) (Q h.hn<|show atI 9037 3=some (.str n3)from rfl) (by lia)
   rw[row2 (w:=wSP u) (by cases u<;>decide+kernel)]at F
   exact vh F rfl
  have ng:nO (mUn rW<|mOp vY (af 4)<|mC<|.int 2) ⟨S,T none⟩=some (.ok (.pl<|.int<|if u then 0 else-1) ⟨S,T none⟩):=by
   have:=sY (Dg<|m2 (S':=S) (a:=none));rw[this];cases u<;>rfl
  rcases ends u e with d|⟨n,p,d⟩
  .refine⟨_,_,_,_,head (t:=T none) (ji w) ?_,.ZY u d⟩
   exact ag 9038 (ag 9061<|ag (bh C rfl)<|ag 9100<|ag (bh (c7<|f 9<|zeN O) rfl)<|ag (bh (c7<|f 10<|zeN K) rfl)<|bt<|AR U (gZ (ak 9053<|ak ng aY)<|dX<|Bq w (by rw[h.hy,d];rfl) _) hZ)
  .refine⟨_,_,_,_,head (t:=T none) (zc w (by rfl)) ?_,.Z1 u n p d⟩
   exact ag 9038 (ag 9061<|ag (bh C rfl)<|ag 9100<|ag (bh (c7<|f 9<|zeN O) rfl)<|ag (bh (c7<|f 10<|zeN K) rfl)<|bt<|AR U (gZ (ak 9053<|ak ng aY)<|dX<|Br w h.hy u d<|he n (by rw[d];cases u<;>simp)) hZ)
end
structure St where
 p0:Nat
 p1:Nat
 p2:Nat
 p3:Nat
 p4:Nat
 rb:List Int
 rf:List Int
 qf:List D
 qb:List D
 dl:List D
 dr:List D
 s:Nat
 q:List Int
 e:List Int
 r:List Int
structure Nms where
 n0:Str
 n1:Str
 n2:Str
 n3:Str
 n4:Str
 h0:Nm 0 n0
 h1:Nm 1 n1
 h2:Nm 2 n2
 h3:Nm 3 n3
 h4:Nm 4 n4
def St.t0(ca:CA)(n:Nms)(a:St):Tg:=⟨n.n0,a.p0,ca.iZ,"bits","row",.list<|a.rb.map .int,(Ctr.ones a.rb:Nat)⟩
def St.t1(ca:CA)(n:Nms)(a:St):Tg:=⟨n.n1,a.p1,ca.cu,"figures","row",.list<|a.rf.map .int,Fig.rX a.rf⟩
def St.t2(ca:CA)(n:Nms)(a:St):Tg:=⟨n.n2,a.p2,ca.Queue,"queue","queue",Qd a.qf a.qb,(a.qb.length:Int)⟩
def St.t3(ca:CA)(n:Nms)(a:St):Tg:=⟨n.n3,a.p3,ca.bW,"double","double",Qd a.dl a.dr,ab<|(a.dl.length:Int)-a.dr.length⟩
def St.t4(ca:CA)(n:Nms)(a:St):Tg:=⟨n.n4,a.p4,ca.cn,"room","room",Rm (a.r.map .int) a.s,crd (a.r.map PyData.int).length a.s⟩
def St.ts(ca:CA)(n:Nms)(a:St):List Tg:=[a.t0 ca n,a.t1 ca n,a.t2 ca n,a.t3 ca n,a.t4 ca n]
def St.c(a:St):Int:=(Ctr.ones a.rb:Nat)+(Fig.rX a.rf+((a.qb.length:Int)+(ab ((a.dl.length:Int)-a.dr.length)+(crd (a.r.map PyData.int).length a.s+0))))
theorem St.sum(ca:CA)(n:Nms)(a:St):ff (a.ts ca n)=a.c:=by simp only[ff,St.ts,St.c,St.t0,St.t1,St.t2,St.t3,St.t4,List.map_cons,List.map_nil,List.sum_cons,List.sum_nil]
structure Sh(a:St)(k:Nat):Prop where
 bits:Ctr.iZ a.rb
 DG:Fig.HA a.rf
 last:Fig.Bm a.rf
 qq:a.qf.reverse++a.qb=a.q.map .int
 ee:a.dl.reverse++a.dr=a.e.map .int
 fm:Fm a.r.length a.s
 lb:a.rb.length<=k
 lf:a.rf.length<=k
 lq:a.q.length<=k
 le:a.e.length<=k
 lr:a.r.length<=k
 wb:(Ctr.worth a.rb).natAbs<=k
 wf:(Ctr.worth a.rf).natAbs<=k
 nq:∀m∈a.q,m.natAbs<10^60
 ne:∀m∈a.e,m.natAbs<10^60
 nr:∀m∈a.r,m.natAbs<10^60
structure Ma(a:St)(l:List Ent)(k:Nat):Prop where
 sh:Sh a k
 cr:a.c=bu l
 zca:ly l+bu l<=lz l
 s0 : 0<=ly l
 pp:lz l<=3*l.length
 ll:l.length<=k+6
theorem zdn(i:Int) : 0<=ab i:=by unfold ab;split<;>lia
theorem zcb(h:Fm m s) : 0<=crd m s:=by
 unfold crd;obtain⟨h1,h2,h3⟩:=h;split
 .lia
 .split<;>lia
structure Ds(j u v W x y z N:Nat):Prop where
 xj:x≠j
 yj:y≠j
 zj:z≠j
 nj:N≠j
 xv:x≠v
 yv:y≠v
 zv:z≠v
 nv:N≠v
 wu:W≠u
def lT(sc:SV)(b N u W:Nat)(c:SV)(I a5 M O:Option SV):List (Option SV):=[some sc,some<|.lc b,some<|.lc N,some<|.lc u,I,a5,some<|.lc W,some c,M,O,none]
section
variable{ca:CA}{S S1 S2:List<|Option Cl}{b d i j u v W x y z N:Nat}{ts:List Tg}{l:List Ent}{sc:SV}{a4 a5 a8 a9:Option SV}{c p:Int}{A0:Str}
theorem zcc{i j k:Nat}{x y z:D}(h:a s=some (.ok (.pl<|.tuple [x,y,z]) s'))(hi:i<s'.t.length)(I:j<s'.t.length)(hk:k<s'.t.length):dW a (ngT 3<|kn i<|kn j<|kn k Gf) s=some (.nx ⟨s'.S,((s'.t.set i<|some<|.pl x).set j<|some<|.pl y).set k<|some<|.pl z⟩):=by
 unfold dW;rw[o3 h];simp[ngT,EB,kn,Gf,hi,I,hk]
theorem M4{I:D}(hd:f7 ca S 9034=some (.ok (.pl<|.tuple [.str A0,I,.int p]) S1)):dW (j7 (fq<|f7 ca)<|aa (aq 2)<|aa (aq 6)<|aa (aq 7) aj) (ngT 3<|kn 5<|kn 8<|kn 9 Gf) ⟨S,lT sc b N u W 9077 a4 a5 a8 a9⟩=some (.nx ⟨S1,lT sc b N u W 9077 a4 (some<|.pl<|.str A0) (some<|.pl I)<|some<|.pl<|.int p⟩) :=
 zcc (gZ (ak (ar rfl)<|ak (ar rfl)<|ak (ar rfl) aY)<|dX hd) (by simp[lT]) (by simp[lT]) (by simp[lT])
theorem Y4{z:Str}(hd:f7 ca S 9034=some (.ok (.pl<|.tuple [.str A0,.str z,.int p]) S1))(hk:i4 ca S1 [.lc b,.lc u,.pl<|.str A0,.pl<|.str z,.pl<|.int p]=some (.ok 9043 S2)):wZ ca ⟨S,lT sc b N u W 9077 a4 a5 a8 a9⟩=some (.nx ⟨S2,lT sc b N u W 9077 a4 (some<|.pl<|.str A0) (some<|.pl<|.str z)<|some<|.pl<|.int p⟩):=by
 refine ag (M4 hd) (bh (c7<|test_ev (k:=.fz)<|bc (d0:=9026) 9041 rfl rfl)<|bh (Fp<|kc<|gZ (s1:=⟨S1,_⟩) (ak (ar rfl)<|ak (ar rfl)<|ak (ar rfl)<|ak (ar rfl)<|ak (ar rfl) aY)<|dX hk) rfl)
theorem Y5(hd:f7 ca S 9034=some (.ok (.pl<|.tuple [.str A0,.none,.int p]) S1))(hk:oX ca S1 9110=some (.ok 9043 S2)):wZ ca ⟨S,lT sc b N u W 9077 a4 a5 a8 a9⟩=some (.nx ⟨S2,lT sc b N u W 9077 a4 (some<|.pl<|.str A0) (some<|.pl .none)<|some<|.pl<|.int p⟩):=by
 refine ag (M4 hd) (jh (c7<|test_ev (k:=.fz)<|bc (d0:=9012) 9041 rfl rfl)<|bh (Fp<|kc<|gZ (s1:=⟨S1,_⟩) (ak (ar rfl)<|ak (ar rfl) aY)<|dX hk) rfl)
theorem LS.put(h:LS ca S b d i j u v ts l){c c':Cl}(hk:S[k]?=some (some c))(I:isL c)(ρ:k≠j)(M:k≠u)(O:k≠v)(bl:blC S.length c'=true):LS ca (S.set k<|some c') b d i j u v ts l :=
 ⟨h.bk.put hk I ρ bl,by rw[zez M];exact h.hu,by rw[zez O];exact h.hv,h.vj⟩
variable{ns:List Str}{nb nf:Int}{q e r:List Int}
theorem LD.fr(h:LD S W x y z N ns nb nf q e r)(D:Ds j u v W x y z N)(ρ:LS ca S b d i j u v ts l)(F:∀(m:Nat) (c:Cl),S[m]?=some (some c)->isL c->m≠j->m≠u->m≠v->S2[m]?=some (some c)):LD S2 W x y z N ns nb nf q e r :=
 ⟨F _ _ h.hw (.inl ⟨_,rfl⟩) (gd h.hw ρ.bk.led.r (by intro e;cases e)) D.wu (gd h.hw ρ.hv (by intro e;cases e)),F _ _ h.hx 9011 D.xj (gd h.hx ρ.hu (by intro e;cases e)) D.xv,F _ _ h.hy 9011 D.yj (gd h.hy ρ.hu (by intro e;cases e)) D.yv,F _ _ h.hz 9011 D.zj (gd h.hz ρ.hu (by intro e;cases e)) D.zv,F _ _ h.hn 9011 D.nj (gd h.hn ρ.hu (by intro e;cases e)) D.nv,h.xy,h.xz,h.yz,h.xn,h.yn,h.zn⟩
theorem LD.zdo(h:LD S W x y z N ns nb nf q e r)(a b:Int):LD (S.set W<|some<|wL a b x y z) W x y z N ns a b q e r:=by
 have wl:=(zea h.hw).1;have n:∀{m:Nat} {d:D},S[m]?=some (some<|.dat d)->(S.set W<|some<|wL a b x y z)[m]?=some (some<|.dat d):=λhm=>by rw[zez<|gd h.hw hm (by intro e;cases e)];exact hm
 exact⟨zet wl,n h.hx,n h.hy,n h.hz,n h.hn,h.xy,h.xz,h.yz,h.xn,h.yn,h.zn⟩
theorem LD.zdp(h:LD S W x y z N ns nb nf q e r)(I:List Int):LD (S.set x<|some<|dL I) W x y z N ns nb nf I e r :=
 ⟨by rw[zez<|gd h.hx h.hw (by intro e;cases e)];exact h.hw,zet (zea h.hx).1,by rw[zez h.xy];exact h.hy,by rw[zez h.xz];exact h.hz,by rw[zez h.xn];exact h.hn,h.xy,h.xz,h.yz,h.xn,h.yn,h.zn⟩
theorem LD.zdq(h:LD S W x y z N ns nb nf q e r)(I:List Int):LD (S.set y<|some<|dL I) W x y z N ns nb nf q I r :=
 ⟨by rw[zez<|gd h.hy h.hw (by intro e;cases e)];exact h.hw,by rw[zez<|Ne.symm h.xy];exact h.hx,zet (zea h.hy).1,by rw[zez h.yz];exact h.hz,by rw[zez h.yn];exact h.hn,h.xy,h.xz,h.yz,h.xn,h.yn,h.zn⟩
theorem LD.zdr(h:LD S W x y z N ns nb nf q e r)(I:List Int):LD (S.set z<|some<|dL I) W x y z N ns nb nf q e I :=
 ⟨by rw[zez<|gd h.hz h.hw (by intro e;cases e)];exact h.hw,by rw[zez<|Ne.symm h.xz];exact h.hx,by rw[zez<|Ne.symm h.yz];exact h.hy,zet (zea h.hz).1,by rw[zez h.zn];exact h.hn,h.xy,h.xz,h.yz,h.xn,h.yn,h.zn⟩
end
def Nms.l(n:Nms):List Str:=[n.n0,n.n1,n.n2,n.n3,n.n4]
structure Inv(ca:CA)(S:List<|Option Cl)(b d i j u v W x y z N:Nat)(n:Nms)(a:St)(l:List Ent)(k:Nat):Prop where
 ls:LS ca S b d i j u v (a.ts ca n) l
 ld:LD S W x y z N n.l (Ctr.worth a.rb) (Ctr.worth a.rf) a.q a.e a.r
 ds:Ds j u v W x y z N
 ma:Ma a l k
section
variable{ca:CA}{S S1 S2:List<|Option Cl}{b d i j u v W x y z N:Nat}{n:Nms}{l:List Ent}{a a':St}{k:Nat}
theorem Inv.kept(ρ:LS ca S1 b d i j u v (a.ts ca n) l)(D:LD S1 W x y z N n.l (Ctr.worth a'.rb) (Ctr.worth a'.rf) a'.q a'.e a'.r)(ds:Ds j u v W x y z N)(M:Ma a l k)(H:∃S2,V7 ca S1 b d i j l (f9 (w::U)) w Y s p (a'.ts ca n) S2/\S2.length=S1.length)(hr:kW (.str<|f9 (w::U)) [.str " "]=some (.list<|(w::U).map .str,true))(O:∃m:Int,m.natAbs<10^60/\Y=ba m)(hs : 0<=s)(hp : 0<=p)(hp3:p<=3)(hc : 0<=a'.c)(le:s+a'.c<=a.c+p)(hk:k<=60)
  (M':Sh a'<|k+1) :
  ∃I,i4 ca S1 [.lc b,.lc u,.pl<|.str<|f9 (w::U),.pl<|.str Y,.pl<|.int p]=some (.ok 9043 I)/\Inv ca I b d i j u v W x y z N n a' (l++[⟨w,s,p,bu l,a'.c⟩]) (k+1)/\I.length=S1.length/\∀(m:Nat) (c:Cl),S1[m]?=some (some c)->isL c->m≠j->m≠u->m≠v->I[m]?=some (some c):=by
 obtain⟨S2,H,h⟩:=H;obtain⟨m,hm,rfl⟩:=O;have h1:=M.zca;have h2:=M.pp;have h3:=M.ll;have h4:=M.s0;have F:=M.cr;have f:ly l+s+a'.c<=lz l+p:=by lia
 have hz:=fX hm;have g:=a'.sum ca n;obtain⟨I,B,C,t,E⟩:=Kw ρ H hr (As<|Qs m) (λe=>by rcases Txs.Fn e with e|e<;>lia) (by lia) hs hp (by rw[g];exact hc) (by lia) (by lia) (by rw[g];lia) (by rw[g];exact f)
 exact⟨I,B,⟨C,D.fr ds ρ t,ds,⟨M',by rw[Ay],by rw[Cq,Cr,Ay];exact f,by rw[Cq];dsimp only;lia,by rw[Cr,zes];simp only[List.length_cons,List.length_nil];lia,by rw[zes];simp only[List.length_cons,List.length_nil];lia⟩⟩,E h,t⟩
end
section
variable{ca:CA}{S S1 S2:List<|Option Cl}{b d i j u v W x y z N:Nat}{n:Nms}{l:List Ent}{a a':St}{k:Nat}{sc:SV}{a4 a5 a8 a9:Option SV}{c:Int}
theorem Inv.deed(ρ:LS ca S1 b d i j u v (a.ts ca n) l)(Dl:LD S1 W x y z N n.l (Ctr.worth a'.rb) (Ctr.worth a'.rf) a'.q a'.e a'.r)(ds:Ds j u v W x y z N)(M:Ma a l k)(hk:k<=60){t:Tg}{e:D}{g:Int}{q:Nat}{K:List Str}{o:Option Int}{w O:Str}{f:FN}{s p:Int}(e1:a.ts ca n=A++t::B)(U:a'.ts ca n=A++⟨t.n,t.p,t.C,t.kd,t.f,e,g⟩::B)
  (hd:f7 ca S 9034=some (.ok (.pl<|.tuple [.str<|f9 (w::t.n::nws o),.str O,.int p]) S1)) (dw:DW w (nwl o) K) (hn:Nm q t.n) (hq:q<5) (ho:∀m,o=some m->m.natAbs<10^60) (hK:K.contains t.kd=true) (hf:(Dy ca).lookup t.C=some f) (Y:t.f≠"do")
  (hr:∀(S0:List<|Option Cl) (q:Nat),Obj S0 t.p t.C t.kd t.f t.d->rdV S0 (.lc q)=some (.list<|(w::nws o).map .str)->f S0 [.lc t.p,.lc q]=some (.ok (.pl<|qe O s p)<|S0.set t.p<|some<|oB t.C t.kd t.f e)) (ok:Tg.Ok ca ⟨t.n,t.p,t.C,t.kd,t.f,e,g⟩) (I:∃m:Int,m.natAbs<10^60/\O=ba m) (hs : 0<=s) (hp : 0<=p) (hp3:p<=3) (hc : 0<=a'.c) (le:s+a'.c<=a.c+p) (M':Sh a'<|k+1) :
  ∃S2 l' r1 r2 r3,wZ ca ⟨S,lT sc b N u W 9077 a4 a5 a8 a9⟩=some (.nx ⟨S2,lT sc b N u W 9077 a4 (some<|.pl r1) (some<|.pl r2)<|some<|.pl r3⟩)/\Inv ca S2 b d i j u v W x y z N n a' l' (k+1)/\S2.length=S1.length/\∀(m:Nat) (c:Cl),S1[m]?=some (some c)->isL c->m≠j->m≠u->m≠v->S2[m]?=some (some c):=by
 have h1:=M.zca;have h2:=M.pp;have h3:=M.ll;have h4:=M.s0;have T:=M.cr;have h:=a'.sum ca n;have R:O.length<=500:=by obtain⟨m,hm,rfl⟩:=I;have:=fX hm;lia
 have E:=ρ.bk;rw[e1]at E;have H:=Ss E dw hn hq ho hK hf Y hr ok (by lia) hs hp (by rw[<-U,h];exact hc) (by rw[<-U,h];lia) R (by lia) (by lia)
 rw[<-U]at H;obtain⟨F,G,σ,P,Q⟩:=Inv.kept ρ Dl ds M H (Bp dw hn hq ho).2 I hs hp hp3 hc le hk M';exact⟨F,_,_,_,_,Y4 hd G,σ,P,Q⟩
end
section
variable{ca:CA}{S:List<|Option Cl}{b d i j u v W x y z N:Nat}{n:Nms}{l:List Ent}{a:St}{k:Nat}{sc:SV}{a4 a5 a8 a9:Option SV}
def Turn(ca:CA)(S:List<|Option Cl)(b d i j u v W x y z N:Nat)(n:Nms)(k:Nat)(sc:SV)(a4 a5 a8 a9:Option SV)(c:Int):Prop:=∃h a' D E F σ,wZ ca ⟨S,lT sc b N u W 9077 a4 a5 a8 a9⟩=some (.nx ⟨h,lT sc b N u W 9077 a4 (some<|.pl E) (some<|.pl F)<|some<|.pl σ⟩)/\Inv ca h b d i j u v W x y z N n a' D (k+1)/\h.length=S.length/\∀(m:Nat) (c:Cl),S[m]?=some (some c)->isL c->m≠j->m≠u->m≠v->m≠W->m≠x->m≠y->m≠z->h[m]?=some (some c)
theorem Turn.of(Y:g=W\/g=x\/g=y\/g=z)(H:∃I ρ M O U,wZ ca ⟨S,lT sc b N u W 9077 a4 a5 a8 a9⟩=some (.nx ⟨I,lT sc b N u W 9077 a4 (some<|.pl M) (some<|.pl O)<|some<|.pl U⟩)/\Inv ca I b d i j u v W x y z N n a' ρ (k+1)/\I.length=(S.set g<|some h).length/\∀(m:Nat) (c:Cl),(S.set g<|some h)[m]?=some (some c)->isL c->m≠j->m≠u->m≠v->I[m]?=some (some c)):Turn ca S b d i j u v W x y z N n k sc a4 a5 a8 a9 c:=by
 obtain⟨I,ρ,M,O,U,h1,h2,h3,h4⟩:=H;refine⟨I,a',ρ,M,O,U,h1,h2,by rw[h3,zeL],λm c hm f p w C D mx E F=>h4 m c ?_ f p w C⟩
 rw[zez (by rcases Y with rfl|rfl|rfl|rfl<;>exact Ne.symm (by assumption))]
 exact hm
theorem Sh.up(h:Sh a k):Sh a (k+1):=⟨h.bits,h.DG,h.last,h.qq,h.ee,h.fm,by have:=h.lb;lia,by have:=h.lf;lia,by have:=h.lq;lia,by have:=h.le;lia,by have:=h.lr;lia,by have:=h.wb;lia,by have:=h.wf;lia,h.nq,h.ne,h.nr⟩
theorem Sh.c0(h:Sh a k) : 0<=a.c:=by
 have h1:=Fig.Qj a.rf;have h2:=zdn ((a.dl.length:Int)-a.dr.length);have h3 : 0<=crd (a.r.map PyData.int).length a.s:=by rw[zej];exact zcb h.fm
 unfold St.c
 lia
theorem Inv.no(I:Inv ca S b d i j u v W x y z N n a l k)(ht:t∈a.ts ca n)(hd:f7 ca S 9034=some (.ok (.pl<|.tuple [.str<|f9 [w,t.n],.none,.int p]) S))(M:DW w 0 K)(hn:Nm q t.n)(O:q<5)(U:K.contains t.kd=true)(Y:(Dy ca).lookup t.C=some f)(ρ:t.f≠"do")(hr:∀(S0:List<|Option Cl) (q:Nat),Obj S0 t.p t.C t.kd t.f t.d->rdV S0 (.lc q)=some (.list [.str w])->f S0 [.lc t.p,.lc q]=some (.er ⟨"Empty",none⟩ S0)):Turn ca S b d i j u v W x y z N n k sc a4 a5 a8 a9 c:=by
 have D:=Wf I.ls.bk (Bp (o:=none) M hn O λ_ h=>nomatch h).1 (zb9 ht M hn O U Y ρ hr)
 have F:∀(m:Nat) (c:Cl),S[m]?=some (some c)->isL c->(S.set d<|some<|.dct<|esT<|a.ts ca n)[m]?=some (some c):=λm c hm g=>by
  rw[zez<|Ne.symm<|jt I.ls.bk.d hm g];exact hm
 exact⟨_,a,l,_,_,_,Y5 hd D,⟨⟨I.ls.bk.fix,F _ _ I.ls.hu<|.inl ⟨_,rfl⟩,F _ _ I.ls.hv<|.inr ⟨_,rfl⟩,I.ls.vj⟩,I.ld.fr I.ds I.ls λm c hm g _ _ _=>F m c hm g,I.ds,⟨I.ma.sh.up,I.ma.cr,I.ma.zca,I.ma.s0,I.ma.pp,by have:=I.ma.ll;lia⟩⟩,zeL,λm c hm g _ _ _ _ _ _ _=>F m c hm g⟩
theorem KA{l:List Int}{p:List Int}(h:l=m::p):l.map PyData.int=.int m::p.map .int:=by rw[h];rfl
theorem Inv.turn(I:Inv ca S b d i j u v W x y z N n a l k)(hk:k<60)(c:Int):Turn ca S b d i j u v W x y z N n k sc a4 a5 a8 a9 c:=by
 have sh:=I.ma.sh;have h0:=n.h0.len;have h1:=n.h1.len;have h2:=n.h2.len;have h3:=n.h3.len;have h4:=n.h4.len;have s1:=sh.lb;have s2:=sh.lf;have s3:=sh.lq;have s4:=sh.le;have s5:=sh.lr;have s6:=sh.wb;have s7:=sh.wf;have lq:a.qf.length+a.qb.length=a.q.length:=by have:=congrArg List.length sh.qq;simpa using this
 have le:a.dl.length+a.dr.length=a.e.length:=by have:=congrArg List.length sh.ee;simpa using this
 have big:(2000:Nat)<10^60:=by decide
 have Wj:=gd I.ld.hw I.ls.bk.led.r (by intro e;cases e)
 have Wv:=gd I.ld.hw I.ls.hv (by intro e;cases e)
 have xu:=gd I.ld.hx I.ls.hu (by intro e;cases e)
 have yu:=gd I.ld.hy I.ls.hu (by intro e;cases e)
 have zu:=gd I.ld.hz I.ls.hu (by intro e;cases e)
 have xl:=(zea I.ld.hx).1;have yl:=(zea I.ld.hy).1;have zl:=(zea I.ld.hz).1;have O:∀p q,LS ca (S.set W<|some<|wL p q x y z) b d i j u v (a.ts ca n) l:=λp q=>I.ls.put I.ld.hw (.inl ⟨_,rfl⟩) Wj I.ds.wu Wv (by simp[wL,blC,B8,blV,xl,yl,zl])
 have U:∀q,LS ca (S.set x<|some<|dL q) b d i j u v (a.ts ca n) l:=λq=>I.ls.put I.ld.hx 9011 I.ds.xj xu I.ds.xv rfl
 have Y:∀q,LS ca (S.set y<|some<|dL q) b d i j u v (a.ts ca n) l:=λq=>I.ls.put I.ld.hy 9011 I.ds.yj yu I.ds.yv rfl
 have LZ:∀q,LS ca (S.set z<|some<|dL q) b d i j u v (a.ts ca n) l:=λq=>I.ls.put I.ld.hz 9011 I.ds.zj zu I.ds.zv rfl
 obtain⟨A0,due,p,S',hd,D⟩:=Y3 I.ld I.ls.bk.led.w h0.2 h1.2 h2.2 h3.2 h4.2 (by lia) (by lia) (by lia) (by lia) (by lia) sh.nq sh.ne sh.nr c
 have no:∀m:Int,(none:Option Int)=some m->m.natAbs<10^60:=λ_ h=>nomatch h
 cases D with
 |bits=>
  have e:=Ctr.Mb a.rb sh.bits;have σ:=Ctr.Qg a.rb sh.bits;have K:=Ctr.zb2 a.rb;have F:=I.ld.zdo (Ctr.worth a.rb+1) (Ctr.worth a.rf);have ρ:=O (Ctr.worth a.rb+1) (Ctr.worth a.rf);have l1:(Ctr.up a.rb).length<=k+1:=by rw[K];split<;>lia
  have M:(Ctr.worth<|Ctr.up a.rb).natAbs<=k+1:=by lia
  have S':Sh {a with rb:=Ctr.up a.rb} (k+1):=⟨Ctr.Qh _ sh.bits,sh.DG,sh.last,sh.qq,sh.ee,sh.fm,l1,by dsimp only;lia,by dsimp only;lia,by dsimp only;lia,by dsimp only;lia,M,by dsimp only;lia,sh.nq,sh.ne,sh.nr⟩
  rw[<-e]at hd F ρ;exact Turn.of (.inl rfl) (Inv.deed (a':={a with rb:=Ctr.up a.rb}) (A:=[]) (t:=a.t0 ca n) (o:=none) ρ F I.ds I.ma (by lia) rfl rfl hd ZU n.h0 (by decide) no (show List.contains _ ("bits":Str)=true by decide+kernel) lk5.1 (show("row":Str)≠"do" by decide+kernel) (λS0 q ob hx=>YW ob (by lia) (by lia)) (QD _ _ _) ⟨_,by lia,rfl⟩ (by lia) (by decide) (by decide) S'.c0 (by unfold St.c;dsimp only;lia) S')
 |DG w=>
  have P:mvb w=1\/mvb w=0-1:=by cases w<;>simp[mvb]
  have e:=Fig.Md (mvb w) a.rf;have σ:=Fig.Mg (mvb w) P a.rf sh.DG;have e4:=Fig.OI (mvb w) a.rf;have K:=Fig.RW (mvb w) a.rf;have e5:=Fig.OH (mvb w) P a.rf sh.DG sh.last;have F:=I.ld.zdo (Ctr.worth a.rb) (Ctr.worth a.rf+mvb w);have ρ:=O (Ctr.worth a.rb) (Ctr.worth a.rf+mvb w);have M:(Ctr.worth<|Fig.moved (mvb w) a.rf).natAbs<=k+1:=by rcases P with P|P<;>rw[P]at e⊢ <;>lia
  have S':Sh {a with rf:=Fig.moved (mvb w) a.rf} (k+1):=⟨sh.bits,e5.1,e5.2,sh.qq,sh.ee,sh.fm,by dsimp only;lia,by dsimp only;lia,by dsimp only;lia,by dsimp only;lia,by dsimp only;lia,by dsimp only;lia,M,sh.nq,sh.ne,sh.nr⟩
  rw[<-e]at hd F ρ;exact Turn.of (.inl rfl) (Inv.deed (a':={a with rf:=Fig.moved (mvb w) a.rf}) (A:=[a.t0 ca n]) (t:=a.t1 ca n) ρ F I.ds I.ma (by lia) rfl rfl hd (zdi w) n.h1 (by decide) no (show List.contains _ ("figures":Str)=true by cases w<;>decide+kernel) lk5.2.1 (show("row":Str)≠"do" by decide+kernel) (λS0 q ob hx=>YX w ob hx (by lia) (by lia)) (GX _ _ _) ⟨_,by lia,rfl⟩ (by lia) (by decide) (by decide) S'.c0 (by unfold St.c;dsimp only;lia) S')
 |zdl m hm=>
  have S':Sh {a with qb:=a.qb++[.int m],q:=a.q++[m]} (k+1):=⟨sh.bits,sh.DG,sh.last,by show a.qf.reverse++(a.qb++[.int m])=_;rw[<-zeC,sh.qq];simp,sh.ee,sh.fm,by dsimp only;lia,by dsimp only;lia,by simp;lia,by dsimp only;lia,by dsimp only;lia,by dsimp only;lia,by dsimp only;lia,λg f=>by
   rcases zec f with f|f
   .exact sh.nq g f
   .cases zeb f;exact hm,sh.ne,sh.nr⟩
  rw[<-lq]at hd;exact Turn.of (.inr<|.inl rfl) (Inv.deed (a':={a with qb:=a.qb++[.int m],q:=a.q++[m]}) (A:=[a.t0 ca n,a.t1 ca n]) (t:=a.t2 ca n) (o:=some m) (U _) (I.ld.zdp _) I.ds I.ma (by lia) rfl rfl hd Wg n.h2 (by decide) (λg f=>by cases f;exact hm) (show List.contains _ ("queue":Str)=true by decide+kernel) lk5.2.2.1 (show("queue":Str)≠"do" by decide+kernel) (λS0 q ob hx=>Sd ob hx hm (by lia)) (GY _ _ _ _) ⟨_,by lia,rfl⟩ (by decide) (by decide) (by decide) S'.c0 (by unfold St.c;dsimp only;rw[zes];simp only[List.length_cons,List.length_nil];lia) S')
 |zdm m hm=>
  obtain⟨V,f2⟩:=sh.fm.put (by lia)
  have S':Sh {a with r:=a.r++[m],s:=up a.r.length a.s} (k+1):=⟨sh.bits,sh.DG,sh.last,sh.qq,sh.ee,by rw[zes];exact V,by dsimp only;lia,by dsimp only;lia,by dsimp only;lia,by dsimp only;lia,by simp;lia,by dsimp only;lia,by dsimp only;lia,sh.nq,sh.ne,λg f=>by
   rcases zec f with f|f
   .exact sh.nr g f
   .cases zeb f;exact hm⟩
  have lr:(a.r.map PyData.int).length=a.r.length:=zej _;exact Turn.of (.inr<|.inr<|.inr rfl) (Inv.deed (a':={a with r:=a.r++[m],s:=up a.r.length a.s}) (A:=[a.t0 ca n,a.t1 ca n,a.t2 ca n,a.t3 ca n]) (o:=some m) (LZ _) (I.ld.zdr _) I.ds I.ma (by lia) rfl rfl hd Wg n.h4 (by decide) (λg f=>by cases f;exact hm) (show List.contains _ ("room":Str)=true by decide+kernel) lk5.2.2.2.2 (show("room":Str)≠"do" by decide+kernel) (λS0 q ob hx=>by
   have:=VR ob hx hm (by lia)
   rw[lr]at this;rw[ze0];exact this) (Ki _ _ _ _) ⟨_,by lia,rfl⟩ (Int.natCast_nonneg _) (by decide) (by decide) S'.c0 (by unfold St.c;dsimp only;rw[zej,zej,show(a.r++[m]).length=a.r.length+1 by simp];lia) S')
 |dput w m hm=>
  let G:=if w then a.dl++[PyData.int m]else a.dl
  let H:=if w then a.dr else a.dr++[PyData.int m]
  let E:=if w then m::a.e else a.e++[m]
  have Z:G.reverse++H=E.map .int:=by cases w<;>simp[G,H,E,sh.ee]<;>rw[<-zeC,sh.ee]
  have hE:E.length=a.e.length+1:=by cases w<;>simp[E]
  have hc:(1:Int)+ab ((G.length:Int)-H.length)<=ab ((a.dl.length:Int)-a.dr.length)+2:=by cases w<;>simp only[G,H,if_true,if_false,Bool.false_eq_true,List.length_append,List.length_cons,List.length_nil]<;>unfold ab<;>split<;>split<;>lia
  have S':Sh {a with dl:=G,dr:=H,e:=E} (k+1):=⟨sh.bits,sh.DG,sh.last,sh.qq,Z,sh.fm,by dsimp only;lia,by dsimp only;lia,by dsimp only;lia,by show E.length<=_;lia,by dsimp only;lia,by dsimp only;lia,by dsimp only;lia,sh.nq,λg f=>by
   cases w with
   |true=>
    rcases zed f with rfl|f
    .exact hm
    .exact sh.ne g f
   |false=>
    rcases zec f with f|f
    .exact sh.ne g f
    .cases zeb f;exact hm,sh.nr⟩
  rw[<-le]at hd;have hQ:(if w then Qd (a.dl++[.int m]) a.dr else Qd a.dl (a.dr++[.int m]))=Qd G H:=by cases w<;>rfl
  exact Turn.of (.inr<|.inr<|.inl rfl) (Inv.deed (a':={a with dl:=G,dr:=H,e:=E}) (A:=[a.t0 ca n,a.t1 ca n,a.t2 ca n]) (t:=a.t3 ca n) (B:=[a.t4 ca n]) (o:=some m) (Y _) (I.ld.zdq _) I.ds I.ma (by lia) rfl rfl hd (zdj w) n.h3 (by decide) (λg f=>by cases f;exact hm) (show List.contains _ ("double":Str)=true by decide+kernel) lk5.2.2.2.1 (show("double":Str)≠"do" by decide+kernel) (λS0 q ob hx=>by
   have:=OY w ob hx hm (by lia)
   rw[hQ]at this;exact this) (DF _ _ _ _) ⟨_,by lia,rfl⟩ (by decide) (by decide) (by decide) S'.c0 (by unfold St.c;dsimp only;lia) S')
 |ZW Q=>
  have R:=sh.qq;rw[Q]at R;obtain⟨σ,K⟩:=List.append_eq_nil_iff.mp (R);have σ:a.qf=[]:=by simpa using σ
  exact Inv.no I (t:=a.t2 ca n) (by simp[St.ts]) hd Fv n.h2 (by decide) (show List.contains _ ("queue":Str)=true by decide+kernel) lk5.2.2.1 (show("queue":Str)≠"do" by decide+kernel) λS0 q ob hx=>OX (by have o':=ob;simp only[St.t2,σ,K]at o';exact o') hx
 |ZX C=>
  exact Inv.no I (t:=a.t4 ca n) (by simp[St.ts]) hd Fv n.h4 (by decide) (show List.contains _ ("room":Str)=true by decide+kernel) lk5.2.2.2.2 (show("room":Str)≠"do" by decide+kernel) λS0 q ob hx=>Sf (by have o':=ob;simp only[St.t4,C,List.map_nil]at o';exact o') hx
 |ZY w C=>
  have R:=sh.ee;rw[C]at R;obtain⟨σ,K⟩:=List.append_eq_nil_iff.mp (R);have σ:a.dl=[]:=by simpa using σ
  exact Inv.no I (t:=a.t3 ca n) (by simp[St.ts]) hd (ZV w) n.h3 (by decide) (show List.contains _ ("double":Str)=true by decide+kernel) lk5.2.2.2.1 (show("double":Str)≠"do" by decide+kernel) λS0 q ob hx=>MY w (by have o':=ob;simp only[St.t3,σ,K]at o';exact o') hx
 |ZZ m p Q=>
  have hm:=sh.nq m (by rw[Q];simp)
  obtain⟨f',b',st,X,g2,g3,g4⟩:=OW hm (by lia) (sh.qq.trans<|KA Q)
  have T:p.length+1=a.q.length:=by rw[Q];rfl
  have S':Sh {a with qf:=f',qb:=b',q:=p} (k+1):=⟨sh.bits,sh.DG,sh.last,X,sh.ee,sh.fm,by dsimp only;lia,by dsimp only;lia,by show p.length<=_;lia,by dsimp only;lia,by dsimp only;lia,by dsimp only;lia,by dsimp only;lia,λg f=>sh.nq g (by rw[Q];exact zei _ f),sh.ne,sh.nr⟩
  exact Turn.of (.inr<|.inl rfl) (Inv.deed (a':={a with qf:=f',qb:=b',q:=p}) (A:=[a.t0 ca n,a.t1 ca n]) (U _) (I.ld.zdp _) I.ds I.ma (by lia) rfl rfl hd Fv n.h2 (by decide) no (show List.contains _ ("queue":Str)=true by decide+kernel) lk5.2.2.1 (show("queue":Str)≠"do" by decide+kernel) (λS0 q ob hx=>g4 S0 _ _ ob hx) (GY _ _ _ _) ⟨_,hm,rfl⟩ (Int.natCast_nonneg _) (by decide) (by decide) S'.c0 (by unfold St.c;dsimp only;lia) S')
 |Z0 m p C=>
  have hm:=sh.nr m (by rw[C];simp)
  have T:p.length+1=a.r.length:=by rw[C];simp
  have fm:=sh.fm;rw[<-T]at fm;obtain⟨V,f2⟩:=fm.take;have S':Sh {a with r:=p,s:=dn p.length a.s} (k+1):=⟨sh.bits,sh.DG,sh.last,sh.qq,sh.ee,V,by dsimp only;lia,by dsimp only;lia,by dsimp only;lia,by dsimp only;lia,by show p.length<=_;lia,by dsimp only;lia,by dsimp only;lia,sh.nq,sh.ne,λg f=>sh.nr g (by rw[C];exact zeV _ f)⟩
  have ll:(p.map PyData.int).length=p.length:=zej _;have la:(a.r.map PyData.int).length=p.length+1:=by rw[zej,T]
  exact Turn.of (.inr<|.inr<|.inr rfl) (Inv.deed (a':={a with r:=p,s:=dn p.length a.s}) (A:=[a.t0 ca n,a.t1 ca n,a.t2 ca n,a.t3 ca n]) (LZ _) (I.ld.zdr _) I.ds I.ma (by lia) rfl rfl hd Fv n.h4 (by decide) no (show List.contains _ ("room":Str)=true by decide+kernel) lk5.2.2.2.2 (show("room":Str)≠"do" by decide+kernel) (λS0 q ob hx=>by
   have o':=ob;simp only[St.t4,C,List.map_append,List.map_cons,List.map_nil]at o';have:=Se o' hx hm (by lia)
   rw[ll]at this;exact this) (Ki _ _ _ _) ⟨_,hm,rfl⟩ (Int.natCast_nonneg _) (by decide) (by decide) S'.c0 (by unfold St.c;dsimp only;rw[ll,la];lia) S')
 |Z1 w m p C=>
  have hm:=sh.ne m (by rw[C];cases w<;>simp)
  have hp:a.dl.reverse++a.dr=if w then PyData.int m::p.map .int else p.map .int++[.int m]:=by rw[sh.ee,C];cases w<;>simp
  obtain⟨G,H,st,X,g2,g3⟩:=MX w hm (by lia) hp
  have T:p.length+1=a.e.length:=by rw[C];cases w<;>simp
  have S':Sh {a with dl:=G,dr:=H,e:=p} (k+1):=⟨sh.bits,sh.DG,sh.last,sh.qq,X,sh.fm,by dsimp only;lia,by dsimp only;lia,by dsimp only;lia,by show p.length<=_;lia,by dsimp only;lia,by dsimp only;lia,by dsimp only;lia,sh.nq,λg f=>sh.ne g (by rw[C];cases w<;>simp[show g∈p from f]),sh.nr⟩
  exact Turn.of (.inr<|.inr<|.inl rfl) (Inv.deed (a':={a with dl:=G,dr:=H,e:=p}) (A:=[a.t0 ca n,a.t1 ca n,a.t2 ca n]) (Y _) (I.ld.zdq _) I.ds I.ma (by lia) rfl rfl hd (ZV w) n.h3 (by decide) no (show List.contains _ ("double":Str)=true by decide+kernel) lk5.2.2.2.1 (show("double":Str)≠"do" by decide+kernel) (λS0 q ob hx=>g3 S0 _ _ ob hx) (DF _ _ _ _) ⟨_,hm,rfl⟩ (Int.natCast_nonneg _) (by decide) (by decide) S'.c0 (by unfold St.c;dsimp only;lia) S')
end
section
variable{ca:CA}
theorem Y6(hk:k<n)(h:S[k]?=some (some c))(I:blC n c=false):fh n S=false:=by
 cases e:fh n S with
 |false=>rfl
 |true=>
  have:some c∈S.take n:=zeh (by rw[List.getElem?_take,if_pos hk];exact h)
  rw[DD e this]at I;cases I
theorem O3:j9 ca (S++[some<|.obj ca.bo []]) [.lc S.length]=some (.ok (.pl .none)<|S++[some<|.obj ca.bo [("rows",.lc<|S.length+1)],some<|.dat<|.list []]):=by
 have h:=zf (C:=ca.bo) (f:="rows") (a:=aq 0) (s:=⟨S++[some<|.obj ca.bo []],[some<|.lc S.length]⟩) Jc (ar rfl) (fs:=[]) (by simp) (by simp)
 refine bY rfl (o:=.nx ⟨S++[some<|.obj ca.bo [("rows",.lc<|S.length+1)],some<|.dat<|.list []],[some<|.lc S.length]⟩) ?_ ?_
 .refine Eq.trans h ?_
  simp[AJ]
 .simp only[retS]
  rw[esc (k:=S.length) (c:=.obj ca.bo [("rows",.lc<|S.length+1)]) (by simp) (by simp) (by simp[blC,yr,blV])]
def S0(ca:CA):List (Option Cl):=[some<|.obj ca.cq [("things",.lc 1),("accounts",.lc 2)],some<|.dat<|.dict [],some<|.obj ca.bo [("rows",.lc 3)],some<|.dat<|.list []]
theorem Wi:vc ca.cq (fq<|sk ca) aj ⟨[],t⟩=some (.ok (.lc 0) ⟨S0 ca,t⟩):=by
 refine GZ aY (dX ?_);refine bY rfl (o:=.nx ⟨S0 ca,[some<|.lc 0]⟩) ?_ rfl;refine ag (s':=⟨[some<|.obj ca.cq [("things",.lc 1)],some<|.dat<|.dict []],[some<|.lc 0]⟩) ?_ ?_
 .have:=zf (f:="things") (a:=aq 0) (v:=nO Va) (s:=⟨[some<|.obj ca.cq []],[some<|.lc 0]⟩) (w4 rfl rfl) (ar rfl) rfl (by simp)
  exact this
 .have:=zf (f:="accounts") (a:=aq 0) (v:=vc ca.bo (fq<|j9 ca) aj) (s:=⟨[some<|.obj ca.cq [("things",.lc 1)],some<|.dat<|.dict []],[some<|.lc 0]⟩) (GZ aY<|dX O3) (ar rfl) rfl (by simp)
  exact this
end
section
variable{ca:CA}{S:List<|Option Cl}{b d i j u v N:Nat}{ts:List Tg}{l:List Ent}
theorem LS.Ee(h:LS ca S b d i j u v ts l)(I:blC (S.length+1) c=true):LS ca (S++[some c]) b d i j u v ts l:=⟨h.bk.Ee I,br h.hu,br h.hv,h.vj⟩
theorem KC(h:LS ca S b d i j u v [] []):∃S',i4 ca S [.lc b,.lc u,.pl<|.str "account",.pl<|.str "0 0 0 0",.pl<|.int 0]=some (.ok 9043 S')/\LS ca S' b d i j u v [] [⟨"account",0,0,0,0⟩]/\(∀(m:Nat) (c:Cl),S[m]?=some (some c)->isL c->m≠j->m≠u->m≠v->S'[m]?=some (some c))/\S'.length=S.length:=by
 have wd:∀x∈[("account":Str)],Wd x:=λx hx=>by cases zeb hx;exact⟨by decide+kernel,by decide+kernel⟩
 have hw:=GS wd (by simp) (by decide+kernel) (by decide+kernel) (by
  have:(ck.lookup<|cW "account"<|([]:List Str).length+1).getD []=[]:=by decide+kernel
  intro i hi;rw[this]at hi;cases hi)
 have a:=vf (by simp) wd (by simp)
 have ha:=M1 (h.bk.snoc<|.list<|[("account":Str)].map .str) fY (by decide) (by decide) (by decide) (by decide)
 have H:=V8 h.bk hw (by decide+kernel) (by simp) ha h.bk rfl (λm c hm _=>hm) (by decide) (by decide) (by decide) (by decide) (by decide+kernel) (by decide) (by decide) (by decide)
 obtain⟨S',e,f,g,k⟩:=Kw h H a (by decide+kernel) (by decide+kernel) (by decide+kernel) (by decide) (by decide) (by decide) (by decide) (by decide) (by decide) (by decide)
 exact⟨S',e,f,g,k (by simp only[List.length_set])⟩
def bgP:Nat->Str
 |0=>"bits "
 |1=>"figures "
 |2=>"queue "
 |3=>"double "
 |_=>"room "
theorem Y7:∀k,k<5->(bgP k).cps.toList=(bgW k).cps.toList++[32]:=five (by decide+kernel) (by decide+kernel) (by decide+kernel) (by decide+kernel) (by decide+kernel)
def zds(n:Str)(p:Nat):∀k,k<5->Tg.Ok ca ⟨n,p,bgC ca k,bgW k,bgF k,bgD k,0⟩:=five (QD n p []) (GX n p []) (GY n p [] []) (DF n p [] []) (Ki n p [] 4)
def bT(sc:SV)(b N u:Nat)(I a5:Option SV):List (Option SV):=[some sc,some<|.lc b,some<|.lc N,some<|.lc u,I,a5,none,none,none,none,none]
structure Bg(ca:CA)(S:List<|Option Cl)(b d i j u v N:Nat)(ns:List Str)(m:Nat)(ts:List Tg)(l:List Ent):Prop where
 ls:LS ca S b d i j u v ts l
 hn:S[N]?=some (some<|.dat<|.list<|ns.map .str)
 nj:N≠j
 nv:N≠v
 c0:ff ts=0
 b0:bu l=0
 s0:ly l=0
 p0:lz l=0
 ll:l.length=ts.length+1
 lm:m<=S.length
theorem Cu(B:Bg ca S b d i j u v N ns m ts l)(hk:k<5)(U:ts.length<=5)(I:ns[k]?=some n)(hn:Nm k n)(O:∀t∈ts,t.n≠n)(M:d<m) :
  ∃S' r,Ke ca ⟨S,bT sc b N u (some<|.pl<|.int (k:Int)) ρ⟩=some (.nx ⟨S',bT sc b N u (some<|.pl<|.int (k:Int))<|some<|.pl r⟩)/\Bg ca S' b d i j u v N ns m (ts++9023) (l++[⟨bgW k,0,0,0,0⟩])/\fh m S'=false:=by
 obtain⟨S1,H,a⟩:=Sq B.ls.bk hn hk O hk (by lia) (by have:=B.ll;lia) (zds n _ k hk) (by rw[B.c0,B.b0]) (by rw[B.b0];decide) (by rw[B.b0];decide)
 rw[B.b0]at a;have hw:=hn.wd hk;have s:Wd (bgW k):=by revert hk;exact five (P:=λk=>Wd<|bgW k) ⟨by decide+kernel,by decide+kernel⟩ ⟨by decide+kernel,by decide+kernel⟩ ⟨by decide+kernel,by decide+kernel⟩ ⟨by decide+kernel,by decide+kernel⟩ ⟨by decide+kernel,by decide+kernel⟩ k
 have g:=vf (ws:=[bgW k,n]) (by simp) (λx hx=>by
  rcases zed hx with rfl|hx
  .exact s
  .cases zeb hx;exact hw) (by simp)
 obtain⟨S',C,c,D,E⟩:=Kw B.ls H g (by decide+kernel) (by decide+kernel) (by decide+kernel) (by decide) (by decide) (by rw[a];decide) (by decide) (by decide) (by rw[a];decide) (by rw[a,B.s0,B.p0];decide)
 rw[a,B.b0]at c;have p:=gd B.hn B.ls.hu (by intro e;cases e)
 have y:=D N _ B.hn 9011 B.nj p B.nv;have pl:=c.bk.plt (t:=⟨n,S.length+1,bgC ca k,bgW k,bgF k,bgD k,0⟩) (by simp)
 have lm:=B.lm;refine⟨S',.str<|f9 [bgW k,n],?_,⟨c,y,B.nj,B.nv,a,by rw[Ay],by rw[Cq,B.s0];rfl,by rw[Cr,B.p0];rfl,by rw[zes,zes,B.ll];rfl,by dsimp only at pl;lia⟩,?_⟩
 .have w:∀{L:Rho},dY (ae (mC<|.str "bits ")<|ae (mC<|.str "figures ")<|ae (mC<|.str "queue ")<|ae (mC<|.str "double ")<|ae (mC<|.str "room ") ao) L=some ((.list [.str "bits ",.str "figures ",.str "queue ",.str "double ",.str "room "],.new),L):=f6 rfl rfl (by simp)
  let T:=bT sc b N u (some<|.pl<|.int (k:Int)) ρ
  have o:IE (af 4) (vw ⟨S,T⟩) (k:Int):=bq (dh rfl);have p1:mOp gIx (dY<|ae (mC<|.str "bits ")<|ae (mC<|.str "figures ")<|ae (mC<|.str "queue ")<|ae (mC<|.str "double ")<|ae (mC<|.str "room ") ao) (af 4) (vw ⟨S,T⟩)=some ((.str<|bgP k,.fz),vw ⟨S,T⟩):=bc (d0:=(.str<|bgP k,false)) (bz w) (ah o) (by
   show(atI _ (k:Int)).map _=_;rw[Mir.pq]
   revert hk
   exact five (P:=λk=>(([PyData.str "bits ",.str "figures ",.str "queue ",.str "double ",.str "room "])[k]?).map (λd=>(d,false))=some (.str<|bgP k,false)) rfl rfl rfl rfl rfl k)
  have p2:mOp gIx (af 2) (af 4) (vw ⟨S,T⟩)=some ((.str n,.fz),vw ⟨S,T⟩):=bc (d0:=(.str n,false)) (ah<|ax<|pj rfl<|lg B.hn) (ah o) (by
   show(atI _ (k:Int)).map _=_;rw[Mir.pq,zem,I];rfl)
  have F:(bgP k).length<=10:=by revert hk;exact five (P:=λk=>(bgP k).length<=10) (by decide+kernel) (by decide+kernel) (by decide+kernel) (by decide+kernel) (by decide+kernel) k
  have h:=i8 p1 p2 (by have:=hn.len;lia)
  rw[row2<|Y7 k hk]at h;refine ag (bZ (vh h rfl) (by simp[T,bT])) ?_
  exact bh (Fp (b:=true)<|kc<|gZ (ak (ar rfl)<|ak (ar rfl)<|ak (ar rfl)<|ak hZ<|ak hZ aY)<|dX C) rfl
 .have hd:=c.bk.d
  have A:blC m (.dct<|esT<|ts++9023)=false:=by
   unfold esT;rw[ze0];exact Kr (by dsimp only;lia) _
  have f:esT (ts++9023)≠[]:=by simp[esT]
  unfold ip at hd;split at hd
  .rename_i es q
   cases hd;exact Y6 M q A
  .exact absurd (zeP hd).symm f
  .cases hd
end
section
variable{ca:CA}{S:List<|Option Cl}{b d i j u v W x y z N:Nat}{n:Nms}{l:List Ent}{a:St}{k:Nat}{sc:SV}
theorem Wk{ok:SS->Prop}{g:SV->SN}{b:SN}{s:SS}(h:ok s):qY m kp ok g b [] s=some (.nx s):=by unfold qY;rw[bg h]
theorem Su{ok:SS->Prop}{g:SV->SN}{b:SN}{d:SV}{ds:List SV}{s s1 s2 I:SS}{o:Option yd}(h:ok s)(h1:g d s=some (.nx s1))(h2:b s1=some (.nx s2))(h3:gcE m kp s2=I)(h4:qY m kp ok g b ds I=o):qY m kp ok g b (d::ds) s=o:=by
 unfold qY;rw[bg h,h1];dsimp only;rw[h2];dsimp only;rw[h3];exact h4
theorem Cv(h:fh m S=false):gcE m kp ⟨S,t⟩=⟨S,t⟩:=by
 unfold gcE;rw[h];rfl
def lO(sc:SV)(b N u W:Nat)(I a5 M O Y:Option SV):List (Option SV):=[some sc,some<|.lc b,some<|.lc N,some<|.lc u,I,a5,some<|.lc W,M,O,Y,none]
def PlO(o:Option SV):Prop:=o=none\/∃d,o=some (.pl d)
theorem zd5(hb:b<m)(hN:N<m)(hu:u<m)(hW:W<m)(h4:PlO I)(Y:PlO ρ)(h7:PlO M)(h8:PlO O)(h9:PlO U):MV m (lO (.pl dd) b N u W I ρ M O U)=true:=by
 refine List.all_eq_true.mpr λo e=>?_
 have all:PlO o\/∃c,c<m/\o=some (.lc c):=by
  simp only[lO,List.mem_cons,List.not_mem_nil,or_false]at e;rcases e with rfl|rfl|rfl|rfl|rfl|rfl|rfl|rfl|rfl|rfl|rfl
  .exact .inl 9011
  .exact .inr ⟨_,hb,rfl⟩
  .exact .inr ⟨_,hN,rfl⟩
  .exact .inr ⟨_,hu,rfl⟩
  .exact .inl h4
  .exact .inl Y
  .exact .inr ⟨_,hW,rfl⟩
  .exact .inl h7
  .exact .inl h8
  .exact .inl h9
  .exact .inl (.inl rfl)
 rcases all with(rfl|⟨d,rfl⟩)|⟨c,f,rfl⟩
 .rfl
 .rfl
 .exact zeG f
theorem loop{K:Nat}{ds:List D}{m:Nat}{dd:D}{a4:Option SV}(h4:PlO a4)(Kj:K≠j)(Ku:K≠u)(Kv:K≠v)(KW:K≠W)(Kx:K≠x)(Ky:K≠y)(Kz:K≠z):∀(U:List Int) (k:Nat) (S:List<|Option Cl) (a:St) (l:List Ent) (a5 ρ M O:Option SV),Inv ca S b d i j u v W x y z N n a l k->k+U.length<=60->S.length=m->S[K]?=some (some<|.dat<|.list ds)->PlO a5->PlO ρ->PlO M->PlO O->
  ∃S' Y l' k' b5 b7 b8 b9,qY m [0,1,2,3,4,5,6,10] (stays (.lc K)<|ds.map .pl) (ngN 7) (wZ ca) (U.map λc=>SV.pl<|.int c) ⟨S,lO (.pl dd) b N u W a4 a5 ρ M O⟩=some (.nx ⟨S',lO (.pl dd) b N u W a4 b5 b7 b8 b9⟩)/\Inv ca S' b d i j u v W x y z N n Y l' k'
 | [],k,S,a,l,a5,ρ,M,O,I,hk,hm,e,p,q,r,s=>⟨S,a,l,k,a5,ρ,M,O,Wk (by unfold stays EB;dsimp only;rw[e]),I⟩
 |c::U,k,S,a,l,a5,ρ,M,O,I,hk,hm,e,p,q,r,s=>by
  rw[zeu]at hk;obtain⟨g,Y,l',F,G,H,t1,t2,t3,t4⟩:=I.turn (by lia) c
  have f:=t4 K _ e 9011 Kj Ku Kv KW Kx Ky Kz;obtain⟨S',h,B,A,b5,b7,b8,b9,C,E⟩:=loop (m:=m) h4 Kj Ku Kv KW Kx Ky Kz U (k+1) g Y l' (some<|.pl F) (some<|.pl<|.int c) (some<|.pl G) (some<|.pl H) t2 (by lia) (by lia) f 9011 9011 9011 9011
  refine⟨S',h,B,A,b5,b7,b8,b9,?_,E⟩;refine Su (by unfold stays EB;dsimp only;rw[e]) (w8 (by simp[lO])) t1 ?_ C
  have t:g.length=m:=by lia
  subst t;refine Cm t2.ls.bk.led.w (zd5 ?_ ?_ ?_ ?_ h4 9011 9011 9011 9011)
  .exact(zea t2.ls.bk.o).1
  .exact(zea t2.ld.hn).1
  .exact(zea t2.ls.hu).1
  .exact(zea t2.ld.hw).1
end
theorem Y8(l:List Ent)(hk:∀e∈l,PyData.strOk e.w=true):gNe (rD l) (rD l)=some 9026:=by
 unfold gNe;rw[if_pos ⟨js l hk,js l hk⟩,QA l hk];rfl
theorem Wl(l:List Ent)(hk:∀e∈l,PyData.strOk e.w=true):gEq (rD l) (rD l)=some 9012:=by
 unfold gEq;rw[if_pos ⟨js l hk,js l hk⟩,QA l hk]
theorem Y9(I:Inv ca S b d i j u v W x y z N n a l k):∃s',a6 (dW (cz ca.cq "ledger" (fq<|dq ca) [] (aq 1) aj)<|ngN 10)
  (a6 (gX (nOr (nTo<|BR<|az<|Ey "list"<|af 10)<|ph<|nOp gNe (aq 10)<|nIx (aq 3)<|nLit<|.int 2)
  9065
  d9)
  (a6 (jn<|Hx (aq 10)<|aa (nLit<|.int 5) aj)
  (df<|nOp gEq (cz ca.cq "ledger" (fq<|dq ca) [] (aq 1) aj)<|nIx (aq 3)<|nLit<|.int 2))) ⟨S,lO sc b N u W M a5 O U Y⟩=some (.rt 9043 s'):=by
 let T:List (Option SV):=[some sc,some<|.lc b,some<|.lc N,some<|.lc u,M,a5,some<|.lc W,O,U,Y,some<|.lc S.length]
 let S1:=S++[some<|Cl.dat<|rD l]
 have f:S1[S.length]?=some (some<|.dat<|rD l):=fY;have p:S1[u]?=some (some<|.lst 9069):=br I.ls.hu;have r:S1[v]?=some (some<|.dat<|rD l):=br I.ls.hv
 let ρ:=l.map eD++[PyData.int 5]
 let e:=S++[some<|Cl.dat<|.list ρ]
 have g:=I.ls.bk.snoc (.list ρ);have h:S1.set S.length (some<|.dat<|.list ρ)=e:=by simp[S1,e]
 have q:e[u]?=some (some<|.lst 9069):=br I.ls.hu;have s:e[v]?=some (some<|.dat<|rD l):=br I.ls.hv;refine⟨⟨e++[some<|.dat<|rD l],T⟩,?_⟩;refine ag (bZ (cv (ar rfl) I.ls.bk.o rfl aY<|dX<|zh I.ls.bk) (by simp[lO])) ?_
 have m:Hx (aq 10) (aa (nLit<|.int 5) aj) ⟨S1,T⟩=some (.ok (.pl .none) ⟨e,T⟩):=by
  have:=Fq (s1:=⟨S1,T⟩) (d:=.int 5) (ar (i:=10) rfl) f (ak hZ aY) f (by rw[zej];have:=I.ls.bk.led.z;lia)
  rw[this];rw[h]
 refine ag (bh (ZS (c7<|wa (v:=true)<|test_ev (k:=.fz)<|F5 (ah<|ax<|pj rfl<|lg f) (by simp[rD,yb,tyD,iX,C6]))<|kc<|uf (ar rfl) (ju rfl p rfl) (xr f) (xr r)<|Y8 l I.ls.bk.led.k) rfl) (ag (ka m)<|bt<|uf (cv (ar rfl) g.o rfl aY<|dX<|zh g) (ju rfl (br q) rfl) (xr fY) (xr<|br s)<|Wl l I.ls.bk.led.k)
section
variable{ca:CA}
theorem QL(h:m s=some (.ok xs s1))(I:xs.length<=100):m5 m s=some (UD (mkL xs) s1):=by
 unfold m5;rw[c9 h,bg<|AH (by lia)]
theorem O4(h:ts.length=5)(hn:∀j,(h:j<ts.length)->Nm j ts[j]):∃n:Nms,ts=n.l:=by
 match ts,h,hn with
 | [a,b,c,d,e],_,hn=>exact⟨⟨a,b,c,d,e,hn 0 (by simp),hn 1 (by simp),hn 2 (by simp),hn 3 (by simp),hn 4 (by simp)⟩,rfl⟩
theorem begun(B:Bg ca S b d i j u v N n.l S.length [] l)(I:d<S.length):∃S' p0 p1 p2 p3 p4 O M ρ,qY S.length [0,1,2,3,5,6,7,8,9,10] (λ_=>True) (ngN 4) (Ke ca) ((Hr 0 5).map .pl) ⟨S,bT sc b N u none none⟩=some (.nx ⟨S',bT sc b N u (some<|.pl M)<|some<|.pl ρ⟩)/\Bg ca S' b d i j u v N n.l S.length (St.ts ca n ⟨p0,p1,p2,p3,p4,[],[],[],[],[],[],4,[],[],[]⟩) O:=by
 have ne:∀{i k:Nat} {y z:Str},Nm i y->Nm k z->i≠k->y≠z:=λh1 h2 h e=>h (h1.ne h2 e)
 obtain⟨S1,P,A,f,F⟩:=Cu B (by decide) (by simp) rfl n.h0 (λt a=>by cases a) I
 obtain⟨q,Q,C,g,G⟩:=Cu f (by decide) (by simp) rfl n.h1 (λt a=>by simp only[List.nil_append,List.mem_singleton]at a;subst a;exact ne n.h0 n.h1 (by decide)) I
 obtain⟨r,R,D,m,H⟩:=Cu g (by decide) (by simp) rfl n.h2 (λt a=>by
  simp only[List.nil_append,List.cons_append,List.mem_cons,List.not_mem_nil,or_false]at a;rcases a with rfl|rfl
  .exact ne n.h0 n.h2 (by decide)
  .exact ne n.h1 n.h2 (by decide)) I
 obtain⟨s,M,E,o,σ⟩:=Cu m (by decide) (by simp) rfl n.h3 (λt a=>by
  simp only[List.nil_append,List.cons_append,List.mem_cons,List.not_mem_nil,or_false]at a;rcases a with rfl|rfl|rfl
  .exact ne n.h0 n.h3 (by decide)
  .exact ne n.h1 n.h3 (by decide)
  .exact ne n.h2 n.h3 (by decide)) I
 obtain⟨w,ρ,a5,p,K⟩:=Cu o (by decide) (by simp) rfl n.h4 (λt a=>by
  simp only[List.nil_append,List.cons_append,List.mem_cons,List.not_mem_nil,or_false]at a;rcases a with rfl|rfl|rfl|rfl
  .exact ne n.h0 n.h4 (by decide)
  .exact ne n.h1 n.h4 (by decide)
  .exact ne n.h2 n.h4 (by decide)
  .exact ne n.h3 n.h4 (by decide)) I
 refine⟨w,S.length+1,S1.length+1,q.length+1,r.length+1,s.length+1,_,.int 4,ρ,?_,p⟩;refine lh (w8 (by simp[bT])) A (Cv F) ?_
 refine lh (w8 (by simp[bT])) C (Cv G) ?_
 refine lh (w8 (by simp[bT])) D (Cv H) ?_
 refine lh (w8 (by simp[bT])) E (Cv σ) ?_
 refine lh (w8 (by simp[bT])) a5 (Cv K) MW
theorem Wm(ca:CA)(ns:List Int)(Y:ns.length<=63)(hb:∀k∈ns,Builtin.Int.intBits k<=1048576):ZP ca [.list<|ns.map .int]=some 9012:=by
 let W:D:=.list (ns.map .int)
 let sc:SV:=.pl W
 obtain⟨nm,F,u,M⟩:=VD (ns.headD 0);obtain⟨n,rfl⟩:=O4 u M
 let A:Cl:=.dat (.list<|n.l.map .str)
 let σ:List (Option Cl):=S0 ca++[some A,some<|.dat<|.list [],some<|.lst [.pl<|.int 0,.pl<|.int 0,.lc 5,.pl<|.int 0]]
 have L2:LS ca σ 0 1 2 3 6 5 [] []:=⟨⟨rfl,rfl,λt G=>(by cases G),⟨rfl,rfl,rfl,by simp,λe U=>(by cases U)⟩,by simp,by simp,by simp,λt G=>(by cases G)⟩,rfl,rfl,by decide⟩
 obtain⟨C,k1,S,Q,l3⟩:=KC L2;have T:=Q 4 A rfl 9011 (by decide) (by decide) (by decide)
 have l7:C.length=7:=l3;have P:Bg ca C 0 1 2 3 6 5 4 n.l C.length [] [⟨"account",0,0,0,0⟩]:=⟨S,T,by decide,by decide,rfl,rfl,rfl,rfl,rfl,zen _⟩
 obtain⟨B,p0,p1,p2,p3,p4,K,p,o,k4,i⟩:=begun P (by lia)
 let x:=B.length
 have ext:=i.ls.Ee (c:=dL []) rfl;have r:=ext.Ee (c:=dL []) rfl;have s:=r.Ee (c:=dL []) rfl;have H:=s.Ee (c:=wL 0 0 x (x+1)<|x+2) (by simp[wL,blC,B8,blV,x];lia)
 obtain⟨f,E,lms⟩:∃f:List Int,cutD (ns.map .int) (some 1) (some 61)=f.map .int/\f.length<=60:=by
  refine⟨_,Rr ns (some 1)<|some 61,?_⟩;rw[List.length_take];have X:=HT.E7 ns.length ns.length 61;have Z:=HT.E7 ns.length 0 1;have:HT.sIx ns.length ns.length (some 61)=min 61 ns.length:=X;have:HT.sIx ns.length 0 (some 1)=min 1 ns.length:=Z
  lia
 have y:=H.Ee (c:=.dat<|.list<|f.map .int) rfl
 let j:=B++[some<|dL [],some<|dL [],some<|dL [],some<|wL 0 0 x (x+1)<|x+2]
 let m:=j++[some<|Cl.dat<|.list<|f.map .int]
 have ρ:B++[some<|dL []]++[some<|dL []]++[some<|dL []]++[some<|wL 0 0 x (x+1)<|x+2]++[some<|Cl.dat<|.list<|f.map .int]=m:=by simp[m,j]
 rw[ρ]at y;have g:∀(q:Nat) (c:Option Cl),(9083)[q]?=some c->m[x+q]?=some c:=λq c hq=>by
  have:m=B++9083:=by simp[m,j]
  rw[this,zeM (by lia),Nat.add_sub_cancel_left];exact hq
 have ux:=(zea i.ls.hu).1
 let a:St:=⟨p0,p1,p2,p3,p4,[],[],[],[],[],[],4,[],[],[]⟩
 have sh:Sh a 0:=⟨λ_ h=>(by cases h),λ_ h=>(by cases h),.inl rfl,rfl,rfl,⟨.inl rfl,Nat.zero_le _,.inl rfl⟩,zen _,zen _,zen _,zen _,zen _,zen _,zen _,λ_ h=>(by cases h),λ_ h=>(by cases h),λ_ h=>(by cases h)⟩
 have O:a.c=0:=by rw[<-a.sum ca n];exact i.c0
 have I:Inv ca m 0 1 2 3 6 5 (x+3) x (x+1) (x+2) 4 n a K 0:=⟨y,⟨g 3 _ rfl,g 0 _ rfl,g 1 _ rfl,g 2 _ rfl,br<|br i.hn,by lia,by lia,by lia,by lia,by lia,by lia⟩,⟨by lia,by lia,by lia,by decide,by lia,by lia,by lia,by decide,by lia⟩,⟨sh,by rw[O,i.b0],by rw[i.s0,i.b0,i.p0];decide,by rw[i.s0];decide,by rw[i.p0];lia,by rw[i.ll];simp[St.ts]⟩⟩
 obtain⟨S7,a7,l7',k7,V,b7,b8,b9,k5,R⟩:=loop 9011 (by lia) (by lia) (by lia) (by lia) (by lia) (by lia) (by lia) f 0 m a K (some<|.pl o) none none none I (by lia) rfl (g 4 _ rfl) 9011 (.inl rfl) (.inl rfl) (.inl rfl)
 obtain⟨N,k8⟩:=Y9 (a5:=V) R;show fnO 1 10 (Qk ca) [.list<|ns.map .int]=_;unfold fnO;have run:Qk ca ⟨[],[some sc,none,none,none,none,none,none,none,none,none,none]⟩=some (.rt 9043 N):=by
  refine ag (bZ Wi (by simp)) ?_
  refine ag (bZ (w4 (ig (au (ah<|ig (au 9041<|au rfl aX) (YQ ns Y) rfl) aX) F (by simp only[ie,g5])) (by simp only[ie,g5])) (by simp)) ?_
  refine ag (bZ (x:=.lc 6) (s':=⟨σ,[some sc,some<|.lc 0,some<|.lc 4,none,none,none,none,none,none,none,none]⟩) ?_ (by simp)) ?_
  .refine(QL (ak hZ<|ak hZ<|ak Jc<|ak hZ aY) (by simp)).trans ?_
   rfl
  refine ag (bh (Fp (b:=true)<|kc<|gZ (ak (ar rfl)<|ak (ar rfl)<|ak hZ<|ak hZ<|ak hZ aY)<|dX k1) rfl) ?_;refine ag (Qz (Od rfl ⟨by decide,by decide⟩) k4) ?_
  refine ag (bZ (x:=.lc<|x+3) (s':=⟨j,bT sc 0 4 6 (some<|.pl p)<|some<|.pl o⟩) ?_ (by simp[bT])) ?_
  .refine(QL (ak hZ<|ak hZ<|ak Jc<|ak Jc<|ak Jc aY) (by simp)).trans ?_
   simp[UD,mkL,mZ,j,dL,wL,x]
  have sl:nO (mSl gSl (af 0) (iy<|mC<|.int 1)<|iy<|mC<|.int 61) ⟨j,lO sc 0 4 6 (x+3) (some<|.pl p) (some<|.pl o) none none none⟩=some (.ok (.lc<|x+4) ⟨m,lO sc 0 4 6 (x+3) (some<|.pl p) (some<|.pl o) none none none⟩):=by
   have e:mSl gSl (af 0) (iy<|mC<|.int 1) (iy<|mC<|.int 61) (vw ⟨j,lO sc 0 4 6 (x+3) (some<|.pl p) (some<|.pl o) none none none⟩)=some ((.list<|f.map .int,.new),vw ⟨j,lO sc 0 4 6 (x+3) (some<|.pl p) (some<|.pl o) none none none⟩):=by
    rw[<-E];rfl
   have:=w4 e (by rw[ie];exact sd f)
   have l5:j.length=x+4:=by simp[j,x]
   rw[this];rw[l5]
  refine ag ?_ k8;show PY _ _ _ _ ⟨j,lO sc 0 4 6 (x+3) (some<|.pl p) (some<|.pl o) none none none⟩=_;unfold PY;rw[o3 sl];dsimp only;rw[show EB m (.lc<|x+4)=some ((f.map PyData.int).map .pl) by unfold EB;dsimp only;rw[g 4 _ rfl],zeg]
  have em:(f.map PyData.int).map SV.pl=f.map λc=>SV.pl (.int c):=by rw[List.map_map];rfl
  have v:=k5;rw[em]at v;rw[em];exact v
 have w:Qk ca ⟨[],[PyData.list<|ns.map .int].map (λd=>some<|SV.pl d)++List.replicate 10 none⟩=some (.rt 9043 N):=run
 rw[w];rfl
end
end K81
set_option maxHeartbeats 4000000
namespace K81
open L2 Mir
open Lean
set_option hygiene false in
def rtT:MacroM (Array Term):=do
 let `([$xs,*])<- `([j1 hd rfl (by first|exact Or.inl rfl|exact Or.inr rfl) q,
 P2 (K:=K) rfl q,
 fu (i9 (K:=K) rfl) rfl zZ zeD q,
 JS (n:=nn) (k:=nn) q rfl h,
 zbg (n:=nn) (k:=nn) q rfl h,
 yY (λ_=>.nil) q q,
 X2 (K:=K) rfl q q,
 Po (Fb (K:=K) rfl) q q (λ_ _=>rfl),
 v7 (K:=K) rfl zeI zeU zeT Am q q,
 Ph hd rfl (by first|exact Or.inl rfl|exact Or.inr rfl),
 Dm λ_=>.str _,
 lX zcn q q (lW _),
 P1 (n:=nn) (k:=nn) q rfl h,
 qi (vZ (K:=K) rfl) rfl zZ PyProof.Rows.boot_list q,
 lX Pj q q (lW _),
 Zo rfl ⟨rfl,rfl,rfl,rfl,rfl,rfl,by decide+kernel⟩ q (λ_ _ _ _=>q) (λ_ _ _ _=>q),
 Dm λ_=>.bl _,
 v7 (K:=K) rfl PySem.F.plainAttrs_str PySem.F.slot_str_split PySem.F.type_str_split UU q q,
 Yh ke kf kg FC (hr.mono (by lia)) rfl q,
 Ud (K:=K) rfl q,
 RP (λ_ _ _ z=>z) q,
 Dm λ_=>.non,
 i6 kX q (hr.mono (by lia)),
 lX zat q q (lW _),
 v7 (K:=K) rfl PySem.F.plainAttrs_str PySem.F.slot_str_startswith PySem.F.type_str_startswith RC q q,
 fu (Ro (K:=K) rfl rfl) rfl zZ PyProof.Rows.boot_all q,
 Ug ZO ZO q q q (λ_ _ _ _ _ k h=>RU h k),
 rY (v:=.str "account 1") rfl Ji ⟨_,rfl⟩,
 lX (Rv (K:=K) rfl) q q rfl,
 rY (v:=.ref ga.Bs) rfl gf.KD rfl,
 Xx (K:=K) rfl q,
 zaj hd rfl (by first|exact Or.inl rfl|exact Or.inr rfl) q SX,
 v7 (K:=K) rfl zeI PySem.F.slot_list_count PySem.F.type_list_count (Rp (K:=K) rfl) q q,
 Ea (K:=K) rfl rfl rfl zZ rfl zZ q,
 B7 Eh (hr.mono (by lia)) (F7 rfl) q,
 Fe (n:=nn) (k:=nn) q rfl h,
 An vi q (hr.mono (by lia)) q,
 rY (v:=.int 4) rfl qg ⟨_,rfl⟩,
 fu (Iv (K:=K) rfl rfl) rfl zZ PyProof.Rows.boot_sum q,
 i6 xx q (hr.mono (by lia)),
 i6 vk q (hr.mono (by lia)),
 X8 (Nat.lt_of_le_of_lt (Nat.add_le_add_left (by decide) _) hu) q q (λ_ _=>rfl),
 uX (yo (K:=K) rfl) q q q,
 i6 iw q (hr.mono (by lia)),
 BI (N8 (K:=K) rfl hu) q q (lW _),
 i6 jW q (hr.mono (by lia)),
 qZ Sv (hr.mono (by lia)),
 i6 Az q (hr.mono (by lia)),
 rY (v:=.int 60) rfl G2 ⟨_,rfl⟩,
 BI (Uc (K:=K) rfl hu) q q (lW _),
 Xy (K:=K) rfl rfl zZ q,
 WD q q (Ru (K:=K) rfl) q SX set_list,
 B7 KH (hr.mono (by lia)) (F7 rfl) q,
 iW (id (yh (qo (fv (pix K (pv 1)) (fv (qo (fv (pix K (pix K (pv 1))) (pa1 (pix K (pix K (pv 1)))))) (pa1 (pix K (pv 1)))))))),
 B7 KI (hr.mono (by lia)) (F7 rfl) q,
 B7 M6 (hr.mono (by lia)) (F7 rfl) q,
 B7 M7 (hr.mono (by lia)) (F7 rfl) q,
 zbM (Nat.lt_of_le_of_lt (Nat.add_le_add_left (by decide) _) hu) q q,
 W7 d (hr.mono (by lia)),
 qZ Za (hr.mono (by lia)),
 qZ O5 (hr.mono (by lia)),
 qZ Wo (hr.mono (by lia)),
 qZ Sw (hr.mono (by lia)),
 qZ Zb (hr.mono (by lia)),
 An AA q (hr.mono (by lia)) q,
 X9 (Nat.lt_of_le_of_lt (Nat.add_le_add_left (by decide) _) hu) q q q rfl,
 i6 Cw q (hr.mono (by lia)),
 RH (Nat.lt_of_le_of_lt (Nat.add_le_add_left (by decide) _) hu) q q,
 U0 gf.QO gf.QP q (λ_ _=>rfl),
 i6 Cy q (hr.mono (by lia)),
 lX (zbp (K:=K) rfl) q q rfl,
 An EO q (hr.mono (by lia)) q,
 U9 zdv (F7 rfl) q (hr.mono (by lia)) q,
 An AB q (hr.mono (by lia)) q,
 Vb (g:=spS) (λ_ _ _ _ z=>z) (λ_ _ _ z=>z) q q,
 BI zco q q (lW _),
 UL HN (F7 rfl) q (hr.mono (by lia)) q,
 An Cz q (hr.mono (by lia)) q,
 UO (λ_=>.nil) q q,
 An uh.quiet q (hr.mono (by lia)) q,
 Fc (K:=K) rfl PySem.F.plainAttrs_str PySem.F.slot_str_isdigit PySem.F.type_str_isdigit UR q,
 BI Zk q q (lW _),
 v7 (K:=K) rfl zeI PySem.F.slot_list_pop PySem.F.type_list_pop Tv q q,
 v7 (K:=K) rfl zeI PySem.F.slot_list_insert PySem.F.type_list_insert Rf q q,
 qZ Zd (hr.mono (by lia)),
 XZ (n:=nn) (k:=nn) q rfl h])|Macro.throwUnsupported
 let h<- `(_)
 let mut r:=#[]
 let mut c:=xs.getElems.toList
 for f in "pv _,cy,pa1 q,wj q q,we,cX q q,iW q,wg,ma1 q,fv q q,j0,pix K q,JP q q,yh q,jj,mix q,tY,#,ki q,t5,Ot q,Fx q q q,vz,NW q q,zdV q,pd d hr q,nix q,JQ q q,yi q,Fh,#,Dc q,zcT q q q,nli,XN,#,qo q,zdW q,peq K hu q q,je q q,ib N0 q q,#,Yx K q q,#,kY ym q,ib J_I q q,lY q,ib Lv q q,C8 q,PB q,NH,EZ q,#,zbB q,#,#,PD q q q,vX,UG q,zab q,SR,vW q,qi RE rfl zZ PyProof.Rows.boot_str q,Vf q,AD zap q q,ib Rk q q,PV q,AD Jl q q,PW.pt q,zae q,AD zaq q q,#,ib zcE q q,ib T9 q q,zcz q,Oq q,#,zdZ q q,zc4 q q,zci q q,UH,NU,SE,zaY q,zai q q,LL U6 q,#,zad q,pne K hu q q,zcA q q,ib zcF q q,zah q q set_list,Vg q,zal PassesOwn.never rfl q q q,E8 q,Jx BX q,#,zdY q q,zc3 q,AD JC q q,#,Z9,#,sg cf.lj cf.AS q,sg cf.jz cf.xt q,#,SG q q,#,TY q q,ib Zs q q,kY U6 q,sg cf.DH cf.xw q,Yq q,#,Pf q,Pt,za8,fu Li rfl zZ zeA q,#,zbi q,T6,T5 Yb q q,kY FV q,LL ym q,JO q,sg cf.jz cf.ug q,#,#,IG Lv q q,zbC q q,zbe q q q,Xn,zcC q q q,SJ q q,BL q,BU q,Le Fy q,FJ Lw q,sg cf.G0 cf.AU q,sg cf.M5 cf.AV q,#,sg cf.QM cf.Eg q,Zx q q,zbG q q,#,zby q,zcR q,Q0 rfl zZ q,AD zar q q,Xl q,ib zbN q q,zcW q,zbJ,zc5 q,Yc,zcy,SI q,Xh q q,Pu zZ PyProof.Rows.boot_str,zaa q,Xp q q,zbd q,sg cf.QN cf.G1 q,SK q q q,yy cf.M5 cf.AV q q,yy cf.DH cf.xw q q,yy cf.QM cf.Eg q q,IG N0 q q,#,IG zcE q q,#,ib zdN q q,zaW,SW q q,UI q,#,#,zbY q,Tc Vk Vk q q q,T5 U5 q q,kY zcH q,zb1 q,#,BK,BS,#,#,#,#,zbQ gf.KG q,Lc PassesOwn.never q q,#,Lu q q,zbb q,yy cf.QN cf.G1 q q,#,T5 Xu q q,zbz q q q,yy cf.G0 cf.AU q q,qi RD rfl zZ PyProof.Rows.boot_int q,kY zbO q,#,kY Iz q,#,#,#,#,#,LL Zt q,zcU q q q,#,#,#,zcS q q,Vc q q,#,Ir Ua q q q,zbE q q q,#,Xk q,#,#,yy cf.lj cf.AS q q,UZ,#,yy cf.jz cf.ug q q,Yi,yy cf.jz cf.xt q q,LL FV q,#,#,uX zbI q q q,#,Ir zc2 q q q,Ov gf.QO gf.QP q,RI gf.EJ gf.EK q,Yf gf.QQ q,U8 gf.EL q,fu RS rfl zZ zeA q,Ys q,#,za6 q,#,Xz q q,#,Ux q,#,gh q q,Uy q,dk q,#,#,Ue q q,#,#,zbT q q,Yp cf.Wn q q,#,#,#,#,#,#,#,#,Ym q q q,#,#,#,RO q q,Vh gf.QQ q q,Yl cf.Wn q,#,#,#,#,#,#,fu Td rfl zZ PyProof.Rows.boot_abs q,kY zcG q,Pu zZ PyProof.Rows.boot_int,zaf q,Pu zZ PyProof.Rows.boot_bool,#,Xi q,zaZ q q q,za1 q,#,#,#,#,WY q,#,zba Ya q,#,PU q q,IG Rk q q,#,Zy Xv q q,#,Zy Um q q,#,Xb rfl q,WA,Pu zZ PyProof.Rows.boot_list,#,XU q q q,XQ q,XO,IG zcF q q".splitOn "," do
  if f="#" then r:=r.push (c.headD h);c:=c.drop 1
  else
   let l:=(f.splitOn " ").map λw=>if w="_" then h else ⟨mkIdent w.toName⟩
   r:=r.push (Syntax.mkApp (l.headD h) (l.drop 1).toArray)
 return r
set_option hygiene false in
def rtG(tb:Array Term):Nat->StateT (List Char) MacroM Term
 |0=>Macro.throwUnsupported
 |n+1=>do
  let c::r<-get|Macro.throwUnsupported
  set r
  let t<-(tb.getD ("!#$%&'()*+,-./0123456789:;<=>?@ABCDEFGHIJKLMNOPQRSTUVWXYZ[]^_`abcdefghijklmnopqrstuvwxyz{|}~¡¢£¤¥¦§¨©ª«¬®¯°±²³´µ¶·¸¹º»¼½¾¿ÀÁÂÃÄÅÆÇÈÉÊËÌÍÎÏÐÑÒÓÔÕÖ×ØÙÚÛÜÝÞßàáâãäåæçèéêëìíîïðñòóôõö÷øùúûüýþÿĀāĂăĄąĆćĈĉĊċČčĎďĐđĒēĔĕĖėĘęĚěĜĝĞğĠġĢģĤĥĦħĨĩĪīĬĭĮįİıĲĳĴĵĶķĸĹĺĻļĽľĿŀŁłŃńŅņŇňŉŊŋŌōŎŏŐőŒœŔŕŖŗŘřŚśŜŝŞşŠšŢţŤťŦŧŨũŪūŬŭŮůŰűŲųŴŵŶŷŸŹźŻ".toList.idxOf c) default).raw.replaceM λs=>match s with
   | .ident _ _ `q _=>do return some (<-rtG tb n).raw
   | .ident _ _ `zZ _=>do return some (<- `(Z.1 _ (by decide+kernel))).raw
   | .ident _ _ `nn _=>do
    let r<-get
    set (r.drop 1)
    return some (quote ("0123456789abcdefghijklmnopqrstuvwxyz".toList.idxOf (r.headD '0')):Term).raw
   | .ident _ _ `d _=>do
    let r<-get
    set (r.drop 1)
    return some (mkIdent (.mkSimple ("d"++String.ofList (r.take 1)))).raw
   |_=>pure none
  return ⟨t⟩
set_option hygiene false in
local macro_rules | `(tactic| fail $s:str) => do
 let ' '::r:=s.getString.toList|Macro.throwUnsupported
 let tb<-rtT
 let(m,r)<-rtG tb 999 r
 let(p,_)<-rtG tb 999 r
 `(tactic|exact⟨_,And.symm ⟨$m,$p⟩⟩)
local macro_rules | `(tactic| fail "Qs") => `(tactic| exact ⟨rfl, rfl, rfl, by decide +kernel, rfl, by decide +kernel, by decide +kernel⟩)
local macro_rules | `(tactic| fail "Qb") => `(tactic| (rintro _ _ _ _ _ _ (_ | ⟨_, _ | ⟨_, _ | ⟨_, _ | ⟨_, _ | ⟨_, _ | ⟨_, _⟩⟩⟩⟩⟩⟩) h <;> first | rfl | cases h))
def top(i:Nat):Stmt:=PySem.Challenge.pw_creditworks_k81_counters_and_rows_answer.main.body.getD i (.Pass ⟨0,0,0,0⟩)
abbrev ui:Stmt:=inClass (top 18) 0
theorem zm:ay ["self"] ["self"] (ai ui):=by fail "Qs"
abbrev zo:Stmt:=inClass (top 148) 0
theorem CB:ay ["self"] ["self"] (ai zo):=by fail "Qs"
abbrev zp:Stmt:=top 154
theorem CC:ay ["_law_cell","_law_some","_law_names_here","_law_k","_law_word","_law_number_here","_law_j"] ["_law_cell"] (ai zp):=by fail "Qs"
abbrev nu:Stmt:=inClass (top 18) 2
theorem tj:ay ["self"] ["self"] (ai nu):=by fail "Qs"
abbrev uk:Stmt:=inClass (top 148) 2
theorem zt:ay ["self"] ["self"] (ai uk):=by fail "Qs"
abbrev um:Stmt:=top 150
theorem zw:ay ["_law_script","_law_k"] ["_law_script","_law_k"] (ai um):=by fail "Qs"
abbrev DI:Stmt:=top 144
theorem G3:ay ["words","first","many"] ["words"] (ai DI):=by fail "Qs"
abbrev uo:Stmt:=top 125
theorem zx:ay ["text"] ["text"] (ai uo):=by fail "Qs"
abbrev zy:Stmt:=top 124
theorem CD:ay ["word"] ["word"] (ai zy):=by fail "Qs"
abbrev Bt:Stmt:=top 143
theorem Ei:ay ["row","words","form","place"] ["row"] (ai Bt):=by fail "Qs"
abbrev DJ:Stmt:=top 21
theorem G4:ay ["value"] ["value"] (ai DJ):=by fail "Qs"
abbrev zV:Stmt:=top 145
theorem CG:ay ["word"] ["word"] (ai zV):=by fail "Qs"
abbrev zW:Stmt:=top 62
theorem CH:ay ["row","raised","steps","place"] ["row"] (ai zW):=by fail "Qs"
abbrev zX:Stmt:=top 63
theorem CI:ay ["row","worth","figure"] ["row"] (ai zX):=by fail "Qs"
abbrev DK:Stmt:=inClass (top 128) 2
theorem G5:ay ["self","words","raised"] ["self","words"] (ai DK):=by fail "Qs"
abbrev ny:Stmt:=top 78
theorem tm:ay ["row"] ["row"] (ai ny):=by fail "Qs"
abbrev Bu:Stmt:=top 76
theorem Ej:ay ["row","by","moved","steps","place"] ["row","by"] (ai Bu):=by fail "Qs"
abbrev xa:Stmt:=top 74
theorem AW:ay ["row"] ["row"] (ai xa):=by fail "Qs"
abbrev rj:Stmt:=top 75
theorem xV:ay ["row"] ["row"] (ai rj):=by fail "Qs"
abbrev o7:Stmt:=top 77
theorem vm:ay ["row"] ["row"] (ai o7):=by fail "Qs"
abbrev xb:Stmt:=inClass (top 129) 2
theorem AX:ay ["self","words","moved"] ["self","words"] (ai xb):=by fail "Qs"
abbrev xc:Stmt:=top 111
theorem ja:ay ["queue","front","back","steps","thing"] ["queue"] (ai xc):=by fail "Qs"
abbrev zY:Stmt:=top 110
theorem CJ:ay ["queue","thing"] ["queue","thing"] (ai zY):=by fail "Qs"
abbrev z4:Stmt:=top 123
theorem CK:ay ["word"] ["word"] (ai z4):=by fail "Qs"
abbrev z5:Stmt:=top 112
theorem CL:ay ["queue"] ["queue"] (ai z5):=by fail "Qs"
abbrev Bv:Stmt:=inClass (top 130) 2
theorem Ek:ay ["self","words","put","taken"] ["self","words"] (ai Bv):=by fail "Qs"
abbrev jv:Stmt:=inClass (top 131) 3
theorem m3:ay ["self","taken"] ["self","taken"] (ai jv):=by fail "Qs"
abbrev z6:Stmt:=top 66
theorem CM:ay ["double","thing"] ["double","thing"] (ai z6):=by fail "Qs"
abbrev Bw:Stmt:=top 67
theorem El:ay ["double","thing"] ["double","thing"] (ai Bw):=by fail "Qs"
abbrev z7:Stmt:=top 70
theorem mr:ay ["near","far","half","laid","thing"] ["near","far"] (ai z7):=by fail "Qs"
abbrev xf:Stmt:=top 68
theorem AY:ay ["double"] ["double"] (ai xf):=by fail "Qs"
abbrev z8:Stmt:=top 69
theorem CN:ay ["double","taken"] ["double"] (ai z8):=by fail "Qs"
abbrev xg:Stmt:=top 71
theorem AZ:ay ["double"] ["double"] (ai xg):=by fail "Qs"
abbrev z9:Stmt:=inClass (top 131) 2
theorem CO:ay ["self","words","thing","put"] ["self","words"] (ai z9):=by fail "Qs"
abbrev KJ:Stmt:=top 119
theorem M8:ay ["things"] ["things"] (ai KJ):=by fail "Qs"
abbrev Aa:Stmt:=top 118
theorem i5:ay ["room","left","size","steps"] ["room"] (ai Aa):=by fail "Qs"
abbrev Bx:Stmt:=top 117
theorem Em:ay ["room","thing","things","size","steps"] ["room","thing"] (ai Bx):=by fail "Qs"
abbrev DM:Stmt:=inClass (top 132) 2
theorem G6:ay ["self","words","put","taken"] ["self","words"] (ai DM):=by fail "Qs"
abbrev nW:Stmt:=inClass (top 148) 6
theorem tw:ay ["self","name"] ["self","name"] (ai nW):=by fail "Qs"
abbrev xh:Stmt:=inClass (top 127) 0
theorem A0:ay ["self","kind"] ["self","kind"] (ai xh):=by fail "Qs"
abbrev Ab:Stmt:=inClass (top 128) 0
theorem CP:ay ["self"] ["self"] (ai Ab):=by fail "Qs"
abbrev rk:Stmt:=inClass (top 129) 0
theorem xW:ay ["self"] ["self"] (ai rk):=by fail "Qs"
abbrev xi:Stmt:=inClass (top 130) 0
theorem A5:ay ["self"] ["self"] (ai xi):=by fail "Qs"
abbrev uq:Stmt:=inClass (top 131) 0
theorem Ac:ay ["self"] ["self"] (ai uq):=by fail "Qs"
abbrev DN:Stmt:=top 116
theorem G7:ay [] [] (ai DN):=by fail "Qs"
abbrev Ad:Stmt:=inClass (top 132) 0
theorem CQ:ay ["self"] ["self"] (ai Ad):=by fail "Qs"
abbrev Ae:Stmt:=top 146
theorem CS:ay ["words"] ["words"] (ai Ae):=by fail "Qs"
abbrev xk:Stmt:=inClass (top 148) 8
theorem A6:ay ["self","words"] ["self","words"] (ai xk):=by fail "Qs"
abbrev ur:Stmt:=inClass (top 18) 3
theorem Af:ay ["self"] ["self"] (ai ur):=by fail "Qs"
abbrev xm:Stmt:=inClass (top 18) 4
theorem A7:ay ["self"] ["self"] (ai xm):=by fail "Qs"
abbrev o8:Stmt:=inClass (top 18) 5
theorem vn:ay ["self"] ["self"] (ai o8):=by fail "Qs"
abbrev rl:Stmt:=inClass (top 18) 6
theorem xX:ay ["self"] ["self"] (ai rl):=by fail "Qs"
abbrev rm:Stmt:=inClass (top 148) 7
theorem xY:ay ["self","paid","due","credit","spare"] ["self"] (ai rm):=by fail "Qs"
abbrev nX:Stmt:=inClass (top 148) 5
theorem tW:ay ["self","words","place","name"] ["self","words","place"] (ai nX):=by fail "Qs"
abbrev By:Stmt:=inClass (top 148) 4
theorem En:ay ["self","words","form"] ["self","words"] (ai By):=by fail "Qs"
abbrev Bz:Stmt:=top 64
theorem Eo:ay ["row"] ["row"] (ai Bz):=by fail "Qs"
abbrev uu:Stmt:=inClass (top 128) 1
theorem Ag:ay ["self"] ["self"] (ai uu):=by fail "Qs"
abbrev nY:Stmt:=inClass (top 129) 1
theorem tX:ay ["self"] ["self"] (ai nY):=by fail "Qs"
abbrev rn:Stmt:=top 113
theorem xZ:ay ["queue"] ["queue"] (ai rn):=by fail "Qs"
abbrev rq:Stmt:=inClass (top 130) 1
theorem x6:ay ["self"] ["self"] (ai rq):=by fail "Qs"
abbrev o9:Stmt:=top 72
theorem vo:ay ["double"] ["double"] (ai o9):=by fail "Qs"
abbrev pb:Stmt:=inClass (top 131) 1
theorem vq:ay ["self"] ["self"] (ai pb):=by fail "Qs"
abbrev uw:Stmt:=top 120
theorem Ah:ay ["room","many","size"] ["room"] (ai uw):=by fail "Qs"
abbrev uy:Stmt:=inClass (top 132) 1
theorem Ai:ay ["self"] ["self"] (ai uy):=by fail "Qs"
abbrev uz:Stmt:=inClass (top 148) 1
theorem G8:ay ["self"] ["self"] (ai uz):=by fail "Qs"
abbrev BA:Stmt:=top 15
theorem Ep:ay ["value"] ["value"] (ai BA):=by fail "Qs"
abbrev mw:Stmt:=inClass (top 18) 1
theorem x8:ay ["self","word","steps","price","credit","ahead","behind","number","over"] ["self","word","steps","price","credit"] (ai mw):=by fail "Qs"
abbrev BB:Stmt:=inClass (top 148) 3
theorem Er:ay ["self","row","words","told","answer","steps","price","credit"] ["self","row"] (ai BB):=by fail "Qs"
abbrev BC:Stmt:=top 152
theorem Es:ay ["_law_book","_law_row","_law_told_here","_law_parts","_law_numbers"] ["_law_book","_law_row"] (ai BC):=by fail "Qs"
abbrev BD:Stmt:=top 153
theorem Et:ay ["_law_book","_law_sums","_law_row","_law_due","_law_price","_law_told_here"] ["_law_book","_law_sums","_law_row","_law_due","_law_price"] (ai BD):=by fail "Qs"
abbrev xo:Stmt:=top 155
theorem A8:ay ["_law_cell"] ["_law_cell"] (ai xo):=by fail "Qs"
abbrev Aj:Stmt:=top 156
theorem CT:ay ["_law_some","_law_at"] ["_law_some","_law_at"] (ai Aj):=by fail "Qs"
abbrev BF:Stmt:=top 157
theorem Eu:ay ["_law_names_here","_law_state","_law_cell","_law_kind","_law_far","_law_number_here","_law_some"] ["_law_names_here","_law_state","_law_cell"] (ai BF):=by fail "Qs"
abbrev Ak:Stmt:=top 158
theorem qh:ay ["_law_book","_law_row","_law_kept_here","_law_told_here"] ["_law_book","_law_row"] (ai Ak):=by fail "Qs"
abbrev QR:Stmt:=top 159
theorem Wq:ay ["_law_script","_law_book","_law_names_here","_law_sums","_law_k","_law_row","_law_state","_law_cell","_law_due","_law_price","_law_told_here"] ["_law_script"] (ai QR):=by fail "Qs"
structure GA where
 Bs:Addr
 QS:Addr
 og:Addr
structure GF(P:Program)(w:World)(K:zee)(mg:Str->Option Value)(ga:GA):Prop where
 Jj:∃t,mg "ACCOUNT"=some (.str "account 1" t)
 KD:mg "BEGINNINGS"=some (.ref ga.Bs)
 KG:∀H,SqT K H ga.Bs (bX.map .str)
 QP:mg "DEEDS"=some (.ref ga.QS)
 QO:DkK P w K ga.QS (Ca K ga.QS)
 QQ:U7 K ga.QS ia
 EK:mg "NUMBER_PLACES"=some (.ref ga.og)
 EJ:DkK P w K ga.og (Ca K ga.og)
 EL:zbP K ga.og ck
structure CF(K:zee)(ca:CA):Prop where
 lj:Cls K ca.bo
 zdw:Cls K ca.Thing
 QN:Cls K ca.iZ
 G0:Cls K ca.cu
 M5:Cls K ca.Queue
 DH:Cls K ca.bW
 QM:Cls K ca.cn
 jz:Cls K ca.cq
 AS:di K ca.bo "rows"
 xt:di K ca.cq "accounts"
 ug:di K ca.cq "things"
 G1:di K ca.iZ "row"
 AU:di K ca.cu "row"
 AV:di K ca.Queue "queue"
 xw:di K ca.bW "double"
 Eg:di K ca.cn "room"
 Wn:∀C∈UC ca,Cls K C/\di K C "kind"
structure CFX [Zl](K:zee)(mg:Str->Option Value)(jX:Addr):Prop where
 hz:Zl.cl=clM mg
 xp:mg "Empty"=some (.ref jX)
 Wr:Zl.cl "Empty"= .ref jX
 Ze:zaV K jX
 h_Empty:PySem.W.exmOne K (.ref jX) (.ref jX)=some true
 KL:PySem.W.excIn K jX [.type "ValueError",.type "Exception",.type "BaseException",.type "object"] "ValueError.__new__"=true
section
variable(P:Program)(w:World){K:zee}{mg:Str->Option Value}(base:Heap){ca:CA}{ga:GA}{jX:Addr} [zl:Zl]
def cp(mg:Str->Option Value):Prop:=(∀x∈(["abs","all","bool","int","isinstance","len","list","range","reversed","str","sum"]:List Str),mg x=none)/\∀(x:Str) (i:Int),(x,i)∈([("LEAST_SIZE",4),("MOST_FIGURES",60)]:List (Str×Int))->∃t,mg x=some (.int i t)
theorem G9(Z:cp mg)(cf:CF K ca)(F:Mem K "__init__" "Ledger.__init__" ui f fd []) :dt P w K mg base CX0 1 f fd ["self"] (spQ (j9 ca)):=by
 refine F.ok zm (λvs H Q E h=>cb h) λcdv A outer s H vs Q E hr h=>?_
 have hu:=hr.units;have hd:=zm.nd
 fail " K10Ĥ&n)(X!>T"
theorem KN(Z:cp mg)(cf:CF K ca)(F:Mem K "__init__" "Book.__init__" zo f fd [])(Sv:Bj P w K mg base CX0 1 "Ledger" ca.bo ["self"] (spQ (j9 ca))):dt P w K mg base CX0 3 f fd ["self"] (spQ (sk ca)):=by
 refine F.ok CB (λvs H Q E h=>cb h) λcdv A outer s H vs Q E hr h=>?_
 have hu:=hr.units;have hd:=CB.nd
 fail " K10.ħ&:Ĩĩ&¡)'X!ĥ(X!Ħ"
theorem KO(Z:cp mg)(T:Top K mg "_law_names" zp) :Def P w K mg base CX0 1 "_law_names" ["_law_cell"] (spM sr):=by
 refine T.def CC (λvs H Q E h=>cm h) (by fail "Qb") λf cdv A outer s H vs Q E hr h=>?_
 have hu:=hr.units;have hd:=CC.nd
 fail " M169P59PRt9ÈÛ*0É9PÜ##9POO#Q#0O009ÈÛ*OO#0k0#É9PQ#Ü#O#0PO#0£¤*#A#'32'3>T'¢Ù$,o'3Y!!'3if!L!,Ú,,'¢Ù$if!,c,!o'3L!Y!i!,(3f!,(Uj!$!(/!"
theorem CU(Z:cp mg)(cf:CF K ca)(F:Mem K "entries" "Ledger.entries" nu f fd []) :dt P w K mg base CX0 1 f fd ["self"] (spQ (jw ca)):=by
 refine F.ok tj (λvs H Q E h=>cb h) λcdv A outer s H vs Q E hr h=>?_
 have hu:=hr.units;have hd:=tj.nd
 fail " K106Ī%¬&)(/«$@!"
theorem Ha(Z:cp mg)(cf:CF K ca)(F:Mem K "ledger" "Book.ledger" uk f fd [])(Az:gm P w K mg base CX0 1 ca.bo "entries" ["self"] [] (spQ (jw ca))):dt P w K mg base CX0 2 f fd ["self"] (spQ (dq ca)):=by
 refine F.ok zt (λvs H Q E h=>cb h) λcdv A outer s H vs Q E hr h=>?_
 have hu:=hr.units;have hd:=zt.nd
 fail " K106V®&)(/ī@!"
theorem Hb(Z:cp mg)(T:Top K mg "_law_cell_at" um) :Def P w K mg base CX0 1 "_law_cell_at" ["_law_script","_law_k"] (spM n8):=by
 refine T.def zw (λvs H Q E h=>cm h) (by fail "Qb") λf cdv A outer s H vs Q E hr h=>?_
 have hu:=hr.units;have hd:=zw.nd
 fail " M209Z4d#N*#Al##[A0'7¥!E$!(/Y!!8(/,"
theorem O6(Z:cp mg)(T:Top K mg "form_of" DI) :Def P w K mg base CX0 1 "form_of" ["words"] (spM jx):=by
 refine T.def G3 (λvs H Q E h=>cm h) (by fail "Qb") λf cdv A outer s H vs Q E hr h=>?_
 have hu:=hr.units;have hd:=G3.nd
 fail " M129P1#9PN*#Aßq#§q#à'3-!'3E$!(/Ýp!¦2p!Þ"
theorem Hc(Z:cp mg)(T:Top K mg "are_figures" uo) :Def P w K mg base CX0 1 "are_figures" ["text"] (spM g8):=by
 obtain⟨_,G2⟩:=Z.2 "MOST_FIGURES" 60 (by decide+kernel)
 refine T.def zx (λvs H Q E h=>cm h) (by fail "Qb") λf cdv A outer s H vs Q E hr h=>?_
 have hu:=hr.units;have hd:=zx.nd
 fail " M109Z|4dN*#04dN*#0Aá[9Z²mù#*54}#5Aá[Aú*Êû#ºü5#5'7gr¥E$!,z¯E$!Ĭ(/u8'7g°^õ!$2¸{!2(/u8(/ö$±÷!¹ø2!2"
theorem KP(Z:cp mg)(T:Top K mg "is_number" zy)(d0:Def P w K mg base CX0 1 "are_figures" ["text"] (spM g8)):Def P w K mg base CX0 2 "is_number" ["word"] (spM k6):=by
 refine T.def CD (λvs H Q E h=>cm h) (by fail "Qb") λf cdv A outer s H vs Q E hr h=>?_
 have hu:=hr.units;have hd:=CD.nd
 fail " M109Zmù#*5AãS*į#Í0þ}#5[AS*#'7^õ!$2(/Ë;0$ĭ!Ì,ýâĮ!28(/;0$!"
theorem M9(Z:cp mg)(gf:GF P w K mg ga)(T:Top K mg "words_of" Bt)(d0:Def P w K mg base CX0 2 "is_number" ["word"] (spM k6))(d1:Def P w K mg base CX0 1 "form_of" ["words"] (spM jx)):Def P w K mg base CX0 3 "words_of" ["row"] (spM g9):=by
 obtain⟨_,Ji⟩:=gf.Jj;refine T.def Ei (λvs H Q E h=>cm h) (by fail "Qb") λf cdv A outer s H vs Q E hr h=>?_
 have hu:=hr.units;have hd:=Ei.nd
 fail " M139Zvm½#¾[9P¿#*59PS*#9Z²4}#5²4ă#4Ĳ#¾[9ÈĳI#*`tÉZvmS*l##¾[A#'7h^»+!$ä(_8'3¼!$2'3;1$!'7g°{!ÿ°Ā!ā¸åİ!(_8'¢Ăı+!$FTo(7h^;0$Y!!(_8(/!"
theorem O7(Z:cp mg)(T:Top K mg "is_name" DJ) :Def P w K mg base CX0 1 "is_name" ["value"] (spM Ao):=by
 refine T.def G4 (λvs H Q E h=>cm h) (by fail "Qb") λf cdv A outer s H vs Q E hr h=>?_
 have hu:=hr.units;have hd:=G4.nd
 fail " M109Z|vmĵ#|4dN*#04dN*#0Aá[Aú*Êû#ºü5#5'7grh^Ĵ+!$är¥E$!,z¯E$!,(/u8(/ö$±÷!¹ø2!2"
theorem KQ(Z:cp mg)(T:Top K mg "hold_name" zV)(d0:Def P w K mg base CX0 1 "is_name" ["value"] (spM Ao)):Def P w K mg base CX0 2 "hold_name" ["word"] (spM jo):=by
 refine T.def CG (λvs H Q E h=>cm h) (by fail "Qb") λf cdv A outer s H vs Q E hr h=>?_
 have hu:=hr.units;have hd:=CG.nd
 fail " M10ZvmS*#¾[(7h^;0$!(_8"
theorem KR(Z:cp mg)(T:Top K mg "raise_row" zW) :Def P w K mg base CX0 1 "raise_row" ["row"] (spM sx):=by
 refine T.def CH (λvs H Q E h=>cm h) (by fail "Qb") λf cdv A outer s H vs Q E hr h=>?_
 have hu:=hr.units;have hd:=CH.nd
 fail " M139PÀ*#9PRt9P09Ć²4d#N*#4Jl##09æ0ç#9£¤*#ć09Z4J#N*#£¤*0[9æ0ç#9£¤*#A`I#*#'3«$!'3>T'3,'Ąg°¥!E$!¸HY!!,'w,~!!'Uj!$!(ą,'7H!E$!(Uj!$,8'w,~!!'Uj!$!(/F+!$!"
theorem KS(Z:cp mg)(T:Top K mg "row_worth" zX) :Def P w K mg base CX0 1 "row_worth" ["row"] (spM k9):=by
 refine T.def CI (λvs H Q E h=>cm h) (by fail "Qb") λf cdv A outer s H vs Q E hr h=>?_
 have hu:=hr.units;have hd:=CI.nd
 fail " M129P09Èķ*#ÉPQ³0##A#'3,'¢Ķ$!o(3L¨,!!(/!"
theorem O8(Z:cp mg)(cf:CF K ca)(F:Mem K "do" "Bits.do" DK f fd [])(d0:Def P w K mg base CX0 1 "row_worth" ["row"] (spM k9))(d1:Def P w K mg base CX0 1 "raise_row" ["row"] (spM sx)):dt P w K mg base (CXW P w) 2 f fd ["self","words"] (spS (Dw ca)):=by
 refine F.okX G5 (λvs H Q E h=>sf h) λcdv A outer s H vs Q E hr h=>?_
 have hu:=hr.units;have hd:=G5.nd
 fail " ©21.=]%è&)?.Ĉ&<&6W%x%]%è&))%:N*1#%C)'3;1$@!'X!-!(/F+a$;0$@!+E$-!$,"
theorem CV(Z:cp mg)(T:Top K mg "figures_credit" ny) :Def P w K mg base CX0 1 "figures_credit" ["row"] (spM fZ):=by
 refine T.def tm (λvs H Q E h=>cm h) (by fail "Qb") λf cdv A outer s H vs Q E hr h=>?_
 have hu:=hr.units;have hd:=tm.nd
 fail " M10AkN*#Ċ#*0(/cE$!ĉ!$,"
theorem Na(Z:cp mg)(T:Top K mg "moved_by" Bu)(d0:Def P w K mg base CX0 1 "figures_credit" ["row"] (spM fZ)):Def P w K mg base CX0 2 "moved_by" ["row","by"] (spM m8):=by
 refine T.def Ej (λvs H Q E h=>cm h) (by fail "Qb") λf cdv A outer s H vs Q E hr h=>?_
 have hu:=hr.units;have hd:=Ej.nd
 fail " M239PÀ*#9PRt9P09Ć²4d#N*#4Jl###9æ0ç#9£¤*#ć09Z4J#N*#£¤*0[9Ĺ##9£¤*#9Z4JS*#0PRt[A`I#*#'3«$!'3>T'3,'Ąg°¥!E$!¸HY!!!'w,~!!'Uj!$!(ą,'7H!E$!(Uj!$,8'ĸ!!!'Uj!$!'7H;0$!,(3>T8(/F+!$!"
theorem HP(Z:cp mg)(T:Top K mg "figures_up" xa)(d0:Def P w K mg base CX0 2 "moved_by" ["row","by"] (spM m8)):Def P w K mg base CX0 3 "figures_up" ["row"] (spM p8):=by
 refine T.def AW (λvs H Q E h=>cm h) (by fail "Qb") λf cdv A outer s H vs Q E hr h=>?_
 have hu:=hr.units;have hd:=AW.nd
 fail " M10ASI#*0(/;0+!$,"
theorem ER(Z:cp mg)(T:Top K mg "figures_down" rj)(d0:Def P w K mg base CX0 2 "moved_by" ["row","by"] (spM m8)):Def P w K mg base CX0 3 "figures_down" ["row"] (spM l6):=by
 refine T.def xV (λvs H Q E h=>cm h) (by fail "Qb") λf cdv A outer s H vs Q E hr h=>?_
 have hu:=hr.units;have hd:=xV.nd
 fail " M10ASI#*Ï0(/;0+!$Î,"
theorem DO(Z:cp mg)(T:Top K mg "figures_worth" o7)(d0:Def P w K mg base CX0 1 "row_worth" ["row"] (spM k9)):Def P w K mg base CX0 2 "figures_worth" ["row"] (spM i7):=by
 refine T.def vm (λvs H Q E h=>cm h) (by fail "Qb") λf cdv A outer s H vs Q E hr h=>?_
 have hu:=hr.units;have hd:=vm.nd
 fail " M10AS*#(/;0$!"
theorem HQ(Z:cp mg)(cf:CF K ca)(F:Mem K "do" "Figures.do" xb f fd [])(d0:Def P w K mg base CX0 2 "figures_worth" ["row"] (spM i7))(d1:Def P w K mg base CX0 3 "figures_up" ["row"] (spM p8))(d2:Def P w K mg base CX0 3 "figures_down" ["row"] (spM l6)):dt P w K mg base (CXW P w) 4 f fd ["self","words"] (spS (wq ca)):=by
 refine F.okX AX (λvs H Q E h=>sf h) λcdv A outer s H vs Q E hr h=>?_
 have hu:=hr.units;have hd:=AX.nd
 fail " ©21.=ċG4J1#5]%Ð&)]%Ð&)?.Č&<&6W%x%]%Ð&))%:N*1#%C)'3éH-!2;1$@!;2$@!'X!-!(/F+a$;0$@!+E$-!$,"
theorem Hd(Z:cp mg)(T:Top K mg "queue_take" xc)(cf:CFX K mg jX) :Def P w K mg base (CXW P w) 1 "queue_take" ["queue"] (spX (clM mg) l8):=by
 have Al:mg "len"=none:=Z.1 _ (by decide+kernel)
 have He:mg "list"=none:=Z.1 _ (by decide+kernel)
 refine T.Uu ja (λvs H Q E h=>B6 h) (by fail "Qb") λf cdv A outer s H vs Q E hr h=>?_
 have hu:=hr.units;exact⟨_,(cX (id (j1 (i:=1) ja.nd rfl (by first|exact Or.inl rfl|exact Or.inr rfl) (qi (vZ (K:=K) rfl) rfl He PyProof.Rows.boot_list (pa1 (pix K (pv 0))))))
   (cX (id (j1 (i:=2) ja.nd rfl (by first|exact Or.inl rfl|exact Or.inr rfl) (qi (vZ (K:=K) rfl) rfl He PyProof.Rows.boot_list (pa1 (pix K (pv 0))))))
   (cX (id (j1 (i:=3) ja.nd rfl (by first|exact Or.inl rfl|exact Or.inr rfl) (yi NH)))
   (cX (id (Fx (peq K hu (fu (i9 (K:=K) rfl) rfl Al zeD (pa1 (pv 1))) j0)
   (iW (Lc PassesOwn.leaving (lX Pj (fu (i9 (K:=K) rfl) rfl Al zeD (pa1 (pv 2))) j0 (lW _))
   (cX (EZ (v7 (K:=K) rfl zeI zeU zeT Am (pv 1) (pa1 (Fc (K:=K) rfl zeI PySem.F.slot_list_pop PySem.F.type_list_pop NO (pv 2)))))
   (iW (EZ (v7 (K:=K) rfl zeI zeU zeT Am (pv 3) (pa1 tY)))))))
   vz))
   (cX (Fx (peq K hu (fu (i9 (K:=K) rfl) rfl Al zeD (pa1 (pv 1))) j0)
   (iW (FG rfl rfl cf.xp cf.KL PySem.F.excBase_ValueError (tZ ja.kind rfl) (pa1 tY)))
   vz)
   (cX (id (j1 (i:=4) ja.nd rfl (by first|exact Or.inl rfl|exact Or.inr rfl) (Fc (K:=K) rfl zeI PySem.F.slot_list_pop PySem.F.type_list_pop NO (pv 1))))
   (cX (id (EZ (v7 (K:=K) rfl zeI zeU zeT Am (pv 3) (pa1 tY))))
   (iW (id (yh (qo (fv (pv 4) (fv (qo (fv (pv 1) (pa1 (pv 2)))) (pa1 (pv 3))))))))))))))),
   Fe (n:=1) (k:=4) (gh (dk (lY (kY FV (ma1 (mix cy)))))
   (gh (dk (lY (kY FV (ma1 (mix cy)))))
   (gh (dk (lY (C8 NU)))
   (gh (dk (PD (ki (ib N0 (kY ym (ma1 cy)) jj))
   (Lu (ki (ib Rk (kY ym (ma1 cy)) jj))
   (NW (E8 (Jx BX (ma1 (Jy Ub))))
   (E8 (Jx BX (ma1 t5)))))
   vX))
   (gh (Oi (ki (ib N0 (kY ym (ma1 cy)) jj))
   (Dj (c:="Empty") (ma1 t5) (λH h=>JL cf.xp▸h))
   (dk vX))
   (gh (dk (lY (Jy Ub)))
   (gh (dk (E8 (Jx BX (ma1 t5))))
   (dk (Dc (vW (je cy (je (vW (je cy (ma1 cy))) (ma1 cy))))))))))))) rfl h⟩
theorem KU(Z:cp mg)(T:Top K mg "queue_put" zY) :Def P w K mg base CX0 1 "queue_put" ["queue","thing"] (spM sy):=by
 refine T.def CJ (λvs H Q E h=>cm h) (by fail "Qb") λf cdv A outer s H vs Q E hr h=>?_
 have hu:=hr.units;have hd:=CJ.nd
 fail " M20A`I`IÀ*1#*Q1#R*#*R*5(/F+F+«$-!$L-!>$!$>$2"
theorem KY(Z:cp mg)(T:Top K mg "number_of" z4)(d0:Def P w K mg base CX0 2 "is_number" ["word"] (spM k6)):Def P w K mg base CX0 3 "number_of" ["word"] (spM gY):=by
 refine T.def CK (λvs H Q E h=>cm h) (by fail "Qb") λf cdv A outer s H vs Q E hr h=>?_
 have hu:=hr.units;have hd:=CK.nd
 fail " M109ZvmS*#¾[AĎ*#'7h^;0$!(_8(/č$!"
theorem KZ(Z:cp mg)(T:Top K mg "queue_row" z5) :Def P w K mg base CX0 1 "queue_row" ["queue"] (spM sW):=by
 refine T.def CL (λvs H Q E h=>cm h) (by fail "Qb") λf cdv A outer s H vs Q E hr h=>?_
 have hu:=hr.units;have hd:=CL.nd
 fail " M10AQĐ*1#1#(/Lď$-!-!"
theorem Nb(Z:cp mg)(cf:CF K ca)(F:Mem K "do" "Queue.do" Bv f fd [])(d0:Def P w K mg base CX0 1 "queue_row" ["queue"] (spM sW))(d1:Def P w K mg base CX0 3 "number_of" ["word"] (spM gY))(d2:Def P w K mg base CX0 1 "queue_put" ["queue","thing"] (spM sy))(KH:Def P w K mg base (CXW P w) 1 "queue_take" ["queue"] (spX Zl.cl l8)):dt P w K mg base (CXW P w) 4 f fd ["self","words"] (spS (q0 ca)):=by
 refine F.okX Ek (λvs H Q E h=>sf h) λcdv A outer s H vs Q E hr h=>?_
 have hu:=hr.units;have hd:=Ek.nd
 fail " ©22.BG4J1#5.=]%Ñ&%:S*1#)?.ê&<&6W%x%Á%]%Ñ&)))%:N*1#%C)D.=Ò%Ñ&)?.ê&<&6W%:´*1#%:N*1#%C)'7H-!2'3;2+@!$;1$-!'X!-!(/F+a$E$;0$@!+E$-!$,8'3ĺ$@!'X!-!(/F+a$-!+E$-!$,"
theorem ye(Z:cp mg)(cf:CF K ca)(F:Mem K "without_one" "Double.without_one" jv f fd []) :dt P w K mg base CX0 1 f fd ["self","taken"] (spQ (eZ ca)):=by
 refine F.ok m3 (λvs H Q E h=>cb h) λcdv A outer s H vs Q E hr h=>?_
 have hu:=hr.units;have hd:=m3.nd
 fail " K20.ë&<&6W%:´*1#%:N*1#%C)'X!-!(/F+a$-!+E$-!$,"
theorem K0(Z:cp mg)(T:Top K mg "put_first" z6) :Def P w K mg base CX0 1 "put_first" ["double","thing"] (spM ot):=by
 refine T.def CM (λvs H Q E h=>cm h) (by fail "Qb") λf cdv A outer s H vs Q E hr h=>?_
 have hu:=hr.units;have hd:=CM.nd
 fail " M20A`I`IQ1#R*#*À*1#*R*5(/F+F+L-!>$!$«$-!$>$2"
theorem Nc(Z:cp mg)(T:Top K mg "put_last" Bw) :Def P w K mg base CX0 1 "put_last" ["double","thing"] (spM q9):=by
 refine T.def El (λvs H Q E h=>cm h) (by fail "Qb") λf cdv A outer s H vs Q E hr h=>?_
 have hu:=hr.units;have hd:=El.nd
 fail " M20A`I`IÀ*1#*Q1#R*#*R*5(/F+F+«$-!$L-!>$!$>$2"
theorem HR(Z:cp mg)(T:Top K mg "take_near" z7)(cf:CFX K mg jX) :Def P w K mg base (CXW P w) 1 "take_near" ["near","far"] (spX (clM mg) jq):=by
 have Al:mg "len"=none:=Z.1 _ (by decide+kernel)
 have He:mg "list"=none:=Z.1 _ (by decide+kernel)
 have O9:mg "reversed"=none:=Z.1 _ (by decide+kernel)
 refine T.Uu mr (λvs H Q E h=>B6 h) (by fail "Qb") λf cdv A outer s H vs Q E hr h=>?_
 have hu:=hr.units;exact⟨_,(cX (id (Fx (lX Pj (fu (i9 (K:=K) rfl) rfl Al zeD (pa1 (pv 0))) j0 (lW _))
   (iW (yh (qo (fv (Po (Fb (K:=K) rfl) (pv 0) (Le Fy j0) (λ_ _=>rfl)) (fv (qo (fv (uX (yo (K:=K) rfl) (pv 0) BK (BL (Le Fy j0))) (pa1 (qi (vZ (K:=K) rfl) rfl He PyProof.Rows.boot_list (pa1 (pv 1)))))) (pa1 (yi (pa1 tY))))))))
   vz))
   (cX (Fx (peq K hu (fu (i9 (K:=K) rfl) rfl Al zeD (pa1 (pv 1))) j0)
   (iW (FG rfl rfl cf.xp cf.KL PySem.F.excBase_ValueError (tZ mr.kind rfl) (pa1 tY)))
   vz)
   (cX (id (j1 (i:=2) mr.nd rfl (by first|exact Or.inl rfl|exact Or.inr rfl) (AD Jl (Yx K (fu (i9 (K:=K) rfl) rfl Al zeD (pa1 (pv 1))) j0) j0)))
   (cX (id (j1 (i:=3) mr.nd rfl (by first|exact Or.inl rfl|exact Or.inr rfl) (Ea (K:=K) rfl rfl rfl He rfl O9 (pa1 (uX (yo (K:=K) rfl) (pv 1) BK (BL (pv 2)))))))
   (cX (id (j1 (i:=4) mr.nd rfl (by first|exact Or.inl rfl|exact Or.inr rfl) (Fc (K:=K) rfl zeI PySem.F.slot_list_pop PySem.F.type_list_pop NO (pv 3))))
   (iW (id (yh (qo (fv (pv 4) (fv (qo (fv (pv 3) (pa1 (uX (yo (K:=K) rfl) (pv 1) (BL (pv 2)) BK)))) (pa1 (Yx K (AD JC (yi (pa1 tY)) (fu (i9 (K:=K) rfl) rfl Al zeD (pa1 (pv 1)))) (yi (pa1 tY))))))))))))))),
   Fe (n:=2) (k:=3) (gh (dk (PD (ki (ib Rk (kY ym (ma1 cy)) jj))
   (Dc (vW (je (ib T9 cy (FJ Lw jj)) (je (vW (je (Ir Ua cy BS (BU (FJ Lw jj))) (ma1 (kY FV (ma1 cy))))) (ma1 (C8 (ma1 t5)))))))
   vX))
   (gh (Oi (ki (ib N0 (kY ym (ma1 cy)) jj))
   (Dj (c:="Empty") (ma1 t5) (λH h=>JL cf.xp▸h))
   (dk vX))
   (gh (dk (lY (ib J_I (ib Lv (kY ym (ma1 cy)) jj) jj)))
   (gh (dk (lY (kY Iz (ma1 (Ir Ua cy BS (BU cy))))))
   (gh (dk (lY (Jy Ub)))
   (dk (Dc (vW (je cy (je (vW (je cy (ma1 (Ir Ua cy (BU cy) BS)))) (ma1 (ib Lv (Ue (ma1 t5) (kY ym (ma1 cy))) (C8 (ma1 t5)))))))))))))) rfl h⟩
theorem Hf(Z:cp mg)(T:Top K mg "take_first" xf)(cf:CFX K mg jX)(Eh:Def P w K mg base (CXW P w) 1 "take_near" ["near","far"] (spX (clM mg) jq)):Def P w K mg base (CXW P w) 2 "take_first" ["double"] (spX (clM mg) l9):=by
 refine T.Uu AY (λvs H Q E h=>B6 h) (by fail "Qb") λf cdv A outer s H vs Q E hr h=>?_
 have hu:=hr.units;have hd:=AY.nd
 fail " Ē10ĻI1#*1#(/đ+-!$-!"
theorem HS(Z:cp mg)(T:Top K mg "take_last" z8)(cf:CFX K mg jX)(Eh:Def P w K mg base (CXW P w) 1 "take_near" ["near","far"] (spX (clM mg) jq)):Def P w K mg base (CXW P w) 2 "take_last" ["double"] (spX (clM mg) ou):=by
 refine T.Uu CN (λvs H Q E h=>B6 h) (by fail "Qb") λf cdv A outer s H vs Q E hr h=>?_
 have hu:=hr.units;have hd:=CN.nd
 fail " Ē11ĽľI1#*1#ĿA`I1#I`I11#*11#*1#'3đ+-!$-!ļ"
theorem HU(Z:cp mg)(T:Top K mg "double_row" xg) :Def P w K mg base CX0 1 "double_row" ["double"] (spM qa):=by
 refine T.def AZ (λvs H Q E h=>cm h) (by fail "Qb") λf cdv A outer s H vs Q E hr h=>?_
 have hu:=hr.units;have hd:=AZ.nd
 fail " M10AQĐ*1#1#(/Lď$-!-!"
theorem K1(Z:cp mg)(cf:CF K ca)(F:Mem K "do" "Double.do" z9 f fd [])(d0:Def P w K mg base CX0 1 "double_row" ["double"] (spM qa))(d1:Def P w K mg base CX0 1 "put_first" ["double","thing"] (spM ot))(d2:Def P w K mg base CX0 1 "put_last" ["double","thing"] (spM q9))(d3:Def P w K mg base CX0 3 "number_of" ["word"] (spM gY))(vi:gm P w K mg base CX0 1 ca.bW "without_one" ["self","taken"] [] (spQ (eZ ca)))(M6:Def P w K mg base (CXW P w) 2 "take_last" ["double"] (spX Zl.cl ou))(KI:Def P w K mg base (CXW P w) 2 "take_first" ["double"] (spX Zl.cl l9)):dt P w K mg base (CXW P w) 4 f fd ["self","words"] (spS (ox ca)):=by
 refine F.okX CO (λvs H Q E h=>sf h) λcdv A outer s H vs Q E hr h=>?_
 have hu:=hr.units;have hd:=CO.nd
 fail " ©22.BG4J1#56V&%Ò%µ&))D.BG4J1#56V&%Ò%µ&))D.=:S*1#?.=ċG4J1#5]%µ&%&)]%µ&%&)?.ë&<&6W%x%Á%]%µ&)))%:N*1#%C)'7H-!2(/ē!$ŀ$@!8'7H-!2(/ē!$Ł$@!8'3;3$-!'3éH-!2;1+@!$!;2+@!$!'X!-!(/F+a$E$;0$@!+E$-!$,"
theorem Ws(Z:cp mg)(T:Top K mg "moves" KJ) :Def P w K mg base CX0 1 "moves" ["things"] (spM Ap):=by
 refine T.def M8 (λvs H Q E h=>cm h) (by fail "Qb") λf cdv A outer s H vs Q E hr h=>?_
 have hu:=hr.units;have hd:=M8.nd
 fail " M10Ał*5N*#(/¨>$2E$!"
theorem HV(Z:cp mg)(T:Top K mg "room_take" Aa)(cf:CFX K mg jX)(Zf:Def P w K mg base CX0 1 "moves" ["things"] (spM Ap)):Def P w K mg base (CXW P w) 2 "room_take" ["room"] (spX (clM mg) oz):=by
 have Al:mg "len"=none:=Z.1 _ (by decide+kernel)
 obtain⟨_,qg⟩:=Z.2 "LEAST_SIZE" 4 (by decide+kernel)
 refine T.Uu i5 (λvs H Q E h=>B6 h) (by fail "Qb") λf cdv A outer s H vs Q E hr h=>?_
 have hu:=hr.units;exact⟨_,(cX (Fx (peq K hu (fu (i9 (K:=K) rfl) rfl Al zeD (pa1 (pix K (pv 0)))) j0)
   (iW (FG rfl rfl cf.xp cf.KL PySem.F.excBase_ValueError (tZ i5.kind rfl) (pa1 tY)))
   vz)
   (cX (id (j1 (i:=1) i5.nd rfl (by first|exact Or.inl rfl|exact Or.inr rfl) (uX (yo (K:=K) rfl) (pix K (pv 0)) BK (BL (Le Fy j0)))))
   (cX (id (j1 (i:=2) i5.nd rfl (by first|exact Or.inl rfl|exact Or.inr rfl) (pix K (pv 0))))
   (cX (id (j1 (i:=3) i5.nd rfl (by first|exact Or.inl rfl|exact Or.inr rfl) (yi (pa1 tY))))
   (cX (id (Fx (PW.pt (SG (lX Pj (pv 2) (rY (v:=.int 4) rfl qg ⟨_,rfl⟩) (lW _)) (Pf (lX Zk (AD JC j0 (fu (i9 (K:=K) rfl) rfl Al zeD (pa1 (pv 1)))) (pv 2) (lW _)))))
   (cX (j1 (i:=2) i5.nd rfl (by first|exact Or.inl rfl|exact Or.inr rfl) (AD Jl (pv 2) j0))
   (iW (j1 (i:=3) i5.nd rfl (by first|exact Or.inl rfl|exact Or.inr rfl) (Yx K (pv 3) (pd Zf hr (pa1 (pv 1)))))))
   vz))
   (iW (id (yh (qo (fv (Po (Fb (K:=K) rfl) (pix K (pv 0)) (Le Fy j0) (λ_ _=>rfl)) (fv (qo (fv (pv 1) (pa1 (pv 2)))) (pa1 (pv 3))))))))))))),
   Fe (n:=1) (k:=3) (gh (Oi (ki (ib N0 (kY ym (ma1 (mix cy))) jj))
   (Dj (c:="Empty") (ma1 t5) (λH h=>JL cf.xp▸h))
   (dk vX))
   (gh (dk (lY (Ir Ua (mix cy) BS (BU (FJ Lw jj)))))
   (gh (dk (lY (mix cy)))
   (gh (dk (lY (C8 (ma1 t5))))
   (gh (dk (PD (TY (ki (ib Rk cy jj)) (ki (ib Rk (ib Zs jj (kY ym (ma1 cy))) cy)))
   (NW (lY (ib J_I cy jj))
   (lY (ib Lv cy (PB (ma1 cy)))))
   vX))
   (dk (Dc (vW (je (ib T9 (mix cy) (FJ Lw jj)) (je (vW (je cy (ma1 cy))) (ma1 cy))))))))))) rfl h⟩
theorem Nd(Z:cp mg)(T:Top K mg "room_put" Bx)(d0:Def P w K mg base CX0 1 "moves" ["things"] (spM Ap)):Def P w K mg base CX0 2 "room_put" ["room","thing"] (spM wt):=by
 refine T.def Em (λvs H Q E h=>cm h) (by fail "Qb") λf cdv A outer s H vs Q E hr h=>?_
 have hu:=hr.units;have hd:=Em.nd
 fail " M239P1#9P1#9PRt9Z4JN*##9P³0#PS*#[A`I`IQ#R*#*#*Q#R*5'3-!'3-!'3>T'7HE$!!'3¨,!(3;0$!8(/F+F+L!>$!$!$L!>$2"
theorem Pa(Z:cp mg)(cf:CF K ca)(F:Mem K "do" "Room.do" DM f fd [])(d0:Def P w K mg base CX0 3 "number_of" ["word"] (spM gY))(d1:Def P w K mg base CX0 2 "room_put" ["room","thing"] (spM wt))(M7:Def P w K mg base (CXW P w) 2 "room_take" ["room"] (spX Zl.cl oz)):dt P w K mg base (CXW P w) 4 f fd ["self","words"] (spS (ve ca)):=by
 refine F.okX G6 (λvs H Q E h=>sf h) λcdv A outer s H vs Q E hr h=>?_
 have hu:=hr.units;have hd:=G6.nd
 fail " ©22.BG4J1#5.=]%Ó&%:S*1#)?.ì&<&6W%x%Á%<Ó&))%:N*1#%C)D.=Ò%Ó&)?.ì&<&6W%:´*1#%:N*1#%C)'7H-!2'3;1+@!$;0$-!'X!-!(/F+a$E$-@!+E$-!$,8'3Ń$@!'X!-!(/F+a$-!+E$-!$,"
theorem CW(Z:cp mg)(cf:CF K ca)(F:Mem K "hold_free" "Book.hold_free" nW f fd []) :dt P w K mg base CX0 1 f fd ["self","name"] (spQ (jy ca)):=by
 refine F.ok tw (λvs H Q E h=>cb h) λcdv A outer s H vs Q E hr h=>?_
 have hu:=hr.units;have hd:=tw.nd
 fail " K20BÂŅ&Ã&sD(7åń!@!(_8"
theorem HW(Z:cp mg)(cf:CF K ca)(F:Mem K "__init__" "Thing.__init__" xh f fd []) :dt P w K mg base CX0 1 f fd ["self","kind"] (spQ (dc ca)):=by
 refine F.ok A0 (λvs H Q E h=>cb h) λcdv A outer s H vs Q E hr h=>?_
 have hu:=hr.units;have hd:=A0.nd
 fail " K20ņ&&(X!!"
theorem K2(Z:cp mg)(cf:CF K ca)(F:Mem K "__init__" "Bits.__init__" Ab f fd [])(ke:Ox K mg "Thing" "__init__" cw)(kf:dt P w K mg base CX0 1 cw cc ["self","kind"] (spQ (dc ca)))(kg:Binds K cc ["self","kind"] []):dt P w K mg base CX0 2 f fd ["self"] (spQ (y8 ca)):=by
 refine F.ok CP (λvs H Q E h=>cb h) λcdv A outer s H vs Q E hr h=>?_
 have hu:=hr.units;have hd:=CP.nd
 fail " K10.eb%&%y)Ĉ&¶)'UÄ+!$2(X!>T"
theorem ES(Z:cp mg)(cf:CF K ca)(F:Mem K "__init__" "Figures.__init__" rk f fd [])(ke:Ox K mg "Thing" "__init__" cw)(kf:dt P w K mg base CX0 1 cw cc ["self","kind"] (spQ (dc ca)))(kg:Binds K cc ["self","kind"] []):dt P w K mg base CX0 2 f fd ["self"] (spQ (rg ca)):=by
 refine F.ok xW (λvs H Q E h=>cb h) λcdv A outer s H vs Q E hr h=>?_
 have hu:=hr.units;have hd:=xW.nd
 fail " K10.eb%&%y)Č&¶)'UÄ+!$2(X!>T"
theorem HX(Z:cp mg)(cf:CF K ca)(F:Mem K "__init__" "Queue.__init__" xi f fd [])(ke:Ox K mg "Thing" "__init__" cw)(kf:dt P w K mg base CX0 1 cw cc ["self","kind"] (spQ (dc ca)))(kg:Binds K cc ["self","kind"] []):dt P w K mg base CX0 2 f fd ["self"] (spQ (wx ca)):=by
 refine F.ok A5 (λvs H Q E h=>cb h) λcdv A outer s H vs Q E hr h=>?_
 have hu:=hr.units;have hd:=A5.nd
 fail " K10.eb%&%y)ê&W%¶)%¶))'UÄ+!$2(X!F+>T$>T"
theorem Hg(Z:cp mg)(cf:CF K ca)(F:Mem K "__init__" "Double.__init__" uq f fd [])(ke:Ox K mg "Thing" "__init__" cw)(kf:dt P w K mg base CX0 1 cw cc ["self","kind"] (spQ (dc ca)))(kg:Binds K cc ["self","kind"] []):dt P w K mg base CX0 2 f fd ["self"] (spQ (ub ca)):=by
 refine F.ok Ac (λvs H Q E h=>cb h) λcdv A outer s H vs Q E hr h=>?_
 have hu:=hr.units;have hd:=Ac.nd
 fail " K10.eb%&%y)ë&W%¶)%¶))'UÄ+!$2(X!F+>T$>T"
theorem Pb(Z:cp mg)(T:Top K mg "no_room" DN) :Def P w K mg base CX0 1 "no_room" [] (spM Aq):=by
 obtain⟨_,qg⟩:=Z.2 "LEAST_SIZE" 4 (by decide+kernel)
 refine T.def G7 (λvs H Q E h=>cm h) (by fail "Qb") λf cdv A outer s H vs Q E hr h=>?_
 have hu:=hr.units;have hd:=G7.nd
 fail " M00A`IRt*0(/F+>T$Ĕ"
theorem K3(Z:cp mg)(cf:CF K ca)(F:Mem K "__init__" "Room.__init__" Ad f fd [])(d0:Def P w K mg base CX0 1 "no_room" [] (spM Aq))(ke:Ox K mg "Thing" "__init__" cw)(kf:dt P w K mg base CX0 1 cw cc ["self","kind"] (spQ (dc ca)))(kg:Binds K cc ["self","kind"] []):dt P w K mg base CX0 2 f fd ["self"] (spQ (y9 ca)):=by
 refine F.ok CQ (λvs H Q E h=>cb h) λcdv A outer s H vs Q E hr h=>?_
 have hu:=hr.units;have hd:=CQ.nd
 fail " K10.eb%&%y)ì&])'UÄ+!$2(X!Ň0"
theorem K4(Z:cp mg)(cf:CF K ca)(T:Top K mg "new_thing" Ae)(Zb:Bj P w K mg base CX0 2 "Room" ca.cn ["self"] (spQ (y9 ca)))(Sw:Bj P w K mg base CX0 2 "Double" ca.bW ["self"] (spQ (ub ca)))(Wo:Bj P w K mg base CX0 2 "Queue" ca.Queue ["self"] (spQ (wx ca)))(O5:Bj P w K mg base CX0 2 "Figures" ca.cu ["self"] (spQ (rg ca)))(Za:Bj P w K mg base CX0 2 "Bits" ca.iZ ["self"] (spQ (y8 ca))):Def P w K mg base CX0 4 "new_thing" ["words"] (spQ (oW ca)):=by
 refine T.def CS (λvs H Q E h=>cb h) (by fail "Qb") λf cdv A outer s H vs Q E hr h=>?_
 have hu:=hr.units;have hd:=CS.nd
 fail " K10.BG4J1#56¡)D.BG4J1#56¡)D.BG4J1#56¡)D.BG4J1#56¡)D.BG4J1#56¡)D.BG4J1#5sD.BG4J1#5sDs'7H-!2(/ň8'7H-!2(/ŉ8'7H-!2(/Ŋ8'7H-!2(/ŋ8'7H-!2(/Ō8'7H-!2(_8'7H-!2(_8(_"
theorem HY(Z:cp mg)(cf:CF K ca)(F:Mem K "begin" "Book.begin" xk f fd [])(d0:Def P w K mg base CX0 4 "new_thing" ["words"] (spQ (oW ca)))(AA:gm P w K mg base CX0 1 ca.cq "hold_free" ["self","name"] [] (spQ (jy ca)))(d1:Def P w K mg base CX0 2 "hold_name" ["word"] (spM jo)):dt P w K mg base CX0 5 f fd ["self","words"] (spQ (qc ca)):=by
 refine F.ok A6 (λvs H Q E h=>cb h) λcdv A outer s H vs Q E hr h=>?_
 have hu:=hr.units;have hd:=A6.nd
 fail " K20.e:S*1#.eV&%<&).ŏÃ&<&b%&)6W%y%C%C)'U;1$-!'Uō!$-!'Ŏ@!-!;0$!(/F+2+,$,"
theorem Hh(Z:cp mg)(cf:CF K ca)(F:Mem K "paid" "Ledger.paid" ur f fd []) :dt P w K mg base CX0 1 f fd ["self"] (spQ (hX ca)):=by
 refine F.ok Af (λvs H Q E h=>cb h) λcdv A outer s H vs Q E hr h=>?_
 have hu:=hr.units;have hd:=Af.nd
 fail " K106Ė%ė¬&º1#)(/ĕ$±Å@!¹-!"
theorem HZ(Z:cp mg)(cf:CF K ca)(F:Mem K "due" "Ledger.due" xm f fd []) :dt P w K mg base CX0 1 f fd ["self"] (spQ (i0 ca)):=by
 refine F.ok A7 (λvs H Q E h=>cb h) λcdv A outer s H vs Q E hr h=>?_
 have hu:=hr.units;have hd:=A7.nd
 fail " K106Ė%ė¬&º1#)(/ĕ$±Å@!¹-!"
theorem DP(Z:cp mg)(cf:CF K ca)(F:Mem K "credit" "Ledger.credit" o8 f fd []) :dt P w K mg base CX0 1 f fd ["self"] (spQ (c8 ca)):=by
 refine F.ok vn (λvs H Q E h=>cb h) λcdv A outer s H vs Q E hr h=>?_
 have hu:=hr.units;have hd:=vn.nd
 fail " K10.BÂí¬&n)6CD6<Ô¬&:Ï0'7H@!>T(/,8(/-Y@!Î,"
theorem ET(Z:cp mg)(cf:CF K ca)(F:Mem K "spare" "Ledger.spare" rl f fd [])(xx:gm P w K mg base CX0 1 ca.bo "due" ["self"] [] (spQ (i0 ca)))(vk:gm P w K mg base CX0 1 ca.bo "paid" ["self"] [] (spQ (hX ca)))(kX:gm P w K mg base CX0 1 ca.bo "credit" ["self"] [] (spQ (c8 ca))):dt P w K mg base CX0 2 f fd ["self"] (spQ (md ca)):=by
 refine F.ok xX (λvs H Q E h=>cb h) λcdv A outer s H vs Q E hr h=>?_
 have hu:=hr.units;have hd:=xX.nd
 fail " K106ïïV&)V&)V&)(/ccĘ!ę!î!"
theorem EU(Z:cp mg)(cf:CF K ca)(F:Mem K "account" "Book.account" rm f fd [])(Cw:gm P w K mg base CX0 2 ca.bo "spare" ["self"] [] (spQ (md ca)))(kX:gm P w K mg base CX0 1 ca.bo "credit" ["self"] [] (spQ (c8 ca)))(xx:gm P w K mg base CX0 1 ca.bo "due" ["self"] [] (spQ (i0 ca)))(vk:gm P w K mg base CX0 1 ca.bo "paid" ["self"] [] (spQ (hX ca))):dt P w K mg base CX0 3 f fd ["self"] (spQ (me ca)):=by
 refine F.ok xY (λvs H Q E h=>cb h) λcdv A outer s H vs Q E hr h=>?_
 have hu:=hr.units;have hd:=xY.nd
 fail " K14.=V®&)?.=V®&)?.=V®&)?.=V®&)?6:ßq#§q#§q#§q#à'3ę@!'3Ę@!'3î@!'3Ő@!(/Ýp!¦2p!¦2p!¦2p!Þ"
theorem CY(Z:cp mg)(cf:CF K ca)(gf:GF P w K mg ga)(F:Mem K "thing_for" "Book.thing_for" nX f fd [])(d0:Def P w K mg base CX0 1 "form_of" ["words"] (spM jx)):dt P w K mg base CX0 2 f fd ["self","words","place"] (spQ (et ca)):=by
 refine F.ok tW (λvs H Q E h=>cb h) λcdv A outer s H vs Q E hr h=>?_
 have hu:=hr.units;have hd:=tW.nd
 fail " K31.=Ô&&?.BěÂœ&Ã&ÂŔŕĜÃ&&:S*#sD6ĜÃ&&'3Y!!'7gråő!@!zĀ@Ě@!!Œ;0$!(_8(/Ě@!!"
theorem Nf(Z:cp mg)(cf:CF K ca)(gf:GF P w K mg ga)(F:Mem K "run" "Book.run" By f fd [])(AB:gm P w K mg base CX0 2 ca.cq "thing_for" ["self","words","place"] [] (spQ (et ca)))(d0:Def P w K mg base CX0 2 "hold_name" ["word"] (spM jo))(EO:gm P w K mg base CX0 5 ca.cq "begin" ["self","words"] [] (spQ (qc ca)))(Cy:gm P w K mg base CX0 3 ca.cq "account" ["self"] [] (spQ (me ca)))(d1:Def P w K mg base CX0 1 "form_of" ["words"] (spM jx))(zdv:IS P w K mg base (CXW P w) 4 "do" ((Dy ca).map λp=>(p.1,spS p.2))):dt P w K mg base (CXW P w) 6 f fd ["self","words"] (spS (fk ca)):=by
 obtain⟨_,Ji⟩:=gf.Jj;refine F.okX En (λvs H Q E h=>sf h) λcdv A outer s H vs Q E hr h=>?_
 have hu:=hr.units;have hd:=En.nd
 fail " ©21.=:S*#?.BG4J#56W%V&)%C%C)D.BG4ă#6V&%&)D.BG4J#5sD.BG4J#5sD.BG4J#5sD.e:S*1#6śV&%&%C)%:QR*1#Ğ#Í0þ)'3;1$!'7H!ÿ(/F+Ŗ!+,$,8'7ŗ!ā(/Ř!$!8'7H!2(_8'7H!2(_8'7H!2(_8'U;0$-!(/řŚ!+!$,$L>$-!ĝ!Ì,ý"
theorem Ng(Z:cp mg)(T:Top K mg "row_ones" Bz) :Def P w K mg base CX0 1 "row_ones" ["row"] (spM wz):=by
 refine T.def Eo (λvs H Q E h=>cm h) (by fail "Qb") λf cdv A outer s H vs Q E hr h=>?_
 have hu:=hr.units;have hd:=Eo.nd
 fail " M10AĊ#*0(/ĉ!$,"
theorem Hi(Z:cp mg)(cf:CF K ca)(F:Mem K "credit" "Bits.credit" uu f fd [])(d0:Def P w K mg base CX0 1 "row_ones" ["row"] (spM wz)):dt P w K mg base CX0 2 f fd ["self"] (spQ (uc ca)):=by
 refine F.ok Ag (λvs H Q E h=>cb h) λcdv A outer s H vs Q E hr h=>?_
 have hu:=hr.units;have hd:=Ag.nd
 fail " K106]%è&)(/;0$@!"
theorem CZ(Z:cp mg)(cf:CF K ca)(F:Mem K "credit" "Figures.credit" nY f fd [])(d0:Def P w K mg base CX0 1 "figures_credit" ["row"] (spM fZ)):dt P w K mg base CX0 2 f fd ["self"] (spQ (m9 ca)):=by
 refine F.ok tX (λvs H Q E h=>cb h) λcdv A outer s H vs Q E hr h=>?_
 have hu:=hr.units;have hd:=tX.nd
 fail " K106]%Ð&)(/;0$@!"
theorem EV(Z:cp mg)(T:Top K mg "queue_credit" rn) :Def P w K mg base CX0 1 "queue_credit" ["queue"] (spM mf):=by
 refine T.def xZ (λvs H Q E h=>cm h) (by fail "Qb") λf cdv A outer s H vs Q E hr h=>?_
 have hu:=hr.units;have hd:=xZ.nd
 fail " M10AN*1#(/E$-!"
theorem EW(Z:cp mg)(cf:CF K ca)(F:Mem K "credit" "Queue.credit" rq f fd [])(d0:Def P w K mg base CX0 1 "queue_credit" ["queue"] (spM mf)):dt P w K mg base CX0 2 f fd ["self"] (spQ (rh ca)):=by
 refine F.ok x6 (λvs H Q E h=>cb h) λcdv A outer s H vs Q E hr h=>?_
 have hu:=hr.units;have hd:=x6.nd
 fail " K106]%Ñ&)(/;0$@!"
theorem DQ(Z:cp mg)(T:Top K mg "double_credit" o9) :Def P w K mg base CX0 1 "double_credit" ["double"] (spM kq):=by
 refine T.def vo (λvs H Q E h=>cm h) (by fail "Qb") λf cdv A outer s H vs Q E hr h=>?_
 have hu:=hr.units;have hd:=vo.nd
 fail " M10Aŝ*kN*1#N*1#(/Ŝ$cE$-!E$-!"
theorem DR(Z:cp mg)(cf:CF K ca)(F:Mem K "credit" "Double.credit" pb f fd [])(d0:Def P w K mg base CX0 1 "double_credit" ["double"] (spM kq)):dt P w K mg base CX0 2 f fd ["self"] (spQ (o6 ca)):=by
 refine F.ok vq (λvs H Q E h=>cb h) λcdv A outer s H vs Q E hr h=>?_
 have hu:=hr.units;have hd:=vq.nd
 fail " K106]%µ&)(/;0$@!"
theorem Hj(Z:cp mg)(T:Top K mg "room_credit" uw) :Def P w K mg base CX0 1 "room_credit" ["room"] (spM oa):=by
 obtain⟨_,qg⟩:=Z.2 "LEAST_SIZE" 4 (by decide+kernel)
 refine T.def Ah (λvs H Q E h=>cm h) (by fail "Qb") λf cdv A outer s H vs Q E hr h=>?_
 have hu:=hr.units;have hd:=Ah.nd
 fail " M129PN*1#9P1#9Z4d³0##Ak³0##[9Z4d#0AkO#0#[A0'3E$-!'3-!'7¯¨,!!(/c¨,!!8'7¯!Ĕ(/cf!,!8(/,"
theorem Hk(Z:cp mg)(cf:CF K ca)(F:Mem K "credit" "Room.credit" uy f fd [])(d0:Def P w K mg base CX0 1 "room_credit" ["room"] (spM oa)):dt P w K mg base CX0 2 f fd ["self"] (spQ (ue ca)):=by
 refine F.ok Ai (λvs H Q E h=>cb h) λcdv A outer s H vs Q E hr h=>?_
 have hu:=hr.units;have hd:=Ai.nd
 fail " K106]%Ó&)(/;0$@!"
theorem Hl(Z:cp mg)(cf:CF K ca)(F:Mem K "credit" "Book.credit" uz f fd [])(Sx:IS P w K mg base CX0 2 "credit" ((fb ca).map λp=>(p.1,spQ p.2))):dt P w K mg base CX0 3 f fd ["self"] (spQ (dZ ca)):=by
 have zdx:mg "sum"=none:=Z.1 _ (by decide+kernel)
 refine F.ok G8 (λvs H Q E h=>cb h) λcdv A outer s H vs Q E hr h=>?_
 have hu:=hr.units;exact⟨_,(iW (yh (fu (Iv (K:=K) rfl rfl) rfl zdx PyProof.Rows.boot_sum (pa1 (zbS (Zo (fr:=[]) rfl ⟨rfl,rfl,rfl,rfl,rfl,rfl,by decide+kernel⟩ (Yk (P2 (K:=K) rfl (pv 0))) (λ_ _ _ _=>Pt) (λ_ _ _ _=>RK Sx FC (pv 0) (hr.mono (by lia))))))))),
   JS (n:=1) (k:=0) (Ot (LL Zt (wj (zbV cf.jz cf.ug) wg))) rfl h⟩
theorem Nh(Z:cp mg)(T:Top K mg "is_count" BA) :Def P w K mg base CX0 1 "is_count" ["value"] (spM wV):=by
 refine T.def Ep (λvs H Q E h=>cm h) (by fail "Qb") λf cdv A outer s H vs Q E hr h=>?_
 have hu:=hr.units;have hd:=Ep.nd
 fail " M10Aã½#ãŢ½#d#0(/Ë»+!$ŞËş»+!$Šâš!,"
theorem EX(Z:cp mg)(cf:CF K ca)(F:Mem K "enter" "Ledger.enter" mw f fd [(.int 0),.non])(d0:Def P w K mg base CX0 1 "is_count" ["value"] (spM wV))(kX:gm P w K mg base CX0 1 ca.bo "credit" ["self"] [] (spQ (c8 ca))):dt P w K mg base CX0 2 f fd ["self","word","steps","price","credit"] (spQ (mh ca)):=by
 refine F.ok x8 (λvs H Q E h=>cb h) λcdv A outer s H vs Q E hr h=>?_
 have hu:=hr.units;have hd:=x8.nd
 fail " K54.=V&)?.=:ţ4ñ#ò##?.ğŤ`I#I#*#?BGvmS*#sD.=:kkQ####?.BG4d#0sDeÕ¬&%W%&%&%&%&%&))'3î!'3éð!ª!!'¢ĂF+!+!$!o(7h^;0$!(_8'3ccL!!!!'7¯!,(_8(Uj@!$F+!+!+!+!$!"
theorem Ni(Z:cp mg)(cf:CF K ca)(F:Mem K "say" "Book.say" BB f fd [])(Cz:gm P w K mg base CX0 2 ca.bo "enter" ["self","word","steps","price","credit"] [] (spQ (mh ca)))(iw:gm P w K mg base CX0 3 ca.cq "credit" ["self"] [] (spQ (dZ ca)))(HN:gm P w K mg base (CXW P w) 6 ca.cq "run" ["self","words"] [] (spS (fk ca)))(d0:Def P w K mg base CX0 3 "words_of" ["row"] (spM g9)):dt P w K mg base (CXW P w) 7 f fd ["self","row"] (spS (i3 ca)):=by
 refine F.okX Er (λvs H Q E h=>sf h) λcdv A outer s H vs Q E hr h=>?_
 have hu:=hr.units;have hd:=Er.nd
 fail " ©26.=:S*#?.=ŧ&%&)?.=<&?.=<&?.=<&?.=V&)?.eV®&%<&%&%&%&)6:ßq#§q#§q#§q#à'3;0$!'3ť!$!'3-!'3-!'3-!'3Ġ!'UŦ@!+-!+!+!$!(/Ýp!¦2p!¦2p!¦2p!Þ"
theorem Nj(Z:cp mg)(cf:CF K ca)(T:Top K mg "_law_told" BC)(uh:gm P w K mg base (CXW P w) 7 ca.cq "say" ["self","row"] [] (spS (i3 ca))):Def P w K mg base CX0 8 "_law_told" ["_law_book","_law_row"] (spQ (wY ca)):=by
 refine T.def Es (λvs H Q E h=>cb h) (by fail "Qb") λf cdv A outer s H vs Q E hr h=>?_
 have hu:=hr.units;have hd:=Es.nd
 fail " K23.=V&%&)?.BGvm½#6ÖD.=:¿#*5?.BG|4}N*#04}N*¿1#*506ÖD.=:¿1#*5?.BG4}Êġ#|vmū#²4dN*#04JÜ#05#Rt6ÖD6:QR*1#Êġ#ºĎ*#'3Ũ!$!'7h^»+!$ä(/ª8'3¼!$2'7gr{E$!,z{E$¼-!$2,(/ª8'3¼-!$2'7{±Å!ũgrh^Ū!zg°¯E$!,¸H-!2!>T(/ª8(/L>$-!±Å!¹č$!"
theorem Nk(Z:cp mg)(cf:CF K ca)(T:Top K mg "_law_kept" BD)(iw:gm P w K mg base CX0 3 ca.cq "credit" ["self"] [] (spQ (dZ ca)))(d0:Def P w K mg base CX0 8 "_law_told" ["_law_book","_law_row"] (spQ (wY ca))):Def P w K mg base CX0 9 "_law_kept" ["_law_book","_law_sums","_law_row","_law_due","_law_price"] (spQ (i4 ca)):=by
 refine T.def Et (λvs H Q E h=>cb h) (by fail "Qb") λf cdv A outer s H vs Q E hr h=>?_
 have hu:=hr.units;have hd:=Et.nd
 fail " K51.=b%&%&)?.BG|4ñ#ò|4}1##4}1##6·D.eÕ<&%W%:1¿#*5%<&%<&%<&%<&)).=Æ<&<&Ç&C.=Æ<&<&Ç&C.=<&Ç&C6ŭŮÆ<&<&<&íV&)<&'3;0+!$!'7grð!ªr{-!!z{-!!(/u8'Uj-!$F+-¼!$2+-!+-!+-!$-!'wL-!-!~!,'wL-!-!~!,'w-!~!,(/ËŬL-!-!-!âĢĠ!-!"
theorem Ia(Z:cp mg)(T:Top K mg "_law_number" xo) :Def P w K mg base CX0 1 "_law_number" ["_law_cell"] (spM mi):=by
 refine T.def A8 (λvs H Q E h=>cm h) (by fail "Qb") λf cdv A outer s H vs Q E hr h=>?_
 have hu:=hr.units;have hd:=A8.nd
 fail " M109Z4JO#00AkOO#000[AkOO#0k³0O000kO000'7Hi!,,(/cif!,,,8(/cif!,c¨,Ú,,,cÚ,,,"
theorem K5(Z:cp mg)(cf:CF K ca)(T:Top K mg "_law_taken" Aj) :Def P w K mg base CX0 1 "_law_taken" ["_law_some","_law_at"] (spQ (jr ca)):=by
 refine T.def CT (λvs H Q E h=>cb h) (by fail "Qb") λf cdv A outer s H vs Q E hr h=>?_
 have hu:=hr.units;have hd:=CT.nd
 fail " K20.BG4J#Rt6ÖD6x%Ű&%&))'7H!>T(/ª8(/a$ů!$!"
theorem Nl(Z:cp mg)(cf:CF K ca)(T:Top K mg "_law_deed" BF)(d0:Def P w K mg base CX0 1 "_law_taken" ["_law_some","_law_at"] (spQ (jr ca)))(d1:Def P w K mg base CX0 1 "_law_number" ["_law_cell"] (spM mi)):Def P w K mg base CX0 2 "_law_deed" ["_law_names_here","_law_state","_law_cell"] (spQ (f7 ca)):=by
 refine T.def Eu (λvs H Q E h=>cb h) (by fail "Qb") λf cdv A outer s H vs Q E hr h=>?_
 have hu:=hr.units;have hd:=Eu.nd
 fail " K34.=:O#0?.=:O#0?.=:S*O#0?.BG4d#0.=Æ<&CÇ&C6W%:Q51#%x%<&)%C)D.BG4d#0.=ïÆ<&C:³0O#0Ç&C6W%:QlRI5*5O#01#%x%<&)%C)D.BG|4J#04J#0.=Ôn%<&%<&):O#0?.eÕ&%&)6W%:QQQ5lRI1#*1#O#05´*#%:´*N*#%:lRI0*0O#0)D.BG4J#06W%:Q51#%b%<&%C)%C)D.BG4J#06W%:Q51#%b%<&%:Ï0)%C)D.BG4J#0.eŲ<&%Ôn%C%Á%<&)):O#0%&)6W%:QQQlRI5*5O#01#5´*#%x%Á%<&))%C)D6W%:QlRI5*5O#01#%b%<&%:ÏO#0)%C)'3i!,'3f!,'3;1$f!,'7¥!,'wL-!,~!,(/F+L2-!+a$-!$,8'7¥!,'wcL-!,¨,f!,~!,(/F+LY>+2$2f!,-!+a$-!$,8'7grH!,zH!,'3Y>+-!$-!f!,'Uj!$!(/F+LLL2Y>+-!$-!f!,2a$!+a$E$!$Y>+,$,f!,8'7H!,(/F+L2-!+;0+-!$,$,8'7H!,(/F+L2-!+;0+-!$Î,$,8'7H!,'Uű-!+Y>+,$E$-!i!,$!(/F+LLLY>+2$2i!,-!2a$!+a$E$-!$,8(/F+LY>+2$2i!,-!+;0+-!$Îi!,$,"
theorem K6(Z:cp mg)(cf:CF K ca)(cx:CFX K mg jX)(T:Top K mg "_law_empty" Ak)(iw:gm P w K mg base CX0 3 ca.cq "credit" ["self"] [] (spQ (dZ ca)))(jW:gm P w K mg base CX0 2 ca.cq "ledger" ["self"] [] (spQ (dq ca)))(uh:gm P w K mg base (CXW P w) 7 ca.cq "say" ["self","row"] [] (spS (i3 ca))):Def P w K mg base CX0 8 "_law_empty" ["_law_book","_law_row"] (spQ (oX ca)):=by
 refine T.def qh (λvs H Q E h=>cb h) (by fail "Qb") λf cdv A outer s H vs Q E hr h=>?_
 have hu:=hr.units;exact⟨_,(cX (j1 (i:=2) qh.nd rfl (by first|exact Or.inl rfl|exact Or.inr rfl) (yi (fv (i6 jW (pv 0) (hr.mono (by lia))) (pa1 (i6 iw (pv 0) (hr.mono (by lia)))))))
   (cX (j1 (i:=3) qh.nd rfl (by first|exact Or.inl rfl|exact Or.inr rfl) SE)
   (cX (XD (K:=K) rfl
   (XB (XC (UN rfl uh (pv 0) (hr.mono (by lia)) (pa1 (pv 1)))))
   rfl rfl rfl cx.xp (λcls e oe hoc hok=>
   (iW (j1 (i:=3) qh.nd rfl (by first|exact Or.inl rfl|exact Or.inr rfl) SE))))
   (iW (yh (SJ (pv 3) (SI (BI (N8 (K:=K) rfl hu) (pv 2) (yi (fv (i6 jW (pv 0) (hr.mono (by lia))) (pa1 (i6 iw (pv 0) (hr.mono (by lia)))))) (lW _))))))))),
   JS (n:=2) (k:=2) (JP (JQ (Oq (wj (yY (λ_=>.nil) we wg) (wj (yY (λ_=>.nil) we wg) wg))) Fh)
   (JP (JQ (Dm λ_=>.bl _) Fh)
   (JP (X6
   (X5 (UP (λ_=>.nil) (λ_=>we) (λ_=>(wj we wg)))) (λc h=>by obtain rfl:c="Empty":=of_decide_eq_true h;rw[cx.Wr];exact⟨_,rfl,cx.Ze,cx.h_Empty⟩) (λcls e=>(JQ (Dm λ_=>.bl _) Fh)))
   (Ot (PU we (zbX N0 we (Oq (wj (yY (λ_=>.nil) we wg) (wj (yY (λ_=>.nil) we wg) wg))))))))) rfl h⟩
theorem zcd(NL:Fd K=true)(Z:cp mg)(cf:CF K ca)(F:Fun K "law" "law" QR f fd)(jW:gm P w K mg base CX0 2 ca.cq "ledger" ["self"] [] (spQ (dq ca)))(d0:Def P w K mg base CX0 8 "_law_empty" ["_law_book","_law_row"] (spQ (oX ca)))(d1:Def P w K mg base CX0 9 "_law_kept" ["_law_book","_law_sums","_law_row","_law_due","_law_price"] (spQ (i4 ca)))(d2:Def P w K mg base CX0 2 "_law_deed" ["_law_names_here","_law_state","_law_cell"] (spQ (f7 ca)))(d3:Def P w K mg base CX0 1 "_law_names" ["_law_cell"] (spM sr))(d4:Def P w K mg base CX0 1 "_law_cell_at" ["_law_script","_law_k"] (spM n8))(Zd:Bj P w K mg base CX0 3 "Book" ca.cq ["self"] (spQ (sk ca))):dt P w K mg base CX0 10 f fd ["_law_script"] (TL K):=by
 refine dt.imp (sp:=spM (ZP ca)) ?_ (zbl NL (Wm ca));refine F.ok Wq (λvs H Q E h=>X0 h) λcdv A outer s H vs Q E hr h=>?_
 have hu:=hr.units;have hd:=Wq.nd
 fail " ŷ1a.=¡)?.=:S*SI#*0?.=n%C%C%n)%C)?.B×Øb%&%&%y%y%C)6·D.ğÛ*0?.=:QlRI5I5I5I5*5#l##?B×Øb%&%&%&%y%C)6·D.=n%C%C%n)%n)%n))?.Ÿ:Ğ#Í0Í0?.=b%&%&%&)ŹôôôźBG4ñ#òB×Øb%&%&)6·DB×Øb%&%&%&%&%&)6·D.=V&)?.BěGvm½#ÂŻ&<&6·D.eÕ&%C)6íV&)<&'3ų'3;3$;4+!$,'3>+,+,+>T$,'7h^;1+!+!+2+2$,(/u8'¢Ù$,o'3LY>+2+2+2+2$2!Y!!(7h^;1+!+!+!+2$,(/u8'3>+,+,+>T+>T$>T'¢Åĝ!Ì,Ì,o'w;2+!+!$!Ŵóoóoóoŵ(7ð!ª(7h^;0+!$!(/u8(7h^;1+!+!+!+!$!(/u8'3ģ!'7grh^»+!$Ŷz{!-!(/u8'Uj!$,(/Ģģ!-!"
end
theorem C0(F:Mem K "enter" "Ledger.enter" mw f fd [(.int 0),.non]):∃ds,Binds K fd ["self","word","steps","price","credit"] ds/\Vals [] ds:=by
 refine F.zbH (by simp) λT kV doc pm an cdv ct items hv=>?_
 obtain⟨l⟩:=items;have hv:Vals _ l:=hv
 match l,hv with
 |_,.cons h0 (.cons h1 .nil)=>
  obtain⟨t0,rfl⟩:=h0;cases h1;refine⟨[],.nil,λus hl=>?_⟩
  have hl2:us.length=5:=by simp only[List.length_append,List.length_cons,List.length_nil]at hl;lia
  match us,hl2 with
  | [_,_,_,_,_],_=>exact⟨_,rfl,rfl⟩
end K81
open PySem.W PyProof.Rows
local macro_rules | `(tactic| o_head ($f $K $as $e $ts)) => `(tactic| o_head (L2.Oz $K $as (λ_ => by kernel_rfl) (λ_ => by kernel_rfl) $ts))
set_option hygiene false in
local macro_rules | `(tactic| fail "w") => `(tactic| first | k_is | rfl | kernel_rfl | decide +kernel)
set_option hygiene false in
local macro_rules | `(tactic| fail "t") => `(tactic| (dsimp only [L2.KOf]; refine' L2.Top.mk' KX G ?a ?l ?c ?k; (case a => k_is); (case l => k_is); (case c => k_is); (case k => k_is)))
set_option maxRecDepth 100000 in
set_option maxHeartbeats 0 in
theorem PySem.Challenge.cw_creditworks_k81_counters_and_rows_answer_holds : PySem.Challenge.rw_creditworks_k81_counters_and_rows_answer.Holds := by
 w_on;o_law;k_head;(case hw=>w_witness2)
 k_fill
 refine L2.TM (l:=PySem.Challenge.rw_creditworks_k81_counters_and_rows_answer) (k:=10) (x:="_law_script") (st:=K81.QR) rfl rfl ⟨rfl,by decide,by decide⟩ (λw h Y=>⟨L2.Vj Y,L2.Yt (by kernel_rfl) (L2.OA Y)⟩) (λ_ _ _ _ _ _ _=>rfl) ?F
 case F=>
  intro w mg h KX G;have kD:L2.Top (L2.KOf KX) mg "_law_names" K81.zp:=by fail "t"
  have lD:L2.Top (L2.KOf KX) mg "_law_cell_at" K81.um:=by fail "t"
  have mD:L2.Top (L2.KOf KX) mg "form_of" K81.DI:=by fail "t"
  have nD:L2.Top (L2.KOf KX) mg "are_figures" K81.uo:=by fail "t"
  have oD:L2.Top (L2.KOf KX) mg "is_number" K81.zy:=by fail "t"
  have pD:L2.Top (L2.KOf KX) mg "words_of" K81.Bt:=by fail "t"
  have qD:L2.Top (L2.KOf KX) mg "is_name" K81.DJ:=by fail "t"
  have rD:L2.Top (L2.KOf KX) mg "hold_name" K81.zV:=by fail "t"
  have sD:L2.Top (L2.KOf KX) mg "raise_row" K81.zW:=by fail "t"
  have tD:L2.Top (L2.KOf KX) mg "row_worth" K81.zX:=by fail "t"
  have uD:L2.Top (L2.KOf KX) mg "figures_credit" K81.ny:=by fail "t"
  have vD:L2.Top (L2.KOf KX) mg "moved_by" K81.Bu:=by fail "t"
  have wD:L2.Top (L2.KOf KX) mg "figures_up" K81.xa:=by fail "t"
  have xD:L2.Top (L2.KOf KX) mg "figures_down" K81.rj:=by fail "t"
  have yD:L2.Top (L2.KOf KX) mg "figures_worth" K81.o7:=by fail "t"
  have zD:L2.Top (L2.KOf KX) mg "queue_take" K81.xc:=by fail "t"
  have aE:L2.Top (L2.KOf KX) mg "queue_put" K81.zY:=by fail "t"
  have bE:L2.Top (L2.KOf KX) mg "number_of" K81.z4:=by fail "t"
  have cE:L2.Top (L2.KOf KX) mg "queue_row" K81.z5:=by fail "t"
  have dE:L2.Top (L2.KOf KX) mg "put_first" K81.z6:=by fail "t"
  have eE:L2.Top (L2.KOf KX) mg "put_last" K81.Bw:=by fail "t"
  have fE:L2.Top (L2.KOf KX) mg "take_near" K81.z7:=by fail "t"
  have gE:L2.Top (L2.KOf KX) mg "take_first" K81.xf:=by fail "t"
  have hE:L2.Top (L2.KOf KX) mg "take_last" K81.z8:=by fail "t"
  have iE:L2.Top (L2.KOf KX) mg "double_row" K81.xg:=by fail "t"
  have jE:L2.Top (L2.KOf KX) mg "moves" K81.KJ:=by fail "t"
  have kE:L2.Top (L2.KOf KX) mg "room_take" K81.Aa:=by fail "t"
  have lE:L2.Top (L2.KOf KX) mg "room_put" K81.Bx:=by fail "t"
  have mE:L2.Top (L2.KOf KX) mg "no_room" K81.DN:=by fail "t"
  have nE:L2.Top (L2.KOf KX) mg "new_thing" K81.Ae:=by fail "t"
  have oE:L2.Top (L2.KOf KX) mg "row_ones" K81.Bz:=by fail "t"
  have pE:L2.Top (L2.KOf KX) mg "queue_credit" K81.rn:=by fail "t"
  have qE:L2.Top (L2.KOf KX) mg "double_credit" K81.o9:=by fail "t"
  have rE:L2.Top (L2.KOf KX) mg "room_credit" K81.uw:=by fail "t"
  have sE:L2.Top (L2.KOf KX) mg "is_count" K81.BA:=by fail "t"
  have tE:L2.Top (L2.KOf KX) mg "_law_told" K81.BC:=by fail "t"
  have uE:L2.Top (L2.KOf KX) mg "_law_kept" K81.BD:=by fail "t"
  have vE:L2.Top (L2.KOf KX) mg "_law_number" K81.xo:=by fail "t"
  have wE:L2.Top (L2.KOf KX) mg "_law_taken" K81.Aj:=by fail "t"
  have xE:L2.Top (L2.KOf KX) mg "_law_deed" K81.BF:=by fail "t"
  have yE:L2.Top (L2.KOf KX) mg "_law_empty" K81.Ak:=by fail "t"
  have zE:L2.Top (L2.KOf KX) mg "law" K81.QR:=by fail "t"
  have tS:mg "abs"=none:=by
   refine' zeZ KX G ?z
   (case z=>k_is)
  have uS:mg "all"=none:=by
   refine' zeZ KX G ?z
   (case z=>k_is)
  have vS:mg "bool"=none:=by
   refine' zeZ KX G ?z
   (case z=>k_is)
  have wS:mg "int"=none:=by
   refine' zeZ KX G ?z
   (case z=>k_is)
  have xS:mg "isinstance"=none:=by
   refine' zeZ KX G ?z
   (case z=>k_is)
  have yS:mg "len"=none:=by
   refine' zeZ KX G ?z
   (case z=>k_is)
  have zS:mg "list"=none:=by
   refine' zeZ KX G ?z
   (case z=>k_is)
  have aT:mg "range"=none:=by
   refine' zeZ KX G ?z
   (case z=>k_is)
  have bT:mg "reversed"=none:=by
   refine' zeZ KX G ?z
   (case z=>k_is)
  have cT:mg "str"=none:=by
   refine' zeZ KX G ?z
   (case z=>k_is)
  have dT:mg "sum"=none:=by
   refine' zeZ KX G ?z
   (case z=>k_is)
  have eT:∃t,mg "LEAST_SIZE"=some (.int 4 t):=by
   have c1:∃v,mg "LEAST_SIZE"=some v/\∃t,v=.int 4 t:=by
    refine' ⟨_,PySem.W.mg_of KX G ?z,?w⟩
    (case z=>k_is)
    (case w=>exact⟨_,rfl⟩)
   obtain⟨v,h1,t,h2⟩:=c1;exact⟨t,by rw[h1,h2]⟩
  have fT:∃t,mg "MOST_FIGURES"=some (.int 60 t):=by
   have c1:∃v,mg "MOST_FIGURES"=some v/\∃t,v=.int 60 t:=by
    refine' ⟨_,PySem.W.mg_of KX G ?z,?w⟩
    (case z=>k_is)
    (case w=>exact⟨_,rfl⟩)
   obtain⟨v,h1,t,h2⟩:=c1;exact⟨t,by rw[h1,h2]⟩
  have Z:K81.cp mg:=by
   refine⟨λx hx=>?_,λx i hx=>?_⟩
   .simp only[List.mem_cons,List.not_mem_nil,or_false]at hx
    rcases hx with rfl|rfl|rfl|rfl|rfl|rfl|rfl|rfl|rfl|rfl|rfl<;>assumption
   .simp only[List.mem_cons,List.not_mem_nil,or_false,Prod.mk.injEq]at hx
    rcases hx with⟨rfl,rfl⟩|⟨rfl,rfl⟩<;>assumption
  have NL:Mir.Fd (L2.KOf KX)=true:=by
   dsimp only[L2.KOf]
   first|rfl|kernel_rfl|k_is
  have aF:∃C,L2.Cls (L2.KOf KX) C/\mg "Ledger"=some (.ref C)/\L2.di (L2.KOf KX) C "rows"/\(∃f fd,L2.Mem (L2.KOf KX) "__init__" "Ledger.__init__" K81.ui f fd []/\L2.Mk (L2.KOf KX) C f)/\(∃f fd,L2.Mem (L2.KOf KX) "entries" "Ledger.entries" K81.nu f fd []/\L2.Meth (L2.KOf KX) C "entries" f)/\(∃f fd,L2.Mem (L2.KOf KX) "paid" "Ledger.paid" K81.ur f fd []/\L2.Meth (L2.KOf KX) C "paid" f)/\(∃f fd,L2.Mem (L2.KOf KX) "due" "Ledger.due" K81.xm f fd []/\L2.Meth (L2.KOf KX) C "due" f)/\(∃f fd,L2.Mem (L2.KOf KX) "credit" "Ledger.credit" K81.o8 f fd []/\L2.Meth (L2.KOf KX) C "credit" f)/\(∃f fd,L2.Mem (L2.KOf KX) "spare" "Ledger.spare" K81.rl f fd []/\L2.Meth (L2.KOf KX) C "spare" f)/\(∃f fd,L2.Mem (L2.KOf KX) "enter" "Ledger.enter" K81.mw f fd [(.int 0),.non]/\L2.Meth (L2.KOf KX) C "enter" f):=by
   dsimp only[L2.KOf];refine' ⟨_,⟨?pg,?hd,?po,?sa⟩,PySem.W.mg_of KX G ?m,?bF,⟨_,_,L2.mem_mk ?cF ?dF,⟨?eF,?fF,?gF,?hF⟩⟩,⟨_,_,L2.mem_mk ?iF ?jF,⟨?kF,?lF,?mF⟩⟩,⟨_,_,L2.mem_mk ?nF ?oF,⟨?pF,?qF,?rF⟩⟩,⟨_,_,L2.mem_mk ?sF ?tF,⟨?uF,?vF,?wF⟩⟩,⟨_,_,L2.mem_mk ?xF ?yF,⟨?zF,?aG,?bG⟩⟩,⟨_,_,L2.mem_mk ?cG ?dG,⟨?eG,?fG,?gG⟩⟩,⟨_,_,L2.X1 (by simp) ?hG ?iG ?jG ?kG ?lG,⟨?mG,?nG,?oG⟩⟩⟩
   (case m|pg|hd|po|sa|bF|fF|cF|dF|eF|gF|hF|kF|iF|jF|lF|mF|pF|nF|oF|qF|rF|uF|sF|tF|vF|wF|zF|xF|yF|aG|bG|eG|cG|dG|fG|gG|mG|hG|iG|jG|nG|oG=>fail "w")
   (case kG=>first|exact rfl|k_is)
   (case lG=>exact .cons ⟨_,rfl⟩ (.cons rfl .nil))
  obtain⟨pG,qG,rG,sG,⟨gT,hT,uA,tG⟩,⟨iT,jT,vA,uG⟩,⟨kT,lT,wA,vG⟩,⟨mT,nT,xA,wG⟩,⟨oT,pT,yA,xG⟩,⟨qT,rT,zA,yG⟩,⟨sT,tT,aB,zG⟩⟩:=aF;have aH:∃C,L2.Cls (L2.KOf KX) C/\mg "Thing"=some (.ref C)/\(∃f fd,L2.Mem (L2.KOf KX) "__init__" "Thing.__init__" K81.xh f fd []/\PySem.W.findIn (L2.KOf KX) (.ref C) "__init__"=some (some (.ref f))/\PySem.W.readsIn (L2.KOf KX) C (.type "type")=true/\PySem.W.findCls (L2.KOf KX) (.ref C) (.type "type") "__init__"=some (.val (.ref f))/\PySem.W.specialIn (L2.KOf KX) (.ref C) "__getattribute__"=some (some (.builtin "type.__getattribute__"))/\PySem.W.keepIn (L2.KOf KX) (.ref f)=true):=by
   dsimp only[L2.KOf];refine' ⟨_,⟨?pg,?hd,?po,?sa⟩,PySem.W.mg_of KX G ?m,⟨_,_,L2.mem_mk ?bH ?cH,?dH,?eH,?fH,?gH,?hH⟩⟩
   (case m|pg|hd|po|sa|dH|bH|cH|eH|fH|gH|hH=>fail "w")
  obtain⟨iH,jH,kH,⟨lH,uT,bB,_,mH,nH,oH,pH⟩⟩:=aH;have qH:∃C,L2.Cls (L2.KOf KX) C/\mg "Bits"=some (.ref C)/\L2.di (L2.KOf KX) C "row"/\L2.di (L2.KOf KX) C "kind"/\(∃f fd,L2.Mem (L2.KOf KX) "do" "Bits.do" K81.DK f fd []/\L2.Meth (L2.KOf KX) C "do" f)/\(∃f fd,L2.Mem (L2.KOf KX) "__init__" "Bits.__init__" K81.Ab f fd []/\L2.Mk (L2.KOf KX) C f)/\(∃f fd,L2.Mem (L2.KOf KX) "credit" "Bits.credit" K81.uu f fd []/\L2.Meth (L2.KOf KX) C "credit" f):=by
   dsimp only[L2.KOf];refine' ⟨_,⟨?pg,?hd,?po,?sa⟩,PySem.W.mg_of KX G ?m,?pA,?aA,⟨_,_,L2.mem_mk ?rH ?sH,⟨?tH,?uH,?vH⟩⟩,⟨_,_,L2.mem_mk ?wH ?xH,⟨?yH,?zH,?aI,?bI⟩⟩,⟨_,_,L2.mem_mk ?cI ?dI,⟨?eI,?fI,?gI⟩⟩⟩
   (case m|pg|hd|po|sa|pA|aA|tH|rH|sH|uH|vH|zH|wH|xH|yH|aI|bI|eI|cI|dI|fI|gI=>fail "w")
  obtain⟨cB,fA,dB,hI,iI,⟨vT,wT,eB,jI⟩,⟨xT,yT,fB,kI⟩,⟨zT,aU,gB,lI⟩⟩:=qH;have mI:∃C,L2.Cls (L2.KOf KX) C/\mg "Figures"=some (.ref C)/\L2.di (L2.KOf KX) C "row"/\L2.di (L2.KOf KX) C "kind"/\(∃f fd,L2.Mem (L2.KOf KX) "do" "Figures.do" K81.xb f fd []/\L2.Meth (L2.KOf KX) C "do" f)/\(∃f fd,L2.Mem (L2.KOf KX) "__init__" "Figures.__init__" K81.rk f fd []/\L2.Mk (L2.KOf KX) C f)/\(∃f fd,L2.Mem (L2.KOf KX) "credit" "Figures.credit" K81.nY f fd []/\L2.Meth (L2.KOf KX) C "credit" f):=by
   dsimp only[L2.KOf];refine' ⟨_,⟨?pg,?hd,?po,?sa⟩,PySem.W.mg_of KX G ?m,?pA,?aA,⟨_,_,L2.mem_mk ?nI ?oI,⟨?pI,?qI,?rI⟩⟩,⟨_,_,L2.mem_mk ?sI ?tI,⟨?uI,?vI,?wI,?xI⟩⟩,⟨_,_,L2.mem_mk ?yI ?zI,⟨?aJ,?bJ,?cJ⟩⟩⟩
   (case m|pg|hd|po|sa|pA|aA|pI|nI|oI|qI|rI|vI|sI|tI|uI|wI|xI|aJ|yI|zI|bJ|cJ=>fail "w")
  obtain⟨hB,gA,iB,dJ,eJ,⟨bU,cU,jB,fJ⟩,⟨dU,eU,kB,gJ⟩,⟨fU,gU,lB,hJ⟩⟩:=mI;have iJ:∃C,L2.Cls (L2.KOf KX) C/\mg "Queue"=some (.ref C)/\L2.di (L2.KOf KX) C "queue"/\L2.di (L2.KOf KX) C "kind"/\(∃f fd,L2.Mem (L2.KOf KX) "do" "Queue.do" K81.Bv f fd []/\L2.Meth (L2.KOf KX) C "do" f)/\(∃f fd,L2.Mem (L2.KOf KX) "__init__" "Queue.__init__" K81.xi f fd []/\L2.Mk (L2.KOf KX) C f)/\(∃f fd,L2.Mem (L2.KOf KX) "credit" "Queue.credit" K81.rq f fd []/\L2.Meth (L2.KOf KX) C "credit" f):=by
   dsimp only[L2.KOf];refine' ⟨_,⟨?pg,?hd,?po,?sa⟩,PySem.W.mg_of KX G ?m,?jJ,?aA,⟨_,_,L2.mem_mk ?kJ ?lJ,⟨?mJ,?nJ,?oJ⟩⟩,⟨_,_,L2.mem_mk ?pJ ?qJ,⟨?rJ,?sJ,?tJ,?uJ⟩⟩,⟨_,_,L2.mem_mk ?vJ ?wJ,⟨?xJ,?yJ,?zJ⟩⟩⟩
   (case m|pg|hd|po|sa|jJ|aA|mJ|kJ|lJ|nJ|oJ|sJ|pJ|qJ|rJ|tJ|uJ|xJ|vJ|wJ|yJ|zJ=>fail "w")
  obtain⟨mB,hA,nB,aK,bK,⟨hU,iU,oB,cK⟩,⟨jU,kU,pB,dK⟩,⟨lU,mU,qB,eK⟩⟩:=iJ;have fK:∃C,L2.Cls (L2.KOf KX) C/\mg "Double"=some (.ref C)/\L2.di (L2.KOf KX) C "double"/\L2.di (L2.KOf KX) C "kind"/\(∃f fd,L2.Mem (L2.KOf KX) "without_one" "Double.without_one" K81.jv f fd []/\L2.Meth (L2.KOf KX) C "without_one" f)/\(∃f fd,L2.Mem (L2.KOf KX) "do" "Double.do" K81.z9 f fd []/\L2.Meth (L2.KOf KX) C "do" f)/\(∃f fd,L2.Mem (L2.KOf KX) "__init__" "Double.__init__" K81.uq f fd []/\L2.Mk (L2.KOf KX) C f)/\(∃f fd,L2.Mem (L2.KOf KX) "credit" "Double.credit" K81.pb f fd []/\L2.Meth (L2.KOf KX) C "credit" f):=by
   dsimp only[L2.KOf];refine' ⟨_,⟨?pg,?hd,?po,?sa⟩,PySem.W.mg_of KX G ?m,?gK,?aA,⟨_,_,L2.mem_mk ?hK ?iK,⟨?jK,?kK,?lK⟩⟩,⟨_,_,L2.mem_mk ?mK ?nK,⟨?oK,?pK,?qK⟩⟩,⟨_,_,L2.mem_mk ?rK ?sK,⟨?tK,?uK,?vK,?wK⟩⟩,⟨_,_,L2.mem_mk ?xK ?yK,⟨?zK,?aL,?bL⟩⟩⟩
   (case m|pg|hd|po|sa|gK|aA|jK|hK|iK|kK|lK|oK|mK|nK|pK|qK|uK|rK|sK|tK|vK|wK|zK|xK|yK|aL|bL=>fail "w")
  obtain⟨rB,iA,sB,cL,dL,⟨nU,oU,tB,eL⟩,⟨pU,qU,uB,fL⟩,⟨rU,sU,vB,gL⟩,⟨tU,uU,wB,hL⟩⟩:=fK;have iL:∃C,L2.Cls (L2.KOf KX) C/\mg "Room"=some (.ref C)/\L2.di (L2.KOf KX) C "room"/\L2.di (L2.KOf KX) C "kind"/\(∃f fd,L2.Mem (L2.KOf KX) "do" "Room.do" K81.DM f fd []/\L2.Meth (L2.KOf KX) C "do" f)/\(∃f fd,L2.Mem (L2.KOf KX) "__init__" "Room.__init__" K81.Ad f fd []/\L2.Mk (L2.KOf KX) C f)/\(∃f fd,L2.Mem (L2.KOf KX) "credit" "Room.credit" K81.uy f fd []/\L2.Meth (L2.KOf KX) C "credit" f):=by
   dsimp only[L2.KOf];refine' ⟨_,⟨?pg,?hd,?po,?sa⟩,PySem.W.mg_of KX G ?m,?jL,?aA,⟨_,_,L2.mem_mk ?kL ?lL,⟨?mL,?nL,?oL⟩⟩,⟨_,_,L2.mem_mk ?pL ?qL,⟨?rL,?sL,?tL,?uL⟩⟩,⟨_,_,L2.mem_mk ?vL ?wL,⟨?xL,?yL,?zL⟩⟩⟩
   (case m|pg|hd|po|sa|jL|aA|mL|kL|lL|nL|oL|sL|pL|qL|rL|tL|uL|xL|vL|wL|yL|zL=>fail "w")
  obtain⟨xB,jA,yB,aM,bM,⟨vU,wU,zB,cM⟩,⟨xU,yU,aC,dM⟩,⟨zU,aV,bC,eM⟩⟩:=iL;have fM:∃C,L2.Cls (L2.KOf KX) C/\mg "Book"=some (.ref C)/\L2.di (L2.KOf KX) C "accounts"/\L2.di (L2.KOf KX) C "things"/\(∃f fd,L2.Mem (L2.KOf KX) "__init__" "Book.__init__" K81.zo f fd []/\L2.Mk (L2.KOf KX) C f)/\(∃f fd,L2.Mem (L2.KOf KX) "ledger" "Book.ledger" K81.uk f fd []/\L2.Meth (L2.KOf KX) C "ledger" f)/\(∃f fd,L2.Mem (L2.KOf KX) "hold_free" "Book.hold_free" K81.nW f fd []/\L2.Meth (L2.KOf KX) C "hold_free" f)/\(∃f fd,L2.Mem (L2.KOf KX) "begin" "Book.begin" K81.xk f fd []/\L2.Meth (L2.KOf KX) C "begin" f)/\(∃f fd,L2.Mem (L2.KOf KX) "account" "Book.account" K81.rm f fd []/\L2.Meth (L2.KOf KX) C "account" f)/\(∃f fd,L2.Mem (L2.KOf KX) "thing_for" "Book.thing_for" K81.nX f fd []/\L2.Meth (L2.KOf KX) C "thing_for" f)/\(∃f fd,L2.Mem (L2.KOf KX) "run" "Book.run" K81.By f fd []/\L2.Meth (L2.KOf KX) C "run" f)/\(∃f fd,L2.Mem (L2.KOf KX) "credit" "Book.credit" K81.uz f fd []/\L2.Meth (L2.KOf KX) C "credit" f)/\(∃f fd,L2.Mem (L2.KOf KX) "say" "Book.say" K81.BB f fd []/\L2.Meth (L2.KOf KX) C "say" f):=by
   dsimp only[L2.KOf];refine' ⟨_,⟨?pg,?hd,?po,?sa⟩,PySem.W.mg_of KX G ?m,?gM,?hM,⟨_,_,L2.mem_mk ?iM ?jM,⟨?kM,?lM,?mM,?nM⟩⟩,⟨_,_,L2.mem_mk ?oM ?pM,⟨?qM,?rM,?sM⟩⟩,⟨_,_,L2.mem_mk ?tM ?uM,⟨?vM,?wM,?xM⟩⟩,⟨_,_,L2.mem_mk ?yM ?zM,⟨?aN,?bN,?cN⟩⟩,⟨_,_,L2.mem_mk ?dN ?eN,⟨?fN,?gN,?hN⟩⟩,⟨_,_,L2.mem_mk ?iN ?jN,⟨?kN,?lN,?mN⟩⟩,⟨_,_,L2.mem_mk ?nN ?oN,⟨?pN,?qN,?rN⟩⟩,⟨_,_,L2.mem_mk ?sN ?tN,⟨?uN,?vN,?wN⟩⟩,⟨_,_,L2.mem_mk ?xN ?yN,⟨?zN,?aO,?bO⟩⟩⟩
   (case m|pg|hd|po|sa|gM|hM|lM|iM|jM|kM|mM|nM|qM|oM|pM|rM|sM|vM|tM|uM|wM|xM|aN|yM|zM|bN|cN|fN|dN|eN|gN|hN|kN|iN|jN|lN|mN|pN|nN|oN|qN|rN|uN|sN|tN|vN|wN|zN|xN|yN|aO|bO=>fail "w")
  obtain⟨cO,dO,eO,fO,gO,⟨bV,cV,cC,hO⟩,⟨dV,eV,dC,iO⟩,⟨fV,gV,eC,jO⟩,⟨hV,iV,fC,kO⟩,⟨jV,kV,gC,lO⟩,⟨lV,mV,iC,mO⟩,⟨nV,oV,jC,nO⟩,⟨pV,qV,kC,oO⟩,⟨rV,sV,lC,pO⟩⟩:=fM;have ND:∃mC nC oC pC qC,mg "Bits"=some mC/\mg "Figures"=some nC/\mg "Queue"=some oC/\mg "Double"=some pC/\mg "Room"=some qC/\∃kA lA mA nA oA:Addr,mC=.ref kA/\nC=.ref lA/\oC=.ref mA/\pC=.ref nA/\qC=.ref oA/\[kA,lA,mA,nA,oA].Nodup:=by
   refine' ⟨_,_,_,_,_,PySem.W.mg_of KX G ?qO,PySem.W.mg_of KX G ?rO,PySem.W.mg_of KX G ?sO,PySem.W.mg_of KX G ?tO,PySem.W.mg_of KX G ?uO,?nd⟩
   (case qO=>k_is)
   (case rO=>k_is)
   (case sO=>k_is)
   (case tO=>k_is)
   (case uO=>k_is)
   (case nd=>exact⟨_,_,_,_,_,rfl,rfl,rfl,rfl,rfl,by decide⟩)
  obtain⟨_,_,_,_,_,rC,sC,tC,uC,vC,kA,lA,mA,nA,oA,rfl,rfl,rfl,rfl,rfl,ND⟩:=ND;obtain rfl:cB=kA:=by rw[dB]at rC;injection rC with z;injection z
  obtain rfl:hB=lA:=by rw[iB]at sC;injection sC with z;injection z
  obtain rfl:mB=mA:=by rw[nB]at tC;injection tC with z;injection z
  obtain rfl:rB=nA:=by rw[sB]at uC;injection uC with z;injection z
  obtain rfl:xB=oA:=by rw[yB]at vC;injection vC with z;injection z
  have CX:∃bA,mg "Empty"=some (.ref bA)/\L2.zaV (L2.KOf KX) bA/\PySem.W.exmOne (L2.KOf KX) (.ref bA) (.ref bA)=some true/\PySem.W.excIn (L2.KOf KX) bA [.type "ValueError",.type "Exception",.type "BaseException",.type "object"] "ValueError.__new__"=true:=by
   dsimp only[L2.KOf];refine' ⟨_,PySem.W.mg_of KX G ?m,⟨?k_0,?k_1,?k_2,?k_3,?k_4,?k_5,?k_6,?k_7⟩,?h,?vO⟩
   (case m=>first|k_is|k_exc|rfl|kernel_rfl|decide+kernel)
   (case k_0=>first|k_is|k_exc|rfl|kernel_rfl|decide+kernel)
   (case k_1=>first|k_is|k_exc|rfl|kernel_rfl|decide+kernel)
   (case k_2=>first|k_is|k_exc|rfl|kernel_rfl|decide+kernel)
   (case k_3=>first|k_is|k_exc|rfl|kernel_rfl|decide+kernel)
   (case k_4=>first|k_is|k_exc|rfl|kernel_rfl|decide+kernel)
   (case k_5=>first|k_is|k_exc|rfl|kernel_rfl|decide+kernel)
   (case k_6=>first|k_is|k_exc|rfl|kernel_rfl|decide+kernel)
   (case k_7=>first|k_is|k_exc|rfl|kernel_rfl|decide+kernel)
   (case h=>first|k_is|k_exc|rfl|kernel_rfl|decide+kernel)
   (case vO=>first|k_is|k_exc|rfl|kernel_rfl|decide+kernel)
  obtain⟨bA,wC,wO,xO,yO⟩:=CX
  letI zl:Mir.Zl:=⟨L2.clM mg⟩
  have cx:K81.CFX (L2.KOf KX) mg bA:=⟨rfl,wC,L2.JL wC,wO,xO,yO⟩;have Sy:∃t,mg "ACCOUNT"=some (.str "account 1" t):=by
   have c1:∃v,mg "ACCOUNT"=some v/\∃t,v=.str "account 1" t:=by
    refine' ⟨_,PySem.W.mg_of KX G ?z,?w⟩
    (case z=>k_is)
    (case w=>exact⟨_,rfl⟩)
   obtain⟨v,h1,t,h2⟩:=c1;exact⟨t,by rw[h1,h2]⟩
  have zO:∃v,mg "BEGINNINGS"=some v/\∃a,v=.ref a/\(L2.BO (L2.KOf KX) a).bind L2.Gp=some K81.bX:=by
   dsimp only[L2.KOf];refine' ⟨_,PySem.W.mg_of KX G ?z,?w⟩
   (case z=>k_is)
   (case w=>
    refine' ⟨_,rfl,?c⟩
    (case c=>kernel_rfl))
  obtain⟨_,aP,bP,rfl,cP⟩:=zO;have dP:∃v,mg "DEEDS"=some v/\∃a,v=.ref a/\L2.Yd w (L2.KOf KX) a/\L2.U7 (L2.KOf KX) a K81.ia/\(a==sysModules)=false:=by
   dsimp only[L2.KOf];refine' ⟨_,PySem.W.mg_of KX G ?z,?w⟩
   (case z=>k_is)
   (case w=>
    refine' ⟨_,rfl,⟨_,_,?a,?b⟩,?c,?d⟩
    (case a=>rfl)
    (case b=>kernel_rfl)
    (case c=>show _=_;kernel_rfl)
    (case d=>decide))
  obtain⟨_,eP,fP,rfl,gP,xC,hP⟩:=dP;have iP:∃v,mg "NUMBER_PLACES"=some v/\∃a,v=.ref a/\L2.Yd w (L2.KOf KX) a/\L2.zbP (L2.KOf KX) a K81.ck/\(a==sysModules)=false:=by
   dsimp only[L2.KOf];refine' ⟨_,PySem.W.mg_of KX G ?z,?w⟩
   (case z=>k_is)
   (case w=>
    refine' ⟨_,rfl,⟨_,_,?a,?b⟩,?c,?d⟩
    (case a=>rfl)
    (case b=>kernel_rfl)
    (case c=>show _=_;kernel_rfl)
    (case d=>decide))
  obtain⟨_,jP,kP,rfl,lP,yC,mP⟩:=iP
  let ga:K81.GA:=⟨bP,fP,kP⟩
  have gf:K81.GF zef w (L2.KOf KX) mg ga:=⟨Sy,aP,L2.Vi cP,eP,L2.L5 gP xC (by decide) hP,xC,jP,L2.L5 lP yC (by decide) mP,yC⟩
  let ca:K81.CA:=⟨pG,iH,cB,hB,mB,rB,xB,cO,ND⟩
  have cf:K81.CF (L2.KOf KX) ca:=⟨qG,jH,fA,gA,hA,iA,jA,dO,sG,fO,gO,hI,dJ,aK,cL,aM,λC hC=>by
   simp only[K81.UC,List.mem_cons,List.not_mem_nil,or_false]at hC;rcases hC with rfl|rfl|rfl|rfl|rfl
   .exact⟨fA,iI⟩
   .exact⟨gA,eJ⟩
   .exact⟨hA,bK⟩
   .exact⟨iA,dL⟩
   .exact⟨jA,bM⟩⟩
  refine⟨zE,λf fd Ff base kb gb=>?_⟩
  have nP:=K81.G9 zef w base Z cf uA;have oP:L2.Bj _ _ (L2.KOf KX) mg base L2.CX0 1 "Ledger" ca.bo ["self"] _:=⟨⟨_,_,nP,rG,tG,uA.binds (λ_ _ _ _ _ _ us hl=>match us,hl with| [_],_=>rfl)⟩⟩
  have pP:=K81.KN zef w base Z cf cC oP;have qP:L2.Bj _ _ (L2.KOf KX) mg base L2.CX0 3 "Book" ca.cq ["self"] _:=⟨⟨_,_,pP,eO,hO,cC.binds (λ_ _ _ _ _ _ us hl=>match us,hl with| [_],_=>rfl)⟩⟩
  have rP:=K81.KO zef w base Z kD;have sP:=K81.CU zef w base Z cf vA;have tP:L2.gm _ _ (L2.KOf KX) mg base L2.CX0 1 ca.bo "entries" ["self"] [] _:=⟨⟨_,_,[],sP,cf.lj,uG,vA.binds (λ_ _ _ _ _ _ us hl=>match us,hl with| [_],_=>rfl),.nil⟩⟩
  have uP:=K81.Ha zef w base Z cf dC tP;have zC:L2.gm _ _ (L2.KOf KX) mg base L2.CX0 2 ca.cq "ledger" ["self"] [] _:=⟨⟨_,_,[],uP,cf.jz,iO,dC.binds (λ_ _ _ _ _ _ us hl=>match us,hl with| [_],_=>rfl),.nil⟩⟩
  have vP:=K81.Hb zef w base Z lD;have qA:=K81.O6 zef w base Z mD;have wP:=K81.Hc zef w base Z nD;have aD:=K81.KP zef w base Z oD wP;have xP:=K81.M9 zef w base Z gf pD aD qA;have yP:=K81.O7 zef w base Z qD;have bD:=K81.KQ zef w base Z rD yP;have zP:=K81.KR zef w base Z sD;have cD:=K81.KS zef w base Z tD;have aQ:=K81.O8 zef w base Z cf eB cD zP;have dD:=K81.CV zef w base Z uD;have eD:=K81.Na zef w base Z vD dD;have bQ:=K81.HP zef w base Z wD eD;have cQ:=K81.ER zef w base Z xD eD;have dQ:=K81.DO zef w base Z yD cD;have eQ:=K81.HQ zef w base Z cf jB dQ bQ cQ;have fQ:=K81.Hd zef w base Z zD cx;have gQ:=K81.KU zef w base Z aE;have rA:=K81.KY zef w base Z bE aD;have hQ:=K81.KZ zef w base Z cE;have iQ:=K81.Nb zef w base Z cf oB hQ rA gQ fQ
  have jQ:=K81.ye zef w base Z cf tB;have kQ:L2.gm _ _ (L2.KOf KX) mg base L2.CX0 1 ca.bW "without_one" ["self","taken"] [] _:=⟨⟨_,_,[],jQ,cf.DH,eL,tB.binds (λ_ _ _ _ _ _ us hl=>match us,hl with| [_,_],_=>rfl),.nil⟩⟩
  have lQ:=K81.K0 zef w base Z dE;have mQ:=K81.Nc zef w base Z eE;have fD:=K81.HR zef w base Z fE cx;have nQ:=K81.Hf zef w base Z gE cx fD;have oQ:=K81.HS zef w base Z hE cx fD;have pQ:=K81.HU zef w base Z iE;have qQ:=K81.K1 zef w base Z cf uB pQ lQ mQ rA kQ oQ nQ;have gD:=K81.Ws zef w base Z jE;have rQ:=K81.HV zef w base Z kE cx gD;have sQ:=K81.Nd zef w base Z lE gD;have tQ:=K81.Pa zef w base Z cf zB rA sQ rQ;have uQ:=K81.CW zef w base Z cf eC;have vQ:L2.gm _ _ (L2.KOf KX) mg base L2.CX0 1 ca.cq "hold_free" ["self","name"] [] _:=⟨⟨_,_,[],uQ,cf.jz,jO,eC.binds (λ_ _ _ _ _ _ us hl=>match us,hl with| [_,_],_=>rfl),.nil⟩⟩
  have cA:=K81.HW zef w base Z cf bB;have dA:L2.Ox (L2.KOf KX) mg "Thing" "__init__" lH:=⟨⟨_,kH,mH,nH,oH,pH⟩⟩;have eA:=bB.binds (ps:=["self","kind"]) (λ_ _ _ _ _ _ us hl=>match us,hl with| [_,_],_=>rfl)
  have wQ:=K81.K2 zef w base Z cf fB dA cA eA;have xQ:L2.Bj _ _ (L2.KOf KX) mg base L2.CX0 2 "Bits" ca.iZ ["self"] _:=⟨⟨_,_,wQ,dB,kI,fB.binds (λ_ _ _ _ _ _ us hl=>match us,hl with| [_],_=>rfl)⟩⟩
  have yQ:=K81.ES zef w base Z cf kB dA cA eA;have zQ:L2.Bj _ _ (L2.KOf KX) mg base L2.CX0 2 "Figures" ca.cu ["self"] _:=⟨⟨_,_,yQ,iB,gJ,kB.binds (λ_ _ _ _ _ _ us hl=>match us,hl with| [_],_=>rfl)⟩⟩
  have aR:=K81.HX zef w base Z cf pB dA cA eA;have bR:L2.Bj _ _ (L2.KOf KX) mg base L2.CX0 2 "Queue" ca.Queue ["self"] _:=⟨⟨_,_,aR,nB,dK,pB.binds (λ_ _ _ _ _ _ us hl=>match us,hl with| [_],_=>rfl)⟩⟩
  have cR:=K81.Hg zef w base Z cf vB dA cA eA;have dR:L2.Bj _ _ (L2.KOf KX) mg base L2.CX0 2 "Double" ca.bW ["self"] _:=⟨⟨_,_,cR,sB,gL,vB.binds (λ_ _ _ _ _ _ us hl=>match us,hl with| [_],_=>rfl)⟩⟩
  have eR:=K81.Pb zef w base Z mE;have fR:=K81.K3 zef w base Z cf aC eR dA cA eA;have gR:L2.Bj _ _ (L2.KOf KX) mg base L2.CX0 2 "Room" ca.cn ["self"] _:=⟨⟨_,_,fR,yB,dM,aC.binds (λ_ _ _ _ _ _ us hl=>match us,hl with| [_],_=>rfl)⟩⟩
  have hR:=K81.K4 zef w base Z cf nE gR dR bR zQ xQ;have iR:=K81.HY zef w base Z cf fC hR vQ bD;have jR:L2.gm _ _ (L2.KOf KX) mg base L2.CX0 5 ca.cq "begin" ["self","words"] [] _:=⟨⟨_,_,[],iR,cf.jz,kO,fC.binds (λ_ _ _ _ _ _ us hl=>match us,hl with| [_,_],_=>rfl),.nil⟩⟩
  have kR:=K81.Hh zef w base Z cf wA;have hD:L2.gm _ _ (L2.KOf KX) mg base L2.CX0 1 ca.bo "paid" ["self"] [] _:=⟨⟨_,_,[],kR,cf.lj,vG,wA.binds (λ_ _ _ _ _ _ us hl=>match us,hl with| [_],_=>rfl),.nil⟩⟩
  have lR:=K81.HZ zef w base Z cf xA;have iD:L2.gm _ _ (L2.KOf KX) mg base L2.CX0 1 ca.bo "due" ["self"] [] _:=⟨⟨_,_,[],lR,cf.lj,wG,xA.binds (λ_ _ _ _ _ _ us hl=>match us,hl with| [_],_=>rfl),.nil⟩⟩
  have mR:=K81.DP zef w base Z cf yA;have sA:L2.gm _ _ (L2.KOf KX) mg base L2.CX0 1 ca.bo "credit" ["self"] [] _:=⟨⟨_,_,[],mR,cf.lj,xG,yA.binds (λ_ _ _ _ _ _ us hl=>match us,hl with| [_],_=>rfl),.nil⟩⟩
  have nR:=K81.ET zef w base Z cf zA iD hD sA;have oR:L2.gm _ _ (L2.KOf KX) mg base L2.CX0 2 ca.bo "spare" ["self"] [] _:=⟨⟨_,_,[],nR,cf.lj,yG,zA.binds (λ_ _ _ _ _ _ us hl=>match us,hl with| [_],_=>rfl),.nil⟩⟩
  have pR:=K81.EU zef w base Z cf gC oR sA iD hD;have qR:L2.gm _ _ (L2.KOf KX) mg base L2.CX0 3 ca.cq "account" ["self"] [] _:=⟨⟨_,_,[],pR,cf.jz,lO,gC.binds (λ_ _ _ _ _ _ us hl=>match us,hl with| [_],_=>rfl),.nil⟩⟩
  have rR:=K81.CY zef w base Z cf gf iC qA;have sR:L2.gm _ _ (L2.KOf KX) mg base L2.CX0 2 ca.cq "thing_for" ["self","words","place"] [] _:=⟨⟨_,_,[],rR,cf.jz,mO,iC.binds (λ_ _ _ _ _ _ us hl=>match us,hl with| [_,_,_],_=>rfl),.nil⟩⟩
  have tR:L2.IS zef w (L2.KOf KX) mg base (L2.CXW zef w) 4 "do" ((K81.Dy ca).map λp=>(p.1,Mir.spS p.2)):=by
   intro p hp;simp only[K81.Dy,List.map_cons,List.map_nil,List.mem_cons,List.not_mem_nil,or_false]at hp;rcases hp with rfl|rfl|rfl|rfl|rfl
   .exact⟨["self","words"],⟨⟨_,_,[],aQ.mono (by decide),fA,jI,eB.binds (λ_ _ _ _ _ _ us hl=>match us,hl with| [_,_],_=>rfl),.nil⟩⟩⟩
   .exact⟨["self","words"],⟨⟨_,_,[],eQ.mono (by decide),gA,fJ,jB.binds (λ_ _ _ _ _ _ us hl=>match us,hl with| [_,_],_=>rfl),.nil⟩⟩⟩
   .exact⟨["self","words"],⟨⟨_,_,[],iQ.mono (by decide),hA,cK,oB.binds (λ_ _ _ _ _ _ us hl=>match us,hl with| [_,_],_=>rfl),.nil⟩⟩⟩
   .exact⟨["self","words"],⟨⟨_,_,[],qQ.mono (by decide),iA,fL,uB.binds (λ_ _ _ _ _ _ us hl=>match us,hl with| [_,_],_=>rfl),.nil⟩⟩⟩
   .exact⟨["self","words"],⟨⟨_,_,[],tQ.mono (by decide),jA,cM,zB.binds (λ_ _ _ _ _ _ us hl=>match us,hl with| [_,_],_=>rfl),.nil⟩⟩⟩
  have uR:=K81.Nf zef w base Z cf gf jC sR bD jR qR qA tR;have vR:L2.gm _ _ (L2.KOf KX) mg base (L2.CXW zef w) 6 ca.cq "run" ["self","words"] [] _:=⟨⟨_,_,[],uR,cf.jz,nO,jC.binds (λ_ _ _ _ _ _ us hl=>match us,hl with| [_,_],_=>rfl),.nil⟩⟩
  have wR:=K81.Ng zef w base Z oE;have xR:=K81.Hi zef w base Z cf gB wR;have yR:=K81.CZ zef w base Z cf lB dD;have zR:=K81.EV zef w base Z pE;have aS:=K81.EW zef w base Z cf qB zR;have bS:=K81.DQ zef w base Z qE;have cS:=K81.DR zef w base Z cf wB bS;have dS:=K81.Hj zef w base Z rE;have eS:=K81.Hk zef w base Z cf bC dS;have fS:L2.IS zef w (L2.KOf KX) mg base L2.CX0 2 "credit" ((K81.fb ca).map λp=>(p.1,Mir.spQ p.2)):=by
   intro p hp;simp only[K81.fb,List.map_cons,List.map_nil,List.mem_cons,List.not_mem_nil,or_false]at hp;rcases hp with rfl|rfl|rfl|rfl|rfl
   .exact⟨["self"],⟨⟨_,_,[],xR.mono (by decide),fA,lI,gB.binds (λ_ _ _ _ _ _ us hl=>match us,hl with| [_],_=>rfl),.nil⟩⟩⟩
   .exact⟨["self"],⟨⟨_,_,[],yR.mono (by decide),gA,hJ,lB.binds (λ_ _ _ _ _ _ us hl=>match us,hl with| [_],_=>rfl),.nil⟩⟩⟩
   .exact⟨["self"],⟨⟨_,_,[],aS.mono (by decide),hA,eK,qB.binds (λ_ _ _ _ _ _ us hl=>match us,hl with| [_],_=>rfl),.nil⟩⟩⟩
   .exact⟨["self"],⟨⟨_,_,[],cS.mono (by decide),iA,hL,wB.binds (λ_ _ _ _ _ _ us hl=>match us,hl with| [_],_=>rfl),.nil⟩⟩⟩
   .exact⟨["self"],⟨⟨_,_,[],eS.mono (by decide),jA,eM,bC.binds (λ_ _ _ _ _ _ us hl=>match us,hl with| [_],_=>rfl),.nil⟩⟩⟩
  have gS:=K81.Hl zef w base Z cf kC fS;have tA:L2.gm _ _ (L2.KOf KX) mg base L2.CX0 3 ca.cq "credit" ["self"] [] _:=⟨⟨_,_,[],gS,cf.jz,oO,kC.binds (λ_ _ _ _ _ _ us hl=>match us,hl with| [_],_=>rfl),.nil⟩⟩
  have hS:=K81.Nh zef w base Z sE;have iS:=K81.EX zef w base Z cf aB hS sA;obtain⟨tV,jS,kS⟩:=K81.C0 aB;have lS:L2.gm _ _ (L2.KOf KX) mg base L2.CX0 2 ca.bo "enter" ["self","word","steps","price","credit"] [] _:=⟨⟨_,_,_,iS,cf.lj,zG,jS,kS⟩⟩;have mS:=K81.Ni zef w base Z cf lC lS tA vR xP;have jD:L2.gm _ _ (L2.KOf KX) mg base (L2.CXW zef w) 7 ca.cq "say" ["self","row"] [] _:=⟨⟨_,_,[],mS,cf.jz,pO,lC.binds (λ_ _ _ _ _ _ us hl=>match us,hl with| [_,_],_=>rfl),.nil⟩⟩
  have nS:=K81.Nj zef w base Z cf tE jD;have oS:=K81.Nk zef w base Z cf uE tA nS;have pS:=K81.Ia zef w base Z vE;have qS:=K81.K5 zef w base Z cf wE;have rS:=K81.Nl zef w base Z cf xE qS pS;have sS:=K81.K6 zef w base Z cf cx yE tA zC jD;exact K81.zcd NL Z cf Ff zC sS oS rS rP vP qP
