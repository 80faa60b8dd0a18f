import PyProof.Rows.All
import Wide.All
import OpenK.AllK
import Wide.FinOn
import Lean
import PyProof.EqAt
import PyProof.EqKinds
import PyProof.TupleCall
import KE.KLam
import KE.KNestM
import KE.KTryMore
import PyProof.ZipIter
import KE.KDictLaws
import KE.KDictList
import PyProof.Rows.SetFrom
import PyProof.DictWalks
import PyProof.Rows.StrInSeq3
import PyProof.EnumMake
import PyProof.Rows.EnumRows
import PyProof.DictItems
import PyProof.FString5
import PyProof.MeetsDictList
import KE.KMinKey
import PyProof.StrWalks
import PyProof.DictUpdate
import KE.KSortTup
import PyProof.Rows.SortRunsK
import PyProof.Rows.SortShellK
import PyProof.Rows.SortKeyStr
import KE.KDictSum
import PyProof.Draws
import PySem.Challenge.RW_creditworks_k77_whole_names_that_come
set_option Elab.async false
set_option linter.all false
set_option maxRecDepth 100000
set_option compiler.extract_closed false
set_option bootstrap.genMatcherCode false
set_option genSizeOf false
set_option hygiene false
local macro_rules | `(tactic|fail "q0")=>`(tactic|(
 dsimp only[L2.KOf];refine' L2.Top.mk' KX G ?a ?l ?c ?k
 (case a=>k_is);(case l=>k_is);(case c=>k_is);(case k=>k_is)))
local macro_rules | `(tactic|fail "q1")=>`(tactic|(
 obtain⟨x,A,e⟩:=zaa e;obtain⟨y,ρ,e⟩:=zaa e))
local macro_rules | `(tactic|fail "q2")=>`(tactic|(
 refine ha.sv F B H J L x.1 x.2 _ R A λv G C j f E T=>?_))
local macro_rules | `(tactic|fail "q3")=>`(tactic|(
 refine h F B H J L x.1 x.2 _ R A λvs W b C n S=>?_))
local macro_rules | `(tactic|fail "q4")=>`(tactic|(
 intro X C D B m i U0 s J H E I f st j;subst C D B))
local macro_rules | `(tactic|fail "q5")=>`(tactic|(
 simp only[List.mem_cons,List.not_mem_nil,or_false]at hb;rcases hb with rfl|rfl))
local macro_rules | `(tactic|fail "q6")=>`(tactic|(
 intro F B H J L o D R e q;obtain⟨x,f,e⟩:=zaa e))
set_option hygiene true
namespace PySem.W.Fast
def tw600975651514910489:=0
def tw9704728908592451013:=0
def tw7023155100770347714:=0
def tw10902217175956661568:=0
def tw17862932670031222455:=0
def tw4325379585756412156:=0
def tw1127983684121179559:=0
def tw3201517307900739682:=0
def tw6859284800332581497:=0
def tw15558082638842679411:=0
def tw17169339786963744239:=0
def tw3611850380645089348:=0
def tw6062848190025836432:=0
def tw16826571412056043503:=0
def tw13756357671451318353:=0
def tw5022452397336129949:=0
def tw5519566054853332254:=0
def tw1359563577438378233:=0
def tw12005365210021642238:=0
def tw15998050953311014015:=0
def tw4802237788206610986:=0
def tw10966799990775705902:=0
def tw16790531274745915561:=0
def tw1884055333188980798:=0
def tw13834232227987129402:=0
def tw17640764515555021467:=0
def tw2534028551630630959:=0
def tw2412715820121584451:=0
def tw6884939976376714774:=0
def tw18040548309694830542:=0
def tw16730733807623126143:=0
def tw2774018201169092621:=0
def tw12556420268979215015:=0
def tw15789365795634248932:=0
def tw15141661364777676237:=0
def tw7972644283872314310:=0
def tw6613272670637060881:=0
def tw14083488709370703656:=0
def tw17746280936280420778:=0
def tw3542589594163105535:=0
def tw4767680588604183114:=0
def tw18313145889540256742:=0
def tw2642664682297867400:=0
def tw2145778386534301710:=0
def tw8317004930701377770:=0
def tw4136441478113802630:=0
def tw12255053793691922908:=0
def tw11534337066741569282:=0
def tw3779103318688772672:=0
def tw7909375972544585540:=0
def tw13347378553608992429:=0
def tw4783997764082009165:=0
def tw15634475362569856669:=0
def tw9351834089348757072:=0
def tw17603520346527294322:=0
def tw12333894876018901578:=0
def tw7861171590825515178:=0
def tw17963855246471791812:=0
def tw14155820375066425409:=0
def tw12000343204420770570:=0
def tw13749352219351201714:=0
def tw5623013891702593353:=0
def tw7105566765087820417:=0
def tw769311369847344114:=0
def tw17966854853921865:=0
def tw11551808431993871362:=0
def tw4137605602652300248:=0
def tw9744283615958727256:=0
def tw8440733837781353639:=0
def tw12308154431352917850:=0
def tw17525387854024826142:=0
def tw1615844827562128107:=0
def tw17272469543954165540:=0
def tw3209806516045539359:=0
def tw16257392076726766750:=0
def tw1643097426160913522:=0
def tw2047870785669908628:=0
def tw6307670826610131371:=0
def tw16101261522893922769:=0
def tw6067699643864849562:=0
def tw5784681565204926891:=0
def tw12442168324790127567:=0
end PySem.W.Fast
noncomputable section
open PySem
def zaa(h:o.bind f=some b):∃a,o=some a/\f a=some b:=Option.bind_eq_some_iff.mp h
def zab(h:o.map f=some b):∃a,o=some a/\f a=b:=Option.map_eq_some_iff.mp h
def zac{l:List α}{i:Nat}(h:l[i]?=some a):∃h:i<l.length,l[i]=a:=List.getElem?_eq_some_iff.mp h
def zad(h:a∈[b]):a=b:=List.mem_singleton.mp h
def zae{s t:List α}(h:a∈s++t):a∈s\/a∈t:=List.mem_append.mp h
def zaf(h:a∈b::l):a=b\/a∈l:=List.mem_cons.mp h
abbrev zag:=PySem.W.Frag
abbrev zah:=PySem.Challenge.rw_creditworks_k77_whole_names_that_come.prog
section
open PySem.Spec PyProof.Rows
def zai:=@Option.bind_some
def zaj:=@List.mem_of_getElem?
def zak:=@List.mem_cons_of_mem
def zal:=@List.length_map
def zam:=@Bool.false_ne_true
def zan:=@List.mem_append_right
def zao:=@List.getElem?_map
def zap:=@Nat.le_refl
def zaq:=@Heap.lt_size
def zar:=@Heap.get?_push_of_some
def zas:=@List.mem_cons_self
def zat:=@List.getElem?_cons_succ
def zau:=@List.length_append
def zav:=@List.getElem?_set_self
def zaw:=@List.length_cons
def zax:=@List.getElem?_append_left
def zay:=@List.cons_append
def zaz:=@List.map_cons
def zaA:=@List.getElem?_set_ne
def zaC:=@List.getElem?_eq_getElem
def zaD:=@List.append_assoc
def zaE:=@PySem.boot_len
def zaF:=@Nat.lt_of_lt_of_le
def zaG:=@List.eq_of_mem_replicate
def zaH:=@decide_eq_true
def zaI:=@wpAny_bind
def zaJ:=@PySem.F.plainAttrs_list
def zaK:=@List.size_toArray
def zaL:=@Heap.get?_push_size
def zaM:=@List.length_set
def zaN:=@List.getElem?_append_right
def zaO:=@decide_eq_false
def zaP:=@List.getElem?_cons_zero
def zaQ:=@Option.some.inj
def zaR:=@List.append_nil
def zaS:=@Nat.ne_of_lt
def zaT:=@Option.map_some
def zaW:=@List.mem_append_left
def zaX:=@Nat.le_trans
def zaY:=@List.length_filter_le
def zaZ:=@wpAny_pure
def za0:=@PySem.W.mg_none_of
def za1:=@List.map_append
def za3:=@Nat.lt_irrefl
def za4:=@PySem.W.kia_one
def za5:=@PySem.mem_of_lookup
def za6:=@wpAny_mono
def za7:=@List.length_singleton
def za8:=@List.lookup_cons
def za9:=@List.Nodup.mem_erase_iff
def zba:=@Nat.le_of_not_lt
def zbb:=@List.drop_eq_getElem_cons
def zbc:=@List.replicate_succ
end
namespace L2
open PySem.Spec PyProof.Rows
abbrev Key:=Sum Int Str
noncomputable def rY:Key->Value->Bool
 | .inl k,v=>Value.isInt k v
 | .inr x,v=>Value.isStrOf x v
def QM(w:World):Key->Int
 | .inl k=>hashInt k
 | .inr x=>hashStr w x
theorem cb:∀{k:Key} {v:Value},rY k v=true->(∃i t,k=Sum.inl i/\v=Value.int i t)\/(∃x t,k=Sum.inr x/\v=Value.str x t)
 | .inl i,v,h=>by
  obtain⟨t,e⟩:=Value.isInt_shape h;exact .inl ⟨i,t,rfl,e⟩
 | .inr x,v,h=>by
  obtain⟨t,e⟩:=Value.isStrOf_shape h;exact .inr ⟨x,t,rfl,e⟩
theorem BO(i:Int)(t:Tok):rY (.inl i) (.int i t)=true:=by simp[rY,Value.isInt]
theorem BP(x:Str)(t:Tok):rY (.inr x) (.str x t)=true:=by simp[rY,Value.isStrOf]
theorem LO(a b:Int):decide ((Sum.inl a:Key)=Sum.inl b)=(a==b):=by
 by_cases e:a=b
 .subst e;simp
 .have h : ¬(Sum.inl a:Key)=Sum.inl b:=λq=>e (Sum.inl.inj q)
  rw[zaO h];exact(beq_eq_false_iff_ne.mpr e).symm
theorem LP(a b:Str):decide ((Sum.inr a:Key)=Sum.inr b)=decide (a=b):=by
 by_cases e:a=b
 .subst e;simp
 .have h : ¬(Sum.inr a:Key)=Sum.inr b:=λq=>e (Sum.inr.inj q)
  rw[zaO h,zaO e]
def LQ(a:Int)(b:Str):decide ((Sum.inl a:Key)=Sum.inr b)=false:=zaO (λq=>nomatch q)
def LR(a:Str)(b:Int):decide ((Sum.inr a:Key)=Sum.inl b)=false:=zaO (λq=>nomatch q)
def bX(prog:Program)(w:World):PySem.KeyKind prog w Key where
 is:=rY
 hash:=QM w
 inj:=λv a b ha hb=>by
  rcases cb ha with⟨i,t,rfl,rfl⟩|⟨x,t,rfl,rfl⟩
  .rcases cb hb with⟨j,u,rfl,e⟩|⟨y,u,rfl,e⟩
   .injection e with e1 _;rw[e1]
   .exact nomatch e
  .rcases cb hb with⟨j,u,rfl,e⟩|⟨y,u,rfl,e⟩
   .exact nomatch e
   .injection e with e1 _;rw[e1]
 byValue:=λk v h=>by
  rcases cb h with⟨i,t,rfl,rfl⟩|⟨x,t,rfl,rfl⟩<;>rfl
 pyHash:=λhv h=>by
  rcases cb hv with⟨i,t,rfl,rfl⟩|⟨x,t,rfl,rfl⟩
  .exact wpAny_pyHash_int h
  .exact wpAny_pyHash_str h
 eqBool:=λhu hv h=>by
  rcases cb hu with⟨i,t,rfl,rfl⟩|⟨x,t,rfl,rfl⟩
  .rcases cb hv with⟨j,u,rfl,rfl⟩|⟨y,u,rfl,rfl⟩
   .rw[LO]at h;exact wpAny_eqBool_int h
   .rw[LQ]at h;exact SeqAt.EqAt.int_str i t y u _ _ _ _ h
  .rcases cb hv with⟨j,u,rfl,rfl⟩|⟨y,u,rfl,rfl⟩
   .rw[LR]at h;exact SeqAt.EqAt.str_int x t j u _ _ _ _ h
   .rw[LP]at h;exact wpAny_eqBool_str h
 «strs»:=λk x t v h=>by
  rcases cb h with⟨i,u,rfl,e⟩|⟨y,u,rfl,e⟩
  .exact nomatch e
  .injection e with e1 _
   subst e1;cases v<;>rfl
def v8(prog:Program)(w:World)(i:Int)(t:Tok):(bX prog w).is (.inl i) (.int i t)=true:=BO i t
def v9(prog:Program)(w:World)(x:Str)(t:Tok):(bX prog w).is (.inr x) (.str x t)=true:=BP x t
inductive V where
 |non|bl (b:Bool)|int (i:Int)|str (x:Str)|byt (b:Array UInt8)|flt (b:UInt64)|ref (a:Addr)|ty (n:String)
 deriving DecidableEq
def RelV:V->Value->Prop
 | .non,u=>u=Value.none
 | .bl b,u=>u=Value.bool b
 | .int i,u=>∃t,u=Value.int i t
 | .str x,u=>∃t,u=Value.str x t
 | .byt b,u=>∃t,u=Value.bytes b t
 | .flt b,u=>∃t,u=Value.float b t
 | .ref a,u=>u=Value.ref a
 | .ty n,u=>u=Value.type n
abbrev Vals:List V->List Value->Prop:=Paired RelV
theorem Vals.length(r:Vals xs us):xs.length=us.length:=Paired.length r
theorem Vals.get:∀{xs:List V} {us:List Value} {i:Nat} {x:V},Vals xs us->xs[i]?=some x->∃u,us[i]?=some u/\RelV x u
 |_,_,_,_,.nil,e=>by simp at e
 |_,_,0,_,.cons r _,e=>by simp at e;subst e;exact⟨_,rfl,r⟩
 |_,_,i+1,x,.cons _ t,e=>by
  obtain⟨u,a,b⟩:=Vals.get t (by simpa using e)
  exact⟨u,by simpa using a,b⟩
theorem Vals.append:∀{xs l:List V} {us g:List Value},Vals xs us->Vals l g->Vals (xs++l) (us++g)
 |_,_,_,_,.nil,s=>s
 |_,_,_,_,.cons r t,s=>.cons r (Vals.append t s)
theorem Vals.take:∀{xs:List V} {us:List Value} (n:Nat),Vals xs us->Vals (xs.take n) (us.take n)
 |_,_,0,_=>.nil
 |_,_,_+1,.nil=>.nil
 |_,_,n+1,.cons r t=>.cons r (Vals.take n t)
theorem Vals.drop:∀{xs:List V} {us:List Value} (n:Nat),Vals xs us->Vals (xs.drop n) (us.drop n)
 |_,_,0,r=>r
 |_,_,_+1,.nil=>.nil
 |_,_,n+1,.cons _ t=>Vals.drop n t
def ot:Option V->Option Value->Prop
 |some v,some u=>RelV v u
 |none,none=>True
 |_,_=>False
def KV{κ:Type}:List (κ×V)->List (κ×Value)->Prop:=Paired λ(p : κ×V) (q : κ×Value)=>p.1=q.1/\RelV p.2 q.2
noncomputable def kV:Key->V
 | .inl i=>.int i
 | .inr x=>.str x
inductive HO where
 |lst (xs:List V)
 |tup (xs:List V)
 |dK (V0:List (Key×V))|dT (V0:List (List Key×V))
 |set (S:Int->Bool) (n:Nat)
 |ins (C dx:Addr) (fs:List (Str×V))
 |own (x:Addr)
 |xd (fs:List (Str×V))
 |met (f x:Addr)
 |rng (lo hi:Int)
 |frz (o:Obj) (u:HO)
 |tbl (ps:Array Value)
 |ext (φ:Heap->Prop)
def Kp:HO->Prop
 | .tup _=>True
 | .tbl _=>True
 |_=>False
abbrev Hp:=Addr->Option HO
def upd(H:Hp)(a:Addr)(o:HO):Hp:=λb=>if b=a then some o else H b
theorem ak:upd H a o a=some o:=by unfold upd;rw[if_pos rfl]
theorem aj(h:b≠a):upd H a o b=H b:=by unfold upd;rw[if_neg h]
theorem OQ{H:Hp}(h:H a=some o)(h':H b=some u)(d:o≠u):a≠b:=by
 intro e;subst e;rw[h]at h';exact d (zaQ h')
theorem cS{H:Hp}(h:H a=some o)(h':H b=none):a≠b:=by
 intro e;subst e;rw[h]at h';cases h'
section
variable(P:Program)(w:World)
def cu(H:Hp)(h:Heap)(a:Addr):HO->Prop
 | .lst xs=>xs.length<=sizeLine/\∃(e:List Value) (n:Nat),Vals xs e/\h.get? a=some {cls:=.type "list",data:=.seq e.toArray n}
 | .tup xs=>xs.length<=sizeLine/\∃e:List Value,Vals xs e/\IsTup h a e.toArray/\∃o,h.get? a=some o/\o.dict=none
 | .dK V0=>V0.length<=sizeLine/\(a==sysModules)=false/\∃vs,KV V0 vs/\h.DictOf (bX P w) a vs
 | .dT V0=>V0.length<=sizeLine/\(a==sysModules)=false/\∃xs:List (List Key×Addr×Value),
   Paired (λ(p:List Key×V) (q:List Key×Addr×Value)=>p.1=q.1/\H q.2.1=some (.tup<|p.1.map kV)/\RelV p.2 q.2.2) V0 xs/\
   ∃o es F,h.get? a=some o/\o.ExactDict/\o.data=.dict es F/\es.toList=xs.map (entryOfKey<|tupleKind<|bX P w)/\(xs.map (·.1)).Nodup
 | .set S n=>h.SetOf (intKind P w) a S n
 | .ins C dx fs=>H dx=some (.own a)/\fs.length<=1000/\dx≠a/\h.get? a=some (PySem.W.instObj C dx)/\
   ∃mA,h.Ns1 dx mA/\(∀f,ot (fs.lookup f)<|mA f)/\PySem.Within mA (fs.map (·.1))
 | .own _=>∃o,h.get? a=some o
 | .xd fs=>∃mA,h.Ns1 a mA/\∀f,ot (fs.lookup f) (mA f)
 | .rng lo hi=>∃t u v,h.get? a=some {cls:=.type "range",data:=.fields #[.int lo t,.int hi u,.int 1 v]}
 | .frz o u=>h.get? a=some o/\cu H h a u
 | .tbl ps=>(ps[0]?=some .none/\∃q t,ps[1]?=some (.str q t)/\h.CodeRec (.ref a) q)\/
   (ps[0]?≠some .none/\∃j,h.get? a=some {cls:=.none,data:=.fields j}/\(j=#[]\/∃c q t more,j=#[ps.getD 0 .none,ps.getD 1 .none,.ref c]/\ps[2]?=some (.str q t)/\H c=some (.tbl<|#[.none,.str q t]++more)))
 | .met f x=>h.get? a=some (PySem.W.methodObj (.ref f)<|.ref x)
 | .ext φ=>φ h/\(∃o,h.get? a=some o)/\∀y D:Heap,φ y->(∀o,y.get? a=some o->D.get? a=some o)->φ D
def HOk(H:Hp)(h:Heap):Prop:=∀a o,H a=some o->cu P w H h a o
end
section
variable{P:Program}{w:World}{H H':Hp}{h h':Heap}{a:Addr}{o:HO}
theorem cu.lt(x:cu P w H h a o):a<h.objs.size:=by
 cases o with
 |lst xs=>obtain⟨_,_,_,_,e⟩:=x;exact zaq e
 |tup xs=>obtain⟨_,_,_,p,_⟩:=x;exact p.lt
 |dK V0=>obtain⟨_,_,_,_,o,_,_,e,_⟩:=x;exact zaq e
 |dT V0=>obtain⟨_,_,_,_,o,_,_,e,_⟩:=x;exact zaq e
 |set S n=>obtain⟨o,_,_,_,e,_⟩:=x;exact zaq e
 |ins C dx fs=>obtain⟨_,_,_,e,_⟩:=x;exact zaq e
 |own y=>obtain⟨_,e⟩:=x;exact zaq e
 |xd fs=>obtain⟨_,⟨_,_,_,e,_⟩,_⟩:=x;exact zaq e
 |rng lo hi=>obtain⟨_,_,_,e⟩:=x;exact zaq e
 |frz ob u=>obtain⟨e,_⟩:=x;exact zaq e
 |tbl ps=>
  rcases x with⟨_,_,_,_,_,_,_,_,b,e,_⟩|⟨_,_,e,_⟩
  .cases b;exact zaq e
  .exact zaq e
 |met f y=>exact zaq (x)
 |ext φ=>obtain⟨_,⟨_,e⟩,_⟩:=x;exact zaq e
theorem Paired.LS:∀{g:List α} {l:List I},Paired F g l->(∀a b,F a b->G a b)->Paired G g l
 |_,_,.nil,_=>.nil
 |_,_,.cons r t,f=>.cons (f _ _ r) (Paired.LS t f)
theorem cu.stay(x:cu P w H h a o)(k:∀b u,(b=a\/H b=some (.own a))->h.get? b=some u->h'.get? b=some u)
  (ho:∀b,H b=some (.own a)->H' b=some (.own a)) (g:∀b u,Kp u->H b=some u->H' b=some u):cu P w H' h' a o:=by
 induction o with
 |lst xs=>obtain⟨z,s,n,r,e⟩:=x;exact⟨z,s,n,r,k _ _ (.inl rfl) e⟩
 |tup xs=>obtain⟨z,s,r,⟨ob,e,c⟩,ρ,j,D⟩:=x;exact⟨z,s,r,⟨ob,k _ _ (.inl rfl) e,c⟩,ρ,k _ _ (.inl rfl) j,D⟩
 |dK V0=>obtain⟨z,y,vs,r,ob,es,i,e,c⟩:=x;exact⟨z,y,vs,r,ob,es,i,k _ _ (.inl rfl) e,c⟩
 |dT V0=>
  obtain⟨z,y,xs,r,ob,es,i,e,c⟩:=x;exact⟨z,y,xs,Paired.LS r λp q z=>⟨z.1,g _ _ trivial z.2.1,z.2.2⟩,ob,es,i,k _ _ (.inl rfl) e,c⟩
 |set S n=>obtain⟨ob,es,i,t,e,c⟩:=x;exact⟨ob,es,i,t,k _ _ (.inl rfl) e,c⟩
 |ins C dx fs=>
  obtain⟨d,z,ne,e,mA,⟨od,es,i,j,c⟩,r⟩:=x;exact⟨ho _ d,z,ne,k _ _ (.inl rfl) e,mA,⟨od,es,i,k _ _ (.inr d) j,c⟩,r⟩
 |own y=>obtain⟨ob,e⟩:=x;exact⟨ob,k _ _ (.inl rfl) e⟩
 |xd fs=>obtain⟨mA,⟨od,es,i,e,c⟩,r⟩:=x;exact⟨mA,⟨od,es,i,k _ _ (.inl rfl) e,c⟩,r⟩
 |rng lo hi=>obtain⟨t,u,v,e⟩:=x;exact⟨t,u,v,k _ _ (.inl rfl) e⟩
 |frz ob u K=>obtain⟨e,q⟩:=x;exact⟨k _ _ (.inl rfl) e,K q⟩
 |tbl ps=>
  rcases x with⟨A,q,t,B,c,o,vs,tk,F,σ,G⟩|⟨A,N,e,c⟩
  .cases F
   exact .inl ⟨A,q,t,B,_,o,vs,tk,rfl,k _ _ (.inl rfl) σ,G⟩
  .refine .inr ⟨A,N,k _ _ (.inl rfl) e,?_⟩
   rcases c with c|⟨c,q,t,m,B,j,E⟩
   .exact .inl c
   .exact .inr ⟨c,q,t,m,B,j,g _ _ trivial E⟩
 |met f y=>
  have e:=x;exact k a _ (.inl rfl) e
 |ext φ=>obtain⟨p,⟨o,e⟩,st⟩:=x;exact⟨st _ _ p λo q=>k _ _ (.inl rfl) q,⟨o,k _ _ (.inl rfl) e⟩,st⟩
theorem HOk.lt(x:HOk P w H h)(e:H a=some o):a<h.objs.size:=(x a o e).lt
theorem HOk.fresh(x:HOk P w H h)(e:h.objs.size<=a):H a=none:=by
 cases q:H a with
 |none=>rfl
 |some u=>exact absurd (zaF (x.lt q) e) (za3 _)
def HOk.kept(x:HOk P w H h)(k:∀b u,h.get? b=some u->h'.get? b=some u):HOk P w H h':=λa o e=>
 (x a o e).stay (λb u _ q=>k b u q) (λ_ q=>q) λ_ _ _ q=>q
theorem HOk.laid(x:HOk P w H h)(k:∀b u,h.get? b=some u->h'.get? b=some u)(g:h.objs.size<=a)(new:cu P w (upd H a o) h' a o):HOk P w (upd H a o) h':=λb u e=>by
 have hn:=x.fresh g
 by_cases hb:b=a
 .subst hb;rw[ak]at e;cases e;exact new
 .rw[aj hb]at e
  exact(x b u e).stay (λc v _ q=>k c v q) (λc q=>by rw[aj<|cS q hn];exact q) λc xs _ q=>by rw[aj<|cS q hn];exact q
end
def Rd(H:Hp)(a:Addr)(u:HO):Prop:=H a=some u\/∃o,H a=some (.frz o u)
theorem Rd.ok(r:Rd H a u)(x:HOk P w H h):cu P w H h a u:=by
 rcases r with r|⟨o,r⟩
 .exact x a u r
 .obtain⟨_,q⟩:=x a _ r
  exact q
def Mut:Option HO->Prop
 |some (.lst _)=>True
 |some (.dK _)=>True
 |some (.dT _)=>True
 |some (.set _ _)=>True
 |some (.ins _ _ _)=>True
 |some (.ext _)=>True
 |_=>False
section
variable{P:Program}{w:World}{H:Hp}{h h':Heap}{x e:Addr}{o':HO}
theorem HOk.write(ok:HOk P w H h)(g:Mut<|H x)(I:e=x\/H e=some (.own x))(k:∀b u,b≠e->h.get? b=some u->h'.get? b=some u)(l:∃u,h'.get? e=some u)
  (new:cu P w (upd H x o') h' x o'):HOk P w (upd H x o') h':=λb u q=>by
 have i:∀c y,H c=some (.own y)->c≠x:=λc y r z=>by subst z;rw[r]at g;exact g
 by_cases hb:b=x
 .subst hb;rw[ak]at q;cases q;exact new
 .rw[aj hb]at q
  by_cases a:b=e
  .have f:H b=some (.own x):=by
    rcases I with z|z
    .exact absurd (a.trans z) hb
    .rw[a];exact z
   rw[q]at f;cases f
   obtain⟨v,j⟩:=l;exact⟨v,by rw[a];exact j⟩
  .refine(ok b u q).stay (λc v d r=>k c v ?_ r) (λc r=>by rw[aj<|i c b r];exact r) λc v hk r=>by rw[aj λz=>by subst z;rw[r]at g;cases v<;>first|exact hk|exact g];exact r
   rcases d with rfl|d
   .exact a
   .rintro rfl
    rcases I with z|z
    .exact i c b d z
    .rw[d]at z;cases z;exact hb rfl
end
structure Un(fs ex:List Addr)(H H':Hp)(h h':Heap):Prop where
 keep:∀b o,h.get? b=some o->H b=none->b∉fs->b∉ex->h'.get? b=some o
 slot:∀b o,h.get? b=some o->H b=none->b∈fs->b∉ex->∃sl,h'.get? b=some {o with slots:=sl}
 free:∀b o,h.get? b=some o->H b=none->b∉ex->H' b=none
 there:∀b o,h.get? b=some o->b∉ex->∃o',h'.get? b=some o'
 tups:∀b xs,H b=some (.tup xs)->H' b=some (.tup xs)
 lK:∀b o u,H b=some (.frz o u)->H' b=some (.frz o u)
 la:∀b ps,H b=some (.tbl ps)->∃more,H' b=some (.tbl<|ps++more)
section
variable{fs fs' ex ex':List Addr}{H H1 H2:Hp}{h h1 h2 h':Heap}{a x e:Addr}{o:HO}
theorem Un.any(u:Un fs ex H H1 h h1)(q:h.get? b=some ob)(n:H b=none)(g:b∉ex):∃sl,h1.get? b=some {ob with slots:=sl}:=by
 by_cases hb:b∈fs
 .exact u.slot b ob q n hb g
 .exact⟨ob.slots,u.keep b ob q n hb g⟩
theorem Un.kept(k:∀b u,h.get? b=some u->h'.get? b=some u):Un fs ex H H h h' :=
 ⟨λb ob q _ _ _=>k b ob q,λb ob q _ _ _=>⟨ob.slots,k b ob q⟩,λ_ _ _ n _=>n,λb ob q _=>⟨ob,k b ob q⟩,λ_ _ q=>q,λ_ _ _ q=>q,λ_ ps q=>⟨#[],by rw[q];simp⟩⟩
def Un.refl:Un fs ex H H h h:=Un.kept λ_ _ q=>q
theorem Un.laid(k:∀b u,h.get? b=some u->h'.get? b=some u)(g:h.objs.size<=a)(hn:H a=none):Un fs ex H (upd H a o) h h' where
 keep:=λb u q _ _ _=>k b u q
 slot:=λb u q _ _ _=>⟨u.slots,k b u q⟩
 free:=λb u q n _=>by rw[aj<|zaS<|zaF (zaq q) g];exact n
 there:=λb u q _=>⟨u,k b u q⟩
 tups:=λb xs q=>by rw[aj<|cS q hn];exact q
 lK:=λb u xs q=>by rw[aj<|cS q hn];exact q
 la:=λb ps q=>⟨#[],by rw[aj<|cS q hn,q];simp⟩
theorem Un.write(g:Mut<|H x)(I:e=x\/H e=some (.own x))(k:∀b u,b≠e->h.get? b=some u->h'.get? b=some u)(l:∃u,h'.get? e=some u):Un fs ex H (upd H x o) h h':=by
 have d:∀b,H b=none->b≠x:=λb n z=>by subst z;rw[n]at g;exact g
 have hb:∀b,H b=none->b≠e:=λb n z=>by
  subst z;rcases I with r|r
  .exact d b n r
  .rw[n]at r;cases r
 have hm:∀b u,H b=some u->¬Mut (some u)->b≠x:=λb u q nm z=>by subst z;rw[q]at g;exact nm g
 refine⟨λb u q n _ _=>k b u (hb b n) q,λb u q n _ _=>⟨u.slots,k b u (hb b n) q⟩,λb u q n _=>by rw[aj<|d b n];exact n,λb u q _=>?_,
  λb xs q=>by rw[aj<|hm b _ q λz=>z];exact q,λb u xs q=>by rw[aj<|hm b _ q λz=>z];exact q,λb ps q=>⟨#[],by rw[aj<|hm b _ q λz=>z,q];simp⟩⟩
 by_cases c:b=e
 .subst c;exact l
 .exact⟨u,k b u c q⟩
end
def trk(h:Heap)(H:Hp):List Addr:=(List.range h.objs.size).filter λa=>(H a).isSome
def wb(h:Heap)(H:Hp):Heap:=PySem.W.hideAll h (trk h H)
def BQ(h:Heap)(H:Hp):(wb h H).objs.size=h.objs.size:=PySem.W.hideAll_size _ _
theorem DE(e:h.get? b=some o)(n:H b=none):(wb h H).get? b=some o :=
 PySem.W.hideAll_get _ e λhm=>by
  have q:=(List.mem_filter.mp hm).2;rw[n]at q;simp at q
theorem Hh(e:(wb h H).get? b=some o):h.get? b=some o/\H b=none:=by
 have a:=PySem.W.of_hideAll (trk h H) e;refine⟨a,?_⟩;cases q:H b with
 |none=>rfl
 |some x=>
  have hm:b∈trk h H:=List.mem_filter.mpr ⟨List.mem_range.mpr<|zaq a,by simp[q]⟩
  have z:(wb h H).get? b=none:=PySem.W.hideAll_none (trk h H) hm;rw[z]at e;cases e
def Hi(g h:Heap)(ρ:Addr):List (Addr×Obj):=(List.range h.objs.size).filterMap λa=>if a=ρ\/(g.get? a).isSome=true then none else(h.get? a).map λo=>(a,o)
def Z0(g h:Heap)(ρ d:Addr):List (Addr×Obj):=(Hi g h ρ).filter λp=>decide (p.1≠d)
noncomputable def tS:FuncBody->Option Pos
 | .stmts [_,.Return (some (.Call _ _ [⟨_,.Lambda _ _ _ e,_⟩] _)) _]=>some e
 |_=>none
def DF(fd:FuncData):Bool:=(tS fd.body).isSome
def wc(K:zag)(fd:FuncData):Option (Addr×Addr×Array Value):=match tS fd.body,fd.code with
 |some e,.ref c=>(match K.lookup c with
   |some ⟨_,_,.fields vs,_⟩=>(match(vs[11]?:Option Value)with
     |some (.ref P)=>some (c,P,#[rawInt e.line,rawInt e.col,.str (fd.qualname++".<locals>.<lambda>") 0])
     |_=>none)
   |_=>none)
 |_,_=>none
def yP(K:zag)(c P:Addr)(ps:Array Value):Bool:=PySem.W.codeHdIn K c P&&(K.lookup P).isNone&&(K.all λp=>match p.2.data with
 | .func fd=>!DF fd||wc K fd==some (c,P,ps)
 |_=>true)
def fq(K:zag):Option (Addr×Addr×Array Value):=match(K.findSome? λp=>match p.2.data with
  | .func fd=>wc K fd
  |_=>none)with
 |some (c,P,ps)=>if yP K c P ps then some (c,P,ps)else none
 |none=>none
structure Mod(K:zag)(mg:Str->Option Value)(base:Heap):Prop where
 kin:K.In base
 glob:base.Ns mainGlobals mg
 blt:∃mb,base.Ns builtinsNs mb/\∀x:Str,x≠"__name__"->mb x=bootBuiltins x
 nolimit:base.NoLimit
 bmain:∃bm ob,mg "__builtins__"=some (.ref bm)/\bm≠builtinsNs/\base.get? bm=some ob/\ob.cls=.type "module"/\ob.dict=some builtinsNs/\ob.data=.plain
structure Cx where
 prog:Program
 w:World
 K:zag
 mg:Str->Option Value
 base:Heap
 A:Around
 N:List Str
 s₀:Shared
 H₀:Hp
 env:Env
 outer:List Env
 stack:List Env
 ex:List Addr
 fn:Str->Bool
 calm:Bool
 pn:List (Addr×Obj)
 xe:Value->Shared->Prop
def frs(l:List Env):List Addr:=l.filterMap (·.frame)
abbrev Cx.fs(X:Cx):List Addr:=frs X.outer
def Vis(sc:Scope)(x:Str):Prop:=sc.names.lookup x=some .local\/sc.names.lookup x=some .cell\/sc.names.lookup x=some .free
def Loc(sc:Scope)(x:Str):Prop:=sc.names.lookup x=some .local\/sc.names.lookup x=some .cell
def Look(env:Env)(h:Heap)(m:Str->Option Value)(x:Str)(u:Value):Prop :=
 (env.kindOf x=some .local/\m x=some u)\/((env.kindOf x=some .cell\/env.kindOf x=some .free)/\∃c,env.cells.lookup x=some c/\h.IsCell c (some u))
structure Cx.Ok(X:Cx):Prop where
 mod:Mod X.K X.mg X.base
 kind:X.env.scope.kind=.function
 glob:X.env.globals=mainGlobals
 blt:X.env.builtins=builtinsNs
 above:X.s₀.heap.objs.size<=X.env.locals
 inj:∀x y c,X.env.cells.lookup x=some c->X.env.cells.lookup y=some c->x=y
 has:∀x,(X.env.kindOf x=some .cell\/X.env.kindOf x=some .free)->∃c,X.env.cells.lookup x=some c
 cab:∀x c,X.fn x=true->X.env.cells.lookup x=some c->X.s₀.heap.objs.size<=c
 hd:X.calm=true->X.A.handled=none
 frames:X.A.frames=some X.stack
 stk:X.stack=X.outer\/(X.stack=X.env::X.outer/\X.env.frame=some X.env.locals)
 exf:∀b∈X.ex,b≠X.env.locals/\∀x c,X.env.cells.lookup x=some c->c≠b
 bs:∀b o,X.base.get? b=some o->X.s₀.heap.get? b=some o/\X.H₀ b=none
 bsz:X.base.objs.size<=X.s₀.heap.objs.size
 DG:∀b o,X.base.get? b=some o->b∉X.ex
 DH:∀b∈X.ex,b∉X.fs
 o5:X.s₀.heap.FunFrames X.base X.outer
 frf:∀b∈X.fs,X.H₀ b=none
 tab:∀c T ps,fq X.K=some (c,T,ps)->∃more,X.H₀ T=some (.tbl<|ps++more)
structure Inv(X:Cx)(U0:List<|Addr×Obj)(J:List<|Option V)(H:Hp)(s:Shared):Prop where
 ok:X.Ok
 os:s.os=X.s₀.os
 bare:AllBare s.gens
 base:Un X.fs X.ex X.H₀ H X.s₀.heap s.heap
 loc:∃m,s.heap.Ns X.env.locals m/\∀(i:Nat) (x:Str) (v:V),X.N[i]?=some x->J[i]?=some (some v)->Vis X.env.scope x->∃u,RelV v u/\Look X.env s.heap m x u
 cell:∀x c,X.env.cells.lookup x=some c->∃v,s.heap.IsCell c v
 free:H X.env.locals=none
 ic:∀x c,X.env.cells.lookup x=some c->H c=none
 pin:∀p∈X.pn++U0,s.heap.get? p.1=some p.2/\H p.1=none/\p.1≠X.env.locals/\p.1∉X.fs/\∀v,p.2.data≠.cell v
 hok:HOk X.prog X.w H s.heap
 len : J.length=X.N.length
section
variable{X:Cx}{U0:List<|Addr×Obj}{J:List<|Option V}{H H':Hp}{s:Shared}{h':Heap}
theorem Cx.Ok.QN(ok:X.Ok)(e:X.base.get? b=some o):b∉X.fs:=λhb=>by
 have:=(ok.o5.mem hb).1;rw[e]at this;cases this
theorem Inv.bs(I:Inv X U0 J H s):∀b o,X.base.get? b=some o->s.heap.get? b=some o/\H b=none:=λb o e=>
 ⟨I.base.keep b o (I.ok.bs b o e).1 (I.ok.bs b o e).2 (I.ok.QN e) (I.ok.DG b o e),I.base.free b o (I.ok.bs b o e).1 (I.ok.bs b o e).2 (I.ok.DG b o e)⟩
theorem Inv.tab(I:Inv X U0 J H s):∀c T ps,fq X.K=some (c,T,ps)->∃more,H T=some (.tbl<|ps++more):=λc T ps e=>by
 obtain⟨m,h⟩:=I.ok.tab c T ps e;obtain⟨b,a⟩:=I.base.la T _ h;exact⟨m++b,by rw[a,Array.append_assoc]⟩
def Inv.bk(I:Inv X U0 J H s):∀b o,X.base.get? b=some o->s.heap.get? b=some o:=λb o e=>(I.bs b o e).1
theorem Inv.mod(I:Inv X U0 J H s):Mod X.K X.mg X.base:=I.ok.mod
def Inv.kIn(I:Inv X U0 J H s):X.K.In s.heap:=I.ok.mod.kin.keeps I.bk
theorem Inv.nolimit(I:Inv X U0 J H s):s.heap.NoLimit:=I.ok.mod.nolimit.keeps I.bk
theorem Inv.lt(I:Inv X U0 J H s):X.env.locals<s.heap.objs.size:=let⟨_,hn,_⟩:=I.loc;hn.lt
def Inv.sz(I:Inv X U0 J H s):X.s₀.heap.objs.size<=s.heap.objs.size:=zaX I.ok.above (Nat.le_of_lt I.lt)
theorem Inv.QO(I:Inv X U0 J H s){a:Addr}(h:s.heap.objs.size<=a):a∉X.fs:=λhb=>by
 obtain⟨_,o,ho,_⟩:=I.ok.o5.mem hb;exact absurd (zaF (zaq ho)<|zaX I.sz h) (za3 _)
theorem Inv.cne(I:Inv X U0 J H s):∀x c,X.env.cells.lookup x=some c->c≠X.env.locals:=λx c e z=>by
 obtain⟨v,o,ho,hd⟩:=I.cell x c e;obtain⟨m,⟨o',es,d,b,a,_⟩,_⟩:=I.loc;rw[z,b]at ho;cases ho;rw[a]at hd;cases hd
theorem Inv.o5(I:Inv X U0 J H s):s.heap.FunFrames X.base X.outer:=by
 have all:∀(l:List Env),(∀b∈frs l,b∈X.fs)->X.s₀.heap.FunFrames X.base l->s.heap.FunFrames X.base l:=by
  intro l
  induction l with
  |nil=>intro _ _;trivial
  |cons env r h=>
   intro hs d;obtain⟨hk,⟨ρ,o,c,hn,ho,hd⟩,f⟩:=d;have a:=hs ρ (by unfold frs;rw[List.filterMap_cons,c];exact zas)
   obtain⟨sl,e⟩:=I.base.slot ρ o ho (I.ok.frf ρ a) a λz=>I.ok.DH ρ z a
   exact⟨hk,⟨ρ,_,c,hn,e,hd⟩,h (λb hb=>hs b (by unfold frs;rw[List.filterMap_cons,c];exact zak _ hb)) f⟩
 exact all X.outer (λ_ hb=>hb) I.ok.o5
theorem Inv.stack(I:Inv X U0 J H s):s.heap.FunFrames X.base X.stack:=by
 rcases I.ok.stk with e|⟨e,a⟩
 .rw[e];exact I.o5
 .rw[e]
  obtain⟨m,hn,_⟩:=I.loc;refine .cons (by rw[I.ok.kind];decide) a hn ?_ I.o5
  exact Heap.get?_none_of_le (zaX I.ok.bsz I.ok.above)
theorem Inv.yQ(I:Inv X U0 J H s):∀b∈frs X.stack,b∈X.env.locals::X.fs:=λb hb=>by
 rcases I.ok.stk with e|⟨e,a⟩
 .rw[e]at hb;exact zak _ hb
 .rw[e]at hb
  unfold frs at hb;rw[List.filterMap_cons,a]at hb;exact hb
theorem Inv.tT(I:Inv X U0 J H s):∀b∈frs X.stack,H b=none:=λb hb=>by
 rcases zaf (I.yQ b hb)with e|hb
 .rw[e];exact I.free
 .obtain⟨_,o,ho,_⟩:=I.ok.o5.mem hb
  exact I.base.free b o ho (I.ok.frf b hb) λz=>I.ok.DH b z hb
theorem Inv.step{ch:List Addr}(I:Inv X U0 J H s)
  (g:∀b∈ch,(b∈X.ex\/X.s₀.heap.objs.size<=b)/\b≠X.env.locals/\(∀x c,X.env.cells.lookup x=some c->c≠b)/\∀p∈X.pn++U0,p.1≠b)
  (keep:∀b o,b≠X.env.locals->b∉X.fs->b∉ch->s.heap.get? b=some o->H b=none->h'.get? b=some o)
  (slot:∀b o,b≠X.env.locals->b∈X.fs->b∉ch->s.heap.get? b=some o->H b=none->∃sl,h'.get? b=some {o with slots:=sl}) (free:∀b o,b∉ch->s.heap.get? b=some o->H b=none->H' b=none)
  (there:∀b o,b∉ch->s.heap.get? b=some o->∃o',h'.get? b=some o')
  (tups:∀b xs,H b=some (.tup xs)->H' b=some (.tup xs)) (lK:∀b o u,H b=some (.frz o u)->H' b=some (.frz o u)) (la:∀b ps,H b=some (.tbl ps)->∃more,H' b=some (.tbl<|ps++more))
  (ns:∀m,s.heap.Ns X.env.locals m->h'.Ns X.env.locals m) (hok:HOk X.prog X.w H' h') (M:AllBare g') :
  Inv X U0 J H' {s with heap:=h',gens:=g',drawn:=d',toks:=O}:=by
 have A:∀b o,X.s₀.heap.get? b=some o->b≠X.env.locals:=λb o e=>zaS (zaF (zaq e) I.ok.above)
 have t:∀b o,X.s₀.heap.get? b=some o->b∉X.ex->b∉ch:=λb o e a hb=>by
  rcases(g b hb).1 with z|z
  .exact a z
  .exact absurd (zaF (zaq e) z) (za3 _)
 have f:∀x c,X.env.cells.lookup x=some c->∀v,s.heap.IsCell c v->h'.IsCell c v:=λx c e v ⟨o,ho,hd⟩=>by
  have h:=λz=>(g c z).2.2.1 x c e rfl
  by_cases C:c∈X.fs
  .obtain⟨sl,q⟩:=slot c o (I.cne x c e) C h ho (I.ic x c e)
   exact⟨_,q,hd⟩
  .exact⟨o,keep c o (I.cne x c e) C h ho<|I.ic x c e,hd⟩
 refine⟨I.ok,I.os,M,⟨λb o e n hb a=>?_,λb o e n hb a=>?_,λb o e n a=>?_,λb o e a=>?_,λb xs e=>tups b xs<|I.base.tups b xs e,λb o xs e=>lK b o xs<|I.base.lK b o xs e,λb ps e=>?_⟩,?_,λx c e=>?_,?_,λx c e=>?_,λp D=>?_,hok,I.len⟩
 .exact keep b o (A b o e) hb (t b o e a) (I.base.keep b o e n hb a) (I.base.free b o e n a)
 .obtain⟨sl,j⟩:=I.base.slot b o e n hb a
  obtain⟨B,y⟩:=slot b _ (A b o e) hb (t b o e a) j (I.base.free b o e n a);exact⟨B,y⟩
 .obtain⟨o',j⟩:=I.base.there b o e a
  exact free b o' (t b o e a) j (I.base.free b o e n a)
 .obtain⟨o',j⟩:=I.base.there b o e a
  exact there b o' (t b o e a) j
 .obtain⟨G,j⟩:=I.base.la b ps e
  obtain⟨σ,y⟩:=la b _ j;exact⟨G++σ,by rw[y,Array.append_assoc]⟩
 .obtain⟨m,hn,F⟩:=I.loc
  refine⟨m,ns m hn,λi x v j y E=>?_⟩
  obtain⟨u,r,l⟩:=F i x v j y E;refine⟨u,r,?_⟩;rcases l with l|⟨k,c,e,z⟩
  .exact .inl l
  .exact .inr ⟨k,c,e,f x c e _ z⟩
 .obtain⟨v,z⟩:=I.cell x c e
  exact⟨v,f x c e v z⟩
 .obtain⟨m,⟨o,_,_,ho,_⟩,_⟩:=I.loc
  exact free _ o (λz=>(g _ z).2.1 rfl) ho I.free
 .obtain⟨v,o,ho,hd⟩:=I.cell x c e
  exact free c o (λz=>(g c z).2.2.1 x c e rfl) ho (I.ic x c e)
 .obtain⟨e,n,ne,nf,d⟩:=I.pin p D
  have h:=λz=>(g p.1 z).2.2.2 p D rfl
  exact⟨keep p.1 p.2 ne nf h e n,free p.1 p.2 h e n,ne,nf,d⟩
theorem Inv.un(I:Inv X U0 J H s)(u:Un X.fs [] H H' s.heap h')(hok:HOk X.prog X.w H' h'):Inv X U0 J H' {s with heap:=h',toks:=g}:=by
 obtain⟨m,⟨o,es,i,ho,r⟩,_⟩:=id I.loc;obtain⟨sl,f⟩:=u.any ho I.free (by simp)
 exact I.step (ch:=[]) (λ_ z=>nomatch z) (λb o _ hb _ e n=>u.keep b o e n hb (by simp)) (λb o _ hb _ e n=>u.slot b o e n hb (by simp)) (λb o _ e n=>u.free b o e n (by simp)) (λb o _ e=>u.there b o e (by simp)) u.tups u.lK u.la (λj hm=>by
  obtain⟨o',d,c,a,h⟩:=hm;rw[ho]at a;cases a
  exact⟨_,d,c,f,h⟩) hok I.bare
theorem Inv.call(I:Inv X U0 J H s)(u:Un (frs X.stack) ch H H' s.heap h')(hok:HOk X.prog X.w H' h')(M:AllBare l)
  (g:∀b∈ch,(b∈X.ex\/X.s₀.heap.objs.size<=b)/\b≠X.env.locals/\(∀x c,X.env.cells.lookup x=some c->c≠b)/\∀p∈X.pn++U0,p.1≠b) :
  Inv X U0 J H' {s with heap:=h',gens:=l,drawn:=O,toks:=U}:=by
 obtain⟨m,⟨o,es,q,ho,r⟩,_⟩:=id I.loc;obtain⟨sl,j⟩:=u.any ho I.free λz=>(g _ z).2.1 rfl
 exact I.step g (λb o j hb a e n=>u.keep b o e n (λz=>(zaf<|I.yQ b z).elim j hb) a) (λb o _ _ a e n=>u.any e n a) (λb o a e n=>u.free b o e n a) (λb o a e=>u.there b o e a) u.tups u.lK u.la (λt hm=>by
  obtain⟨o',i,h,d,k⟩:=hm;rw[ho]at d;cases d
  exact⟨_,i,h,j,k⟩) hok M
theorem Inv.turned(I:Inv X U0 J H s)(k:∀b o,b≠it->s.heap.get? b=some o->h'.get? b=some o)(hn:H it=none)(g:it≠X.env.locals)
  (l:it∈X.ex\/X.s₀.heap.objs.size<=it) (M:∀x c,X.env.cells.lookup x=some c->c≠it) (h3:∀p∈X.pn++U0,p.1≠it):Inv X U0 J H {s with heap:=h',toks:=O}:=by
 have d:∀b u,H b=some u->b≠it:=λb u e z=>by rw[z,hn]at e;cases e
 refine I.step (ch:=[it]) (λb hb=>?_) (λb o _ _ a e _=>k b o (λz=>a (by simp[z])) e) (λb o _ _ a e _=>⟨o.slots,k b o (λz=>a (by simp[z])) e⟩) (λ_ _ _ _ n=>n)
  (λb o a e=>⟨o,k b o (λz=>a (by simp[z])) e⟩) (λ_ _ e=>e) (λ_ _ _ e=>e) (λb ps e=>⟨#[],by rw[e];simp⟩) (λm hm=>?_) (λb u e=>?_) I.bare
 .have e:b=it:=by simpa using hb
  subst e;exact⟨l,g,M,h3⟩
 .obtain⟨o,es,f,ho,r⟩:=hm
  exact⟨o,es,f,k _ o (Ne.symm g) ho,r⟩
 .refine(I.hok b u e).stay (λc v a q=>k c v ?_ q) (λ_ q=>q) λ_ _ _ q=>q
  rcases a with z|z
  .rw[z];exact d b u e
  .exact d c _ z
def Inv.tok(I:Inv X U0 J H s)(t:Nat):Inv X U0 J H {s with toks:=t}:=I.un Un.refl I.hok
theorem Inv.kept(I:Inv X U0 J H s)(k:∀b u,s.heap.get? b=some u->h'.get? b=some u):Inv X U0 J H {s with heap:=h',toks:=t'}:=I.un (Un.kept k) (I.hok.kept k)
theorem Inv.laid{a:Addr}(I:Inv X U0 J H s)(k:∀b u,s.heap.get? b=some u->h'.get? b=some u)(g:s.heap.objs.size<=a)(new:cu X.prog X.w (upd H a o) h' a o) :
  Inv X U0 J (upd H a o) {s with heap:=h',toks:=l}:=I.un (Un.laid k g<|I.hok.fresh g) (I.hok.laid k g new)
theorem Inv.write(I:Inv X U0 J H s)(M:Mut<|H x)(l:e=x\/H e=some (.own x))(k:∀b u,b≠e->s.heap.get? b=some u->h'.get? b=some u)(g:∃u,h'.get? e=some u)
  (new:cu X.prog X.w (upd H x o) h' x o):Inv X U0 J (upd H x o) {s with heap:=h',toks:=O}:=I.un (Un.write M l k g) (I.hok.write M l k g new)
def Inv.Ay(I:Inv X U0 J H s)(h:∀p∈g,s.heap.get? p.1=some p.2/\H p.1=none/\p.1≠X.env.locals/\p.1∉X.fs/\∀v,p.2.data≠.cell v):Inv X g J H s :=
 ⟨I.ok,I.os,I.bare,I.base,I.loc,I.cell,I.free,I.ic,λp a=>(zae a).elim (λz=>I.pin p<|zaW _ z)<|h p,I.hok,I.len⟩
theorem wd{N:List Str}(g:N.Nodup){i j:Nat}(a:N[i]?=some x)(b:N[j]?=some x):i=j:=by
 obtain⟨e,c⟩:=zac a;obtain⟨f,d⟩:=zac b;exact(List.getElem_inj g).mp (c.trans d.symm)
theorem BR(I:Inv X U0 J H s)(hN:X.N.Nodup)(hi:X.N[i]?=some x)(g:Loc X.env.scope x)(r:RelV v u)
  (h:∀s',Inv X U0 (J.set i<|some v) H s'->(∃a,Heap.SameBut a s.heap s'.heap/\(a=X.env.locals\/X.env.cells.lookup x=some a))->Q () s') (hf:X.fn x=true\/X.env.scope.names.lookup x=some .local:=by first|exact .inl rfl|exact .inr rfl|assumption):wpAny M A (storeName X.env x u) Q E s:=by
 obtain⟨m,hn,hl⟩:=id I.loc;have P:(X.env.scope.kind== .class||(X.env.scope.kind== .module&&X.env.locals !=X.env.globals))=false:=by rw[I.ok.kind];rfl
 have F:i<J.length:=by rw[I.len];exact(zac hi).1
 have cne:=I.cne;have t:∀{a:Addr} {h':Heap},(∃o,s.heap.get? a=some o/\H a=none)->Heap.SameBut a s.heap h'->HOk X.prog X.w H h':=fun{a h'} ha hs b ob e=>by
  obtain⟨_,_,C⟩:=ha;refine(I.hok b ob e).stay (λc S B q=>(hs.2 c ?_).trans q) (λ_ q=>q) λ_ _ _ q=>q
  rintro rfl
  rcases B with rfl|B
  .rw[C]at e;cases e
  .rw[C]at B;cases B
 rcases g with hk|hk
 .refine wpAny_storeName_local hk hn (λh' W hs=>?_) P
  obtain⟨oL,_,_,Z,_⟩:=id hn;refine h _ ⟨I.ok,I.os,I.bare,⟨λb o e n hb g=>?_,λb o e n hb g=>?_,I.base.free,λb o e g=>?_,I.base.tups,I.base.lK,I.base.la⟩,⟨_,W,λj y Y f D T=>?_⟩,λy c e=>?_,I.free,I.ic,λp l=>?_,t ⟨oL,Z,I.free⟩ hs,by simpa using I.len⟩ ⟨_,hs,.inl rfl⟩
  .exact(hs.2 b<|zaS<|zaF (zaq e) I.ok.above).trans (I.base.keep b o e n hb g)
  .obtain⟨sl,f⟩:=I.base.slot b o e n hb g
   exact⟨sl,(hs.2 b<|zaS<|zaF (zaq e) I.ok.above).trans f⟩
  .obtain⟨o',f⟩:=I.base.there b o e g
   exact⟨o',(hs.2 b<|zaS<|zaF (zaq e) I.ok.above).trans f⟩
  .by_cases σ:j=i
   .subst σ
    rw[hi]at f;cases f
    rw[zav F]at D;cases D;exact⟨u,r,.inl ⟨hk,by simp⟩⟩
   .rw[zaA<|Ne.symm σ]at D
    obtain⟨U,O,q⟩:=hl j y Y f D T;refine⟨U,O,?_⟩;rcases q with⟨k,e⟩|⟨k,c,e,z⟩
    .refine .inl ⟨k,?_⟩
     have:y≠x:=λe=>σ (wd hN f<|e▸hi)
     simp[this,e]
    .exact .inr ⟨k,c,e,z.sameBut hs<|cne y c e⟩
  .obtain⟨S,z⟩:=I.cell y c e
   exact⟨S,z.sameBut hs<|cne y c e⟩
  .obtain⟨e,n,ne,nf,d⟩:=I.pin p l
   exact⟨(hs.2 p.1 ne).trans e,n,ne,nf,d⟩
 .have G:X.fn x=true:=by
   rcases hf with z|z
   .exact z
   .rw[z]at hk;cases hk
  obtain⟨c,B⟩:=I.ok.has x (.inl hk);obtain⟨S,z⟩:=I.cell x c B;refine wpAny_storeName_cell I.ok.kind hk B z (λh' K hs=>?_)
  obtain⟨oc,R,QP⟩:=id z;refine h {s with heap:=h'} ⟨I.ok,I.os,I.bare,⟨λb o e n hb g=>?_,λb o e n hb g=>?_,I.base.free,λb o e g=>?_,I.base.tups,I.base.lK,I.base.la⟩,⟨m,hn.sameBut hs<|Ne.symm<|cne x c B,λj y Y f D T=>?_⟩,λy c' e=>?_,I.free,I.ic,λp l=>?_,t ⟨oc,R,I.ic x c B⟩ hs,by simpa using I.len⟩ ⟨c,hs,.inr B⟩
  .exact(hs.2 b<|zaS<|zaF (zaq e)<|I.ok.cab x c G B).trans (I.base.keep b o e n hb g)
  .obtain⟨sl,f⟩:=I.base.slot b o e n hb g
   exact⟨sl,(hs.2 b<|zaS<|zaF (zaq e)<|I.ok.cab x c G B).trans f⟩
  .obtain⟨o',f⟩:=I.base.there b o e g
   exact⟨o',(hs.2 b<|zaS<|zaF (zaq e)<|I.ok.cab x c G B).trans f⟩
  .by_cases σ:j=i
   .subst σ
    rw[hi]at f;cases f
    rw[zav F]at D;cases D;exact⟨u,r,.inr ⟨.inl hk,c,B,K⟩⟩
   .rw[zaA<|Ne.symm σ]at D
    obtain⟨U,O,q⟩:=hl j y Y f D T;refine⟨U,O,?_⟩;rcases q with q|⟨k,c',e,z'⟩
    .exact .inl q
    .refine .inr ⟨k,c',e,z'.sameBut hs ?_⟩
     rintro rfl
     exact σ (wd hN f<|I.ok.inj _ _ _ e B▸hi)
  .by_cases ρ:c'=c
   .subst ρ;exact⟨_,K⟩
   .obtain⟨w2,z2⟩:=I.cell y c' e
    exact⟨w2,z2.sameBut hs ρ⟩
  .obtain⟨e,n,ne,nf,d⟩:=I.pin p l
   refine⟨(hs.2 p.1 ?_).trans e,n,ne,nf,d⟩;intro q;rw[q,R]at e;have q':=zaQ e;exact d S (by rw[<-q'];exact QP)
theorem jI(I:Inv X U0 J H s)(g:X.N.Nodup)(hi:X.N[i]?=some x)(O:Loc X.env.scope x)(r:RelV v u)
  (h:∀s',Inv X U0 (J.set i<|some v) H s'->Q () s') (l:X.fn x=true\/X.env.scope.names.lookup x=some .local:=by first|exact .inl rfl|exact .inr rfl|assumption):wpAny M A (storeName X.env x u) Q E s :=
 BR I g hi O r (λs' a _=>h s' a) l
theorem Inv.call'(I:Inv X U0 J H s)(ho:s'.os=s.os)(u:Un (frs X.stack) l H H' s.heap s'.heap)(hok:HOk X.prog X.w H' s'.heap)(M:AllBare s'.gens)
  (g:∀b∈l,(b∈X.ex\/X.s₀.heap.objs.size<=b)/\b≠X.env.locals/\(∀x c,X.env.cells.lookup x=some c->c≠b)/\∀p∈X.pn++U0,p.1≠b):Inv X U0 J H' s':=by
 obtain⟨h',d,a,f,o'⟩:=s';have e:=ho;subst e;exact I.call u hok M g
end
abbrev XK:=Value->Option Addr->Hp->Prop
abbrev St:=List (Option V)
abbrev VK:=V->Hp->Prop
abbrev TE:=St->Hp->VK->Prop
abbrev TT:=St->Hp->(Bool->Hp->Prop)->Prop
abbrev TA:=St->Hp->(List V->Hp->Prop)->Prop
structure Ends where
 nx:St->Hp->Prop
 rt:VK
 bk:St->Hp->Prop:=λ_ _=>False
 ct:St->Hp->Prop:=λ_ _=>False
abbrev TS:=Ends->St->Hp->Prop
def EP(X:Cx)(U0:List<|Addr×Obj)(J:St)(Q:VK)(u:Value)(s':Shared):Prop:=∃v H',Inv X U0 J H' s'/\RelV v u/\Q v H'
def TP(X:Cx)(U0:List<|Addr×Obj)(J:St)(Q:Bool->Hp->Prop)(b:Bool)(s':Shared):Prop:=∃H',Inv X U0 J H' s'/\Q b H'
def AP(X:Cx)(U0:List<|Addr×Obj)(J:St)(Q:List V->Hp->Prop)(us:List Value)(s':Shared):Prop:=∃vs H',Inv X U0 J H' s'/\Vals vs us/\Q vs H'
def SP(X:Cx)(U0:List<|Addr×Obj)(D:Ends)(f:Flow)(s':Shared):Prop :=
 match f with
 | .next=>∃e H',Inv X U0 e H' s'/\D.nx e H'
 | .brk=>∃e H',Inv X U0 e H' s'/\D.bk e H'
 | .cont=>∃e H',Inv X U0 e H' s'/\D.ct e H'
 | .ret u=>∃v e H',Inv X U0 e H' s'/\RelV v u/\D.rt v H'
def PE(X:Cx)(e:Expr)(t:TE):Prop :=
 ∀(U0:List<|Addr×Obj) (s:Shared) (J:St) (H:Hp) (Q:VK),Inv X U0 J H s->t J H Q->wpAny (model X.prog X.w) X.A (eval e X.env) (EP X U0 J Q) X.xe s
def PT(X:Cx)(e:Expr)(t:TT):Prop :=
 ∀(U0:List<|Addr×Obj) (s:Shared) (J:St) (H:Hp) (Q:Bool->Hp->Prop),Inv X U0 J H s->t J H Q->wpAny (model X.prog X.w) X.A (isTrue e X.env<|eval e X.env) (TP X U0 J Q) X.xe s
def PW(X:Cx)(e:Expr)(t:TT):Prop :=
 ∀(h:Sem Value) (U0:List<|Addr×Obj) (s:Shared) (J:St) (H:Hp) (Q:Bool->Hp->Prop),Inv X U0 J H s->t J H Q->wpAny (model X.prog X.w) X.A (isTrue e X.env h) (TP X U0 J Q) X.xe s
def PW.pt(h:PW X e t):PT X e t:=h _
def PA(X:Cx)(es:List Expr)(t:TA):Prop :=
 ∀(pos:Pos) (U0:List<|Addr×Obj) (s:Shared) (J:St) (H:Hp) (Q:List V->Hp->Prop),Inv X U0 J H s->t J H Q->wpAny (model X.prog X.w) X.A (spliced<|backTo pos<|starEach es X.env) (AP X U0 J Q) X.xe s
def PS(X:Cx)(st:Stmt)(t:TS):Prop :=
 ∀(U0:List<|Addr×Obj) (s:Shared) (J:St) (H:Hp) (D:Ends),Inv X U0 J H s->t D J H->wpAny (model X.prog X.w) X.A (exec st X.env) (SP X U0 D) X.xe s
def PSs(X:Cx)(st:List Stmt)(t:TS):Prop :=
 ∀(U0:List<|Addr×Obj) (s:Shared) (J:St) (H:Hp) (D:Ends),Inv X U0 J H s->t D J H->wpAny (model X.prog X.w) X.A (execs st X.env) (SP X U0 D) X.xe s
def thn(h:wpAny M A t Q E s)(l:∀a s,Q a s->g a s):wpAny M A t g E s:=za6 h l λ_ _ x=>x
section
variable{X:Cx}
def lg(i:Nat):TE:=λJ H Q=>∃v,J[i]?=some (some v)/\Q v H
def tC(v:V):TE:=λ_ H Q=>Q v H
theorem LU{pos:Pos}(M:X.N[i]?=some x)(O:Vis X.env.scope x)(hd:(x==("__debug__":Str))=false:=by decide)(g:(x==("__classdict__":Str))=false:=by decide):PE X (.Name x pos) (lg i):=by
 intro U0 s J H Q I h;obtain⟨v,e,h⟩:=h;obtain⟨m,hn,f⟩:=I.loc;obtain⟨u,r,l⟩:=f i x v M e O;have b:EP X U0 J Q u s:=⟨v,H,I,r,h⟩;rcases l with⟨hk,hm⟩|⟨hk,c,d,a⟩
 .exact wpAny_Name (wpAny_loadName_local I.ok.kind hk hn hm b) hd
 .rcases hk with hk|hk
  .exact wpAny_Name (wpAny_loadName_cell I.ok.kind hk d a b) hd
  .exact wpAny_Name (wpAny_loadName_free I.ok.kind hk d a b g) hd
def yR:PE X (.Constant (.int i) j pos) (tC<|.int i):=λ_ _ _ H _ I h=>wpAny_Constant_int ⟨.int i,H,I.tok _,⟨_,rfl⟩,h⟩
def OR:PE X (.Constant (.bool b) j pos) (tC<|.bl b):=λ_ _ _ H _ I h=>Constant_bool ⟨.bl b,H,I,rfl,h⟩
def LV:PE X (.Constant .none j pos) (tC .non):=λ_ _ _ H _ I h=>Constant_none ⟨.non,H,I,rfl,h⟩
def LW:PE X (.Constant (.str x) j pos) (tC<|.str x):=λ_ _ _ H _ I h=>Calls.Constant_str ⟨.str x,H,I.tok _,⟨_,rfl⟩,h⟩
def Gl(X:Cx)(x:Str):Prop:=X.env.kindOf x=some .globalImplicit
theorem Hj{J:St}{H:Hp}{x:Str}{u:Value}{pos:Pos}{Q:Value->Shared->Prop}(I:Inv X U0 J H s)(g:Gl X x)(hm:X.mg x=some u)(h:Q u s)
  (hd:(x==("__debug__":Str))=false:=by decide):wpAny (model X.prog X.w) X.A (eval (.Name x pos) X.env) Q E s :=
 Calls.Name_function_global I.ok.kind g (Calls.loadGlobal_global (by rw[I.ok.glob];exact I.mod.glob.keeps I.bk) hm h) hd
theorem gX{E:Value->Shared->Prop}{J:St}{H:Hp}{x:Str}{u:Value}{pos:Pos}{Q:Value->Shared->Prop}(I:Inv X U0 J H s)(g:Gl X x)(hm:X.mg x=none)(l:bootBuiltins x=some u)(h:Q u s)
  (hn:x≠"__name__":=by decide) (hd:(x==("__debug__":Str))=false:=by decide):wpAny (model X.prog X.w) X.A (eval (.Name x pos) X.env) Q E s:=by
 obtain⟨mb,a,b⟩:=I.mod.blt;exact Calls.Name_function_global I.ok.kind g (Calls.loadGlobal_builtin (by rw[I.ok.glob];exact I.mod.glob.keeps I.bk) hm (by rw[I.ok.blt];exact a.keeps I.bk) ((b x hn).trans l) h) hd
theorem Hk{pos:Pos}(g:Gl X x)(hm:X.mg x=none)(l:bootBuiltins x=some u)(r:RelV v u)(hn:x≠"__name__":=by decide)(hd:(x==("__debug__":Str))=false:=by decide):PE X (.Name x pos) (tC v) :=
 λ_ _ _ H _ I h=>gX I g hm l ⟨v,H,I,r,h⟩ hn hd
variable{a b:Expr}{ta tb:TE}{pos:Pos}
def PC(X:Cx)(op:CmpOp)(a b:Expr)(t:TE):Prop :=
 ∀(U0:List<|Addr×Obj) (s:Shared) (J:St) (H:Hp) (Q:VK),Inv X U0 J H s->t J H Q->
  wpAny (model X.prog X.w) X.A (eval a X.env) (λv e=>wpAny (model X.prog X.w) X.A (eval b X.env) (λu h=>wpAny (model X.prog X.w) X.A (compareOp op v u) (EP X U0 J Q) X.xe h) X.xe e) X.xe s
def tB(t:TE):TT:=λJ H Q=>t J H λx e=>∃c,x=.bl c/\Q c e
theorem LX(h:PC X l a b t)(g:behindInMarks l b=false:=by first|exact M _ (by decide) (by decide)|rfl):PT X (.Compare a [l] [b] pos) (tB t):=by
 intro U0 s J H Q I j;refine wpAny_isTrue_Compare1 (thn (h U0 s J H _ I j) λv s1 g=>thn g λu s2 i=>thn i λc n ⟨x,e,f,m,k⟩=>?_) g
 obtain⟨d,rfl,q⟩:=k;cases m;exact wpAny_truthy_bool ⟨e,f,q⟩
theorem LY(h:PE X e t)(l:∀g,isTrue e X.env g=(do let v<-g;standAt e.pos;holding [v] (truthy v)):=by intro _;rfl):PT X e (tB t):=by
 intro U0 s J H Q I i;refine isTrue_plain (thn (h U0 s J H _ I i) λv s1 ⟨x,c,f,k,j⟩=>?_) (l _)
 obtain⟨d,rfl,q⟩:=j;cases k;exact wpAny_truthy_bool ⟨c,f,q⟩
variable{tA tB':TT}{Z0:List Expr}
def OT(t u:TT):TT:=λJ H Q=>t J H λc e=>if c=true then u J e Q else Q false e
def tOr(t u:TT):TT:=λJ H Q=>t J H λc e=>if c=true then Q true e else u J e Q
def OU(t:TT):TT:=λJ H Q=>t J H λc e=>Q (!c) e
theorem Hl(ha:PT X a tA):PW X (.BoolOp .And [a] pos) tA:=by
 intro d U0 s J H Q I h;refine isTrue_and (thn (ha U0 s J H Q I h) λc s1 e=>?_)
 cases c with
 |true=>exact isTrue_and_nil e
 |false=>exact e
theorem LZ(ha:PT X a tA):PW X (.BoolOp .Or [a] pos) tA:=by
 intro d U0 s J H Q I h;refine isTrue_or (thn (ha U0 s J H Q I h) λc s1 e=>?_)
 cases c with
 |false=>exact isTrue_or_nil e
 |true=>exact e
theorem L0(ha:PT X a tA)(hb:PW X (.BoolOp .And (b::Z0) pos) tB'):PW X (.BoolOp .And (a::b::Z0) pos) (OT tA tB'):=by
 intro i U0 s J H Q I h;refine isTrue_and (thn (ha U0 s J H _ I h) λc s1 ⟨d,e,f⟩=>?_)
 cases c with
 |true=>exact hb i U0 s1 J d Q e f
 |false=>exact⟨d,e,f⟩
theorem OV(ha:PT X a tA)(hb:PW X (.BoolOp .Or (b::Z0) pos) tB'):PW X (.BoolOp .Or (a::b::Z0) pos) (tOr tA tB'):=by
 intro i U0 s J H Q I h;refine isTrue_or (thn (ha U0 s J H _ I h) λc s1 ⟨d,e,f⟩=>?_)
 cases c with
 |true=>exact⟨d,e,f⟩
 |false=>exact hb i U0 s1 J d Q e f
theorem L1(ha:PT X a tA):PT X (.UnaryOp .Not a pos) (OU tA):=by
 intro U0 s J H Q I h;exact isTrue_not (ha U0 s J H (λc d=>Q (!c) d) I h)
def K3(ta tb:TE):TE:=λJ H Q=>ta J H λx e=>∃c,x=.bl c/\if c=true then tb J e Q else Q (.bl false) e
def L3(h:PE X a t):PE X (.BoolOp g [a] pos) t:=λU0 s J H Q I c=>BoolOp_one (h U0 s J H Q I c)
theorem L4(ha:PE X a ta)(hb:PE X (.BoolOp .And (b::Z0) pos) tb):PE X (.BoolOp .And (a::b::Z0) pos) (K3 ta tb):=by
 intro U0 s J H Q I h;refine BoolOp_and (thn (ha U0 s J H _ I h) λv s1 ⟨x,e,f,i,d⟩=>?_)
 obtain⟨c,rfl,d⟩:=d;cases i;refine wpAny_truthy_bool ?_;cases c with
 |true=>exact hb U0 s1 J e Q f d
 |false=>exact⟨.bl false,e,f,rfl,d⟩
def tIf(t:TT)(ta tb:TE):TE:=λJ H Q=>t J H λc e=>if c=true then ta J e Q else tb J e Q
theorem DI(g:PT X c tA)(ha:PE X a ta)(hb:PE X b tb):PE X (.IfExp c a b pos) (tIf tA ta tb):=by
 intro U0 s J H Q I h;refine wpAny_IfExp (thn (g U0 s J H _ I h) λd s1 ⟨e,f,i⟩=>?_)
 cases d with
 |true=>exact ha U0 s1 J e Q f i
 |false=>exact hb U0 s1 J e Q f i
end
def SqL(K:zag)(H:Hp)(a:Addr)(xs:List V):Prop :=
 Rd H a (.lst xs)\/
  ∃(o:Obj) (e:Array Value) (n:Nat),K.lookup a=some o/\o.cls=.type "list"/\o.dict=none/\o.data=.seq e n/\e.size<=sizeLine/\Vals xs e.toList
def SqT(K:zag)(H:Hp)(a:Addr)(xs:List V):Prop :=
 Rd H a (.tup xs)\/
  ∃(o:Obj) (e:Array Value) (n:Nat),K.lookup a=some o/\o.cls=.type "tuple"/\o.data=.seq e n/\e.size<=sizeLine/\Vals xs e.toList
noncomputable def QQ:Value->Option V
 | .none=>some .non
 | .bool b=>some (.bl b)
 | .int i _=>some (.int i)
 | .str x _=>some (.str x)
 | .bytes b _=>some (.byt b)
 | .float b _=>some (.flt b)
 | .ref a=>some (.ref a)
 | .type n=>some (.ty n)
 |_=>none
theorem RelV.abs(r:RelV x u):QQ u=some x:=by
 cases x with
 |non=>cases r;rfl
 |bl _=>cases r;rfl
 |int _=>obtain⟨t,rfl⟩:=r;rfl
 |str _=>obtain⟨t,rfl⟩:=r;rfl
 |byt _=>obtain⟨t,rfl⟩:=r;rfl
 |flt _=>obtain⟨t,rfl⟩:=r;rfl
 |ref _=>cases r;rfl
 |ty _=>cases r;rfl
def RelV.inj(r:RelV x u)(q:RelV y u):x=y:=zaQ (r.abs.symm.trans q.abs)
theorem Vals.inj:∀{xs g:List V} {us:List Value},Vals xs us->Vals g us->xs=g
 |_,_,_,.nil,.nil=>rfl
 |_,_,_,.cons r t,.cons a b=>by rw[r.inj a,Vals.inj t b]
section
variable{X:Cx}{U0:List<|Addr×Obj}{J:St}{H:Hp}{s:Shared}{a:Addr}{xs ys:List V}
def SqL.of{K:zag}(h:H a=some (.lst xs)):SqL K H a xs:=.inl (.inl h)
theorem Inv.list(I:Inv X U0 J H s)(h:SqL X.K H a xs):∃g:List Value,Vals xs g/\PlainL s.heap a g.toArray/\xs.length<=sizeLine:=by
 rcases h with h|⟨o,g,n,hk,b,hd,hs,c,r⟩
 .obtain⟨z,g,n,r,e⟩:=h.ok I.hok
  exact⟨g,r,⟨_,n,e,rfl,rfl,rfl⟩,z⟩
 .refine⟨g.toList,r,⟨o,n,I.kIn a o hk,b,hd,by simpa using hs⟩,?_⟩
  have e:=r.length;simp only[Array.length_toList]at e
  lia
theorem Inv.tuple(I:Inv X U0 J H s)(h:SqT X.K H a xs):∃l:List Value,Vals xs l/\IsTup s.heap a l.toArray/\xs.length<=sizeLine:=by
 rcases h with h|⟨o,l,n,hk,c,hs,d,r⟩
 .obtain⟨z,l,r,p,_⟩:=h.ok I.hok
  exact⟨l,r,p,z⟩
 .refine⟨l.toList,r,⟨o,I.kIn a o hk,c,n,by simpa using hs⟩,?_⟩
  have e:=r.length;simp only[Array.length_toList]at e
  lia
theorem Inv.we(I:Inv X U0 J H s)(h:SqL X.K H a xs)(h':SqL X.K H a ys):xs=ys:=by
 obtain⟨i,r,⟨o,n,e,_,_,d⟩,_⟩:=I.list h;obtain⟨b,j,⟨o',k,f,_,_,c⟩,_⟩:=I.list h';rw[e]at f;cases f
 rw[d]at c;injection c with d1 _
 have:i=b:=by simpa using congrArg Array.toList d1
 subst this;exact r.inj j
theorem Inv.rZ(I:Inv X U0 J H s)(h:SqT X.K H a xs)(h':SqT X.K H a ys):xs=ys:=by
 obtain⟨i,r,⟨o,e,_,n,d⟩,_⟩:=I.tuple h;obtain⟨b,j,⟨o',f,_,k,c⟩,_⟩:=I.tuple h';rw[e]at f;cases f
 rw[d]at c;injection c with d1 _
 have:i=b:=by simpa using congrArg Array.toList d1
 subst this;exact r.inj j
end
abbrev Cx.wish(X:Cx)(E:Value->Shared->Prop):Cx:={X with xe:=E}
abbrev Cx.nox(X:Cx):Cx:=X.wish λ_ _=>False
theorem Cx.Ok.wish{X:Cx}(ok:X.Ok)(E:Value->Shared->Prop):(X.wish E).Ok :=
 ⟨ok.mod,ok.kind,ok.glob,ok.blt,ok.above,ok.inj,ok.has,ok.cab,ok.hd,ok.frames,ok.stk,ok.exf,ok.bs,ok.bsz,ok.DG,ok.DH,ok.o5,ok.frf,ok.tab⟩
def Cx.Ok.jJ{X:Cx}(ok:(X.wish E).Ok):X.Ok :=
 ⟨ok.mod,ok.kind,ok.glob,ok.blt,ok.above,ok.inj,ok.has,ok.cab,ok.hd,ok.frames,ok.stk,ok.exf,ok.bs,ok.bsz,ok.DG,ok.DH,ok.o5,ok.frf,ok.tab⟩
section
variable{X:Cx}{U0:List<|Addr×Obj}{J:St}{H:Hp}{s:Shared}{E:Value->Shared->Prop}
theorem Inv.wish(I:Inv X U0 J H s)(E:Value->Shared->Prop):Inv (X.wish E) U0 J H s:=⟨I.ok.wish E,I.os,I.bare,I.base,I.loc,I.cell,I.free,I.ic,I.pin,I.hok,I.len⟩
theorem Inv.jJ(I:Inv (X.wish E) U0 J H s):Inv X U0 J H s:=⟨I.ok.jJ,I.os,I.bare,I.base,I.loc,I.cell,I.free,I.ic,I.pin,I.hok,I.len⟩
theorem SP.jJ(h:SP (X.wish E) U0 D f s'):SP X U0 D f s':=by
 cases f with
 |next=>obtain⟨a,H',I,q⟩:=h;exact⟨a,H',I.jJ,q⟩
 |brk=>obtain⟨a,H',I,q⟩:=h;exact⟨a,H',I.jJ,q⟩
 |cont=>obtain⟨a,H',I,q⟩:=h;exact⟨a,H',I.jJ,q⟩
 |ret u=>obtain⟨v,a,H',I,r,q⟩:=h;exact⟨v,a,H',I.jJ,r,q⟩
theorem PSs.nox{st:List Stmt}(h:PSs X.nox st t):PSs X st t:=λU0 s J H D I a=>
 za6 (h U0 s J H D (I.wish _) a) (λ_ _ q=>q.jJ) λ_ _ z=>False.elim z
end
section
variable{X:Cx}{st:Stmt}{Z0:List Stmt}{t u:TS}{e:Expr}{te:TE}{pos:Pos}
def Az:TS:=λD J H=>D.nx J H
def DJ(t u:TS):TS:=λD J H=>t {D with nx:=u D} J H
def AA:PSs X [] Az:=λ_ _ J H _ I h=>wpAny_execs_nil ⟨J,H,I,h⟩
theorem wg(g:PS X st t)(l:PSs X Z0 u):PSs X (st::Z0) (DJ t u):=by
 intro U0 s J H D I h;refine wpAny_execs_cons (thn (g U0 s J H {D with nx:=u D} I h) λf s1 q=>?_)
 cases f with
 |next=>
  obtain⟨a,H',b,q⟩:=q;exact l U0 s1 a H' D b q
 |ret v=>exact q
 |brk=>exact q
 |cont=>exact q
theorem tU(g:PS X st t):PSs X [st] t:=by
 intro U0 s J H D I h;refine wpAny_execs_cons (thn (g U0 s J H D I h) λf s1 q=>?_)
 cases f with
 |next=>exact wpAny_execs_nil q
 |ret v=>exact q
 |brk=>exact q
 |cont=>exact q
def DK:TS:=λD J H=>D.bk J H
def DM:PS X (.Break pos) DK:=λ_ _ J H _ I h=>wpAny_Break ⟨J,H,I,h⟩
theorem Inv.quiet{J:St}{s:Shared}(I:Inv X U0 J H s):interactive X.env=false:=by simp[interactive,I.ok.kind]
def DN(te:TE):TS:=λD J H=>te J H λ_ h=>D.nx J h
theorem Hm(g:PE X e te)(hs:swapsWith e none pos.line X.env=pure false:=by rfl):PS X (.Expr e pos) (DN te):=by
 intro U0 s J H D I h;exact wpAny_Expr_any (thn (g U0 s J H _ I h) λv s1 ⟨x,a,b,d,c⟩=>⟨J,a,b,c⟩) I.quiet hs
def BS(te:TE):TS:=λD J H=>te J H D.rt
theorem DO(g:PE X e te):PS X (.Return (some e) pos) (BS te):=by
 intro U0 s J H D I h;exact wpAny_Return_some (thn (g U0 s J H _ I h) λv s1 ⟨x,a,b,d,c⟩=>⟨x,J,a,b,d,c⟩)
def Hn(c:TT)(t u:TS):TS:=λD J H=>c J H λb h=>if b=true then t D J h else u D J h
theorem K4(g:PT X c l)(ha:PSs X a t)(hb:PSs X b u):PS X (.If c a b pos) (Hn l t u):=by
 intro U0 s J H D I h;refine wpAny_If (thn (g U0 s J H _ I h) λd s1 ⟨f,i,j⟩=>?_)
 cases d with
 |true=>exact ha U0 s1 J f D i j
 |false=>exact hb U0 s1 J f D i j
def yT:TS:=λ_ _ _=>False
def wj:PS X st yT:=λ_ _ _ _ _ _ h=>h.elim
end
abbrev TG:=V->St->Hp->(St->Hp->Prop)->Prop
abbrev TGs:=List V->St->Hp->(St->Hp->Prop)->Prop
def PG(X:Cx)(M:Expr)(t:TG):Prop :=
 ∀(U0:List<|Addr×Obj) (s:Shared) (J:St) (H:Hp) (v:V) (u:Value) (Q:St->Hp->Prop),Inv X U0 J H s->RelV v u->t v J H Q->
  wpAny (model X.prog X.w) X.A (assign M X.env u) (λ_ s'=>∃e H',Inv X U0 e H' s'/\Q e H') X.xe s
def PGs(X:Cx)(ts:List Expr)(t:TGs):Prop :=
 ∀(U0:List<|Addr×Obj) (s:Shared) (J:St) (H:Hp) (vs:List V) (us:List Value) (Q:St->Hp->Prop),Inv X U0 J H s->Vals vs us->t vs J H Q->
  wpAny (model X.prog X.w) X.A (assignInOrder ((assignEach ts X.env).map (·.2)) us) (λ_ s'=>∃e H',Inv X U0 e H' s'/\Q e H') X.xe s
abbrev QR:=V->V->V->Hp->(Hp->Prop)->Prop
abbrev TIp:=V->V->Hp->VK->Prop
def PIp(X:Cx)(op:Operator)(t:TIp):Prop :=
 ∀(U0:List<|Addr×Obj) (s:Shared) (J:St) (H:Hp) (x y:V) (v u:Value) (Q:VK),Inv X U0 J H s->RelV x v->RelV y u->t x y H Q->
  wpAny (model X.prog X.w) X.A (inplaceOp op v u) (EP X U0 J Q) X.xe s
section
variable{X:Cx}{pos:Pos}
def lL(i:Nat):TG:=λv J H Q=>Q (J.set i<|some v) H
theorem tV(g:X.N.Nodup)(hi:X.N[i]?=some x)(M:Loc X.env.scope x)(l:X.fn x=true\/X.env.scope.names.lookup x=some .local:=by first|exact .inl rfl|exact .inr rfl|assumption):PG X (.Name x pos) (lL i):=by
 intro U0 s J H v u Q I r h;exact wpAny_assign_Name (jI I g hi M r (λs' a=>⟨_,H,a,h⟩) l)
def L5:TGs:=λvs J H Q=>vs=[]/\Q J H
def DP(t:TG)(u:TGs):TGs:=λvs J H Q=>∃v r,vs=v::r/\t v J H λe H'=>u r e H' Q
theorem Ho:PGs X [] L5:=by
 intro U0 s J H vs us Q I r h;obtain⟨e,h⟩:=h;subst e;cases r;exact assignInOrder_nil ⟨J,H,I,h⟩
theorem DQ(g:PG X e t)(l:PGs X es u)
  (hs:(assignEach (e::es) X.env).map (·.2)=assign e X.env::(assignEach es X.env).map (·.2):=by rfl):PGs X (e::es) (DP t u):=by
 intro U0 s J H vs us Q I r h;obtain⟨v,j,d,h⟩:=h;subst d;cases r with
 |cons r i=>
  rw[hs];refine assignInOrder_cons (thn (g U0 s J H _ _ _ I r h) λ_ s1 ⟨a,b,c,f⟩=>?_)
  exact l U0 s1 a b _ _ Q c i f
def lh(to M:TE)(t:QR):TG:=λv J H Q=>to J H λo e=>M J e λi h=>t o i v h λj=>Q J j
def yU(M:TE)(g:TG):TS:=λD J H=>M J H λx e=>g x J e D.nx
theorem L6(M:PE X e Y)(O:PG X tg g)(hs:swapsWithSole [tg] e pos.line X.env=pure false:=by rfl)(U:swappedStores [tg] e X.env=pure none:=by rfl)
  (l:(assignEach [tg] X.env).map (·.2)=[assign tg X.env]:=by rfl):PS X (.Assign [tg] e pos) (yU Y g):=by
 intro U0 s J H D I h;refine wpAny_Assign_stores (thn (M U0 s J H _ I h) λv s1 ⟨x,a,b,d,c⟩=>?_) hs U
 rw[l];exact thn (O U0 s1 J a x v _ b d c) λ_ s2 q=>q
theorem L7(l:X.N.Nodup)(hi:X.N[i]?=some x)(U:Loc X.env.scope x)(M:PE X e Y)(hs:swapsWith e (some<|.Name x g) pos.line X.env=pure false:=by rfl)(O:X.fn x=true\/X.env.scope.names.lookup x=some .local:=by first|exact .inl rfl|exact .inr rfl|assumption) :
  PS X (.Assign [.Name x g] e pos) (yU Y<|lL i):=by
 intro U0 s J H D I h;refine wpAny_Assign_Name (thn (M U0 s J H _ I h) λv s1 ⟨y,a,b,f,d⟩=>?_) hs
 exact jI b l hi U f (λs2 c=>⟨_,a,c,d⟩) O
def OW(i j:Nat)(M:TA):TS:=λD J H=>M J H λvs e=>∃v w,vs=[v,w]/\D.nx ((J.set i<|some v).set j<|some w) e
theorem L8(hc:X.calm=true)(M:X.N.Nodup)(hi:X.N[i]?=some x)(hj:X.N[j]?=some y)(l:i≠j)
  (O:X.env.scope.names.lookup x=some .local) (U:X.env.scope.names.lookup y=some .local) (ha:PA X [a,b] ta)
  (hw:swappedStores [.Tuple [.Name x px,.Name y py] kt pt] (.Tuple [a,b] Y g) X.env=pure (some [x,y]))
  (hs:swapsWithSole [.Tuple [.Name x px,.Name y py] kt pt] (.Tuple [a,b] Y g) pos.line X.env=pure false:=by rfl) :
  PS X (.Assign [.Tuple [.Name x px,.Name y py] kt pt] (.Tuple [a,b] Y g) pos) (OW i j ta):=by
 intro U0 s J H D I h;refine zaI (wpAny_standAt ?_);refine zaI (zaZ ?_);refine zaI (Tuple_<|thn (ha _ U0 s J H _ I h) λus s1 ⟨vs,n,t,G,k⟩=>?_)
 obtain⟨v,w,C,k⟩:=k;subst C;obtain⟨c,d,rfl,σ,m⟩:∃c d,us=[c,d]/\RelV v c/\RelV w d:=by
  cases G with
  |cons p q=>
   cases q with
   |cons E F=>
    cases F;exact⟨_,_,rfl,p,E⟩
 refine wpAny_newObj_type ?_ (by show 2<=sizeLine;decide)
 have u:Inv X U0 J n {s1 with heap:=s1.heap.push {cls:=.type "tuple",data:=.seq [c,d].toArray}}:=t.kept λb o e=>zar _ e
 rw[hw];refine zaI (zaZ ?_);refine zaI (wpAny_rule<|zaI<|unpackItems_tuple (items:=#[c,d]) (I.ok.hd hc) (IsTup.new s1.heap _) λh' f=>?_)
 have A:=u.kept (t':=s1.toks) λb o e=>f b o (zaS<|zaq e) e
 refine zaI (assignInOrder_cons<|wpAny_bindName<|jI A M hj (.inl U) m (λs2 B=>?_)<|.inr U)
 refine assignInOrder_cons (wpAny_bindName<|jI B M hi (.inl O) σ (λK r=>assignInOrder_nil<|zaZ ?_)<|.inr O)
 rw[List.set_comm _ _<|Ne.symm l]at r;exact⟨_,n,r,k⟩
def OX(i:Nat)(M:TE)(O:TIp):TS:=λD J H=>∃x,J[i]?=some (some x)/\M J H λy e=>O x y e λz h=>D.nx (J.set i<|some z) h
theorem L9(U:X.N.Nodup)(hi:X.N[i]?=some x)(g:Loc X.env.scope x)(Y:PE X e te)(ho:PIp X M ti)(hf:X.fn x=true\/X.env.scope.names.lookup x=some .local:=by first|exact .inl rfl|exact .inr rfl|assumption) :
  PS X (.AugAssign (.Name x O) M e pos) (OX i te ti):=by
 intro U0 s J H D I h;obtain⟨v,t,h⟩:=h;obtain⟨m,hn,C⟩:=I.loc;have f:Vis X.env.scope x:=by rcases g with k|k;exact .inl k;exact .inr (.inl k)
 obtain⟨u,r,l⟩:=C i x v hi t f;refine wpAny_AugAssign_Name ?_;have go:wpAny (model X.prog X.w) X.A (eval e X.env) (λw b=>wpAny (model X.prog X.w) X.A (inplaceOp M u w) (λr d=>wpAny (model X.prog X.w) X.A (storeName X.env x r) (λ_=>SP X U0 D .next) X.xe d) X.xe b) X.xe s:=by
  refine thn (Y U0 s J H _ I h) λw s1 ⟨y,j,o,G,E⟩=>?_
  refine thn (ho U0 s1 J j v y u w _ o r G E) λz s2 ⟨ρ,n,p,σ,F⟩=>?_
  exact jI p U hi g σ (λK q=>⟨_,n,q,F⟩) hf
 rcases l with⟨hk,hm⟩|⟨hk,c,B,a⟩
 .exact wpAny_loadName_local I.ok.kind hk hn hm go
 .rcases hk with hk|hk
  .exact wpAny_loadName_cell I.ok.kind hk B a go
  .rcases g with k|k
   .have:X.env.scope.names.lookup x=some .free:=hk
    rw[k]at this;cases this
   .have:X.env.scope.names.lookup x=some .free:=hk
    rw[k]at this;cases this
def ipI(f:Int->Int->Int):TIp:=λx y H Q=>∃i j,x=.int i/\y=.int j/\Q (.int<|f i j) H
theorem Ma:PIp X .Add (ipI λi j=>i+j):=by
 intro U0 s J H x y v u Q I c d h;obtain⟨i,j,a,b,q⟩:=h;subst a;subst b
 obtain⟨t,rfl⟩:=c;obtain⟨e,rfl⟩:=d;exact iadd_int ⟨.int _,H,I.tok _,⟨_,rfl⟩,q⟩
def yV(c:TT)(M:TS):TS:=λD J H=>∃W:Nat->St->Hp->Prop,(∃m,W m J H)/\∀m J H,W m J H->
 c J H λb h=>if b=true then∃N:St->Hp->Prop,(∀e H',N e H'->∃j,j<m/\W j e H')/\M {D with nx:=N,ct:=N,bk:=D.nx} J h else D.nx J h
theorem DR(l:PassesOwn (model X.prog X.w) X.A X.env X.xe)(M:PT X c U)(hb:PSs X g O):PS X (.While c g [] pos) (yV U O):=by
 intro U0 s J H D I h;obtain⟨W,⟨y,B⟩,turn⟩:=h;refine wpAny_While (codeAny_whileLoop (λn s'=>∃i H',Inv X U0 i H' s'/\W n i H') ?_ y ⟨J,H,I,B⟩)
 rintro n s1 ⟨d,q,x,C⟩
 refine wpAny_passesOwn l (thn (M U0 s1 d q _ x<|turn n d q C) λb s2 ⟨r,t,j⟩=>?_)
 cases b with
 |true=>
  obtain⟨N,u,j⟩:=j;refine wpAny_passesOwn l (thn (hb U0 s2 d r _ t j) λf E k=>?_)
  cases f with
  |next=>
   obtain⟨a,e,m,n3⟩:=k;obtain⟨o,hm,p⟩:=u a e n3;exact⟨o,hm,a,e,m,p⟩
  |cont=>
   obtain⟨a,e,m,n3⟩:=k;obtain⟨o,hm,p⟩:=u a e n3;exact⟨o,hm,a,e,m,p⟩
  |brk=>exact k
  |ret v=>exact k
 |false=>
  exact wpAny_execs_nil ⟨d,r,t,j⟩
end
structure It where
 go:Nat->Hp->Prop
 yld:Nat->Hp->V->Hp->Prop
 stop:Nat->Hp->Prop
def iR(X:Cx)(U0:List<|Addr×Obj)(H:Hp)(b:Addr):Prop :=
 H b=none/\b≠X.env.locals/\b∉X.fs/\(b∈X.ex\/X.s₀.heap.objs.size<=b)/\(∀x c,X.env.cells.lookup x=some c->c≠b)/\∀p∈X.pn++U0,p.1≠b
theorem Inv.mF{J:St}{H H':Hp}{s:Shared}{b:Addr}(I:Inv X U0 J H s)(hb:s.heap.objs.size<=b)(hn:H' b=none):iR X U0 H' b:=by
 refine⟨hn,Nat.ne_of_gt<|zaF I.lt hb,I.QO hb,.inr<|zaX I.sz hb,λx c e z=>?_,λp a z=>?_⟩
 .obtain⟨v,q⟩:=I.cell x c e
  exact absurd (zaF q.lt (by rw[z];exact hb)) (za3 _)
 .exact absurd (zaF (zaq (I.pin p a).1) (by rw[z];exact hb)) (za3 _)
structure Turn(P:Program)(w:World)(K:zag)(tg:Expr)(σ:It)(fp:List Addr)(it:Addr)(tn:Nat->Heap->Prop):Prop where
 mem:it∈fp
 obj:∀i h,tn i h->∀b∈fp,∃o,h.get? b=some o/\∀v,o.data≠.cell v
 keep:∀i h h',tn i h->(∀b∈fp,∀o,h.get? b=some o->h'.get? b=some o)->tn i h'
 item:∀(X:Cx),X.prog=P->X.w=w->X.K=K->X.calm=true->∀(i:Nat) (U0:List<|Addr×Obj) (s:Shared) (J:St) (H:Hp) (E:Value->Shared->Prop),Inv X U0 J H s->(∀b∈fp,iR X U0 H b)->tn i s.heap->σ.go i H->
  wpAny (model P w) X.A (pyNext<|.ref it) (λr s1=>∃u,r=some u/\
   wpAny (model P w) X.A (letOwnedTupleGo tg (.ref it) u) (λ_ s2=>∃x H',Inv X U0 J H' s2/\RelV x u/\σ.yld i H x H'/\tn (i+1) s2.heap/\∀b∈fp,H' b=none) E s1) E s
 done:∀(X:Cx),X.prog=P->X.w=w->X.K=K->X.calm=true->∀(i:Nat) (U0:List<|Addr×Obj) (s:Shared) (J:St) (H:Hp) (E:Value->Shared->Prop),Inv X U0 J H s->(∀b∈fp,iR X U0 H b)->tn i s.heap->σ.stop i H->
  wpAny (model P w) X.A (pyNext<|.ref it) (λr s1=>r=none/\Inv X U0 J H s1) E s
 self:∀(A:Around) (i:Nat) (s:Shared) (Q:Value->Shared->Prop) (E:Value->Shared->Prop),tn i s.heap->Q (.ref it) s->wpAny (model P w) A (pyIter<|.ref it) Q E s
abbrev TI:=St->Hp->(It->Hp->Prop)->Prop
def PIE(X:Cx)(U0:List<|Addr×Obj)(J:St)(tg:Expr)(R:It->Hp->Prop)(M:Value)(s2:Shared):Prop :=
 ∃(it:Addr) (fp:List Addr) (tn:Nat->Heap->Prop) (σ:It) (H':Hp),M=.ref it/\Inv X U0 J H' s2/\Turn X.prog X.w X.K tg σ fp it tn/\tn 0 s2.heap/\(∀b∈fp,iR X U0 H' b)/\R σ H'
def PI(X:Cx)(tg iter:Expr)(M:TI):Prop :=
 ∀(U0:List<|Addr×Obj) (s:Shared) (J:St) (H:Hp) (R:It->Hp->Prop),Inv X U0 J H s->M J H R->
  wpAny (model X.prog X.w) X.A (eval iter X.env) (λv s1=>wpAny (model X.prog X.w) X.A (pyIter v) (PIE X U0 J tg R) X.xe s1) X.xe s
theorem wk(ho:s.heap.get? it=some o)(l:o.cls=.type n)(hd:o.data=.fields vs)
  (hn : ["enumerate","zip","dict_itemiterator","dict_reverseitemiterator","odict_iterator","itertools.zip_longest","itertools.pairwise"].contains n=false) (g:Q () s):wpAny M A (letOwnedTupleGo tg (.ref it) u) Q E s:=by
 cases tg<;>first
  |exact zaZ g
  |(cases u<;>first
    |exact zaZ g
    | (refine zaI (wpAny_load ho ?_)
       rw[l,hd];show wpAny M A (if(["enumerate","zip","dict_itemiterator","dict_reverseitemiterator","odict_iterator","itertools.zip_longest","itertools.pairwise"].contains n&&vs[0]? ==some (rawInt _))=true then _ else _) Q E s
       rw[if_neg (by intro h;rw[hn,Bool.false_and]at h;cases h)]
       exact zaZ g))
def Itl(K:zag)(a:Addr):It :=
 ⟨λi H=>∃xs x,SqL K H a xs/\xs[i]?=some x,λi H x H'=>H'=H/\∀xs,SqL K H a xs->xs[i]?=some x,λi H=>∃xs,SqL K H a xs/\xs.length<=i⟩
def Itt(K:zag)(a:Addr):It :=
 ⟨λi H=>∃xs x,SqT K H a xs/\xs[i]?=some x,λi H x H'=>H'=H/\∀xs,SqT K H a xs->xs[i]?=some x,λi H=>∃xs,SqT K H a xs/\xs.length<=i⟩
def Itr(lo:Int)(n:Nat):It:=⟨λi _=>i<n,λi H x H'=>H'=H/\x=.int (lo+i),λi _=>n<=i⟩
theorem BU{K:zag}{tg:Expr}(a it:Addr):Turn P w K tg (Itl K a) [it] it (λi h=>h.IsListIter it a i) where
 mem:=by simp
 obj:=λi h st b hb=>by
  have e:b=it:=by simpa using hb
  subst e;obtain⟨o,e,c,d⟩:=st;exact⟨o,e,λv z=>by rw[d]at z;cases z⟩
 keep:=λi h h' st k=>st.at λo e=>k it (by simp) o e
 item:=by
  fail "q4"
  obtain⟨xs,x,n,y⟩:=j;obtain⟨G,A,p,Q⟩:=I.list n;obtain⟨u,ρ,R⟩:=A.get y;obtain⟨f0,f1,f2,q,r,t⟩:=f it (by simp)
  refine wpAny_pyNext_list_item st p.isList (by simpa using ρ) λh' st' sb=>?_
  have F:Inv X U0 J H {s with heap:=h'}:=I.turned (λb o hb e=>(sb.2 b hb).trans e) f0 f1 q r t
  obtain⟨o,e,c,d⟩:=id st';exact⟨u,rfl,wk e c d (by decide) ⟨x,H,F,R,⟨rfl,λT N=>by rw[I.we N n];exact y⟩,st',λb hb=>(f b hb).1⟩⟩
 done:=by
  fail "q4"
  obtain⟨xs,n,y⟩:=j;obtain⟨G,A,p,Q⟩:=I.list n;obtain⟨f0,f1,f2,q,r,t⟩:=f it (by simp)
  have S:=A.length;exact wpAny_pyNext_list_end (I.ok.hd m) st p.isList (by simp;lia) λh' σ=>⟨rfl,I.turned (λb o hb e=>σ b o hb e) f0 f1 q r t⟩
 self:=λ_ _ _ _ _ st h=>wpAny_pyIter_listiter st h
theorem yW{K:zag}{tg:Expr}(a it:Addr):Turn P w K tg (Itt K a) [it] it (λi h=>h.IsTupleIter it a i) where
 mem:=by simp
 obj:=λi h st b hb=>by
  have e:b=it:=by simpa using hb
  subst e;obtain⟨o,e,c,d⟩:=st;exact⟨o,e,λv z=>by rw[d]at z;cases z⟩
 keep:=λi h h' st k=>st.at λo e=>k it (by simp) o e
 item:=by
  fail "q4"
  obtain⟨xs,x,n,y⟩:=j;obtain⟨G,A,p,Q⟩:=I.tuple n;obtain⟨u,ρ,R⟩:=A.get y;obtain⟨f0,f1,f2,q,r,t⟩:=f it (by simp)
  refine wpAny_pyNext_tuple_item st (p) (by simpa using ρ) λh' st' sb=>?_
  have F:Inv X U0 J H {s with heap:=h'}:=I.turned (λb o hb e=>(sb.2 b hb).trans e) f0 f1 q r t
  obtain⟨o,e,c,d⟩:=id st';exact⟨u,rfl,wk e c d (by decide) ⟨x,H,F,R,⟨rfl,λT N=>by rw[I.rZ N n];exact y⟩,st',λb hb=>(f b hb).1⟩⟩
 done:=by
  fail "q4"
  obtain⟨xs,n,y⟩:=j;obtain⟨G,A,p,Q⟩:=I.tuple n;obtain⟨f0,f1,f2,q,r,t⟩:=f it (by simp)
  have S:=A.length;exact wpAny_pyNext_tuple_end (I.ok.hd m) st (p) (by simp;lia) λh' σ=>⟨rfl,I.turned (λb o hb e=>σ b o hb e) f0 f1 q r t⟩
 self:=λ_ _ _ _ _ st h=>wpAny_pyIter_tupleiter st h
theorem yX{K:zag}{tg:Expr}(it:Addr)(lo:Int)(n:Nat):Turn P w K tg (Itr lo n) [it] it (λi h=>IsRangeIter h it (lo+(i:Nat)*1) ((n:Int)-(i:Nat)) 1) where
 mem:=by simp
 obj:=λi h st b hb=>by
  have e:b=it:=by simpa using hb
  subst e;exact⟨_,st,λv z=>by
   have x:=z;cases x⟩
 keep:=λi h h' st k=>k it (by simp) _ st
 item:=by
  fail "q4"
  obtain⟨f0,f1,f2,a,c,d⟩:=f it (by simp)
  have W:=Walks.range (prog:=X.prog) (w:=X.w) (I.ok.hd m) it lo 1 n;refine W.item i s _ _ j st λv h' tk r st' u=>?_
  obtain⟨t,rfl⟩:=r;have p:Inv X U0 J H {s with heap:=h',toks:=tk}:=I.turned (λb o hb e=>u b o (by simpa using hb) e) f0 f1 a c d
  refine⟨_,rfl,wk st' rfl rfl (by decide) ⟨.int<|lo+i,H,p,⟨t,?_⟩,⟨rfl,rfl⟩,st',λb hb=>(f b hb).1⟩⟩
  rw[Int.mul_one]
 done:=by
  intro X C D B m i U0 s J H E I f st j;obtain⟨f0,f1,f2,a,c,d⟩:=f it (by simp)
  exact wpAny_pyNext_range_end (I.ok.hd m) st (by have:n<=i:=j;lia) λh' q=>⟨rfl,I.turned (λb o hb e=>q b o hb e) f0 f1 a c d⟩
 self:=λ_ _ _ _ _ st h=>wpAny_pyIter_rangeiter st h
section
variable{X:Cx}{tg:Expr}
def wm(K:zag)(tl:TE):TI:=λJ H R=>tl J H λx e=>∃a,x=.ref a/\(∃xs,SqL K e a xs)/\R (Itl K a) e
def Hq(K:zag)(tl:TE):TI:=λJ H R=>tl J H λx e=>∃a,x=.ref a/\(∃xs,SqT K e a xs)/\R (Itt K a) e
theorem Hr(g:PE X l tl):PI X tg l (wm X.K tl):=by
 intro U0 s J H R I h;refine thn (g U0 s J H _ I h) λv s1 ⟨x,d,c,j,i⟩=>?_
 obtain⟨a,e,⟨xs,f⟩,q⟩:=i;subst e;cases j;obtain⟨k,n,p,m⟩:=c.list f;refine wpAny_pyIter_list p.isList ?_;refine⟨s1.heap.objs.size,[s1.heap.objs.size],_,_,d,rfl,c.kept λb o e=>zar _ e,BU a _,⟨_,zaL _ rfl,rfl,rfl⟩,λb hb=>?_,q⟩
 have e:b=s1.heap.objs.size:=by simpa using hb
 subst e;exact c.mF (zap _) (c.hok.fresh<|zap _)
theorem Mb(g:PE X l tl):PI X tg l (Hq X.K tl):=by
 intro U0 s J H R I h;refine thn (g U0 s J H _ I h) λv s1 ⟨x,d,c,j,i⟩=>?_
 obtain⟨a,e,⟨xs,f⟩,q⟩:=i;subst e;cases j;obtain⟨k,n,p,m⟩:=c.tuple f;refine wpAny_pyIter_tuple (p) ?_;refine⟨s1.heap.objs.size,[s1.heap.objs.size],_,_,d,rfl,c.kept λb o e=>zar _ e,yW a _,⟨_,zaL _ rfl,rfl,rfl⟩,λb hb=>?_,q⟩
 have e:b=s1.heap.objs.size:=by simpa using hb
 subst e;exact c.mF (zap _) (c.hok.fresh<|zap _)
theorem wo{J:St}{s:Shared}{R:It->Hp->Prop}{E:Value->Shared->Prop}{lo hi:Int}{t u v:Tok}{tk:Nat}(I:Inv X U0 J H s)(g : -(2^62)<=lo)(l:lo<2^62)(h3 : -(2^62)<=hi)(h4:hi<2^62)
  (q:R (Itr lo (hi-lo).toNat) H):wpAny (model X.prog X.w) X.A (pyIter<|.ref s.heap.objs.size) (PIE X U0 J tg R) E {s with heap:=s.heap.push {cls:=.type "range",data:=.fields #[.int lo t,.int hi u,.int 1 v]},toks:=tk}:=by
 refine wpAny_pyIter_range (IsRange.new ..) (small_one g l h3 h4) ?_;have a:Inv X U0 J H {s with heap:=s.heap.push {cls:=.type "range",data:=.fields #[.int lo t,.int hi u,.int 1 v]},toks:=tk}:=I.kept λb o e=>zar _ e
 refine⟨(s.heap.push {cls:=.type "range",data:=.fields #[.int lo t,.int hi u,.int 1 v]}).objs.size,[(s.heap.push {cls:=.type "range",data:=.fields #[.int lo t,.int hi u,.int 1 v]}).objs.size],_,_,H,rfl,
  a.kept λb o e=>zar _ e,yX _ lo (hi-lo).toNat,?_,λb hb=>?_,q⟩
 .have c:lo+((0:Nat):Int)*1=lo:=by simp
  have d:(((hi-lo).toNat:Nat):Int)-((0:Nat):Int)=Builtin.Range.rangeSize lo hi 1:=by rw[rangeSize_one];split<;>lia
  rw[c,d];exact zaL _ rfl
 .have e:b=(s.heap.push {cls:=.type "range",data:=.fields #[.int lo t,.int hi u,.int 1 v]}).objs.size:=by simpa using hb
  subst e;exact a.mF (zap _) (a.hok.fresh<|zap _)
def AB(M:TA):TI:=λJ H R=>M J H λvs e=>∃j:Int,vs=[.int j]/\-(2^62)<=j/\j<2^62/\R (Itr 0 j.toNat) e
def DS(M:TA):TI:=λJ H R=>M J H λvs e=>∃i j:Int,vs=[.int i,.int j]/\(-(2^62)<=i/\i<2^62/\-(2^62)<=j/\j<2^62)/\R (Itr i (j-i).toNat) e
theorem BV(g:Gl X "range")(hm:X.mg "range"=none)(ha:PA X [a] l)(hs:starEach [a] X.env=[(false,eval a X.env)]:=by rfl):PI X tg (.Call (.Name "range" p) [a] [] pos) (AB l):=by
 intro U0 s J H R I h;refine Call_ (gX I g hm boot_range<|PyProof.Rows.callWith_type1 (thn (ha pos U0 s J H _ I h) λus s1 ⟨vs,k,c,f,b⟩=>?_) hs rfl)
 obtain⟨j,e,b,d,q⟩:=b;subst e;cases f with
 |cons r i=>
  cases i;obtain⟨t,rfl⟩:=r;exact call_range_1 (wo c (by lia) (by lia) b d (by simpa using q))
theorem BW{p pos:Pos}(l:Gl X "range")(hm:X.mg "range"=none)(ha:PA X [a,b] M)(hs:starEach [a,b] X.env=[(false,eval a X.env),(false,eval b X.env)]:=by rfl)(g:starEach [b] X.env=[(false,eval b X.env)]:=by rfl) :
  PI X tg (.Call (.Name "range" p) [a,b] [] pos) (DS M):=by
 intro U0 s J H R I h;refine Call_ (gX I l hm boot_range<|PyProof.Rows.callWith_type1 (thn (ha pos U0 s J H _ I h) λus s1 ⟨vs,v,f,u,c⟩=>?_) (by rw[hs,g]) (by rw[g];rfl))
 obtain⟨i,j,e,⟨c,k,m,n⟩,q⟩:=c;subst e;cases u with
 |cons r d=>
  cases d with
  |cons o d=>
   cases d;obtain⟨t,rfl⟩:=r;obtain⟨w,rfl⟩:=o;exact call_range_2 (wo f c k m n q)
def BX(O:TI)(g:TG)(M:TS):TS:=λD J H=>O J H λσ q=>∃W:Nat->Nat->St->Hp->Prop,(∃m,W 0 m J q)/\∀i m J H,W i m J H->
 (σ.stop i H/\D.nx J H)\/(σ.go i H/\∃N:St->Hp->Prop,(∀e H',N e H'->∃j,j<m/\W (i+1) j e H')/\∀x H',σ.yld i H x H'->g x J H' λh u=>M {D with nx:=N,ct:=N,bk:=D.nx} h u)
def lr(fp:List Addr)(h:Heap):List (Addr×Obj):=fp.filterMap λb=>(h.get? b).map λo=>(b,o)
theorem bF(hb:b∈fp)(e:h.get? b=some o):(b,o)∈lr fp h:=List.mem_filterMap.mpr ⟨b,hb,by rw[e];rfl⟩
theorem mG(g:p∈lr fp h):p.1∈fp/\h.get? p.1=some p.2:=by
 obtain⟨b,hb,e⟩:=List.mem_filterMap.mp g;cases q:h.get? b with
 |none=>rw[q]at e;cases e
 |some o=>
  rw[q]at e;have a:=zaQ e;subst a;exact⟨hb,q⟩
theorem Inv.pinned{J:St}{s:Shared}{fp:List Addr}(I:Inv X U0 J H s)(g:∀b∈fp,iR X U0 H b)(ho:∀b∈fp,∃o,s.heap.get? b=some o/\∀v,o.data≠.cell v):Inv X (U0++lr fp s.heap) J H s :=
 I.Ay λp c=>(zae c).elim (λz=>I.pin p<|zan _ z) λz=>by
  obtain⟨hb,e⟩:=mG z;obtain⟨f0,f1,f2,_⟩:=g p.1 hb;obtain⟨o,a,d⟩:=ho p.1 hb;rw[e]at a;cases a
  exact⟨e,f0,f1,f2,d⟩
def Inv.d8{J:St}{s:Shared}(I:Inv X (U0++pl) J H s):Inv X U0 J H s:=I.Ay λp a=>I.pin p (zan _<|zaW _ a)
theorem Mc(M:PassesOwn (model X.prog X.w) X.A X.env X.xe)(O:X.calm=true)(hi:PI X tg iter wi)(hg:PG X tg g)(hb:PSs X l tb)
  (hs:∀x,foldedSetIterable iter X.env x=pure x:=by intro _;rfl):PS X (.For tg iter l [] pos) (BX wi g tb):=by
 intro U0 s J H D I h;refine wpAny_For (thn (hi U0 s J H _ I h) λv s1 h1=>thn h1 λitv s2 h2=>?_) hs
 obtain⟨it,fp,tn,σ,Y,e,I2,T,Q,f2,W,⟨m0,w0⟩,turn⟩:=h2;subst e;have k:∀{H':Hp},(∀b∈fp,H' b=none)->∀b∈fp,iR X U0 H' b:=λhn b hb=>⟨hn b hb,(f2 b hb).2⟩
 refine codeAny_forLoop_any (λn s'=>∃i p H',Inv X U0 p H' s'/\tn i s'.heap/\(∀b∈fp,H' b=none)/\W i n p H') ?_ m0 ⟨0,J,Y,I2,Q,λb hb=>(f2 b hb).1,w0⟩
 rintro n Z ⟨i,q,F,V,E,B,w3⟩
 rcases turn i n q F w3 with⟨stop,qn⟩|⟨go,N,hN,step⟩
 .refine wpAny_passesOwn M (thn (T.done X rfl rfl rfl O i U0 Z q F X.xe V (k B) E stop) λr s4 ⟨ρ,I4⟩=>?_)
  subst ρ;exact wpAny_execs_nil ⟨q,F,I4,qn⟩
 .refine wpAny_passesOwn M (thn (T.item X rfl rfl rfl O i U0 Z q F X.xe V (k B) E go) λr s4 ⟨u,ρ,h4⟩=>?_)
  subst ρ;refine wpAny_passesOwn M (thn h4 λ_ U ⟨x,S,I5,r5,y5,y,K⟩=>?_)
  have G:=I5.pinned (k K) (T.obj _ _ y);refine wpAny_passesOwn M (thn (hg _ U q S x u _ G r5<|step x S y5) λ_ s6 ⟨R,H6,I6,q6⟩=>?_)
  refine wpAny_passesOwn M (thn (hb _ s6 R H6 _ I6 q6) λf P t=>?_)
  have again:∀{a:St} {c:Hp},Inv X (U0++lr fp U.heap) a c P->N a c->∃m,m<n/\∃i p H',Inv X U0 p H' P/\tn i P.heap/\(∀b∈fp,H' b=none)/\W i m p H':=fun{a c} j C=>by
   obtain⟨m',hm,w7⟩:=hN a c C;refine⟨m',hm,i+1,a,c,j.d8,T.keep _ _ _ y λb hb o e=>(j.pin (b,o)<|zan _<|zan _<|bF hb e).1,λb hb=>?_,w7⟩
   obtain⟨o,e,d⟩:=T.obj _ _ y b hb;exact(j.pin (b,o)<|zan _<|zan _<|bF hb e).2.1
  cases f with
  |next=>obtain⟨a,c,j,C⟩:=t;exact again j C
  |cont=>obtain⟨a,c,j,C⟩:=t;exact again j C
  |brk=>obtain⟨a,c,j,t⟩:=t;exact⟨a,c,j.d8,t⟩
  |ret v=>obtain⟨x7,a,c,j,r7,t⟩:=t;exact⟨x7,a,c,j.d8,r7,t⟩
end
abbrev R2:=V->V->Hp->VK->Prop
def OpR(X:Cx)(f:Value->Value->Sem Value)(r:R2):Prop :=
 ∀(U0:List<|Addr×Obj) (s:Shared) (J:St) (H:Hp) (x y:V) (v u:Value) (Q:VK),Inv X U0 J H s->RelV x v->RelV y u->r x y H Q->
  wpAny (model X.prog X.w) X.A (f v u) (EP X U0 J Q) X.xe s
def UnR(X:Cx)(f:Value->Sem Value)(r:V->Hp->VK->Prop):Prop :=
 ∀(U0:List<|Addr×Obj) (s:Shared) (J:St) (H:Hp) (x:V) (v:Value) (Q:VK),Inv X U0 J H s->RelV x v->r x H Q->
  wpAny (model X.prog X.w) X.A (f v) (EP X U0 J Q) X.xe s
def cE(X:Cx)(f:Value)(r:List V->Hp->VK->Prop):Prop :=
 ∀(U0:List<|Addr×Obj) (s:Shared) (J:St) (H:Hp) (xs:List V) (us:List Value) (Q:VK),Inv X U0 J H s->Vals xs us->r xs H Q->
  wpAny (model X.prog X.w) X.A (call f us) (EP X U0 J Q) X.xe s
def tOp(r:R2)(M O:TE):TE:=λJ H Q=>M J H λx e=>O J e λy h=>r x y h Q
def tUn(r:V->Hp->VK->Prop)(M:TE):TE:=λJ H Q=>M J H λx e=>r x e Q
def rI(C:Int->Int->Prop)(g:Int->Int->V):R2:=λx y H Q=>∃i j,x=.int i/\y=.int j/\C i j/\Q (g i j) H
def rI0(g:Int->Int->V):R2:=λx y H Q=>∃i j,x=.int i/\y=.int j/\Q (g i j) H
def rU(g:Int->V):V->Hp->VK->Prop:=λx H Q=>∃i,x=.int i/\Q (g i) H
section
variable{X:Cx}{a b c:Expr}{ta tb tc:TE}{pos:Pos}
theorem Md(ha:PE X a ta)(hb:PE X b tb){J:St}{H:Hp}{R:V->V->Hp->Prop}(I:Inv X U0 J H s)
  (h:ta J H λx O=>tb J O λy g=>R x y g) {Q:Value->Shared->Prop} {f:Value->Value->Sem Value}
  (U:∀v u s2 x y g,Inv X U0 J g s2->RelV x v->RelV y u->R x y g->wpAny (model X.prog X.w) X.A (f v u) Q X.xe s2) :
  wpAny (model X.prog X.w) X.A (eval a X.env) (λv l=>wpAny (model X.prog X.w) X.A (eval b X.env) (λu M=>wpAny (model X.prog X.w) X.A (f v u) Q X.xe M) X.xe l) X.xe s:=by
 refine thn (ha U0 s J H _ I h) λv s1 ⟨x,O,d,k,i⟩=>?_
 refine thn (hb U0 s1 J O _ d i) λu s2 ⟨y,g,e,m,j⟩=>?_
 exact U v u s2 x y g e k m j
theorem o6(ho:OpR X (binaryOp g) r)(ha:PE X a ta)(hb:PE X b tb):PE X (.BinOp a g b pos) (tOp r ta tb):=by
 intro U0 s J H Q I h;exact wpAny_BinOp (Md ha hb I h λv u s2 x y d e f i q=>ho U0 s2 J d x y v u Q e f i q)
theorem OY(ho:UnR X (unaryOp g) r)(ha:PE X a ta):PE X (.UnaryOp g a pos) (tUn r ta):=by
 intro U0 s J H Q I h;exact UnaryOp_ (thn (ha U0 s J H _ I h) λv s1 ⟨x,d,e,i,f⟩=>ho U0 s1 J d x v Q e i f)
theorem opI{g:Int->Int->Int}
  (rule:∀(i j:Int) (t u:Tok) (s:Shared) (Q:Value->Shared->Prop) (E:Value->Shared->Prop),C i j->Q (.int (g i j) s.toks) {s with toks:=s.toks+1}->wpAny (model X.prog X.w) X.A (f (.int i t)<|.int j u) Q E s) :
  OpR X f (rI C λi j=>.int<|g i j):=by
 intro U0 s J H x y v u Q I e k h;obtain⟨i,j,rfl,rfl,d,q⟩:=h;obtain⟨t,rfl⟩:=e;obtain⟨m,rfl⟩:=k;exact rule i j t m s _ _ d ⟨.int<|g i j,H,I.tok _,⟨_,rfl⟩,q⟩
theorem OZ{g:Int->Int->Int}
  (rule:∀(i j:Int) (t u:Tok) (s:Shared) (Q:Value->Shared->Prop) (E:Value->Shared->Prop),Q (.int (g i j) s.toks) {s with toks:=s.toks+1}->wpAny (model X.prog X.w) X.A (f (.int i t)<|.int j u) Q E s) :
  OpR X f (rI0 λi j=>.int<|g i j):=by
 intro U0 s J H x y v u Q I d e h;obtain⟨i,j,rfl,rfl,q⟩:=h;obtain⟨t,rfl⟩:=d;obtain⟨k,rfl⟩:=e;exact rule i j t k s _ _ ⟨.int<|g i j,H,I.tok _,⟨_,rfl⟩,q⟩
theorem Ht{g:Int->Int->Bool}
  (rule:∀(i j:Int) (t u:Tok) (s:Shared) (Q:Value->Shared->Prop) (E:Value->Shared->Prop),Q (.bool<|g i j) s->wpAny (model X.prog X.w) X.A (f (.int i t)<|.int j u) Q E s) :
  OpR X f (rI0 λi j=>.bl<|g i j):=by
 intro U0 s J H x y v u Q I d e h;obtain⟨i,j,rfl,rfl,q⟩:=h;obtain⟨t,rfl⟩:=d;obtain⟨k,rfl⟩:=e;exact rule i j t k s _ _ ⟨.bl<|g i j,H,I,rfl,q⟩
def Me(i j:Int):Prop:=0<j/\j<1073741824
def Mf(i j:Int):Prop:=0<=j/\j<=1000000/\i.natAbs<2^64
def Mg:OpR X (binaryOp .Add) (rI0 λi j=>.int<|i+j):=OZ λ_ _ _ _ _ _ _ q=>add_int q
def Mh:OpR X (binaryOp .Sub) (rI0 λi j=>.int<|i-j):=OZ λ_ _ _ _ _ _ _ q=>sub_int q
theorem Hu:OpR X (binaryOp .FloorDiv) (rI Me λi j=>.int<|i/j):=opI λi j _ _ _ _ _ d q=>by
 have e:=d.1;have f:=d.2;exact floordiv_int (by lia) (by rw[Int.fdiv_eq_ediv_of_nonneg i (by lia)];exact q) (.inl<|PyProof.noPylong_small (by lia))
theorem Mi:OpR X (binaryOp .Mod) (rI (λ_ j=>0<j) λi j=>.int<|i%j):=opI λi j _ _ _ _ _ d q=>by
 exact mod_int' (by lia) (by rw[Int.fmod_eq_emod_of_nonneg i (by lia)];exact q)
def Mj:OpR X (binaryOp .Pow) (rI Mf λi j=>.int<|i^j.toNat):=opI λ_ _ _ _ _ _ _ d q=>pow_int_small d.1 d.2.1 d.2.2 q
theorem unI{g:Int->Int}
  (rule:∀(i:Int) (t:Tok) (s:Shared) (Q:Value->Shared->Prop) (E:Value->Shared->Prop),Q (.int (g i) s.toks) {s with toks:=s.toks+1}->wpAny (model X.prog X.w) X.A (f<|.int i t) Q E s) :
  UnR X f (rU λi=>.int<|g i):=by
 intro U0 s J H x v Q I d h;obtain⟨i,rfl,q⟩:=h;obtain⟨t,rfl⟩:=d;exact rule i t s _ _ ⟨.int<|g i,H,I.tok _,⟨_,rfl⟩,q⟩
def Mk:UnR X (unaryOp .USub) (rU λi=>.int<|-i):=unI λ_ _ _ _ _ q=>neg_int q
theorem yY{J:St}{s:Shared}{Q:VK}{k g:Bool}(I:Inv X U0 J H s)(q:Q (.bl k) H)(e:k=g):EP X U0 J Q (.bool g) s:=by
 subst e;exact⟨.bl k,H,I,rfl,q⟩
def O0:OpR X (compareOp .Lt) (rI0 λi j=>.bl<|decide<|i<j):=Ht λ_ _ _ _ _ _ _ q=>lt_int q
def O1:OpR X (compareOp .LtE) (rI0 λi j=>.bl<|decide<|i<=j):=Ht λ_ _ _ _ _ _ _ q=>le_int q
def K5:OpR X (compareOp .Gt) (rI0 λi j=>.bl<|decide<|j<i):=Ht λ_ _ _ _ _ _ _ q=>gt_int q
def K6:OpR X (compareOp .GtE) (rI0 λi j=>.bl<|decide<|j<=i):=Ht λ_ _ _ _ _ _ _ q=>ge_int q
theorem DT:OpR X (compareOp .Is) (λx y H Q=>y=.non/\Q (.bl<|decide<|x=.non) H):=by
 intro U0 s J H x y v u Q I d e h;obtain⟨rfl,q⟩:=h;cases e;refine is_none_gen (yY I q ?_);cases x<;>first
  |(cases d;rfl)
  |(obtain⟨t,rfl⟩:=d;rfl)
theorem AD:OpR X (compareOp .IsNot) (λx y H Q=>y=.non/\Q (.bl<|!decide (x=.non)) H):=by
 intro U0 s J H x y v u Q I d e h;obtain⟨rfl,q⟩:=h;cases e;refine isnot_none_gen (yY I q ?_);cases x<;>first
  |(cases d;rfl)
  |(obtain⟨t,rfl⟩:=d;rfl)
theorem OpR.or(h:OpR X f r)(h':OpR X f g):OpR X f (λx y H Q=>r x y H Q\/g x y H Q):=by
 intro U0 s J H x y v u Q I d e q;rcases q with q|q
 .exact h U0 s J H x y v u Q I d e q
 .exact h' U0 s J H x y v u Q I d e q
theorem cT(b:Expr)(h:g≠.In:=by decide)(l:g≠.NotIn:=by decide):behindInMarks g b=false:=by
 have d:(g==CmpOp.In)=false:=by cases g<;>first|rfl|exact absurd rfl h
 have e:(g==CmpOp.NotIn)=false:=by cases g<;>first|rfl|exact absurd rfl l
 cases b<;>simp[behindInMarks,d,e]
theorem iS(ho:OpR X (compareOp g) r)(ha:PE X a ta)(hb:PE X b tb)(hm:behindInMarks g b=false):PE X (.Compare a [g] [b] pos) (tOp r ta tb):=by
 intro U0 s J H Q I h;exact wpAny_Compare1 (Md ha hb I h λv u s2 x y d e f i q=>ho U0 s2 J d x y v u Q e f i q) hm
def AE(t:TE):TT:=λJ H Q=>t J H λx H'=>∃k,x=.bl k/\Q k H'
theorem d9(ho:OpR X (compareOp g) r)(ha:PE X a ta)(hb:PE X b tb)(hm:behindInMarks g b=false):PT X (.Compare a [g] [b] pos) (AE<|tOp r ta tb):=by
 intro U0 s J H Q I h;refine wpAny_isTrue_Compare1 (thn (ha U0 s J H _ I h) λv s1 ⟨x,d,j,t,o⟩=>thn (hb U0 s1 J d _ j o) λu s2 ⟨y,f,m,w,p⟩=>
  thn (ho U0 s2 J f x y v u _ m t w p) λc B ⟨z,i,n,A,k,e,q⟩=>?_) hm
 subst e;cases A;exact wpAny_truthy_bool ⟨i,n,q⟩
def DU(r M:R2)(ta tb tc:TE):TE:=λJ H Q=>ta J H λx h=>tb J h λy j=>r x y j λz e=>∃k,z=.bl k/\
 (if k=true then tc J e λu q=>M y u q Q else Q (.bl false) e)
theorem DV(ho:OpR X (compareOp M) r)(l:OpR X (compareOp g) U)(ha:PE X a ta)(hb:PE X b tb)(O:PE X c tc)
  (hm:lastMarks [M,g] [b,c]=false:=by with_unfolding_all rfl):PE X (.Compare a [M,g] [b,c] pos) (DU r U ta tb tc):=by
 intro U0 s J H Q I h;refine Compare_chain (thn (ha U0 s J H _ I h) λv s1 ⟨x,n,q,D,A⟩=>chain_link (thn (hb U0 s1 J n _ q A) λu s2 ⟨y,o,t,m,B⟩=>
  thn (ho U0 s2 J o x y v u _ t D m B) λd G ⟨z,f,i,E,k,e,j⟩=>?_)) hm
 subst e;cases E;refine wpAny_truthy_bool ?_;cases k with
 |false=>exact ite_ff ⟨.bl false,f,i,rfl,j⟩
 |true=>exact ite_tt (chain_last<|thn (O U0 G J f _ i j) λK σ ⟨ρ,p,w,F,C⟩=>l U0 σ J p y ρ u K Q w m F C)
theorem o7:(sizeLine:Nat)<2^63:=by rw[sizeLine_eq];decide
theorem yZ:OpR X (binaryOp .Add) (λx y H Q=>∃i j,x=.str i/\y=.str j/\i.length+j.length<=sizeLine/\Q (.str<|i++j) H):=by
 intro U0 s J H x y v u Q I e f h;obtain⟨i,j,rfl,rfl,d,q⟩:=h;obtain⟨t,rfl⟩:=e;obtain⟨k,rfl⟩:=f;exact add_str (λk tk=>⟨.str<|i++j,H,I.tok _,⟨_,rfl⟩,q⟩) d
theorem vals1(r:Vals [x] us):∃u,us=[u]/\RelV x u:=by
 cases r with
 |cons d e=>cases e;exact⟨_,rfl,d⟩
theorem vals2(r:Vals [x,y] us):∃u g,us=[u,g]/\RelV x u/\RelV y g:=by
 cases r with
 |cons d e=>
  cases e with
  |cons f h=>cases h;exact⟨_,_,rfl,d,f⟩
theorem BY(g:X.calm=true):cE X (.builtin "max") (λxs H Q=>∃i j,xs=[.int i,.int j]/\Q (.int<|if j>i then j else i) H):=by
 intro U0 s J H xs us Q I r h;obtain⟨i,j,rfl,q⟩:=h;obtain⟨u,f,rfl,⟨t,rfl⟩,⟨e,rfl⟩⟩:=vals2 r;refine max_two_ints (I.ok.hd g) λh' tk k=>⟨_,H,I.kept k,?_,q⟩
 by_cases d:j>i
 .rw[if_pos d,if_pos d];exact⟨_,rfl⟩
 .rw[if_neg d,if_neg d];exact⟨_,rfl⟩
theorem BZ(g:X.calm=true):cE X (.builtin "min") (λxs H Q=>∃i j,xs=[.int i,.int j]/\Q (.int<|if j<i then j else i) H):=by
 intro U0 s J H xs us Q I r h;obtain⟨i,j,rfl,q⟩:=h;obtain⟨u,f,rfl,⟨t,rfl⟩,⟨e,rfl⟩⟩:=vals2 r;refine min_two_ints (I.ok.hd g) λh' tk k=>⟨_,H,I.kept k,?_,q⟩
 by_cases d:j<i
 .rw[if_pos d,if_pos d];exact⟨_,rfl⟩
 .rw[if_neg d,if_neg d];exact⟨_,rfl⟩
theorem B6:cE X (.type "int") (λxs H Q=>(∃i,xs=[.int i]/\Q (.int i) H)\/∃k,xs=[.bl k]/\Q (.int<|if k then 1 else 0) H):=by
 intro U0 s J H xs us Q I r h;rcases h with⟨i,rfl,q⟩|⟨k,rfl,q⟩
 .obtain⟨u,rfl,t,rfl⟩:=vals1 r
  exact call_int_int ⟨.int i,H,I,⟨_,rfl⟩,q⟩
 .obtain⟨u,rfl,d⟩:=vals1 r
  cases d;exact call_int_bool ⟨.int<|if k then 1 else 0,H,I.tok _,⟨_,rfl⟩,q⟩
end
structure Ml(h:Heap)(x dx C:Addr)(mA:Str->Option Value):Prop where
 obj:h.get? x=some (PySem.W.instObj C dx)
 ns:h.Ns1 dx mA
 ne:dx≠x
theorem B7{h:Heap}(n:h.Ns1 dx mA):∃od,h.get? dx=some od/\∀name,PySem.W.lookIn name od=some (mA name):=by
 obtain⟨o,es,f,ho,hd,hk,_,hm⟩:=n;refine⟨o,ho,λname=>?_⟩
 have e:=hm name;unfold nsFind findBy at e;rw[<-Array.find?_toList]at e;unfold PySem.W.lookIn;rw[hd];dsimp only;split
 .rename_i y q
  rw[q]at e;exact congrArg some e
 .rename_i q
  rw[q]at e;have a:es.toList.any (·.refKey)=false:=by
   rw[List.any_eq_false];intro y d;obtain⟨z,t,b⟩:=hk y (Array.mem_toList_iff.mp d);simp[DictEntry.refKey,b]
  have c : ¬es.toList.any (·.refKey)=true:=by rw[a];exact zam
  rw[if_neg c];exact congrArg some e
def Ml.look(I:Ml h x dx C mA):∃od,PySem.W.InstAt h x (PySem.W.instObj C dx) C (some od)/\∀name,PySem.W.lookIn name od=some (mA name) :=
 let⟨od,ho,a⟩:=B7 I.ns
 ⟨od,⟨I.obj,rfl,rfl,ho⟩,a⟩
theorem ot.some_of(r:ot (some v) o):∃u,o=some u/\RelV v u:=by
 cases o with
 |none=>exact(r).elim
 |some u=>exact⟨u,rfl,r⟩
section
variable{P:Program}{w:World}{H H':Hp}{h h':Heap}{a C dx:Addr}{fs fs':List<|Str×V}
theorem Hv(hok:HOk P w H h)(e:H a=some (.ins C dx fs)):∃mA,Ml h a dx C mA/\(∀f,ot (fs.lookup f)<|mA f)/\PySem.Within mA (fs.map (·.1))/\fs.length<=1000/\H dx=some (.own a):=by
 obtain⟨d,z,ne,ob,mA,n,r,q⟩:=(hok a _ e);exact⟨mA,⟨ob,n,ne⟩,r,q,z,d⟩
end
structure Cls(K:zag)(C:Addr):Prop where
 pg:PySem.W.plainGet K C Str.empty=true
 hd:PySem.W.hasDictIn K C=true
 po:PySem.W.plainOver K C=true
 sa:PySem.W.findIn K (.ref C) "__setattr__"=some (some<|.builtin "object.__setattr__")
def Cls.get{K:zag}(c:Cls K C)(f:Str):PySem.W.plainGet K C f=true:=c.pg
section
variable{X:Cx}{U0:List<|Addr×Obj}{J:St}{H:Hp}{s:Shared}{A:Around}{E:Value->Shared->Prop}{Q:Value->Shared->Prop}{c:Value}{b:Bool}
inductive mH(K:zag)(H:Hp):V->Value->Prop where
 |non:mH K H .non (.type "NoneType")
 |bl (x:Bool):mH K H (.bl x) (.type "bool")
 |int (i:Int):mH K H (.int i) (.type "int")
 |str (x:Str):mH K H (.str x) (.type "str")
 |flt (x:UInt64):mH K H (.flt x) (.type "float")
 |lst {a:Addr} {xs:List V} (e:H a=some (.lst xs)):mH K H (.ref a) (.type "list")
 |frz {a:Addr} {o:Obj} {xs:List V} (e:H a=some (.frz o (.lst xs))):mH K H (.ref a) (.type "list")
 |tup {a:Addr} {xs:List V} (e:H a=some (.tup xs)):mH K H (.ref a) (.type "tuple")
 |dK {a:Addr} {V0:List (Key×V)} (e:H a=some (.dK V0)):mH K H (.ref a) (.type "dict")
 |dT {a:Addr} {V0:List (List Key×V)} (e:H a=some (.dT V0)):mH K H (.ref a) (.type "dict")
 |ins {a C dx:Addr} {fs:List (Str×V)} (e:H a=some (.ins C dx fs)) (cl:Cls K C) (ha:PySem.W.findIn K (.ref C) "__class__"=some (some (.builtin "object.__class__")))
   (hn:PySem.W.specialIn K (.builtin "object.__class__") "__get__"=some (some<|.builtin "getset_descriptor.__get__")) (htk:PySem.W.takesIn K (.builtin "object.__class__")=some true)
   (hm:PySem.W.mroIn K C (.type "object")=some true):mH K H (.ref a) (.ref C)
theorem B8(I:Inv X U0 J H s)(g:RelV x u)(ty:mH X.K H x t)(e:PySem.W.kitOne X.K t c=some b)(h:∀tk,Q (.bool b) {s with toks:=tk}) :
  wpAny (model X.prog X.w) A (call (.builtin "isinstance") [u,c]) Q E s:=by
 cases ty with
 |non=>cases(g);exact za4 PySem.W.kitx_none I.kIn True.intro e (λz=>nomatch z) h
 |bl y=>cases(g);exact za4 PySem.W.kitx_bool I.kIn True.intro e (λz=>nomatch z) h
 |int i=>obtain⟨t,q⟩:=(g);cases q;exact za4 PySem.W.kitx_int I.kIn True.intro e (λz=>nomatch z) h
 |str y=>obtain⟨t,q⟩:=(g);cases q;exact za4 PySem.W.kitx_str I.kIn True.intro e (λz=>nomatch z) h
 |flt y=>obtain⟨t,q⟩:=(g);cases q;exact za4 PySem.W.kitx_float I.kIn True.intro e (λz=>nomatch z) h
 | @lst a xs ea=>
  cases(g);obtain⟨_,_,n,_,d⟩:=(I.hok a _ ea);exact za4 PySem.W.kitx_list I.kIn ⟨_,d,rfl⟩ e (λz=>nomatch z) h
 | @frz a ob xs ea=>
  cases(g);obtain⟨_,_,_,n,_,d⟩:=(I.hok a _ ea);exact za4 PySem.W.kitx_list I.kIn ⟨_,d,rfl⟩ e (λz=>nomatch z) h
 | @tup a xs ea=>
  cases(g);obtain⟨_,_,_,p⟩:=(I.hok a _ ea);obtain⟨⟨o,d,f,_⟩,_⟩:=p;exact za4 PySem.W.kitx_tuple I.kIn ⟨o,d,f⟩ e (λz=>nomatch z) h
 | @dK a V0 ea=>
  cases(g);obtain⟨_,_,vs,_,p⟩:=(I.hok a _ ea);obtain⟨o,es,j,d,f,_⟩:=p;exact za4 PySem.W.kitx_dict I.kIn ⟨o,d,f.1⟩ e (λz=>nomatch z) h
 | @dT a V0 ea=>
  cases(g);obtain⟨_,_,xs,_,o,es,j,d,f,_⟩:=(I.hok a _ ea);exact za4 PySem.W.kitx_dict I.kIn ⟨o,d,f.1⟩ e (λz=>nomatch z) h
 | @ins a C dx fs ea cl ha hn htk hm=>
  cases(g);obtain⟨mA,O,_⟩:=Hv I.hok ea;obtain⟨od,σ,_⟩:=O.look;exact za4 (PySem.W.kitx_own (cl.get _) cl.hd ha hn htk hm) I.kIn σ e (λz=>nomatch z) h
end
structure dF(k:Nat)(A:Around):Prop where
 hd:A.handled=none
 dp:A.depth+3*k+5<recursionLimit
 un:A.units+16*k+200<cLine
theorem dF.mono(r:dF k A)(h:j<=k):dF j A:=⟨r.hd,by have:=r.dp;lia,by have:=r.un;lia⟩
theorem dF.deeper(r:dF (k+1) A)(env:Env):dF k (A.deeper env) :=
 ⟨r.hd,by have:=r.dp;show A.depth+1+3*k+5<_;lia,by have:=r.un;show A.units+3+16*k+200<_;lia⟩
theorem dF.in1(r:dF (k+1) A):dF k A.in1 :=
 ⟨r.hd,by have:=r.dp;show A.depth+3*k+5<_;lia,by have:=r.un;show A.units+1+16*k+200<_;lia⟩
theorem dF.depth(r:dF k A):A.depth<recursionLimit:=by have:=r.dp;lia
theorem dF.units(r:dF k A):A.units+64<cLine:=by have:=r.un;lia
def tW:TA:=λ_ H Q=>Q [] H
def fH(M:TE)(tr:TA):TA:=λJ H Q=>M J H λx e=>tr J e λxs h=>Q (x::xs) h
section
variable{X:Cx}{e:Expr}{es:List Expr}{te:TE}{t:TA}{pos:Pos}
def y0:PA X [] tW:=λ_ _ _ _ H Q I h=>Calls.spliced_nil ⟨[],H,I,.nil,h⟩
theorem oI(ha:PE X e te)(g:PA X es t)(hs:starEach (e::es) X.env=(false,eval e X.env)::starEach es X.env:=by rfl):PA X (e::es) (fH te t):=by
 intro pos U0 s J H Q I h;rw[hs];refine Calls.spliced_cons (thn (ha U0 s J H _ I h) λu s1 ⟨x,a,c,j,f⟩=>?_)
 exact thn (g pos U0 s1 J a _ c f) λus s2 ⟨xs,b,d,k,i⟩=>⟨x::xs,b,d,.cons j k,i⟩
def DW(t:TA):TE:=λJ H Q=>t J H λxs h=>xs.length<=sizeLine/\∀p,h p=none->Q (.ref p) (upd h p<|.tup xs)
def Mm(t:TA):TE:=λJ H Q=>t J H λxs h=>xs.length<=sizeLine/\∀p,h p=none->Q (.ref p) (upd h p<|.lst xs)
theorem Mn(h:PA X es t):PE X (.Tuple es g pos) (DW t):=by
 intro U0 s J H Q I f;refine wpAny_Tuple_spliced (thn (h pos U0 s J H _ I f) λus s1 ⟨xs,c,a,r,z,q⟩=>⟨by rw[<-r.length];exact z,?_⟩)
 have d:=a.hok.fresh (zap _);refine⟨.ref s1.heap.objs.size,upd c s1.heap.objs.size<|.tup xs,a.laid (λb u e=>zar _ e) (zap _) ?_,rfl,q _ d⟩
 exact⟨z,us,r,⟨_,zaL _ rfl,rfl,_,rfl⟩,_,zaL _ rfl,rfl⟩
theorem Mo(h:PA X es t):PE X (.List es pos) (Mm t):=by
 intro U0 s J H Q I f;refine wpAny_List_spliced (thn (h pos U0 s J H _ I f) λus s1 ⟨xs,c,a,r,z,q⟩=>⟨by rw[<-r.length];exact z,?_⟩)
 have d:=a.hok.fresh (zap _);refine⟨.ref s1.heap.objs.size,upd c s1.heap.objs.size<|.lst xs,a.laid (λb u e=>zar _ e) (zap _) ?_,rfl,q _ d⟩
 exact⟨z,us,0,r,zaL _ rfl⟩
end
abbrev Sp:=List V->Hp->VK->XK->Prop
abbrev CXT:=List Env->Hp->Shared->XK->Value->Shared->Prop
structure Hw(P:Program)(w:World)(K:zag)(mg:Str->Option Value)(base:Heap)(A:Around)(outer:List Env)(s:Shared)(H:Hp):Prop where
 frames:A.frames=some outer
 mod:Mod K mg base
 bs:∀b o,base.get? b=some o->s.heap.get? b=some o/\H b=none
 bsz:base.objs.size<=s.heap.objs.size
 o5:s.heap.FunFrames base outer
 frf:∀b∈frs outer,H b=none
 hok:HOk P w H s.heap
 bare:AllBare s.gens
 tab:∀c T ps,fq K=some (c,T,ps)->∃more,H T=some (.tbl<|ps++more)
def CE(outer:List Env)(P:Program)(w:World)(H:Hp)(s:Shared)(Q:VK)(u:Value)(s':Shared):Prop :=
 ∃v H',s'.os=s.os/\AllBare s'.gens/\Un (frs outer) [] H H' s.heap s'.heap/\HOk P w H' s'.heap/\RelV v u/\Q v H'
def CR(CX:CXT)(outer:List Env)(P:Program)(w:World)(H:Hp)(s:Shared)(Q:VK)(E:XK)(r:Result)(s':Shared):Prop :=
 match r with
 | .ok (.ret u)=>CE outer P w H s Q u s'
 | .ok _=>False
 | .error e=>CX outer H s E e s'
structure ou(P:Program)(w:World)(K:zag)(mg:Str->Option Value)(base:Heap)(CX:CXT)(k:Nat)(f:Addr)(fd:FuncData)(ps:List Str)(sp:Sp):Prop where
 len:∀vs H Q E,sp vs H Q E->vs.length=ps.length
 run:∀(A:Around) (outer:List Env) (s:Shared) (H:Hp) (args:Args) (us:List Value) (vs:List V) (Q:VK) (E:XK),dF k A->Hw P w K mg base A outer s H->BindsTo s fd args (ps.zip us)->Vals vs us->sp vs H Q E->
  codeAny (model P w) A (.call (.ref f) args) (CR CX outer P w H s Q E) s
def ou.imp{K:zag}{mg:Str->Option Value}{base:Heap}{CX:CXT}{k:Nat}{f:Addr}{fd:FuncData}{ps:List Str}{sp g:Sp}(F:ou P w K mg base CX k f fd ps sp)
  (h:∀vs H Q E,g vs H Q E->sp vs H Q E):ou P w K mg base CX k f fd ps g :=
 ⟨λvs H Q E q=>F.len vs H Q E<|h _ _ _ _ q,λA outer s H args us vs Q E b a hb c hs=>F.run A outer s H args us vs Q E b a hb c<|h _ _ _ _ hs⟩
section
variable{X:Cx}{U0:List<|Addr×Obj}{J:St}{H:Hp}{s s':Shared}
def Inv.env0(I:Inv X U0 J H s):Hw X.prog X.w X.K X.mg X.base X.A X.stack s H :=
 ⟨I.ok.frames,I.ok.mod,I.bs,zaX I.ok.bsz I.sz,I.stack,I.tT,I.hok,I.bare,I.tab⟩
theorem Inv.after(I:Inv X U0 J H s)(h:CE X.stack X.prog X.w H s Q u s'):EP X U0 J Q u s':=by
 obtain⟨v,H',os,bare,un,hok,r,q⟩:=h;obtain⟨c,g,d,t,a⟩:=s';obtain rfl:a=s.os:=os;exact⟨v,H',I.call un hok bare (λb z=>absurd z (by simp)),r,q⟩
end
def jK(sp:Sp)(M:List V)(E:XK)(t:TA):TE:=λJ H Q=>t J H λvs e=>sp (vs++M) e Q E
def Binds(K:zag)(fd:FuncData)(ps:List Str)(ds:List Value):Prop :=
 ∀(s:Shared) (us:List Value),K.In s.heap->(us++ds).length=ps.length->BindsTo s fd ⟨us,[]⟩ (ps.zip<|us++ds)
theorem Binds.all{K:zag}(h:∀us:List Value,us.length=ps.length->bindArgs fd ⟨us,[]⟩=pure (ps.zip us)):Binds K fd ps []:=λs us _ a=>by
 rw[zaR]at a⊢;exact .of_eq (h us a)
def Passes(CX:CXT)(X:Cx)(E:XK):Prop:=∀(U0:List<|Addr×Obj) (J:St) (H:Hp) (s:Shared) (e:Value) (s':Shared),Inv X U0 J H s->CX X.stack H s E e s'->X.xe e s'
section
variable{X:Cx}{CX:CXT}{k:Nat}{f C:Addr}{fd:FuncData}{ps:List Str}{sp:Sp}{dvs:List V}{ds:List Value}{E:XK}{x m:Str}{p pos apos:Pos}{e o:Expr}{es:List Expr}{ta:TE}{t:TA}
theorem Mp{J:St}{s:Shared}{Q:VK}{us:List Value}{vs:List V}(F:ou X.prog X.w X.K X.mg X.base CX k f fd ps sp)(g:dF k X.A)(hb:Binds X.K fd ps ds)(hd:Vals dvs ds)(l:Passes CX X E)
  (I:Inv X U0 J H s) (r:Vals vs us) (h:sp (vs++dvs) H Q E):wpAny (model X.prog X.w) X.A (call (.ref f) us) (EP X U0 J Q) X.xe s:=by
 have b:=r.append hd;have c:(us++ds).length=ps.length:=by rw[<-b.length];exact F.len _ _ _ _ h
 refine wpAny_call (codeAny_mono (F.run X.A X.stack s H ⟨us,[]⟩ (us++ds) (vs++dvs) Q E g I.env0 (hb s us I.kIn c) b h) λr s' a=>?_)
 cases r with
 |error e=>exact l U0 J H s e s' I a
 |ok fl=>
  cases fl with
  |ret u=>exact I.after a
  |next=>exact False.elim a
  |brk=>exact False.elim a
  |cont=>exact False.elim a
theorem Hx(F:ou X.prog X.w X.K X.mg X.base CX k f fd ps sp)(U:dF k X.A)(O:Gl X x)(hm:X.mg x=some (.ref f))(hk:PySem.W.keepIn X.K (.ref f)=true)(hb:Binds X.K fd ps ds)(hd:Vals dvs ds)(Y:Passes CX X E)
  (ha:PA X (e::es) t) (g:(x==("__debug__":Str))=false:=by decide) (M:starEach (e::es) X.env=(false,eval e X.env)::starEach es X.env:=by rfl) (l:(backTo pos<|starEach es X.env).any (·.1)=false:=by rfl) :
  PE X (.Call (.Name x p) (e::es) [] pos) (jK sp dvs E t):=by
 intro U0 s J H Q I h;refine wpAny_Call_Name_kw (Hj I O hm ?_ g);refine PySem.W.callWith_K I.ok.mod.kin hk (thn (ha pos U0 s J H _ I h) λus s1 ⟨vs,b,a,r,q⟩=>⟨a.kIn,?_⟩) M l
 exact Mp F U hb hd Y a r q
end
structure aK(N P:List Str)(sc:Scope):Prop where
 kind:sc.kind=.function
 co:sc.isCoroutine=false
 gen:sc.isGenerator=false
 nd:N.Nodup
 pre:N.take P.length=P
 par:∀x∈P,sc.names.lookup x=some .local\/sc.names.lookup x=some .cell
 Mq:∀y∈sc.names,y.2≠.free
theorem r6{kindOf:Str->Option NameKind}:∀{binds:List<|Str×Value} {m:Str->Option Value},(∀v,(x,v)∉binds)->bindL kindOf binds m x=m x
 | [],_,_=>rfl
 |(n,v)::r,m,h=>by
  unfold bindL;rw[r6 λw a=>h w<|zak _ a]
  split
  .have:x≠n:=by rintro rfl;exact h v zas
   simp[this]
  .rfl
theorem r8{kindOf:Str->Option NameKind}:∀{binds:List<|Str×Value} {m:Str->Option Value},(∀v,(x,v)∉binds)->bindC kindOf binds m x=m x
 | [],_,_=>rfl
 |(n,v)::r,m,h=>by
  unfold bindC;rw[r8 λw a=>h w<|zak _ a]
  split
  .rfl
  .have:x≠n:=by rintro rfl;exact h v zas
   simp[this]
theorem r9{kindOf:Str->Option NameKind}:∀{P:List Str} {vs:List Value} {i:Nat} {m:Str->Option Value},P.Nodup->P[i]?=some x->vs[i]?=some v->kindOf x=some .local->
  bindL kindOf (P.zip vs) m x=some v
 | [],_,_,_,_,h,_,_=>by simp at h
 |_::_,[],_,_,_,_,h,_=>by simp at h
 |p::P,w::vs,0,m,nd,a,b,hk=>by
  simp at a b;subst a;subst b
  show bindL kindOf ((p,w)::P.zip vs) m p=_;unfold bindL;rw[r6 λv c=>(List.nodup_cons.mp nd).1 (List.of_mem_zip c).1,if_pos hk]
  simp
 |p::P,w::vs,i+1,m,nd,a,b,hk=>by
  show bindL kindOf ((p,w)::P.zip vs) m x=_;exact r9 (List.nodup_cons.mp nd).2 (by simpa using a) (by simpa using b) hk
theorem sd{kindOf:Str->Option NameKind}:∀{P:List Str} {vs:List Value} {i:Nat} {m:Str->Option Value},P.Nodup->P[i]?=some x->vs[i]?=some v->kindOf x≠some .local->
  bindC kindOf (P.zip vs) m x=some v
 | [],_,_,_,_,h,_,_=>by simp at h
 |_::_,[],_,_,_,_,h,_=>by simp at h
 |p::P,w::vs,0,m,nd,a,b,hk=>by
  simp at a b;subst a;subst b
  show bindC kindOf ((p,w)::P.zip vs) m p=_;unfold bindC;rw[r8 λv c=>(List.nodup_cons.mp nd).1 (List.of_mem_zip c).1,if_neg hk]
  simp
 |p::P,w::vs,i+1,m,nd,a,b,hk=>by
  show bindC kindOf ((p,w)::P.zip vs) m x=_;exact sd (List.nodup_cons.mp nd).2 (by simpa using a) (by simpa using b) hk
def start(N:List Str)(vs:List V):St:=vs.map some++List.replicate (N.length-vs.length) none
noncomputable def tX(CX:CXT)(P:Program)(w:World)(K:zag)(mg:Str->Option Value)(base:Heap)(N:List Str)(K1:Str)(X0:Scope)(f:Addr)(cd:Value)(A:Around)(outer:List Env)(s:Shared)(H:Hp)(E:XK):Cx where
 prog:=P
 w:=w
 K:=K
 mg:=mg
 base:=base
 A:=A.deeper (envOfC K1 X0 s.heap.objs.size f cd)
 N:=N
 s₀:=s
 H₀:=H
 env:=envOfC K1 X0 s.heap.objs.size f cd
 outer:=outer
 stack:=envOfC K1 X0 s.heap.objs.size f cd::outer
 ex:=[]
 calm:=true
 fn:=λ_=>true
 pn:=[]
 xe:=λe s'=>wpAny (model P w) (A.deeper<|envOfC K1 X0 s.heap.objs.size f cd) (leaving (envOfC K1 X0 s.heap.objs.size f cd) e) (λ_ s''=>CX outer H s E e s'') (λe' s''=>CX outer H s E e' s'') s'
theorem wq{sc:Scope}(h:sc.names.lookup x=some .cell):∃c,(cellsFrom n sc.names []).lookup x=some c:=by
 have q:=PySem.W.cellsFrom_some sc.names n [] (.inl h);exact Option.isSome_iff_exists.mp q
theorem B9{K:zag}{mg:Str->Option Value}{base:Heap}{N ps:List Str}{K1:Str}{X0:Scope}{f:Addr}{l:Value}{A:Around}{outer:List Env}{s s1:Shared}{H:Hp}{E:XK}{us:List Value}{vs:List V}
  (S:aK N ps X0) (hd:A.handled=none) (g:Hw P w K mg base A outer s H) (I:vs.length=ps.length) (r:Vals vs us)
  (x:InCallC s s.heap.objs.size (bindL (envOfC K1 X0 s.heap.objs.size f l).kindOf (ps.zip us) λ_=>none) (cellsFrom (s.heap.objs.size+1) X0.names []) (bindC (envOfC K1 X0 s.heap.objs.size f l).kindOf (ps.zip us) λ_=>none) s1) :
  Inv (tX CX P w K mg base N K1 X0 f l A outer s H E) [] (start N vs) H s1:=by
 have C:ps.length<=N.length:=by have:=congrArg List.length S.pre;rw[List.length_take]at this;lia
 obtain⟨t,tk,rfl,hk⟩:=x.done;have m:∀b:Addr,b∉(tX CX P w K mg base N K1 X0 f l A outer s H E).ex:=λb z=>absurd (show b∈([]:List Addr)from z) (by simp)
 refine⟨⟨g.mod,S.kind,rfl,rfl,zap _,λy z c t d=>?_,λy j=>?_,λy c _ h=>?_,λ_=>hd,Around.frames_deeper g.frames,.inr ⟨rfl,rfl⟩,λb z=>absurd z<|m b,g.bs,g.bsz,λb _ _=>m b,λb z=>absurd z<|m b,g.o5,g.frf,g.tab⟩,
  rfl,g.bare,Un.kept hk,⟨_,x.toInCall.ns,λi y v t d h3=>?_⟩,λy c h=>⟨_,x.cell y c h⟩,g.hok.fresh<|zap _,λy c h=>?_,λp n=>absurd (show p∈([]:List<|Addr×Obj)from n) (by simp),g.hok.kept hk,?_⟩
 .exact name_of_addr x.apart (za5 t) (za5 d)
 .have j:=j
  rcases j with j|j
  .exact wq j
  .exact absurd rfl (S.Mq _<|za5 j)
 .exact Nat.le_of_lt (x.above y c<|za5 h)
 .have hi:i<vs.length:=by
   unfold start at d
   by_cases hi:i<vs.length
   .exact hi
   .rw[zaN (by simpa using hi)]at d
    rw[List.getElem?_replicate]at d;split at d<;>cases d
  have ha:vs[i]?=some v:=by
   unfold start at d;rw[zax (by simpa using hi),zao]at d
   cases e:vs[i]? with
   |none=>rw[e]at d;cases d
   |some a=>rw[e]at d;cases d;rfl
  obtain⟨u,B,D⟩:=r.get ha;have n:ps[i]?=some y:=by
   rw[<-S.pre,List.getElem?_take_of_lt (by lia)];exact t
  have o:ps.Nodup:=by rw[<-S.pre];exact S.nd.sublist (List.take_sublist _ _)
  refine⟨u,D,?_⟩;rcases S.par y (zaj n)with k|k
  .exact .inl ⟨k,r9 o n B k⟩
  .obtain⟨c,e⟩:=wq k
   refine .inr ⟨.inl k,c,e,?_⟩;have q:=x.cell y c e;rw[sd o n B (by show X0.names.lookup y≠_;rw[k];decide)]at q
   exact q
 .exact g.hok.fresh (Nat.le_of_lt<|x.above y c<|za5 h)
 .unfold start
  show _=N.length;rw[zau,zal,List.length_replicate]
  lia
theorem cf{K:zag}{mg:Str->Option Value}{base:Heap}{k:Nat}{f:Addr}{name K1:Str}{l:Arguments}{M:List Stmt}{X0:Scope}{Y kV doc pm cdv ct oc:Value}{an od:Option Addr}
  {osl:Array<|Option Value} {N ps:List Str} {sp:Sp} (lk:K.lookup f=some ⟨oc,od,.func<|PySem.W.fnOf name K1 l M X0 Y kV doc pm an cdv ct,osl⟩) (U:PySem.W.codeIn K cdv K1=true) (S:aK N ps X0)
  (len:∀vs H Q E,sp vs H Q E->vs.length=ps.length)
  (O:∀(A:Around) (outer:List Env) (s:Shared) (H:Hp) (vs:List V) (Q:VK) (E:XK),dF k (A.deeper<|envOfC K1 X0 s.heap.objs.size f cdv)->sp vs H Q E->
   ∃t,PSs (tX CX P w K mg base N K1 X0 f cdv A outer s H E) M t/\t {nx:=λ_ H'=>Q .non H',rt:=Q} (start N vs) H) :
  ou P w K mg base CX (k+1) f (PySem.W.fnOf name K1 l M X0 Y kV doc pm an cdv ct) ps sp:=by
 refine⟨len,λA outer s H args us vs Q E m d hb r j=>?_⟩
 have F:=len _ _ _ _ j;have C:=d.mod.kin.keeps λb o e=>(d.bs b o e).1
 have p:=d.mod.nolimit.keeps λb o e=>(d.bs b o e).1
 have c:∀y∈ps.zip us,X0.names.lookup y.1=some .local\/(X0.names.lookup y.1=some .cell/\((cellsFrom (s.heap.objs.size+1) X0.names []).lookup y.1).isSome=true):=λ⟨n,v⟩ R=>by
  rcases S.par n (List.of_mem_zip R).1 with q|q
  .exact .inl q
  .exact .inr ⟨q,PySem.W.cellsFrom_some _ _ _<|.inl q⟩
 refine codeAny_call_function m.depth (C _ _ lk) rfl S.co S.gen rfl (PySem.W.codeRec_of C U) (hb _ _ _ _ ?_)
 refine wpAny_newFunctionEnv_cells S.kind c λenv D s1 x=>?_
 subst D;refine⟨p.keeps x.toInCall.keep,codeAny_func ?_⟩
 obtain⟨t,ρ,G⟩:=O A outer s H vs Q E (m.deeper _) j;have I:Inv (tX CX P w K mg base N K1 X0 f cdv A outer s H E) [] (start N vs) H s1:=B9 S m.hd d F r x;refine za6 (ρ [] s1 (start N vs) H _ I G) (λfl s' hs=>?_) λe s' hs=>hs
 have h:∀{a:St} {H':Hp} {v:V} {u:Value},Inv (tX CX P w K mg base N K1 X0 f cdv A outer s H E) [] a H' s'->RelV v u->Q v H'->CE outer P w H s Q u s' :=
  fun{a H' v u} σ B q=>⟨v,H',σ.os,σ.bare,σ.base,σ.hok,B,q⟩
 cases fl with
 |ret u=>
  obtain⟨v,a,H',σ,B,q⟩:=hs;exact h σ B q
 |next=>
  obtain⟨a,H',σ,q⟩:=hs;exact h (v:=V.non) σ rfl q
 |brk=>
  obtain⟨_,_,_,q⟩:=hs;exact False.elim q
 |cont=>
  obtain⟨_,_,_,q⟩:=hs;exact False.elim q
section
variable{X:Cx}{x:Str}{p pos:Pos}{e:Expr}{es:List Expr}{t:TA}{id T:String}{r:List V->Hp->VK->Prop}
def tCB(r:List V->Hp->VK->Prop)(t:TA):TE:=λJ H Q=>t J H λvs h=>r vs h Q
theorem fu(M:cE X (.builtin id) r)(U:Gl X x)(hm:X.mg x=none)(Y:bootBuiltins x=some (.builtin id))(ha:PA X (e::es) t)(hn:x≠"__name__":=by decide)(g:(x==("__debug__":Str))=false:=by decide)
  (O:starEach (e::es) X.env=(false,eval e X.env)::starEach es X.env:=by rfl) (l:(backTo pos<|starEach es X.env).any (·.1)=false:=by rfl):PE X (.Call (.Name x p) (e::es) [] pos) (tCB r t):=by
 intro U0 s J H Q I h;refine wpAny_Call_Name_kw (gX I U hm Y ?_ hn g);exact PyProof.Rows.callWith_builtin1 (thn (ha pos U0 s J H _ I h) λus s1 ⟨vs,a,b,d,c⟩=>M U0 s1 J a vs us Q b d c) O l
theorem ie(M:cE X (.type T) r)(U:Gl X x)(hm:X.mg x=none)(Y:bootBuiltins x=some (.type T))(ha:PA X (e::es) t)(hn:x≠"__name__":=by decide)(g:(x==("__debug__":Str))=false:=by decide)
  (O:starEach (e::es) X.env=(false,eval e X.env)::starEach es X.env:=by rfl) (l:(backTo pos<|starEach es X.env).any (·.1)=false:=by rfl):PE X (.Call (.Name x p) (e::es) [] pos) (tCB r t):=by
 intro U0 s J H Q I h;refine wpAny_Call_Name_kw (gX I U hm Y ?_ hn g);exact PyProof.Rows.callWith_type1 (thn (ha pos U0 s J H _ I h) λus s1 ⟨vs,a,b,d,c⟩=>M U0 s1 J a vs us Q b d c) O l
end
end L2
namespace HT
open PyProof.Rows
def DX(A:Around)(s:Shared)(a:Int)(t:Tok)(c:Int)(u:Tok)(prog:Program)(w:World)(E:Value->Shared->Prop)(Q:Value->Shared->Prop)(h:Q (.bool<|decide<|a<c) s) :
  wpAny (model prog w) A (richCompare .Lt (.int a t)<|.int c u) Q E s :=
 (PyProof.Rows.lt_int h:wpAny (model prog w) A (compareOp .Lt (.int a t)<|.int c u) Q E s)
section
open PySem.SeqAt
open PySem.AutoSeq1 (wpAny_loadPart')
open PySem.MeetsSeq PySem.MeetsSeq2 PySem.MeetsSeq3
end
section
variable{prog:Program}{w:World}{A:Around}{E:Value->Shared->Prop}{s:Shared}
theorem Hy(U:IsTup s.heap t vs.toArray)(hb:IsTup s.heap b g.toArray)(I:vs≠[])
  (M:g=[]->Q (.ref t) s) (O:g≠[]->Q (.ref s.heap.objs.size) {s with heap:=s.heap.push {cls:=.type "tuple",data:=.seq (vs++g).toArray}})
  (l:vs.length+g.length<=sizeLine):wpAny (model prog w) A (binaryOp .Add (.ref t)<|.ref b) Q E s:=by
 obtain⟨⟨cls,k,data,sl⟩,ho,m,n,hd⟩:=id U;obtain⟨⟨j,c,data2,d⟩,a,h,n2,i⟩:=id hb;subst m hd h i;have e:vs.toArray++g.toArray=(vs++g).toArray:=by simp
 by_cases f:g=[]
 .exact concat_meets ⟨_,ho,rfl⟩ ⟨_,a,rfl⟩ noFill_tuple_add seq_tuple_add PySem.F.slot_tuple_add PySem.F.entry_tuple_add (PySem.F.args_tuple_add_2 _ _)
   (tuple_addW1 t b vs.toArray g.toArray n n2 k c sl d (by simpa using I) (by simp[f])) ⟨ho,a,M f⟩
 .refine concat_meets ⟨_,ho,rfl⟩ ⟨_,a,rfl⟩ noFill_tuple_add seq_tuple_add PySem.F.slot_tuple_add PySem.F.entry_tuple_add (PySem.F.args_tuple_add_2 _ _)
   (tuple_addW2 t b vs.toArray g.toArray n n2 k c sl d (by simpa using I) (by simpa using f) (by rw[zaK,zaK];exact l)) ⟨ho,a,?_⟩
  rw[e];exact O f
noncomputable def sIx(n d:Nat):Option Int->Nat
 |none=>d
 |some v=>if v<0 then(v+(n:Int)).toNat else min v.toNat n
end
end HT
namespace L2
open PySem.Spec PyProof.Rows
abbrev TO:=St->Hp->(Option Int->Hp->Prop)->Prop
def PO(X:Cx)(e:Option Expr)(t:TO):Prop :=
 ∀(U0:List<|Addr×Obj) (s:Shared) (J:St) (H:Hp) (Q:Option Int->Hp->Prop),Inv X U0 J H s->t J H Q->
  wpAny (model X.prog X.w) X.A (evalPart e X.env) (λu s'=>∃o H',Inv X U0 J H' s'/\IsPart u o/\Q o H') X.xe s
def K7(t:TE):TO:=λJ H Q=>t J H λx e=>∃i,x=.int i/\Q (some i) e
section
variable{X:Cx}{e:Expr}{te:TE}{lo hi:Option Expr}{tl th:TO}{pos p2:Pos}
theorem Hz(h:PE X e te):PO X (some e) (K7 te):=by
 intro U0 s J H Q I c;refine thn (h U0 s J H _ I c) λu s1 ⟨x,a,b,f,d⟩=>?_
 obtain⟨i,rfl,q⟩:=d;obtain⟨t,rfl⟩:=f;exact⟨some i,a,b,.int i t,q⟩
def SlR(X:Cx)(r:V->Option Int->Option Int->Hp->VK->Prop):Prop :=
 ∀(U0:List<|Addr×Obj) (s:Shared) (J:St) (H:Hp) (x:V) (v h j:Value) (lo hi:Option Int) (sl:Addr) (Q:VK),Inv X U0 J H s->RelV x v->s.heap.IsSliceOf sl h j .none->IsPart h lo->IsPart j hi->r x lo hi H Q->
  ∃T id,typeLookup (.type T) "__getitem__"=pure (some<|.builtin id)/\s.TypeIs v T/\wpAny (model X.prog X.w) X.A (getItem v<|.ref sl) (EP X U0 J Q) X.xe s
def tSl(r:V->Option Int->Option Int->Hp->VK->Prop)(te:TE)(tl th:TO):TE:=λJ H Q=>te J H λx h=>tl J h λl j=>th J j λu q=>r x l u q Q
theorem DY(O:SlR X r)(g:PE X e te)(M:PO X lo tl)(U:PO X hi th):PE X (.Subscript e (.Slice lo hi none p2) pos) (tSl r te tl th):=by
 intro U0 s J H Q I h;refine Subscript_ (thn (g U0 s J H _ I h) λv s1 ⟨x,i,k,D,A⟩=>?_)
 refine wpAny_Slice (thn (M U0 s1 J i _ k A) λc s2 ⟨l,j,m,pl,B⟩=>thn (U U0 s2 J j _ m B) λd a ⟨u,f,n,y,C⟩=>?_)
 refine zaZ ?_;have o:Inv X U0 J f {a with heap:=a.heap.push {cls:=.type "slice",data:=.fields #[c,d,.none]}}:=n.kept λb ob q=>zar _ q
 obtain⟨T,id,p,w,t⟩:=O U0 {a with heap:=a.heap.push {cls:=.type "slice",data:=.fields #[c,d,.none]}} J f x v c d l u a.heap.objs.size Q o D (Heap.IsSliceOf.new ..) pl y C
 exact tail_any w p t (by with_unfolding_all rfl)
def DZ(xs:List V)(lo hi:Option Int):List V:=(xs.drop<|HT.sIx xs.length 0 lo).take (HT.sIx xs.length xs.length hi-HT.sIx xs.length 0 lo)
theorem wt(xs:List V)(lo hi:Option Int):(DZ xs lo hi).length<=xs.length:=by
 unfold DZ;rw[List.length_take,List.length_drop]
 lia
def K8(K:zag):R2:=λx y H Q=>∃a b xs h,x=.ref a/\y=.ref b/\SqT K H a xs/\SqT K H b h/\xs≠[]/\xs.length+h.length<=sizeLine/\
 (h=[]->Q (.ref a) H)/\(h≠[]->∀p,H p=none->Q (.ref p) (upd H p<|.tup<|xs++h))
theorem Vals.tY(r:Vals xs us):us=[]↔xs=[]:=by
 cases r with
 |nil=>simp
 |cons _ _=>simp
theorem HA:OpR X (binaryOp .Add) (K8 X.K):=by
 intro U0 s J H x y v u Q I o p h;obtain⟨a,b,xs,t,rfl,rfl,ha,hb,j,f,m,n⟩:=h;cases o;cases p;obtain⟨r,d,k,_⟩:=I.tuple ha;obtain⟨i,c,p2,_⟩:=I.tuple hb;refine HT.Hy k p2 (λz=>j<|d.tY.mp z) (λz=>⟨.ref a,H,I,rfl,m<|c.tY.mp z⟩) (λz=>?_) (by rw[<-d.length,<-c.length];exact f)
 refine⟨.ref s.heap.objs.size,_,I.laid (λb ob q=>zar _ q) (zap _) ?_,rfl,n (λw=>z<|c.tY.mpr w) _<|I.hok.fresh<|zap _⟩
 exact⟨by rw[zau];exact f,_,d.append c,IsTup.new _ _,_,zaL _ rfl,rfl⟩
end
noncomputable def ixN(n:Nat)(i:Int):Option Nat:=if 0<=i then(if i<n then some i.toNat else none)else if-(n:Int)<=i then some (i+n).toNat else none
def atI{α:Type}(xs:List α)(i:Int):Option α:=(ixN xs.length i).bind λj=>xs[j]?
theorem HB(h:ixN n i=some j):seqIndex? i n=some j/\j<n/\-(n:Int)<=i/\i<n:=by
 unfold ixN at h
 by_cases b : 0<=i
 .rw[if_pos b]at h
  by_cases a:i<n
  .rw[if_pos a]at h
   have e:=zaQ h;exact⟨by rw[seqIndex_of b a,e],by lia,by lia,a⟩
  .rw[if_neg a]at h;cases h
 .rw[if_neg b]at h
  by_cases a : -(n:Int)<=i
  .rw[if_pos a]at h
   have e:=zaQ h;exact⟨by rw[seqIndex_neg (by lia) a,e],by lia,a,by lia⟩
  .rw[if_neg a]at h;cases h
theorem tZ(h:atI xs i=some v):∃j,seqIndex? i xs.length=some j/\xs[j]?=some v/\j<xs.length/\-(xs.length:Int)<=i/\i<xs.length:=by
 unfold atI at h;cases e:ixN xs.length i with
 |none=>rw[e]at h;cases h
 |some j=>
  rw[e]at h;obtain⟨a,b,h3,h4⟩:=HB e;exact⟨j,a,h,b,h3,h4⟩
theorem kF{j:Nat}{v : α}(h:xs[j]?=some v):atI xs (j:Int)=some v:=by
 have a:=(zac h).1;have e:ixN xs.length (j:Int)=some j:=by
  unfold ixN;rw[if_pos (by lia),if_pos (by lia)];simp
 unfold atI;rw[e];exact h
theorem wu(xs:List α)(v : α):atI (xs++[v]) (-1)=some v:=by
 have a:(xs++[v]).length=xs.length+1:=by simp
 have e:ixN (xs++[v]).length (-1)=some xs.length:=by
  unfold ixN;rw[a,if_neg (by decide),if_pos (by lia)]
  congr 1
  lia
 unfold atI;rw[e];simp
def HC(b:Expr):Prop:=∀o i,subscripted b false o i=operate [o,i] (getItem o i)
def IxR(X:Cx)(r:R2):Prop :=
 ∀(h e:Expr) (U0:List<|Addr×Obj) (s:Shared) (J:St) (H:Hp) (x y:V) (v u:Value) (Q:VK),Inv X U0 J H s->RelV x v->RelV y u->r x y H Q->
  subscripted e false v u=operate [v,u] (getItem v u)->wpAny (model X.prog X.w) X.A (subscriptTail h e v u) (EP X U0 J Q) X.xe s
def MtR(X:Cx)(id:String)(r:V->List V->Hp->VK->Prop):Prop :=
 ∀(U0:List<|Addr×Obj) (s:Shared) (J:St) (H:Hp) (x:V) (xs:List V) (v:Value) (us:List Value) (Q:VK),Inv X U0 J H s->RelV x v->Vals xs us->r x xs H Q->
  wpAny (model X.prog X.w) X.A (call (.builtin id) (v::us)) (EP X U0 J Q) X.xe s
section
variable{X:Cx}{a b:Expr}{ta tb:TE}{pos:Pos}
theorem IxR.or(h:IxR X r)(h':IxR X g):IxR X (λx y H Q=>r x y H Q\/g x y H Q):=by
 intro d c U0 s J H x y v u Q I e f q hs;rcases q with q|q
 .exact h d c U0 s J H x y v u Q I e f q hs
 .exact h' d c U0 s J H x y v u Q I e f q hs
theorem K9(g:IxR X r)(ha:PE X a ta)(hb:PE X b tb)(hs:HC b):PE X (.Subscript a b pos) (tOp r ta tb):=by
 intro U0 s J H Q I h;exact Subscript_ (Md ha hb I h λv u s2 x y c d e f q=>g a b U0 s2 J c x y v u Q d e f q<|hs _ _)
def O2(K:zag):R2:=λx y H Q=>∃p xs i v,x=.ref p/\y=.int i/\SqL K H p xs/\atI xs i=some v/\Q v H
def O3(K:zag):R2:=λx y H Q=>∃p xs i v,x=.ref p/\y=.int i/\SqT K H p xs/\atI xs i=some v/\Q v H
def O4:R2:=λx y H Q=>∃z i c,x=.str z/\y=.int i/\z.length<=sizeLine/\atI z.cps.toList i=some c/\Q (.str ⟨#[c]⟩) H
theorem HE:IxR X (O2 X.K):=by
 intro m k U0 s J H x y v u Q I G σ h hs;obtain⟨p,xs,i,z,rfl,rfl,F,D,q⟩:=h;cases G;obtain⟨t,rfl⟩:=σ;obtain⟨A,r,pl,ρ⟩:=I.list F;obtain⟨j,d,B,h3,h4,C⟩:=tZ D;obtain⟨w,n,f⟩:=r.get B;have E:=r.length;have hn:=o7;have c:EP X U0 J Q w s:=⟨z,H,I,f,q⟩
 by_cases o : 0<=i
 .have e:i.toNat=j:=by
   rw[seqIndex_of o C]at d;exact zaQ d
  exact item_listR pl.isList o (by lia) (by rw[e];simpa using n) c hs
 .have e:(i+(A.toArray.size:Int)).toNat=j:=by
   rw[seqIndex_neg (by lia) h4]at d
   rw[zaK,<-E];exact zaQ d
  exact subscriptTail_builtinR pl.isList.typeIs slot_list_getitem.lookup
   (wpAny_getItem_list_neg pl.isList (by lia) (by rw[zaK]<;>lia) (by lia) (by rw[e];simpa using n) ⟨rfl,c⟩) hs
theorem Mr:IxR X (O3 X.K):=by
 intro f e U0 s J H x y v u Q I C D h hs;obtain⟨p,xs,i,z,rfl,rfl,B,o,q⟩:=h;cases C;obtain⟨t,rfl⟩:=D;obtain⟨E,r,pl,G⟩:=I.tuple B;obtain⟨j,m,n,h3,h4,F⟩:=tZ o;obtain⟨w,k,d⟩:=r.get n;have A:=r.length;have hn:=o7;have c:EP X U0 J Q w s:=⟨z,H,I,d,q⟩;exact subscriptTail_builtinR pl.typeIs slot_tuple_getitem.lookup
  (getItem_tuple pl (by lia) (by lia) (by rw[zaK,<-A];exact m) (by simpa using k) ⟨rfl,c⟩) hs
theorem Ms:IxR X O4:=by
 intro e d U0 s J H x y v u Q I w A h hs;obtain⟨z,i,c,rfl,rfl,B,p,q⟩:=h;obtain⟨t,rfl⟩:=w;obtain⟨C,rfl⟩:=A;obtain⟨j,f,n,h3,h4,o⟩:=tZ p;have r:z.cps.toList.length=z.length:=by simp[Str.length]
 rw[r]at f h4 o;have hn:=o7;exact tail_any (typeIs_str s z t) slot_str_getitem.lookup (getItem_str (by
  have k:decide (i< -(2^63:Int))=false:=zaO (by lia)
  have m:decide (i>=2^63)=false:=zaO (by lia)
  rw[k,m,Bool.or_false]) (by rw[f];simpa using n) ⟨.str ⟨#[c]⟩,H,I.tok _,⟨_,rfl⟩,q⟩) hs
def rIx(K:zag):R2:=λx y H Q=>O2 K x y H Q\/O3 K x y H Q\/O4 x y H Q
def Mt:IxR X (rIx X.K):=HE.or (Mr.or Ms)
theorem t5(lo hi:Option Int)(n:Nat):(sliceBounds lo hi none n).1=((HT.sIx n 0 lo:Nat):Int)/\(sliceBounds lo hi none n).2.1=((HT.sIx n n hi:Nat):Int)/\(sliceBounds lo hi none n).2.2=1:=by
 refine⟨?_,?_,rfl⟩
 .cases lo with
  |none=>simp[sliceBounds,HT.sIx]
  |some i=>
   simp only[sliceBounds,HT.sIx,Option.getD_none,show(1:Int)>0 by decide,if_true]
   by_cases h:i<0
   .simp only[h,if_true]<;>lia
   .simp only[h,if_false]<;>lia
 .cases hi with
  |none=>simp[sliceBounds,HT.sIx]
  |some i=>
   simp only[sliceBounds,HT.sIx,Option.getD_none,show(1:Int)>0 by decide,if_true]
   by_cases h:i<0
   .simp only[h,if_true]<;>lia
   .simp only[h,if_false]<;>lia
theorem rd(g:List Value)(lo hi:Option Int):slicePick g.toArray lo hi none=((g.drop<|HT.sIx g.length 0 lo).take<|HT.sIx g.length g.length hi-HT.sIx g.length 0 lo).toArray:=by
 obtain⟨c,d,h3⟩:=t5 lo hi g.toArray.size;unfold slicePick;rw[c,d,h3];simp only[sliceRange_one,pick_run,List.size_toArray]<;>rfl
def Mu(K:zag):V->Option Int->Option Int->Hp->VK->Prop:=λx lo hi H Q=>∃a xs,x=.ref a/\SqL K H a xs/\∀p,H p=none->Q (.ref p) (upd H p<|.lst<|DZ xs lo hi)
theorem HF:SlR X (Mu X.K):=by
 intro U0 s J H x v m n lo hi sl Q I j hs pl i h;obtain⟨a,xs,rfl,e,q⟩:=h;cases j;obtain⟨k,r,d,f⟩:=I.list e;have c:=r.length;refine⟨"list",_,slot_list_getitem.lookup,d.isList.typeIs,?_⟩;refine wpAny_getItem_list_slice d.isList hs pl i .none (by simp) ?_ (by rw[zaK]<;>lia)
 rw[rd,<-c];refine⟨.ref s.heap.objs.size,_,I.laid (λb ob q=>zar _ q) (zap _) ?_,rfl,q _<|I.hok.fresh<|zap _⟩
 exact⟨zaX (wt xs lo hi) f,_,0,(r.drop<|HT.sIx xs.length 0 lo).take<|HT.sIx xs.length xs.length hi-HT.sIx xs.length 0 lo,zaL _ rfl⟩
def ig:V->Bool
 | .non=>true
 | .bl _=>true
 | .int _=>true
 | .str _=>true
 |_=>false
noncomputable def eqV:V->V->Bool
 | .non,.non=>true
 | .bl a,.bl b=>a==b
 | .bl a,.int b=>(if a then 1 else 0)==b
 | .int a,.bl b=>a==(if b then 1 else 0)
 | .int a,.int b=>a==b
 | .str a,.str b=>a==b
 |_,_=>false
theorem Mv(l:RelV y u)(g:RelV x v)(I:ig y=true)(fx:ig x=true):SeqAt.EqAt A s u v (eqV y x):=by
 cases y with
 |non=>
  cases l;cases x with
  |non=>cases g;exact SeqAt.EqAt.same _
  |bl b=>cases g;exact SeqAt.EqAt.none_bool b
  |int b=>obtain⟨t,rfl⟩:=g;exact SeqAt.EqAt.none_int b t
  |str b=>obtain⟨t,rfl⟩:=g;exact SeqAt.EqAt.none_str b t
  |_=>exact absurd (fx) zam
 |bl a=>
  cases l;cases x with
  |non=>cases g;exact SeqAt.EqAt.bool_none a
  |bl b=>cases g;exact SeqAt.EqAt.bool_bool a b
  |int b=>obtain⟨t,rfl⟩:=g;exact SeqAt.EqAt.bool_int a b t
  |str b=>obtain⟨t,rfl⟩:=g;exact SeqAt.EqAt.bool_str a b t
  |_=>exact absurd (fx) zam
 |int a=>
  obtain⟨c,rfl⟩:=l;cases x with
  |non=>cases g;exact SeqAt.EqAt.int_none a c
  |bl b=>cases g;exact SeqAt.EqAt.int_bool a c b
  |int b=>obtain⟨t,rfl⟩:=g;exact SeqAt.EqAt.int_int a c b t
  |str b=>obtain⟨t,rfl⟩:=g;exact SeqAt.EqAt.int_str a c b t
  |_=>exact absurd (fx) zam
 |str a=>
  obtain⟨c,rfl⟩:=l;cases x with
  |non=>cases g;exact SeqAt.EqAt.str_none a c
  |bl b=>cases g;exact SeqAt.EqAt.str_bool a c b
  |int b=>obtain⟨t,rfl⟩:=g;exact SeqAt.EqAt.str_int a c b t
  |str b=>obtain⟨t,rfl⟩:=g;exact SeqAt.EqAt.str_str a c b t
  |_=>exact absurd (fx) zam
 |_=>exact absurd (I) zam
def eqU(x:V)(u:Value):Bool:=match u with
 | .none=>eqV .non x
 | .bool b=>eqV (.bl b) x
 | .int i _=>eqV (.int i) x
 | .str z _=>eqV (.str z) x
 |_=>false
theorem y8(r:RelV y u)(f:ig y=true):eqU x u=eqV y x:=by
 cases y with
 |non=>cases r;rfl
 |bl b=>cases r;rfl
 |int i=>obtain⟨t,rfl⟩:=r;rfl
 |str z=>obtain⟨t,rfl⟩:=r;rfl
 |_=>exact absurd (f) zam
theorem uc:∀{xs:List V} {us:List Value},Vals xs us->xs.all ig=true->us.any (eqU x)=xs.any λy=>eqV y x
 |_,_,.nil,_=>rfl
 |y::xs,u::us,.cons r t,f=>by
  rw[List.all_cons,Bool.and_eq_true]at f;rw[List.any_cons,List.any_cons,y8 r f.1,uc t f.2]
theorem lM(g:RelV x v)(fx:ig x=true):∀{xs:List V} {us:List Value},Vals xs us->xs.all ig=true->∀u∈us,SeqAt.EqAt A s u v (eqU x u)
 |_,_,.nil,_=>λu c=>by cases c
 |y::xs,u::us,.cons r t,f=>λd c=>by
  rw[List.all_cons,Bool.and_eq_true]at f;rcases zaf c with rfl|c
  .rw[y8 r f.1];exact Mv r g f.1 fx
  .exact lM g fx t f.2 d c
def inV(x:V)(xs:List V):Bool:=xs.any λy=>eqV y x
def rIn(K:zag)(neg:Bool):R2:=λx y H Q=>∃p xs,y=.ref p/\(SqL K H p xs\/SqT K H p xs)/\ig x=true/\xs.all ig=true/\Q (.bl<|if neg then !inV x xs else inV x xs) H
theorem Ca:OpR X (compareOp .In) (rIn X.K false):=by
 intro U0 s J H x y v u Q I f j h;obtain⟨p,xs,rfl,d,fx,fs,q⟩:=h;cases j;rcases d with d|d
 .obtain⟨c,r,pl,i⟩:=I.list d
  refine SeqAt.in_listAt (eqU x) pl.isList (λw e=>lM f fx r fs w (by simpa using e)) ⟨.bl _,H,I,rfl,?_⟩
  rw[show c.toArray.any (eqU x)=c.any (eqU x) by simp,uc r fs]
  exact q
 .obtain⟨c,r,pl,i⟩:=I.tuple d
  refine SeqAt.in_tupleAt (eqU x) pl (λw e=>lM f fx r fs w (by simpa using e)) ⟨.bl _,H,I,rfl,?_⟩
  rw[show c.toArray.any (eqU x)=c.any (eqU x) by simp,uc r fs]
  exact q
theorem ud:cE X (.builtin "len") (λxs H Q=>∃p g,xs=[.ref p]/\(SqL X.K H p g\/SqT X.K H p g)/\Q (.int g.length) H):=by
 intro U0 s J H xs us Q I r h;obtain⟨p,g,rfl,d,q⟩:=h;obtain⟨u,rfl,j⟩:=vals1 r;cases j;have hn:=o7;rcases d with d|d
 .obtain⟨f,e,pl,i⟩:=I.list d
  have c:=e.length;exact Calls.call_len_list pl.isList (by simp only[List.size_toArray]<;>lia) ⟨.int g.length,H,I.tok _,⟨s.toks+1,by rw[zaK,c]⟩,q⟩
 .obtain⟨f,e,pl,i⟩:=I.tuple d
  have c:=e.length;exact len_tuple pl (by simp only[List.size_toArray]<;>lia) ⟨.int g.length,H,I.tok _,⟨s.toks+1,by rw[zaK,c]⟩,q⟩
theorem ue:cE X (.builtin "len") (λxs H Q=>∃z,xs=[.str z]/\z.length<=sizeLine/\Q (.int z.length) H):=by
 intro U0 s J H xs us Q I r h;obtain⟨z,rfl,c,q⟩:=h;obtain⟨u,rfl,t,rfl⟩:=vals1 r;have hn:=o7;exact len_str (by lia) ⟨.int z.length,H,I.tok _,⟨_,rfl⟩,q⟩
theorem cE.or(h:cE X f r)(h':cE X f g):cE X f (λxs H Q=>r xs H Q\/g xs H Q):=by
 intro U0 s J H xs us Q I rs q;rcases q with q|q
 .exact h U0 s J H xs us Q I rs q
 .exact h' U0 s J H xs us Q I rs q
theorem uf:cE X (.type "list") (λxs H Q=>∃p g,xs=[.ref p]/\(SqL X.K H p g\/SqT X.K H p g)/\∀l,H l=none->Q (.ref l) (upd H l<|.lst g)):=by
 intro U0 s J H xs us Q I r h;obtain⟨p,g,rfl,j,q⟩:=h;obtain⟨u,rfl,t⟩:=vals1 r;cases t;have f:∀(c:List Value),Vals g c->g.length<=sizeLine->∀(h':Heap) (c':Nat),(∀b o',s.heap.get? b=some o'->h'.get? b=some o')->
   h'.get? s.heap.objs.size=some {cls:=.type "list",dict:=none,data:=.seq c.toArray c',slots:=#[]}->EP X U0 J Q (.ref s.heap.objs.size) {s with heap:=h'}:=λc d k h' c' kp e=>
  ⟨.ref s.heap.objs.size,_,I.laid kp (zap _)<|show cu X.prog X.w _ h' _ (.lst g)from⟨k,c,c',d,e⟩,rfl,q _<|I.hok.fresh<|zap _⟩
 rcases j with j|j
 .obtain⟨c,d,pl,k⟩:=I.list j
  have i:=d.length;obtain⟨o,ho,m,n,hd⟩:=pl.isList;exact call_list_seq p (.inl rfl) ho m hd (λh' c' kp e=>f c d k h' c' kp e) (by simp only[List.size_toArray]<;>lia)
 .obtain⟨c,d,pl,k⟩:=I.tuple j
  have i:=d.length;obtain⟨o,ho,m,n,hd⟩:=pl;exact call_list_seq p (.inr rfl) ho m hd (λh' c' kp e=>f c d k h' c' kp e) (by simp only[List.size_toArray]<;>lia)
theorem rf:cE X (.type "tuple") (λxs H Q=>∃p g,xs=[.ref p]/\((SqL X.K H p g/\∀l,H l=none->Q (.ref l) (upd H l<|.tup g))\/(SqT X.K H p g/\Q (.ref p) H))):=by
 intro U0 s J H xs us Q I r h;obtain⟨p,g,rfl,h⟩:=h;obtain⟨u,rfl,n⟩:=vals1 r;cases n;rcases h with⟨d,q⟩|⟨d,q⟩
 .obtain⟨c,f,pl,k⟩:=I.list d
  have j:=f.length;refine call_tuple_list pl.isList (λh' kp=>?_) (by simp only[List.size_toArray]<;>lia)
  have i:Inv X U0 J H {s with heap:=h'}:=I.kept kp
  have m:Inv X U0 J (upd H h'.objs.size<|.tup g) {s with heap:=h'.push {cls:=.type "tuple",data:=.seq c.toArray}} :=
   i.laid (λb o e=>zar _ e) (zap _) (⟨k,c,f,IsTup.new _ _,_,zaL _ rfl,rfl⟩)
  exact⟨.ref h'.objs.size,_,m,rfl,q _<|i.hok.fresh<|zap _⟩
 .obtain⟨c,f,pl,k⟩:=I.tuple d
  exact call_tuple_same pl ⟨.ref p,H,I,rfl,q⟩
def tyV(K:zag)(T:String)(x:V)(H:Hp):Prop:=match x with
 | .str _=>T="str"
 | .int _=>T="int"
 | .ref p=>(T="list"/\∃xs,SqL K H p xs)\/(T="tuple"/\∃o,K.lookup p=some o/\o.cls=.type "tuple"/\o.dict=none)\/
   (T="dict"/\((∃V0,H p=some (.dK V0))\/∃V0,H p=some (.dT V0)))\/(T="set"/\∃S n,H p=some (.set S n))
 |_=>False
theorem D1{J:St}{s:Shared}{T:String}{x:V}{v:Value}(I:Inv X U0 J H s)(r:RelV x v)(ty:tyV X.K T x H) :
  s.TypeIs v T/\∀a,v=.ref a->∃ob,s.heap.get? a=some ob/\ob.dict=none:=by
 cases x with
 |str z=>
  obtain⟨t,rfl⟩:=r;cases(ty);exact⟨typeIs_str s z t,λ_ e=>nomatch e⟩
 |int i=>
  obtain⟨t,rfl⟩:=r;cases(ty);exact⟨typeIs_int s i t,λ_ e=>nomatch e⟩
 |ref p=>
  cases r;rcases ty with⟨rfl,xs,h⟩|⟨rfl,o,hk,f,hd⟩|⟨rfl,hk⟩|⟨rfl,S,n,hk⟩
  .obtain⟨j,_,pl,_⟩:=I.list h
   refine⟨pl.isList.typeIs,λa e=>?_⟩
   cases e;obtain⟨o,n,e,c,hd,_⟩:=pl;exact⟨o,e,hd⟩
  .refine⟨⟨o,I.kIn p o hk,f⟩,λa e=>?_⟩
   cases e;exact⟨o,I.kIn _ o hk,hd⟩
  .have z:∃o,s.heap.get? p=some o/\o.ExactDict:=by
    rcases hk with⟨V0,hk⟩|⟨V0,hk⟩
    .obtain⟨_,_,_,_,o,_,_,e,ex,_⟩:=I.hok p _ hk
     exact⟨o,e,ex⟩
    .obtain⟨_,_,_,_,o,_,_,e,ex,_⟩:=I.hok p _ hk
     exact⟨o,e,ex⟩
   obtain⟨o,e,ex⟩:=z;refine⟨⟨o,e,ex.1⟩,λa d=>?_⟩
   cases d;exact⟨o,e,ex.2.1⟩
  .obtain⟨o,_,_,_,e,ex,_⟩:=I.hok p _ hk
   refine⟨⟨o,e,ex.1⟩,λa d=>?_⟩
   cases d;exact⟨o,e,ex.2.1⟩
 |_=>exact False.elim ty
def Mw(K:zag)(T:String)(r:V->List V->Hp->VK->Prop)(to:TE):TE:=λJ H Q=>to J H λx e=>tyV K T x e/\r x [] e Q
def tBM(K:zag)(T:String)(r:V->List V->Hp->VK->Prop)(to:TE)(t:TA):TE:=λJ H Q=>to J H λx e=>tyV K T x e/\t J e λxs h=>r x xs h Q
variable{o e:Expr}{es:List Expr}{to:TE}{t:TA}{name:Str}{apos U1:Pos}{T id:String}{r:V->List V->Hp->VK->Prop}
theorem My(O:PlainAttrs T)(slot:Slot T name id)(M:typeOf (.builtin id)=pure (.type "method_descriptor"))(hm:MtR X id r)(ho:PE X o to)
  (g:attributeBase o name X.env (eval o X.env)=eval o X.env:=by rfl) (l:(apos.endLine==U1.line)=true:=by rfl):PE X (.Call (.Attribute o name apos) [] [] U1) (Mw X.K T r to):=by
 intro U0 s J H Q I h;refine wpAny_Call_method0_late g l (thn (ho U0 s J H _ I h) λv s1 ⟨x,f,c,d,ty,k⟩=>?_)
 obtain⟨i,j⟩:=D1 c d ty;exact⟨T,id,O,slot,M,i,j,Calls.callWith_builtin rfl<|PySem.evalArgs_none<|hm U0 s1 J f x [] v [] Q c d .nil k⟩
theorem O5(Y:PlainAttrs T)(slot:Slot T name id)(U:typeOf (.builtin id)=pure (.type "method_descriptor"))(hm:MtR X id r)(ho:PE X o to)(ha:PA X (e::es) t)
  (l:attributeBase o name X.env (eval o X.env)=eval o X.env:=by rfl)
  (O:((backTo U1<|starEach (e::es) X.env).all (λx=>!x.1)&&(backToKw U1<|keywordEach [] X.env).all (λx=>x.1.isSome)
   &&decide ((e::es).length+([]:List Keyword).length+(if([]:List Keyword).isEmpty then 0 else 1)<30))=true:=by rfl)
  (M:(apos.endLine==U1.line)=true:=by rfl) (hs:starEach (e::es) X.env=(false,eval e X.env)::starEach es X.env:=by rfl) (g:(backTo U1<|starEach es X.env).any (·.1)=false:=by rfl) :
  PE X (.Call (.Attribute o name apos) (e::es) [] U1) (tBM X.K T r to t):=by
 intro U0 s J H Q I h;refine wpAny_Call_method_late l O M rfl (thn (ho U0 s J H _ I h) λv s1 ⟨x,i,c,f,ty,p⟩=>?_)
 obtain⟨m,n⟩:=D1 c f ty;refine⟨T,id,Y,slot,U,m,n,?_⟩;have d:=ha U1 U0 s1 J i _ c p;rw[hs]at d⊢;refine Calls.callWith_builtin (by show(false||(backTo U1<|starEach es X.env).any (·.1))=false;rw[g]<;>rfl) (Calls.evalArgs_plain ?_)
 exact thn d λus s2 ⟨vs,j,k,u,q⟩=>hm U0 s2 J j x vs v us Q k f u q
end
def MtM(X:Cx)(id:String)(r:V->List V->Hp->VK->Prop):Prop :=
 ∀(U0:List<|Addr×Obj) (s:Shared) (J:St) (H:Hp) (x:V) (xs:List V) (v:Value) (us:List Value) (Q:VK),Inv X U0 J H s->RelV x v->Vals xs us->r x xs H Q->
  wpAny (model X.prog X.w) X.A (call (.builtin id) (v::us)) (EP X U0 J Q) X.xe s
def Vals.one{x:V}{us}(h:Vals [x] us):=vals1 h
def Vals.zero:∀{us:List Value},Vals [] us->us=[]
 |_,.nil=>rfl
theorem Vals.reverse(h:Vals xs us):Vals xs.reverse us.reverse:=by
 induction h with
 |nil=>exact .nil
 |cons r t a=>rw[List.reverse_cons,List.reverse_cons];exact Vals.append a (.cons r .nil)
theorem Vals.rep(h:Vals xs us):∀k:Nat,Vals (List.replicate k xs).flatten (List.replicate k us).flatten
 |0=>.nil
 |k+1=>by
  exact Vals.append h (Vals.rep h k)
theorem foldl_rep(g:List Value):∀(k:Nat) (l:List Value),
  List.foldl (λI M=>I++M) l.toArray (List.replicate k g.toArray)=(l++(List.replicate k g).flatten).toArray
 |0,l=>by simp
 |k+1,l=>by
  have e:l.toArray++g.toArray=(l++g).toArray:=by simp
  have a:(l++g)++(List.replicate k g).flatten=l++(List.replicate (k+1) g).flatten:=by
   rw[zbc,List.flatten_cons,zaD]
  rw[<-a,<-foldl_rep g k (l++g),<-e,zbc,List.foldl_cons]
section
variable{X:Cx}{U0:List<|Addr×Obj}{J:St}{H:Hp}{s:Shared}{l b:Addr}{xs ys zs:List V}
theorem Inv.Mz{g its':List Value}{t':Nat}(I:Inv X U0 J H s)(M:H l=some (.lst xs))
  (e:s.heap.get? l=some {cls:=.type "list",data:=.seq g.toArray n}) (O:f g.toArray=its'.toArray) (U:Vals ys its') (Y:ys.length<=sizeLine) :
  Inv X U0 J (upd H l<|.lst ys) {s with heap:=s.heap.update l<|Obj.mapSeq f,toks:=t'}:=by
 have q:=PySem.IsL.update e f;rw[O]at q;refine I.write (by rw[M];exact trivial) (.inl rfl) (λc u hb a=>(Heap.get?_update_other s.heap (Obj.mapSeq f)<|Ne.symm hb).trans a) ⟨_,q⟩ ?_
 exact⟨Y,its',_,U,q⟩
def Inv.O6(I:Inv X U0 J H s)(M:Vals ys g)(O:ys.length<=sizeLine) :
  Inv X U0 J (upd H s.heap.objs.size<|.lst ys) {s with heap:=s.heap.push {cls:=.type "list",data:=.seq g.toArray},toks:=U} :=
 I.laid (λ_ _ q=>zar _ q) (zap _) ⟨O,g,0,M,zaL _ rfl⟩
theorem Inv.fresh(I:Inv X U0 J H s):H s.heap.objs.size=none:=I.hok.fresh (zap _)
theorem Inv.HG(I:Inv X U0 J H s)(M:H l=some (.lst xs)):xs.length<=sizeLine/\∃(g:List Value) (n:Nat),Vals xs g/\xs.length=g.length/\s.heap.get? l=some {cls:=.type "list",data:=.seq g.toArray n}:=by
 obtain⟨z,g,n,r,e⟩:=I.hok l _ M;exact⟨z,g,n,r,r.length,e⟩
theorem D2(h:n<=sizeLine):Builtin.List.listTooLong n=false:=by
 exact zaO (by lia)
end
section
variable{X:Cx}
def lN:V->List V->Hp->VK->Prop:=λx vs H Q=>∃l xs y,x=.ref l/\vs=[y]/\H l=some (.lst xs)/\xs.length<sizeLine/\Q .non (upd H l<|.lst<|xs++[y])
theorem Cb:MtM X "list.append" lN:=by
 intro U0 s J H x vs v us Q I f d h;obtain⟨l,xs,y,rfl,rfl,a,j,q⟩:=h;cases f;obtain⟨u,rfl,c⟩:=d.one;obtain⟨z,b,n,r,i,e⟩:=I.HG a;refine call_meets F.slot_list_append ⟨_,e,rfl⟩ F.entry_list_append (F.args_list_append_2 _ _) (PySem.list_append l b.toArray n u (by rw[zaK];lia)) ⟨e,?_⟩
 refine⟨.non,_,I.Mz a e (by simp) (r.append<|.cons c .nil) ?_,rfl,q⟩
 rw[zau,za7]
 lia
def wx:V->List V->Hp->VK->Prop:=λx vs H Q=>∃l xs,x=.ref l/\vs=[]/\H l=some (.lst xs)/\Q .non (upd H l<|.lst xs.reverse)
theorem y9:MtM X "list.reverse" wx:=by
 intro U0 s J H x vs v us Q I f d h;obtain⟨l,xs,rfl,rfl,b,q⟩:=h;cases f;have a:=d.zero;subst a;obtain⟨z,c,n,r,i,e⟩:=I.HG b;refine call_meets F.slot_list_reverse ⟨_,e,rfl⟩ F.entry_list_reverse (F.args_list_reverse_1 _) (AutoSeq1.list_reverse_list_0 l c.toArray n (by rw[zaK];lia)) ⟨e,?_⟩
 refine⟨.non,_,I.Mz b e (by simp) r.reverse ?_,rfl,q⟩
 rw[List.length_reverse]
 lia
def O7:R2:=λx y H Q=>∃l k xs,x=.ref l/\y=.int k/\H l=some (.lst xs)/\-(2^63)<=k/\k<2^63/\xs.length*k.toNat<=sizeLine/\
 ∀p,H p=none->Q (.ref p) (upd H p<|.lst (List.replicate k.toNat xs).flatten)
theorem len_rep{α:Type}(xs:List α)(k:Nat):(List.replicate k xs).flatten.length=k*xs.length:=by
 induction k with
 |zero=>simp
 |succ k a=>rw[zbc,List.flatten_cons,zau,a,Nat.succ_mul,Nat.add_comm]
theorem MB:OpR X (binaryOp .Mult) O7:=by
 intro U0 s J H x y v u Q I E G h;obtain⟨l,k,xs,rfl,rfl,C,A,B,p,q⟩:=h;cases E;obtain⟨t,rfl⟩:=G;obtain⟨z,b,n,r,D,e⟩:=I.HG C;have f:b.toArray.size*k.toNat<=sizeLine:=by rw[zaK,<-D];exact p
 have c : ¬b.toArray.size*k.toNat>(2^63-1)/8:=by
  have:(sizeLine:Nat)<=(2^63-1)/8:=by decide
  lia
 have d : ¬(!Builtin.List.listFitsIndex k)=true:=by
  rw[fitsIndex_both A B];exact zam
 have w : ¬Builtin.List.listTooLong (b.toArray.size*k.toNat)=true:=by
  rw[D2 f];exact zam
 have i:List.foldl (λj o=>j++o) #[] (List.replicate (if b.toArray.isEmpty=true then 0 else k.toNat) b.toArray)=(List.replicate k.toNat b).flatten.toArray:=by
  have f0:∀m:Nat,List.foldl (λj o=>j++o) #[] (List.replicate m b.toArray)=(List.replicate m b).flatten.toArray:=λm=>by
   have:=foldl_rep b m [];exact this
  rw[f0];cases b with
  |nil=>simp
  |cons a σ=>rw[if_neg (by simp)]
 refine wpAny_binaryOp_repeat_ref (by decide) ⟨_,e,rfl⟩ (λs'=>typeIs_int s' k t) noFill_list_mul F.fills_int_mul F.slot_int_rmul repeat_list F.slot_int_index.lookup
  (call_meets F.slot_int_rmul (typeIs_int s k t) F.entry_int_rmul (F.args_int_rmul_2 _ _) (int___rmul___int_list k t l b.toArray n)
   ⟨e,rfl,⟨_,e,rfl⟩,call_meets F.slot_list_mul ⟨_,e,rfl⟩ F.entry_list_mul (F.args_list_mul_2 _ _) (AutoListH.list___mul___list_int_3 l b.toArray n k t d c w) ⟨e,?_⟩⟩)
 rw[i];exact⟨.ref _,_,I.O6 (r.rep k.toNat) (by rw[len_rep,Nat.mul_comm];exact p),rfl,q _ I.fresh⟩
end
section
variable{prog:Program}{w:World}{A:Around}{E:Value->Shared->Prop}{s:Shared}
set_option maxRecDepth 100000 in
end
end L2
namespace Att
open PySem.W PySem.Calls PyProof.Rows
theorem ox:∀(ns:List Int) (vs:List Value),WellAll P h vs (ns.map WData.int)->IntsAre vs ns:=by
 intro ns
 induction ns with
 |nil=>
  intro vs w;cases w;exact .nil
 |cons n ns c=>
  intro vs w;cases w with
  |cons a b=>
   cases a;exact .cons _ _ (c _ b)
theorem Cc{l:OpenLaw}(hn:l.most=some n){h:Heap}{args:List WData}{I:List Value}
  (g:l.row.toRowW.claim.pre args=true) (M:WellAll P h I args) :
  ∃a vs ns,I=[Value.ref a]/\args=[WData.list<|ns.map WData.int]/\h.get? a=some {cls:=.type "list",data:=.seq vs.toArray}/\IntsAre vs ns/\ns.length<=n:=by
 have f:=(pre_splitW g).1;have k:=(pre_splitW g).2;obtain⟨d,r,rfl,i,j⟩:=hasAllW_cons f;obtain rfl:=hasAllW_nil j;obtain⟨xs,rfl,h3⟩:=hasW_list i;obtain⟨ns,rfl⟩:=items_int h3;have c:ns.length<=n:=by
  have h4:(WTm.not<|.lt (.lit<|.int (n:Int))<|.len<|.arg 0).holds [] {args:=[.list<|ns.map .int]}=true:=by
   have h4:=(holds_andW k).1;rw[hn]at h4;exact h4
  have e:=condW_of h4 (w_not<|w_lt w_lit<|w_len_list<|w_arg rfl);refine zba λq=>?_
  first
   |(rw[zaH p]at e;exact absurd e (by decide))
   |(simp at e;lia)
 cases M with
 |cons m o=>
  cases o;cases m with
  |list ho b=>exact⟨_,_,ns,rfl,rfl,ho,ox ns _ b,c⟩
theorem Cd(l:OpenLaw)(args:List WData):l.row.toRowW.claim.post args (.bool true) args=true :=
 postW_of
  (show WShape.has [] (.bool true) .bool=true by first|rfl|decide|simp[WShape.has,WShape.arms,WShape.armsAll])
  (w_eq_bool (w_res rfl) w_lit) rfl
end Att
namespace L2
open PySem.Spec PyProof.Rows
theorem se:∀{vs:List Value} {ns:List Int},IntsAre vs ns->Vals (ns.map V.int) vs
 |_,_,.nil=>.nil
 |_,_,.cons n t h=>.cons ⟨t,rfl⟩ (se h)
def Only(H:Hp):Prop:=∀b,H b=none\/(∃o xs,H b=some (.frz o<|.lst xs))\/∃ps,H b=some (.tbl ps)
theorem o8{K:zag}(e:fq K=some (c,T,ps)):K.lookup T=none/\PySem.W.codeHdIn K c T=true:=by
 unfold fq at e;split at e
 .rename_i c' T' b _
  split at e
  .rename_i a
   cases e;unfold yP at a;simp only[Bool.and_eq_true]at a;exact⟨by simpa using a.1.2,a.1.1⟩
  .cases e
 .cases e
theorem jL{g:Type}{o : g}:∀{K:List<|Addr×g},K.lookup a=some o->(a,o)∈K
 | [],e=>by cases e
 |(b,u)::r,e=>by
  rw[za8]at e;split at e
  .rename_i hb
   have c:a=b:=by simpa using hb
   subst c;cases e;exact zas
  .exact zak _ (jL e)
theorem MC{K:zag}{oc:Value}{od:Option Addr}{fd:FuncData}{osl:Array<|Option Value}{g:Pos}(e:fq K=some (c,T,ps))(lk:K.lookup f=some ⟨oc,od,.func fd,osl⟩)(l:tS fd.body=some g) :
  fd.code=.ref c/\ps=#[rawInt g.line,rawInt g.col,.str (fd.qualname++".<locals>.<lambda>") 0]:=by
 unfold fq at e;split at e
 .split at e
  .rename_i a
   cases e;unfold yP at a;simp only[Bool.and_eq_true]at a;have b:=List.all_eq_true.mp a.2 _ (jL lk);have i:DF fd=true:=by unfold DF;rw[l];rfl
   simp only[i,Bool.not_true,Bool.false_or]at b;have h3:=beq_iff_eq.mp b;unfold wc at h3;rw[l]at h3;split at h3
   .rename_i j c' d h
    cases d;split at h3
    .split at h3
     .cases h3;exact⟨h,rfl⟩
     .cases h3
    .cases h3
   .cases h3
  .cases e
 .cases e
theorem D3{K:zag}{ps:Array Value}(e:wc K fd=some (c,T,ps)):∃l k q,ps=#[rawInt l,rawInt k,.str q 0]:=by
 unfold wc at e;split at e
 .split at e
  .split at e
   .cases e;exact⟨_,_,_,rfl⟩
   .cases e
  .cases e
 .cases e
theorem AF{K:zag}(e:fq K=some (c,T,ps)):∃l k q,ps=#[rawInt l,rawInt k,.str q 0]:=by
 unfold fq at e;split at e
 .rename_i c' T' d b
  split at e
  .cases e
   obtain⟨p,_,a⟩:=List.exists_of_findSome?_eq_some b;split at a
   .exact D3 a
   .cases a
  .cases e
 .cases e
theorem HH{K:zag}(e:fq K=some (c,T,ps)):ps[0]?≠some .none:=by
 obtain⟨l,k,q,rfl⟩:=AF e;intro z;cases z
theorem wy{K:zag}(e:fq K=some (c,T,ps))(more:Array Value):(ps++more)[0]?≠some .none:=by
 obtain⟨l,k,q,rfl⟩:=AF e;intro z;rw[Array.getElem?_append_left (by simp)]at z
 cases z
theorem D4{K:zag}{mg mb:Str->Option Value}{CX:CXT}{k:Nat}{U a:Addr}{fd:FuncData}{x:Str}{sp:Sp}{g:Shared}{vs:List Value}{ns:List Int}
  (KX:K.In g.heap) (l:∀c T ps,fq K=some (c,T,ps)->g.heap.get? T=some (PySem.W.tabObj #[])) (O:g.heap.Ns mainGlobals mg) (hb:g.heap.Ns builtinsNs mb) (hbb:∀x:Str,x≠"__name__"->mb x=bootBuiltins x) (M:g.heap.NoLimit) (hbm:∃bm ob,mg "__builtins__"=some (.ref bm)/\bm≠builtinsNs/\g.heap.get? bm=some ob/\ob.cls=.type "module"/\ob.dict=some builtinsNs/\ob.data=.plain) (hg:g.gens=#[])
  (ha:g.heap.get? a=some {cls:=.type "list",data:=.seq vs.toArray}) (hi:IntsAre vs ns) (hl:ns.length<=sizeLine) (hr:dF k callerA)
  (F:∀base:Heap,K.In base->base.Ns mainGlobals mg->ou P w K mg base CX k U fd [x] sp) (I:∀(s:Shared) (u:Value),BindsTo s fd ⟨[u],[]⟩ [(x,u)])
  (hsp:∀H:Hp,Only H->SqL K H a (ns.map V.int)->sp [.ref a] H (λv _=>v=.bl true) λ_ _ _=>False)
  (hCX:∀H e s',CX [] H g (λ_ _ _=>False) e s'->False) :
  codeAny (model P w) callerA (.call (.ref U) ⟨[.ref a],[]⟩) (λr s'=>r=.ok (.ret<|.bool true)/\OldK g.heap s'.heap/\s'.os=g.os/\AllBare s'.gens) g:=by
 have rv:=se hi;have lenV:=hi.length;have D:∀H:Hp,Only H->SqL K H a (ns.map V.int)->HOk P w H g.heap->(∀b,H b≠none->b=a\/∃c ps,fq K=some (c,b,ps))->(H a≠none->K.lookup a=none)->(∀c T ps,fq K=some (c,T,ps)->H T=some (.tbl ps))->
   codeAny (model P w) callerA (.call (.ref U) ⟨[.ref a],[]⟩) (λr s'=>r=.ok (.ret<|.bool true)/\OldK g.heap s'.heap/\s'.os=g.os/\AllBare s'.gens) g:=by
  intro H Z hS hok B hK ρ;have ug:∀{b:Addr} {o:Obj},g.heap.get? b=some o->H b=none->(wb g.heap H).get? b=some o:=λe n=>DE e n
  have noA:∀{b:Addr} {o:Obj} {es:Array DictEntry} {S:Nat},g.heap.get? b=some o->o.data=.dict es S->H b=none:=fun{b o es S} e d=>by
   cases q:H b with
   |none=>rfl
   |some u=>
    rcases B b (by rw[q];simp)with f|⟨c,ps,f⟩
    .subst f
     rw[ha]at e;cases e
     have d':=d;cases d'
    .rw[l _ _ _ f]at e;cases e
     have d':=d;cases d'
  have j:∀{b:Addr} {m:Str->Option Value},g.heap.Ns b m->(wb g.heap H).Ns b m:=fun{b m} ⟨o,es,S,e,d,r⟩=>⟨o,es,S,ug e<|noA e d,d,r⟩
  have σ:=λb o e=>ug (KX b o e) (by
   cases q:H b with
   |none=>rfl
   |some u=>
    rcases B b (by rw[q];simp)with f|⟨c,ps,f⟩
    .subst f
     rw[hK (by rw[q];simp)]at e;cases e
    .rw[(o8 f).1]at e;cases e)
  have hM:Mod K mg (wb g.heap H):=⟨σ,j O,⟨mb,j hb,hbb⟩,(let⟨mc,h1,h2⟩:=M;⟨mc,j h1,h2⟩),by
   obtain⟨bm,ob,b1,b2,C,b4,b5,b6⟩:=hbm;refine⟨bm,ob,b1,b2,ug C ?_,b4,b5,b6⟩;cases q:H bm with
   |none=>rfl
   |some u=>
    rcases B bm (by rw[q];simp)with f|⟨c,ps,f⟩
    .rw[f,ha]at C;cases C;exact absurd (Value.type.inj b4) (by decide)
    .rw[l _ _ _ f]at C;cases C;cases b4⟩
  have e0:Hw P w K mg (wb g.heap H) callerA [] g H:=⟨rfl,hM,λb o e=>Hh e,Nat.le_of_eq<|BQ _ _,trivial,λb hb=>absurd (show b∈([]:List Addr)from hb) (by simp),hok,.of_eq hg,λc T ps e=>⟨#[],by rw[ρ c T ps e];simp⟩⟩
  refine codeAny_mono ((F _ σ<|j O).run callerA [] g H ⟨[.ref a],[]⟩ [.ref a] [.ref a] _ _ hr e0 (I g<|.ref a) (.cons rfl .nil)<|hsp H Z hS) λr s' h=>?_
  cases r with
  |error e=>exact(hCX H e s' h).elim
  |ok fl=>
   cases fl with
   |next=>exact False.elim h
   |brk=>exact False.elim h
   |cont=>exact False.elim h
   |ret u=>
    obtain⟨v,H',os,bare,un,p,r',q⟩:=h;have q':=q;subst q';obtain rfl:u=Value.bool true:=r';refine⟨rfl,⟨λb o e=>?_,λb o e=>un.there b o e (by simp)⟩,os,bare⟩
    cases q:H b with
    |none=>exact .inl (un.keep b o e q (by intro z;exact absurd (show b∈([]:List Addr)from z) (by simp)) (by simp))
    |some u=>
     rcases Z b with z|⟨ob,xs,z⟩|⟨ps,z⟩
     .rw[q]at z;cases z
     .have z2:=un.lK b ob _ z
      obtain⟨E,_⟩:=hok b _ z;obtain⟨G,_⟩:=p b _ z2;rw[e]at E;cases E
      exact .inl G
     .obtain⟨more,z2⟩:=un.la b ps z
      obtain⟨Q,i,e0⟩:∃A,g.heap.get? b=some {cls:=.none,data:=.fields A}/\True:=by
       rcases B b (by rw[q];simp)with f|⟨c,y,f⟩
       .rcases hok b _ z with⟨_,_,_,_,_,_,_,_,ec,eo,ed,_⟩|⟨_,Q,i,_⟩
        .cases ec;rw[f,ha]at eo;cases eo;cases ed
        .exact⟨Q,i,trivial⟩
       .exact⟨_,l _ _ _ f,trivial⟩
      obtain⟨A,G⟩:∃A,s'.heap.get? b=some {cls:=.none,data:=.fields A}:=by
       rcases B b (by rw[q];simp)with f|⟨c,y,f⟩
       .rw[f,ha]at i;cases i
       .rcases p b _ z2 with⟨e4,_⟩|⟨_,A,G,_⟩
        .have e5:=ρ _ _ _ f
         rw[z]at e5;cases e5
         exact absurd e4 (wy f more)
        .exact⟨A,G⟩
      rcases B b (by rw[q];simp)with f|⟨c,y,f⟩
      .rw[f,ha]at i;cases i
      .have i:=l _ _ _ f
       rw[e]at i;cases i
       exact .inr (.inl ⟨(((PySem.W.codeHd_of_K KX (o8 f).2).tab<|l _ _ _ f).isCodeTable),rfl,#[],A,rfl,by rw[G];simp⟩)
 have N:∀c T ps,fq K=some (c,T,ps)->T≠a:=λc T ps e z=>by
  have E:=l c T ps e;rw[z,ha]at E;cases E
 have tabs:∀H0:Hp,(∀b,H0 b≠none->b=a)->∃H:Hp,(∀b,H b=H0 b\/∃c ps,fq K=some (c,b,ps)/\H b=some (.tbl ps))/\(∀c T ps,fq K=some (c,T,ps)->H T=some (.tbl ps))/\∀b u,H0 b=some u->H b=some u:=λH0 X=>by
  cases e:fq K with
  |none=>exact⟨H0,λb=>.inl rfl,λc T ps z=>(by cases z),λb u z=>z⟩
  |some x=>
   obtain⟨c,T,ps⟩:=x;refine⟨upd H0 T<|.tbl ps,λb=>?_,λc' T' y z=>by cases z;exact ak,λb u z=>?_⟩
   .by_cases hb:b=T
    .exact .inr ⟨c,ps,by rw[hb],by rw[hb];exact ak⟩
    .exact .inl (aj hb)
   .rw[aj λq=>N c T ps e<|q.symm.trans<|X b (by rw[z];simp)];exact z
 have wide:∀H0:Hp,(∀b,H0 b=none\/∃o xs,H0 b=some (.frz o<|.lst xs))->SqL K H0 a (ns.map V.int)->HOk P w H0 g.heap->(∀b,H0 b≠none->b=a)->(H0 a≠none->K.lookup a=none)->
   codeAny (model P w) callerA (.call (.ref U) ⟨[.ref a],[]⟩) (λr s'=>r=.ok (.ret<|.bool true)/\OldK g.heap s'.heap/\s'.os=g.os/\AllBare s'.gens) g:=λH0 Z hS hok X hK=>by
  obtain⟨H,Y,t2,t3⟩:=tabs H0 X;have t:H a=H0 a:=by
   rcases Y a with z|⟨c,ps,e,_⟩
   .exact z
   .exact absurd rfl (N c a ps e)
  refine D H (λb=>?_) ?_ (λb u z=>?_) (λb z=>?_) (λz=>hK (by rw[<-t];exact z)) t2
  .rcases Y b with z|⟨c,ps,_,z⟩
   .rcases Z b with q|⟨o,xs,q⟩
    .exact .inl (z.trans q)
    .exact .inr (.inl ⟨o,xs,z.trans q⟩)
   .exact .inr (.inr ⟨ps,z⟩)
  .rcases hS with(q|⟨o,q⟩)|q
   .exact .inl (.inl<|t.trans q)
   .exact .inl (.inr ⟨o,t.trans q⟩)
   .exact .inr q
  .rcases Y b with q|⟨c,ps,e,q⟩
   .rw[z]at q
    exact(hok b u q.symm).stay (λ_ _ _ x=>x) (λb' x=>t3 _ _ x) λb' xs _ x=>t3 _ _ x
   .rw[z]at q;cases q
    exact .inr ⟨HH e,#[],l _ _ _ e,.inl rfl⟩
  .rcases Y b with q|⟨c,ps,e,q⟩
   .exact .inl (X b (by rw[<-q];exact z))
   .exact .inr ⟨c,ps,e⟩
 cases hk:K.lookup a with
 |some o=>
  have e:=KX a o hk;rw[ha]at e;cases e;refine wide (λ_=>none) (λ_=>.inl rfl) (.inr ⟨_,vs.toArray,_,hk,rfl,rfl,rfl,by rw[zaK,lenV];exact hl,by simpa using rv⟩) (λb u z=>by have R:=z;cases R) (λb z=>absurd rfl z) λz=>absurd rfl z
 |none=>
  refine wide (λb=>if b=a then some (.frz {cls:=.type "list",data:=.seq vs.toArray}<|.lst<|ns.map V.int)else none) (λb=>?_) (.inl<|.inr ⟨{cls:=.type "list",data:=.seq vs.toArray},if_pos rfl⟩) (λb u z=>?_) (λb z=>?_) λ_=>hk
  .by_cases hb:b=a
   .exact .inr ⟨_,_,if_pos hb⟩
   .exact .inl (if_neg hb)
  .by_cases hb:b=a
   .have R:=(if_pos hb).symm.trans z
    cases R;subst hb;exact⟨ha,by rw[zal];exact hl,vs,_,rv,ha⟩
   .have R:=(if_neg hb).symm.trans z
    cases R
  .by_cases hb:b=a
   .exact hb
   .exact absurd (if_neg hb) z
abbrev KOf{K:zag}{h:Heap}(_:K.In h):zag:=K
def gJ(s:Stmt):Arguments:=match s with
 | .FunctionDef _ a _ _ _ _ _ _ _ _=>a
 |_=>{posonlyargs:=[],args:=[],vararg:=none,kwonlyargs:=[],kw_defaults:=[],kwarg:=none,defaults:=[]}
def dP(s:Stmt):List Stmt:=match s with
 | .FunctionDef _ _ b _ _ _ _ _ _ _=>b
 |_=>[]
def aB(s:Stmt):Scope:=match s with
 | .FunctionDef _ _ _ _ _ _ sc _ _ _=>sc
 |_=>{kind:=.function,names:=[],isGenerator:=false,isCoroutine:=false}
abbrev CX0:CXT:=λ_ _ _ _ _ _=>False
abbrev E0:XK:=λ_ _ _=>False
def O9:Passes CX0 X E0:=λ_ _ _ _ _ _ _ h=>h.elim
structure Fun(K:zag)(x K1:Str)(st:Stmt)(f:Addr)(fd:FuncData):Prop where
 ex:∃(oc:Value) (od:Option Addr) (kV doc pm:Value) (an:Option Addr) (cdv ct:Value) (osl:Array<|Option Value),
  fd=PySem.W.fnOf x K1 (gJ st) (dP st) (aB st) .none kV doc pm an cdv ct/\K.lookup f=some ⟨oc,od,.func fd,osl⟩/\PySem.W.codeIn K cdv K1=true
 kp:PySem.W.keepIn K (.ref f)=true
section
variable{P:Program}{w:World}{K:zag}{mg:Str->Option Value}{base:Heap}
theorem Fun.ok{st:Stmt}{fd:FuncData}{N ps:List Str}{k:Nat}{sp:Sp}(F:Fun K x K1 st f fd)(S:aK N ps<|aB st)(len:∀vs H Q E,sp vs H Q E->vs.length=ps.length)
  (g:∀(cdv:Value) (A:Around) (outer:List Env) (s:Shared) (H:Hp) (vs:List V) (Q:VK) (E:XK),dF k (A.deeper<|envOfC K1 (aB st) s.heap.objs.size f cdv)->sp vs H Q E->
   ∃t,PSs (tX CX0 P w K mg base N K1 (aB st) f cdv A outer s H E).nox (dP st) t/\t {nx:=λ_ H'=>Q .non H',rt:=Q} (start N vs) H):ou P w K mg base CX0 (k+1) f fd ps sp:=by
 obtain⟨oc,od,kV,doc,pm,an,cdv,ct,osl,rfl,lk,c⟩:=F.ex;refine cf lk c S len λA outer s H vs Q E e d=>?_
 obtain⟨t,h,q⟩:=g cdv A outer s H vs Q E e d;exact⟨t,h.nox,q⟩
theorem Fun.binds{st:Stmt}{fd:FuncData}{ps:List Str}(F:Fun K x K1 st f fd)
  (h:∀(kV doc pm:Value) (an:Option Addr) (cdv ct:Value) (us:List Value),us.length=ps.length->bindArgs (PySem.W.fnOf x K1 (gJ st) (dP st) (aB st) .none kV doc pm an cdv ct) ⟨us,[]⟩=pure (ps.zip us)):Binds K fd ps []:=by
 obtain⟨oc,od,kV,doc,pm,an,cdv,ct,osl,rfl,lk,a⟩:=F.ex;exact .all (h kV doc pm an cdv ct)
def MH{st:Stmt}{oc:Value}{od an:Option Addr}{osl:Array<|Option Value}{kV doc pm cdv ct:Value}(l:K.lookup f=some ⟨oc,od,.func<|PySem.W.fnOf x K1 (gJ st) (dP st) (aB st) .none kV doc pm an cdv ct,osl⟩)
  (c:PySem.W.codeIn K cdv K1=true) (k:PySem.W.keepIn K (.ref f)=true):Fun K x K1 st f (PySem.W.fnOf x K1 (gJ st) (dP st) (aB st) .none kV doc pm an cdv ct):=⟨⟨oc,od,kV,doc,pm,an,cdv,ct,osl,rfl,l,c⟩,k⟩
end
section
variable{X:Cx}
theorem pv(i:Nat){pos:Pos}(l:X.N[i]?=some x:=by rfl)(I:Vis X.env.scope x:=by first|exact Or.inl rfl|exact Or.inr (Or.inl rfl)|exact Or.inr (Or.inr rfl))(hd:(x==("__debug__":Str))=false:=by decide)
  (g:(x==("__classdict__":Str))=false:=by decide):PE X (.Name x pos) (lg i):=LU l I hd g
end
theorem QS{A B:Prop}(h:B):if false=true then A else B:=by
 exact h
theorem QT{A B:Prop}(h:A):if true=true then A else B:=by
 exact h
def aA(H H':Hp):Prop:=∀b o,H b=some o->H' b=some o
def aA.refl(H:Hp):aA H H:=λ_ _ h=>h
def aA.trans(a:aA H l)(b:aA l M):aA H M:=λc o h=>b c o (a c o h)
theorem aA.free(e:aA H H')(h:H' l=Option.none):H l=Option.none:=by
 cases q:H l with
 |none=>rfl
 |some o=>
  rw[e l o q]at h;cases h
theorem Inv.track{J:St}{H:Hp}{s:Shared}{D:Addr}{o:HO}(I:Inv X U0 J H s)(hn:H D=none)(g:X.s₀.heap.objs.size<=D)(l:D≠X.env.locals)
  (M:∀x c,X.env.cells.lookup x=some c->c≠D) (O:∀p∈X.pn++U0,p.1≠D) (new:cu X.prog X.w (upd H D o) s.heap D o):Inv X U0 J (upd H D o) s:=by
 have ne:∀b u,H b=some u->b≠D:=λb u e=>cS e hn
 refine⟨I.ok,I.os,I.bare,⟨I.base.keep,I.base.slot,λb ob e n f=>?_,I.base.there,λb xs e=>?_,λb ob u e=>?_,λb ps e=>?_⟩,I.loc,I.cell,?_,λx c e=>?_,λp q=>?_,λb u e=>?_,I.len⟩
 .have:b≠D:=zaS (zaF (zaq e) g)
  rw[aj this];exact I.base.free b ob e n f
 .have z:=I.base.tups b xs e
  rw[aj<|ne _ _ z];exact z
 .have z:=I.base.lK b ob u e
  rw[aj<|ne _ _ z];exact z
 .obtain⟨more,z⟩:=I.base.la b ps e
  exact⟨more,by rw[aj<|ne _ _ z];exact z⟩
 .rw[aj<|Ne.symm l];exact I.free
 .rw[aj<|M x c e];exact I.ic x c e
 .obtain⟨a,d,h3⟩:=I.pin p q
  exact⟨a,by rw[aj<|O p q];exact d,h3⟩
 .by_cases hb:b=D
  .subst hb;rw[ak]at e;cases e;exact new
  .rw[aj hb]at e
   exact(I.hok b u e).stay (λ_ _ _ q=>q) (λc q=>by rw[aj<|ne _ _ q];exact q) λc xs _ q=>by rw[aj<|ne _ _ q];exact q
noncomputable def dX(cells:List<|Str×Addr):List (Str×NameKind)->List (Str×Addr)->List (Str×Addr)
 | [],e=>e
 |(n,k)::r,e=>dX cells r (if(k==NameKind.free)=true then(n,(cells.lookup n).getD 0)::e else e)
theorem AG:∀(names:List<|Str×NameKind) (g:List<|Str×Addr),(∀y∈names,y.2=.free->∃c,env.cells.lookup y.1=some c)->
  (forIn names g λ(x:Str×NameKind) (r:List<|Str×Addr)=>(if(x.2==NameKind.free)=true then do
    let c<-cellOf env x.1
    pure (ForInStep.yield ((x.1,c)::r))else pure (ForInStep.yield r):Sem<|ForInStep<|List<|Str×Addr))=pure (dX env.cells names g)
 | [],g,_=>rfl
 |(n,k)::r,g,h=>by
  have d:=λa=>AG r a λy i=>h y (zak _ i)
  rw[List.forIn_cons]
  by_cases hk:k=.free
  .subst hk
   obtain⟨c,f⟩:=h (n,.free) zas rfl;have b:=f;have e:cellOf env n=pure c:=by
    unfold cellOf;rw[b]
   show(if(NameKind.free==NameKind.free)=true then _ else _)>>=_=_
   rw[if_pos (by decide),e]
   simp only[pure_bind];rw[d];simp only[dX,b,Option.getD_some];rfl
  .have hb:(k==NameKind.free)=false:=by simpa using hk
   rw[hb,if_neg zam];simp only[pure_bind];rw[d];simp only[dX,hb,Bool.false_eq_true,if_false]
theorem D6(h:∀y∈X0.names,y.2=.free->∃c,env.cells.lookup y.1=some c):closureFor X0 env=pure (dX env.cells X0.names []):=by
 unfold closureFor;have e:=AG X0.names [] h;simp only[bind_pure];exact e
theorem AH:∀(names:List<|Str×NameKind) (g:List<|Str×Addr),(∀y∈names,y.2=.free->∃c,cells.lookup y.1=some c)->(∀y c,g.lookup y=some c->cells.lookup y=some c)->
  ∀y c,(dX cells names g).lookup y=some c->cells.lookup y=some c
 | [],_,_,ha=>ha
 |(n,k)::r,g,h,ha=>by
  refine AH r _ (λy b=>h y<|zak _ b) λy c e=>?_
  by_cases hk:(k==NameKind.free)=true
  .rw[if_pos hk]at e
   obtain⟨c',f⟩:=h (n,k) zas (by simpa using hk)
   have a:=f;rw[a,Option.getD_some]at e;rw[za8]at e
   by_cases b:(y==n)=true
   .rw[b]at e
    have:y=n:=by simpa using b
    subst this;rw[a];exact e
   .have d:(y==n)=false:=by simpa using b
    rw[d]at e;exact ha y c e
  .rw[if_neg hk]at e
   exact ha y c e
theorem lO:∀(names:List<|Str×NameKind) (g:List<|Str×Addr) (y:Str),((y,NameKind.free)∈names\/∃c,g.lookup y=some c)->∃c,(dX cells names g).lookup y=some c
 | [],g,y,h=>by
  rcases h with h|h
  .cases h
  .exact h
 |(n,k)::r,g,y,h=>by
  refine lO r _ y ?_;rcases h with h|⟨c,h⟩
  .rcases zaf h with e|h
   .cases e
    refine .inr ⟨(cells.lookup n).getD 0,?_⟩;simp
   .exact .inl h
  .refine .inr ?_
   split
   .rw[za8]
    cases y==n with
    |true=>exact⟨_,rfl⟩
    |false=>exact⟨c,h⟩
   .exact⟨c,h⟩
theorem gh(env : Env) : ∀(names : List<|Str×NameKind) (y : Str),
  (names.map λ(n,k)=>if(k==NameKind.free&&env.scope.kind== .function&&env.kindOf n==some .cell)then(n,NameKind.cell)else(n,k)).lookup y
   =(names.lookup y).map λk=>if(k==NameKind.free&&env.scope.kind== .function&&env.kindOf y==some .cell)=true then NameKind.cell else k
 | [],_=>rfl
 |(n,k)::r,y=>by
  have d :=gh env r y;show List.lookup y ((if(k==NameKind.free&&env.scope.kind== .function&&env.kindOf n==some .cell)=true then(n,NameKind.cell)else(n,k))::_)=_
  by_cases c:(y==n)=true
  .have:y=n:=by simpa using c
   subst this
   by_cases a:(k==NameKind.free&&env.scope.kind== .function&&env.kindOf y==some .cell)=true
   .rw[if_pos a];simp only[List.lookup_cons,c,Option.map_some,a,if_true]
   .rw[if_neg a];simp only[List.lookup_cons,c,Option.map_some,a];simp
  .have b:(y==n)=false:=by simpa using c
   by_cases a:(k==NameKind.free&&env.scope.kind== .function&&env.kindOf n==some .cell)=true
   .rw[if_pos a];simp only[List.lookup_cons,b];exact d
   .rw[if_neg a];simp only[List.lookup_cons,b];exact d
def cU(X:Cx)(X0:Scope)(U:List Str)(O:Shared)(M:Hp)(C:Addr)(fp:List Addr):Cx :=
 {X with N:=U,s₀:=O,H₀:=M,env:=compEnvC X0 (dX X.env.cells X0.names []) C X.env,outer:=X.stack,ex:=fp,fn:=λ_=>false,pn:=[],xe:=λ_ _=>False}
def bJ(x:Str)(fr:List<|Str×Nat):List Str:=x::fr.map (·.1)
def aP(J:St)(fr:List<|Str×Nat):St:=fr.map λp=>J.getD p.2 none
structure Blk(X:Cx)(X0:Scope)(x:Str)(fr:List<|Str×Nat):Prop where
 MJ:(X0.names.all λy=>y.2 != .cell)=true
 kind:X0.kind=.function
 names:(X0.names.all λy=>y.2 != .local||X0.names.lookup y.1==some .local)=true
 here:X0.names.lookup x=some .local
 free:(X0.names.all λy=>y.2 != .free||X.env.scope.names.lookup y.1==some .cell)=true
 seen:(fr.all λp=>X0.names.lookup p.1==some .free&&X.N[p.2]? ==some p.1)=true
 nd:(bJ x fr).Nodup
section
variable{X:Cx}{X0:Scope}{x:Str}{fr:List<|Str×Nat}{U0:List<|Addr×Obj}{J:St}{H:Hp}{s:Shared}
theorem Blk.cell(B:Blk X X0 x fr):∀y∈X0.names,y.2≠.cell:=λy b=>by
 have:=List.all_eq_true.mp B.MJ y b;simpa using this
theorem Blk.loc(B:Blk X X0 x fr):∀y∈X0.names,y.2=.local->X0.names.lookup y.1=some .local:=λy a e=>by
 have:=List.all_eq_true.mp B.names y a;rw[e]at this;simpa using this
theorem Blk.frees(B:Blk X X0 x fr):∀y∈X0.names,y.2=.free->X.env.kindOf y.1=some .cell:=λy a e=>by
 have:=List.all_eq_true.mp B.free y a;rw[e]at this;have h:X.env.scope.names.lookup y.1=some .cell:=by simpa using this
 exact h
def Blk.clos(B:Blk X X0 x fr)(ok:X.Ok):∀y∈X0.names,y.2=.free->∃c,X.env.cells.lookup y.1=some c:=λy a e=>ok.has y.1 (.inl<|B.frees y a e)
theorem Blk.sub(B:Blk X X0 x fr)(ok:X.Ok):∀y c,(dX X.env.cells X0.names []).lookup y=some c->X.env.cells.lookup y=some c :=
 AH X0.names [] (B.clos ok) λy c e=>by simp at e
theorem Blk.kinds(B : Blk X X0 x fr)(h : (relabel X0 X.env).names.lookup y=some .cell\/(relabel X0 X.env).names.lookup y=some .free) : (y,NameKind.free)∈X0.names :=by
 have e : (relabel X0 X.env).names.lookup y=_ :=gh X.env X0.names y;rw[e]at h;cases q:X0.names.lookup y with
 |none=>rw[q]at h;simp at h
 |some k=>
  have hm:=za5 q;rw[q]at h;have hk:k=.free:=by
   by_cases hk:k=.free
   .exact hk
   .have hb:(k==NameKind.free)=false:=by simpa using hk
    have a:=B.cell _ hm;rw[zaT,hb,Bool.false_and,Bool.false_and,if_neg zam]at h;rcases h with h|h
    .exact absurd (zaQ h) a
    .exact zaQ h
  subst hk;exact hm
theorem Blk.sees(B : Blk X X0 x fr)(hk : X.env.scope.kind= .function)(h : X0.names.lookup y=some .free) : (relabel X0 X.env).names.lookup y=some .cell :=by
 have e : (relabel X0 X.env).names.lookup y=_ :=gh X.env X0.names y;rw[e,h];have a:=B.frees _ (za5 h) rfl;simp[hk,a]
theorem D8(I:Inv X U0 J H s)(B:Blk X X0 x fr){C:Addr}{fp:List Addr}{tk:Nat}{o:Option V}(U:s.heap.objs.size<=C)(g:∀b∈fp,iR X U0 H b)(Y:∀b∈fp,b<s.heap.objs.size)
  (M:∀b ob,s.heap.get? b=some ob->O.get? b=some ob) (hns:O.Ns C λ_=>none):Inv (cU X X0 (bJ x fr) s H C fp) [] (none::aP J fr) H {s with heap:=O,toks:=tk}:=by
 have A:∀b,b<s.heap.objs.size->b≠C:=λb hb=>zaS (zaF hb U)
 have cl:∀y c,X.env.cells.lookup y=some c->c<s.heap.objs.size:=λy c e=>by
  obtain⟨v,o,ho,_⟩:=I.cell y c e;exact zaq ho
 refine⟨⟨I.ok.mod,B.kind,I.ok.glob,I.ok.blt,U,λy z c n k=>I.ok.inj y z c (B.sub I.ok _ _ n)<|B.sub I.ok _ _ k,λy K=>lO _ _ _<|.inl<|B.kinds K,λy c h _=>(zam h).elim,I.ok.hd,I.ok.frames,.inl rfl,
  λb hb=>⟨A b<|Y b hb,λy c e=>(g b hb).2.2.2.2.1 y c (B.sub I.ok _ _ e)⟩,I.bs,zaX I.ok.bsz I.sz,λb ob e hb=>?_,λb hb hs=>?_,I.stack,I.tT,I.tab⟩,
  rfl,I.bare,Un.kept M,⟨_,hns,λi y v n k h3=>?_⟩,λy c e=>?_,I.hok.fresh U,λy c e=>I.ic y c<|B.sub I.ok _ _ e,λp σ=>?_,I.hok.kept M,?_⟩
 .rcases(g b hb).2.2.2.1 with z|z
  .exact I.ok.DG b ob e z
  .have n:=zaq e
   have k:=I.ok.bsz;exact absurd (zaF n k) (Nat.not_lt.mpr z)
 .have z:=I.yQ b hs
  rcases zaf z with z|z
  .exact(g b hb).2.1 z
  .exact(g b hb).2.2.1 z
 .cases i with
  |zero=>simp at k
  |succ i=>
   have a:(fr.map (·.1))[i]?=some y:=by
    have z:=n;exact z
   have d:(aP J fr)[i]?=some (some v):=by simpa using k
   rw[zao]at a;unfold aP at d;rw[zao]at d;cases e:fr[i]? with
   |none=>rw[e]at a;cases a
   |some p=>
    rw[e]at a d;have D:p.1=y:=by simpa using a
    have j : J.getD p.2 none=some v:=by simpa using d
    have hs:=List.all_eq_true.mp B.seen p (zaj e);rw[Bool.and_eq_true]at hs;have f:X0.names.lookup p.1=some .free:=by simpa using hs.1
    have w:X.N[p.2]?=some p.1:=by simpa using hs.2
    rw[D]at f w;have hk:=B.frees _ (za5 f) rfl;have E : J[p.2]?=some (some v):=by
     rw[List.getD_eq_getElem?_getD]at j;cases q : J[p.2]? with
     |none=>rw[q]at j;simp at j
     |some z=>rw[q]at j;simp at j;rw[j]
    obtain⟨m,hn,G⟩:=I.loc;obtain⟨u,r,l⟩:=G p.2 y v w E (.inr<|.inl hk);refine⟨u,r,.inr ⟨.inl<|B.sees I.ok.kind f,?_⟩⟩;rcases l with⟨z,_⟩|⟨_,c,F,z⟩
    .rw[hk]at z;cases z
    .obtain⟨c',t⟩:=lO X0.names [] y (.inl<|za5 f)
     have:=B.sub I.ok _ _ t;rw[F]at this;cases this;obtain⟨ob,ho,hd⟩:=z;exact⟨c,t,ob,M _ _ ho,hd⟩
 .obtain⟨v,ob,ho,hd⟩:=I.cell y c (B.sub I.ok _ _ e)
  exact⟨v,ob,M _ _ ho,hd⟩
 .exact absurd (show p∈([]:List<|Addr×Obj)from σ) (by simp)
 .show _=(bJ x fr).length
  simp[bJ,aP]
end
def PIf(X:Cx)(M:List Expr)(t:TT):Prop :=
 ∀(U0:List<|Addr×Obj) (s:Shared) (J:St) (H:Hp) (Q:Bool->Hp->Prop),Inv X U0 J H s->t J H Q->
  wpAny (model X.prog X.w) X.A (forIn M true λc r=>if r=true then do let ok<-isTrue c X.env (eval c X.env);pure (ForInStep.yield ok)else pure (ForInStep.yield r)) (TP X U0 J Q) X.xe s
def MK:TT:=λ_ H Q=>Q true H
def HI:PIf X [] MK:=λ_ _ _ H _ I h=>wpAny_tests_nil ⟨H,I,h⟩
def HK(h:PT X c t):PIf X [c] t:=λU0 s J H Q I a=>wpAny_tests_one (h U0 s J H Q I a)
def tLC(fr:List<|Str×Nat)(U:TI)(M:TT)(O:TE):TE:=λJ H Q=>U J H λσ C=>∃W:Nat->Nat->List V->Hp->Prop,(∃m,W 0 m [] C)/\∀i m j e,W i m j e->j.length<sizeLine/\
 ((σ.stop i e/\∀D,e D=none->Q (.ref D) (upd e D<|.lst j))\/
  (σ.go i e/\∀v q,σ.yld i e v q->M (some v::aP J fr) q λb u=>
   if b=true then O (some v::aP J fr) u λy F=>∃h,h<m/\W (i+1) h (j++[y]) F else∃h,h<m/\W (i+1) h j u))
section
variable{X:Cx}
def HN(h:wpAny M A t Q (λ_ _=>False) s):wpAny M A t Q E s:=za6 h (λ_ _ x=>x) λ_ _ x=>x.elim
theorem Ce(σ:Nat->Shared->Prop)
  (turn:∀n s,σ n s->wpAny (model prog w) A (pyNext it) (λr l=>match r with
   |none=>R (.ok .next) l
   |some v=>wpAny (model prog w) A (letOwnedTupleGo g it v) (λ_ M=>wpAny (model prog w) A (assign g env v) (λ_ O=>
     wpAny (model prog w) A (forIn ifs true λc r=>if r=true then do let ok<-isTrue c env (eval c env);pure (ForInStep.yield ok)else pure (ForInStep.yield r)) (λok I=>
      if ok=true then wpAny (model prog w) A (eval elt env) (λy U=>
       wpAny (model prog w) A (call (.builtin "list.append") [T1,y]) (λ_ Y=>∃m,m<n/\σ m Y) (λ_ _=>False) U) (λ_ _=>False) I
      else∃m,m<n/\σ m I) (λ_ _=>False) O) (λ_ _=>False) M) (λ_ _=>False) l) (λ_ _=>False) s)
  (n:Nat) (h:σ n s):codeAny (model prog w) A (.compLoop (.ListComp elt [⟨g,iter,ifs,0⟩] X0 pos) 0 it T1 env) R s:=by
 refine codeAny_loop rfl σ (λk s' p=>?_) n h
 refine wpAny_noted ?_;refine zaI (wpAny_standAt<|zaI<|za6 (turn k s' p) (λr l a=>?_) λ_ _ z=>z.elim)
 cases r with
 |none=>exact zaZ a
 |some v=>
  refine zaI (za6 a (λ_ M d=>zaI<|za6 d (λ_ O e=>zaI<|za6 e (λok I b=>?_) λ_ _ z=>z.elim) λ_ _ z=>z.elim) λ_ _ z=>z.elim)
  cases ok with
  |false=>exact zaZ ⟨rfl,b⟩
  |true=>
   exact zaI (zaI<|za6 b (λy U f=>zaI<|za6 f (λ_ Y j=>zaZ<|zaZ ⟨rfl,j⟩) λ_ _ z=>z.elim) λ_ _ z=>z.elim)
theorem AI{ifs:List Expr}{X0:Scope}{pos ipos:Pos}{fr:List<|Str×Nat}{wi:TI}{tc:TT}{te:TE}(hc:X.calm=true)(B:Blk X X0 x fr)
  (hi:PI X (.Name x px) iter wi) (ht:∀M l C fp,PIf (cU X X0 (bJ x fr) M l C fp) ifs tc) (he:∀M l C fp,PE (cU X X0 (bJ x fr) M l C fp) elt te)
  (hs:∀v,foldedSetIterable iter X.env v=pure v) {use:Option<|Value->Sem Unit} {U:Value->Shared->Prop} {U0:List<|Addr×Obj} {s:Shared} {J:St} {H:Hp} {Q:VK} (I:Inv X U0 J H s) (h:tLC fr wi tc te J H Q)
  (hend:∀(s2 s6:Shared) (g Y:Hp) (fp:List Addr) (C:Addr) (O:List V) (ob:Obj) (o:Option V) (ps:List<|Addr×Obj),Inv X U0 J g s2->(∀b∈fp,iR X U0 g b)->C=s2.heap.objs.size+1->Inv (cU X X0 (bJ x fr) s2 g C fp) ps (o::aP J fr) Y s6->s6.heap.get? s2.heap.objs.size=some ob->(∀s':Shared,Inv X U0 J Y s'->s'.heap.get? s2.heap.objs.size=some ob->Inv X U0 J (upd Y s2.heap.objs.size<|.lst O) s')->Q (.ref s2.heap.objs.size) (upd Y s2.heap.objs.size<|.lst O)->compPost (model X.prog X.w) X.A X.xe use U (.ref s2.heap.objs.size) C (.ok .next) s6) :
  wpAny (model X.prog X.w) X.A (comprehension (.ListComp elt [⟨.Name x px,iter,ifs,0⟩] X0 pos) X0 X.env ipos (newList []) false (eval iter X.env) use) U X.xe s:=by
 have S:=D6 (B.clos I.ok);refine wpAny_comprehension_free rfl hs S B.kind B.loc (thn (hi U0 s J H _ I h) λv s1 h1=>thn h1 λitv s2 h2=>?_)
 obtain⟨it,fp,tn,σ,g,rfl,m,T,st2,f2,W,⟨m0,w0⟩,turn⟩:=h2;refine wpAny_newObj_type (wpAny_newFunctionEnv B.cell (by intro y hy;simp at hy) (λf hns hsb=>?_) B.kind)
 generalize hG:s2.heap.push {cls:=.type "list",dict:=none,data:=.seq ([]:List Value).toArray}=G at hns hsb⊢;have hC:G.objs.size=s2.heap.objs.size+1:=by rw[<-hG,Heap.size_push]
 have R:s2.heap.objs.size≠G.objs.size:=by lia
 have old:∀b ob,s2.heap.get? b=some ob->f.get? b=some ob:=λb ob e=>by
  have hb:=zaq e;refine hsb.extBut b ob (zaS (by rw[hC];exact Nat.lt_succ_of_lt hb)) (zar _ ?_)
  rw[<-hG];exact zar _ e
 have hacc:f.get? s2.heap.objs.size=some {cls:=.type "list",data:=.seq ([]:List Value).toArray 0}:=by
  refine hsb.extBut _ _ R (zar _ ?_);rw[<-hG];exact zaL _ rfl
 have hlt:∀b∈fp,b<s2.heap.objs.size:=λb hb=>by
  obtain⟨o,e,_⟩:=T.obj 0 _ st2 b hb;exact zaq e
 have I4:=D8 (tk:=s2.toks+([]:List<|Str×Value).length) (o:=none) m B (show s2.heap.objs.size<=G.objs.size by lia) f2 hlt old hns
 have tn4:=T.keep 0 _ _ st2 λb _ o e=>old b o e
 have Dfs:s2.heap.objs.size∉frs X.stack:=λz=>by
  obtain⟨_,o,ho,_⟩:=m.stack.mem z;exact absurd (zaq ho) (za3 _)
 have E:∀y c,X.env.cells.lookup y=some c->c≠s2.heap.objs.size:=λy c e=>by
  obtain⟨v,o,ho,_⟩:=m.cell y c e;exact zaS (zaq ho)
 have DL:=Nat.ne_of_gt m.lt;have F:s2.heap.objs.size∉fp:=λz=>absurd (hlt _ z) (za3 _)
 have D:∀j:Shared,j={s2 with heap:=f,toks:=s2.toks+([]:List<|Str×Value).length}->
   codeAny (model X.prog X.w) X.A (.compLoop (.ListComp elt [⟨.Name x px,iter,ifs,0⟩] X0 pos) 0 (.ref it) (.ref s2.heap.objs.size)<|compEnvC X0 (dX X.env.cells X0.names []) G.objs.size X.env)
    (compPost (model X.prog X.w) X.A X.xe use U (.ref s2.heap.objs.size) G.objs.size) j:=by
  rintro j rfl
  refine Ce
   (λn s'=>∃i o H' O a k,Inv (cU X X0 (bJ x fr) s2 g G.objs.size fp) [] (o::aP J fr) H' s'/\tn i s'.heap/\(∀b∈fp,H' b=none)/\H' s2.heap.objs.size=none/\
    s'.heap.get? s2.heap.objs.size=some {cls:=.type "list",data:=.seq (a:List Value).toArray k}/\Vals O a/\W i n O H') ?_ m0
   ⟨0,none,g,[],[],0,I4,tn4,λb hb=>(f2 b hb).1,m.hok.fresh<|zap _,hacc,.nil,w0⟩
  rintro n s5 ⟨i,o,Y,O,a,k,I5,st5,fr5,D5,q,r5,w5⟩
  have P:∀{H':Hp},(∀b∈fp,H' b=none)->∀b∈fp,iR (cU X X0 (bJ x fr) s2 g G.objs.size fp) [] H' b:=λhn b hb=>
   ⟨hn b hb,(I5.ok.exf b hb).1,I5.ok.DH b hb,.inl hb,(I5.ok.exf b hb).2,λp d=>absurd (show p∈([]:List<|Addr×Obj)from d) (by simp)⟩
  have ρ:∀{H':Hp},H' s2.heap.objs.size=none->iR (cU X X0 (bJ x fr) s2 g G.objs.size fp) [] H' s2.heap.objs.size:=λhn=>
   ⟨hn,R,Dfs,.inr<|zap _,λy c e=>E y c<|B.sub m.ok _ _ e,λp d=>absurd (show p∈([]:List<|Addr×Obj)from d) (by simp)⟩
  obtain⟨hz,alt⟩:=turn i n O Y w5;have hzl:a.length<=sizeLine:=by rw[<-r5.length];exact Nat.le_of_lt hz
  rcases alt with⟨stop,fin⟩|⟨go,step⟩
  .refine thn (T.done (cU X X0 (bJ x fr) s2 g G.objs.size fp) rfl rfl rfl hc i (lr [s2.heap.objs.size] s5.heap) s5 (o::aP J fr) Y _ ?_ (λb hb=>?_) st5 stop) λr s6 ⟨hr,I6⟩=>?_
   .exact(Inv.pinned I5 (λb hb=>by rw[zad hb];exact ρ D5) λb hb=>by
     rw[zad hb];exact⟨_,q,λv z=>by cases z⟩)
   .obtain⟨f0,f1,N,f3,f4,f5⟩:=P fr5 b hb
    refine⟨f0,f1,N,f3,f4,λp d=>?_⟩
    have Z:=(zae d).elim (λz=>absurd (show p∈([]:List<|Addr×Obj)from z) (by simp)) id
    have:=(mG Z).1;rw[zad this];exact λe=>F (by rw[e];exact hb)
   .subst hr
    refine hend s2 s6 g Y fp G.objs.size O _ o _ m f2 hC I6 (I6.pin (s2.heap.objs.size,{cls:=.type "list",data:=.seq a.toArray k})<|zan _<|bF (by simp) q).1 (λs' I' hd=>I'.track D5 m.sz DL E (λp d z=>?_) ⟨Nat.le_of_lt hz,a,k,r5,hd⟩) (fin _ D5)
    obtain⟨e,_⟩:=m.pin p d;rw[z]at e;exact absurd (zaq e) (za3 _)
  .refine HN (thn (T.item (cU X X0 (bJ x fr) s2 g G.objs.size fp) rfl rfl rfl hc i (lr [s2.heap.objs.size] s5.heap) s5 (o::aP J fr) Y _ ?_ (λb hb=>?_) st5 go) λr s6 ⟨u,hr,h6⟩=>?_)
   .exact(Inv.pinned I5 (λb hb=>by rw[zad hb];exact ρ D5) λb hb=>by
     rw[zad hb];exact⟨_,q,λv z=>by cases z⟩)
   .obtain⟨f0,f1,N,f3,f4,f5⟩:=P fr5 b hb
    refine⟨f0,f1,N,f3,f4,λp d=>?_⟩
    have Z:=(zae d).elim (λz=>absurd (show p∈([]:List<|Addr×Obj)from z) (by simp)) id
    have:=(mG Z).1;rw[zad this];exact λe=>F (by rw[e];exact hb)
   .subst hr
    refine thn h6 λ_ s7 ⟨v,H7,I7,rv,y7,st7,fr7⟩=>?_
    have p7:=I7.pin (s2.heap.objs.size,{cls:=.type "list",data:=.seq a.toArray k}) (zan _<|bF (by simp) q)
    have hD7:=p7.1;have D7:=p7.2.1;have I7u:Inv (cU X X0 (bJ x fr) s2 g G.objs.size fp) [] (o::aP J fr) H7 s7:=Inv.d8 I7;have I8:=Inv.pinned I7u (λb hb=>by
      rcases zaf hb with e|hb
      .rw[e];exact ρ D7
      .exact P fr7 b hb) λb hb=>by
      rcases zaf hb with e|hb
      .rw[e];exact⟨_,hD7,λv z=>by cases z⟩
      .exact T.obj _ _ st7 b hb
    have hl : Loc (cU X X0 (bJ x fr) s2 g G.objs.size fp).env.scope x := .inl (lookup_relabel_local B.here);have pk:∀{t:St} {H':Hp} {s':Shared},Inv (cU X X0 (bJ x fr) s2 g G.objs.size fp) ([]++lr (s2.heap.objs.size::fp) s7.heap) t H' s'->
      tn (i+1) s'.heap/\(∀b∈fp,H' b=none)/\H' s2.heap.objs.size=none/\s'.heap.get? s2.heap.objs.size=some {cls:=.type "list",data:=.seq a.toArray k}:=fun{t H' s'} I'=>by
     have pD:=I'.pin (s2.heap.objs.size,{cls:=.type "list",data:=.seq a.toArray k}) (zan _<|zan _<|bF (by simp) hD7)
     refine⟨T.keep _ _ _ st7 λb hb ob e=>(I'.pin (b,ob)<|zan _<|zan _<|bF (zak _ hb) e).1,λb hb=>?_,pD.2.1,pD.1⟩
     obtain⟨ob,e,_⟩:=T.obj _ _ st7 b hb;exact(I'.pin (b,ob)<|zan _<|zan _<|bF (zak _ hb) e).2.1
    refine HN (thn (tV (i :=0) B.nd rfl hl (.inr<|lookup_relabel_local B.here) _ s7 _ H7 v u (λt H'=>t=some v :: aP J fr/\H'=H7) I8 rv ⟨rfl,rfl⟩) λ_ s8 ⟨σ8,H8,I9,e1,e2⟩=> ?_)
    subst e1 e2;refine HN (thn (ht s2 g G.objs.size fp _ s8 _ H8 _ I9<|step v H8 y7) λok s9 ⟨H9,K,q10⟩=>?_)
    cases ok with
    |false=>
     obtain⟨m',hm,w'⟩:=q10;obtain⟨k1,k2,k3,k4⟩:=pk K;exact⟨m',hm,i+1,some v,H9,O,a,k,Inv.d8 K,k1,k2,k3,k4,r5,w'⟩
    |true=>
     refine HN (thn (he s2 g G.objs.size fp _ s9 _ H9 _ K q10) λy' s10 ⟨y,H10,I11,ry,m',hm,w'⟩=>?_)
     obtain⟨k1,k2,k3,k4⟩:=pk I11;refine append_at k4 (λh' hs' hD'=>?_) (by rw[zaK];exact hzl)
     have I12:Inv (cU X X0 (bJ x fr) s2 g G.objs.size fp) [] (some v::aP J fr) H10 {s10 with heap:=h'} :=
      (Inv.d8 I11).turned (λb ob hb e=>(hs'.2 b hb).trans e) k3 R (.inr<|zap _) (λz c e=>E z c<|B.sub m.ok _ _ e) λp d=>absurd (show p∈([]:List<|Addr×Obj)from d) (by simp)
     refine⟨m',hm,i+1,some v,H10,O++[y],a++[y'],k+1,I12,T.keep _ _ _ k1 λb hb ob e=>(hs'.2 b λz=>F (by rw[<-z];exact hb)).trans e,k2,k3,?_,r5.append<|.cons ry .nil,w'⟩
     rw[hD'];simp
 exact codeAny_compStart_list (D _ rfl) (T.self _ 0 _ _ _ tn4<|D _ rfl)
theorem Pa(M:X.calm=true)(B:Blk X X0 x fr)
  (hi:PI X (.Name x px) iter wi) (ht:∀l g C fp,PIf (cU X X0 (bJ x fr) l g C fp) U tc) (Y:∀l g C fp,PE (cU X X0 (bJ x fr) l g C fp) O te)
  (hs:∀v,foldedSetIterable iter X.env v=pure v:=by intro _;rfl):PE X (.ListComp O [⟨.Name x px,iter,U,0⟩] X0 pos) (tLC fr wi tc te):=by
 intro U0 s J H Q I h;refine AI M B hi ht Y hs I h λs2 σ A m fp C ρ ob o ps D f2 y i t trk p=>?_
 obtain⟨G,w,_⟩:=i.loc;refine⟨G,w,λh' a=>?_⟩
 have r:s2.heap.get? C=none:=by
  cases e:s2.heap.get? C with
  |none=>rfl
  |some ob=>exact absurd (zaq e) (by rw[y];exact Nat.not_lt.mpr (Nat.le_succ _))
 have d:∀b ob,s2.heap.get? b=some ob->b≠C:=λb ob e z=>by rw[z,r]at e;cases e
 have f:=i.base;have K:Un (frs X.stack) fp A m s2.heap h':=⟨λb ob e n hb k=>a.extBut b ob (d b ob e)<|f.keep b ob e n hb k,λb ob e n hb k=>by
   obtain⟨sl,q⟩:=f.slot b ob e n hb k;exact⟨sl,a.extBut b _ (d b ob e) q⟩,f.free,λb ob e k=>by
   obtain⟨o',q⟩:=f.there b ob e k;exact⟨o',a.extBut b _ (d b ob e) q⟩,f.tups,f.lK,f.la⟩
 have j:m C=none:=i.free;have F:=λb ob e=>(i.hok b ob e).stay (λc u M q=>a.extBut c u (by
   rintro rfl
   rcases M with rfl|M
   .rw[j]at e;cases e
   .rw[j]at M;cases M) q) (λ_ q=>q) λ_ _ _ q=>q
 have E:Inv X U0 J m {σ with heap:=h'}:=D.call' (i.os) K F i.bare λb hb=>⟨(f2 b hb).2.2.2.1,(f2 b hb).2.1,(f2 b hb).2.2.2.2.1,(f2 b hb).2.2.2.2.2⟩
 exact⟨.ref s2.heap.objs.size,upd m s2.heap.objs.size<|.lst ρ,trk _ E (a.extBut _ _ (by rw[y];exact zaS (Nat.lt_succ_self _)) t),rfl,p⟩
end
noncomputable def tyN(H:Hp):V->String
 | .non=>"NoneType"
 | .bl _=>"bool"
 | .int _=>"int"
 | .str _=>"str"
 | .ref a=>match H a with
  |some (.lst _)=>"list"
  |some (.tup _)=>"tuple"
  |some (.dK _)=>"dict"
  |some (.frz _ (.lst _))=>"list"
  |_=>"?"
 |_=>"?"
def o9(T n:String):Bool:=T==n||(T=="bool"&&n=="int")
def dQ:List String:=["NoneType","bool","int","str","list","tuple","dict"]
def df:List String:=["bool","int","str","list","tuple","dict"]
theorem sf(K:zag):∀T∈dQ,∀n∈df,PySem.W.kitOne K (.type T) (.type n)=some (o9 T n):=by
 intro T a n hn;simp only[dQ,df,List.mem_cons,List.not_mem_nil,or_false]at a hn;rcases a with rfl|rfl|rfl|rfl|rfl|rfl|rfl<;>rcases hn with rfl|rfl|rfl|rfl|rfl|rfl<;>kernel_rfl
theorem ML{K:zag}(h:tyN H x∈dQ):mH K H x (.type<|tyN H x):=by
 have no : ¬("?"∈dQ):=by decide
 cases x with
 |non=>exact .non
 |bl b=>exact .bl b
 |int i=>exact .int i
 |str z=>exact .str z
 |ref a=>
  unfold tyN at h⊢;dsimp only at h⊢;cases e:H a with
  |none=>rw[e]at h;exact absurd h no
  |some o=>
   rw[e]at h;cases o with
   |lst xs=>exact .lst e
   |tup xs=>exact .tup e
   |dK V0=>exact .dK e
   |frz ob u=>
    cases u with
    |lst xs=>exact .frz e
    |_=>exact absurd h no
   |_=>exact absurd h no
 |_=>exact absurd h no
def Pb(xs:List V)(H:Hp)(Q:VK):Prop:=∃x n,xs=[x,.ty n]/\tyN H x∈dQ/\n∈df/\Q (.bl<|o9 (tyN H x) n) H
section
variable{X:Cx}
theorem Ea:cE X (.builtin "isinstance") Pb:=by
 intro U0 s J H xs us Q I r h;obtain⟨x,n,rfl,a,b,q⟩:=h;obtain⟨u,v,rfl,c,d⟩:=vals2 r;cases d;exact B8 I c (ML a) (sf X.K _ a _ b) λtk=>⟨.bl _,H,I.tok tk,rfl,q⟩
theorem wz:∀{us:List Value},Vals (bs.map V.bl) us->LSm.BoolsAre us bs:=by
 induction bs with
 |nil=>intro us r;rw[List.map_nil]at r;cases r;exact .nil
 |cons b bs a=>
  intro us r;cases r with
  |cons c d=>
   cases c;exact .cons b (a d)
def MM(K:zag)(xs:List V)(H:Hp)(Q:VK):Prop:=∃(p:Addr) (bs:List Bool),xs=[.ref p]/\SqL K H p (bs.map V.bl)/\Q (.bl<|bs.all id) H
theorem Eb(g:X.calm=true):cE X (.builtin "all") (MM X.K):=by
 intro U0 s J H xs us Q I r h;obtain⟨p,bs,rfl,k,q⟩:=h;obtain⟨u,rfl,n⟩:=vals1 r;cases n;obtain⟨a,m,pl,w⟩:=I.list k;have hb:=wz m;have c:=pl.isList;have d:p<s.heap.objs.size:=by obtain⟨_,e,_⟩:=c;exact zaq e
 refine call_all_walk (wpAny_pyIter_list c ?_);refine⟨s.heap.objs.size,[s.heap.objs.size,p],[s.heap.objs.size],a.toArray.size,_,_,λi=>(bs[i]?).getD true,rfl,Walks.list (A:=X.A.in1) (I.ok.hd g) _ p (zaS d) a.toArray,
  ⟨⟨_,zaL _ rfl,rfl,rfl⟩,c.push _⟩,λi v s' t o j f=>?_,λh' tk hk=>?_⟩
 .obtain⟨b,e,rfl⟩:=hb.get i v (by simpa using j)
  simp only[e,Option.getD_some]at f;exact wpAny_truthy_bool f
 .have e:((List.range a.toArray.size).all λi=>(bs[i]?).getD true)=bs.all id:=by
   rw[zaK,hb.length];exact LSm.range_all bs
  rw[e];exact⟨.bl<|bs.all id,H,I.kept<|LSm.kept_iter hk,rfl,q⟩
theorem ph:∀{xs:List V} {us:List Value},Vals xs us->xs.all ig=true->us.countP (eqU x)=xs.countP λy=>eqV y x
 |_,_,.nil,_=>rfl
 |y::xs,u::us,.cons r t,f=>by
  rw[List.all_cons,Bool.and_eq_true]at f;rw[List.countP_cons,List.countP_cons,y8 r f.1,ph t f.2]
mutual
inductive gi(K:zag)(H:Hp):V->PyData->Prop
 |non:gi K H .non .none
 |bl (b:Bool):gi K H (.bl b) (.bool b)
 |int (i:Int):gi K H (.int i) (.int i)
 |str (x:Str):gi K H (.str x) (.str x)
 |lst {a:Addr} {xs:List V} {ds:List PyData}:SqL K H a xs->gj K H xs ds->gi K H (.ref a) (.list ds)
 |tup {a:Addr} {xs:List V} {ds:List PyData}:SqT K H a xs->gj K H xs ds->gi K H (.ref a) (.tuple ds)
inductive gj(K:zag)(H:Hp):List V->List PyData->Prop
 |nil:gj K H [] []
 |cons {x:V} {xs:List V} {d:PyData} {ds:List PyData}:gi K H x d->gj K H xs ds->gj K H (x::xs) (d::ds)
end
mutual
theorem gi.reads{J:St}{H:Hp}(I:Inv X U0 J H s):∀{x:V} {d:PyData},gi X.K H x d->∀{u:Value},RelV x u->∃g,Reads s.heap u d g
 |_,_,.non,_,r=>by cases r;exact⟨_,.none⟩
 |_,_,.bl b,_,r=>by cases r;exact⟨_,.bool b⟩
 |_,_,.int i,_,r=>by obtain⟨t,rfl⟩:=r;exact⟨_,.int i t⟩
 |_,_,.str z,_,r=>by obtain⟨t,rfl⟩:=r;exact⟨_,.str z t⟩
 |_,_,.lst a hd,_,r=>by
  cases r;obtain⟨h,f,pl,_⟩:=I.list a;obtain⟨g,ha⟩:=gj.reads I hd f;obtain⟨o,n,e,c,_,d⟩:=pl;exact⟨_,.list e c d ha⟩
 |_,_,.tup a hd,_,r=>by
  cases r;obtain⟨h,f,pl,_⟩:=I.tuple a;obtain⟨g,ha⟩:=gj.reads I hd f;obtain⟨o,e,c,n,d⟩:=pl;exact⟨_,.tuple e c d ha⟩
theorem gj.reads{J:St}{H:Hp}(I:Inv X U0 J H s):∀{xs:List V} {ds:List PyData},gj X.K H xs ds->∀{us:List Value},Vals xs us->∃g,ReadsAll s.heap us ds g
 |_,_,.nil,_,r=>by cases r;exact⟨_,.nil⟩
 |_,_,.cons h t,_,r=>by
  cases r with
  |cons a b=>
   obtain⟨g,ha⟩:=gi.reads I h a;obtain⟨bs,hb⟩:=gj.reads I t b;exact⟨_,.cons ha hb⟩
end
def HP(K:zag):R2:=λx y H Q=>∃e h,gi K H x e/\gi K H y h/\SeqAt.shaped e=true/\SeqAt.shaped h=true/\Q (.bl<|PyData.eqv e h) H
def HQ(K:zag):R2:=λx y H Q=>∃e h,gi K H x e/\gi K H y h/\SeqAt.shaped e=true/\SeqAt.shaped h=true/\Q (.bl<|!PyData.eqv e h) H
theorem MP(g:X.A.units+64<cLine):OpR X (compareOp .Eq) (HP X.K):=by
 intro U0 s J H x y v u Q I c d h;obtain⟨f,i,ha,hb,sa,sb,q⟩:=h;obtain⟨e,a⟩:=ha.reads I c;obtain⟨bs,b⟩:=hb.reads I d;exact eq_dataH a b sa sb g ⟨.bl _,H,I,rfl,q⟩
theorem MQ(g:X.A.units+64<cLine):OpR X (compareOp .NotEq) (HQ X.K):=by
 intro U0 s J H x y v u Q I c d h;obtain⟨f,i,ha,hb,sa,sb,q⟩:=h;obtain⟨e,a⟩:=ha.reads I c;obtain⟨bs,b⟩:=hb.reads I d;exact ne_dataH a b sa sb g ⟨.bl _,H,I,rfl,q⟩
def HR:OpR X (binaryOp .Mult) (rI IntMulOk λi j=>.int<|i*j):=opI λ_ _ _ _ _ _ _ a q=>mul_int q a
def MR(K:zag)(xs:List V)(H:Hp)(Q:VK):Prop:=(∃p e,xs=[.ref p]/\(SqL K H p e\/SqT K H p e)/\Q (.int e.length) H)\/(∃z,xs=[.str z]/\z.length<=sizeLine/\Q (.int z.length) H)
def Cf:cE X (.builtin "len") (MR X.K):=ud.or ue
end
structure Top(K:zag)(mg:Str->Option Value)(x:Str)(st:Stmt):Prop where
 ex:∃(f:Addr) (fd:FuncData),Fun K x x st f fd/\mg x=some (.ref f)
structure Def(P:Program)(w:World)(K:zag)(mg:Str->Option Value)(base:Heap)(CX:CXT)(k:Nat)(x:Str)(ps:List Str)(sp:Sp):Prop where
 ex:∃(f:Addr) (fd:FuncData),ou P w K mg base CX k f fd ps sp/\mg x=some (.ref f)/\PySem.W.keepIn K (.ref f)=true/\Binds K fd ps []
section
variable{P:Program}{w:World}{K:zag}{mg:Str->Option Value}{base:Heap}
def Top.mk'{st:Stmt}{f:Addr}{oc:Value}{od an:Option Addr}{osl:Array<|Option Value}{kV doc pm cdv ct:Value}(X:K.In h)(G:h.Ns mainGlobals mg)(a:PySem.W.nsIn K mainGlobals x=some (some<|.ref f))
  (l:K.lookup f=some ⟨oc,od,.func<|PySem.W.fnOf x x (gJ st) (dP st) (aB st) .none kV doc pm an cdv ct,osl⟩) (c:PySem.W.codeIn K cdv x=true) (k:PySem.W.keepIn K (.ref f)=true):Top K mg x st :=
 ⟨⟨f,_,MH l c k,PySem.W.mg_of X G a⟩⟩
theorem Top.def{st:Stmt}{k:Nat}{sp:Sp}(T:Top K mg x st)(S:aK N ps<|aB st)(len:∀vs H Q E,sp vs H Q E->vs.length=ps.length)
  (hb:∀(kV doc pm:Value) (an:Option Addr) (cdv ct:Value) (us:List Value),us.length=ps.length->bindArgs (PySem.W.fnOf x x (gJ st) (dP st) (aB st) .none kV doc pm an cdv ct) ⟨us,[]⟩=pure (ps.zip us))
  (g:∀(f:Addr) (cdv:Value) (A:Around) (outer:List Env) (s:Shared) (H:Hp) (vs:List V) (Q:VK) (E:XK),dF k (A.deeper<|envOfC x (aB st) s.heap.objs.size f cdv)->sp vs H Q E->
   ∃t,PSs (tX CX0 P w K mg base N x (aB st) f cdv A outer s H E).nox (dP st) t/\t {nx:=λ_ H'=>Q .non H',rt:=Q} (start N vs) H):Def P w K mg base CX0 (k+1) x ps sp:=by
 obtain⟨f,fd,F,m⟩:=T.ex;exact⟨⟨f,fd,F.ok S len<|g f,m,F.kp,F.binds hb⟩⟩
theorem pj{ps:List Str}{sp:Sp}{p pos:Pos}{e:Expr}{es:List Expr}{t:TA}(D:Def X.prog X.w X.K X.mg X.base CX0 k x ps sp)(O:dF k X.A)(ha:PA X (e::es) t)(M:Gl X x:=by rfl)
  (g:(x==("__debug__":Str))=false:=by decide) (I:starEach (e::es) X.env=(false,eval e X.env)::starEach es X.env:=by rfl) (l:(backTo pos<|starEach es X.env).any (·.1)=false:=by rfl) :
  PE X (.Call (.Name x p) (e::es) [] pos) (jK sp [] E0 t):=by
 obtain⟨f,fd,F,m,kp,b⟩:=D.ex;exact Hx F O M m kp b .nil O9 ha g I l
end
open PySem.W in
theorem nE:∀(ns:List Int) (n:Int),n∈ns->Builtin.Int.intBits n<=WData.weightAll (ns.map WData.int)
 |m::r,n,h=>by
  rw[zaz];have e:WData.weightAll (WData.int m::r.map WData.int)=WData.weight (.int m)+1+WData.weightAll (r.map WData.int):=by simp only[WData.weightAll]
  rw[e];rcases zaf h with rfl|h
  .have:Builtin.Int.intBits n=WData.weight (.int n):=by simp only[WData.weight,Builtin.Int.intBits]
   lia
  .have:=nE r n h
   lia
open PySem.W in
theorem wA{ns:List Int}(h:WData.layableAll [WData.list<|ns.map WData.int]=true):∀n∈ns,Builtin.Int.intBits n<=1048576:=λn hn=>by
 have a:(WData.list<|ns.map WData.int).layable=true:=PySem.W.layableW_arg h _ (by simp)
 have b:=(PySem.W.layableW_iff.mp a).2.2;have h3:WData.weight (.list<|ns.map WData.int)=WData.weightAll (ns.map WData.int):=by simp only[WData.weight]
 have h4:=nE ns n hn;have c:(2:Nat)^20=1048576:=by decide
 lia
open PySem.W PySem.Calls in
theorem HS{l:OpenLaw}{I:List Str}{XP:(Str->Option Value)->Heap->Prop}{U:World->Heap->Prop}{d:DefRec}
  (hn:l.most=some n) (O:d.params.defaults=[])
  (call:∀(w:World) (s₀ g:Shared) (mg mb:Str->Option Value) (M a:Addr) (vs:List Value) (ns:List Int),
   Ground q I [] XP w s₀ mg mb g.heap->U w g.heap->mg d.name=some (.ref M)->
   g.heap.get? a=some {cls:=.type "list",data:=.seq vs.toArray}->IntsAre vs ns->ns.length<=n->(∀k∈ns,Builtin.Int.intBits k<=1048576)->g.gens=#[]->
   codeAny (model l.prog w) callerA (.call (.ref M) ⟨[.ref a],[]⟩) (λr s'=>r=.ok (.ret<|.bool true)/\OldK g.heap s'.heap/\s'.os=g.os/\AllBare s'.gens) g) :
  WalkO q I XP U l.row.toRowW d [] (λf vs=>PySem.call f vs):=by
 intro w s₀ g mg mb G Y M o pm D doc t kV ho hd x v j y args p s i c C m A;obtain rfl:t=.none:=Dflts.none v O;obtain⟨a,vs,ns,rfl,rfl,h,b,e⟩:=Att.Cc hn i m;refine enter_call (codeAny_mono (call w s₀ g mg mb M a vs ns G Y j h b e (wA c) y) λr s' B=>?_)
 obtain⟨rfl,u,h3,h4⟩:=B;exact⟨.inl ⟨.bool true,.bool true,[],rfl,λ_=>rfl,.bool true,Att.Cd l _,λ_=>⟨List.Pairwise.nil,λ_ hm=>(nomatch hm)⟩⟩,u,h3,h4⟩
def Ec(K:zag):Sp:=λvs H Q _=>∃(a:Addr) (ns:List Int),vs=[.ref a]/\SqL K H a (ns.map V.int)/\ns.length<=63/\(∀k∈ns,Builtin.Int.intBits k<=1048576)/\∀H',Q (.bl true) H'
theorem Ed{l:PySem.W.OpenLaw}{I:List Str}{XP:(Str->Option Value)->Heap->Prop}{O:World->Heap->Prop}{d:DefRec}{K:Params->zag}{x:Str}{st:Stmt}
  (hn:l.most=some 63) (M:d.params.defaults=[]) (hr:dF k callerA) (U:∀(w:World) (h:Heap),O w h->(K w.params).In h/\∀c T ps,fq (K w.params)=some (c,T,ps)->h.get? T=some (PySem.W.tabObj #[]))
  (hb:∀(kV doc pm:Value) (an:Option Addr) (cdv ct u:Value),bindArgs (PySem.W.fnOf d.name d.name (gJ st) (dP st) (aB st) .none kV doc pm an cdv ct) ⟨[u],[]⟩=pure [(x,u)])
  (F:∀(w:World) (mg:Str->Option Value) (h:Heap),(K w.params).In h->h.Ns mainGlobals mg->Top (K w.params) mg d.name st/\
   ∀(f:Addr) (fd:FuncData),Fun (K w.params) d.name d.name st f fd->∀base:Heap,(K w.params).In base->base.Ns mainGlobals mg->ou l.prog w (K w.params) mg base CX0 k f fd [x] (Ec<|K w.params)) :
  PySem.W.WalkO q I XP O l.row.toRowW d [] (λf vs=>PySem.call f vs):=by
 refine HS hn M λw s₀ y mg mb σ a vs ns G Y r n j i B E=>?_
 obtain⟨v,o⟩:=U w _ Y;obtain⟨T,A⟩:=F w mg _ v G.T.g;obtain⟨f,fd,t,m⟩:=T.ex;have e:=m.symm.trans r;cases e;have p:∀(s:Shared) (u:Value),BindsTo s fd ⟨[u],[]⟩ [(x,u)]:=by
  obtain⟨oc,od,kV,doc,pm,an,cdv,ct,osl,rfl,lk,D⟩:=t.ex;exact λs u=>.of_eq (hb kV doc pm an cdv ct u)
 exact D4 v o G.T.g G.T.b G.T.builtins G.T.nolimit G.T.bmain E n j (zaX i (by decide)) hr (A _ fd t) p (λH ρ C=>⟨a,ns,rfl,C,i,B,λ_=>rfl⟩) λH e s' h=>h
section
variable{J:St}{H:Hp}{Q:VK}{K:zag}{fr:List<|Str×Nat}
instance:Inhabited V:=⟨.non⟩
end
theorem ij(h:H p=none):aA H (upd H p o):=λb u e=>by rw[aj<|cS e h];exact e
theorem Pd{pos:Pos}(hm:X.mg x=none)(l:bootBuiltins x=some (.type n))(g:Gl X x:=by rfl)(hn:x≠"__name__":=by decide)(hd:(x==("__debug__":Str))=false:=by decide):PE X (.Name x pos) (tC<|.ty n) :=
 Hk g hm l (show RelV (.ty n) (.type n)from rfl) hn hd
section
variable{X:Cx}
theorem Ee{O:List Expr}{X0:Scope}{pos M:Pos}{fr:List<|Str×Nat}{wi:TI}{tc:TT}{te:TE}{i0:Nat}(hc:X.calm=true)(hN:X.N.Nodup)(hi0:X.N[i0]?=some y)(hx0:Loc X.env.scope y)(B:Blk X X0 x fr)
  (hi:PI X (.Name x px) iter wi) (ht:∀l g C fp,PIf (cU X X0 (bJ x fr) l g C fp) O tc) (he:∀l g C fp,PE (cU X X0 (bJ x fr) l g C fp) U te)
  (hsw:swapsWith (.ListComp U [⟨.Name x px,iter,O,0⟩] X0 pos) (some<|.Name y py) M.line X.env=pure true:=by rfl)
  (Y:X.fn y=true\/X.env.scope.names.lookup y=some .local:=by first|exact .inl rfl|exact .inr rfl|assumption)
  (hs:∀v,foldedSetIterable iter X.env v=pure v:=by intro _;rfl):PS X (.Assign [.Name y py] (.ListComp U [⟨.Name x px,iter,O,0⟩] X0 pos) M) (yU (tLC fr wi tc te)<|lL i0):=by
 intro U0 s J H D0 I h;rw[exec_Assign_Name_used _ _ _ _ hsw];refine zaI (wpAny_standAt<|zaI ?_);refine zaI (za6 (AI hc B hi ht he hs I h λs2 P H2 D fp C Q ob o ps E f2 ρ a q trk j=>?_) (λ_ s' hq=>zaZ<|zaZ hq) λ_ _ e=>e)
 obtain⟨m6,t,_⟩:=a.loc;have u6:=a.base;have k:=a.free;have n:C≠s2.heap.objs.size:=by rw[ρ];exact Nat.succ_ne_self _
 have R:=E.call' (a.os) u6 a.hok a.bare λb hb=>⟨(f2 b hb).2.2.2.1,(f2 b hb).2.1,(f2 b hb).2.2.2.2.1,(f2 b hb).2.2.2.2.2⟩
 have S:=trk P R q;have r:s2.heap.objs.size<C:=by rw[ρ];exact Nat.lt_succ_self _
 have p:upd D s2.heap.objs.size (.lst Q) C=none:=by rw[aj n];exact k
 obtain⟨g0,g1,Z,G,σ,K⟩:=E.mF (Nat.le_of_lt r) p;obtain⟨w,i,f,d,F⟩:=id t;have I9:=Inv.pinned S (λb hb=>by
  rw[zad hb];exact⟨g0,g1,Z,G,σ,K⟩) λb hb=>by
  rw[zad hb];refine⟨w,d,λv z=>?_⟩
  have T:=F;simp[z]at T
 refine thn (tV hN hi0 hx0 Y _ P J _ (.ref s2.heap.objs.size) (.ref s2.heap.objs.size) (λA H'=>A=J.set i0 (some<|.ref s2.heap.objs.size)/\H'=upd D s2.heap.objs.size (.lst Q)) I9 rfl ⟨rfl,rfl⟩) λ_ s8 ⟨σ8,H8,c,V,W⟩=>?_
 subst V W;have m:=(c.pin (C,w)<|zan _<|zan _<|bF (by simp) d).1
 refine⟨m6,⟨w,i,f,m,F⟩,λh' u=>?_⟩
 exact⟨_,_,(Inv.d8 c).turned (λb ob hb e=>u.extBut b ob hb e) g0 g1 G σ K,j⟩
end
section
variable{X:Cx}
theorem Ef{J:St}{H:Hp}{Q:VK}{g:List V}(I:Inv X U0 J H s)(U:g.length<=sizeLine)(q:∀l,H l=none->Q (.ref l) (upd H l<|.lst g))
  {l:Addr} (O:s.heap.objs.size<=l) {h':Heap} {k c:Nat} {M:Array Value} (kp:∀b o,s.heap.get? b=some o->h'.get? b=some o) (ho:h'.get? l=some {cls:=.type "list",dict:=none,data:=.seq M c,slots:=#[]}) (Y:Vals g M.toList) :
  EP X U0 J Q (.ref l) {s with heap:=h',toks:=k} :=
 ⟨.ref l,_,I.laid kp O (show cu X.prog X.w _ h' _ (.lst g)from⟨U,M.toList,c,Y,by simpa using ho⟩),rfl,q _<|I.hok.fresh O⟩
end
section
variable{prog:Program}{w:World}{A:Around}{E:Value->Shared->Prop}{s:Shared}
theorem sg(l:t≠it):∀(n i:Nat) (s:Shared) (Q:List Value->Shared->Prop),s.heap.IsListIter it t i->s.heap.IsList t g->i+n<=g.size->
  (∀h':Heap,h'.IsListIter it t (i+n)->Heap.SameBut it s.heap h'->Q ((g.toList.drop i).take n) {s with heap:=h'})->wpAny (model prog w) A (draw (.ref it) n) Q E s
 |0,i,s,Q,a,_,_,f=>by
  exact zaZ (by simpa using f s.heap a (Heap.SameBut.refl ..))
 |n+1,i,s,Q,a,j,m,f=>by
  have d:i<g.size:=by lia
  refine zaI (wpAny_pyNext_list_item a j (x:=g[i]) (by simp[d]) λo b e=>?_)
  refine zaI (wpAny_holding<|sg l n (i+1) _ _ b (j.extBut e.extBut l) (by lia) λk c h=>zaZ ?_)
  have hd:g.toList.drop i=g[i]::g.toList.drop (i+1):=by simp[List.drop_eq_getElem_cons,d]
  have:=f k (by rw[show i+(n+1)=i+1+n by lia];exact c) (e.trans h)
  rw[hd,List.take_succ_cons]at this;exact this
theorem oy(M:A.handled=none)(l:s.heap.IsList t g)
  (I:∀h',Heap.ExtBut s.heap.objs.size s.heap h'->Q g.toList {s with heap:=h'}):wpAny (model prog w) A (unpackItems (.ref t) g.size none) Q E s:=by
 have d:t≠s.heap.objs.size:=by obtain⟨o,ho,_⟩:=l;exact zaS (zaq ho)
 refine zaI ?_
 .unfold notIterableAtAll
  refine zaI (wpAny_specialOf l.typeIs slot_list_iter.lookup ?_);refine zaZ ?_;refine zaI (wpAny_holding<|wpAny_pyIter_list l ?_);refine zaI (wpAny_holding<|sg d g.size 0 _ _ ⟨_,zaL _ rfl,rfl,rfl⟩ (l.push _) (by lia) λk c f=>?_)
  have a:List.take g.size (List.drop 0 g.toList)=g.toList:=by
   rw[List.drop_zero];exact List.take_of_length_le (by simp)
  rw[a];rw[if_neg (by simp)]
  have i:=(l.push _).extBut f.extBut d;refine zaI (wpAny_holding<|wpAny_pyNext_list_end M c i (by simp) λj h=>?_)
  refine zaZ (I j λb o hb e=>h b o hb<|f.extBut b o hb<|zar _ e)
theorem mI(M:A.handled=none)(O:s.heap.IsList t l)
  (hn:(assignEach g env).length=l.size) (I:(assignEach g env).findIdx? (·.1)=none)
  (h:∀h',Heap.ExtBut s.heap.objs.size s.heap h'->wpAny (model prog w) A (assignInOrder ((assignEach g env).map (·.2)) l.toList) Q E {s with heap:=h'}) :
  wpAny (model prog w) A (assign (.Tuple g U pos) env<|.ref t) Q E s:=by
 refine zaI (wpAny_standAt ?_);unfold unpack;rw[hn,I];exact zaI (wpAny_holding<|oy M O h)
end
variable{X:Cx}
def Eg(K:zag)(n:Nat)(t:TGs):TG:=λv J H Q=>∃a xs,v=.ref a/\(SqT K H a xs\/SqL K H a xs)/\xs.length=n/\t xs J H Q
theorem HU{k:Nat}{pos:Pos}{t:TGs}{n:Nat}(l:X.calm=true)(h:PGs X es t)
  (hn:(assignEach es X.env).length=n:=by rfl) (g:(assignEach es X.env).findIdx? (·.1)=none:=by rfl):PG X (.Tuple es k pos) (Eg X.K n t):=by
 intro U0 s J H v u Q I r f;obtain⟨a,xs,w,c,p,f⟩:=f;subst w;cases r;rcases c with c|c
 .obtain⟨q,d,j,x⟩:=I.tuple c
  refine assign_Tuple_tuple (I.ok.hd l) j (by simp[hn,<-p,d.length]) g λh' m=>?_
  have i:Inv X U0 J H {s with heap:=h'}:=I.kept λb o e=>m b o (zaS<|zaq e) e
  exact h U0 _ J H xs _ Q i (by simpa using d) f
 .obtain⟨q,d,j,x⟩:=I.list c
  refine mI (I.ok.hd l) j.isList (by simp[hn,<-p,d.length]) g λh' m=>?_
  have i:Inv X U0 J H {s with heap:=h'}:=I.kept λb o e=>m b o (zaS<|zaq e) e
  exact h U0 _ J H xs _ Q i (by simpa using d) f
end L2
namespace L2
open PySem.Spec PyProof.Rows
structure Pe(P:Program)(w:World)(outer:List Env)(H:Hp)(s:Shared)(E:XK)(ea t:Addr)(cls:Value)(B:Heap)(H':Hp)(s':Shared):Prop where
 os:s'.os=s.os
 bare:AllBare s'.gens
 fly:Heap.FlyingW B outer ea cls (.ref t) s'.heap
 keep:∀b o,s.heap.get? b=some o->H b=none->b∉frs outer->B.get? b=some o
 there:∀b o,s.heap.get? b=some o->b∉frs outer->∃o',B.get? b=some o'
 slot:∀b o,s.heap.get? b=some o->b∈frs outer->H b=none->∃sl,s'.heap.get? b=some {o with slots:=sl}
 free:∀b o,s.heap.get? b=some o->H b=none->H' b=none
 tups:∀b xs,H b=some (.tup xs)->H' b=some (.tup xs)
 lK:∀b o u,H b=some (.frz o u)->H' b=some (.frz o u)
 la:∀b ps,H b=some (.tbl ps)->∃more,H' b=some (.tbl<|ps++more)
 hok:HOk P w H' B
 wish:E cls none H'
section
variable{X:Cx}
theorem cu.Pf(x:cu P w H h a<|.tup xs):xs.length<=sizeLine/\∃g:List Value,Vals xs g/\IsTup h a g.toArray:=by
 first|exact x|(obtain⟨z,g,r,p,_⟩:=x;exact⟨z,g,r,p⟩)
theorem cu.za{h:Heap}{xs:List V}{g:List Value}(l:xs.length<=sizeLine)(r:Vals xs g):cu P w H (h.push {cls:=.type "tuple",data:=.seq g.toArray}) h.objs.size (.tup xs):=by
 first|exact⟨l,g,r,⟨_,zaL _ rfl,rfl,_,rfl⟩⟩|exact⟨l,g,r,⟨_,zaL _ rfl,rfl,_,rfl⟩,_,zaL _ rfl,rfl⟩
end
end L2
namespace L2
open PySem.Spec PyProof.Rows PySem.W Builtin Builtin.ObjectAttr Builtin.Getset_descriptor
end L2
namespace Mir
open L2
class Zc where
 e:Addr
instance (priority:=10) zc0:Zc:=⟨0⟩
variable [Zc]
def cIf{α:Type}(c:Prop)(a b : α) : α:=@ite α c (Classical.propDecidable c) a b
theorem aX(h:c):cIf c a b=a:=by unfold cIf;rw[if_pos h]
theorem HV(h : ¬c):cIf c a b=b:=by unfold cIf;rw[if_neg h]
def Eh:cIf True a b=a:=aX trivial
theorem bQ(h:cIf c a none=some x):c/\a=some x:=by
 by_cases b:c
 .rw[aX b]at h;exact⟨b,h⟩
 .rw[HV b]at h;cases h
abbrev D:=PyData
def uh:Key->D->Prop
 | .inl i,c=>c=.int i
 | .inr x,c=>c=.str x
mutual
inductive Rep(H:Hp):V->D->Prop
 |non:Rep H .non .none
 |bl (b:Bool):Rep H (.bl b) (.bool b)
 |int (i:Int):Rep H (.int i) (.int i)
 |str (x:Str):Rep H (.str x) (.str x)
 |lst {a:Addr} {xs:List V} {ds:List D}:Rd H a (.lst xs)->aJ H xs ds->Rep H (.ref a) (.list ds)
 |tup {a:Addr} {xs:List V} {ds:List D}:H a=some (.tup xs)->aJ H xs ds->Rep H (.ref a) (.tuple ds)
 |dct {a:Addr} {V0:List (Key×V)} {es:List (D×D)}:Rd H a (.dK V0)->aV H V0 es->Rep H (.ref a) (.dict es)
inductive aJ(H:Hp):List V->List D->Prop
 |nil:aJ H [] []
 |cons {x:V} {xs:List V} {d:D} {ds:List D}:Rep H x d->aJ H xs ds->aJ H (x::xs) (d::ds)
inductive aV(H:Hp):List (Key×V)->List (D×D)->Prop
 |nil:aV H [] []
 |cons {k:Key} {x:V} {V0:List (Key×V)} {c d:D} {es:List (D×D)}:uh k c->Rep H x d->aV H V0 es->aV H ((k,x)::V0) ((c,d)::es)
end
theorem cB(e:aA H H')(h:Rd H a u):Rd H' a u:=by
 rcases h with h|⟨o,h⟩
 .exact .inl (e _ _ h)
 .exact .inr ⟨o,e _ _ h⟩
mutual
theorem Rep.mono(e:aA H H'):∀{v:V} {d:D},Rep H v d->Rep H' v d
 |_,_,.non=>.non
 |_,_,.bl b=>.bl b
 |_,_,.int i=>.int i
 |_,_,.str x=>.str x
 |_,_,.lst h r=>.lst (cB e h) (aJ.mono e r)
 |_,_,.tup h r=>.tup (e _ _ h) (aJ.mono e r)
 |_,_,.dct h r=>.dct (cB e h) (aV.mono e r)
theorem aJ.mono(e:aA H H'):∀{v:List V} {d:List D},aJ H v d->aJ H' v d
 |_,_,.nil=>.nil
 |_,_,.cons a b=>.cons (Rep.mono e a) (aJ.mono e b)
theorem aV.mono(e:aA H H'):∀{v:List<|Key×V} {d:List<|D×D},aV H v d->aV H' v d
 |_,_,.nil=>.nil
 |_,_,.cons k a b=>.cons k (Rep.mono e a) (aV.mono e b)
end
theorem aJ.length:∀{v:List V} {d:List D},aJ H v d->v.length=d.length
 |_,_,.nil=>rfl
 |_,_,.cons _ b=>by simp[aJ.length b]
theorem aJ.get:∀{v:List V} {d:List D} (i:Nat),aJ H v d->∀c,d[i]?=some c->∃x,v[i]?=some x/\Rep H x c
 |_,_,_,.nil,c,e=>by simp at e
 |_,_,0,.cons a _,c,e=>by simp at e;subst e;exact⟨_,rfl,a⟩
 |_,_,i+1,.cons _ b,c,e=>by
  obtain⟨x,f,h⟩:=aJ.get i b c (by simpa using e)
  exact⟨x,by simpa using f,h⟩
theorem aJ.Pg:∀{v:List V} {d:List D} (i:Nat),aJ H v d->∀x,v[i]?=some x->∃c,d[i]?=some c/\Rep H x c
 |_,_,_,.nil,c,e=>by simp at e
 |_,_,0,.cons a _,c,e=>by simp at e;subst e;exact⟨_,rfl,a⟩
 |_,_,i+1,.cons _ b,c,e=>by
  obtain⟨x,f,h⟩:=aJ.Pg i b c (by simpa using e)
  exact⟨x,by simpa using f,h⟩
theorem aJ.append:∀{v w:List V} {d c:List D},aJ H v d->aJ H w c->aJ H (v++w) (d++c)
 |_,_,_,_,.nil,r=>r
 |_,_,_,_,.cons a b,r=>.cons a (aJ.append b r)
theorem aJ.take:∀{v:List V} {d:List D} (n:Nat),aJ H v d->aJ H (v.take n) (d.take n)
 |_,_,0,_=>.nil
 |_,_,_+1,.nil=>.nil
 |_,_,n+1,.cons a b=>.cons a (aJ.take n b)
theorem aJ.drop:∀{v:List V} {d:List D} (n:Nat),aJ H v d->aJ H (v.drop n) (d.drop n)
 |_,_,0,r=>r
 |_,_,_+1,.nil=>.nil
 |_,_,n+1,.cons _ b=>aJ.drop n b
theorem aJ.eraseIdx:∀{v:List V} {d:List D} (i:Nat),aJ H v d->aJ H (v.eraseIdx i) (d.eraseIdx i)
 |_,_,_,.nil=>.nil
 |_,_,0,.cons _ b=>b
 |_,_,i+1,.cons a b=>.cons a (aJ.eraseIdx i b)
theorem aJ.reverse:∀{v:List V} {d:List D},aJ H v d->aJ H v.reverse d.reverse
 |_,_,.nil=>.nil
 |_,_,.cons a b=>by rw[List.reverse_cons,List.reverse_cons];exact(aJ.reverse b).append (.cons a .nil)
inductive Sl where
 |no|fz (d:D)|own (d:D)|io (d:D)|ro (d:D)|ex
noncomputable def Sl.cV:Sl->Bool
 | .own _=>true
 | .io _=>true
 |_=>false
def Sl.isRef:Sl->Bool
 | .own _=>true
 | .io _=>true
 | .ro _=>true
 |_=>false
theorem Sl.lu{s:Sl}(h:s.cV=true):s.isRef=true:=by cases s<;>first|rfl|cases h
abbrev Rho:=List Sl
inductive Kd where
 |fz|new|at(i:Nat)|ro
abbrev RV:=D×Kd
inductive Own(B H:Hp)(p:Addr):D->Prop
 |lst {xs:List V} {ds:List D}:H p=some (.lst xs)->aJ B xs ds->Own B H p (.list ds)
 |dct {V0:List (Key×V)} {es:List (D×D)}:H p=some (.dK V0)->aV B V0 es->Own B H p (.dict es)
theorem Own.there(h:Own B H p d):∃o,H p=some o:=by cases h with
 |lst h _=>exact⟨_,h⟩
 |dct h _=>exact⟨_,h⟩
theorem Own.fI(h:Own B H p d):H p≠none:=by
 obtain⟨o,e⟩:=h.there;rw[e];simp
theorem Own.mono(h:Own B H p d)(e:aA B B')(k:∀o,H p=some o->H' p=some o):Own B' H' p d:=by cases h with
 |lst h r=>exact .lst (k _ h) (r.mono e)
 |dct h r=>exact .dct (k _ h) (r.mono e)
theorem Own.jM(h:Own B H p d)(xs:List V):H p≠some (.tup xs):=by cases h with
 |lst h _=>rw[h];simp
 |dct h _=>rw[h];simp
theorem Own.rep(h:Own B H p d)(e:aA B H):Rep H (.ref p) d:=by cases h with
 |lst h r=>exact .lst (.inl h) (r.mono e)
 |dct h r=>exact .dct (.inl h) (r.mono e)
theorem Own.frozen(h:Own B H p d)(e:aA B B')(k:∀o,H p=some o->B' p=some o):Rep B' (.ref p) d:=by cases h with
 |lst h r=>exact .lst (.inl<|k _ h) (r.mono e)
 |dct h r=>exact .dct (.inl<|k _ h) (r.mono e)
structure Fr where
 B:Hp
 H:Hp
 io:List (Nat×Addr)
 Z:Addr->Prop
def pq(B H:Hp)(J:St)(i:Nat):Sl->Prop
 | .no=>True
 | .ex=>True
 | .fz d=>∃v,J[i]?=some (some v)/\Rep B v d
 | .own d=>∃p,J[i]?=some (some<|.ref p)/\B p=none/\Own B H p d
 | .io d=>∃p,J[i]?=some (some<|.ref p)/\B p=none/\Own B H p d
 | .ro d=>∃p,J[i]?=some (some<|.ref p)/\Own B H p d
structure Rel(F:Fr)(B H:Hp)(J:St)(L:Rho):Prop where
 sub:aA B H
 sB:aA F.B B
 sH:∀q o,F.H q=some o->(∀x∈F.io,x.2≠q)->H q=some o
 nB:∀q,F.H q≠none->F.B q=none->B q=none
 len : L.length=J.length
 slot:∀(i:Nat) (s:Sl),L[i]?=some s->pq B H J i s
 dist:∀(i j:Nat) (s t:Sl) (p:Addr),L[i]?=some s->s.cV=true->L[j]?=some t->t.isRef=true->J[i]?=some (some<|.ref p)->J[j]?=some (some<|.ref p)->i=j
 iT:∀(i:Nat) (d:D) (p:Addr),L[i]?=some (.own d)->J[i]?=some (some<|.ref p)->F.H p=none
 fx:∀x∈F.io,J[x.1]?=some (some<|.ref x.2)/\∃d,L[x.1]?=some (.io d)
 ioN:∀(i:Nat) (d:D),L[i]?=some (.io d)->∃p,(i,p)∈F.io
 cj:∀q xs,H q=some (.tup xs)->B q=some (.tup xs)
 exv:∀i:Nat,L[i]?=some .ex->J[i]?=some (some<|.ref Zc.e)
 nz:∀q o u,H q=some (.frz o u)->F.Z q
structure Ext(J:St)(L:Rho)(B H:Hp)(ρ':Rho)(B' H':Hp):Prop where
 sB:aA B B'
 keep:∀q o,H q=some o->(∀(i:Nat) (s:Sl),L[i]?=some s->s.cV=true->J[i]?≠some (some<|.ref q))->H' q=some o/\(B q=none->B' q=none)
 own:∀(i:Nat) (s':Sl),ρ'[i]?=some s'->s'.cV=true->∃s,L[i]?=some s/\s.cV=true
 ref:∀(i:Nat) (s':Sl),ρ'[i]?=some s'->s'.isRef=true->∃s,L[i]?=some s/\s.isRef=true
 live:∀q,H' q=none->H q=none
theorem Ext.refl(J:St)(L:Rho)(B H:Hp):Ext J L B H L B H:=⟨aA.refl _,λ_ _ h _=>⟨h,id⟩,λ_ s h e=>⟨s,h,e⟩,λ_ s h e=>⟨s,h,e⟩,λ_ h=>h⟩
theorem Ext.trans(a:Ext J L B H ρ1 M U)(b:Ext J ρ1 M U l O Y):Ext J L B H l O Y:=by
 refine⟨a.sB.trans b.sB,λq o h n=>?_,λi s h e=>?_,λi s h e=>?_,λq h=>a.live q<|b.live q h⟩
 .obtain⟨d,u⟩:=a.keep q o h n
  obtain⟨h3,h4⟩:=b.keep q o d λi s c f=>by
   obtain⟨s',j,m⟩:=a.own i s c f;exact n i s' j m
  exact⟨h3,λz=>h4<|u z⟩
 .obtain⟨s1,d,c⟩:=b.own i s h e
  exact a.own i s1 d c
 .obtain⟨s1,d,c⟩:=b.ref i s h e
  exact a.ref i s1 d c
def slD:Sl->D
 | .own d=>d
 | .io d=>d
 | .ro d=>d
 | .fz d=>d
 | .no=>.none
 | .ex=>.none
def Val(F:Fr)(B H:Hp)(J:St)(L:Rho)(v:V)(r:RV):Prop:=match r.2 with
 | .fz=>Rep B v r.1
 | .new=>∃p,v=.ref p/\B p=none/\F.H p=none/\Own B H p r.1/\∀(i:Nat) (s:Sl),L[i]?=some s->s.isRef=true->J[i]?≠some (some<|.ref p)
 | .at i=>∃s,L[i]?=some s/\s.cV=true/\slD s=r.1/\J[i]?=some (some v)
 | .ro=>∃p,v=.ref p/\Own B H p r.1/\∀(i:Nat) (s:Sl),L[i]?=some s->s.cV=true->J[i]?≠some (some<|.ref p)
def View(B H:Hp)(v:V)(d:D):Prop:=Rep B v d\/∃p,v=.ref p/\Own B H p d
theorem View.rep(h:View B H v d)(e:aA B H):Rep H v d:=by
 rcases h with h|⟨p,rfl,h⟩
 .exact h.mono e
 .exact h.rep e
theorem View.list{ds:List D}(h:View B H v<|.list ds)(e:aA B H):∃p xs,v=.ref p/\Rd H p (.lst xs)/\aJ B xs ds:=by
 rcases h with h|⟨p,rfl,h⟩
 .cases h with
  |lst h r=>exact⟨_,_,rfl,cB e h,r⟩
 .cases h with
  |lst h r=>exact⟨_,_,rfl,.inl h,r⟩
theorem View.tuple{ds:List D}(h:View B H v<|.tuple ds)(e:aA B H):∃p xs,v=.ref p/\H p=some (.tup xs)/\aJ B xs ds:=by
 rcases h with h|⟨p,rfl,h⟩
 .cases h with
  |tup h r=>exact⟨_,_,rfl,e _ _ h,r⟩
 .cases h
theorem View.dict{es:List<|D×D}(h:View B H v<|.dict es)(e:aA B H):∃p V0,v=.ref p/\Rd H p (.dK V0)/\aV B V0 es:=by
 rcases h with h|⟨p,rfl,h⟩
 .cases h with
  |dct h r=>exact⟨_,_,rfl,cB e h,r⟩
 .cases h with
  |dct h r=>exact⟨_,_,rfl,.inl h,r⟩
theorem View.int(h:View B H v<|.int i):v=.int i:=by
 rcases h with h|⟨p,rfl,h⟩
 .cases h;rfl
 .cases h
theorem View.bool(h:View B H v<|.bool b):v=.bl b:=by
 rcases h with h|⟨p,rfl,h⟩
 .cases h;rfl
 .cases h
theorem View.str(h:View B H v<|.str x):v=.str x:=by
 rcases h with h|⟨p,rfl,h⟩
 .cases h;rfl
 .cases h
theorem View.none(h:View B H v .none):v=.non:=by
 rcases h with h|⟨p,rfl,h⟩
 .cases h;rfl
 .cases h
section
variable{F:Fr}{B H B' H':Hp}{J:St}{L ρ':Rho}{v:V}{r:RV}
theorem Rel.ownAt(R:Rel F B H J L){i:Nat}(h : L[i]?=some s)(e:s.cV=true):∃p,J[i]?=some (some<|.ref p)/\B p=Option.none/\Own B H p (slD s):=by
 have:=R.slot i s h;cases s with
 |own d=>exact this
 |io d=>exact this
 |_=>cases e
theorem Val.view(R:Rel F B H J L)(h:Val F B H J L v r):View B H v r.1:=by
 obtain⟨d,k⟩:=r;cases k with
 |fz=>exact .inl h
 |new=>obtain⟨p,rfl,_,_,o,_⟩:=h;exact .inr ⟨p,rfl,o⟩
 | «at» i=>
  obtain⟨s,c,e,h3,h4⟩:=h;obtain⟨p,a,f,b⟩:=R.ownAt c e;rw[h4]at a;cases a;exact .inr ⟨p,rfl,h3▸b⟩
 |ro=>obtain⟨p,rfl,o,_⟩:=h;exact .inr ⟨p,rfl,o⟩
theorem Rel.Cg(R:Rel F B H J L)(h:Val F B H J L v (d,.new)):∃B',Rel F B' H J L/\Rep B' v d/\aA B B'/\∀q,v≠.ref q->B' q=B q:=by
 obtain⟨p,rfl,j,k,o,m⟩:=h;obtain⟨ob,f⟩:=o.there;have e:aA B (upd B p ob):=ij j;have ne:∀(i:Nat) (s:Sl) (q:Addr),L[i]?=some s->s.isRef=true->J[i]?=some (some<|.ref q)->q≠p:=λi s q a b h3 z=>m i s a b (z▸h3)
 refine⟨upd B p ob,⟨?_,R.sB.trans e,R.sH,?_,R.len,?_,R.dist,R.iT,R.fx,R.ioN,(λq xs h=>e _ _<|R.cj q xs h),R.exv,R.nz⟩,?_,e,λq c=>aj λz=>c<|z▸rfl⟩
 .intro q u c
  by_cases z:q=p
  .subst z;rw[ak]at c;cases c;exact f
  .rw[aj z]at c;exact R.sub q u c
 .intro q a b
  have z:q≠p:=λz=>a (z▸k)
  rw[aj z];exact R.nB q a b
 .intro i s hs
  have q:=R.slot i s hs;cases s with
  |no=>trivial
  |ex=>trivial
  |fz d=>obtain⟨x,a,b⟩:=q;exact⟨x,a,b.mono e⟩
  |own d=>obtain⟨q,a,b,h3⟩:=q;exact⟨q,a,by rw[aj<|ne i _ q hs rfl a];exact b,h3.mono e λ_ z=>z⟩
  |io d=>obtain⟨q,a,b,h3⟩:=q;exact⟨q,a,by rw[aj<|ne i _ q hs rfl a];exact b,h3.mono e λ_ z=>z⟩
  |ro d=>obtain⟨q,a,h3⟩:=q;exact⟨q,a,h3.mono e λ_ z=>z⟩
 .exact o.frozen e λu h=>by rw[ak,<-h,f]
theorem get_set(h:(L.set i s)[j]?=some t):(j=i/\t=s/\i<L.length)\/(j≠i/\L[j]?=some t):=by
 by_cases z:j=i
 .subst z
  have a:j<L.length:=by
   have:=zac h;obtain⟨b,_⟩:=this;simpa using b
  rw[zav a]at h;exact .inl ⟨rfl,(zaQ h).symm,a⟩
 .rw[zaA λe=>z e.symm]at h
  exact .inr ⟨z,h⟩
theorem ui(hs:s≠.ex)(h:(L.set i s)[j]?=some .ex) : L[j]?=some .ex/\j≠i:=by
 rcases get_set h with⟨_,z,_⟩|⟨a,h⟩
 .exact absurd z.symm hs
 .exact⟨h,a⟩
theorem Rel.Ei(R:Rel F B H J L)(hi : L[i]?=some (.own d))(g : J[i]?=some (some v)):∃B',Rel F B' H J (L.set i<|.fz d)/\Rep B' v d/\Ext J L B H (L.set i<|.fz d) B' H:=by
 obtain⟨p,f,E,o⟩:=R.slot i _ hi;rw[g]at f;cases f;have G:=R.iT i d p hi g;obtain⟨ob,w⟩:=o.there;have e:aA B (upd B p ob):=ij E;have A:=o.frozen e λu h=>by rw[ak,<-h,w]
 have ne:∀(j:Nat) (s:Sl) (q:Addr),j≠i->L[j]?=some s->s.isRef=true->J[j]?=some (some<|.ref q)->q≠p:=λj s q n f k h3 z=>n (R.dist i j _ s p hi rfl f k g<|z▸h3).symm
 refine⟨upd B p ob,⟨?_,R.sB.trans e,R.sH,?_,by rw[zaM];exact R.len,?_,?_,?_,?_,?_,(λq xs h=>e _ _<|R.cj q xs h),(λj h=>R.exv j (ui (by simp) h).1),R.nz⟩,A,⟨e,?_,?_,?_,λ_ h=>h⟩⟩
 .intro q u m
  by_cases z:q=p
  .subst z;rw[ak]at m;cases m;exact w
  .rw[aj z]at m;exact R.sub q u m
 .intro q f k
  have z:q≠p:=λz=>f (z▸G)
  rw[aj z];exact R.nB q f k
 .intro j s hs
  rcases get_set hs with⟨rfl,rfl,_⟩|⟨n,hs⟩
  .exact⟨_,g,A⟩
  .have q:=R.slot j s hs
   cases s with
   |no=>trivial
   |ex=>trivial
   |fz d=>obtain⟨x,f,k⟩:=q;exact⟨x,f,k.mono e⟩
   |own d=>obtain⟨q,f,k,h3⟩:=q;exact⟨q,f,by rw[aj<|ne j _ q n hs rfl f];exact k,h3.mono e λ_ z=>z⟩
   |io d=>obtain⟨q,f,k,h3⟩:=q;exact⟨q,f,by rw[aj<|ne j _ q n hs rfl f];exact k,h3.mono e λ_ z=>z⟩
   |ro d=>obtain⟨q,f,h3⟩:=q;exact⟨q,f,h3.mono e λ_ z=>z⟩
 .intro a b s t q f k h3 h4 C D
  rcases get_set f with⟨rfl,rfl,_⟩|⟨ha,f⟩
  .cases k
  .rcases get_set h3 with⟨rfl,rfl,_⟩|⟨hb,h3⟩
   .cases h4
   .exact R.dist a b s t q f k h3 h4 C D
 .intro j c q f k
  rcases get_set f with⟨rfl,h,_⟩|⟨_,f⟩
  .cases h
  .exact R.iT j c q f k
 .intro x σ
  obtain⟨f,c,k⟩:=R.fx x σ;refine⟨f,c,?_⟩
  by_cases z:i=x.1
  .subst z;rw[hi]at k;cases k
  .rw[zaA z];exact k
 .intro j c f
  rcases get_set f with⟨rfl,h,_⟩|⟨_,f⟩
  .cases h
  .exact R.ioN j c f
 .intro q u m hn
  refine⟨m,λz=>?_⟩
  rw[aj λy=>hn i _ hi rfl (by rw[y];exact g)];exact z
 .intro j s f k
  rcases get_set f with⟨rfl,rfl,_⟩|⟨_,f⟩
  .cases k
  .exact⟨s,f,k⟩
 .intro j s f k
  rcases get_set f with⟨rfl,rfl,_⟩|⟨_,f⟩
  .cases k
  .exact⟨s,f,k⟩
theorem Rel.free(R:Rel F B H J L)(g:H p=none):B p=none/\F.H p=none/\∀(i:Nat) (s:Sl),L[i]?=some s->s.isRef=true->J[i]?≠some (some<|.ref p):=by
 have j:=R.sub.free g;have h:∀(i:Nat) (s:Sl),L[i]?=some s->s.isRef=true->J[i]?≠some (some<|.ref p):=λi s e c h3=>by
  have q:=R.slot i s e;cases s with
  |own d=>obtain⟨q,a,_,b⟩:=q;rw[h3]at a;cases a;exact b.fI g
  |io d=>obtain⟨q,a,_,b⟩:=q;rw[h3]at a;cases a;exact b.fI g
  |ro d=>obtain⟨q,a,b⟩:=q;rw[h3]at a;cases a;exact b.fI g
  |no=>cases c
  |ex=>cases c
  |fz d=>cases c
 refine⟨j,?_,h⟩;cases q:F.H p with
 |none=>rfl
 |some u=>
  by_cases z:∃x∈F.io,x.2=p
  .obtain⟨x,f,rfl⟩:=z
   obtain⟨e,d,c⟩:=R.fx x f;exact absurd e (h _ _ c rfl)
  .have:=R.sH p u q λx f y=>z ⟨x,f,y⟩
   rw[g]at this;cases this
theorem Rel.grow(R:Rel F B H J L)(eB:aA B B')(eH:aA H H')(sub:aA B' H')(nb:∀q,H q≠none->B q=none->B' q=none)(tB:∀q xs,H' q=some (.tup xs)->B' q=some (.tup xs))(nf:∀q o u,H' q=some (.frz o u)->H q≠none):Rel F B' H' J L:=by
 have lv:∀q,F.H q≠none->H q≠none:=λq h z=>h (R.free z).2.1
 refine⟨sub,R.sB.trans eB,λq u a b=>eH _ _<|R.sH q u a b,λq a b=>nb q (lv q a)<|R.nB q a b,R.len,λi s hs=>?_,R.dist,R.iT,R.fx,R.ioN,tB,R.exv,λq o u h=>by
  cases y:H q with
  |none=>exact absurd y (nf q o u h)
  |some x=>
   have:=eH q x y;rw[h]at this;cases this;exact R.nz q o u y⟩
 have q:=R.slot i s hs;cases s with
 |no=>trivial
 |ex=>trivial
 |fz d=>obtain⟨x,a,b⟩:=q;exact⟨x,a,b.mono eB⟩
 |own d=>obtain⟨q,a,b,h3⟩:=q;exact⟨q,a,nb q h3.fI b,h3.mono eB λ_ z=>eH _ _ z⟩
 |io d=>obtain⟨q,a,b,h3⟩:=q;exact⟨q,a,nb q h3.fI b,h3.mono eB λ_ z=>eH _ _ z⟩
 |ro d=>obtain⟨q,a,h3⟩:=q;exact⟨q,a,h3.mono eB λ_ z=>eH _ _ z⟩
theorem Ext.grow(eB:aA B B')(eH:aA H H')(nb:∀q,H q≠none->B q=none->B' q=none):Ext J L B H L B' H' :=
 ⟨eB,λq u h _=>⟨eH _ _ h,λz=>nb q (by rw[h];simp) z⟩,λ_ s h z=>⟨s,h,z⟩,λ_ s h z=>⟨s,h,z⟩,λq h=>eH.free h⟩
theorem Rel.lay(R:Rel F B H J L)(g:H p=none)(no:(∀xs,o≠.tup xs)/\∀a u,o≠.frz a u):Rel F B (upd H p o) J L/\Ext J L B H L B (upd H p o):=by
 have e:aA H (upd H p o):=ij g;refine⟨R.grow (aA.refl _) e (R.sub.trans e) (λ_ _ z=>z) (λq xs h=>?_) λq a u h y=>?_,Ext.grow (aA.refl _) e λ_ _ z=>z⟩
 .by_cases z:q=p
  .subst z;rw[ak]at h;cases h;exact absurd rfl (no.1 xs)
  .rw[aj z]at h;exact R.cj q xs h
 .by_cases z:q=p
  .subst z;rw[ak]at h;cases h;exact no.2 _ _ rfl
  .rw[aj z,y]at h;cases h
theorem Rel.rg(R:Rel F B H J L)(g:H p=none):Rel F (upd B p<|.tup xs) (upd H p<|.tup xs) J L/\Ext J L B H L (upd B p<|.tup xs) (upd H p<|.tup xs)/\aA B (upd B p<|.tup xs):=by
 have b:=(R.free g).1;have eH:aA H (upd H p<|.tup xs):=ij g;have eB:aA B (upd B p<|.tup xs):=ij b;have nb:∀q,H q≠none->B q=none->upd B p (.tup xs) q=none:=λq h z=>by rw[aj λy=>h (by rw[y];exact g)];exact z
 refine⟨R.grow eB eH (λq u h=>?_) nb (λq c h=>?_) λq a u h y=>?_,Ext.grow eB eH nb,eB⟩
 .by_cases z:q=p
  .subst z;rw[ak]at h⊢;exact h
  .rw[aj z]at h⊢;exact R.sub q u h
 .by_cases z:q=p
  .subst z;rw[ak]at h⊢;exact h
  .rw[aj z]at h⊢;exact R.cj q c h
 .by_cases z:q=p
  .subst z;rw[ak]at h;cases h
  .rw[aj z,y]at h;cases h
end
end Mir
namespace Mir
open L2
variable [Zc]
abbrev PM:=Rho->Option (RV×Rho)
def ME(t:TE)(m:PM):Prop :=
 ∀(F:Fr) (B H:Hp) (J:St) (L:Rho) (r:RV) (ρ':Rho) (Q:VK),Rel F B H J L->m L=some (r,ρ')->
  (∀v B' H',Ext J L B H ρ' B' H'->Rel F B' H' J ρ'->Val F B' H' J ρ' v r->(∀p,r.2=.new->v=.ref p->H p=none)->Q v H')->t J H Q
def MT(t:TT)(m:Rho->Option (Bool×Rho)):Prop :=
 ∀(F:Fr) (B H:Hp) (J:St) (L:Rho) (b:Bool) (ρ':Rho) (Q:Bool->Hp->Prop),Rel F B H J L->m L=some (b,ρ')->
  (∀B' H',Ext J L B H ρ' B' H'->Rel F B' H' J ρ'->Q b H')->t J H Q
def Vl(F:Fr)(B H:Hp)(J:St)(L:Rho):List V->List RV->Prop
 | [],[]=>True
 |v::vs,r::rs=>(Val F B H J L v r/\r.2≠.new)/\Vl F B H J L vs rs
 |_,_=>False
def MA(t:TA)(m:Rho->Option (List RV×Rho)):Prop :=
 ∀(F:Fr) (B H:Hp) (J:St) (L:Rho) (rs:List RV) (ρ':Rho) (Q:List V->Hp->Prop),Rel F B H J L->m L=some (rs,ρ')->
  (∀vs B' H',Ext J L B H ρ' B' H'->Rel F B' H' J ρ'->Vl F B' H' J ρ' vs rs->Q vs H')->t J H Q
noncomputable def sv(m:PM):PM:=λL=>match m L with
 |some ((d,.new),ρ')=>some ((d,.fz),ρ')
 |x=>x
theorem fJ(h:sv m L=some (r,ρ')):r.2≠.new:=by
 unfold sv at h;split at h
 .cases h;simp
 .rename_i a
  intro e;obtain⟨d,k⟩:=r;cases(e);exact a d ρ' h
theorem ME.sv(h:ME t m):ME t (sv m):=by
 intro F B H J L r ρ' Q R e q;unfold Mir.sv at e;split at e
 .rename_i d ρ1 k
  cases e;refine h F B H J L _ _ Q R k λv B' H' E i j N=>?_
  obtain⟨f,R2,s,s2,p⟩:=i.Cg j;refine q v f H' ⟨E.sB.trans s2,λq o c n=>?_,E.own,E.ref,E.live⟩ R2 s (λ_ z=>by cases z)
  obtain⟨h3,h4⟩:=E.keep q o c n;refine⟨h3,λz=>?_⟩
  rw[p q λy=>by
   have:=N q rfl y;rw[c]at this;cases this]
  exact h4 z
 .exact h F B H J L r ρ' Q R e q
noncomputable def mJ(L:Rho)(r:RV):Option RV:=match r.2 with
 | .at i=>match L[i]? with
  |some (.own d)=>some (d,.at i)
  |some (.io d)=>some (d,.at i)
  |some (.fz d)=>some (d,.fz)
  |_=>none
 |_=>some r
section
variable{F:Fr}{B H B' H':Hp}{J:St}{L ρ':Rho}{v:V}{r r':RV}
theorem Val.next(E:Ext J L B H ρ' B' H')(l:Rel F B' H' J ρ')(h:Val F B H J L v r)(g:r.2≠.new)(e:mJ ρ' r=some r'):Val F B' H' J ρ' v r'/\r'.2≠.new:=by
 obtain⟨d,k⟩:=r;cases k with
 |fz=>cases e;exact⟨Rep.mono E.sB h,g⟩
 |new=>exact absurd rfl g
 | «at» i=>
  obtain⟨s,b,f,h3,h4⟩:=h;have a:(match ρ'[i]? with
   |some (.own d)=>some (d,Kd.at i)
   |some (.io d)=>some (d,Kd.at i)
   |some (.fz d)=>some (d,Kd.fz)
   |_=>none)=some r':=e
  cases q : ρ'[i]? with
  |none=>rw[q]at a;cases a
  |some s'=>
   rw[q]at a;cases s' with
   |own c=>cases a;exact⟨⟨_,q,rfl,rfl,h4⟩,by simp⟩
   |io c=>cases a;exact⟨⟨_,q,rfl,rfl,h4⟩,by simp⟩
   |fz c=>
    cases a;obtain⟨x,j,w⟩:=l.slot i _ q;rw[h4]at j;cases j
    exact⟨w,by simp⟩
   |no=>cases a
   |ex=>cases a
   |ro c=>cases a
 |ro=>
  cases e;obtain⟨p,rfl,o,n⟩:=h;obtain⟨ob,y⟩:=o.there;refine⟨⟨p,rfl,o.mono E.sB λu m=>(E.keep p u m n).1,λi s b f=>?_⟩,g⟩
  obtain⟨t,h3,h4⟩:=E.own i s b f;exact n i t h3 h4
end
def nF(B H:Hp)(Y0:D×Bool)(k:VK->Prop):Prop:=match Y0 with
 |(d,false)=>∃v,Rep B v d/\∀Q:VK,Q v H->k Q
 |(.list ds,true)=>∃vs,aJ B vs ds/\∀Q:VK,(∀p,H p=none->Q (.ref p) (upd H p<|.lst vs))->k Q
 |(.tuple ds,true)=>∃vs,aJ B vs ds/\∀Q:VK,(∀p,H p=none->Q (.ref p) (upd H p<|.tup vs))->k Q
 |(.dict es,true)=>∃V0,aV B V0 es/\∀Q:VK,(∀p,H p=none->Q (.ref p) (upd H p<|.dK V0))->k Q
 |_=>False
noncomputable def jN:D×Bool->RV
 |(d,false)=>(d,.fz)
 |(.tuple ds,true)=>(.tuple ds,.fz)
 |(d,true)=>(d,.new)
theorem eY(R:Rel F B H J L)(h:nF B H Y0 k)
  (q:∀v B' H',Ext J L B H L B' H'->Rel F B' H' J L->Val F B' H' J L v (jN Y0)->(∀p,(jN Y0).2=.new->v=.ref p->H p=none)->Q v H'):k Q:=by
 obtain⟨d,b⟩:=Y0;cases b with
 |false=>
  obtain⟨v,c,hk⟩:=h;exact hk Q (q v B H (Ext.refl _ _ _ _) R c λp z=>by cases z)
 |true=>
  cases d with
  |list ds=>
   obtain⟨vs,c,hk⟩:=h;refine hk Q λp a=>?_
   obtain⟨f,E⟩:=R.lay (o:=.lst vs) a ⟨(λ_ z=>by cases z),λ_ _ z=>by cases z⟩
   obtain⟨i,j,m⟩:=R.free a;exact q _ B _ E f ⟨p,rfl,i,j,.lst ak c,m⟩ λq _ z=>by cases z;exact a
  |dict es=>
   obtain⟨V0,c,hk⟩:=h;refine hk Q λp a=>?_
   obtain⟨f,E⟩:=R.lay (o:=.dK V0) a ⟨(λ_ z=>by cases z),λ_ _ z=>by cases z⟩
   obtain⟨i,j,m⟩:=R.free a;exact q _ B _ E f ⟨p,rfl,i,j,.dct ak c,m⟩ λq _ z=>by cases z;exact a
  |tuple ds=>
   obtain⟨vs,c,hk⟩:=h;refine hk Q λp a=>?_
   obtain⟨f,E,e⟩:=R.rg a;exact q _ _ _ E f (.tup ak<|c.mono e) λq z=>by cases z
  |none=>exact h.elim
  |bool _=>exact h.elim
  |int _=>exact h.elim
  |str _=>exact h.elim
def mC(d:D):PM:=λL=>some ((d,.fz),L)
theorem HW(h:∀B,Rep B v d):ME (tC v) (mC d):=by
 intro F B H J L r ρ' Q R e q;cases e;exact q v B H (Ext.refl _ _ _ _) R (h B) λp z=>by cases z
def zb:ME (tC<|.int i) (mC<|.int i):=HW λ_=>.int i
def Ph:ME (tC<|.bl b) (mC<|.bool b):=HW λ_=>.bl b
def MU:ME (tC .non) (mC .none):=HW λ_=>.non
def MV:ME (tC<|.str x) (mC<|.str x):=HW λ_=>.str x
noncomputable def aa(i:Nat):PM:=λL=>match L[i]? with
 |some (.fz d)=>some ((d,.fz),L)
 |some (.own d)=>some ((d,.at i),L)
 |some (.io d)=>some ((d,.at i),L)
 |some (.ro d)=>some ((d,.ro),L)
 |_=>none
theorem pz:ME (lg i) (aa i):=by
 intro F B H J L r ρ' Q R e q;unfold aa at e;cases hs : L[i]? with
 |none=>rw[hs]at e;cases e
 |some s=>
  rw[hs]at e;have sl:=R.slot i s hs;cases s with
  |no=>cases e
  |ex=>cases e
  |fz d=>
   cases e;obtain⟨v,a,b⟩:=sl;exact⟨v,a,q v B H (Ext.refl _ _ _ _) R b λp z=>by cases z⟩
  |own d=>
   cases e;obtain⟨p,a,b,h3⟩:=sl;exact⟨_,a,q _ B H (Ext.refl _ _ _ _) R ⟨_,hs,rfl,rfl,a⟩ λp z=>by cases z⟩
  |io d=>
   cases e;obtain⟨p,a,b,h3⟩:=sl;exact⟨_,a,q _ B H (Ext.refl _ _ _ _) R ⟨_,hs,rfl,rfl,a⟩ λp z=>by cases z⟩
  |ro d=>
   cases e;obtain⟨p,a,h3⟩:=sl;refine⟨_,a,q _ B H (Ext.refl _ _ _ _) R ⟨p,rfl,h3,λj s h4 c f=>?_⟩ λp z=>by cases z⟩
   have:=R.dist j i s _ p h4 c hs rfl f a;subst this;rw[hs]at h4;cases h4;cases c
def OpJ(r:R2)(g:D->D->Option (D×Bool)):Prop :=
 ∀(B H:Hp) (x y:V) (c d:D) (Y0:D×Bool),aA B H->View B H x c->View B H y d->g c d=some Y0->nF B H Y0 λQ=>r x y H Q
def mOp(g:D->D->Option (D×Bool))(a b:PM):PM:=λL=>(sv a L).bind λx=>(sv b x.2).bind λy=>(mJ y.2 x.1).bind λr=>(g r.1 y.1.1).map λY0=>(jN Y0,y.2)
theorem dG(σ:OpJ r g)(ha:ME l a)(hb:ME I b):ME (tOp r l I) (mOp g a b):=by
 intro F B H J L X ρ' Q R e q
 fail "q1"
 obtain⟨P,K,e⟩:=zaa e;obtain⟨D,N,e⟩:=zab e;cases e
 fail "q2"
 refine hb.sv F G C J x.2 y.1 y.2 _ f ρ λu c i E2 R2 o W=>?_
 obtain⟨s,n3⟩:=E.next E2 R2 (fJ A) K;refine eY R2 (σ c i v u P.1 y.1.1 D R2.sub (s.view R2) (o.view R2) N) λw d k h n t m=>?_
 refine q w d k (j.trans<|E2.trans h) n t λp S V=>?_
 exact j.live p (E2.live p<|m p S V)
end Mir
namespace Mir
open L2
variable [Zc]
def UnJ(r:V->Hp->VK->Prop)(g:D->Option (D×Bool)):Prop:=∀(B H:Hp) (x:V) (c:D) (Y0:D×Bool),aA B H->View B H x c->g c=some Y0->nF B H Y0 λQ=>r x H Q
def mUn(g:D->Option (D×Bool))(a:PM):PM:=λL=>(sv a L).bind λx=>(g x.1.1).map λY0=>(jN Y0,x.2)
theorem Pj(σ:UnJ r g)(ha:ME l a):ME (tUn r l) (mUn g a):=by
 intro F B H J L t ρ' Q R e q;obtain⟨x,A,e⟩:=zaa e;obtain⟨m,n,e⟩:=zab e;cases e
 fail "q2"
 exact eY f (σ G C v x.1.1 m f.sub (E.view f) n) λw b d c i k h=>q w b d (j.trans c) i k λp o s=>j.live p (h p o s)
noncomputable def asB:RV×Rho->Option (Bool×Rho)
 |((.bool b,_),L)=>some (b,L)
 |_=>none
theorem MW(h:asB x=some (b,L)):x.1.1=.bool b/\x.2=L:=by
 obtain⟨⟨d,k⟩,a⟩:=x;cases d with
 |bool c=>cases h;exact⟨rfl,rfl⟩
 |_=>cases h
def ax(a:PM):Rho->Option (Bool×Rho):=λL=>(sv a L).bind asB
theorem oJ(ha:ME g a):MT (AE g) (ax a):=by
 intro F B H J L b ρ' Q R e q;obtain⟨x,A,e⟩:=zaa e;obtain⟨c,d⟩:=MW e
 fail "q2"
 have:=E.view f;rw[c]at this;rw[d]at j f;exact⟨b,this.bool,q G C j f⟩
def Pk(ha:ME g a):MT (tB g) (ax a):=oJ ha
noncomputable def jO(a b:Rho->Option (Bool×Rho)):Rho->Option (Bool×Rho):=λL=>(a L).bind λx=>if x.1=true then b x.2 else some (false,x.2)
noncomputable def mOr(a b:Rho->Option (Bool×Rho)):Rho->Option (Bool×Rho):=λL=>(a L).bind λx=>if x.1=true then some (true,x.2)else b x.2
noncomputable def pA(a:Rho->Option (Bool×Rho)):Rho->Option (Bool×Rho):=λL=>(a L).map λx=>(!x.1,x.2)
section
variable{ta tb:TT}{a b:Rho->Option (Bool×Rho)}
theorem MX(ha:MT ta a)(hb:MT tb b):MT (OT ta tb) (jO a b):=by
 intro F B H J L c ρ' Q R e q;obtain⟨x,o,e⟩:=zaa e;refine ha F B H J L x.1 x.2 _ R o λd i f j=>?_
 by_cases h:x.1=true
 .rw[if_pos h]at e⊢
  exact hb F d i J x.2 c ρ' Q j e λk n m R2=>q k n (f.trans m) R2
 .rw[if_neg h]at e⊢
  cases e;exact q d i f j
theorem Pl(ha:MT ta a)(hb:MT tb b):MT (tOr ta tb) (mOr a b):=by
 intro F B H J L c ρ' Q R e q;obtain⟨x,o,e⟩:=zaa e;refine ha F B H J L x.1 x.2 _ R o λd i f j=>?_
 by_cases h:x.1=true
 .rw[if_pos h]at e⊢
  cases e;exact q d i f j
 .rw[if_neg h]at e⊢
  exact hb F d i J x.2 c ρ' Q j e λk n m R2=>q k n (f.trans m) R2
theorem MY(ha:MT ta a):MT (OU ta) (pA a):=by
 intro F B H J L c ρ' Q R e q;obtain⟨x,j,e⟩:=zab e;cases e;exact ha F B H J L x.1 x.2 _ R j λd h f i=>q d h f i
end
section
variable{ta tb:TE}{a b:PM}
def sh(a b:PM):PM:=λL=>(ax a L).bind λx=>if x.1=true then b x.2 else some ((.bool false,.fz),x.2)
def QV(a b:PM):PM:=λL=>(ax a L).bind λx=>if x.1=true then some ((.bool true,.fz),x.2)else b x.2
def Pm(a:PM):PM:=λL=>(ax a L).map λx=>((.bool !x.1,.fz),x.2)
theorem HX(ha:ME ta a)(hb:ME tb b):ME (K3 ta tb) (sh a b):=by
 intro F B H J L c ρ' Q R e q;obtain⟨x,s,e⟩:=zaa e;refine oJ ha F B H J L x.1 x.2 (λc d=>if c=true then tb J d Q else Q (.bl false) d) R s λi d f j=>?_
 by_cases h:x.1=true
 .rw[if_pos h]at e⊢
  exact hb F i d J x.2 c ρ' Q j e λv k n m R2 r o=>q v k n (f.trans m) R2 r λp t u=>f.live p (o p t u)
 .rw[if_neg h]at e⊢
  cases e;exact q _ i d f j (.bl false) λp z=>by cases z
def wB(c:Rho->Option (Bool×Rho))(a b:PM):PM:=λL=>(c L).bind λx=>if x.1=true then a x.2 else b x.2
theorem MZ(g:MT l c)(ha:ME ta a)(hb:ME tb b):ME (tIf l ta tb) (wB c a b):=by
 intro F B H J L r ρ' Q R e q;obtain⟨x,w,e⟩:=zaa e;refine g F B H J L x.1 x.2 _ R w λs t d u=>?_
 by_cases h:x.1=true
 .rw[if_pos h]at e⊢
  exact ha F s t J x.2 r ρ' Q u e λv f j i R2 m k=>q v f j (d.trans i) R2 m λp n o=>d.live p (k p n o)
 .rw[if_neg h]at e⊢
  exact hb F s t J x.2 r ρ' Q u e λv f j i R2 m k=>q v f j (d.trans i) R2 m λp n o=>d.live p (k p n o)
def uj(g g':D->D->Option (D×Bool))(a b c:PM):PM:=λL=>(sv a L).bind λx=>(sv b x.2).bind λy=>(mJ y.2 x.1).bind λr=>(g r.1 y.1.1).bind λY0=>match Y0 with
 |(.bool true,false)=>(sv c y.2).bind λz=>(mJ z.2 y.1).bind λs=>(g' s.1 z.1.1).map λY0=>(jN Y0,z.2)
 |(.bool false,false)=>some ((.bool false,.fz),y.2)
 |_=>none
end
def ar:Rho->Option (List RV×Rho):=λL=>some ([],L)
def af(a:PM)(m:Rho->Option (List RV×Rho)):Rho->Option (List RV×Rho):=λL=>(sv a L).bind λx=>(m x.2).bind λy=>(mJ y.2 x.1).map λr=>(r::y.1,y.2)
theorem Ej:MA tW ar:=by
 intro F B H J L rs ρ' Q R e q;cases e;exact q [] B H (Ext.refl _ _ _ _) R trivial
theorem uo(ha:ME l a)(g:MA tr m):MA (fH l tr) (af a m):=by
 intro F B H J L rs ρ' Q R e q
 fail "q1"
 obtain⟨r,h,e⟩:=zab e;cases e
 fail "q2"
 refine g F G C J x.2 y.1 y.2 _ f ρ λvs b c E2 R2 d=>?_
 exact q (v::vs) b c (j.trans E2) R2 ⟨E.next E2 R2 (fJ A) h,d⟩
def Pn(B:Hp)(J:St)(v:V)(r:RV):Prop:=match r.2 with
 | .fz=>Rep B v r.1
 | .at i=>J[i]?=some (some v)
 |_=>True
def WVl(B:Hp)(J:St):List V->List RV->Prop
 | [],[]=>True
 |v::vs,r::rs=>Pn B J v r/\WVl B J vs rs
 |_,_=>False
theorem Vl.weak:∀{vs:List V} {rs:List RV},Vl F B H J L vs rs->WVl B J vs rs
 | [],[],_=>trivial
 |v::vs,r::rs,⟨⟨h,n⟩,t⟩=>by
  refine⟨?_,Vl.weak t⟩;obtain⟨d,k⟩:=r;cases k with
  |fz=>exact h
  | «at» i=>obtain⟨_,_,_,_,e⟩:=h;exact e
  |new=>trivial
  |ro=>trivial
theorem WVl.mono(e:aA B B'):∀{vs:List V} {rs:List RV},WVl B J vs rs->WVl B' J vs rs
 | [],[],_=>trivial
 |v::vs,r::rs,⟨h,t⟩=>by
  refine⟨?_,WVl.mono e t⟩;obtain⟨d,k⟩:=r;cases k with
  |fz=>exact Rep.mono e h
  | «at» i=>exact h
  |new=>trivial
  |ro=>trivial
noncomputable def gK(r:RV)(L:Rho):Option (D×Rho):=match r.2 with
 | .fz=>some (r.1,L)
 | .at i=>match L[i]? with
  |some (.own d)=>some (d,L.set i<|.fz d)
  |some (.fz d)=>some (d,L)
  |_=>none
 |_=>none
def fv:List RV->Rho->Option (List D×Rho)
 | [],L=>some ([],L)
 |r::rs,L=>(gK r L).bind λx=>(fv rs x.2).map λy=>(x.1::y.1,y.2)
section
variable{F:Fr}{B H:Hp}{J:St}{L ρ':Rho}
theorem Rel.frz(R:Rel F B H J L)(w:Pn B J v r)(e:gK r L=some (d,ρ')):∃B',Rel F B' H J ρ'/\Rep B' v d/\Ext J L B H ρ' B' H:=by
 obtain⟨c,k⟩:=r;cases k with
 |fz=>cases e;exact⟨B,R,w,Ext.refl _ _ _ _⟩
 |new=>cases e
 |ro=>cases e
 | «at» i=>
  have a:(match L[i]? with
   |some (.own d)=>some (d,L.set i<|.fz d)
   |some (.fz d)=>some (d,L)
   |_=>none)=some (d,ρ'):=e
  cases q : L[i]? with
  |none=>rw[q]at a;cases a
  |some s=>
   rw[q]at a;cases s with
   |own c=>cases a;exact R.Ei q w
   |fz c=>
    cases a;obtain⟨x,b,f⟩:=R.slot i _ q;have h:=w;rw[h]at b;cases b
    exact⟨B,R,f,Ext.refl _ _ _ _⟩
   |no=>cases a
   |ex=>cases a
   |io c=>cases a
   |ro c=>cases a
theorem Rel.uq:∀{rs:List RV} {vs:List V} {ds:List D} {B:Hp} {L ρ':Rho},Rel F B H J L->WVl B J vs rs->fv rs L=some (ds,ρ')->∃B',Rel F B' H J ρ'/\aJ B' vs ds/\Ext J L B H ρ' B' H
 | [],[],ds,B,L,ρ',R,_,e=>by cases e;exact⟨B,R,.nil,Ext.refl _ _ _ _⟩
 |r::rs,v::vs,ds,B,L,ρ',R,⟨w,m⟩,e=>by
  obtain⟨x,i,e⟩:=zaa e;obtain⟨y,j,e⟩:=zab e;cases e;obtain⟨n,f,k,b⟩:=R.frz w i;obtain⟨d,R2,a,c⟩:=Rel.uq f (m.mono b.sB) j;exact⟨d,R2,.cons (k.mono c.sB) a,b.trans c⟩
 | [],_::_,_,_,_,_,_,h,_=>h.elim
 |_::_,[],_,_,_,_,_,h,_=>h.elim
end
def cW(m:Rho->Option (List RV×Rho)):PM:=λL=>(m L).bind λx=>(fv x.1 x.2).bind λy=>cIf (y.1.length<=sizeLine) (some ((.tuple y.1,.fz),y.2)) none
def eM(m:Rho->Option (List RV×Rho)):PM:=λL=>(m L).bind λx=>(fv x.1 x.2).bind λy=>cIf (y.1.length<=sizeLine) (some ((.list y.1,.new),y.2)) none
theorem M0(h:MA t m):ME (DW t) (cW m):=by
 intro F B H J L r ρ' Q R e q
 fail "q1"
 obtain⟨j,e⟩:=bQ e
 .cases e
  fail "q3"
  obtain⟨k,R2,a,c⟩:=Rel.uq n S.weak ρ;refine⟨by rw[a.length];exact j,λp i=>?_⟩
  have:=eY (Y0:=(.tuple y.1,true)) R2 ⟨vs,a,λQ h=>h⟩ λv B' H' E d f N=>q v B' H' (C.trans<|c.trans E) d f λp z=>by cases z
  exact this p i
theorem M1(h:MA t m):ME (Mm t) (eM m):=by
 intro F B H J L r ρ' Q R e q
 fail "q1"
 obtain⟨j,e⟩:=bQ e
 .cases e
  fail "q3"
  obtain⟨s,R2,a,c⟩:=Rel.uq n S.weak ρ;refine⟨by rw[a.length];exact j,λp i=>?_⟩
  have:=eY (Y0:=(.list y.1,true)) R2 ⟨vs,a,λQ h=>h⟩ λv B' H' E d f N=>q v B' H' (C.trans<|c.trans E) d f λp k o=>C.live p (N p k o)
  exact this p i
def Views(B H:Hp):List V->List D->Prop
 | [],[]=>True
 |v::vs,d::ds=>View B H v d/\Views B H vs ds
 |_,_=>False
theorem Vl.views(R:Rel F B H J L):∀{vs:List V} {rs:List RV},Vl F B H J L vs rs->Views B H vs (rs.map (·.1))
 | [],[],_=>trivial
 |v::vs,r::rs,⟨⟨h,n⟩,t⟩=>⟨h.view R,Vl.views R t⟩
def ik(r:List V->Hp->VK->Prop)(g:List D->Option (D×Bool)):Prop:=∀(B H:Hp) (vs:List V) (ds:List D) (Y0:D×Bool),aA B H->Views B H vs ds->g ds=some Y0->nF B H Y0 λQ=>r vs H Q
def mCB(g:List D->Option (D×Bool))(m:Rho->Option (List RV×Rho)):PM:=λL=>(m L).bind λx=>(g (x.1.map (·.1))).map λY0=>(jN Y0,x.2)
theorem il(σ:ik r g)(h:MA t m):ME (tCB r t) (mCB g m):=by
 intro F B H J L v ρ' Q R e q;obtain⟨x,A,e⟩:=zaa e;obtain⟨k,o,e⟩:=zab e;cases e
 fail "q3"
 exact eY n (σ W b vs _ k n.sub (S.views n) o) λw a d c i j f=>q w a d (C.trans c) i j λp s u=>C.live p (f p s u)
noncomputable def asI:RV×Rho->Option (Int×Rho)
 |((.int i,_),L)=>some (i,L)
 |_=>none
theorem Ek(h:asI x=some (b,L)):x.1.1=.int b/\x.2=L:=by
 obtain⟨⟨d,k⟩,a⟩:=x;cases d with
 |int c=>cases h;exact⟨rfl,rfl⟩
 |_=>cases h
def wC(a:PM):Rho->Option (Option Int×Rho):=λL=>((sv a L).bind asI).map λx=>(some x.1,x.2)
def MO(t:TO)(m:Rho->Option (Option Int×Rho)):Prop :=
 ∀(F:Fr) (B H:Hp) (J:St) (L:Rho) (b:Option Int) (ρ':Rho) (Q:Option Int->Hp->Prop),Rel F B H J L->m L=some (b,ρ')->
  (∀B' H',Ext J L B H ρ' B' H'->Rel F B' H' J ρ'->Q b H')->t J H Q
theorem HY(ha:ME g a):MO (K7 g) (wC a):=by
 intro F B H J L b ρ' Q R e q;obtain⟨y,j,e⟩:=zab e;obtain⟨x,k,m⟩:=zaa j;cases e;obtain⟨n,o⟩:=Ek m;refine ha.sv F B H J L x.1 x.2 _ R k λv f h d c i p=>?_
 have:=i.view c;rw[n]at this;rw[o]at d c;exact⟨y.1,this.int,q f h d c⟩
def SlJ(r:V->Option Int->Option Int->Hp->VK->Prop)(g:D->Option Int->Option Int->Option (D×Bool)):Prop :=
 ∀(B H:Hp) (x:V) (c:D) (l u:Option Int) (Y0:D×Bool),aA B H->View B H x c->g c l u=some Y0->nF B H Y0 λQ=>r x l u H Q
def mSl(g:D->Option Int->Option Int->Option (D×Bool))(a:PM)(l u:Rho->Option (Option Int×Rho)):PM:=λL=>(sv a L).bind λx=>(l x.2).bind λy=>(u y.2).bind λz=>(mJ z.2 x.1).bind λr=>(g r.1 y.1 z.1).map λY0=>(jN Y0,z.2)
theorem Pp(σ:SlJ r g)(ha:ME O a)(I:MO tl l)(M:MO U u):ME (tSl r O tl U) (mSl g a l u):=by
 intro F B H J L r0 ρ' Q R e q
 fail "q1"
 obtain⟨z,S,e⟩:=zaa e;obtain⟨X,V,e⟩:=zaa e;obtain⟨P,W,e⟩:=zab e;cases e
 fail "q2"
 refine I F G C J x.2 y.1 y.2 _ f ρ λh n c R2=>?_
 refine M F h n J y.2 z.1 z.2 _ R2 S λi o d b=>?_
 obtain⟨K,n3⟩:=E.next (c.trans d) b (fJ A) V;exact eY b (σ i o v X.1 y.1 z.1 P b.sub (K.view b) W) λw k s m D N t=>q w k s ((j.trans<|c.trans d).trans m) D N λp Z Y=>(j.trans<|c.trans d).live p (t p Z Y)
end Mir
namespace Mir
open L2
variable [Zc]
mutual
noncomputable def ee:D->Bool
 | .none=>true
 | .bool _=>true
 | .int _=>true
 | .str _=>true
 | .list _=>false
 | .tuple ds=>aU ds
 | .dict _=>false
noncomputable def aU:List D->Bool
 | []=>true
 |d::ds=>ee d&&aU ds
end
mutual
theorem Rep.cX(k:∀q xs,B q=some (.tup xs)->B' q=some (.tup xs)):∀{v:V} {d:D},Rep B v d->ee d=true->Rep B' v d
 |_,_,.non,_=>.non
 |_,_,.bl b,_=>.bl b
 |_,_,.int i,_=>.int i
 |_,_,.str x,_=>.str x
 |_,_,.lst _ _,h=>by simp[ee]at h
 |_,_,.dct _ _,h=>by simp[ee]at h
 |_,_,.tup h r,e=>.tup (k _ _ h) (aJ.cX k r (by simpa[ee]using e))
theorem aJ.cX(k:∀q xs,B q=some (.tup xs)->B' q=some (.tup xs)):∀{v:List V} {d:List D},aJ B v d->aU d=true->aJ B' v d
 |_,_,.nil,_=>.nil
 |_,_,.cons a b,e=>by
  simp only[aU,Bool.and_eq_true]at e;exact .cons (Rep.cX k a e.1) (aJ.cX k b e.2)
end
theorem aV.cX(k:∀q xs,B q=some (.tup xs)->B' q=some (.tup xs)):∀{v:List<|Key×V} {d:List<|D×D},aV B v d->aU (d.map (·.2))=true->aV B' v d
 |_,_,.nil,_=>.nil
 |_,_,.cons c a b,e=>by
  simp only[List.map_cons,aU,Bool.and_eq_true]at e;exact .cons c (Rep.cX k a e.1) (aV.cX k b e.2)
def cF(d:D)(o:Bool):Bool:=match o,d with
 |true,.list ds=>aU ds
 |true,.dict es=>aU (es.map (·.2))
 |true,_=>false
 |false,d=>ee d
structure Post(B H:Hp)(v:V)(B' H':Hp)(d:D)(o:Bool):Prop where
 eH:aA H H'
 eB:aA B B'
 sub:aA B' H'
 nb:∀q,H q≠none->B q=none->B' q=none
 tB:∀q xs,H' q=some (.tup xs)->B' q=some (.tup xs)
 nz:∀q o u,H' q=some (.frz o u)->H q≠none
 val:if o=true then∃p,v=.ref p/\H p=none/\B' p=none/\Own B' H' p d else Rep B' v d
def spM(f:List D->Option (D×Bool)):Sp:=λvs H Q _=>∃B ds d o,aA B H/\(∀q xs,H q=some (.tup xs)->B q=some (.tup xs))/\aJ B vs ds/\f ds=some (d,o)/\∀v B' H',Post B H v B' H' d o->Q v H'
def kO(d:D)(o:Bool):RV:=(d,if o=true then .new else .fz)
def aQ(f:List D->Option (D×Bool))(m:Rho->Option (List RV×Rho)):PM:=λL=>(m L).bind λx=>(f (x.1.map (·.1))).bind λw=>
 if cF w.1 w.2=true then some (kO w.1 w.2,x.2)else(fv x.1 x.2).map λy=>(kO w.1 w.2,y.2)
theorem Views.reps(e:aA B H):∀{vs:List V} {ds:List D},Views B H vs ds->aJ H vs ds
 | [],[],_=>.nil
 |v::vs,d::ds,⟨h,t⟩=>.cons (h.rep e) (Views.reps e t)
theorem wD:∀{rs:List RV} {L ρ':Rho} {ds:List D},(∀r∈rs,∀i,r.2=.at i->∃s,L[i]?=some s/\slD s=r.1)->fv rs L=some (ds,ρ')->ds=rs.map (·.1)
 | [],_,_,_,_,e=>by cases e;rfl
 |r::rs,L,ρ',ds,h,e=>by
  obtain⟨x,f,e⟩:=zaa e;obtain⟨y,p,e⟩:=zab e;cases e;have o:x.1=r.1/\∀(i:Nat) (s:Sl),L[i]?=some s->∃s',x.2[i]?=some s'/\slD s'=slD s:=by
   obtain⟨d,k⟩:=r;cases k with
   |fz=>cases f;exact⟨rfl,λi s h=>⟨s,h,rfl⟩⟩
   |new=>cases f
   |ro=>cases f
   | «at» i=>
    obtain⟨s,b,m⟩:=h (d,.at i) (by simp) i rfl
    have a:(match L[i]? with
     |some (.own d)=>some (d,L.set i<|.fz d)
     |some (.fz d)=>some (d,L)
     |_=>none)=some x:=f
    rw[b]at a;cases s with
    |own c=>
     cases a;refine⟨m,λj t n=>?_⟩
     by_cases z:j=i
     .subst z
      rw[b]at n;cases n
      obtain⟨q,_⟩:=zac b;exact⟨.fz c,by rw[zav q],rfl⟩
     .exact⟨t,by rw[zaA λe=>z e.symm];exact n,rfl⟩
    |fz c=>cases a;exact⟨m,λi s h=>⟨s,h,rfl⟩⟩
    |no=>cases a
    |ex=>cases a
    |io c=>cases a
    |ro c=>cases a
  rw[zaz,o.1,wD (λr u i hi=>?_) p]
  obtain⟨s,b,m⟩:=h r (zak _ u) i hi;obtain⟨s',h3,h4⟩:=o.2 i s b;exact⟨s',h3,h4.trans m⟩
theorem Vl.at:∀{vs:List V} {rs:List RV},Vl F B H J L vs rs->∀r∈rs,∀i,r.2=.at i->∃s,L[i]?=some s/\slD s=r.1
 | [],[],_,f,e,i,hi=>by cases e
 |v::vs,r::rs,⟨⟨h,_⟩,t⟩,f,e,i,hi=>by
  rcases zaf e with rfl|e
  .obtain⟨d,k⟩:=f
   cases(hi);obtain⟨s,j,_,n,_⟩:=h;exact⟨s,j,n⟩
  .exact Vl.at t f e i hi
theorem AJ(h:MA t m):ME (jK (spM f) [] E t) (aQ f m):=by
 intro F B H J L T ρ' Q R e q;obtain⟨x,A,e⟩:=zaa e;obtain⟨w,σ,e⟩:=zaa e
 fail "q3"
 rw[zaR]
 by_cases k:cF w.1 w.2=true
 .rw[if_pos k]at e
  cases e;refine⟨b,_,w.1,w.2,aA.refl _,λ_ _ z=>z,(S.views n).reps n.sub,σ,λv B' H' P=>?_⟩
  let a:Hp:=λq=>if b q=none then B' q else W q
  have c:∀q,b q≠none->a q=W q:=λq z=>if_neg z
  have new:∀q,b q=none->a q=B' q:=λq z=>if_pos z
  have eB:aA W a:=λq o z=>by rw[c q (by rw[n.sub q o z];simp)];exact z
  have sub:aA a H':=λq o z=>by
   by_cases y:b q=none
   .rw[new q y]at z;exact P.sub q o z
   .rw[c q y]at z;exact P.eH q o (n.sub q o z)
  have nb:∀q,b q≠none->W q=none->a q=none:=λq y z=>by rw[c q y];exact z
  have tB:∀q xs,H' q=some (.tup xs)->a q=some (.tup xs):=λq xs z=>by
   cases y:b q with
   |none=>rw[new q y];exact P.tB q xs z
   |some o=>
    have:=P.eH q o y;rw[z]at this;cases this;rw[c q (by rw[y];simp)];exact n.cj q xs y
  have u:=λq xs z=>tB q xs (P.sub q _ z)
  have R2:=n.grow eB P.eH sub nb tB P.nz;have j:Ext J x.2 W b x.2 a H':=Ext.grow eB P.eH nb;obtain⟨d,o⟩:=w;cases o with
  |false=>
   have pv:=P.val;exact q v a H' (C.trans j) R2 (pv.cX u k) λp z=>by cases z
  |true=>
   obtain⟨p,rfl,i,s,h3⟩:∃p,v=.ref p/\b p=none/\B' p=none/\Own B' H' p d:=P.val;have fr:=n.free i;refine q _ a H' (C.trans j) R2 ⟨p,rfl,by rw[new p i];exact s,fr.2.1,?_,fr.2.2⟩ λN _ z=>by cases z;exact C.live p i
   cases h3 with
   |lst h r=>exact .lst h (r.cX u k)
   |dct h r=>exact .dct h (r.cX u k)
 .rw[if_neg k]at e
  obtain⟨y,K,e⟩:=zab e;cases e;obtain⟨a,R2,ρ,j⟩:=Rel.uq n S.weak K;have hd:=wD S.at K;rw[hd]at ρ;refine⟨a,_,w.1,w.2,R2.sub,R2.cj,ρ,σ,λv B' H' P=>?_⟩
  have G:=R2.grow P.eB P.eH P.sub P.nb P.tB P.nz;have D:Ext J y.2 a b y.2 B' H':=Ext.grow P.eB P.eH P.nb;obtain⟨d,o⟩:=w;cases o with
  |false=>
   have pv:=P.val;exact q v B' H' (C.trans<|j.trans D) G pv λp z=>by cases z
  |true=>
   obtain⟨p,rfl,i,s,h3⟩:∃p,v=.ref p/\b p=none/\B' p=none/\Own B' H' p d:=P.val;have fr:=R2.free i;exact q _ B' H' (C.trans<|j.trans D) G ⟨p,rfl,s,fr.2.1,h3,fr.2.2⟩ λN _ z=>by cases z;exact C.live p i
def wF(B H:Hp)(x:V)(H':Hp)(d:D):Prop:=(H'=H/\Rep B x d)\/∃p xs e,d=.tuple e/\x=.ref p/\H p=none/\H'=upd H p (.tup xs)/\aJ B xs e
def lP(G B:Hp)(σ:It)(ds:List D):Prop:=∀H,aA G H->σ.stop ds.length H/\∀(i:Nat) (d:D),ds[i]?=some d->σ.go i H/\∀x H',σ.yld i H x H'->wF B H x H' d
def MI(t:TI)(m:Rho->Option (List D×Rho)):Prop :=
 ∀(F:Fr) (B H:Hp) (J:St) (L:Rho) (ds:List D) (ρ':Rho) (Q:It->Hp->Prop),Rel F B H J L->m L=some (ds,ρ')->
  (∀σ B' H',Ext J L B H ρ' B' H'->Rel F B' H' J ρ'->lP H' B' σ ds->Q σ H')->t J H Q
def MF(t:TI)(m:Rho->Option (List D×Rho)):Prop :=
 ∀(F:Fr) (B H:Hp) (J:St) (L:Rho) (ds:List D) (ρ':Rho) (Q:It->Hp->Prop),Rel F B H J L->m L=some (ds,ρ')->
  (∀σ B' H',Ext J L B H ρ' B' H'->Rel F B' H' J ρ'->lP B' B' σ ds->Q σ H')->t J H Q
def eK(h:Rd H p<|.lst xs):SqL K H p xs:=.inl h
theorem El(h:Rd G p<|.lst xs)(r:aJ B xs ds):lP G B (Itl K p) ds:=λH s=>by
 have h':SqL K H p xs:=eK (cB s h);refine⟨⟨xs,h',by rw[r.length];exact zap _⟩,λi d hd=>?_⟩
 obtain⟨x,a,c⟩:=r.get i d hd;refine⟨⟨xs,x,h',a⟩,λy H' b=>.inl ⟨b.1,?_⟩⟩
 have:=b.2 xs h';rw[a]at this;cases this;exact c
theorem Em(h:G p=some (.tup xs))(r:aJ B xs ds):lP G B (Itt K p) ds:=λH s=>by
 have h':SqT K H p xs:=.inl (.inl<|s _ _ h);refine⟨⟨xs,h',by rw[r.length];exact zap _⟩,λi d hd=>?_⟩
 obtain⟨x,a,c⟩:=r.get i d hd;refine⟨⟨xs,x,h',a⟩,λy H' b=>.inl ⟨b.1,?_⟩⟩
 have:=b.2 xs h';rw[a]at this;cases this;exact c
def asL:D->Option (List D)
 | .list ds=>some ds
 |_=>none
noncomputable def asT:D->Option (List D)
 | .tuple ds=>some ds
 |_=>none
theorem zc(h:asL d=some ds):d=.list ds:=by cases d<;>first|cases h;rfl|cases h
theorem zd(h:asT d=some ds):d=.tuple ds:=by cases d<;>first|cases h;rfl|cases h
def ur(a:PM):Rho->Option (List D×Rho):=λL=>(sv a L).bind λx=>(asL x.1.1).map λds=>(ds,x.2)
def ze(a:PM):Rho->Option (List D×Rho):=λL=>(sv a L).bind λx=>(asT x.1.1).map λds=>(ds,x.2)
def En(a:PM):Rho->Option (List D×Rho):=λL=>(sv a L).bind λx=>(gK x.1 x.2).bind λy=>(asL y.1).map λds=>(ds,y.2)
section
variable{K:zag}{ta:TE}{a:PM}
theorem HZ(ha:ME ta a):MI (wm K ta) (ur a):=by
 intro F B H J L ds ρ' Q R e q;obtain⟨x,A,e⟩:=zaa e;obtain⟨c,d,e⟩:=zab e;cases e
 fail "q2"
 have w:=E.view f;rw[zc d]at w;obtain⟨p,xs,rfl,b,h⟩:=w.list f.sub;exact⟨p,rfl,⟨xs,eK b⟩,q _ G C j f<|El b h⟩
theorem M3(ha:ME ta a):MI (Hq K ta) (ze a):=by
 intro F B H J L ds ρ' Q R e q;obtain⟨x,A,e⟩:=zaa e;obtain⟨c,d,e⟩:=zab e;cases e
 fail "q2"
 have w:=E.view f;rw[zd d]at w;obtain⟨p,xs,rfl,b,h⟩:=w.tuple f.sub;exact⟨p,rfl,⟨xs,.inl<|.inl b⟩,q _ G C j f<|Em b h⟩
theorem M4(ha:ME ta a):MF (Hq K ta) (ze a):=by
 intro F B H J L ds ρ' Q R e q;obtain⟨x,A,e⟩:=zaa e;obtain⟨c,d,e⟩:=zab e;cases e
 fail "q2"
 have w:=E.view f;rw[zd d]at w;obtain⟨p,xs,rfl,b,h⟩:=w.tuple f.sub;exact⟨p,rfl,⟨xs,.inl<|.inl b⟩,q _ G C j f<|Em (f.cj _ _ b) h⟩
theorem Ia(ha:ME ta a):MF (wm K ta) (En a):=by
 intro F B H J L ds ρ' Q R e q;obtain⟨x,A,e⟩:=zaa e;obtain⟨y,m,e⟩:=zaa e;obtain⟨i,k,e⟩:=zab e;cases e
 fail "q2"
 have w:=(Vl.weak (vs:=[v]) (rs:=[x.1]) ⟨⟨E,fJ A⟩,trivial⟩).1;obtain⟨c,R2,b,d⟩:=f.frz w m;rw[zc k]at b;cases b with
 |lst h r=>exact⟨_,rfl,⟨_,eK<|cB R2.sub h⟩,q _ c C (j.trans d) R2<|El h r⟩
end
def pB(lo:Int)(n:Nat):List D:=(List.range n).map λ(k:Nat)=>PyData.int (lo+(k:Int))
theorem Eo:lP G B (Itr lo n) (pB lo n):=λH _=>by
 refine⟨by simp[pB,Itr],λi d hd=>?_⟩
 rw[pB,zao]at hd;obtain⟨k,c,e⟩:=zab hd;have hk:=zac c;obtain⟨a,hk⟩:=hk;rw[List.getElem_range]at hk;rw[List.length_range]at a;subst hk;refine⟨a,λx H' b=>.inl ⟨b.1,?_⟩⟩
 rw[b.2,<-e];exact .int _
def rg1:List RV×Rho->Option (List D×Rho)
 |([(.int j,_)],L)=>cIf (-(2^62)<=j/\j<2^62) (some (pB 0 j.toNat,L)) none
 |_=>none
def rg2:List RV×Rho->Option (List D×Rho)
 |([(.int i,_),(.int j,_)],L)=>cIf (-(2^62)<=i/\i<2^62/\-(2^62)<=j/\j<2^62) (some (pB i (j-i).toNat,L)) none
 |_=>none
def lz(m:Rho->Option (List RV×Rho)):Rho->Option (List D×Rho):=λL=>(m L).bind rg1
def Ci(m:Rho->Option (List RV×Rho)):Rho->Option (List D×Rho):=λL=>(m L).bind rg2
section
variable{ta:TA}{m:Rho->Option (List RV×Rho)}
theorem wG(h:MA ta m)(F:Fr)(B H:Hp)(J:St)(L:Rho)(ds:List D)(ρ':Rho)(Q:It->Hp->Prop)(R:Rel F B H J L)(e:lz m L=some (ds,ρ'))
  (q:∀σ B' H',Ext J L B H ρ' B' H'->Rel F B' H' J ρ'->(∀G,lP G B' σ ds)->Q σ H'):AB ta J H Q:=by
 obtain⟨x,A,e⟩:=zaa e
 fail "q3"
 obtain⟨rs,f⟩:=x;unfold rg1 at e;split at e
 .rename_i j k i a
  cases a;obtain⟨c,e⟩:=bQ e
  .cases e
   match vs,S with
   | [v],⟨⟨d,_⟩,_⟩=>
    have:v=.int j:=(d.view n).int;subst this;exact⟨j,rfl,c.1,c.2,q _ W b C n λG=>Eo⟩
 .cases e
theorem Ep(h:MA ta m)(F:Fr)(B H:Hp)(J:St)(L:Rho)(ds:List D)(ρ':Rho)(Q:It->Hp->Prop)(R:Rel F B H J L)(e:Ci m L=some (ds,ρ'))
  (q:∀σ B' H',Ext J L B H ρ' B' H'->Rel F B' H' J ρ'->(∀G,lP G B' σ ds)->Q σ H'):DS ta J H Q:=by
 obtain⟨x,A,e⟩:=zaa e
 fail "q3"
 obtain⟨rs,o⟩:=x;unfold rg2 at e;split at e
 .rename_i i k j r p a
  cases a;obtain⟨f,e⟩:=bQ e
  .cases e
   match vs,S with
   | [v,w],⟨⟨c,_⟩,⟨d,_⟩,_⟩=>
    have:v=.int i:=(c.view n).int;subst this;have:w=.int j:=(d.view n).int;subst this;exact⟨i,j,rfl,f,q _ W b C n λG=>Eo⟩
 .cases e
def Ib(h:MA ta m):MI (AB ta) (lz m):=λF B H J L ds ρ' Q R e q=>wG h F B H J L ds ρ' Q R e λσ B' H' E a I=>q σ B' H' E a (I _)
def Ic(h:MA ta m):MF (AB ta) (lz m):=λF B H J L ds ρ' Q R e q=>wG h F B H J L ds ρ' Q R e λσ B' H' E a I=>q σ B' H' E a (I _)
def Ie(h:MA ta m):MF (DS ta) (Ci m):=λF B H J L ds ρ' Q R e q=>Ep h F B H J L ds ρ' Q R e λσ B' H' E a I=>q σ B' H' E a (I _)
end
end Mir
namespace Mir
open L2
variable [Zc]
noncomputable def Ig:List RV×Rho->Option (RV×Rho)
 |([r],L)=>some (r,L)
 |_=>none
theorem AM(h:Ig x=some y):x=([y.1],y.2):=by
 obtain⟨rs,L⟩:=x;unfold Ig at h;split at h
 .rename_i a;cases a;cases h;rfl
 .cases h
noncomputable def bG(L:Rho)(i:Nat):Sl:=match L[i]? with
 |some (.own d)=>.ro d
 |some (.io d)=>.ro d
 |some .ex=>.no
 |some s=>s
 |none=>.no
def asF:RV->Option D
 |(d,.fz)=>some d
 |_=>none
theorem M5(h:asF r=some d):r=(d,.fz):=by
 obtain⟨c,k⟩:=r;cases k with
 |fz=>cases h;rfl
 |_=>cases h
def jP(c:Rho->Option (Bool×Rho))(e:PM)(M:Rho):List D->Option (List D)
 | []=>some []
 |d::ds=>(c (.fz d::M)).bind λb=>if b.1=true then(sv e (.fz d::M)).bind λy=>(asF y.1).bind λz=>(jP c e M ds).map (z::·)else jP c e M ds
def mLC(fr:List<|Str×Nat)(it:Rho->Option (List D×Rho))(c:Rho->Option (Bool×Rho))(e:PM):PM:=λL=>(it L).bind λx=>(jP c e (fr.map λp=>bG x.2 p.2) x.1).bind λh=>cIf (h.length<sizeLine) (some ((.list h,.new),x.2)) none
def uu:Rho->Option (Bool×Rho):=λL=>some (true,L)
theorem M6:MT MK uu:=by
 intro F B H J L b ρ' Q R e q;cases e;exact q B H (Ext.refl _ _ _ _) R
def F0(H:Hp):Fr:=⟨λ_=>none,λ_=>none,[],λq=>H q≠none⟩
theorem Cj:bG L i≠.ex:=by
 unfold bG;cases h : L[i]? with
 |none=>simp
 |some s=>cases s<;>simp
theorem pC:(bG L i).cV=false:=by
 unfold bG;cases h : L[i]? with
 |none=>rfl
 |some s=>cases s<;>rfl
theorem Rel.inner(R:Rel F B H J L)(fr:List<|Str×Nat)(h:Rep B v d):Rel (F0 H) B H (some v::aP J fr) (.fz d::fr.map λp=>bG L p.2):=by
 have w:∀(i:Nat) (s:Sl),(Sl.fz d::fr.map λp=>bG L p.2)[i]?=some s->s.cV=true->False:=λi s a b=>by
  cases i with
  |zero=>cases a;cases b
  |succ i=>
   have f:(fr.map λp=>bG L p.2)[i]?=some s:=by simpa using a
   rw[zao]at f;obtain⟨p,_,e⟩:=zab f;rw[<-e,pC]at b;cases b
 have r:∀i:Nat,(Sl.fz d::fr.map λp=>bG L p.2)[i]?=some Sl.ex->False:=λi a=>by
  cases i with
  |zero=>cases a
  |succ i=>
   have f:(fr.map λp=>bG L p.2)[i]?=some Sl.ex:=by simpa using a
   rw[zao]at f;obtain⟨p,_,e⟩:=zab f;exact absurd e Cj
 refine⟨R.sub,(λ_ _ z=>by cases z),(λ_ _ z=>by cases z),λ_ z _=>absurd rfl z,by simp[aP],λi s hs=>?_,λi j s t p a b=>(w i s a b).elim,λi d p a=>(w i _ a rfl).elim,(λx n=>by cases n),λi d a=>(w i _ a rfl).elim,R.cj,(λi a=>(r i a).elim),λq o u h z=>by rw[z]at h;cases h⟩
 cases i with
 |zero=>cases hs;exact⟨v,rfl,h⟩
 |succ i=>
  have m:(fr.map λp=>bG L p.2)[i]?=some s:=by simpa using hs
  rw[zao]at m;obtain⟨p,A,e⟩:=zab m;have k:∀x,J[p.2]?=some (some x)->(some v::aP J fr)[i+1]?=some (some x):=λx n=>by
   rw[zat];unfold aP;rw[zao,A,zaT,List.getD_eq_getElem?_getD,n];rfl
  unfold bG at e;cases q : L[p.2]? with
  |none=>rw[q]at e;subst e;trivial
  |some y=>
   rw[q]at e;have sl:=R.slot p.2 y q;cases y with
   |no=>subst e;trivial
   |ex=>subst e;trivial
   |fz c=>subst e;obtain⟨x,a,b⟩:=sl;exact⟨x,k _ a,b⟩
   |own c=>subst e;obtain⟨x,a,_,b⟩:=sl;exact⟨x,k _ a,b⟩
   |io c=>subst e;obtain⟨x,a,_,b⟩:=sl;exact⟨x,k _ a,b⟩
   |ro c=>subst e;obtain⟨x,a,b⟩:=sl;exact⟨x,k _ a,b⟩
theorem ip(g:∀(i:Nat) (s:Sl),L[i]?=some s->s.cV=true->False)(E:Ext J L B H ρ' B' H'):aA H H'/\∀q,H q≠none->B q=none->B' q=none:=by
 have k:=λq o h=>E.keep q o h λi s a b=>(g i s a b).elim
 refine⟨λq o h=>(k q o h).1,λq h z=>?_⟩
 cases e:H q with
 |none=>exact absurd e h
 |some o=>exact(k q o e).2 z
theorem gk{fr:List<|Str×Nat}(i:Nat)(s:Sl)(l:(Sl.fz d::fr.map λp=>bG L p.2)[i]?=some s)(g:s.cV=true):False:=by
 cases i with
 |zero=>cases l;cases g
 |succ i=>
  have a:(fr.map λp=>bG L p.2)[i]?=some s:=by simpa using l
  rw[zao]at a;obtain⟨p,_,e⟩:=zab a;rw[<-e,pC]at g;cases g
theorem Er{c:Rho->Option (Bool×Rho)}{e:PM}(hc:MT tc c)(he:ME te e){F:Fr}{O M:Hp}{J:St}{g:Rho}{σ:It}{ds out:List D}{Q:VK}(R1:Rel F O M J g)(I1:lP M O σ ds)(e2:jP c e (fr.map λp=>bG g p.2) ds=some out)(hz:out.length<sizeLine)
  (q:∀v B' H',Ext J g O M g B' H'->Rel F B' H' J g->Val F B' H' J g v (.list out,.new)->(∀p,Kd.new=Kd.new->v=.ref p->M p=none)->Q v H') :
  ∃W:Nat->Nat->List V->Hp->Prop,(∃m,W 0 m [] M)/\∀i m I l,W i m I l->I.length<sizeLine/\
 ((σ.stop i l/\∀D,l D=none->Q (.ref D) (upd l D<|.lst I))\/
  (σ.go i l/\∀v U,σ.yld i l v U->tc (some v::aP J fr) U λb Y=>
   if b=true then te (some v::aP J fr) Y λy H5=>∃m',m'<m/\W (i+1) m' (I++[y]) H5 else∃m',m'<m/\W (i+1) m' I Y)):=by
 refine⟨λi m I l=>m=ds.length-i/\i<=ds.length/\∃d done Z0,aA O d/\aA M l/\(∀q,M q≠none->O q=none->d q=none)/\Rel F d l J g/\aJ d I done/\jP c e (fr.map λp=>bG g p.2) (ds.drop i)=some Z0/\done++Z0=out,
  ⟨ds.length,rfl,Nat.zero_le _,O,[],out,aA.refl _,aA.refl _,λ_ _ z=>z,R1,.nil,e2,rfl⟩,?_⟩
 rintro i m I l ⟨rfl,hil,d,done,Z0,eB,eH,nb,R2,S,n,a⟩
 have hlen:I.length<=out.length:=by rw[<-a,zau,S.length];lia
 refine⟨by lia,?_⟩
 by_cases r:i<ds.length
 .refine .inr ?_
  obtain⟨go,yl⟩:=(I1 l eH).2 i ds[i] (zaC r);refine⟨go,λv U hy=>?_⟩
  rw[zbb r]at n;obtain⟨b,c1,s⟩:=zaa (n);have had:∃B,aA d B/\aA l U/\(∀q,l q≠none->d q=none->B q=none)/\Rel F B U J g/\Rep B v ds[i]:=by
   rcases yl v U hy with⟨rfl,C⟩|⟨p,xs,cs,h1,rfl,h3,rfl,h5⟩
   .exact⟨d,aA.refl _,aA.refl _,λ_ _ z=>z,R2,C.mono eB⟩
   .obtain⟨R,E3,e3⟩:=R2.rg h3
    refine⟨_,e3,ij h3,λq h z=>?_,R,?_⟩
    .rw[aj λy=>h (by rw[y];exact h3)];exact z
    .rw[h1];exact .tup ak (h5.mono<|eB.trans e3)
  obtain⟨B,f,j,nb3,R,rv⟩:=had;have Ri:=R.inner fr rv;refine hc (F0 U) B U _ _ b.1 b.2 _ Ri c1 λT Y t X=>?_
  obtain⟨k,H⟩:=ip gk t;have x:=R.grow t.sB k X.sub H X.cj X.nz;have ρ:∀q,M q≠none->O q=none->T q=none:=λq h z=>by
   have C:=λy=>h (eH.free y)
   have h3:=λy=>C (j.free y)
   exact H q h3 (nb3 q C<|nb q h z)
  cases hb:b.1 with
  |false=>
   rw[hb,if_neg zam]at s;exact⟨ds.length-(i+1),by lia,rfl,r,T,done,Z0,eB.trans<|f.trans t.sB,eH.trans<|j.trans k,ρ,x,S.mono<|f.trans t.sB,s,a⟩
  |true=>
   rw[hb,if_pos rfl]at s;obtain⟨y,c3,s⟩:=zaa s;obtain⟨z,c4,s⟩:=zaa s;obtain⟨A,c5,c6⟩:=zab s;subst c6;have Ri4:=x.inner fr (rv.mono t.sB);refine he.sv (F0 Y) T Y _ _ y.1 y.2 _ Ri4 c3 λu B5 H5 P Z V5 N5=>?_
   obtain⟨G,K⟩:=ip gk P;have R5o:=x.grow P.sB G Z.sub K Z.cj Z.nz;rw[M5 c4]at V5;refine⟨ds.length-(i+1),by lia,rfl,r,B5,done++[z],A,eB.trans<|f.trans<|t.sB.trans P.sB,eH.trans<|j.trans<|k.trans G,λq h w=>?_,R5o,(S.mono<|f.trans<|t.sB.trans P.sB).append<|.cons V5 .nil,c5,by rw[zaD];exact a⟩
   have C:=λy=>h (eH.free y)
   have h3:=λy=>C (j.free y)
   have h4:=λy=>h3 (k.free y)
   exact K q h4 (ρ q h w)
 .have hi':i=ds.length:=by lia
  subst hi';refine .inl ⟨(I1 l eH).1,λp hp=>?_⟩
  rw[List.drop_length]at n;cases n;rw[zaR]at a;subst a;have E2:Ext J g O M g d l:=Ext.grow eB eH nb;have:=eY (Y0:=(.list done,true)) R2 ⟨I,S,λQ h=>h⟩ λv B' H' E R' V' N=>q v B' H' (E2.trans E) R' V' λp z1 z2=>E2.live p (N p z1 z2)
  exact this p hp
theorem Pq(hi:MI O it)(g:MT I c)(l:ME M e):ME (tLC fr O I M) (mLC fr it c e):=by
 intro F B H J L u ρ' Q R a q;obtain⟨x,j,a⟩:=zaa a;obtain⟨out,k,a⟩:=zaa a;obtain⟨m,a⟩:=bQ a;cases a;refine hi F B H J L x.1 x.2 _ R j λσ s t b h d=>?_
 obtain⟨ds,r⟩:=x;exact Er g l h d k m λv B' H' E f i N=>q v B' H' (b.trans E) f i λp n o=>b.live p (N p n o)
end Mir
namespace Mir
open L2
variable [Zc]
noncomputable def Sl.put:Sl->D->Sl
 | .own _,d=>.own d
 | .io _,d=>.io d
 |s,_=>s
section
variable{F:Fr}{B H:Hp}{J:St}{L ρ':Rho}{v:V}
theorem pq.at(e : l[i]?=J[i]?)(h:pq B H J i s):pq B H l i s:=by
 unfold pq at h⊢;rw[e];exact h
theorem Rel.write(R:Rel F B H J L)(hi : L[i]?=some s)(hs:s.cV=true)(g : J[i]?=some (some<|.ref p))(no:(∀xs,o≠.tup xs)/\∀a u,o≠.frz a u)(l:Own B (upd H p o) p d) :
  Rel F B (upd H p o) J (L.set i<|s.put d)/\Ext J L B H (L.set i<|s.put d) B (upd H p o):=by
 obtain⟨W,w,E,o0⟩:=R.ownAt hi hs;rw[g]at w;cases w;have T:=(zac hi).1;have ne:∀(j:Nat) (t:Sl) (q:Addr),j≠i->L[j]?=some t->t.isRef=true->J[j]?=some (some<|.ref q)->q≠p:=λj t q C e m h3 z=>C (R.dist i j s t p hi hs e m g<|z▸h3).symm
 have nio:∀(j:Nat) (t:Sl),(L.set i<|s.put d)[j]?=some t->∃r,L[j]?=some r/\t.cV=r.cV/\t.isRef=r.isRef/\(∀c,t=.own c->∃y,r=.own y)/\∀c,t=.io c->∃y,r=.io y:=λj t h=>by
  rcases get_set h with⟨rfl,rfl,_⟩|⟨_,h⟩
  .refine⟨s,hi,?_⟩
   cases s with
   |own c=>exact⟨rfl,rfl,λ_ _=>⟨_,rfl⟩,λ_ z=>by cases z⟩
   |io c=>exact⟨rfl,rfl,(λ_ z=>by cases z),λ_ _=>⟨_,rfl⟩⟩
   |_=>cases hs
  .exact⟨t,h,rfl,rfl,λc z=>⟨c,z⟩,λc z=>⟨c,z⟩⟩
 have S:F.H p=none\/∃x∈F.io,x.2=p:=by
  cases s with
  |own c=>exact .inl (R.iT i c p hi g)
  |io c=>
   obtain⟨W,K⟩:=R.ioN i c hi;obtain⟨e,_⟩:=R.fx _ K;have f:=e;rw[g]at f;cases f;exact .inr ⟨_,K,rfl⟩
  |_=>cases hs
 have ρ:s.put d≠.ex:=by
  cases s with
  |own c=>simp[Sl.put]
  |io c=>simp[Sl.put]
  |_=>cases hs
 refine⟨⟨?_,R.sB,?_,R.nB,by rw[zaM];exact R.len,?_,?_,?_,?_,?_,?_,(λj h=>R.exv j (ui ρ h).1),λq a u h=>by
  by_cases z:q=p
  .subst z;rw[ak]at h;cases h;exact absurd rfl (no.2 _ _)
  .rw[aj z]at h;exact R.nz q a u h⟩,⟨aA.refl _,?_,?_,?_,?_⟩⟩
 .intro q u G
  rw[aj λz=>by rw[z,E]at G;cases G];exact R.sub q u G
 .intro q u e m
  have z:q≠p:=λz=>by
   rcases S with h|⟨x,σ,h⟩
   .rw[z,h]at e;cases e
   .exact m x σ (h.trans z.symm)
  rw[aj z];exact R.sH q u e m
 .intro j t A
  rcases get_set A with⟨rfl,rfl,_⟩|⟨C,A⟩
  .cases s with
   |own c=>exact⟨p,g,E,l⟩
   |io c=>exact⟨p,g,E,l⟩
   |_=>cases hs
  .have q:=R.slot j t A
   have k:∀q,q≠p->∀u,H q=some u->upd H p o q=some u:=λq z u h=>by rw[aj z];exact h
   cases t with
   |no=>trivial
   |ex=>trivial
   |fz c=>exact q
   |own c=>obtain⟨q,e,m,h3⟩:=q;exact⟨q,e,m,h3.mono (aA.refl _)<|k q<|ne j _ q C A rfl e⟩
   |io c=>obtain⟨q,e,m,h3⟩:=q;exact⟨q,e,m,h3.mono (aA.refl _)<|k q<|ne j _ q C A rfl e⟩
   |ro c=>obtain⟨q,e,h3⟩:=q;exact⟨q,e,h3.mono (aA.refl _)<|k q<|ne j _ q C A rfl e⟩
 .intro a b t u q e m h3 h4 P Q
  obtain⟨r,f,w,_,_,_⟩:=nio a t e;obtain⟨u0,D,_,N,_,_⟩:=nio b u h3;exact R.dist a b r u0 q f (w▸m) D (N▸h4) P Q
 .intro j c q e m
  obtain⟨r,f,_,_,w,_⟩:=nio j _ e;obtain⟨y,rfl⟩:=w c rfl;exact R.iT j y q f m
 .intro x σ
  obtain⟨e,c,m⟩:=R.fx x σ;refine⟨e,?_⟩
  by_cases z:i=x.1
  .subst z
   rw[hi]at m;cases m;exact⟨d,by rw[zav T];rfl⟩
  .exact⟨c,by rw[zaA z];exact m⟩
 .intro j c e
  obtain⟨r,f,_,_,_,w⟩:=nio j _ e;obtain⟨y,rfl⟩:=w c rfl;exact R.ioN j y f
 .intro q xs h
  by_cases z:q=p
  .subst z;rw[ak]at h;cases h;exact absurd rfl (no.1 xs)
  .rw[aj z]at h;exact R.cj q xs h
 .intro q u h n
  refine⟨?_,id⟩;rw[aj λz=>n i s hi hs (by rw[z];exact g)];exact h
 .intro j t e m
  obtain⟨r,f,w,_,_,_⟩:=nio j t e;exact⟨r,f,w▸m⟩
 .intro j t e m
  obtain⟨r,f,_,w,_,_⟩:=nio j t e;exact⟨r,f,w▸m⟩
 .intro q h
  by_cases z:q=p
  .subst z;rw[ak]at h;cases h
  .rw[aj z]at h;exact h
end
noncomputable def pE:Option Sl->Option (List D)
 |some (.own (.list ds))=>some ds
 |some (.io (.list ds))=>some ds
 |_=>none
theorem uw(h:pE s=some ds):∃t,s=some t/\t.cV=true/\slD t=.list ds:=by
 unfold pE at h;split at h
 .cases h;exact⟨_,rfl,rfl,rfl⟩
 .cases h;exact⟨_,rfl,rfl,rfl⟩
 .cases h
def putAt(L:Rho)(i:Nat)(d:D):Rho:=match L[i]? with
 |some s=>L.set i (s.put d)
 |none=>L
def Es(r:V->List V->Hp->VK->Prop)(f:List D->List D->Option (List D×D)):Prop :=
 ∀(B H:Hp) (p:Addr) (xs:List V) (ds:List D) (vs:List V) (h:List D) (w:List D×D),H p=some (.lst xs)->aJ B xs ds->aA B H->aJ B vs h->f ds h=some w->
  ∃e v,aJ B e w.1/\Rep B v w.2/\∀Q:VK,Q v (upd H p<|.lst e)->r (.ref p) vs H Q
def oz(i:Nat)(f:List D->List D->Option (List D×D))(m:Rho->Option (List RV×Rho)):PM:=λL=>(pE L[i]?).bind λ_=>(m L).bind λx=>(fv x.1 x.2).bind λy=>(pE y.2[i]?).bind λds=>(f ds y.1).map λw=>((w.2,.fz),putAt y.2 i<|.list w.1)
theorem Own.list{ds:List D}(h:Own B H p<|.list ds):∃xs,H p=some (.lst xs)/\aJ B xs ds:=by
 cases h with
 |lst h r=>exact⟨_,h,r⟩
theorem Et(σ:Es r f)(h:MA t m):ME (tBM K "list" r (lg i) t) (oz i f m):=by
 intro F B H J L r0 ρ' Q R e q;obtain⟨X,Z,e⟩:=zaa e
 fail "q1"
 obtain⟨ds,g,e⟩:=zaa e;obtain⟨w,l,e⟩:=zab e;cases e;obtain⟨s0,o,j,d⟩:=uw Z;obtain⟨p,v,hB,N⟩:=R.ownAt o j;rw[d]at N;obtain⟨E,k,_⟩:=N.list;refine⟨_,v,.inl ⟨rfl,E,SqL.of k⟩,?_⟩
 fail "q3"
 obtain⟨G,R2,Y,P⟩:=Rel.uq n S.weak ρ;obtain⟨s,hs,ho,hd⟩:=uw g;obtain⟨p',a,M,c⟩:=R2.ownAt hs ho;rw[v]at a;cases a;rw[hd]at c;obtain⟨xs,O,rx⟩:=c.list;obtain⟨xs',u,D,ru,U⟩:=σ G b p xs ds vs y.1 w O rx R2.sub Y l;obtain⟨V,T⟩:=R2.write hs ho v ⟨(λ_ z=>by cases z),λ_ _ z=>by cases z⟩ (.lst ak D)
 have I:putAt y.2 i (.list w.1)=y.2.set i (s.put<|.list w.1):=by unfold putAt;rw[hs]
 rw[I]at q;exact U Q (q u G _ (C.trans<|P.trans T) V ru λp z=>by cases z)
def sj(i:Nat)(f:List D->List D->Option (List D×D)):PM:=λL=>(pE L[i]?).bind λds=>(f ds []).map λw=>((w.2,.fz),putAt L i<|.list w.1)
theorem Ih(σ:Es r f):ME (Mw K "list" r<|lg i) (sj i f):=by
 intro F B H J L A ρ' Q R e q;obtain⟨ds,k,e⟩:=zaa e;obtain⟨w,m,e⟩:=zab e;cases e;obtain⟨s,hs,ho,hd⟩:=uw k;obtain⟨p,c,y,d⟩:=R.ownAt hs ho;rw[hd]at d;obtain⟨xs,b,v⟩:=d.list;refine⟨_,c,.inl ⟨rfl,xs,SqL.of b⟩,?_⟩;obtain⟨x,u,a,t,o⟩:=σ B H p xs ds [] [] w b v R.sub .nil m;obtain⟨j,h⟩:=R.write hs ho c ⟨(λ_ z=>by cases z),λ_ _ z=>by cases z⟩ (.lst ak a)
 have n:putAt L i (.list w.1)=L.set i (s.put<|.list w.1):=by unfold putAt;rw[hs]
 rw[n]at q;exact o Q (q u B _ h j t λp z=>by cases z)
def mBM(g:D->List D->Option (D×Bool))(a:PM)(m:Rho->Option (List RV×Rho)):PM:=λL=>(sv a L).bind λx=>(m x.2).bind λy=>(mJ y.2 x.1).bind λr=>(g x.1.1 (y.1.map (·.1))).bind λ_=>(g r.1 (y.1.map (·.1))).map λY0=>(jN Y0,y.2)
end Mir
namespace Mir
open L2
variable [Zc]
inductive Out where
 |nx (L:Rho)|rt (r:RV) (L:Rho)|bk (L:Rho)|ct (L:Rho)
abbrev SM:=Rho->Option Out
def nG(F:Fr)(D:Ends):Out->Prop
 | .nx L=>∀B H J,Rel F B H J L->D.nx J H
 | .rt r L=>∀v B H J,Rel F B H J L->Val F B H J L v r->D.rt v H
 | .bk L=>∀B H J,Rel F B H J L->D.bk J H
 | .ct L=>∀B H J,Rel F B H J L->D.ct J H
def MS(t:TS)(m:SM):Prop:=∀(F:Fr) (B H:Hp) (J:St) (L:Rho) (o:Out) (D:Ends),Rel F B H J L->m L=some o->nG F D o->t D J H
def aT(a b:SM):SM:=λL=>(a L).bind λo=>match o with
 | .nx ρ'=>b ρ'
 |o=>some o
theorem Eu(ha:MS t a)(hb:MS u b):MS (DJ t u) (aT a b):=by
 fail "q6"
 refine ha F B H J L x _ R f ?_;cases x with
 |nx ρ'=>exact λB' H' c d=>hb F B' H' c ρ' o D d e q
 |rt r ρ'=>cases e;exact q
 |bk ρ'=>cases e;exact q
 |ct ρ'=>cases e;exact q
def cD:SM:=λL=>some (.nx L)
theorem AN:MS Az cD:=by
 intro F B H J L o D R e q;cases e;exact q B H J R
def Pr:SM:=λL=>some (.bk L)
theorem Ew:MS DK Pr:=by
 intro F B H J L o D R e q;cases e;exact q B H J R
def pF:SM:=λ_=>none
theorem wH:MS yT pF:=by
 intro F B H J L o D R e q;cases e
noncomputable def cw(a:PM):SM:=λL=>(a L).map λx=>.rt x.1 x.2
theorem Ex(ha:ME t a):MS (BS t) (cw a):=by
 intro F B H J L o D R e q;obtain⟨x,d,e⟩:=zab e;cases e;exact ha F B H J L x.1 x.2 _ R d λv B' H' E b c N=>q v B' H' J b c
def Pt:SM:=λL=>some (.rt (.none,.fz) L)
noncomputable def eg(a:PM):SM:=λL=>(a L).map λx=>.nx x.2
theorem Ii(ha:ME t a):MS (DN t) (eg a):=by
 intro F B H J L o D R e q;obtain⟨x,c,e⟩:=zab e;cases e;exact ha F B H J L x.1 x.2 _ R c λv B' H' E b d N=>q B' H' J b
def cL(c:Rho->Option (Bool×Rho))(a b:SM):SM:=λL=>(c L).bind λx=>if x.1=true then a x.2 else b x.2
theorem Lb(g:MT l c)(ha:MS t a)(hb:MS u b):MS (Hn l t u) (cL c a b):=by
 fail "q6"
 refine g F B H J L x.1 x.2 _ R f λB' H' E d=>?_
 by_cases h:x.1=true
 .rw[if_pos h]at e⊢;exact ha F B' H' J x.2 o D d e q
 .rw[if_neg h]at e⊢;exact hb F B' H' J x.2 o D d e q
noncomputable def eL(L:Rho)(i:Nat)(s:Sl):Option Rho:=match L[i]? with
 |none=>none
 |some (.io _)=>none
 |some _=>some (L.set i s)
theorem wI(h:eL L i s=some ρ') : ρ'=L.set i s/\∃g,L[i]?=some g/\∀d,g≠.io d:=by
 unfold eL at h;cases q : L[i]? with
 |none=>rw[q]at h;cases h
 |some g=>
  rw[q]at h;cases g with
  |io d=>cases h
  |no=>cases h;exact⟨rfl,_,rfl,λ_ z=>by cases z⟩
  |ex=>cases h;exact⟨rfl,_,rfl,λ_ z=>by cases z⟩
  |fz _=>cases h;exact⟨rfl,_,rfl,λ_ z=>by cases z⟩
  |own _=>cases h;exact⟨rfl,_,rfl,λ_ z=>by cases z⟩
  |ro _=>cases h;exact⟨rfl,_,rfl,λ_ z=>by cases z⟩
section
variable{F:Fr}{B H:Hp}{J:St}{L ρ':Rho}{v:V}
theorem Rel.iq(R:Rel F B H J L)(g:Rep B v d)(h:eL L i (.fz d)=some ρ'):Rel F B H (J.set i<|some v) ρ':=by
 obtain⟨rfl,C,q,nio⟩:=wI h;have y:=(zac q).1;have o:=R.len▸y;have n:∀j,j≠i->(J.set i<|some v)[j]?=J[j]?:=λj m=>zaA λe=>m e.symm
 refine⟨R.sub,R.sB,R.sH,R.nB,by rw[zaM,zaM];exact R.len,?_,?_,?_,?_,?_,R.cj,(λj h=>by obtain⟨f,k⟩:=ui (by simp) h;rw[n j k];exact R.exv j f),R.nz⟩
 .intro j s hs
  rcases get_set hs with⟨rfl,rfl,_⟩|⟨m,hs⟩
  .exact⟨v,zav o,g⟩
  .exact(R.slot j s hs).at (n j m)
 .intro a b s t p f k h3 h4 u w
  rcases get_set f with⟨rfl,rfl,_⟩|⟨ha,f⟩
  .cases k
  .rcases get_set h3 with⟨rfl,rfl,_⟩|⟨hb,h3⟩
   .cases h4
   .rw[n a ha]at u;rw[n b hb]at w;exact R.dist a b s t p f k h3 h4 u w
 .intro j c p f k
  rcases get_set f with⟨rfl,e,_⟩|⟨m,f⟩
  .cases e
  .rw[n j m]at k;exact R.iT j c p f k
 .intro x A
  obtain⟨f,c,k⟩:=R.fx x A;have z:x.1≠i:=λz=>by rw[z,q]at k;cases k;exact nio _ rfl
  exact⟨by rw[n _ z];exact f,c,by rw[zaA λe=>z e.symm];exact k⟩
 .intro j c f
  rcases get_set f with⟨rfl,e,_⟩|⟨m,f⟩
  .cases e
  .exact R.ioN j c f
theorem Rel.Ck(R:Rel F B H J L)(g:Val F B H J L v (d,.new))(h:eL L i (.own d)=some ρ'):Rel F B H (J.set i<|some v) ρ':=by
 obtain⟨rfl,N,C,nio⟩:=wI h;obtain⟨p,rfl,E,G,ρ,D⟩:=g;have σ:=(zac C).1;have A:=R.len▸σ;have m:∀j,j≠i->(J.set i<|some<|.ref p)[j]?=J[j]?:=λj u=>zaA λe=>u e.symm
 have y:(J.set i<|some<|.ref p)[i]?=some (some<|.ref p):=zav A;refine⟨R.sub,R.sB,R.sH,R.nB,by rw[zaM,zaM];exact R.len,?_,?_,?_,?_,?_,R.cj,(λj h=>by obtain⟨f,k⟩:=ui (by simp) h;rw[m j k];exact R.exv j f),R.nz⟩
 .intro j s hs
  rcases get_set hs with⟨rfl,rfl,_⟩|⟨u,hs⟩
  .exact⟨p,y,E,ρ⟩
  .exact(R.slot j s hs).at (m j u)
 .intro a b s t q f k h3 h4 n o
  rcases get_set f with⟨rfl,rfl,_⟩|⟨ha,w⟩
  .rcases get_set h3 with⟨rfl,rfl,_⟩|⟨hb,h3⟩
   .rfl
   .rw[y]at n
    cases n;rw[m b hb]at o;exact absurd o (D b t h3 h4)
  .rcases get_set h3 with⟨rfl,rfl,_⟩|⟨hb,h3⟩
   .rw[y]at o
    cases o;rw[m a ha]at n;exact absurd n (D a s w<|Sl.lu k)
   .rw[m a ha]at n;rw[m b hb]at o;exact R.dist a b s t q w k h3 h4 n o
 .intro j c q f k
  rcases get_set f with⟨rfl,e,_⟩|⟨u,f⟩
  .rw[y]at k;cases k;exact G
  .rw[m j u]at k;exact R.iT j c q f k
 .intro x K
  obtain⟨f,c,k⟩:=R.fx x K;have z:x.1≠i:=λz=>by rw[z,C]at k;cases k;exact nio _ rfl
  exact⟨by rw[m _ z];exact f,c,by rw[zaA λe=>z e.symm];exact k⟩
 .intro j c f
  rcases get_set f with⟨rfl,e,_⟩|⟨u,f⟩
  .cases e
  .exact R.ioN j c f
end
def sto(i:Nat)(x:RV×Rho):Option Rho:=match x.1.2 with
 | .fz=>eL x.2 i (.fz x.1.1)
 | .new=>eL x.2 i (.own x.1.1)
 | .at j=>if j=i then some x.2 else(gK x.1 x.2).bind λy=>eL y.2 i (.fz y.1)
 | .ro=>none
def bL(i:Nat)(a:PM):SM:=λL=>(a L).bind λx=>(sto i x).map .nx
theorem M7(ha:ME t a):MS (yU t<|lL i) (bL i a):=by
 fail "q6"
 obtain⟨A,p,e⟩:=zab e;cases e;refine ha F B H J L x.1 x.2 _ R f λv u h ρ n w P=>?_
 show D.nx (J.set i<|some v) h;obtain⟨⟨d,k⟩,m⟩:=x;cases k with
 |fz=>exact q u h _ (n.iq w p)
 |new=>exact q u h _ (n.Ck w p)
 |ro=>cases p
 | «at» j=>
  have b:(if j=i then some m else(gK (d,.at j) m).bind λy=>eL y.2 i<|.fz y.1)=some A:=p
  obtain⟨s,Q,S,h3,h4⟩:=w;have c:=h4
  by_cases z:j=i
  .rw[if_pos z]at b
   cases b;subst z;have : J.set j (some v)=J:=by
    apply List.ext_getElem?;intro k
    by_cases hk:k=j
    .subst hk
     obtain⟨σ,_⟩:=zac c;rw[zav σ,c]
    .rw[zaA λe=>hk e.symm]
   rw[this];exact q u h _ n
  .rw[if_neg z]at b
   obtain⟨y,E,G⟩:=zaa b;obtain⟨C,R2,K,N⟩:=n.frz (r:=(d,.at j)) (c) E;exact q C h _ (R2.iq K G)
def Ij(i:Nat)(f:Int->Int->Int)(a:PM):SM:=λL=>match L[i]? with
 |some (.fz (.int x))=>((sv a L).bind asI).bind λy=>(eL y.2 i<|.fz<|.int<|f x y.1).map .nx
 |_=>none
theorem M8(ha:ME t a):MS (OX i t<|ipI f) (Ij i f a):=by
 intro F B H J L o D R e q;unfold Ij at e;split at e
 .rename_i x A
  obtain⟨y,k,e⟩:=zaa e;obtain⟨z,m,n⟩:=zaa k;obtain⟨C,p,e⟩:=zab e;cases e;obtain⟨w,s,u⟩:=R.slot i _ A;cases u;refine⟨_,s,?_⟩;refine ha.sv F B H J L z.1 z.2 _ R m λv d h E b j G=>?_
  obtain⟨g1,r⟩:=Ek n;have c:=j.view b;rw[g1]at c;rw[r]at b;exact⟨x,y.1,rfl,c.int,q d h _<|b.iq (.int _) p⟩
 .cases e
def MG(g:TG)(mg:D->Rho->Option Rho):Prop:=∀(F:Fr) (B H:Hp) (J:St) (L:Rho) (v:V) (d:D) (ρ':Rho) (Q:St->Hp->Prop),Rel F B H J L->Rep B v d->mg d L=some ρ'->(∀B' H' e,Rel F B' H' e ρ'->aA B B'->Q e H')->g v J H Q
def MGs(g:TGs)(mg:List D->Rho->Option Rho):Prop:=∀(F:Fr) (B H:Hp) (J:St) (L:Rho) (vs:List V) (ds:List D) (ρ':Rho) (Q:St->Hp->Prop),Rel F B H J L->aJ B vs ds->mg ds L=some ρ'->(∀B' H' e,Rel F B' H' e ρ'->aA B B'->Q e H')->g vs J H Q
def mgN(i:Nat):D->Rho->Option Rho:=λd L=>eL L i (.fz d)
def Ik:MG (lL i) (mgN i):=λF B H J L v d ρ' Q R a e q=>q B H _ (R.iq a e) (aA.refl _)
def dA:List D->Rho->Option Rho:=λds L=>match ds with
 | []=>some L
 |_=>none
def aR(g:D->Rho->Option Rho)(gs:List D->Rho->Option Rho):List D->Rho->Option Rho:=λds L=>match ds with
 |d::ds=>(g d L).bind fun ρ1=>gs ds ρ1
 |_=>none
theorem Il:MGs L5 dA:=λF B H J L vs ds ρ' Q R a e q=>by
 cases a with
 |nil=>cases e;exact⟨rfl,q B H J R<|aA.refl _⟩
 |cons _ _=>cases e
theorem Ey(h:MG g m)(hs:MGs gs l):MGs (DP g gs) (aR m l):=λF B H J L vs ds ρ' Q R p e q=>by
 cases p with
 |nil=>cases e
 |cons r rs=>
  obtain⟨a,n,o⟩:=zaa e;exact⟨_,_,rfl,h F B H J L _ _ a _ R r n λd i b k s1=>hs F d i b a _ _ ρ' Q k (rs.mono s1) o λf j c R2 s2=>q f j c R2<|s1.trans s2⟩
def mgT(n:Nat)(M:List D->Rho->Option Rho):D->Rho->Option Rho:=λd L=>(asT d).bind λds=>if ds.length=n then M ds L else none
def kR(a:PM)(g:D->Rho->Option Rho):SM:=λL=>(sv a L).bind λx=>(gK x.1 x.2).bind λy=>(g y.1 y.2).map .nx
theorem Im(ha:ME t a)(l:MG tg g):MS (yU t tg) (kR a g):=by
 intro F B H J L o D R e q
 fail "q1"
 obtain⟨b,i,e⟩:=zab e;cases e
 fail "q2"
 have w:=(Vl.weak (vs:=[v]) (rs:=[x.1]) ⟨⟨E,fJ A⟩,trivial⟩).1;obtain⟨d,R2,k,m⟩:=f.frz w ρ;exact l F d C J y.2 v y.1 b _ R2 k i λB' H' c h _=>q B' H' c h
def Pu(i:Nat)(a:PM):D->Rho->Option Rho:=λd L=>(pE L[i]?).bind λ_=>((sv a L).bind asI).bind λy=>(pE y.2[i]?).bind λds=>(ixN ds.length y.1).map λj=>putAt y.2 i (.list<|ds.set j d)
noncomputable def dB(c:Rho->Option (Bool×Rho))(b:SM):Nat->SM
 |0=>λ_=>none
 |n+1=>λL=>(c L).bind λx=>if x.1=true then(b x.2).bind λo=>match o with
   | .nx ρ'=>dB c b n ρ'
   | .ct ρ'=>dB c b n ρ'
   | .bk ρ'=>some (.nx ρ')
   | .rt r ρ'=>some (.rt r ρ')
  else some (.nx x.2)
theorem Ez(g:MT I c)(hb:MS l b):MS (yV I l) (dB c b n):=by
 intro F B H J L o D R e q;refine⟨λm J H=>∃B L,Rel F B H J L/\dB c b m L=some o,⟨n,B,L,R,e⟩,?_⟩
 rintro m d v ⟨u,k,y,t⟩
 cases m with
 |zero=>cases t
 |succ m=>
  obtain⟨x,A,f⟩:=zaa (t);refine g F u v d k x.1 x.2 _ y A λp s E R2=>?_
  by_cases h:x.1=true
  .rw[if_pos h]at f⊢
   obtain⟨w,C,i⟩:=zaa f;refine⟨λa H'=>∃B' ρ',Rel F B' H' a ρ'/\dB c b m ρ'=some o,λa H' h'=>⟨m,Nat.lt_succ_self _,h'⟩,?_⟩
   refine hb F p s d x.2 w _ R2 C ?_;cases w with
   |nx ρ'=>exact λB' H' a j=>⟨B',ρ',j,i⟩
   |ct ρ'=>exact λB' H' a j=>⟨B',ρ',j,i⟩
   |bk ρ'=>cases i;exact q
   |rt r ρ'=>cases i;exact q
  .rw[if_neg h]at f⊢
   cases f;exact q p s d R2
noncomputable def forL(g:D->Rho->Option Rho)(b:SM):List D->SM
 | []=>λL=>some (.nx L)
 |d::ds=>λL=>(g d L).bind fun ρ1=>(b ρ1).bind λo=>match o with
   | .nx ρ'=>forL g b ds ρ'
   | .ct ρ'=>forL g b ds ρ'
   | .bk ρ'=>some (.nx ρ')
   | .rt r ρ'=>some (.rt r ρ')
def oA(it:Rho->Option (List D×Rho))(g:D->Rho->Option Rho)(b:SM):SM:=λL=>(it L).bind λx=>forL g b x.1 x.2
section
variable{F:Fr}{B B1 H H1:Hp}{J σ1:St}{L ρ1:Rho}
def Rel.up(g:Rel F B1 H1 σ1 ρ1)(R:Rel ⟨B1,F.H,F.io,F.Z⟩ B H J L):Rel F B H J L :=
 ⟨R.sub,g.sB.trans R.sB,R.sH,λq h z=>R.nB q h<|g.nB q h z,R.len,R.slot,R.dist,R.iT,R.fx,R.ioN,R.cj,R.exv,R.nz⟩
def Rel.down(g:Rel F B1 H1 σ1 ρ1):Rel ⟨B1,F.H,F.io,F.Z⟩ B1 H1 σ1 ρ1 :=
 ⟨g.sub,aA.refl _,g.sH,λq h z=>z,g.len,g.slot,g.dist,g.iT,g.fx,g.ioN,g.cj,g.exv,g.nz⟩
end
theorem nG.down{l:Rho}(g:Rel F I O M l){D:Ends}{o:Out}(h:nG F D o):nG ⟨I,F.H,F.io,F.Z⟩ D o:=by
 cases o with
 |nx L=>exact λB H J R=>h B H J (g.up R)
 |bk L=>exact λB H J R=>h B H J (g.up R)
 |ct L=>exact λB H J R=>h B H J (g.up R)
 |rt r L=>exact λv B H J R V=>h v B H J (g.up R) V
theorem M9(hi:MF ti it)(Y:MG tg g)(hb:MS tb b):MS (BX ti tg tb) (oA it g b):=by
 fail "q6"
 refine hi F B H J L x.1 x.2 _ R f λσ k H1 E1 T S=>?_
 obtain⟨ds,N⟩:=x;have ρ:=q.down T;refine⟨λi m J H=>m=ds.length-i/\i<=ds.length/\∃B L,Rel ⟨k,F.H,F.io,F.Z⟩ B H J L/\forL g b (ds.drop i) L=some o,⟨ds.length,rfl,Nat.zero_le _,k,N,T.down,e⟩,?_⟩
 rintro i m d u ⟨rfl,hil,Q,h,R2,s⟩
 have sH:=R2.sB.trans R2.sub
 by_cases c:i<ds.length
 .refine .inr ?_
  obtain⟨go,yl⟩:=(S u sH).2 i ds[i] (zaC c);rw[zbb c]at s;obtain⟨j,E,l⟩:=zaa (s);obtain⟨w,I,t⟩:=zaa l;refine⟨go,λa H'=>∃B' ρ',Rel ⟨k,F.H,F.io,F.Z⟩ B' H' a ρ'/\forL g b (ds.drop<|i+1) ρ'=some o,λa H' h'=>⟨ds.length-(i+1),by lia,rfl,c,h'⟩,λy v hy=>?_⟩
  have G:∃n,Rel ⟨k,F.H,F.io,F.Z⟩ n v d h/\Rep n y ds[i]:=by
   rcases yl y v hy with⟨rfl,O⟩|⟨p,xs,cs,M,rfl,h3,rfl,U⟩
   .exact⟨Q,R2,O.mono R2.sB⟩
   .obtain⟨C,E3,E⟩:=R2.rg h3
    exact⟨_,C,by rw[M];exact .tup ak (U.mono<|R2.sB.trans E)⟩
  obtain⟨n,C,rp⟩:=G;refine Y _ n v d h y ds[i] j _ C rp E λV W P X _=>?_
  refine hb _ V W P j w _ X I ?_;cases w with
  |nx ρ'=>exact λB' H' a A=>⟨B',ρ',A,t⟩
  |ct ρ'=>exact λB' H' a A=>⟨B',ρ',A,t⟩
  |bk ρ'=>cases t;exact ρ
  |rt r ρ'=>cases t;exact ρ
 .have K:i=ds.length:=by lia
  subst K;rw[List.drop_length]at s;cases s;exact .inl ⟨(S u sH).1,ρ Q u d R2⟩
noncomputable def wJ:Out->Option (D×Bool)
 | .rt (d,.fz) _=>some (d,false)
 | .rt (d,.new) _=>some (d,true)
 | .rt (_,.at i) L=>match L[i]? with
  |some (.own d)=>some (d,true)
  |_=>none
 | .nx _=>some (.none,false)
 |_=>none
def fnM(n k:Nat)(b:SM)(ds:List D):Option (D×Bool):=if ds.length=n then(b<|ds.map .fz++List.replicate k .no).bind wJ else none
theorem EB(sub:aA B H)(tB:∀q xs,H q=some (.tup xs)->B q=some (.tup xs))(l:aJ B vs ds)(g:ds.length=n)(I:N.length=n+k):Rel ⟨B,H,[],λq=>H q≠none⟩ B H (L2.start N vs) (ds.map .fz++List.replicate k .no):=by
 have d:vs.length=n:=l.length.trans g;have f:∀(i:Nat) (s:Sl),(ds.map Sl.fz++List.replicate k .no)[i]?=some s->s.isRef=true->False:=λi s a b=>by
  have:=zaj a;rcases zae this with h|h
  .obtain⟨c,_,rfl⟩:=List.mem_map.mp h;cases b
  .rw[zaG h]at b;cases b
 have e:∀i:Nat,(ds.map Sl.fz++List.replicate k .no)[i]?=some Sl.ex->False:=λi a=>by
  have:=zaj a;rcases zae this with h|h
  .obtain⟨c,_,z⟩:=List.mem_map.mp h;cases z
  .have:=zaG h;cases this
 refine⟨sub,aA.refl _,λ_ _ z _=>z,λ_ _ z=>z,?_,λi s hs=>?_,λi j s t p a b=>(f i s a<|Sl.lu b).elim,λi c p a=>(f i _ a rfl).elim,(λx m=>by cases m),λi c a=>(f i _ a rfl).elim,tB,(λi a=>(e i a).elim),λq o u h z=>by rw[z]at h;cases h⟩
 .simp[L2.start,g,d,I]
 .by_cases hi:i<n
  .rw[zax (by simpa[g]using hi),zao]at hs
   obtain⟨c,a,rfl⟩:=zab hs;obtain⟨x,b,h3⟩:=l.get i c a;refine⟨x,?_,h3⟩;unfold L2.start;rw[zax (by simpa[d]using hi),zao,b]
   rfl
  .rw[zaN (by simpa[g]using zba hi)]at hs
   have:=zaG (zaj hs);subst this;trivial
theorem Na(g:wJ w=some (d,o))(q:∀v B' H',Post B H v B' H' d o->Q v H'):nG ⟨B,H,[],λq=>H q≠none⟩ {nx:=λ_ H'=>Q .non H',rt:=Q} w:=by
 have post:∀{B' H':Hp} {e:St} {ρ':Rho},Rel ⟨B,H,[],λq=>H q≠none⟩ B' H' e ρ'->aA H H'/\aA B B'/\aA B' H'/\(∀q,H q≠none->B q=none->B' q=none)/\(∀q xs,H' q=some (.tup xs)->B' q=some (.tup xs))/\∀q o u,H' q=some (.frz o u)->H q≠none:=λa=>
  ⟨λq u z=>a.sH q u z (λx E=>by cases E),a.sB,a.sub,a.nB,a.cj,a.nz⟩
 cases w with
 |nx ρ'=>
  cases g;intro B' H' e a;obtain⟨j,p2,k,m,n,t⟩:=post a;exact q _ B' H' ⟨j,p2,k,m,n,t,.non⟩
 |bk ρ'=>cases g
 |ct ρ'=>cases g
 |rt r ρ'=>
  intro v B' H' e a y;obtain⟨j,p2,k,m,n,t⟩:=post a;obtain⟨c,kd⟩:=r;cases kd with
  |fz=>cases g;exact q v B' H' ⟨j,p2,k,m,n,t,y⟩
  |new=>
   cases g;obtain⟨p,rfl,f,A,h3,_⟩:=y;exact q _ B' H' ⟨j,p2,k,m,n,t,⟨p,rfl,A,f,h3⟩⟩
  |ro=>cases g
  | «at» i=>
   obtain⟨s,f,A,h3,h4⟩:=y;have b:(match ρ'[i]? with
    |some (.own d)=>some (d,true)
    |_=>none)=some (d,o):=g
   rw[f]at b;cases s with
   |own c'=>
    cases b;obtain⟨p,g1,C,D⟩:=a.slot i _ f;have h:=h4;rw[h]at g1;cases g1;exact q _ B' H' ⟨j,p2,k,m,n,t,⟨p,rfl,a.iT i _ p f h,C,D⟩⟩
   |_=>cases b
theorem EC(hb:MS t b)(g:N.length=n+k)(h:spM (fnM n k b) vs H Q E):t {nx:=λ_ H'=>Q .non H',rt:=Q} (L2.start N vs) H:=by
 obtain⟨B,ds,d,o,sub,tB,i,e,q⟩:=h;unfold fnM at e;split at e
 case isFalse=>cases e
 rename_i f
 obtain⟨w,a,c⟩:=zaa e;exact hb _ B H _ _ w _ (EB sub tB i f g) a (Na c q)
theorem bK(h:spM (fnM n k b) vs H Q E):vs.length=n:=by
 obtain⟨B,ds,d,o,sub,tB,c,e,q⟩:=h;unfold fnM at e;split at e
 .rename_i a;exact c.length.trans a
 .cases e
end Mir
namespace Mir
open L2 PySem.Spec PyProof.Rows
variable [Zc]
section
variable{X:Cx}
def Lc:R2:=λx y H Q=>∃l b xs zs,x=.ref l/\y=.ref b/\Rd H l (.lst xs)/\Rd H b (.lst zs)/\xs.length+zs.length<=sizeLine/\∀p,H p=none->Q (.ref p) (upd H p<|.lst<|xs++zs)
theorem Io:OpR X (binaryOp .Add) Lc:=by
 intro U0 s J H x y v u Q I m o h;obtain⟨l,b,xs,A,rfl,rfl,j,i,t,q⟩:=h;cases m;cases o;obtain⟨z,c,n,r,e⟩:=j.ok I.hok;obtain⟨w,a,n2,d,f⟩:=i.ok I.hok;have p:=r.length;have k:=d.length;refine PySem.P.add_list e f ?_ (by rw[zaK,zaK];lia)
 have ea:c.toArray++a.toArray=(c++a).toArray:=by simp
 rw[ea];exact⟨.ref _,_,I.O6 (r.append d) (by rw[zau];lia),rfl,q _ I.fresh⟩
def pG(K:zag):R2:=λx y H Q=>rI0 (λi j=>.int<|i+j) x y H Q\/Lc x y H Q\/(∃i j,x=.str i/\y=.str j/\i.length+j.length<=sizeLine/\Q (.str<|i++j) H)\/K8 K x y H Q
def AO:OpR X (binaryOp .Add) (pG X.K):=Mg.or (Io.or<|yZ.or HA)
end
def dh(h:∀Q:VK,Q (.int i) H->k Q):nF B H (.int i,false) k:=⟨_,.int i,h⟩
def dH(h:∀Q:VK,Q (.bl i) H->k Q):nF B H (.bool i,false) k:=⟨_,.bl i,h⟩
def Ip(h:∀Q:VK,Q (.str i) H->k Q):nF B H (.str i,false) k:=⟨_,.str i,h⟩
def cM:D->D->Option (D×Bool)
 | .int i,.int j=>some (.int<|i+j,false)
 | .list a,.list b=>cIf (a.length+b.length<=sizeLine) (some (.list<|a++b,true)) none
 | .str a,.str b=>cIf (a.length+b.length<=sizeLine) (some (.str<|a++b,false)) none
 | .tuple (c::a),.tuple b=>cIf ((c::a).length+b.length<=sizeLine/\b≠[]) (some (.tuple<|(c::a)++b,true)) none
 |_,_=>none
theorem Ld{K:zag}:OpJ (pG K) cM:=by
 intro B H x y c d u s i j e;unfold cM at e;split at e
 .cases e
  have k:=i.int;have m:=j.int;subst k m
  exact dh λQ q=>.inl ⟨_,_,rfl,rfl,q⟩
 .obtain⟨f,e⟩:=bQ e
  .cases e
   obtain⟨p,xs,rfl,o,a⟩:=i.list s;obtain⟨p2,h,rfl,r,b⟩:=j.list s;exact⟨xs++h,a.append b,λQ q=>.inr<|.inl ⟨_,_,_,_,rfl,rfl,o,r,by rw[a.length,b.length];exact f,q⟩⟩
 .obtain⟨f,e⟩:=bQ e
  .cases e
   have k:=i.str;have m:=j.str;subst k m
   exact Ip λQ q=>.inr (.inr<|.inl ⟨_,_,rfl,rfl,f,q⟩)
 .obtain⟨f,e⟩:=bQ e
  .cases e
   obtain⟨p,xs,rfl,o,a⟩:=i.tuple s;obtain⟨p2,h,rfl,r,b⟩:=j.tuple s;have n:xs≠[]:=by intro z;subst z;cases a
   have t:h≠[]:=by intro z;subst z;cases b;exact f.2 rfl
   refine⟨xs++h,a.append b,λQ q=>.inr<|.inr<|.inr ⟨_,_,xs,h,rfl,rfl,.inl<|.inl o,.inl<|.inl r,?_⟩⟩
   exact⟨n,by rw[a.length,b.length];exact f.1,λz=>absurd z t,λ_=>q⟩
 .cases e
def gI(C:Int->Int->Prop)(f:Int->Int->Int):D->D->Option (D×Bool)
 | .int i,.int j=>cIf (C i j) (some (.int<|f i j,false)) none
 |_,_=>none
theorem J_I:OpJ (rI C λi j=>.int<|f i j) (gI C f):=by
 intro B H x y c d n s k m e;unfold gI at e;split at e
 .obtain⟨h,e⟩:=bQ e
  .cases e
   have a:=k.int;have b:=m.int;subst a b
   exact dh λQ q=>⟨_,_,rfl,rfl,h,q⟩
 .cases e
noncomputable def gI0(f:Int->Int->Int):D->D->Option (D×Bool)
 | .int i,.int j=>some (.int<|f i j,false)
 |_,_=>none
theorem QY:OpJ (rI0 λi j=>.int<|f i j) (gI0 f):=by
 intro B H x y c d m s h k e;unfold gI0 at e;split at e
 .cases e
  have a:=h.int;have b:=k.int;subst a b
  exact dh λQ q=>⟨_,_,rfl,rfl,q⟩
 .cases e
noncomputable def gB0(f:Int->Int->Bool):D->D->Option (D×Bool)
 | .int i,.int j=>some (.bool<|f i j,false)
 |_,_=>none
theorem QZ:OpJ (rI0 λi j=>.bl<|f i j) (gB0 f):=by
 intro B H x y c d m s h k e;unfold gB0 at e;split at e
 .cases e
  have a:=h.int;have b:=k.int;subst a b
  exact dH λQ q=>⟨_,_,rfl,rfl,q⟩
 .cases e
abbrev lh:=gI0 λi j=>i-j
abbrev gLt:=gB0 λi j=>decide (i<j)
abbrev gLe:=gB0 λi j=>decide (i<=j)
abbrev gGt:=gB0 λi j=>decide (j<i)
abbrev gGe:=gB0 λi j=>decide (j<=i)
abbrev iU:=gI Me λi j=>i/j
abbrev bY:=gI (λ_ j=>0<j) λi j=>i%j
abbrev zf:=gI Mf λi j=>i^j.toNat
section
variable{X:Cx}
def AQ:R2:=λx y H Q=>rI IntMulOk (λi j=>.int<|i*j) x y H Q\/O7 x y H Q
def Iq:OpR X (binaryOp .Mult) AQ:=HR.or MB
end
def Cm:D->D->Option (D×Bool)
 | .int i,.int j=>cIf (IntMulOk i j) (some (.int<|i*j,false)) none
 |_,_=>none
theorem Pw:OpJ AQ Cm:=by
 intro B H x y c d j s h i e;unfold Cm at e;split at e
 .obtain⟨f,e⟩:=bQ e
  .cases e
   have a:=h.int;have b:=i.int;subst a b
   exact dh λQ q=>.inl ⟨_,_,rfl,rfl,f,q⟩
 .cases e
mutual
theorem Rep.data{K:zag}:∀{v:V} {d:D},Rep H v d->d.canLay0=true->gi K H v d
 |_,_,.non,_=>.non
 |_,_,.bl b,_=>.bl b
 |_,_,.int i,_=>.int i
 |_,_,.str x,_=>.str x
 |_,_,.lst h r,e=>.lst (eK h) (aJ.data r (by simpa[PyData.canLay0]using e))
 |_,_,.tup h r,e=>.tup (.inl<|.inl h) (aJ.data r (by simpa[PyData.canLay0]using e))
 |_,_,.dct _ _,e=>by simp[PyData.canLay0]at e
theorem aJ.data{K:zag}:∀{v:List V} {d:List D},aJ H v d->PyData.canLayAll0 d=true->gj K H v d
 |_,_,.nil,_=>.nil
 |_,_,.cons a b,e=>by
  simp only[PyData.canLayAll0,Bool.and_eq_true]at e;exact .cons (Rep.data a e.1) (aJ.data b e.2)
end
noncomputable def gEq:D->D->Option (D×Bool):=λc d=>if SeqAt.shaped c=true/\SeqAt.shaped d=true then some (.bool<|PyData.eqv c d,false)else none
noncomputable def gNe:D->D->Option (D×Bool):=λc d=>if SeqAt.shaped c=true/\SeqAt.shaped d=true then some (.bool<|!PyData.eqv c d,false)else none
theorem Px{K:zag}:OpJ (HP K) gEq:=by
 intro B H x y c d f s a b e;unfold gEq at e;split at e
 .rename_i h
  cases e;exact dH λQ q=>⟨_,_,(a.rep s).data<|SeqAt.canLay_of_shaped h.1,(b.rep s).data<|SeqAt.canLay_of_shaped h.2,h.1,h.2,q⟩
 .cases e
theorem Q0{K:zag}:OpJ (HQ K) gNe:=by
 intro B H x y c d f s a b e;unfold gNe at e;split at e
 .rename_i h
  cases e;exact dH λQ q=>⟨_,_,(a.rep s).data<|SeqAt.canLay_of_shaped h.1,(b.rep s).data<|SeqAt.canLay_of_shaped h.2,h.1,h.2,q⟩
 .cases e
noncomputable def isNone:D->Bool
 | .none=>true
 |_=>false
theorem Rep.isNone(h:Rep H v d):decide (v=.non)=Mir.isNone d:=by cases h<;>rfl
def gIs:D->D->Option (D×Bool)
 |c,.none=>some (.bool<|isNone c,false)
 |_,_=>none
def gY:D->D->Option (D×Bool)
 |c,.none=>some (.bool<|!isNone c,false)
 |_,_=>none
theorem Q1:OpJ (λx y H Q=>y=.non/\Q (.bl<|decide<|x=.non) H) gIs:=by
 intro B H x y c d f s a b e;unfold gIs at e;split at e
 .cases e
  exact dH λQ q=>⟨b.none,by rw[(a.rep s).isNone];exact q⟩
 .cases e
theorem Ir:OpJ (λx y H Q=>y=.non/\Q (.bl<|!decide (x=.non)) H) gY:=by
 intro B H x y c d f s a b e;unfold gY at e;split at e
 .cases e
  exact dH λQ q=>⟨b.none,by rw[(a.rep s).isNone];exact q⟩
 .cases e
noncomputable def Cn:D->Option (D×Bool)
 | .int i=>some (.int<|-i,false)
 |_=>none
theorem Py:UnJ (rU λi=>.int<|-i) Cn:=by
 intro B H x c d s b e;unfold Cn at e;split at e
 .cases e
  have a:=b.int;subst a
  exact dh λQ q=>⟨_,rfl,q⟩
 .cases e
def gIx:D->D->Option (D×Bool)
 | .list ds,.int i=>(atI ds i).map λd=>(d,false)
 | .tuple ds,.int i=>(atI ds i).map λd=>(d,false)
 |_,_=>none
theorem aJ.atI(r:aJ H vs ds)(h:L2.atI ds i=some d):∃v,L2.atI vs i=some v/\Rep H v d:=by
 unfold L2.atI at h⊢;rw[r.length];obtain⟨j,a,b⟩:=zaa h;obtain⟨v,h3,h4⟩:=r.get j d b;exact⟨v,by rw[a];exact h3,h4⟩
theorem Nb{K:zag}:OpJ (rIx K) gIx:=by
 intro B H x y c d k s i j e;unfold gIx at e;split at e
 .obtain⟨w,f,a⟩:=zab e
  cases a;obtain⟨p,xs,rfl,h,b⟩:=i.list s;have a:=j.int;subst a
  obtain⟨v,h3,h4⟩:=b.atI f;exact⟨v,h4,λQ q=>.inl ⟨_,_,_,_,rfl,rfl,eK h,h3,q⟩⟩
 .obtain⟨w,f,a⟩:=zab e
  cases a;obtain⟨p,xs,rfl,h,b⟩:=i.tuple s;have a:=j.int;subst a
  obtain⟨v,h3,h4⟩:=b.atI f;exact⟨v,h4,λQ q=>.inr<|.inl ⟨_,_,_,_,rfl,rfl,.inl<|.inl h,h3,q⟩⟩
 .cases e
def cutD(ds:List D)(lo hi:Option Int):List D:=(ds.drop<|HT.sIx ds.length 0 lo).take (HT.sIx ds.length ds.length hi-HT.sIx ds.length 0 lo)
theorem aJ.cut(r:aJ H vs ds)(lo hi:Option Int):aJ H (DZ vs lo hi) (cutD ds lo hi):=by
 unfold DZ cutD;rw[r.length];exact(r.drop _).take _
def gSl:D->Option Int->Option Int->Option (D×Bool)
 | .list ds,lo,hi=>some (.list<|cutD ds lo hi,true)
 |_,_,_=>none
theorem Q2{K:zag}:SlJ (Mu K) gSl:=by
 intro B H x c l u f s b e;unfold gSl at e;split at e
 .cases e
  obtain⟨p,xs,rfl,d,a⟩:=b.list s;exact⟨_,a.cut _ _,λQ q=>⟨_,_,rfl,eK d,q⟩⟩
 .cases e
def bV:List D->Option (D×Bool)
 | [.list ds]=>some (.int ds.length,false)
 | [.tuple ds]=>some (.int ds.length,false)
 | [.str x]=>cIf (x.length<=sizeLine) (some (.int x.length,false)) none
 |_=>none
theorem dC(h:Views B H vs [d]):∃v,vs=[v]/\View B H v d:=by
 rcases vs with _|⟨v,_|_⟩
 .cases h
 .exact⟨v,rfl,h.1⟩
 .cases h.2
theorem ED(h:Views B H vs [c,d]):∃v w,vs=[v,w]/\View B H v c/\View B H w d:=by
 cases vs
 .cases h
 .obtain⟨v,rfl,g⟩:=dC h.2
  exact⟨_,v,rfl,h.1,g⟩
theorem Le{K:zag}:ik (MR K) bV:=by
 intro B H vs ds f s h e;unfold bV at e;split at e
 .cases e
  obtain⟨v,rfl,b⟩:=dC h;obtain⟨p,xs,rfl,c,a⟩:=b.list s;exact dh λQ q=>.inl ⟨_,_,rfl,.inl<|eK c,by rw[a.length];exact q⟩
 .cases e
  obtain⟨v,rfl,b⟩:=dC h;obtain⟨p,xs,rfl,c,a⟩:=b.tuple s;exact dh λQ q=>.inl ⟨_,_,rfl,.inr<|.inl<|.inl c,by rw[a.length];exact q⟩
 .obtain⟨d,e⟩:=bQ e
  .cases e
   obtain⟨v,rfl,b⟩:=dC h;have:=b.str;subst this
   exact dh λQ q=>.inr ⟨_,rfl,d,q⟩
 .cases e
noncomputable def Co:List D->Option (D×Bool)
 | [.int i,.int j]=>some (.int<|if j>i then j else i,false)
 |_=>none
noncomputable def Iu:List D->Option (D×Bool)
 | [.int i,.int j]=>some (.int<|if j<i then j else i,false)
 |_=>none
noncomputable def Q3:List D->Option (D×Bool)
 | [.int i]=>some (.int<|if i<0 then-i else i,false)
 |_=>none
noncomputable def EF:List D->Option (D×Bool)
 | [.int i]=>some (.int i,false)
 | [.bool b]=>some (.int<|if b then 1 else 0,false)
 |_=>none
theorem Pz:ik (λxs H Q=>∃i j,xs=[.int i,.int j]/\Q (.int<|if j>i then j else i) H) Co:=by
 intro B H vs ds c s h e;unfold Co at e;split at e
 .cases e
  obtain⟨v,w,rfl,a,b⟩:=ED h;have:=a.int;subst this
  have:=b.int;subst this
  exact dh λQ q=>⟨_,_,rfl,q⟩
 .cases e
theorem PB:ik (λxs H Q=>∃i j,xs=[.int i,.int j]/\Q (.int<|if j<i then j else i) H) Iu:=by
 intro B H vs ds c s h e;unfold Iu at e;split at e
 .cases e
  obtain⟨v,w,rfl,a,b⟩:=ED h;have:=a.int;subst this
  have:=b.int;subst this
  exact dh λQ q=>⟨_,_,rfl,q⟩
 .cases e
theorem PF:ik (λxs H Q=>(∃i,xs=[.int i]/\Q (.int i) H)\/∃k,xs=[.bl k]/\Q (.int<|if k then 1 else 0) H) EF:=by
 intro B H vs ds b s h e;unfold EF at e;split at e
 .cases e
  obtain⟨v,rfl,a⟩:=dC h;have:=a.int;subst this
  exact dh λQ q=>.inl ⟨_,rfl,q⟩
 .cases e
  obtain⟨v,rfl,a⟩:=dC h;have:=a.bool;subst this
  exact dh λQ q=>.inr ⟨_,rfl,q⟩
 .cases e
noncomputable def boolsOf:List D->Option (List Bool)
 | []=>some []
 | .bool i::ds=>(boolsOf ds).map (i::·)
 |_=>none
theorem aJ.bools:∀{vs:List V} {ds:List D} {ns:List Bool},aJ H vs ds->boolsOf ds=some ns->vs=ns.map V.bl
 |_,_,_,.nil,e=>by cases e;rfl
 |_,_,_,.cons (d:=d) a b,e=>by
  cases d with
  |bool i=>
   obtain⟨h,c,f⟩:=zab (e);cases f;cases a;rw[zaz,aJ.bools b c]
  |_=>cases e
def wK:List D->Option (D×Bool)
 | [.list ds]=>(boolsOf ds).map λns=>(.bool<|ns.all id,false)
 |_=>none
theorem PH{K:zag}:ik (MM K) wK:=by
 intro B H vs ds i s h e;unfold wK at e;split at e
 .obtain⟨ns,b,c⟩:=zab e
  cases c;obtain⟨v,rfl,d⟩:=dC h;obtain⟨p,xs,rfl,f,a⟩:=d.list s;have:=a.bools b;subst this
  exact dH λQ q=>⟨_,_,rfl,eK f,q⟩
 .cases e
noncomputable def EG:List D->Option (D×Bool)
 | [.list ds]=>some (.list ds,true)
 | [.tuple ds]=>some (.list ds,true)
 |_=>none
theorem Nc{K:zag}:ik (λxs H Q=>∃p g,xs=[.ref p]/\(SqL K H p g\/SqT K H p g)/\∀l,H l=none->Q (.ref l) (upd H l<|.lst g)) EG:=by
 intro B H vs ds d s h e;unfold EG at e;split at e
 .cases e
  obtain⟨v,rfl,b⟩:=dC h;obtain⟨p,xs,rfl,c,a⟩:=b.list s;exact⟨xs,a,λQ q=>⟨_,_,rfl,.inl<|eK c,q⟩⟩
 .cases e
  obtain⟨v,rfl,b⟩:=dC h;obtain⟨p,xs,rfl,c,a⟩:=b.tuple s;exact⟨xs,a,λQ q=>⟨_,_,rfl,.inr<|.inl<|.inl c,q⟩⟩
 .cases e
noncomputable def tyD:D->String
 | .none=>"NoneType"
 | .bool _=>"bool"
 | .int _=>"int"
 | .str _=>"str"
 | .list _=>"list"
 | .tuple _=>"tuple"
 | .dict _=>"?"
theorem Rep.ty(h:Rep H v d)(hd:tyD d≠"?"):tyN H v=tyD d:=by
 cases h with
 |non=>rfl
 |bl _=>rfl
 |int _=>rfl
 |str _=>rfl
 |lst h _=>
  rcases h with h|⟨o,h⟩
  .unfold tyN;simp only[h];rfl
  .unfold tyN;simp only[h];rfl
 |tup h _=>unfold tyN;simp only[h];rfl
 |dct _ _=>exact absurd rfl hd
def mL(n:String):D->Option (D×Bool):=λd=>if tyD d≠"?"/\n∈df then some (.bool<|o9 (tyD d) n,false)else none
def Q4(n:String)(a:PM):PM:=mUn (mL n) a
def dJ:D->Bool
 | .none=>true
 | .bool _=>true
 | .int _=>true
 | .str _=>true
 |_=>false
theorem Rep.flat(h:Rep H v d)(e:dJ d=true):ig v=true:=by cases h<;>first|rfl|cases e
theorem aJ.oK:∀{v:List V} {d:List D},aJ H v d->d.all dJ=true->v.all ig=true
 |_,_,.nil,_=>rfl
 |_,_,.cons a b,e=>by
  simp only[List.all_cons,Bool.and_eq_true]at e⊢;exact⟨a.flat e.1,aJ.oK b e.2⟩
theorem Rep.eqv(h:Rep H v c)(g:Rep H w d)(e:dJ c=true)(I:dJ d=true):eqV v w=PyData.eqv c d:=by
 cases h<;>first|(cases e;done)|(cases g<;>first|(cases I;done)|(simp[eqV,PyData.eqv]))
theorem aJ.countP(g:Rep H w d)(l:dJ d=true):∀{vs:List V} {ds:List D},aJ H vs ds->ds.all dJ=true->vs.countP (λz=>eqV z w)=ds.countP λc=>PyData.eqv c d
 |_,_,.nil,_=>rfl
 |_,_,.cons a b,e=>by
  simp only[List.all_cons,Bool.and_eq_true]at e;rw[List.countP_cons,List.countP_cons,aJ.countP g l b e.2,a.eqv g e.1 l]
def eu:List D->List D->Option (List D×D):=λds e=>match e with
 | [d]=>cIf (ds.length<sizeLine) (some (ds++[d],.none)) none
 |_=>none
theorem EH:Es lN eu:=by
 intro B H p xs ds vs i w d c s h e;unfold eu at e;split at e
 .obtain⟨f,e⟩:=bQ e
  .cases e
   cases h with
   |cons a b=>
    cases b;exact⟨_,_,c.append<|.cons a .nil,.non,λQ q=>⟨_,_,_,rfl,rfl,d,by rw[c.length];exact f,q⟩⟩
 .cases e
noncomputable def Q5:List D->List D->Option (List D×D):=λds e=>match e with
 | []=>(ds[ds.length-1]?).map λd=>(ds.dropLast,d)
 |_=>none
def Nd:List D->List D->Option (List D×D):=λds e=>match e with
 | []=>some ([],.none)
 |_=>none
def lQ:List D->List D->Option (List D×D):=λds e=>match e with
 | []=>some (ds.reverse,.none)
 |_=>none
theorem Cp:Es wx lQ:=by
 intro B H p xs ds vs d w a c s b e;unfold lQ at e;split at e
 .cases e
  cases b;exact⟨_,_,c.reverse,.non,λQ q=>⟨_,_,rfl,rfl,a,q⟩⟩
 .cases e
end Mir
namespace Mir
open L2 PySem.Spec PyProof.Rows
variable [Zc]
section
variable{X:Cx}{K:zag}
def Iv(h:X.K=K):OpR X (binaryOp .Add) (pG K):=h▸AO
def EI(h:X.K=K)(g:X.A.units+64<cLine):OpR X (compareOp .Eq) (HP K):=h▸MP g
def Nf(h:X.K=K)(g:X.A.units+64<cLine):OpR X (compareOp .NotEq) (HQ K):=h▸MQ g
def AR(h:X.K=K):IxR X (rIx K):=h▸Mt
def EJ(h:X.K=K):SlR X (Mu K):=h▸HF
def sk(h:X.K=K):cE X (.builtin "len") (MR K):=h▸Cf
def Cq(h:X.K=K)(g:X.calm=true):cE X (.builtin "all") (MM K):=h▸Eb g
def zg(h:X.K=K):cE X (.type "list") (λxs H Q=>∃p g,xs=[.ref p]/\(SqL K H p g\/SqT K H p g)/\∀l,H l=none->Q (.ref l) (upd H l<|.lst g)):=h▸uf
variable{tg l o e:Expr}{es:List Expr}{tl to:TE}{t:TA}{name:Str}{apos U1:Pos}{T id:String}{r:V->List V->Hp->VK->Prop}
def EK(h:X.K=K)(g:PE X l tl):PI X tg l (wm K tl):=h▸Hr g
def Iw(h:X.K=K)(g:PE X l tl):PI X tg l (Hq K tl):=h▸Mb g
theorem Iy(h:X.K=K)(O:PlainAttrs T)(slot:Slot T name id)(M:typeOf (.builtin id)=pure (.type "method_descriptor"))(hm:MtR X id r)(ho:PE X o to)
  (g:attributeBase o name X.env (eval o X.env)=eval o X.env:=by rfl) (I:(apos.endLine==U1.line)=true:=by rfl):PE X (.Call (.Attribute o name apos) [] [] U1) (Mw K T r to):=h▸My O slot M hm ho g I
theorem zh(h:X.K=K)(Y:PlainAttrs T)(slot:Slot T name id)(U:typeOf (.builtin id)=pure (.type "method_descriptor"))(hm:MtR X id r)(ho:PE X o to)(ha:PA X (e::es) t)
  (I:attributeBase o name X.env (eval o X.env)=eval o X.env:=by rfl)
  (O:((backTo U1<|starEach (e::es) X.env).all (λx=>!x.1)&&(backToKw U1<|keywordEach [] X.env).all (λx=>x.1.isSome)
   &&decide ((e::es).length+([]:List Keyword).length+(if([]:List Keyword).isEmpty then 0 else 1)<30))=true:=by rfl)
  (M:(apos.endLine==U1.line)=true:=by rfl) (hs:starEach (e::es) X.env=(false,eval e X.env)::starEach es X.env:=by rfl) (g:(backTo U1<|starEach es X.env).any (·.1)=false:=by rfl) :
  PE X (.Call (.Attribute o name apos) (e::es) [] U1) (tBM K T r to t):=h▸O5 Y slot U hm ho ha I O M hs g
end
theorem EL(σ:OpJ r g)(I:OpJ r' g')(ha:ME ta a)(hb:ME tb b)(hc:ME tc c)(hr:∀x y H Q l,(∀v H,Q v H->l v H)->r x y H Q->r x y H l) :
  ME (DU r r' ta tb tc) (uj g g' a b c):=by
 intro F B H J L r0 ρ' Q R e q
 fail "q1"
 obtain⟨s1,Y,e⟩:=zaa e;obtain⟨U,e4,e⟩:=zaa e
 fail "q2"
 refine hb.sv F G C J x.2 y.1 y.2 _ f ρ λu k m E2 R2 s N2=>?_
 obtain⟨X,n3⟩:=E.next E2 R2 (fJ A) Y;have o:=σ k m v u s1.1 y.1.1 U R2.sub (X.view R2) (s.view R2) e4;split at e
 .rename_i n
  obtain⟨w,d,hk⟩:=o;cases d;refine hk _ ⟨true,rfl,?_⟩;obtain⟨z,e5,e⟩:=zaa e;obtain⟨s2,e6,e⟩:=zaa e;obtain⟨i,e7,e⟩:=zab e;cases e;refine QT ?_;refine hc.sv F k m J y.2 z.1 z.2 _ R2 e5 λt D P E3 h Z N4=>?_
  obtain⟨M,n5⟩:=s.next E3 h (fJ ρ) e6;exact eY h (I D P u t s2.1 z.1.1 i h.sub (M.view h) (Z.view h) e7) λw K S N W O V=>q w K S ((j.trans<|E2.trans E3).trans N) W O λp z1 z2=>(j.trans<|E2.trans E3).live p (V p z1 z2)
 .rename_i n
  obtain⟨w,d,hk⟩:=o;cases d;cases e;exact hk _ ⟨false,rfl,QS<|q _ k m (j.trans E2) R2 (.bl false) λp z=>by cases z⟩
 .cases e
def oM(K:zag):Bool:=K.all λp=>match p.2.cls with
 | .type n=>n !="list"
 |_=>true
theorem jL{α:Type}:∀{l:List<|Addr×α} {a:Addr} {o : α},l.lookup a=some o->(a,o)∈l
 |(b,c)::l,a,o,h=>by
  rw[za8]at h
  by_cases z:a=b
  .subst z
   rw[beq_self_eq_true]at h;cases h;exact zas
  .rw[beq_eq_false_iff_ne.mpr z]at h
   exact zak _ (jL h)
theorem PJ{K:zag}(h:oM K=true){xs:List V}(s:SqL K H a xs):Rd H a (.lst xs):=by
 rcases s with s|⟨o,c,n,hk,b,_⟩
 .exact s
 .have:=List.all_eq_true.mp h _ (jL hk)
  rw[b]at this;simp at this
theorem sr:∀ns:List Int,aJ H (ns.map V.int) (ns.map PyData.int)
 | []=>.nil
 |n::ns=>.cons (.int n) (sr ns)
theorem Ng{K:zag}(h:oM K=true)(T:∀ns:List Int,ns.length<=63->(∀k∈ns,Builtin.Int.intBits k<=1048576)->f [.list<|ns.map .int]=some (.bool true,false))
  (vs:List V) (H:Hp) (Q:VK) (E:XK) (s:Ec K vs H Q E):spM f vs H Q E:=by
 obtain⟨a,ns,rfl,b,c,hb,q⟩:=s;refine⟨H,_,_,_,aA.refl _,λ_ _ z=>z,.cons (.lst (PJ h b)<|sr ns) .nil,T ns c hb,λv B' H' P=>?_⟩
 have pv:=P.val;cases pv;exact q _
end Mir
namespace Mir
open L2
variable [Zc]
abbrev dI(l:List Int):D:=.list (l.map .int)
theorem PK(i j:Int):(i==j)=decide (i=j):=by by_cases h:i=j<;>simp[h]
theorem AS(i j:Int):gEq (.int i) (.int j)=some (.bool<|decide<|i=j,false):=by
 unfold gEq;rw[if_pos ⟨rfl,rfl⟩];simp only[PyData.eqv,PK]
theorem AU(i j:Int):gNe (.int i) (.int j)=some (.bool<|!decide (i=j),false):=by
 unfold gNe;rw[if_pos ⟨rfl,rfl⟩];simp only[PyData.eqv,PK]
theorem EM(i j:Bool):gEq (.bool i) (.bool j)=some (.bool<|i==j,false):=by
 unfold gEq;rw[if_pos ⟨rfl,rfl⟩];simp only[PyData.eqv]
theorem wL(i j:Bool):gNe (.bool i) (.bool j)=some (.bool<|!(i==j),false):=by
 unfold gNe;rw[if_pos ⟨rfl,rfl⟩];simp only[PyData.eqv]
theorem nH:∀l:List Int,PyData.canLayAll0 (l.map .int)=true
 | []=>rfl
 |_::l=>by simp only[List.map_cons,PyData.canLayAll0,PyData.canLay0,nH l,Bool.and_self]
theorem zi(l:List Int):(dI l).depth<=2:=by
 have h:∀l:List Int,PyData.depthAll (l.map .int)<=1:=by
  intro l
  induction l with
  |nil=>simp[PyData.depthAll]
  |cons a l b=>simp only[List.map_cons,PyData.depthAll,PyData.depth];lia
 have:=h l;simp only[dI,PyData.depth]
 lia
theorem shaped_ints(l:List Int):SeqAt.shaped (dI l)=true:=by
 unfold SeqAt.shaped;have h:=zi l;rw[zaH (by lia),Bool.and_true]
 simp only[dI,PyData.canLay0,nH]
theorem nI:∀a b:List Int,PyData.eqvAll (a.map .int) (b.map .int)=decide (a=b)
 | [],[]=>by simp[PyData.eqvAll]
 | [],_::_=>by simp[PyData.eqvAll]
 |_::_,[]=>by simp[PyData.eqvAll]
 |x::a,y::b=>by
  simp only[List.map_cons,PyData.eqvAll,PyData.eqv,nI a b]
  by_cases h:x=y<;>by_cases g:a=b<;>simp[h,g]
theorem wM(a b:List Int):PyData.eqv (dI a) (dI b)=decide (a=b):=by simp only[dI,PyData.eqv,nI]
theorem wN(a b:List Int):gEq (dI a) (dI b)=some (.bool<|decide<|a=b,false):=by
 unfold gEq;rw[if_pos ⟨shaped_ints a,shaped_ints b⟩,wM]
theorem EO(a b:List Int):gNe (dI a) (dI b)=some (.bool<|!decide (a=b),false):=by
 unfold gNe;rw[if_pos ⟨shaped_ints a,shaped_ints b⟩,wM]
theorem wO(i:Int):mL "int" (.int i)=some (.bool true,false):=by simp[mL,tyD,df,o9]
theorem ux(i:Int):mL "bool" (.int i)=some (.bool false,false):=by simp[mL,tyD,df,o9]
theorem ri(i:List D):mL "list" (.list i)=some (.bool true,false):=by simp[mL,tyD,df,o9]
theorem oB(i:List D):mL "tuple" (.tuple i)=some (.bool true,false):=by simp[mL,tyD,df,o9]
theorem kF(xs:List α)(i:Nat):atI xs (i:Int)=xs[i]?:=by
 unfold atI ixN;rw[if_pos (by lia)]
 split
 .simp
 .rename_i h
  rw[Option.bind_none,List.getElem?_eq_none (by lia)]
theorem wu(xs:List α):atI xs (-1)=xs.getLast?:=by
 unfold atI ixN;rw[if_neg (by lia)]
 cases xs with
 |nil=>simp
 |cons a l=>
  rw[if_pos (by simp only[List.length_cons];lia),zai,List.getLast?_eq_getElem?]
  congr 1
  simp only[List.length_cons];lia
theorem Iz(f : α->g)(xs:List α)(i:Int):atI (xs.map f) i=(atI xs i).map f:=by
 simp only[atI,List.length_map,List.getElem?_map];cases ixN xs.length i with
 |none=>rfl
 |some j=>simp only[Option.bind_some]
theorem lR(l:c L=some (true,ρ1))(I:b ρ1=some (.nx g))(h3:dB c b n g=o):dB c b (n+1) L=o:=by
 unfold dB;simp only[l,I,Option.bind_some,if_true,h3]
theorem ir(g:c L=some (false,ρ1)):dB c b (n+1) L=some (.nx ρ1):=by
 unfold dB;simp only[g,Option.bind_some,Bool.false_eq_true,if_false]
def Cr(i:Int):cF (.int i) false=true:=rfl
def zj(i:Bool):cF (.bool i) false=true:=rfl
def Cs(i:Str):cF (.str i) false=true:=rfl
def zk:cF .none false=true:=rfl
def zo(l:List D):cF (.list l) false=false:=rfl
theorem Ct(l:List D):cF (.tuple l) false=aU l:=by simp only[cF,ee]
def Cu(l:List D):cF (.list l) true=aU l:=rfl
theorem pH:aU []=true:=by simp only[aU]
theorem pI(i:Int)(l:List D):aU (.int i::l)=aU l:=by simp only[aU,ee,Bool.true_and]
theorem wQ(i:Bool)(l:List D):aU (.bool i::l)=aU l:=by simp only[aU,ee,Bool.true_and]
theorem wR(i l:List D):aU (.list i::l)=false:=by simp only[aU,ee,Bool.false_and]
theorem nJ:∀l:List Int,aU (l.map .int)=true
 | []=>pH
 |i::l=>by rw[zaz,pI,nJ l]
def Nh(d:D):jN (d,false)=(d,.fz):=rfl
def Ni(l:List D):jN (.list l,true)=(.list l,.new):=rfl
def Nj(l:List D):jN (.tuple l,true)=(.tuple l,.fz):=rfl
def Q6(d:D):kO d false=(d,.fz):=rfl
def Q7(d:D):kO d true=(d,.new):=rfl
theorem az(l:a L=some (.nx ρ1))(I:b ρ1=o):aT a b L=o:=by
 unfold aT;simp only[l,Option.bind_some,I]
theorem pJ(I:a L=some (.rt r l)):aT a b L=some (.rt r l):=by
 unfold aT;simp only[I,Option.bind_some]
theorem cf(l:ds.length=n)(I:b (ds.map .fz++List.replicate k .no)=some o)(M:wJ o=some w):fnM n k b ds=some w:=by
 unfold fnM;rw[if_pos l,I,zai,M]
theorem aZ(g:m L=some (rs,ρ1))(l:f (rs.map (·.1))=some (d,o))(h3:cF d o=true):aQ f m L=some (kO d o,ρ1):=by
 unfold aQ;rw[g,zai];dsimp only;rw[l,zai,if_pos h3]
theorem bH(h:a L=some (r,ρ1)):cw a L=some (.rt r ρ1):=by
 unfold cw;rw[h,zaT]
theorem iV(l:it L=some (ds,ρ1))(I:forL g b ds ρ1=o):oA it g b L=o:=by
 unfold oA;rw[l,zai];exact I
theorem Nk{m:Rho->Option (List RV×Rho)}{k:Kd}(l:m L=some ([(.int j,k)],g))(I : -(2^62)<=j/\j<2^62):lz m L=some (pB 0 j.toNat,g):=by
 unfold lz;rw[l,zai];show cIf _ _ _=_;rw[aX I]
theorem Nl{m:Rho->Option (List RV×Rho)}{k I:Kd}(g:m L=some ([(.int i,k),(.int j,I)],ρ1))(l : -(2^62)<=i/\i<2^62/\-(2^62)<=j/\j<2^62):Ci m L=some (pB i (j-i).toNat,ρ1):=by
 unfold Ci;rw[g,zai];show cIf _ _ _=_;rw[aX l]
end Mir
namespace Mir
open L2
variable [Zc]
theorem su(h:n<=100000):n<=sizeLine:=zaX h (by decide)
theorem wU(h:n<=100000):n<sizeLine:=Nat.lt_of_le_of_lt h (by decide)
end Mir
namespace Mir
open L2 PySem.Spec PyProof.Rows
variable [Zc]
def PN(i j:Nat)(m:Rho->Option (List RV×Rho)):SM:=λL=>(m L).bind λx=>(fv x.1 x.2).bind λy=>match y.1 with
 | [c,d]=>(eL y.2 i<|.fz c).bind fun ρ1=>(eL ρ1 j<|.fz d).map .nx
 |_=>none
theorem Nm(h:MA t m):MS (OW i j t) (PN i j m):=by
 intro F B H J L o D R e q
 fail "q1"
 split at e
 case h_2=>cases e
 rename_i c d p
 obtain⟨u,f,e⟩:=zaa e;obtain⟨v,k,e⟩:=zab e;cases e
 fail "q3"
 obtain⟨w,R2,a,E⟩:=Rel.uq n S.weak ρ;rw[p]at a;cases a with
 |cons r rs=>
  cases rs with
  |cons s rs=>
   cases rs;exact⟨_,_,rfl,q _ _ _<|(R2.iq r f).iq s k⟩
end Mir
namespace Mir
open L2
variable [Zc]
def inD(x:D)(ds:List D):Bool:=ds.any λd=>PyData.eqv d x
theorem aJ.inV(g:Rep H v c)(e:dJ c=true):∀{vs:List V} {ds:List D},aJ H vs ds->ds.all dJ=true->inV v vs=inD c ds
 |_,_,.nil,_=>rfl
 |_,_,.cons a b,h=>by
  simp only[List.all_cons,Bool.and_eq_true]at h;have:=aJ.inV g e b h.2;unfold L2.inV inD at this⊢;rw[List.any_cons,List.any_cons,this,a.eqv g h.1 e]
def gIn:D->D->Option (D×Bool)
 |x,.list ds=>if dJ x=true/\ds.all dJ=true then some (.bool<|inD x ds,false)else none
 |_,_=>none
theorem Q8:OpJ (rIn K false) gIn:=by
 intro B H x y c d m s i j e;unfold gIn at e;split at e
 .split at e
  .rename_i a
   cases e;obtain⟨p,xs,rfl,k,b⟩:=j.list s;have h:=i.rep s;have f:=b.mono s;refine dH λQ q=>⟨_,_,rfl,.inl<|eK k,h.flat a.1,f.oK a.2,?_⟩
   rw[aJ.inV h a.1 f a.2];exact q
  .cases e
 .cases e
section
variable{X:Cx}{K:zag}
def Nn(h:X.K=K):OpR X (compareOp .In) (rIn K false):=h▸Ca
end
end Mir
namespace Mir
open L2
variable [Zc]
section
variable{a b:PM}{L ρ1 ρ2 ρ3:Rho}{x y d:D}{r:RV}{Y0:D×Bool}
theorem eA(h:a L=some ((d,.new),ρ1)):sv a L=some ((d,.fz),ρ1):=by unfold sv;rw[h]
theorem ah(h:a L=some ((d,.fz),ρ1)):sv a L=some ((d,.fz),ρ1):=by unfold sv;rw[h]
theorem pK(h:a L=some ((d,.at i),ρ1)):sv a L=some ((d,.at i),ρ1):=by unfold sv;rw[h]
theorem aL(l:sv a L=some ((x,.fz),ρ1))(I:sv b ρ1=some (r,ρ2))(h3:g x r.1=some Y0):mOp g a b L=some (jN Y0,ρ2):=by
 unfold mOp;rw[l,zai];dsimp only;rw[I,zai];dsimp only[mJ,Option.bind_some];rw[h3,zaT]
theorem PQ(l:sv a L=some ((x,.at i),ρ1))(I:sv b ρ1=some (r,ρ2))(h4 : ρ2[i]?=some (.own y))(h3:g y r.1=some Y0):mOp g a b L=some (jN Y0,ρ2):=by
 unfold mOp;rw[l,zai];dsimp only;rw[I,zai];dsimp only[mJ];rw[h4];dsimp only[Option.bind_some];rw[h3,zaT]
theorem ao{rs:List RV}(l:sv a L=some ((x,.fz),ρ1))(I:m ρ1=some (rs,ρ2)):af a m L=some ((x,.fz)::rs,ρ2):=by
 unfold af;rw[l,zai];dsimp only;rw[I,zai];rfl
theorem oN{rs:List RV}(g:sv a L=some ((x,.at i),ρ1))(l:m ρ1=some (rs,ρ2))(h4 : ρ2[i]?=some (.own y)):af a m L=some ((y,.at i)::rs,ρ2):=by
 unfold af;rw[g,zai];dsimp only;rw[l,zai];dsimp only[mJ];rw[h4];rfl
def aG:ar L=some ([],L):=rfl
theorem ai(h : L[i]?=some (.fz d)):aa i L=some ((d,.fz),L):=by unfold aa;rw[h]
theorem fK(h : L[i]?=some (.own d)):aa i L=some ((d,.at i),L):=by unfold aa;rw[h]
theorem dY(l:m L=some (rs,ρ1))(I:g (rs.map (·.1))=some Y0):mCB g m L=some (jN Y0,ρ1):=by
 unfold mCB;rw[l,zai];dsimp only;rw[I,zaT]
theorem bz(g:a L=some ((d,.fz),ρ1))(l:eL ρ1 i (.fz d)=some ρ2):bL i a L=some (.nx ρ2):=by
 unfold bL;rw[g,zai];dsimp only[sto];rw[l,zaT]
theorem cN(g:a L=some ((d,.new),ρ1))(l:eL ρ1 i (.own d)=some ρ2):bL i a L=some (.nx ρ2):=by
 unfold bL;rw[g,zai];dsimp only[sto];rw[l,zaT]
theorem mM(g:c L=some (true,ρ1))(l:s ρ1=o):cL c s t L=o:=by
 unfold cL;rw[g,zai];dsimp only;rw[if_pos rfl,l]
theorem eN(g:c L=some (false,ρ1))(l:t ρ1=o):cL c s t L=o:=by
 unfold cL;rw[g,zai];dsimp only;rw[if_neg zam,l]
theorem test_ev{k:Kd}(h:a L=some ((.bool v,.fz),ρ1)):ax a L=some (v,ρ1):=by
 unfold ax;rw[ah h];rfl
theorem mN(h:c L=some (v,ρ1)):pA c L=some (!v,ρ1):=by unfold pA;rw[h];rfl
theorem sA(h:c L=some (true,ρ1))(g:e ρ1=o):jO c e L=o:=by unfold jO;rw[h];simpa using g
theorem AV(h:c L=some (false,ρ1)):jO c e L=some (false,ρ1):=by unfold jO;rw[h];rfl
theorem Cv(h:c L=some (true,ρ1)):mOr c e L=some (true,ρ1):=by unfold mOr;rw[h];rfl
theorem gZ(h:c L=some (false,ρ1))(g:e ρ1=o):mOr c e L=o:=by unfold mOr;rw[h];simpa using g
theorem mO(a b:List D)(h:a.length+b.length<=100000):cM (.list a) (.list b)=some (.list<|a++b,true):=by
 show cIf _ _ _=_;rw[aX<|su h]
theorem eO(l:m L=some (rs,ρ1))(I:fv rs ρ1=some (ds,ρ2))(h3:ds.length<=100000):eM m L=some ((.list ds,.new),ρ2):=by
 unfold eM;rw[l,zai];dsimp only;rw[I,zai];dsimp only;rw[aX<|su h3]
theorem bR(l:m L=some (rs,ρ1))(I:fv rs ρ1=some (ds,ρ2))(h3:ds.length<=100000):cW m L=some ((.tuple ds,.fz),ρ2):=by
 unfold cW;rw[l,zai];dsimp only;rw[I,zai];dsimp only;rw[aX<|su h3]
theorem pL(l:it L=some (ds,ρ1))(I:jP c e (fr.map λp=>bG ρ1 p.2) ds=some g)(h3:g.length<=100000) :
  mLC fr it c e L=some ((.list g,.new),ρ1):=by
 unfold mLC;rw[l,zai];dsimp only;rw[I,zai,aX<|wU h3]
theorem zp{d:List D}(g:sv a L=some ((.list d,k),ρ1)):ur a L=some (d,ρ1):=by
 unfold ur;rw[g];rfl
theorem Np{d:List D}(g:sv a L=some ((.list d,.fz),ρ1)):En a L=some (d,ρ1):=by
 unfold En;rw[g];rfl
theorem eZ(h:a L=some (r,ρ1)):eg a L=some (.nx ρ1):=by unfold eg;rw[h];rfl
end
theorem iu{I:Rho}{α:Type}{f : α->D}{g : α->D}:∀l:List α,(∀x∈l,∃L,sv e (.fz (f x)::I)=some ((g x,.fz),L))->jP uu e I (l.map f)=some (l.map g)
 | [],_=>rfl
 |x::l,h=>by
  obtain⟨L,a⟩:=h x zas;have c:=iu l λy d=>h y (zak _ d)
  rw[zaz,zaz];unfold jP;simp only[uu,a,c,asF,Option.bind_some,Option.map_some,if_true]
theorem ER(n:Nat):pB 0 n=(List.range n).map λk:Nat=>PyData.int (k:Int):=by
 unfold pB
 congr 1
 funext k
 rw[Int.zero_add]
def IE(m:PM)(L:Rho)(v:Int):Prop:=m L=some ((.int v,.fz),L)
def BE(m:PM)(L:Rho)(v:Bool):Prop:=m L=some ((.bool v,.fz),L)
section
variable{a b:PM}{L:Rho}{i j:Int}{u v:Bool}
def Cw(l:IE a L i)(I:IE b L j)(h3:g (.int i) (.int j)=some (.int k,false)):IE (mOp g a b) L k:=aL (ah l) (ah I) h3
def Cy(l:IE a L i)(I:IE b L j)(h3:g (.int i) (.int j)=some (.bool k,false)):BE (mOp g a b) L k:=aL (ah l) (ah I) h3
def bC:IE (mC<|.int i) L i:=rfl
def a6(h : L[k]?=some (.fz<|.int i)):IE (aa k) L i:=ai h
def g6(g:IE a L i)(l:IE b L j):IE (mOp cM a b) L (i+j):=Cw g l rfl
def jQ(g:IE a L i)(l:IE b L j):IE (mOp lh a b) L (i-j):=Cw g l rfl
theorem ES(h:C i j):gI C f (.int i) (.int j)=some (.int<|f i j,false):=by show cIf _ _ _=_;rw[aX h]
theorem Nq(g:IE a L i)(l:IE b L j)(h:IntMulOk i j):IE (mOp Cm a b) L (i*j):=Cw g l (by show cIf _ _ _=_;rw[aX h])
def mP(g:IE a L i)(l:IE b L j)(h:Me i j):IE (mOp iU a b) L (i/j):=Cw g l (ES h)
def cY(g:IE a L i)(l:IE b L j)(h : 0<j):IE (mOp bY a b) L (i%j):=Cw g l (ES h)
def ET(g:IE a L i)(l:IE b L j)(h:Mf i j):IE (mOp zf a b) L (i^j.toNat):=Cw g l (ES h)
theorem Nr(g:IE a L i):IE (mUn Cn a) L (-i):=by unfold IE mUn;rw[ah g];rfl
def sC(g:IE a L i)(l:IE b L j):BE (mOp gEq a b) L (decide<|i=j):=Cy g l (AS i j)
def EU(g:IE a L i)(l:IE b L j):BE (mOp gNe a b) L (!decide (i=j)):=Cy g l (AU i j)
def wV(g:IE a L i)(l:IE b L j):BE (mOp gLt a b) L (decide<|i<j):=Cy g l rfl
def EV(g:IE a L i)(l:IE b L j):BE (mOp gLe a b) L (decide<|i<=j):=Cy g l rfl
def lS(g:IE a L i)(l:IE b L j):BE (mOp gGt a b) L (decide<|j<i):=Cy g l rfl
def EW(g:IE a L i)(l:IE b L j):BE (mOp gGe a b) L (decide<|j<=i):=Cy g l rfl
def BE.t(h:BE a L v):ax a L=some (v,L):=test_ev (k:=.fz) h
def BE.is(h:BE a L u)(e:u=v):BE a L v:=e▸h
def IE.is(h:IE a L i)(e:i=j):IE a L j:=e▸h
def kG(g:m L=some (rs,L))(l:f (rs.map (·.1))=some (.int i,false)):IE (aQ f m) L i:=aZ g l rfl
def e8(g:m L=some (rs,L))(l:f (rs.map (·.1))=some (.bool v,false)):BE (aQ f m) L v:=aZ g l rfl
theorem EX(g:BE a L u)(l:u=true->BE b L v)(h3:u=false->v=false):BE (sh a b) L v:=by
 unfold BE sh;rw[g.t];cases u with
 |true=>exact l rfl
 |false=>rw[h3 rfl];rfl
def Nt(h:IE a L i)(g:eL L k (.fz<|.int i)=some ρ'):bL k a L=some (.nx ρ'):=bz h g
def b7(h:BE a L u)(e:u=v):ax a L=some (v,L):=e▸h.t
def cG{rs:List RV}(h:IE a L i)(g:m L=some (rs,L)):af a m L=some ((.int i,.fz)::rs,L):=ao (ah h) g
def tEq(g:IE a L i)(l:IE b L j)(h:i=j):ax (mOp gEq a b) L=some (true,L):=b7 (sC g l) (zaH h)
def tNe(g:IE a L i)(l:IE b L j)(h:i≠j):ax (mOp gEq a b) L=some (false,L):=b7 (sC g l) (zaO h)
end
theorem Nu(l:a L=some (.bk g)):aT a b L=some (.bk g):=by
 unfold aT;simp only[l,Option.bind_some]
theorem PR(l:c L=some (true,g))(I:a g=o):wB c a b L=o:=by unfold wB;rw[l];simpa using I
theorem PU(l:c L=some (false,g))(I:b g=o):wB c a b L=o:=by unfold wB;rw[l];simpa using I
def wW(x : α)(l:List α):atI (x::l) 0=some x:=kF (x::l) 0
theorem cg(I:g d L=some ρ1)(M:b ρ1=some (.nx l))(h3:forL g b ds l=o):forL g b (d::ds) L=o:=by
 show((g d L).bind _)=_;rw[I,zai,M];exact h3
theorem IC(M:g d L=some l)(O:b l=some (.rt r I)):forL g b (d::ds) L=some (.rt r I):=by
 show((g d L).bind _)=_;rw[M,zai,O];rfl
end Mir
namespace Mir
open L2
variable [Zc]
noncomputable def asS:D->Option (List D)
 | .list ds=>some ds
 | .tuple ds=>some ds
 |_=>none
def mgU(n:Nat)(M:List D->Rho->Option Rho):D->Rho->Option Rho:=λd L=>(asS d).bind λds=>if ds.length=n then M ds L else none
theorem ID(h:MGs gs g):MG (Eg K n gs) (mgU n g):=λF B H J L v d ρ' Q R f e q=>by
 obtain⟨ds,b,a⟩:=zaa e;cases f with
 |tup c rs=>
  cases b;split at a
  .rename_i hn
   exact⟨_,_,rfl,.inl<|.inl<|.inl<|R.sub _ _ c,by rw[rs.length];exact hn,h F B H J L _ _ ρ' Q R rs a q⟩
  .cases a
 |lst c rs=>
  cases b;split at a
  .rename_i hn
   exact⟨_,_,rfl,.inr<|eK<|cB R.sub c,by rw[rs.length];exact hn,h F B H J L _ _ ρ' Q R rs a q⟩
  .cases a
 |_=>cases b
end Mir
namespace L2
open PySem.Spec PyProof.Rows
variable{X:Cx}
end L2
namespace Mir
open L2
variable [Zc]
end Mir
namespace Mir
open L2
end Mir
namespace L2
open PySem.Spec PyProof.Rows
end L2
namespace Mir
open L2
variable [Zc]
end Mir
namespace Mir
open L2
section
variable [Zc]
def tups(H:Hp):Hp:=λq=>match H q with
 |some (.tup xs)=>some (.tup xs)
 |_=>none
theorem EY{j:Nat}{x : α}(h:xs[j]?=some x):L2.atI xs (j:Int)=some x:=by
 rw[Mir.kF];exact h
structure PV(B H:Hp)(p:Addr)(v:V)(B' H':Hp)(d:D)(o:Bool)(d1:D):Prop where
 eH:∀q u,q≠p->H q=some u->H' q=some u
 eB:aA B B'
 sub:aA B' H'
 nb:∀q,H q≠none->B q=none->B' q=none
 tB:∀q xs,H' q=some (.tup xs)->B' q=some (.tup xs)
 nz:∀q o u,H' q=some (.frz o u)->H q≠none
 own:Own B' H' p d1
 val:if o=true then∃p,v=.ref p/\H p=none/\B' p=none/\Own B' H' p d else Rep B' v d
def spI(f:List D->Option ((D×Bool)×D)):Sp:=λvs H Q _=>∃B p us d0 ds r d1,vs=.ref p::us/\aA B H/\(∀q xs,H q=some (.tup xs)->B q=some (.tup xs))/\B p=none/\Own B H p d0/\aJ B us ds/\f (d0::ds)=some (r,d1)/\∀v B' H',PV B H p v B' H' r.1 r.2 d1->Q v H'
def mQ:Out->Rho
 | .nx L=>L
 | .rt _ L=>L
 | .bk L=>L
 | .ct L=>L
noncomputable def io0:Rho->Option D
 | .io d::_=>some d
 |_=>none
theorem Nv(h:io0 L=some d) : L[0]?=some (Sl.io d):=by
 unfold io0 at h;split at h
 .cases h;rfl
 .cases h
def fnI(n k:Nat)(b:SM):List D->Option ((D×Bool)×D)
 | []=>none
 |d0::ds=>if ds.length+1=n then(b (.io d0::ds.map .fz++List.replicate k .no)).bind λo=>(wJ o).bind λr=>(io0<|mQ o).map λd=>(r,d)else none
theorem IF(hb:MS t b)(hN:N.length=n+k)(h:spI (fnI n k b) vs H Q E):t {nx:=λ_ H'=>Q .non H',rt:=Q} (L2.start N vs) H:=by
 obtain⟨B,p,us,D,ds,r0,d1,rfl,sub,tB,hB,ow,I,e,q⟩:=h;simp only[fnI]at e;split at e
 case isFalse=>cases e
 rename_i O
 obtain⟨w,U,y⟩:=zaa e;obtain⟨r,y,V⟩:=zaa y;obtain⟨d,V,Y⟩:=zab V;cases Y;have l:us.length+1=n:=by rw[I.length];exact O
 have W:∀(i:Nat) (s:Sl),(Sl.io D::ds.map Sl.fz++List.replicate k .no)[i]?=some s->s.isRef=true->i=0/\s=.io D:=λi s a m=>by
  cases i with
  |zero=>rw[zay,zaP]at a;cases a;exact⟨rfl,rfl⟩
  |succ i=>
   rw[zay,zat]at a;have:=zaj a;rcases zae this with h|h
   .obtain⟨c,_,rfl⟩:=List.mem_map.mp h;cases m
   .rw[zaG h]at m;cases m
 have Z:∀i:Nat,(Sl.io D::ds.map Sl.fz++List.replicate k .no)[i]?=some Sl.ex->False:=λi a=>by
  cases i with
  |zero=>rw[zay,zaP]at a;cases a
  |succ i=>
   rw[zay,zat]at a;have:=zaj a;rcases zae this with h|h
   .obtain⟨c,_,z⟩:=List.mem_map.mp h;cases z
   .have:=zaG h;cases this
 have st0:(L2.start N (.ref p::us))[0]?=some (some<|.ref p):=by
  unfold L2.start;rw[zaz,zay,zaP]
 have R:Rel ⟨B,H,[(0,p)],λq=>H q≠none⟩ B H (L2.start N (.ref p::us)) (.io D::ds.map .fz++List.replicate k .no):=by
  refine⟨sub,aA.refl _,λ_ _ z _=>z,λ_ _ z=>z,?_,λi s hs=>?_,λi j s t p a m h3 h4 _ _=>(W i s a<|Sl.lu m).1.trans (W j t h3 h4).1.symm,(λi c p a=>by have:=(W i _ a rfl).2;cases this),(λx G=>?_),(λi c a=>?_),tB,(λi a=>(Z i a).elim),λq o u h z=>by rw[z]at h;cases h⟩
  .simp[L2.start,O,l,hN];lia
  .cases i with
   |zero=>
    cases hs;exact⟨p,st0,hB,ow⟩
   |succ i=>
    rw[zay,zat]at hs
    by_cases hi:i<ds.length
    .rw[zax (by simpa using hi),zao]at hs
     obtain⟨c,a,rfl⟩:=zab hs;obtain⟨x,m,h3⟩:=I.get i c a;refine⟨x,?_,h3⟩;unfold L2.start;rw[zaz,zay,zat,zax (by rw[zal,I.length];exact hi),zao,m]
     rfl
    .rw[zaN (by simpa using zba hi)]at hs
     have:=zaG (zaj hs);subst this;trivial
  .simp only[List.mem_cons,List.not_mem_nil,or_false]at G
   subst G;exact⟨st0,D,rfl⟩
  .obtain⟨rfl,_⟩:=W i _ a rfl
   exact⟨p,by simp⟩
 refine hb _ B H _ _ w _ R U ?_;have post:∀{B' H':Hp} {A:St} {ρ':Rho},mQ w=ρ'->Rel ⟨B,H,[(0,p)],λq=>H q≠none⟩ B' H' A ρ'->(∀q u,q≠p->H q=some u->H' q=some u)/\aA B B'/\aA B' H'/\(∀q,H q≠none->B q=none->B' q=none)/\(∀q xs,H' q=some (.tup xs)->B' q=some (.tup xs))/\(∀q o u,H' q=some (.frz o u)->H q≠none)/\Own B' H' p d1:=fun{B' H' A ρ'} hw f=>by
  refine⟨λq u n z=>f.sH q u z λx G=>?_,f.sB,f.sub,f.nB,f.cj,f.nz,?_⟩
  .simp only[List.mem_cons,List.not_mem_nil,or_false]at G
   subst G;exact λz=>n z.symm
  .rw[hw]at V
   have h0:=Nv V;obtain⟨p',g1,M,g⟩:=f.slot 0 _ h0;obtain⟨g4,_⟩:=f.fx (0,p) (by simp)
   rw[g4]at g1;cases g1;exact g
 cases w with
 |nx ρ'=>
  cases y;intro B' H' A f;obtain⟨σ,p2,K,ρ,P,S,T⟩:=post rfl f;exact q _ B' H' ⟨σ,p2,K,ρ,P,S,T,.non⟩
 |bk ρ'=>cases y
 |ct ρ'=>cases y
 |rt r' ρ'=>
  intro v B' H' A f X;obtain⟨σ,p2,K,ρ,P,S,T⟩:=post rfl f;obtain⟨c,kd⟩:=r';cases kd with
  |fz=>cases y;exact q v B' H' ⟨σ,p2,K,ρ,P,S,T,X⟩
  |new=>
   cases y;obtain⟨p,rfl,a,m,h3,_⟩:=X;exact q _ B' H' ⟨σ,p2,K,ρ,P,S,T,⟨p,rfl,m,a,h3⟩⟩
  |ro=>cases y
  | «at» i=>
   obtain⟨s,a,m,h3,h4⟩:=X;have C:(match ρ'[i]? with
    |some (.own d)=>some (d,true)
    |_=>none)=some r0:=y
   rw[a]at C;cases s with
   |own c'=>
    cases C;obtain⟨p,g1,M,g⟩:=f.slot i _ a;have F:=h4;rw[F]at g1;cases g1;exact q _ B' H' ⟨σ,p2,K,ρ,P,S,T,⟨p,rfl,f.iT i _ p a F,M,g⟩⟩
   |_=>cases C
theorem IG(h:spI (fnI n k b) vs H Q E):vs.length=n:=by
 obtain⟨B,p,us,d,ds,j,d1,rfl,sub,tB,f,i,c,e,q⟩:=h;simp only[fnI]at e;split at e
 .rename_i a;rw[zaw,c.length];exact a
 .cases e
def ownAt(L:Rho)(i:Nat):Option Sl:=match L[i]? with
 |some s=>if s.cV=true then some s else none
 |none=>none
theorem gm(h:ownAt L i=some s) : L[i]?=some s/\s.cV=true:=by
 unfold ownAt at h;split at h
 .rename_i s' a
  split at h
  .rename_i b;cases h;exact⟨a,b⟩
  .cases h
 .cases h
def uy(i:Nat)(f:List D->Option ((D×Bool)×D))(m:Rho->Option (List RV×Rho)):PM:=λL=>(ownAt L i).bind λ_=>(m L).bind λx=>(fv x.1 x.2).bind λy=>(ownAt y.2 i).bind λs=>(f (slD s::y.1)).map λw=>(kO w.1.1 w.1.2,y.2.set i<|s.put w.2)
theorem Own.uz(h:Own B H p d)(a:Obj)(u:HO):H p≠some (.frz a u):=by cases h with
 |lst h _=>rw[h];simp
 |dct h _=>rw[h];simp
theorem EZ(h:MA t m):ME (jK (spI f) [] E<|fH (lg i) t) (uy i f m):=by
 intro F B H J L r0 ρ' Q R e q;obtain⟨s0,e0,e⟩:=zaa e
 fail "q1"
 obtain⟨s,e4,e⟩:=zaa e;obtain⟨w,e3,e⟩:=zab e;cases e;obtain⟨l,g⟩:=gm e0;obtain⟨hs,ho⟩:=gm e4;obtain⟨p,K,_,_⟩:=R.ownAt l g;refine⟨_,K,?_⟩
 fail "q3"
 show spI f (V.ref p::vs++[]) b Q E;rw[zaR];obtain⟨M,R2,rp,E2⟩:=Rel.uq n S.weak ρ;obtain⟨p',σ,Y,I⟩:=R2.ownAt hs ho;rw[K]at σ;cases σ;obtain⟨oo,D⟩:=I.there;obtain⟨r,d1⟩:=w;refine⟨M,p,vs,slD s,y.1,r,d1,rfl,R2.sub,R2.cj,Y,I,rp,e3,λv B' H' P=>?_⟩
 obtain⟨o1,G⟩:=P.own.there;have Z:=P.nb p (by rw[D];simp) Y
 have eH:aA b (upd H' p oo):=λc u k=>by
  by_cases z:c=p
  .subst z;rw[D]at k;cases k;exact ak
  .rw[aj z];exact P.eH c u z k
 have sub:aA B' (upd H' p oo):=λc u k=>by
  rw[aj λz=>by rw[z,Z]at k;cases k];exact P.sub c u k
 have tB:∀c xs,upd H' p oo c=some (.tup xs)->B' c=some (.tup xs):=λc xs k=>by
  by_cases z:c=p
  .subst z;rw[ak]at k;cases k;exact absurd D (I.jM xs)
  .rw[aj z]at k;exact P.tB c xs k
 have nz:∀c a u,upd H' p oo c=some (.frz a u)->b c≠none:=λc a u k=>by
  by_cases z:c=p
  .subst z;rw[D];simp
  .rw[aj z]at k;exact P.nz c a u k
 have R3:=R2.grow P.eB eH sub P.nb tB nz;have E3:Ext J y.2 M b y.2 B' (upd H' p oo):=Ext.grow P.eB eH P.nb;have back:upd (upd H' p oo) p o1=H':=by
  funext c
  by_cases z:c=p
  .subst z;rw[ak,G]
  .rw[aj z,aj z]
 obtain⟨N,O⟩:=R3.write (o:=o1) hs ho K ⟨(λxs z=>by rw[z]at G;exact P.own.jM xs G),λa u z=>by rw[z]at G;exact P.own.uz a u G⟩ (by rw[back];exact P.own)
 rw[back]at N O;have U:=C.trans (E2.trans<|E3.trans O);obtain⟨d,o⟩:=r;cases o with
 |false=>
  have pv:=P.val;exact q v B' H' U N pv λp z=>by cases z
 |true=>
  obtain⟨p2,rfl,T,h2,h3⟩:∃p,v=.ref p/\b p=none/\B' p=none/\Own B' H' p d:=P.val;have fr:=R2.free T;refine q _ B' H' U N ⟨p2,rfl,h2,fr.2.1,h3,λj t h4 h5 X=>?_⟩ λp' _ z=>by cases z;exact C.live p2 T
  rcases get_set h4 with⟨rfl,_,_⟩|⟨_,h4⟩
  .rw[K]at X
   cases X;rw[T]at D;cases D
  .exact fr.2.2 j t h4 h5 X
theorem E6{s s':Sl}{rs:List RV}{ds:List D}{d d0 d1:D}{o:Bool}{L l g:Rho}(I:ownAt L i=some s')(M:m L=some (rs,l))(O:fv rs l=some (ds,g))(h3:ownAt g i=some s)(h4:f (slD s::ds)=some ((d,o),d1)):uy i f m L=some (kO d o,g.set i<|s.put d1):=by
 unfold uy;rw[I,zai,M,zai];dsimp only
 rw[O,zai];dsimp only
 rw[h3,zai,h4];rfl
theorem zq(h : L[i]?=some (.io d)):aa i L=some ((d,.at i),L):=by unfold aa;rw[h]
theorem Nw(I:ds.length+1=n)(h:b (.io g::ds.map .fz++List.replicate k .no)=some o)(M:wJ o=some r)(l:io0 (mQ o)=some d1):fnI n k b (g::ds)=some (r,d1):=by
 simp only[fnI];rw[if_pos I,h,zai,M,zai,l];rfl
def Two(H0 B' H':Hp)(v:V)(c:D×D):Prop:=∃a p q,v=.ref a/\H' a=some (.tup [.ref p,.ref q])/\p≠q/\H0 p=none/\H0 q=none/\B' p=none/\B' q=none/\Own B' H' p c.1/\Own B' H' q c.2
structure PX(B H:Hp)(v:V)(B' H':Hp)(c:D×D):Prop where
 eH:aA H H'
 eB:aA B B'
 sub:aA B' H'
 nb:∀q,H q≠none->B q=none->B' q=none
 tB:∀q xs,H' q=some (.tup xs)->B' q=some (.tup xs)
 nz:∀q o u,H' q=some (.frz o u)->H q≠none
 val:Two H B' H' v c
def spD(f:List D->Option (D×D)):Sp:=λvs H Q _=>∃B ds c,aA B H/\(∀q xs,H q=some (.tup xs)->B q=some (.tup xs))/\aJ B vs ds/\f ds=some c/\∀v B' H',PX B H v B' H' c->Q v H'
def OkD(F:Fr)(E:Ends)(c:D×D):Prop:=∀v B' H' e ρ',Rel F B' H' e ρ'->Two F.H B' H' v c->E.rt v H'
def MD(t:TS)(m:Rho->Option (D×D)):Prop:=∀(F:Fr) (B H:Hp) (J:St) (L:Rho) (c:D×D) (E:Ends),Rel F B H J L->m L=some c->OkD F E c->t E J H
def iw(a:SM)(b:Rho->Option (D×D)):Rho->Option (D×D):=λL=>(a L).bind λo=>match o with
 | .nx ρ'=>b ρ'
 |_=>none
theorem Nx(ha:MS t a)(hb:MD u b):MD (DJ t u) (iw a b):=by
 intro F B H J L c E R e q;obtain⟨x,h,e⟩:=zaa e;cases x with
 |nx ρ'=>exact ha F B H J L _ {E with nx:=u E} R h λB' H' d f=>hb F B' H' d ρ' c E f e q
 |rt r ρ'=>cases e
 |bk ρ'=>cases e
 |ct ρ'=>cases e
noncomputable def AW(i j:Nat):Rho->Option (D×D):=λL=>match L[i]?,L[j]? with
 |some (.own e),some (.own h)=>if i=j then none else some (e,h)
 |_,_=>none
theorem Ny:MD (BS<|DW<|fH (lg i)<|fH (lg j) tW) (AW i j):=by
 intro F B H J L c E R e q;unfold AW at e;split at e
 case h_2=>cases e
 rename_i y A hi d
 split at e
 .cases e
 rename_i b
 cases e;obtain⟨p,k,w,n⟩:=R.slot i _ hi;obtain⟨r,m,x,s⟩:=R.slot j _ d;have f:p≠r:=λz=>b (R.dist i j _ _ p hi rfl d rfl k<|z▸m)
 refine⟨_,k,_,m,(by simp only[List.length_cons,List.length_nil,sizeLine];lia),λa ha=>?_⟩
 obtain⟨v,_,eB⟩:=R.rg ha;have t:p≠a:=λz=>n.fI (z▸ha)
 have u:r≠a:=λz=>s.fI (z▸ha)
 refine q _ _ _ J L v ⟨a,p,r,rfl,ak,f,R.iT i _ p hi k,R.iT j _ r d m,by rw[aj t];exact w,by rw[aj u];exact x,n.mono eB λo h=>by rw[aj t];exact h,s.mono eB λo h=>by rw[aj u];exact h⟩
def E7(f:List D->Option (D×D))(m:Rho->Option (List RV×Rho)):Rho->Option (D×D):=λL=>(m L).bind λx=>(fv x.1 x.2).bind λy=>f y.1
theorem IH(h:MA t m):MD (BS<|jK (spD f) [] X t) (E7 f m):=by
 intro F B H J L c E R e q;obtain⟨x,A,e⟩:=zaa e;obtain⟨y,s,u⟩:=zaa e
 fail "q3"
 rw[zaR];obtain⟨i,R2,σ,K⟩:=Rel.uq n S.weak s;refine⟨i,y.1,c,R2.sub,R2.cj,σ,u,λv B' H' P=>?_⟩
 have j:=R2.grow P.eB P.eH P.sub P.nb P.tB P.nz;obtain⟨a,p,r,rfl,ha,d,w,D,k,o,G,or⟩:=P.val;exact q _ B' H' J _ j ⟨a,p,r,rfl,ha,d,(R2.free w).2.1,(R2.free D).2.1,k,o,G,or⟩
def Cz(c:Rho->Option (Bool×Rho))(a b:Rho->Option (D×D)):Rho->Option (D×D):=λL=>(c L).bind λx=>if x.1=true then a x.2 else b x.2
theorem PY(g:MT l c)(ha:MD t a)(hb:MD u b):MD (DJ (Hn l t Az) u) (Cz c a b):=by
 intro F B H J L w E R e q;obtain⟨x,h,e⟩:=zaa e;refine g F B H J L x.1 x.2 _ R h λB' H' _ f=>?_
 cases d:x.1 with
 |true=>
  rw[d,if_pos rfl]at e;exact ha F B' H' J x.2 w {E with nx:=u E} f e q
 |false=>
  rw[d,if_neg zam]at e;exact hb F B' H' J x.2 w E f e q
def fnD(n k:Nat)(b:Rho->Option (D×D))(ds:List D):Option (D×D):=if ds.length=n then b (ds.map .fz++List.replicate k .no)else none
theorem II(hb:MD t b)(g:N.length=n+k)(h:spD (fnD n k b) vs H Q E):t {nx:=λ_ H'=>Q .non H',rt:=Q} (L2.start N vs) H:=by
 obtain⟨B,ds,c,sub,tB,i,e,q⟩:=h;unfold fnD at e;split at e
 case isFalse=>cases e
 rename_i d
 refine hb _ B H _ _ c _ (EB sub tB i d g) e λv B' H' j ρ' a T=>?_
 exact q v B' H' ⟨λq u z=>a.sH q u z (λx f=>by cases f),a.sB,a.sub,a.nB,a.cj,a.nz,T⟩
theorem uA(h:spD (fnD n k b) vs H Q E):vs.length=n:=by
 obtain⟨B,ds,c,sub,tB,d,e,q⟩:=h;unfold fnD at e;split at e
 .rename_i a;exact d.length.trans a
 .cases e
end
end Mir
namespace L2
open PySem.Spec PyProof.Rows
section
variable{X:Cx}{U0:List<|Addr×Obj}{J:St}{H:Hp}{s:Shared}{h':Heap}
theorem Inv.lT{fp:List Addr}(I:Inv X U0 J H s)(k:∀b o,b∉fp->s.heap.get? b=some o->h'.get? b=some o)(f:∀b∈fp,iR X U0 H b):Inv X U0 J H {s with heap:=h',toks:=g}:=by
 have d:∀b u,H b=some u->b∉fp:=λb u e z=>by rw[(f b z).1]at e;cases e
 have t:X.env.locals∉fp:=λz=>(f _ z).2.1 rfl
 refine I.step (g':=s.gens) (d':=s.drawn) (ch:=fp) (λb hb=>?_) (λb o _ _ a e _=>k b o a e) (λb o _ _ a e _=>⟨o.slots,k b o a e⟩) (λ_ _ _ _ n=>n)
  (λb o a e=>⟨o,k b o a e⟩) (λ_ _ e=>e) (λ_ _ _ e=>e) (λb ps e=>⟨#[],by rw[e];simp⟩) (λm hm=>?_) (λb u e=>?_) I.bare
 .obtain⟨_,f1,_,i,j,p⟩:=f b hb
  exact⟨i,f1,j,p⟩
 .obtain⟨o,es,h,ho,r⟩:=hm
  exact⟨o,es,h,k _ o t ho,r⟩
 .refine(I.hok b u e).stay (λc v a q=>k c v ?_ q) (λ_ q=>q) λ_ _ _ q=>q
  rcases a with z|z
  .rw[z];exact d b u e
  .exact d c _ z
end
section
variable{prog:Program}{w:World}{A:Around}{E:Value->Shared->Prop}{s:Shared}
theorem zr(g:s.heap.IsTupleIter it t i)(M:s.heap.IsTuple t l)(O:l[i]?=some x)
  (I:∀h',h'.IsTupleIter it t (i+1)->Heap.SameBut it s.heap h'->Q x {s with heap:=h'}):wpAny (model prog w) A (Builtin.SmallTypes.nextOf<|.ref it) Q E s:=by
 obtain⟨o,ho,c,hd⟩:=id g;obtain⟨e,b,_,d,a⟩:=M;refine zaI (wpAny_callSpecial?_slot g.typeIs F.slot_tuple_iterator_next<|wpAny_call_entry F.slot_tuple_iterator_next g.typeIs F.entry_tuple_iterator_next ?_ (F.args_tuple_iterator_next_1 _));show wpAny _ _ (field (.ref it) 0>>=_) _ _ s;refine zaI (wpAny_field ho hd rfl ?_);refine zaI (wpAny_field ho hd rfl ?_);refine zaI (wpAny_seqItems b a ?_);simp only[Int.toNat_natCast,O];refine zaI (wpAny_setField ho hd (by simp)<|zaZ ⟨x,rfl,zaZ<|I _ ?_ (Heap.SameBut.update ..)⟩)
 exact⟨_,Heap.get?_update_self _ ho<|Obj.isFreed_of_fields<|Obj.data_mapFields hd _,(Obj.cls_mapFields ..).trans c,by
  rw[Obj.data_mapFields hd];simp[rawInt]⟩
theorem sD(I:A.handled=none)(g:s.heap.IsTupleIter it t i)(O:s.heap.IsTuple t l)(U:l[i]?=none)
  (M:∀h' e,Heap.ExtBut it s.heap h'->(∃o,h'.get? e=some o/\o.cls=.type "StopIteration")->E (.ref e) {s with heap:=h'}):wpAny (model prog w) A (Builtin.SmallTypes.nextOf<|.ref it) Q E s:=by
 obtain⟨o,ho,c,hd⟩:=id g;obtain⟨f,b,_,d,a⟩:=O;refine zaI (wpAny_callSpecial?_slot g.typeIs F.slot_tuple_iterator_next<|wpAny_call_entry F.slot_tuple_iterator_next g.typeIs F.entry_tuple_iterator_next ?_ (F.args_tuple_iterator_next_1 _));show wpAny _ _ (field (.ref it) 0>>=_) _ _ s;refine zaI (wpAny_field ho hd rfl ?_);refine zaI (wpAny_field ho hd rfl ?_);refine zaI (wpAny_seqItems b a ?_);simp only[Int.toNat_natCast,U];refine zaI (wpAny_rule<|zaI<|wpAny_setField ho hd (by simp) ?_)
 refine zaI ?_;refine zaI (wpAny_newObj_type ?_ (by size_fits))
 refine zaI (wpAny_of_eq (by first|rfl|(simp only[firstArgMember];rfl)) ?_)
 refine wpAny_newObj_type ?_ (by size_fits)
 refine zaI (wpAny_handled ?_)
 first|rw[show A.in1.handled=none from I]|rw[I]
 refine zaI (zaZ<|wpAny_throw ?_);exact M _ _ (((Heap.SameBut.update ..).extBut.push _).push _) ⟨_,zaL _ rfl,rfl⟩
end
abbrev XE:=St->Value->Hp->Prop
abbrev TX:=XE->TS
def XP(X:Cx)(U0:List<|Addr×Obj)(E:XE)(M:Value)(s':Shared):Prop :=
 ∃(ea t:Addr) (cls:Value) (B:Heap) (H':Hp) (s1:Shared) (h:Hp) (e:St),M=.ref ea/\Inv X U0 e h s1/\Pe X.prog X.w X.stack h s1 (λcls _ H'=>E e cls H') ea t cls B H' s'
end L2
namespace Mir
open L2
section
variable [Zc]
structure PZ(B H:Hp)(p p2:Addr)(v:V)(B' H':Hp)(d:D)(o:Bool)(d1 d2:D):Prop where
 eH:∀q u,q≠p->q≠p2->H q=some u->H' q=some u
 eB:aA B B'
 sub:aA B' H'
 nb:∀q,H q≠none->B q=none->B' q=none
 tB:∀q xs,H' q=some (.tup xs)->B' q=some (.tup xs)
 nz:∀q o u,H' q=some (.frz o u)->H q≠none
 own:Own B' H' p d1
 IJ:Own B' H' p2 d2
 val:if o=true then∃p,v=.ref p/\H p=none/\B' p=none/\Own B' H' p d else Rep B' v d
def spJ(f:List D->Option ((D×Bool)×D×D)):Sp:=λvs H Q _=>∃B p p2 us d0 e ds r d1 d2,vs=.ref p::.ref p2::us/\p≠p2/\aA B H/\(∀q xs,H q=some (.tup xs)->B q=some (.tup xs))/\B p=none/\B p2=none/\Own B H p d0/\Own B H p2 e/\aJ B us ds/\f (d0::e::ds)=some (r,d1,d2)/\∀v B' H',PZ B H p p2 v B' H' r.1 r.2 d1 d2->Q v H'
noncomputable def io2:Rho->Option (D×D)
 | .io d::.io e::_=>some (d,e)
 |_=>none
theorem Nz(h:io2 L=some d) : L[0]?=some (Sl.io d.1)/\L[1]?=some (Sl.io d.2):=by
 unfold io2 at h;split at h
 .cases h;exact⟨rfl,rfl⟩
 .cases h
def fnJ(n k:Nat)(b:SM):List D->Option ((D×Bool)×D×D)
 |d0::e::ds=>if ds.length+2=n then(b (.io d0::.io e::ds.map .fz++List.replicate k .no)).bind λo=>(wJ o).bind λr=>(io2<|mQ o).map λd=>(r,d)else none
 |_=>none
theorem IK(hb:MS t b)(hN:N.length=n+k)(h:spJ (fnJ n k b) vs H Q E):t {nx:=λ_ H'=>Q .non H',rt:=Q} (L2.start N vs) H:=by
 obtain⟨B,p,p2,us,F,G,ds,r0,d1,d2,rfl,ρ,sub,tB,hB,hB2,ow,ow2,rp,e,q⟩:=h;simp only[fnJ]at e;split at e
 case isFalse=>cases e
 rename_i hl
 obtain⟨w,e1,y⟩:=zaa e;obtain⟨r,y,l⟩:=zaa y;obtain⟨d,l,e4⟩:=zab l;cases e4;have hvl:us.length+2=n:=by rw[rp.length];exact hl
 have O:∀(i:Nat) (s:Sl),(Sl.io F::Sl.io G::ds.map Sl.fz++List.replicate k .no)[i]?=some s->s.isRef=true->(i=0/\s=.io F)\/(i=1/\s=.io G):=λi s a m=>by
  cases i with
  |zero=>rw[zay,zaP]at a;cases a;exact .inl ⟨rfl,rfl⟩
  |succ i=>
   cases i with
   |zero=>rw[zay,zat,zay,zaP]at a;cases a;exact .inr ⟨rfl,rfl⟩
   |succ i=>
    rw[zay,zat,zay,zat]at a;have:=zaj a;rcases zae this with h|h
    .obtain⟨c,_,rfl⟩:=List.mem_map.mp h;cases m
    .rw[zaG h]at m;cases m
 have Y:∀i:Nat,(Sl.io F::Sl.io G::ds.map Sl.fz++List.replicate k .no)[i]?=some Sl.ex->False:=λi a=>by
  cases i with
  |zero=>rw[zay,zaP]at a;cases a
  |succ i=>
   cases i with
   |zero=>rw[zay,zat,zay,zaP]at a;cases a
   |succ i=>
    rw[zay,zat,zay,zat]at a;have:=zaj a;rcases zae this with h|h
    .obtain⟨c,_,z⟩:=List.mem_map.mp h;cases z
    .have:=zaG h;cases this
 have st0:(L2.start N (.ref p::.ref p2::us))[0]?=some (some<|.ref p):=by
  unfold L2.start;rw[zaz,zay,zaP]
 have A:(L2.start N (.ref p::.ref p2::us))[1]?=some (some<|.ref p2):=by
  unfold L2.start;rw[zaz,zay,zat,zaz,zay,zaP]
 have R:Rel ⟨B,H,[(0,p),(1,p2)],λq=>H q≠none⟩ B H (L2.start N (.ref p::.ref p2::us)) (.io F::.io G::ds.map .fz++List.replicate k .no):=by
  refine⟨sub,aA.refl _,λ_ _ z _=>z,λ_ _ z=>z,?_,λi s hs=>?_,λi j s t p' a m h3 h4 I M=>?_,(λi c p a=>by rcases O i _ a rfl with⟨_,z⟩|⟨_,z⟩<;>cases z),(λx P=>?_),(λi c a=>?_),tB,(λi a=>(Y i a).elim),λq o u h z=>by rw[z]at h;cases h⟩
  .simp[L2.start,hl,hvl,hN];lia
  .cases i with
   |zero=>
    cases hs;exact⟨p,st0,hB,ow⟩
   |succ i=>
    cases i with
    |zero=>
     cases hs;exact⟨p2,A,hB2,ow2⟩
    |succ i=>
     rw[zay,zat,zay,zat]at hs
     by_cases hi:i<ds.length
     .rw[zax (by simpa using hi),zao]at hs
      obtain⟨c,a,rfl⟩:=zab hs;obtain⟨x,m,h3⟩:=rp.get i c a;refine⟨x,?_,h3⟩;unfold L2.start;rw[zaz,zay,zat,zaz,zay,zat,zax (by rw[zal,rp.length];exact hi),zao,m]
      rfl
     .rw[zaN (by simpa using zba hi)]at hs
      have:=zaG (zaj hs);subst this;trivial
  .rcases O i s a (Sl.lu m)with⟨rfl,_⟩|⟨rfl,_⟩<;>rcases O j t h3 h4 with⟨rfl,_⟩|⟨rfl,_⟩
   .rfl
   .rw[st0]at I;rw[A]at M;cases I;cases M;exact absurd rfl ρ
   .rw[A]at I;rw[st0]at M;cases I;cases M;exact absurd rfl ρ
   .rfl
  .simp only[List.mem_cons,List.not_mem_nil,or_false]at P
   rcases P with rfl|rfl
   .exact⟨st0,F,rfl⟩
   .exact⟨A,G,rfl⟩
  .rcases O i _ a rfl with⟨rfl,_⟩|⟨rfl,_⟩
   .exact⟨p,by simp⟩
   .exact⟨p2,by simp⟩
 refine hb _ B H _ _ w _ R e1 ?_;have post:∀{B' H':Hp} {C:St} {ρ':Rho},mQ w=ρ'->Rel ⟨B,H,[(0,p),(1,p2)],λq=>H q≠none⟩ B' H' C ρ'->(∀q u,q≠p->q≠p2->H q=some u->H' q=some u)/\aA B B'/\aA B' H'/\(∀q,H q≠none->B q=none->B' q=none)/\(∀q xs,H' q=some (.tup xs)->B' q=some (.tup xs))/\(∀q o u,H' q=some (.frz o u)->H q≠none)/\Own B' H' p d1/\Own B' H' p2 d2:=fun{B' H' C ρ'} hw f=>by
  rw[hw]at l;have h0:=Nz l;refine⟨λq u n n2 z=>f.sH q u z λx P=>?_,f.sB,f.sub,f.nB,f.cj,f.nz,?_,?_⟩
  .simp only[List.mem_cons,List.not_mem_nil,or_false]at P
   rcases P with rfl|rfl
   .exact λz=>n z.symm
   .exact λz=>n2 z.symm
  .obtain⟨p',g1,g2,σ⟩:=f.slot 0 _ h0.1
   obtain⟨g4,_⟩:=f.fx (0,p) (by simp)
   rw[g4]at g1;cases g1;exact σ
  .obtain⟨p',g1,g2,σ⟩:=f.slot 1 _ h0.2
   obtain⟨g4,_⟩:=f.fx (1,p2) (by simp)
   rw[g4]at g1;cases g1;exact σ
 cases w with
 |nx ρ'=>
  cases y;intro B' H' C f;obtain⟨S,p2,T,V,W,X,Z,g⟩:=post rfl f;exact q _ B' H' ⟨S,p2,T,V,W,X,Z,g,.non⟩
 |bk ρ'=>cases y
 |ct ρ'=>cases y
 |rt r' ρ'=>
  intro v B' H' C f U;obtain⟨S,p2,T,V,W,X,Z,g⟩:=post rfl f;obtain⟨c,kd⟩:=r';cases kd with
  |fz=>cases y;exact q v B' H' ⟨S,p2,T,V,W,X,Z,g,U⟩
  |new=>
   cases y;obtain⟨p,rfl,a,m,h3,_⟩:=U;exact q _ B' H' ⟨S,p2,T,V,W,X,Z,g,⟨p,rfl,m,a,h3⟩⟩
  |ro=>cases y
  | «at» i=>
   obtain⟨s,a,m,h3,h4⟩:=U;have D:(match ρ'[i]? with
    |some (.own d)=>some (d,true)
    |_=>none)=some r0:=y
   rw[a]at D;cases s with
   |own c'=>
    cases D;obtain⟨p,g1,g2,σ⟩:=f.slot i _ a;have K:=h4;rw[K]at g1;cases g1;exact q _ B' H' ⟨S,p2,T,V,W,X,Z,g,⟨p,rfl,f.iT i _ p a K,g2,σ⟩⟩
   |_=>cases D
theorem AX(h:spJ (fnJ n k b) vs H Q E):vs.length=n:=by
 obtain⟨B,p,p2,us,j,m,ds,s,d1,d2,rfl,d,sub,tB,o,a,r,f,i,e,q⟩:=h;simp only[fnJ]at e;split at e
 .rename_i c;rw[zaw,zaw,i.length];exact c
 .cases e
def iW(i j:Nat)(f:List D->Option ((D×Bool)×D×D))(m:Rho->Option (List RV×Rho)):PM:=λL=>if i=j then none else(ownAt L i).bind λ_=>(ownAt L j).bind λ_=>(m L).bind λx=>(fv x.1 x.2).bind λy=>(ownAt y.2 i).bind λs=>(ownAt y.2 j).bind λs2=>(f (slD s::slD s2::y.1)).map λw=>(kO w.1.1 w.1.2,(y.2.set i<|s.put w.2.1).set j<|s2.put w.2.2)
theorem E8(h:MA t m):ME (jK (spJ f) [] E<|fH (lg i)<|fH (lg j) t) (iW i j f m):=by
 intro F B H J L r0 ρ' Q R e q;unfold iW at e;split at e
 case isTrue=>cases e
 rename_i Y
 obtain⟨s0,e0,e⟩:=zaa e;obtain⟨t0,e0',e⟩:=zaa e
 fail "q1"
 obtain⟨s,e4,e⟩:=zaa e;obtain⟨s2,e5,e⟩:=zaa e;obtain⟨w,e3,e⟩:=zab e;cases e;obtain⟨hs0,ho0⟩:=gm e0;obtain⟨ht0,hp0⟩:=gm e0';obtain⟨hs,ho⟩:=gm e4;obtain⟨hs2,ho2⟩:=gm e5;obtain⟨p,hv,_,_⟩:=R.ownAt hs0 ho0;obtain⟨p2,N,_,_⟩:=R.ownAt ht0 hp0;have hpp:p≠p2:=λz=>Y (R.dist i j s0 t0 p hs0 ho0 ht0 (Sl.lu hp0) hv<|z▸N)
 refine⟨_,hv,_,N,?_⟩
 fail "q3"
 show spJ f (V.ref p::V.ref p2::vs++[]) b Q E;rw[zaR];obtain⟨B2,R2,rp,E2⟩:=Rel.uq n S.weak ρ;obtain⟨p',hv',hB,ow⟩:=R2.ownAt hs ho;rw[hv]at hv';cases hv';obtain⟨p2',P0,O,X⟩:=R2.ownAt hs2 ho2;rw[N]at P0;cases P0;obtain⟨oo,K⟩:=ow.there;obtain⟨T,Z⟩:=X.there;obtain⟨r,d1,d2⟩:=w;refine⟨B2,p,p2,vs,slD s,slD s2,y.1,r,d1,d2,rfl,hpp,R2.sub,R2.cj,hB,O,ow,X,rp,e3,λv B' H' P=>?_⟩
 obtain⟨o1,σ⟩:=P.own.there;obtain⟨o2,g⟩:=P.IJ.there;have hB':=P.nb p (by rw[K];simp) hB
 have U:=P.nb p2 (by rw[Z];simp) O
 let G:Hp:=upd (upd H' p oo) p2 T
 have Gp:G p=some oo:=by show upd (upd H' p oo) p2 T p=_;rw[aj hpp];exact ak
 have I:G p2=some T:=ak;have l:∀c,c≠p->c≠p2->G c=H' c:=λc z D=>by show upd (upd H' p oo) p2 T c=_;rw[aj D,aj z]
 have eH:aA b G:=λc u k=>by
  by_cases z:c=p
  .subst z;rw[K]at k;cases k;exact Gp
  .by_cases D:c=p2
   .subst D;rw[Z]at k;cases k;exact I
   .rw[l c z D];exact P.eH c u z D k
 have sub:aA B' G:=λc u k=>by
  rw[l c (λz=>by rw[z,hB']at k;cases k) λz=>by rw[z,U]at k;cases k];exact P.sub c u k
 have tB:∀c xs,G c=some (.tup xs)->B' c=some (.tup xs):=λc xs k=>by
  by_cases z:c=p
  .subst z;rw[Gp]at k;cases k;exact absurd K (ow.jM xs)
  .by_cases D:c=p2
   .subst D;rw[I]at k;cases k;exact absurd Z (X.jM xs)
   .rw[l c z D]at k;exact P.tB c xs k
 have nz:∀c a u,G c=some (.frz a u)->b c≠none:=λc a u k=>by
  by_cases z:c=p
  .subst z;rw[K];simp
  .by_cases D:c=p2
   .subst D;rw[Z];simp
   .rw[l c z D]at k;exact P.nz c a u k
 have R3:=R2.grow P.eB eH sub P.nb tB nz;have E3:Ext J y.2 B2 b y.2 B' G:=Ext.grow P.eB eH P.nb;obtain⟨R4,E4⟩:=R3.write (o:=o1) hs ho hv ⟨(λxs z=>by rw[z]at σ;exact P.own.jM xs σ),λa u z=>by rw[z]at σ;exact P.own.uz a u σ⟩ (P.own.mono (aA.refl _) λu hu=>by rw[σ]at hu;cases hu;exact ak)
 have Q9:(y.2.set i<|s.put d1)[j]?=some s2:=by rw[zaA Y];exact hs2
 have back:upd (upd G p o1) p2 o2=H':=by
  funext c
  by_cases D:c=p2
  .subst D;rw[ak,g]
  .rw[aj D]
   by_cases z:c=p
   .subst z;rw[ak,σ]
   .rw[aj z,l c z D]
 obtain⟨R5,E5⟩:=R4.write (o:=o2) Q9 ho2 N ⟨(λxs z=>by rw[z]at g;exact P.IJ.jM xs g),λa u z=>by rw[z]at g;exact P.IJ.uz a u g⟩ (P.IJ.mono (aA.refl _) λu hu=>by rw[g]at hu;cases hu;exact ak)
 rw[back]at R5 E5;have EE:=C.trans (E2.trans<|E3.trans<|E4.trans E5);obtain⟨d,o⟩:=r;cases o with
 |false=>
  have pv:=P.val;exact q v B' H' EE R5 pv λp z=>by cases z
 |true=>
  obtain⟨p3,rfl,h1,h2,h3⟩:∃p,v=.ref p/\b p=none/\B' p=none/\Own B' H' p d:=P.val;have fr:=R2.free h1;refine q _ B' H' EE R5 ⟨p3,rfl,h2,fr.2.1,h3,λj' t h4 h5 M=>?_⟩ λp' _ z=>by cases z;exact C.live p3 h1
  rcases get_set h4 with⟨rfl,_,_⟩|⟨_,h4⟩
  .rw[N]at M
   cases M;rw[h1]at Z;cases Z
  .rcases get_set h4 with⟨rfl,_,_⟩|⟨_,h4⟩
   .rw[hv]at M
    cases M;rw[h1]at K;cases K
   .exact fr.2.2 j' t h4 h5 M
end
end Mir
namespace L2
open PySem.Spec PyProof.Rows
end L2
namespace Mir
open L2
end Mir
namespace L2
open PySem.Spec PyProof.Rows PySem.W
def excAt(e:Addr)(cls:Value):Heap->Prop:=λh=>∃j,h.get? e=some j/\j.cls=cls
end L2
namespace Mir
open L2
end Mir
namespace L2
def Ra(e:Addr)(cls:Value)(dx:Addr):Heap->Prop:=λh=>∃j vs,h.get? e=some j/\j.cls=cls/\j.dict=some dx/\j.data=.fields vs
end L2
namespace Mir
open L2
class Zl where
 cl:Str->Value
instance (priority:=10) zl0:Zl:=⟨λ_=>.none⟩
section
variable [Zc] [Zl]
inductive SV where
 |pl (d:D)|lc (k:Nat)|tp (xs:List SV)
inductive Cl where
 |dat (d:D)|obj (C:Addr) (fs:List (Str×SV))|lst (xs:List SV)|dct (es:List (Key×SV))|exc (c:Str) (n:Option Int)
structure SS where
 S:List (Option Cl)
 t:List (Option SV)
mutual
inductive dj(A:List Addr)(B:Hp):V->SV->Prop
 |pl {v:V} {d:D}:Rep B v d->dj A B v (.pl d)
 |lc {k:Nat} {a:Addr}:A[k]?=some a->dj A B (.ref a) (.lc k)
 |tp {t:Addr} {vs:List V} {xs:List SV}:B t=some (.tup vs)->bE A B vs xs->dj A B (.ref t) (.tp xs)
inductive bE(A:List Addr)(B:Hp):List V->List SV->Prop
 |nil:bE A B [] []
 |cons {v:V} {x:SV} {vs:List V} {xs:List SV}:dj A B v x->bE A B vs xs->bE A B (v::vs) (x::xs)
end
def Gro(A A':List Addr):Prop:=∀(k:Nat) (a:Addr),A[k]?=some a->A'[k]?=some a
def Gro.refl(A:List Addr):Gro A A:=λ_ _ h=>h
def Gro.trans(a:Gro A l)(b:Gro l M):Gro A M:=λk x h=>b k x (a k x h)
theorem Gro.app(A N:List Addr):Gro A (A++N):=λk a h=>by rw[zax (zac h).1];exact h
mutual
theorem dj.mono(g:Gro A A')(e:aA B B'):∀{v:V} {x:SV},dj A B v x->dj A' B' v x
 |_,_,.pl r=>.pl (r.mono e)
 |_,_,.lc h=>.lc (g _ _ h)
 |_,_,.tp h r=>.tp (e _ _ h) (bE.mono g e r)
theorem bE.mono(g:Gro A A')(e:aA B B'):∀{v:List V} {x:List SV},bE A B v x->bE A' B' v x
 |_,_,.nil=>.nil
 |_,_,.cons a b=>.cons (dj.mono g e a) (bE.mono g e b)
end
theorem bE.length:∀{v:List V} {x:List SV},bE A B v x->v.length=x.length
 |_,_,.nil=>rfl
 |_,_,.cons _ b=>by rw[zaw,zaw,bE.length b]
theorem bE.get:∀{v:List V} {x:List SV} (i:Nat),bE A B v x->∀c,x[i]?=some c->∃y,v[i]?=some y/\dj A B y c
 |_,_,i,.nil,c,h=>by simp at h
 |_,_,0,.cons a _,c,h=>by simp at h;subst h;exact⟨_,rfl,a⟩
 |_,_,i+1,.cons _ b,c,h=>by
  exact bE.get i b c h
inductive jr(A:List Addr)(B:Hp):List (Str×V)->List (Str×SV)->Prop
 |nil:jr A B [] []
 |cons {f:Str} {v:V} {x:SV} {gs:List (Str×V)} {fs:List (Str×SV)}:dj A B v x->jr A B gs fs->jr A B ((f,v)::gs) ((f,x)::fs)
theorem jr.mono(g:Gro A A')(e:aA B B'):∀{v:List<|Str×V} {x:List<|Str×SV},jr A B v x->jr A' B' v x
 |_,_,.nil=>.nil
 |_,_,.cons a b=>.cons (a.mono g e) (jr.mono g e b)
inductive js(A:List Addr)(B:Hp):List (Key×V)->List (Key×SV)->Prop
 |nil:js A B [] []
 |cons {f:Key} {v:V} {x:SV} {gs:List (Key×V)} {fs:List (Key×SV)}:dj A B v x->js A B gs fs->js A B ((f,v)::gs) ((f,x)::fs)
theorem js.mono(g:Gro A A')(e:aA B B'):∀{v:List<|Key×V} {x:List<|Key×SV},js A B v x->js A' B' v x
 |_,_,.nil=>.nil
 |_,_,.cons a b=>.cons (a.mono g e) (js.mono g e b)
def Mx:HO->Prop
 | .lst _=>True
 | .dK _=>True
 | .ins _ _ _=>True
 | .ext _=>True
 |_=>False
def MxF(o:HO):Prop:=Mx o\/∃ob φ,o=.frz ob (.ext φ)
def IL(H:Hp)(a:Addr)(φ:Heap->Prop):Prop:=H a=some (.ext φ)\/∃o,H a=some (.frz o<|.ext φ)
def IL.mono(h:IL H a φ)(k:∀o,H a=some o->H' a=some o):IL H' a φ:=h.elim (λh=>.inl<|k _ h) λ⟨o,h⟩=>.inr ⟨o,k _ h⟩
theorem IM : ¬MxF (.own x):=λz=>by rcases z with z|⟨_,_,z⟩;exact z;cases z
theorem NB : ¬MxF (.xd fs):=λz=>by rcases z with z|⟨_,_,z⟩;exact z;cases z
inductive dD(A:List Addr)(B H:Hp)(a:Addr):Cl->Prop
 |dat {d:D}:Own B H a d->dD A B H a (.dat d)
 |obj {C dx:Addr} {gs:List (Str×V)} {fs:List (Str×SV)}:H a=some (.ins C dx gs)->H dx=some (.own a)->jr A B gs fs->dD A B H a (.obj C fs)
 |lst {vs:List V} {xs:List SV}:H a=some (.lst vs)->bE A B vs xs->dD A B H a (.lst xs)
 |dct {V0:List (Key×V)} {es:List (Key×SV)}:H a=some (.dK V0)->js A B V0 es->dD A B H a (.dct es)
 |exc {c:Str} {n:Option Int} {φ:Heap->Prop}:IL H a φ->(∀h,φ h->excAt a (Zl.cl c) h)->(∀k,n=some k->∃dx,(∀h,φ h->Ra a (Zl.cl c) dx h)/\H dx=some (.xd [("by",.int k)]))->dD A B H a (.exc c n)
theorem dD.mono(h:dD A B H a c)(g:Gro A A')(e:aA B B')(k:∀o,H a=some o->H' a=some o)(l:∀q o,H q=some o->¬MxF o->H' q=some o):dD A' B' H' a c:=by
 cases h with
 |dat h=>exact .dat (h.mono e k)
 |obj b d h3=>exact .obj (k _ b) (l _ _ d IM) (h3.mono g e)
 |lst b d=>exact .lst (k _ b) (d.mono g e)
 |dct b d=>exact .dct (k _ b) (d.mono g e)
 |exc b d h3=>exact .exc (b.mono k) d λn e=>(let⟨dx,f,p2⟩:=h3 n e;⟨dx,f,l _ _ p2 NB⟩)
structure StO(A:List Addr)(B H:Hp)(S:List<|Option Cl):Prop where
 len:A.length=S.length
 nd:A.Nodup
 dis:∀a∈A,B a=none
 mx:∀a∈A,∃o,H a=some o/\MxF o
 cell:∀(k:Nat) (c:Cl) (a:Addr),S[k]?=some (some c)->A[k]?=some a->dD A B H a c
structure FrN where
 B:Hp
 H:Hp
 io:List Addr
 Z:Addr->Prop
structure aW(G:FrN)(A:List Addr)(B H:Hp)(J:St)(s:SS):Prop where
 sub:aA B H
 sB:aA G.B B
 cj:∀q xs,H q=some (.tup xs)->B q=some (.tup xs)
 kept:∀q o,G.H q=some o->q∉G.io->H q=some o
 nB:∀q,G.H q≠none->G.B q=none->B q=none
 pre:Gro G.io A
 fresh:∀a∈A,a∈G.io\/G.H a=none
 st:StO A B H s.S
 len:s.t.length=J.length
 slot:∀(i:Nat) (x:SV),s.t[i]?=some (some x)->∃v,J[i]?=some (some v)/\dj A B v x
 nz:∀q o u,H q=some (.frz o u)->G.Z q
section
variable{G:FrN}{A A':List Addr}{B H B' H':Hp}{J:St}{s:SS}
theorem StO.mono(O:StO A B H s.S)(eB:aA B B')(eH:aA H H')(nb:∀q,H q≠none->B q=none->B' q=none):StO A B' H' s.S where
 len:=O.len
 nd:=O.nd
 dis:=λa ha=>by obtain⟨o,h,_⟩:=O.mx a ha;exact nb a (by rw[h];simp) (O.dis a ha)
 mx:=λa ha=>by obtain⟨o,h,m⟩:=O.mx a ha;exact⟨o,eH _ _ h,m⟩
 cell:=λk c a b d=>(O.cell k c a b d).mono (Gro.refl _) eB (λo h=>eH _ _ h) λq o h _=>eH _ _ h
theorem aW.grow(R:aW G A B H J s)(eB:aA B B')(eH:aA H H')(sub:aA B' H')(nb:∀q,H q≠none->B q=none->B' q=none)(tB:∀q xs,H' q=some (.tup xs)->B' q=some (.tup xs))(nz:∀q o u,H' q=some (.frz o u)->G.Z q):aW G A B' H' J s where
 sub:=sub
 sB:=R.sB.trans eB
 cj:=tB
 kept:=λq o h n=>eH _ _ (R.kept q o h n)
 nB:=λq h z=>by
  have d:=R.nB q h z
  by_cases b:H q=none
  .by_cases hi:q∈G.io
   .obtain⟨k,hk⟩:=List.mem_iff_getElem?.mp hi
    obtain⟨o,a,_⟩:=R.st.mx q (zaj<|R.pre k q hk);rw[b]at a;cases a
   .cases h3:G.H q with
    |none=>exact absurd h3 h
    |some o=>rw[R.kept q o h3 hi]at b;cases b
  .exact nb q b d
 pre:=R.pre
 fresh:=R.fresh
 st:=R.st.mono eB eH nb
 len:=R.len
 slot:=λi x h=>by obtain⟨v,c,a⟩:=R.slot i x h;exact⟨v,c,a.mono (Gro.refl _) eB⟩
 nz:=nz
theorem aW.uB(R:aW G A B H J s)(h:H p=none):G.H p=none/\p∉A/\B p=none:=by
 have b:p∉A:=λz=>by obtain⟨o,a,_⟩:=R.st.mx p z;rw[h]at a;cases a
 refine⟨?_,b,?_⟩
 .cases h3:G.H p with
  |none=>rfl
  |some o=>
   have:p∉G.io:=λz=>by
    obtain⟨k,hk⟩:=List.mem_iff_getElem?.mp z;exact b (zaj<|R.pre k p hk)
   rw[R.kept p o h3 this]at h;cases h
 .cases h3:B p with
  |none=>rfl
  |some o=>rw[R.sub p o h3]at h;cases h
theorem aW.write(R:aW G A B H J s)(hk:A[k]?=some a)(l:Mx o)(ok:dD A B (upd H a o) a c):aW G A B (upd H a o) J ⟨s.S.set k<|some c,s.t⟩:=by
 have ha:=zaj hk;have r:=R.st.dis a ha;obtain⟨o0,m,v⟩:=R.st.mx a ha;have kl:=(zac hk).1;refine⟨λq u h=>?_,R.sB,λq xs h=>?_,λq u h n=>?_,R.nB,R.pre,R.fresh,⟨?_,R.st.nd,R.st.dis,λb hb=>?_,λj d b p i=>?_⟩,R.len,R.slot,λq u w h=>?_⟩
 .rw[aj λz=>by rw[z,r]at h;cases h];exact R.sub q u h
 .by_cases z:q=a
  .subst z;rw[ak]at h;cases h;cases l
  .rw[aj z]at h;exact R.cj q xs h
 .have z:q≠a:=λz=>by
   subst z;rcases R.fresh q ha with g|g
   .exact n g
   .rw[g]at h;cases h
  rw[aj z];exact R.kept q u h n
 .show A.length=(s.S.set k<|some c).length
  rw[zaM];exact R.st.len
 .by_cases z:b=a
  .subst z;exact⟨o,ak,.inl l⟩
  .rw[aj z];exact R.st.mx b hb
 .have f:=p
  by_cases z:j=k
  .subst z
   rw[hk]at i;cases i
   rw[zav (by rw[<-R.st.len];exact kl)]at f
   cases f;exact ok
  .rw[zaA λe=>z e.symm]at f
   have nb:b≠a:=λe=>by
    subst e;exact z ((List.getElem?_inj (zac i).1 R.st.nd).mp<|i.trans hk.symm)
   refine(R.st.cell j d b f i).mono (Gro.refl _) (aA.refl _) (λu h=>by rw[aj nb];exact h) λq o h hm=>?_
   rw[aj λe=>by subst e;rw[m]at h;cases h;exact hm v];exact h
 .by_cases z:q=a
  .subst z;rw[ak]at h;cases h;cases l
  .rw[aj z]at h;exact R.nz q u w h
theorem aW.take(R:aW G A B H J s)(I:G.H p=none)(g:p∉A)(l:B p=none)(M:H p=some o)(O:Mx o)(ok:dD (A++[p]) B H p c):aW G (A++[p]) B H J ⟨s.S++[some c],s.t⟩:=by
 refine⟨R.sub,R.sB,R.cj,R.kept,R.nB,R.pre.trans<|Gro.app _ _,λb hb=>?_,⟨?_,?_,λb hb=>?_,λb hb=>?_,λj d b f e=>?_⟩,R.len,λi x h=>?_,R.nz⟩
 .rcases zae hb with h|h
  .exact R.fresh b h
  .simp only[List.mem_singleton]at h;subst h;exact .inr I
 .show(A++[p]).length=(s.S++[some c]).length
  rw[zau,zau,R.st.len];rfl
 .rw[List.nodup_append]
  refine⟨R.st.nd,by simp,λx q y k=>?_⟩
  simp only[List.mem_singleton]at k;subst k
  exact λz=>g (z▸q)
 .rcases zae hb with h|h
  .exact R.st.dis b h
  .simp only[List.mem_singleton]at h;subst h;exact l
 .rcases zae hb with h|h
  .exact R.st.mx b h
  .simp only[List.mem_singleton]at h;subst h;exact⟨o,M,.inl O⟩
 .have a:=f
  by_cases z:j<s.S.length
  .rw[zax z]at a
   rw[zax (by rw[R.st.len];exact z)]at e
   exact(R.st.cell j d b a e).mono (Gro.app _ _) (aA.refl _) (λ_ h=>h) λ_ _ h _=>h
  .rw[zaN<|zba z]at a
   rw[zaN (by rw[R.st.len];exact zba z),R.st.len]at e
   cases m:j-s.S.length with
   |zero=>
    rw[m]at a e;simp at a e;subst a e;exact ok
   |succ n=>rw[m]at a;simp at a
 .obtain⟨v,f,e⟩:=R.slot i x h
  exact⟨v,f,e.mono (Gro.app _ _)<|aA.refl _⟩
theorem aW.rg(R:aW G A B H J s)(g:H p=none):aW G A (upd B p<|.tup xs) (upd H p<|.tup xs) J s/\aA B (upd B p<|.tup xs):=by
 obtain⟨_,_,a⟩:=R.uB g;have eB:aA B (upd B p<|.tup xs):=λq u h=>by rw[aj λz=>by rw[z,a]at h;cases h];exact h
 refine⟨R.grow eB (λq u h=>by rw[aj λz=>by rw[z,g]at h;cases h];exact h) (λq u h=>?_) (λq h z=>?_) (λq b h=>?_) λq u w h=>?_,eB⟩
 .by_cases z:q=p
  .subst z;rw[ak]at h⊢;exact h
  .rw[aj z]at h⊢;exact R.sub q u h
 .rw[aj λe=>by rw[e]at h;exact h g];exact z
 .by_cases z:q=p
  .subst z;rw[ak]at h⊢;exact h
  .rw[aj z]at h⊢;exact R.cj q b h
 .by_cases z:q=p
  .subst z;rw[ak]at h;cases h
  .rw[aj z]at h;exact R.nz q u w h
theorem aW.set(R:aW G A B H J s)(h:i<s.t.length)(g:dj A B v x):aW G A B H (J.set i<|some v) ⟨s.S,s.t.set i<|some x⟩:=by
 refine⟨R.sub,R.sB,R.cj,R.kept,R.nB,R.pre,R.fresh,R.st,?_,λj y c=>?_,R.nz⟩
 .show(s.t.set i<|some x).length=_
  rw[zaM,zaM];exact R.len
 .have a:=c
  by_cases z:j=i
  .subst z
   rw[zav h]at a;cases a;exact⟨v,zav<|R.len▸h,g⟩
  .rw[zaA λe=>z e.symm]at a
   rw[zaA λe=>z e.symm]
   exact R.slot j y a
mutual
noncomputable def blV(n:Nat):SV->Bool
 | .pl _=>true
 | .lc k=>decide (k<n)
 | .tp xs=>iX n xs
noncomputable def iX(n:Nat):List SV->Bool
 | []=>true
 |x::xs=>blV n x&&iX n xs
end
theorem wX(h:A[k]?=some a)(hk:k<n):(A.take n)[k]?=some a:=by rw[List.getElem?_take,if_pos hk];exact h
mutual
theorem dj.take(n:Nat):∀{v:V} {x:SV},dj A B v x->blV n x=true->dj (A.take n) B v x
 |_,_,.pl r,_=>.pl r
 |_,_,.lc h,e=>.lc (wX h (by simpa[blV]using e))
 |_,_,.tp h r,e=>.tp h (bE.take n r (by simpa[blV]using e))
theorem bE.take(n:Nat):∀{v:List V} {x:List SV},bE A B v x->iX n x=true->bE (A.take n) B v x
 |_,_,.nil,_=>.nil
 |_,_,.cons a b,e=>by
  simp only[iX,Bool.and_eq_true]at e;exact .cons (dj.take n a e.1) (bE.take n b e.2)
end
def zt{α:Type}(n:Nat):List (α×SV)->Bool
 | []=>true
 |x::xs=>blV n x.2&&zt n xs
theorem jr.take(n:Nat):∀{v:List<|Str×V} {x:List<|Str×SV},jr A B v x->zt n x=true->jr (A.take n) B v x
 |_,_,.nil,_=>.nil
 |_,_,.cons a b,e=>by
  simp only[zt,Bool.and_eq_true]at e;exact .cons (a.take n e.1) (jr.take n b e.2)
theorem js.take(n:Nat):∀{v:List<|Key×V} {x:List<|Key×SV},js A B v x->zt n x=true->js (A.take n) B v x
 |_,_,.nil,_=>.nil
 |_,_,.cons a b,e=>by
  simp only[zt,Bool.and_eq_true]at e;exact .cons (a.take n e.1) (js.take n b e.2)
def blC(n:Nat):Cl->Bool
 | .dat _=>true
 | .obj _ fs=>zt n fs
 | .lst xs=>iX n xs
 | .dct es=>zt n es
 | .exc _ _=>true
theorem dD.take(n:Nat)(h:dD A B H a c)(e:blC n c=true):dD (A.take n) B H a c:=by
 cases h with
 |dat h=>exact .dat h
 |obj b d h3=>exact .obj b d (h3.take n e)
 |lst b d=>exact .lst b (d.take n e)
 |dct b d=>exact .dct b (d.take n e)
 |exc b d h3=>exact .exc b d h3
def gcC(n:Nat)(c:Option Cl):Option Cl:=match c with
 |some c=>if blC n c=true then some c else none
 |none=>none
def gcV(n:Nat)(x:Option SV):Option SV:=match x with
 |some x=>if blV n x=true then some x else none
 |none=>none
def gcS(n:Nat)(S:List<|Option Cl):List (Option Cl):=(S.take n).map (gcC n)
def gcT(n:Nat)(t:List<|Option SV):List (Option SV):=t.map (gcV n)
def gc(n:Nat)(s:SS):SS:=⟨gcS n s.S,gcT n s.t⟩
theorem NC(h:gcC n c=some d):c=some d/\blC n d=true:=by
 cases c with
 |none=>cases h
 |some c=>
  simp only[gcC]at h;split at h
  .rename_i e;cases h;exact⟨rfl,e⟩
  .cases h
theorem ND(h:gcV n c=some d):c=some d/\blV n d=true:=by
 cases c with
 |none=>cases h
 |some c=>
  simp only[gcV]at h;split at h
  .rename_i e;cases h;exact⟨rfl,e⟩
  .cases h
theorem StO.gc(O:StO A B H S)(n:Nat):StO (A.take n) B H (gcS n S):=by
 refine⟨?_,O.nd.sublist<|List.take_sublist _ _,λa ha=>O.dis a<|List.mem_of_mem_take ha,λa ha=>O.mx a<|List.mem_of_mem_take ha,λk c a d b=>?_⟩
 .unfold gcS;rw[zal,List.length_take,List.length_take,O.len]
 .unfold gcS at d
  rw[zao]at d;obtain⟨c',h3,h4⟩:=zab d;obtain⟨rfl,e⟩:=NC h4;rw[List.getElem?_take]at h3 b;split at b
  .rename_i hk
   rw[if_pos hk]at h3;exact(O.cell k c a h3 b).take n e
  .cases b
theorem aW.gc(R:aW G A B H J s)(hn:G.io.length<=n):aW G (A.take n) B H J (gc n s):=by
 refine⟨R.sub,R.sB,R.cj,R.kept,R.nB,λk a h=>?_,λa ha=>R.fresh a<|List.mem_of_mem_take ha,R.st.gc n,?_,λi x h=>?_,R.nz⟩
 .exact wX (R.pre k a h) (zaF (zac h).1 hn)
 .show(gcT n s.t).length=_
  unfold gcT;rw[zal];exact R.len
 .have h':(gcT n s.t)[i]?=some (some x):=h
  unfold gcT at h';rw[zao]at h';obtain⟨c',h3,h4⟩:=zab h';obtain⟨rfl,b⟩:=ND h4;obtain⟨v,c,d⟩:=R.slot i x h3;exact⟨v,c,d.take n b⟩
def E9(n:Nat)(S:List<|Option Cl):Bool:=(S.take n).all λc=>match c with
 |some c=>blC n c
 |none=>true
def Lf(n:Nat)(t:List<|Option SV)(i:Nat):Bool:=match t[i]? with
 |some (some x)=>blV n x
 |_=>true
def gcE(n:Nat)(kp:List Nat)(s:SS):SS:=if(E9 n s.S&&kp.all (Lf n s.t))=true then gc n s else s
theorem aW.gcE(R:aW G A B H J s)(hn:G.io.length<=n):∃A',aW G A' B H J (gcE n kp s):=by
 unfold Mir.gcE;split
 .exact⟨_,R.gc hn⟩
 .exact⟨_,R⟩
theorem Gro.len(g:Gro A A'):A.length<=A'.length:=by
 cases h:A.length with
 |zero=>lia
 |succ k=>
  have hk:k<A.length:=by lia
  have:=g k A[k] (zaC hk);exact(zac this).1
end
mutual
noncomputable def rdV(S:List<|Option Cl):SV->Option D
 | .pl d=>some d
 | .lc k=>match S[k]? with
  |some (some (.dat d))=>some d
  |_=>none
 | .tp xs=>(oD S xs).map .tuple
noncomputable def oD(S:List<|Option Cl):List SV->Option (List D)
 | []=>some []
 |x::xs=>(rdV S x).bind λd=>(oD S xs).map λds=>d::ds
end
section
variable{G:FrN}{A:List Addr}{B H:Hp}{J:St}{s:SS}
mutual
theorem AY(O:StO A B H s.S)(sub:aA B H):∀{v:V} {x:SV} {d:D},dj A B v x->rdV s.S x=some d->Rep H v d
 |_,_,d,.pl r,e=>by
  simp only[rdV]at e;cases e;exact r.mono sub
 |_,_,d,.lc (k:=k) h,e=>by
  simp only[rdV]at e;split at e
  .rename_i c b
   cases e;cases O.cell k _ _ b h with
   |dat o=>exact o.rep sub
  .cases e
 |_,_,d,.tp h r,e=>by
  simp only[rdV]at e;obtain⟨ds,a,rfl⟩:=zab e;exact .tup (sub _ _ h) (pM O sub r a)
theorem pM(O:StO A B H s.S)(sub:aA B H):∀{v:List V} {x:List SV} {d:List D},bE A B v x->oD s.S x=some d->aJ H v d
 |_,_,d,.nil,e=>by
  simp only[oD]at e;cases e;exact .nil
 |_,_,d,.cons a b,e=>by
  simp only[oD]at e;obtain⟨c,f,e⟩:=zaa e;obtain⟨ds,h,rfl⟩:=zab e;exact .cons (AY O sub a f) (pM O sub b h)
end
def CC(S:List<|Option Cl):Option SV->Sl
 |none=>.no
 |some x=>match rdV S x with
  |some d=>.fz d
  |none=>.no
def vw(s:SS):Rho:=s.t.map (CC s.S)
noncomputable def slC:Option SV->Sl
 |some (.pl d)=>.fz d
 |_=>.no
def vwC(s:SS):Rho:=s.t.map slC
theorem CD(S:List<|Option Cl)(y:Option SV):CC S y=.no\/∃d x,CC S y=.fz d/\y=some x/\rdV S x=some d:=by
 cases y with
 |none=>exact .inl rfl
 |some x=>
  cases h:rdV S x with
  |none=>exact .inl (by simp only[CC,h])
  |some d=>exact .inr ⟨d,x,by simp only[CC,h],rfl,h⟩
theorem Fb(y:Option SV):slC y=.no\/∃d,slC y=.fz d/\y=some (.pl d):=by
 cases y with
 |none=>exact .inl rfl
 |some x=>cases x with
  |pl d=>exact .inr ⟨d,rfl,rfl⟩
  |lc _=>exact .inl rfl
  |tp _=>exact .inl rfl
theorem zu{i:Nat}(h:(vw s)[i]?=some x):x=.no\/∃d y,x=.fz d/\s.t[i]?=some (some y)/\rdV s.S y=some d:=by
 unfold vw at h;rw[zao]at h;obtain⟨y,b,rfl⟩:=zab h;rcases CD s.S y with e|⟨d,z,e,rfl,a⟩
 .exact .inl e
 .exact .inr ⟨d,z,e,b,a⟩
theorem uC{i:Nat}(h:(vwC s)[i]?=some x):x=.no\/∃d,x=.fz d/\s.t[i]?=some (some<|.pl d):=by
 unfold vwC at h;rw[zao]at h;obtain⟨y,a,rfl⟩:=zab h;rcases Fb y with e|⟨d,e,rfl⟩
 .exact .inl e
 .exact .inr ⟨d,e,a⟩
theorem aW.opn(R:aW G A B H J s):Rel ⟨H,H,[],G.Z⟩ H H J (vw s):=by
 have nk:∀(i:Nat) (x:Sl),(vw s)[i]?=some x->x.isRef=true->False:=λi x h e=>by
  rcases zu h with rfl|⟨d,y,rfl,_⟩<;>cases e
 refine⟨aA.refl _,aA.refl _,λ_ _ h _=>h,λ_ h z=>absurd z h,?_,λi x h=>?_,λi j x t p a b=>(nk i x a<|Sl.lu b).elim,λi d p h=>(nk i _ h rfl).elim,(λx c=>by cases c),λi d h=>(nk i _ h rfl).elim,λ_ _ h=>h,λi h=>?_,R.nz⟩
 .unfold vw;rw[zal];exact R.len
 .rcases zu h with rfl|⟨d,y,rfl,a,b⟩
  .trivial
  .obtain⟨v,h3,h4⟩:=R.slot i y a
   exact⟨v,h3,AY R.st R.sub h4 b⟩
 .rcases zu h with z|⟨d,y,z,_⟩<;>cases z
theorem aW.cls(R:aW G A B H J s):Rel ⟨B,H,[],G.Z⟩ B H J (vwC s):=by
 have nk:∀(i:Nat) (x:Sl),(vwC s)[i]?=some x->x.isRef=true->False:=λi x h e=>by
  rcases uC h with rfl|⟨d,rfl,_⟩<;>cases e
 refine⟨R.sub,aA.refl _,λ_ _ h _=>h,λ_ _ z=>z,?_,λi x h=>?_,λi j x t p a b=>(nk i x a<|Sl.lu b).elim,λi d p h=>(nk i _ h rfl).elim,(λx c=>by cases c),λi d h=>(nk i _ h rfl).elim,R.cj,λi h=>?_,R.nz⟩
 .unfold vwC;rw[zal];exact R.len
 .rcases uC h with rfl|⟨d,rfl,a⟩
  .trivial
  .obtain⟨v,h3,h4⟩:=R.slot i _ a
   cases h4 with
   |pl r=>exact⟨v,h3,r⟩
 .rcases uC h with z|⟨d,z,_⟩<;>cases z
def tbu(B H:Hp):Hp:=λq=>match B q with
 |some o=>some o
 |none=>match H q with
  |some (.tup xs)=>some (.tup xs)
  |_=>none
theorem lU:aA B (tbu B H):=λq o h=>by unfold tbu;rw[h]
theorem lV(sub:aA B H)(h:H q=some (.tup xs)):tbu B H q=some (.tup xs):=by
 unfold tbu;cases hb:B q with
 |none=>rw[h]
 |some o=>
  have:=sub q o hb;rw[h]at this;exact this.symm
theorem mR(h:tbu B H q=some o):B q=some o\/(B q=none/\∃xs,o=.tup xs/\H q=some (.tup xs)):=by
 unfold tbu at h;cases hb:B q with
 |some o'=>rw[hb]at h;exact .inl h
 |none=>
  rw[hb]at h;refine .inr ⟨rfl,?_⟩;dsimp only at h;split at h
  .rename_i xs a;cases h;exact⟨xs,rfl,a⟩
  .cases h
theorem aW.back(R:aW G A B H J s)(l:Rel ⟨H,H,[],G.Z⟩ I g J L):aW G A (tbu B g) g J s/\aA B (tbu B g)/\aA H g/\∀q xs,I q=some (.tup xs)->tbu B g q=some (.tup xs):=by
 have eH:=λq o h=>l.sH q o h λx c=>by cases c
 have a:=R.sub.trans eH;refine⟨R.grow lU eH (λq o h=>?_) (λq h z=>?_) (λq xs h=>lV a h) l.nz,lU,eH,λq xs h=>lV a<|l.sub _ _ h⟩
 .rcases mR h with h|⟨_,xs,rfl,h'⟩
  .exact a q o h
  .exact h'
 .cases b:tbu B g q with
  |none=>rfl
  |some o=>
   rcases mR b with h3|⟨_,xs,rfl,h3⟩
   .rw[z]at h3;cases h3
   .cases h4:H q with
    |none=>exact absurd h4 h
    |some u=>
     have:=eH q u h4;rw[h3]at this;cases this;rw[R.cj q xs h4]at z;cases z
theorem aW.P1(R:aW G A B H J s)(g:Rel ⟨B,H,[],G.Z⟩ l I J L):aW G A l I J s/\aA B l/\aA H I:=by
 have eH:=λq o h=>g.sH q o h λx a=>by cases a
 exact⟨R.grow g.sB eH g.sub (λq h z=>g.nB q h z) g.cj g.nz,g.sB,eH⟩
end
theorem Own.cX(k:∀q xs,B q=some (.tup xs)->B' q=some (.tup xs))(h:Own B H p d)(e:cF d true=true):Own B' H p d:=by
 cases h with
 |lst h r=>exact .lst h (r.cX k e)
 |dct h r=>exact .dct h (r.cX k e)
theorem Own.mx(h:Own B H p d):∃o,H p=some o/\Mx o:=by
 cases h with
 |lst h r=>exact⟨_,h,trivial⟩
 |dct h r=>exact⟨_,h,trivial⟩
structure Xc where
 c:Str
 by_:Option Int
inductive RR(α:Type) where
 |ok (v : α) (s:SS)|er (x:Xc) (s:SS)
abbrev MN(α:Type):=SS->Option (RR α)
abbrev EN:=MN SV
noncomputable def bN{α M:Type}(m:MN α)(k : α->MN M):MN M:=λs=>match m s with
 |some (.ok v s')=>k v s'
 |some (.er x s')=>some (.er x s')
 |none=>none
abbrev WX:=Xc->St->Hp->Prop
abbrev RL(M α:Type):=List Addr->Hp->M->α->Prop
def ROk{α M:Type}(G:FrN)(A:List Addr)(B:Hp)(J:St)(W:WX)(O:RL M α)(Q : M->Hp->Prop):RR α->Prop
 | .ok v s'=>∀x A' B' H',Gro A A'->aA B B'->aW G A' B' H' J s'->O A' B' x v->Q x H'
 | .er y s'=>∀A' B' H',aW G A' B' H' J s'->W y J H'
def NM{α M:Type}(W:WX)(O:RL M α)(t:St->Hp->(M->Hp->Prop)->Prop)(m:MN α):Prop :=
 ∀(G:FrN) (A:List Addr) (B H:Hp) (J:St) (s:SS) (r:RR α) (Q : M->Hp->Prop),aW G A B H J s->m s=some r->ROk G A B J W O Q r->t J H Q
abbrev NE(W:WX)(t:TE)(m:EN):Prop:=NM W dj t m
abbrev NT(W:WX)(t:TT)(m:MN Bool):Prop:=NM W (λ_ _ (b c:Bool)=>b=c) t m
abbrev NA(W:WX)(t:TA)(m:MN<|List SV):Prop:=NM W bE t m
section
variable{W:WX}{G:FrN}{A:List Addr}{B H:Hp}{J:St}{s:SS}
theorem ROk.up(q:ROk G A B J W M Q r)(g:Gro A l)(e:aA B I):ROk G l I J W M Q r:=by
 cases r with
 |ok v s'=>exact λx A' B' H' b a=>q x A' B' H' (g.trans b) (e.trans a)
 |er y s'=>exact q
theorem fF(h:NM W I t m)(R:aW G A B H J s)(e:bN m k s=some r)(q:ROk G A B J W l Q r)
  (c:∀x v A' B' H' s',Gro A A'->aA B B'->aW G A' B' H' J s'->I A' B' x v->k v s'=some r->ROk G A' B' J W l Q r->C x H'):t J H C:=by
 unfold bN at e;split at e
 .rename_i v s' a
  exact h G A B H J s _ C R a λx A' B' H' g eB b V=>c x v A' B' H' s' g eB b V e (q.up g eB)
 .rename_i y s' a
  cases e;exact h G A B H J s _ C R a q
 .cases e
noncomputable def newD(d:D)(s:SS):RR SV:=.ok (.lc s.S.length) ⟨s.S++[some<|.dat d],s.t⟩
end
section
variable{W:WX}
def nO(m:PM):EN:=λs=>(m<|vw s).bind λx=>match x.1 with
 |(d,.fz)=>if ee d=true then some (.ok (.pl d) s)else none
 |(d,.new)=>if cF d true=true then some (newD d s)else none
 |_=>none
theorem Rb(h:ME t m):NE W t (nO m):=by
 intro G A B H J s r Q R e q;obtain⟨x,E,e⟩:=zaa e;refine h _ H H J (vw s) x.1 x.2 _ R.opn E λv S b T C u V=>?_
 obtain⟨R2,eB,eH,w⟩:=R.back C;obtain⟨⟨d,k⟩,P⟩:=x;cases k with
 |fz=>
  dsimp only at e;split at e
  .rename_i n
   cases e;have c:=u;exact q v A _ b (Gro.refl _) eB R2 (.pl<|c.cX w n)
  .cases e
 |new=>
  dsimp only at e;split at e
  .rename_i n
   cases e;obtain⟨p,rfl,X,ρ,y,_⟩:=u;have i:=ρ;obtain⟨g1,F,σ⟩:=R.uB i;have a:=y.cX w n;obtain⟨o,ho,N⟩:=a.mx;have f:tbu B b p=none:=by
    cases K:tbu B b p with
    |none=>rfl
    |some o'=>
     rcases mR K with h3|⟨_,xs,rfl,h3⟩
     .rw[σ]at h3;cases h3
     .exact absurd h3 (y.jM xs)
   have D:=R2.take g1 F f ho N (.dat a);refine q _ _ _ b (Gro.app _ _) eB D (.lc ?_);rw[<-R.st.len];exact List.getElem?_concat_length
  .cases e
 |ro=>cases e
 | «at» j=>cases e
def nTo(m:Rho->Option (Bool×Rho)):MN Bool:=λs=>(m<|vw s).map λx=>.ok x.1 s
theorem Rc(h:MT t m):NT W t (nTo m):=by
 intro G A B H J s r Q R e q;obtain⟨x,c,e⟩:=zab e;cases e;refine h _ H H J (vw s) x.1 x.2 _ R.opn c λd a f b=>?_
 obtain⟨R2,eB,eH,i⟩:=R.back b;exact q _ A _ a (Gro.refl _) eB R2 rfl
noncomputable def aN(i:Nat):EN:=λs=>match s.t[i]? with
 |some (some x)=>some (.ok x s)
 |_=>none
theorem NH:NE W (lg i) (aN i):=by
 intro G A B H J s r Q R e q;unfold aN at e;split at e
 .rename_i x c
  cases e;obtain⟨v,a,b⟩:=R.slot i _ c;exact⟨v,a,q v A B H (Gro.refl _) (aA.refl _) R b⟩
 .cases e
def nLit(d:D):EN:=λs=>some (.ok (.pl d) s)
theorem zw(h:∀B,Rep B v d):NE W (tC v) (nLit d):=by
 intro G A B H J s r Q R e q;cases e;exact q v A B H (Gro.refl _) (aA.refl _) R (.pl<|h B)
def ixV(S:List<|Option Cl)(x:SV)(i:Int):Option SV:=match x with
 | .tp xs=>L2.atI xs i
 | .pl (.tuple ds)=>(L2.atI ds i).map .pl
 | .pl (.list ds)=>(L2.atI ds i).map .pl
 | .lc k=>match S[k]? with
  |some (some (.dat (.list ds)))=>(L2.atI ds i).map .pl
  |some (some (.lst xs))=>L2.atI xs i
  |_=>none
 |_=>none
theorem lW{P : α->l->Prop}{g:List l}(I:xs.length=g.length)(h:∀(n:Nat) (y : l),g[n]?=some y->∃x,xs[n]?=some x/\P x y){i:Int}{y : l}(e:L2.atI g i=some y):∃x,L2.atI xs i=some x/\P x y:=by
 unfold L2.atI at e⊢;rw[I];obtain⟨j,a,b⟩:=zaa e;obtain⟨x,c,d⟩:=h j y b;exact⟨x,by rw[a,zai];exact c,d⟩
theorem NI(R:aW G A B H J s)(g:dj A B v x)(e:ixV s.S x i=some y):∃u,dj A B u y/\∀Q:VK,Q u H->rIx K v (.int i) H Q:=by
 have lst:∀{a:Addr} {xs:List V} {u:V},H a=some (.lst xs)\/Rd H a (.lst xs)->L2.atI xs i=some u->∀Q:VK,Q u H->rIx K (.ref a) (.int i) H Q:=λh b Q q=>
  .inl ⟨_,_,_,_,rfl,rfl,.inl<|h.elim .inl id,b,q⟩
 cases x with
 |tp xs=>
  cases g with
  |tp o rs=>
   obtain⟨u,b,f⟩:=lW rs.length (λn y j=>rs.get n y j) e
   exact⟨u,f,λQ q=>.inr<|.inl ⟨_,_,_,_,rfl,rfl,.inl<|.inl<|R.sub _ _ o,b,q⟩⟩
 |pl d=>
  cases d with
  |tuple ds=>
   obtain⟨c,m,rfl⟩:=zab e;cases g with
   |pl r=>
    cases r with
    |tup o rs=>
     obtain⟨u,b,f⟩:=lW rs.length (λn y j=>rs.get n y j) m
     exact⟨u,.pl f,λQ q=>.inr<|.inl ⟨_,_,_,_,rfl,rfl,.inl<|.inl<|R.sub _ _ o,b,q⟩⟩
  |list ds=>
   obtain⟨c,m,rfl⟩:=zab e;cases g with
   |pl r=>
    cases r with
    |lst o rs=>
     obtain⟨u,b,f⟩:=lW rs.length (λn y j=>rs.get n y j) m
     exact⟨u,.pl f,lst (.inr<|cB R.sub o) b⟩
  |_=>cases e
 |lc k=>
  simp only[ixV]at e;cases g with
  |lc w=>
   split at e
   .rename_i ds hk
    obtain⟨c,m,rfl⟩:=zab e;cases R.st.cell k _ _ hk w with
    |dat C=>
     obtain⟨xs,p,rs⟩:=C.list;obtain⟨u,b,f⟩:=lW rs.length (λn y j=>rs.get n y j) m
     exact⟨u,.pl f,lst (.inl p) b⟩
   .rename_i xs hk
    cases R.st.cell k _ _ hk w with
    |lst p rs=>
     obtain⟨u,b,f⟩:=lW rs.length (λn y j=>rs.get n y j) e
     exact⟨u,f,lst (.inl p) b⟩
   .cases e
def nIx(a b:EN):EN:=bN a λx=>bN b λy s=>match y with
 | .pl (.int i)=>(ixV s.S x i).map λz=>.ok z s
 |_=>none
theorem Lg(ha:NE W g a)(hb:NE W l b):NE W (tOp (rIx K) g l) (nIx a b):=by
 intro G A B H J s T Q R e q;refine fF (t:=g) ha R e q λx v N P S s1 g1 r j k n F=>?_
 refine fF hb j n F λy u f h i s2 C d R2 m c σ=>?_
 split at c
 .obtain⟨z,o,p⟩:=zab c
  cases p;cases m with
  |pl ρ=>
   cases ρ;obtain⟨w,D,E⟩:=NI R2 (k.mono C d) o;exact E Q (σ w f h i (Gro.refl _) (aA.refl _) R2 D)
 .cases c
def bw:MN (List SV):=λs=>some (.ok [] s)
theorem NJ:NA W tW bw:=by
 intro G A B H J s rs Q R e q;cases e;exact q [] A B H (Gro.refl _) (aA.refl _) R .nil
def ay(a:EN)(m:MN<|List SV):MN (List SV):=bN a λx=>bN m λxs s=>some (.ok (x::xs) s)
theorem IQ(ha:NE W g a)(l:NA W tr m):NA W (fH g tr) (ay a m):=by
 intro G A B H J s F Q R e q;refine fF (t:=g) ha R e q λx v C D E s1 g1 o h i k r=>?_
 refine fF l h k r λy u c d f s2 p b R2 j n w=>?_
 cases n;exact w _ c d f (Gro.refl _) (aA.refl _) R2 (.cons (i.mono p b) j)
noncomputable def nK:List SV->Option (List D)
 | []=>some []
 | .pl d::xs=>(nK xs).map λds=>d::ds
 |_=>none
theorem mS:∀{vs:List V} {xs:List SV} {ds:List D},bE A B vs xs->nK xs=some ds->aJ B vs ds
 |_,_,ds,.nil,e=>by
  cases e;exact .nil
 |_,_,ds,.cons (x:=x) a b,e=>by
  cases x with
  |pl d=>
   obtain⟨c,f,rfl⟩:=zab e;cases a with
   |pl r=>exact .cons r (mS b f)
  |lc k=>simp[nK]at e
  |tp k=>simp[nK]at e
def mkT(xs:List SV):SV:=match nK xs with
 |some ds=>.pl (.tuple ds)
 |none=>.tp xs
theorem IS(h:B t=some (.tup vs))(r:bE A B vs xs):dj A B (.ref t) (mkT xs):=by
 unfold mkT;split
 .rename_i ds e;exact .pl (.tup h<|mS r e)
 .exact .tp h r
def gn(m:MN<|List SV):EN:=bN m λxs s=>cIf (xs.length<=sizeLine) (some<|.ok (mkT xs) s) none
theorem NK(h:NA W t m):NE W (DW t) (gn m):=by
 intro G A B H J s u Q R e q;refine fF (t:=t) h R e q λvs xs d o r s1 g1 i f c b n=>?_
 obtain⟨k,b⟩:=bQ b;cases b;refine⟨by rw[c.length];exact k,λp j=>?_⟩
 obtain⟨R2,a⟩:=f.rg j;exact n _ d _ _ (Gro.refl _) a R2 (IS ak<|c.mono (Gro.refl _) a)
def mkL(xs:List SV):Cl:=match nK xs with
 |some ds=>.dat (.list ds)
 |none=>.lst xs
noncomputable def IT(c:Cl)(s:SS):RR SV:=.ok (.lc s.S.length) ⟨s.S++[some c],s.t⟩
theorem Fc{J:St}{s:SS}{c:Cl}{p:Addr}{o:HO}{Q:VK}(R:aW G A B H J s)(l:H p=none)(g:Mx o)(ok:∀H',H' p=some o->dD (A++[p]) B H' p c)(q:ROk G A B J W dj Q<|IT c s):Q (.ref p) (upd H p o):=by
 obtain⟨g1,b,d⟩:=R.uB l;have eH:aA H (upd H p o):=λq u h=>by rw[aj λz=>by rw[z,l]at h;cases h];exact h
 have R2:=R.grow (aA.refl _) eH (R.sub.trans eH) (λ_ _ z=>z) (λq xs h=>by
  by_cases z:q=p
  .subst z;rw[ak]at h;cases h;cases g
  .rw[aj z]at h;exact R.cj q xs h) λq u w h=>by
  by_cases z:q=p
  .subst z;rw[ak]at h;cases h;cases g
  .rw[aj z]at h;exact R.nz q u w h
 have a:=R2.take g1 b d ak g (ok _ ak);exact q _ _ _ _ (Gro.app _ _) (aA.refl _) a (.lc (by rw[<-R.st.len];exact List.getElem?_concat_length))
def CF(m:MN<|List SV):EN:=bN m λxs s=>cIf (xs.length<=sizeLine) (some<|IT (mkL xs) s) none
theorem NN(h:NA W t m):NE W (Mm t) (CF m):=by
 intro G A B H J s r Q R e q;refine fF (t:=t) h R e q λvs xs k n o s1 g1 d c a b j=>?_
 obtain⟨i,b⟩:=bQ b;cases b;refine⟨by rw[a.length];exact i,λp f=>Fc c f trivial (λH' h'=>?_) j⟩
 unfold mkL;split
 .rename_i ds ea;exact .dat (.lst h'<|mS a ea)
 .exact .lst h' (a.mono (Gro.app _ _)<|aA.refl _)
structure wY(A:List Addr)(B H:Hp)(A':List Addr)(B' H':Hp)(S':List<|Option Cl)(v:V)(r:SV):Prop where
 gro:Gro A A'
 eB:aA B B'
 sub:aA B' H'
 tB:∀q xs,H' q=some (.tup xs)->B' q=some (.tup xs)
 kept:∀q o,H q=some o->q∉A->H' q=some o
 nb:∀q,H q≠none->B q=none->B' q=none
 fresh:∀a∈A',a∈A\/H a=none
 st:StO A' B' H' S'
 nz:∀q o u,H' q=some (.frz o u)->∃o0 u0,H q=some (.frz o0 u0)
 val:dj A' B' v r
inductive FR where
 |ok (r:SV) (S:List (Option Cl))|er (x:Xc) (S:List (Option Cl))
abbrev FN:=List (Option Cl)->List SV->Option FR
def spS(f:FN):Sp:=λvs H Q E=>∃A B S xs w,aA B H/\(∀q xs,H q=some (.tup xs)->B q=some (.tup xs))/\StO A B H S/\bE A B vs xs/\f S xs=some w/\
 match w with
 | .ok r S'=>∀v A' B' H',wY A B H A' B' H' S' v r->Q v H'
 | .er x S'=>∀A' B' H',wY A B H A' B' H' S' .non (.pl .none)->E (Zl.cl x.c) none H'
def spQ(f:FN):Sp:=λvs H Q _=>spS f vs H Q E0
theorem aW.post(R:aW G A B H J s)(P:wY A B H A' B' H' S' v r):aW G A' B' H' J ⟨S',s.t⟩:=by
 refine⟨P.sub,R.sB.trans P.eB,P.tB,λq o h n=>?_,λq h z=>?_,R.pre.trans P.gro,λa ha=>?_,P.st,R.len,λi x h=>?_,λq o u h=>?_⟩
 .refine P.kept q o (R.kept q o h n) λc=>?_
  rcases R.fresh q c with b|b
  .exact n b
  .rw[b]at h;cases h
 .refine P.nb q (λc=>?_) (R.nB q h z)
  have:=(R.uB c).1;exact h this
 .rcases P.fresh a ha with h|h
  .exact R.fresh a h
  .exact .inr (R.uB h).1
 .obtain⟨w,b,e⟩:=R.slot i x h
  exact⟨w,b,e.mono P.gro P.eB⟩
 .obtain⟨o0,u0,d⟩:=P.nz q o u h
  exact R.nz q o0 u0 d
noncomputable def frR(w:FR)(t:List<|Option SV):RR SV:=match w with
 | .ok r S=>.ok r ⟨S,t⟩
 | .er x S=>.er x ⟨S,t⟩
def gp(f:FN)(m:MN<|List SV):EN:=bN m λxs s=>(f s.S xs).map λw=>frR w s.t
theorem Fd{B H:Hp}{J:St}{s:SS}{vs:List V}{xs:List SV}{g:RR SV}{Q:VK}{E:XK}(R:aW G A B H J s)(V:bE A B vs xs)(e:((f s.S xs).map λw=>frR w s.t)=some g)(q:ROk G A B J W dj Q g)
  (l:∀x H',W x J H'->E (Zl.cl x.c) none H'):spS f vs H Q E:=by
 obtain⟨w,b,a⟩:=zab e;refine⟨A,B,s.S,xs,w,R.sub,R.cj,R.st,V,b,?_⟩;cases w with
 |ok r S'=>
  cases a;exact λv A' B' H' P=>q v A' B' H' P.gro P.eB (R.post P) P.val
 |er x S'=>
  cases a;exact λA' B' H' P=>l x H' (q A' B' H'<|R.post P)
theorem IU(g:∀x J H',W x J H'->E (Zl.cl x.c) none H')(h:NA W t m):NE W (jK (spS f) [] E t) (gp f m):=by
 intro G A B H J s p Q R e q;refine fF (t:=t) h R e q λvs xs k n o s1 g1 i a b d j=>?_
 rw[zaR];exact Fd a b d j λx H'=>g x J H'
def W0:WX:=λ_ _ _=>False
def Fe(h:NA W0 t m):NE W0 (jK (spQ f) [] E0 t) (gp f m):=IU (λ_ _ _ z=>z.elim) h
end
inductive eP where
 |nx (s:SS)|rt (r:SV) (s:SS)|bk (s:SS)|ct (s:SS)|er (x:Xc) (s:SS)
abbrev SN:=SS->Option eP
def NOk(G:FrN)(W:WX)(D:Ends):eP->Prop
 | .nx s=>∀A B H J,aW G A B H J s->D.nx J H
 | .rt r s=>∀v A B H J,aW G A B H J s->dj A B v r->D.rt v H
 | .bk s=>∀A B H J,aW G A B H J s->D.bk J H
 | .ct s=>∀A B H J,aW G A B H J s->D.ct J H
 | .er x s=>∀A B H J,aW G A B H J s->W x J H
def NS(W:WX)(t:TS)(m:SN):Prop:=∀(G:FrN) (A:List Addr) (B H:Hp) (J:St) (s:SS) (o:eP) (D:Ends),aW G A B H J s->m s=some o->NOk G W D o->t D J H
noncomputable def bS{α:Type}(m:MN α)(k : α->SN):SN:=λs=>match m s with
 |some (.ok v s')=>k v s'
 |some (.er x s')=>some (.er x s')
 |none=>none
section
variable{W:WX}
theorem mT{m:MN α}{k : α->SN}{G:FrN}{A:List Addr}{B H:Hp}{J:St}{s:SS}{o:eP}{D:Ends}{C : I->Hp->Prop}(h:NM W l t m)(R:aW G A B H J s)(e:bS m k s=some o)(q:NOk G W D o)
  (c:∀x v A' B' H' s',aW G A' B' H' J s'->l A' B' x v->k v s'=some o->C x H'):t J H C:=by
 unfold bS at e;split at e
 .rename_i v s' b
  exact h G A B H J s _ C R b λx A' B' H' g eB a V=>c x v A' B' H' s' a V e
 .rename_i y s' b
  cases e;exact h G A B H J s _ C R b λA' B' H' a=>q A' B' H' J a
 .cases e
def bf(a b:SN):SN:=λs=>match a s with
 |some (.nx s')=>b s'
 |o=>o
theorem NO(ha:NS W t a)(hb:NS W u b):NS W (DJ t u) (bf a b):=by
 intro G A B H J s o D R e q;unfold bf at e;split at e
 .rename_i s' f
  exact ha G A B H J s _ _ R f λA' B' H' c d=>hb G A' B' H' c s' o D d e q
 .rename_i o' hn
  refine ha G A B H J s o _ R e ?_;cases o with
  |nx s'=>exact absurd e (hn s')
  |rt r s'=>exact q
  |bk s'=>exact q
  |ct s'=>exact q
  |er x s'=>exact q
def gL:SN:=λs=>some (.nx s)
theorem IV:NS W Az gL:=by
 intro G A B H J s o D R e q;cases e;exact q A B H J R
def zx:SN:=λ_=>none
theorem Fg:NS W yT zx:=by
 intro G A B H J s o D R e q;cases e
def iY(a:EN):SN:=bS a λx s=>some (.rt x s)
theorem NP(ha:NE W t a):NS W (BS t) (iY a):=by
 intro G A B H J s o D R e q;refine mT ha R e q λx v A' B' H' s' b c d=>?_
 cases d;exact q x A' B' H' J b c
def jR(a:EN):SN:=bS a λ_ s=>some (.nx s)
theorem IW(ha:NE W t a):NS W (DN t) (jR a):=by
 intro G A B H J s o D R e q;refine mT ha R e q λx v A' B' H' s' b d c=>?_
 cases c;exact q A' B' H' J b
def jG(c:MN Bool)(a b:SN):SN:=bS c λx=>if x=true then a else b
theorem P2(g:NT W l c)(ha:NS W t a)(hb:NS W u b):NS W (Hn l t u) (jG c a b):=by
 intro G A B H J s o D R e q;refine mT g R e q λx v A' B' H' s' f i d=>?_
 subst i
 by_cases h:x=true
 .rw[if_pos h]at d⊢;exact ha G A' B' H' J s' o D f d q
 .rw[if_neg h]at d⊢;exact hb G A' B' H' J s' o D f d q
def NG(W:WX)(g:TG)(mg:SV->SN):Prop:=∀(G:FrN) (A:List Addr) (B H:Hp) (J:St) (s:SS) (v:V) (x:SV) (o:eP) (D:Ends),aW G A B H J s->dj A B v x->mg x s=some o->NOk G W D o->g v J H D.nx
noncomputable def ngN(i:Nat):SV->SN:=λx s=>if i<s.t.length then some (.nx ⟨s.S,s.t.set i<|some x⟩)else none
theorem IX:NG W (lL i) (ngN i):=λG A B H J s v x o D R a e q=>by
 unfold ngN at e;split at e
 .rename_i h;cases e;exact q A B H _ (R.set h a)
 .cases e
def NGs(g:TGs)(mg:List SV->SS->Option SS):Prop:=∀(G:FrN) (A:List Addr) (B H:Hp) (J:St) (s:SS) (vs:List V) (xs:List SV) (s':SS) (Q:St->Hp->Prop),aW G A B H J s->bE A B vs xs->mg xs s=some s'->(∀e,aW G A B H e s'->Q e H)->g vs J H Q
def zy:List SV->SS->Option SS:=λxs s=>match xs with
 | []=>some s
 |_=>none
noncomputable def iZ(i:Nat)(gs:List SV->SS->Option SS):List SV->SS->Option SS:=λxs s=>match xs with
 |x::xs=>if i<s.t.length then gs xs ⟨s.S,s.t.set i<|some x⟩else none
 |_=>none
theorem IY:NGs L5 zy:=λG A B H J s vs xs s' Q R a e q=>by
 cases a with
 |nil=>cases e;exact⟨rfl,q J R⟩
 |cons _ _=>cases e
theorem Fh(hs:NGs gs g):NGs (DP (lL i) gs) (iZ i g):=λG A B H J s vs xs s' Q R b e q=>by
 cases b with
 |nil=>cases e
 |cons r rs=>
  simp only[iZ]at e;split at e
  .rename_i h
   exact⟨_,_,rfl,hs G A B H _ _ _ _ s' Q (R.set h r) rs e λa R2=>q a R2⟩
  .cases e
theorem aJ.plV:∀{vs:List V} {ds:List D},aJ B vs ds->bE A B vs (ds.map .pl)
 |_,_,.nil=>.nil
 |_,_,.cons a b=>.cons (.pl a) (aJ.plV b)
def pN(S:List<|Option Cl):SV->Option (List SV)
 | .tp xs=>some xs
 | .pl (.tuple ds)=>some (ds.map .pl)
 | .pl (.list ds)=>some (ds.map .pl)
 | .lc k=>match S[k]? with
  |some (some (.dat (.list ds)))=>some (ds.map .pl)
  |some (some (.lst xs))=>some xs
  |_=>none
 |_=>none
theorem Fi(R:aW G A B H J s)(h:dj A B v x)(e:pN s.S x=some xs):∃t vs,v=.ref t/\(SqT K H t vs\/SqL K H t vs)/\bE A B vs xs:=by
 cases x with
 |lc k=>
  simp only[pN]at e;cases h with
  |lc f=>
   split at e
   .rename_i ds hk
    cases e;cases R.st.cell k _ _ hk f with
    |dat j=>
     obtain⟨i,c,rs⟩:=j.list;exact⟨_,_,rfl,.inr<|SqL.of c,rs.plV⟩
   .rename_i i hk
    cases e;cases R.st.cell k _ _ hk f with
    |lst c rs=>exact⟨_,_,rfl,.inr<|SqL.of c,rs⟩
   .cases e
 |tp i=>cases e;cases h with|tp a b=>exact⟨_,_,rfl,.inl<|.inl<|.inl<|R.sub _ _ a,b⟩
 |pl d=>
  cases d with
  |tuple ds=>cases e;cases h with|pl r=>cases r with|tup a b=>exact⟨_,_,rfl,.inl<|.inl<|.inl<|R.sub _ _ a,b.plV⟩
  |list ds=>cases e;cases h with|pl r=>cases r with|lst a b=>exact⟨_,_,rfl,.inr<|.inl<|cB R.sub a,b.plV⟩
  |_=>cases e
def ngT(n:Nat)(M:List SV->SS->Option SS):SV->SN:=λx s=>(pN s.S x).bind λxs=>if xs.length=n then(M xs s).map .nx else none
theorem IZ(h:NGs gs g):NG W (Eg K n gs) (ngT n g):=λG A B H J s v x o D R k e q=>by
 obtain⟨xs,d,e⟩:=zaa e;obtain⟨t,vs,rfl,j,b⟩:=Fi R k d;split at e
 .rename_i hn
  obtain⟨s2,f,i⟩:=zab e;cases i;exact⟨_,_,rfl,j,by rw[b.length];exact hn,h G A B H J s _ _ s2 _ R b f λa c=>q A B H a c⟩
 .cases e
def ck(a:EN)(g:SV->SN):SN:=bS a g
theorem NQ(ha:NE W t a)(l:NG W tg g):NS W (yU t tg) (ck a g):=by
 intro G A B H J s o D R e q;exact mT ha R e q λx v A' B' H' s' b c d=>l G A' B' H' J s' x v o D b c d q
def fG(kp:List Nat)(c:MN Bool)(b:SN):Nat->SN
 |0=>λ_=>none
 |n+1=>bS c λx s=>if x=true then(match b s with
   |some (.nx s')=>fG kp c b n (gcE s.S.length kp s')
   |some (.ct s')=>fG kp c b n (gcE s.S.length kp s')
   |some (.bk s')=>some (.nx s')
   |some (.rt r s')=>some (.rt r s')
   |some (.er x s')=>some (.er x s')
   |none=>none)
  else some (.nx s)
theorem Lh(R:aW G A B H J s):G.io.length<=s.S.length:=by rw[<-R.st.len];exact R.pre.len
theorem Fj(g:NT W I c)(hb:NS W l b):NS W (yV I l) (fG kp c b n):=by
 intro G A B H J s o D R e q;refine⟨λm J H=>∃A B s,aW G A B H J s/\fG kp c b m s=some o,⟨n,A,B,s,R,e⟩,?_⟩
 rintro m a K ⟨F,σ,s1,C,y⟩
 cases m with
 |zero=>cases y
 |succ m=>
  refine mT g C y q λx v j k p s2 R2 E d=>?_
  subst E
  by_cases h:x=true
  .rw[if_pos h]at d⊢
   refine⟨λi H'=>∃A' B' s',aW G A' B' H' i s'/\fG kp c b m s'=some o,λi H' h'=>⟨m,Nat.lt_succ_self _,h'⟩,?_⟩
   split at d
   .rename_i s' f;exact hb G j k p a s2 _ _ R2 f λA' B' H' i u=>(let⟨t,w⟩:=u.gcE (Lh R2);⟨t,B',_,w,d⟩)
   .rename_i s' f;exact hb G j k p a s2 _ _ R2 f λA' B' H' i u=>(let⟨t,w⟩:=u.gcE (Lh R2);⟨t,B',_,w,d⟩)
   .rename_i s' f;cases d;exact hb G j k p a s2 _ _ R2 f q
   .rename_i r s' f;cases d;exact hb G j k p a s2 _ _ R2 f q
   .rename_i r s' f;cases d;exact hb G j k p a s2 _ _ R2 f q
   .cases d
  .rw[if_neg h]at d⊢
   cases d;exact q j k p a R2
def eJ(n:Nat)(kp:List Nat)(ok:SS->Prop)(g:SV->SN)(b:SN):List SV->SN
 | []=>λs=>cIf (ok s) (some<|.nx s) none
 |d::ds=>λs=>cIf (ok s) (match g d s with
   |some (.nx s1)=>(match b s1 with
    |some (.nx s')=>eJ n kp ok g b ds (gcE n kp s')
    |some (.ct s')=>eJ n kp ok g b ds (gcE n kp s')
    |some (.bk s')=>some (.nx s')
    |some (.rt r s')=>some (.rt r s')
    |some (.er x s')=>some (.er x s')
    |none=>none)
   |_=>none) none
theorem aW.down(g:aW G l I M O s1)(R:aW ⟨I,M,l,G.Z⟩ A B H J s):aW G A B H J s:=by
 refine⟨R.sub,g.sB.trans R.sB,R.cj,λq o h n=>R.kept q o (g.kept q o h n) λc=>?_,λq h z=>R.nB q (λc=>h (g.uB c).1)<|g.nB q h z,g.pre.trans R.pre,λa ha=>?_,R.st,R.len,R.slot,R.nz⟩
 .rcases g.fresh q c with b|b
  .exact n b
  .rw[b]at h;cases h
 .rcases R.fresh a ha with h|h
  .exact g.fresh a h
  .exact .inr (g.uB h).1
def aW.up(g:aW G I M O l s1):aW ⟨M,O,I,G.Z⟩ I M O l s1 :=
 ⟨g.sub,aA.refl _,g.cj,λ_ _ h _=>h,λ_ _ z=>z,Gro.refl _,λ_ h=>.inl h,g.st,g.len,g.slot,g.nz⟩
theorem NOk.up{l:St}{s1:SS}(g:aW G I M O l s1){D:Ends}{o:eP}(h:NOk G W D o):NOk ⟨M,O,I,G.Z⟩ W D o:=by
 cases o with
 |nx s=>exact λA B H J R=>h A B H J (g.down R)
 |bk s=>exact λA B H J R=>h A B H J (g.down R)
 |ct s=>exact λA B H J R=>h A B H J (g.down R)
 |rt r s=>exact λv A B H J R V=>h v A B H J (g.down R) V
 |er x s=>exact λA B H J R=>h A B H J (g.down R)
def NR(A:List Addr)(B H:Hp)(x:V)(H':Hp)(y:SV):Prop:=(H'=H/\dj A B x y)\/∃p xs e,y=.pl (.tuple e)/\x=.ref p/\H p=none/\H'=upd H p (.tup xs)/\aJ B xs e
theorem uE{g:SV->SN}{b:SN}{ok:SS->Prop}{G:FrN}{σ:It}{ds:List SV}{O:List Addr}{U Y:Hp}{σ1:St}{s1:SS}{W0:Ends}{o:eP}
  (hg:NG W tg g) (hb:NS W tb b) (R1:aW G O U Y σ1 s1) (e:eJ s1.S.length kp ok g b ds s1=some o) (q:NOk G W W0 o)
  (I:∀A B H J s,aW ⟨U,Y,O,G.Z⟩ A B H J s->ok s->σ.stop ds.length H/\∀(i:Nat) (d:SV),ds[i]?=some d->σ.go i H/\∀x H',σ.yld i H x H'->NR A B H x H' d) :
  ∃W:Nat->Nat->St->Hp->Prop,(∃m,W 0 m σ1 Y)/\∀i m J H,W i m J H->
   (σ.stop i H/\W0.nx J H)\/(σ.go i H/\∃N:St->Hp->Prop,(∀l H',N l H'->∃m',m'<m/\W (i+1) m' l H')/\∀x H',σ.yld i H x H'->tg x J H' λM H2=>tb {W0 with nx:=N,ct:=N,bk:=W0.nx} M H2):=by
 have K:=q.up R1;have D:=Nat.le_of_eq R1.st.len;refine⟨λi m J H=>m=ds.length-i/\i<=ds.length/\∃A B s,aW ⟨U,Y,O,G.Z⟩ A B H J s/\eJ s1.S.length kp ok g b (ds.drop i) s=some o,⟨ds.length,rfl,Nat.zero_le _,O,U,s1,R1.up,e⟩,?_⟩
 rintro i m M H2 ⟨rfl,hil,k,E,s2,R2,a⟩
 by_cases j:i<ds.length
 .refine .inr ?_
  rw[zbb j]at a;obtain⟨hok,a⟩:=bQ (a);obtain⟨go,yl⟩:=(I k E H2 M s2 R2 hok).2 i ds[i] (zaC j);refine⟨go,λl H'=>∃A' B' s',aW ⟨U,Y,O,G.Z⟩ A' B' H' l s'/\eJ s1.S.length kp ok g b (ds.drop<|i+1) s'=some o,λl H' h'=>⟨ds.length-(i+1),by lia,rfl,j,h'⟩,λy P hy=>?_⟩
  have T:∃F,aW ⟨U,Y,O,G.Z⟩ k F P M s2/\dj k F y ds[i]:=by
   rcases yl y P hy with⟨rfl,h2⟩|⟨p,xs,cs,X,rfl,h3,rfl,h5⟩
   .exact⟨E,R2,h2⟩
   .obtain⟨h,R⟩:=R2.rg h3
    exact⟨_,h,by rw[X];exact .pl (.tup ak<|h5.mono R)⟩
  obtain⟨F,h,rp⟩:=T;split at a
  .rename_i n R
   refine hg _ k F P M s2 y ds[i] (.nx n) ⟨λM H2=>tb {W0 with nx:=λl H'=>∃A' B' s',aW ⟨U,Y,O,G.Z⟩ A' B' H' l s'/\eJ s1.S.length kp ok g b (ds.drop<|i+1) s'=some o,ct:=λl H'=>∃A' B' s',aW ⟨U,Y,O,G.Z⟩ A' B' H' l s'/\eJ s1.S.length kp ok g b (ds.drop<|i+1) s'=some o,bk:=W0.nx} M H2,W0.rt,W0.bk,W0.ct⟩ h rp R λu v w c C=>?_
   split at a
   .rename_i s' f;exact hb _ u v w c n _ _ C f λA' B' H' l Q=>(let⟨ρ,h⟩:=Q.gcE D;⟨ρ,B',_,h,a⟩)
   .rename_i s' f;exact hb _ u v w c n _ _ C f λA' B' H' l Q=>(let⟨ρ,h⟩:=Q.gcE D;⟨ρ,B',_,h,a⟩)
   .rename_i s' f;cases a;exact hb _ u v w c n _ _ C f K
   .rename_i r s' f;cases a;exact hb _ u v w c n _ _ C f K
   .rename_i r s' f;cases a;exact hb _ u v w c n _ _ C f K
   .cases a
  .cases a
 .have V:i=ds.length:=by lia
  subst V;rw[List.drop_length]at a;obtain⟨hok,a⟩:=bQ (a);cases a;exact .inl ⟨(I k E H2 M s2 R2 hok).1,K k E H2 M R2⟩
theorem I0(h:wF B H x H' d):NR A B H x H' (.pl d):=by
 rcases h with⟨a,b⟩|⟨p,xs,c,a,b,h3,h4,e⟩
 .exact .inl ⟨a,.pl b⟩
 .exact .inr ⟨p,xs,c,by rw[a],b,h3,h4,e⟩
theorem wF.mono(h:wF B H x H' d)(e:aA B B'):wF B' H x H' d:=by
 rcases h with⟨a,b⟩|⟨p,xs,c,a,b,h3,h4,f⟩
 .exact .inl ⟨a,b.mono e⟩
 .exact .inr ⟨p,xs,c,a,b,h3,h4,f.mono e⟩
theorem zz{ds:List D}{i:Nat}(h:(ds.map SV.pl)[i]?=some x):∃d,ds[i]?=some d/\x=.pl d:=by
 rw[zao]at h;obtain⟨d,a,b⟩:=zab h;exact⟨d,a,b.symm⟩
def Fl(kp:List Nat)(it:Rho->Option (List D×Rho))(g:SV->SN)(b:SN):SN:=λs=>(it<|vwC s).bind λx=>eJ s.S.length kp (λ_=>True) g b (x.1.map .pl) s
theorem NU(hi:MF M it)(l:NG W tg g)(hb:NS W I b):NS W (BX M tg I) (Fl kp it g b):=by
 intro G A B H J s o D R e q;obtain⟨x,n,e⟩:=zaa e;refine hi _ B H J (vwC s) x.1 x.2 _ R.cls n λσ t v u m k=>?_
 obtain⟨R2,eB,eH⟩:=R.P1 m;refine uE l hb R2 e q λA' B' H' r s' f _=>?_
 have a:=k H' (f.sB.trans f.sub);rw[zal];refine⟨a.1,λi d hd=>?_⟩
 obtain⟨c,h,rfl⟩:=zz hd;exact⟨(a.2 i c h).1,λy j p=>I0<|((a.2 i c h).2 y j p).mono f.sB⟩
def stays(k:SV)(xs:List SV)(s:SS):Prop:=pN s.S k=some xs
def wZ(kp:List Nat)(a:EN)(g:SV->SN)(b:SN):SN:=bS a λy s=>match y with
 | .lc k=>(pN s.S<|.lc k).bind λxs=>eJ s.S.length kp (stays (.lc k) xs) g b xs s
 | .pl (.list ds)=>eJ s.S.length kp (λ_=>True) g b (ds.map .pl) s
 |_=>none
theorem AZ(h:SqL K H p xs)(r:bE A B xs g):(Itl K p).stop g.length H/\∀(i:Nat) (d:SV),g[i]?=some d->(Itl K p).go i H/\∀x H',(Itl K p).yld i H x H'->NR A B H x H' d:=by
 refine⟨⟨xs,h,by rw[r.length];exact zap _⟩,λi d hd=>?_⟩
 obtain⟨u,a,c⟩:=r.get i d hd;refine⟨⟨xs,u,h,a⟩,λx H' b=>.inl ⟨b.1,?_⟩⟩
 have:=b.2 xs h;rw[a]at this;cases this;exact c
theorem Ja(ha:NE W I a)(l:NG W tg g)(hb:NS W M b):NS W (BX (wm K I) tg M) (wZ kp a g b):=by
 intro G A B H J s o D R e q;refine mT (t:=I) ha R e q λx v P Q T s1 j y m=>?_
 split at m
 .rename_i k
  obtain⟨xs,E,F⟩:=zaa m;cases y with
  | @lc _ p C=>
   have lst:∀{A':List Addr} {B' H':Hp} {d:St} {s':SS} {w:FrN},aW w A' B' H' d s'->A'[k]?=some p->pN s'.S (.lc k)=some xs->∃vs,H' p=some (.lst vs)/\bE A' B' vs xs:=fun{A' B' H' d s' w} c i h=>by
    simp only[pN]at h;split at h
    .rename_i ds hk
     cases h;cases c.st.cell k _ _ hk i with
     |dat σ=>
      obtain⟨N,f,rs⟩:=σ.list;exact⟨_,f,rs.plV⟩
    .rename_i N hk
     cases h;cases c.st.cell k _ _ hk i with
     |lst f rs=>exact⟨_,f,rs⟩
    .cases h
   obtain⟨vs,f,rs⟩:=lst j C E;refine⟨_,rfl,⟨vs,SqL.of f⟩,?_⟩;refine uE l hb j F q λA' B' H' d s' c hok=>?_
   obtain⟨ρ,n,u⟩:=lst c (c.pre k _ C) hok;exact AZ (SqL.of n) u
 .rename_i ds
  cases y with
  |pl r=>
   cases r with
   |lst f rs=>
    refine⟨_,rfl,⟨_,.inl<|cB j.sub f⟩,?_⟩;refine uE l hb j m q λA' B' H' d s' c hok=>?_
    exact AZ (.inl<|cB (c.sB.trans c.sub) f) (rs.mono c.sB).plV
 .cases m
noncomputable def A0(S:List<|Option Cl)(k:Nat):Bool:=match S[k]? with
 |some (some (.dat (.list _)))=>true
 |some (some (.lst _))=>true
 |_=>false
theorem Fn(R:aW G A B H J s)(g:A[k]?=some a)(e:A0 s.S k=true):tyV K "list" (.ref a) H:=by
 unfold A0 at e;split at e
 .rename_i ds hk
  cases R.st.cell k _ _ hk g with
  |dat c=>obtain⟨xs,b,_⟩:=c.list;exact .inl ⟨rfl,xs,SqL.of b⟩
 .rename_i ds hk
  cases R.st.cell k _ _ hk g with
  |lst b _=>exact .inl ⟨rfl,_,SqL.of b⟩
 .cases e
def Fo(a:EN)(m:MN<|List SV)(u:Nat->List SV->SS->Option (RR SV)):EN:=bN a λx s=>match x with
 | .lc k=>if A0 s.S k=true then bN m (λxs s2=>u k xs s2) s else none
 |_=>none
theorem Jb(ha:NE W l a)(h:NA W t m)
  (I:∀(G:FrN) (A:List Addr) (B H:Hp) (J:St) (s:SS) (p:Addr) (k:Nat) (vs:List V) (xs:List SV) (g:RR SV) (Q:VK),aW G A B H J s->A[k]?=some p->bE A B vs xs->u k xs s=some g->ROk G A B J W dj Q g->r (.ref p) vs H Q):NE W (tBM K "list" r l t) (Fo a m u):=by
 intro G A B H J s g Q R e q;refine fF (t:=l) ha R e q λx v ρ N P s1 g1 y c n b F=>?_
 split at b
 .rename_i k
  split at b
  .rename_i E
   cases n with
   |lc d=>
    refine⟨Fn c d E,?_⟩;refine fF h c b F λvs xs f i j s2 D C R2 o w σ=>?_
    exact I G f i j J s2 _ k vs xs g Q R2 (D _ _ d) o w σ
  .cases b
 .cases b
def Jc(k:Nat)(xs:List SV)(s:SS):Option (RR SV):=match xs,s.S[k]? with
 | [.pl d],some (some (.dat (.list ds)))=>cIf (ds.length<sizeLine) (some<|.ok (.pl .none) ⟨s.S.set k<|some<|.dat<|.list<|ds++[d],s.t⟩) none
 | [x],some (some (.dat (.list ds)))=>cIf (ds.length<sizeLine) (some<|.ok (.pl .none) ⟨s.S.set k<|some<|.lst<|ds.map .pl++[x],s.t⟩) none
 | [x],some (some (.lst e))=>cIf (e.length<sizeLine) (some<|.ok (.pl .none) ⟨s.S.set k<|some<|.lst<|e++[x],s.t⟩) none
 |_,_=>none
theorem bE.append:∀{v w:List V} {d c:List SV},bE A B v d->bE A B w c->bE A B (v++w) (d++c)
 |_,_,_,_,.nil,r=>r
 |_,_,_,_,.cons a b,r=>.cons a (bE.append b r)
theorem Jd(G:FrN)(A:List Addr)(B H:Hp)(J:St)(s:SS)(p:Addr)(k:Nat)(vs:List V)(xs:List SV)(I:RR SV)(Q:VK)(R:aW G A B H J s)(g:A[k]?=some p)(l:bE A B vs xs)(e:Jc k xs s=some I)(q:ROk G A B J W dj Q I):lN (.ref p) vs H Q:=by
 have go:∀{x:SV} {y:V} {f:List V} {c:Cl},vs=[y]->H p=some (.lst f)->f.length<sizeLine->dD A B (upd H p<|.lst<|f++[y]) p c->I=.ok (.pl .none) ⟨s.S.set k<|some c,s.t⟩->lN (.ref p) vs H Q:=fun{x y f c} m n h3 ok er=>by
  subst er m;exact⟨p,f,y,rfl,rfl,n,h3,q .non A B _ (Gro.refl _) (aA.refl _) (R.write g trivial ok)<|.pl .non⟩
 unfold Jc at e;split at e
 .rename_i d ds hk
  obtain⟨i,e⟩:=bQ e;cases e;cases l with
  |cons a b=>
   cases b;cases a with
   |pl r=>
    cases R.st.cell k _ _ hk g with
    |dat j=>
     obtain⟨f,h,rs⟩:=j.list;exact go (x:=.pl d) rfl h (by rw[rs.length];exact i) (.dat<|.lst ak<|rs.append<|.cons r .nil) rfl
 .rename_i x ds _ hk
  obtain⟨i,e⟩:=bQ e;cases e;cases l with
  |cons a b=>
   cases b;cases R.st.cell k _ _ hk g with
   |dat j=>
    obtain⟨f,h,rs⟩:=j.list;exact go (x:=x) rfl h (by rw[rs.length];exact i) (.lst ak<|rs.plV.append<|.cons a .nil) rfl
 .rename_i x f hk
  obtain⟨i,e⟩:=bQ e;cases e;cases l with
  |cons a b=>
   cases b;cases R.st.cell k _ _ hk g with
   |lst h rs=>exact go (x:=x) rfl h (by rw[rs.length];exact i) (.lst ak<|rs.append<|.cons a .nil) rfl
 .cases e
def CG(a:EN)(m:MN<|List SV):EN:=Fo a m Jc
def NV(ha:NE W g a)(h:NA W t m):NE W (tBM K "list" lN g t) (CG a m):=Jb ha h Jd
end
def fS(n:Nat)(S:List<|Option Cl):List (Option Cl):=if E9 n S=true then gcS n S else S
def retS(n:Nat):eP->Option FR
 | .rt r s=>if blV n r=true then some (.ok r<|fS n s.S)else some (.ok r s.S)
 | .nx s=>some (.ok (.pl .none)<|fS n s.S)
 | .er x s=>some (.er x<|fS n s.S)
 |_=>none
def fnS(n k:Nat)(b:SN):FN:=λS xs=>if xs.length=n then(b ⟨S,xs.map some++List.replicate k none⟩).bind (retS S.length)else none
theorem sE(sub:aA B H)(tB:∀q xs,H q=some (.tup xs)->B q=some (.tup xs))(O:StO A B H S)(l:bE A B vs xs)(g:xs.length=n)(I:N.length=n+k) :
  aW ⟨B,H,A,λq=>∃o u,H q=some (.frz o u)⟩ A B H (L2.start N vs) ⟨S,xs.map some++List.replicate k none⟩:=by
 have a:=l.length.trans g;refine⟨sub,aA.refl _,tB,λ_ _ h _=>h,λ_ _ z=>z,Gro.refl _,λ_ h=>.inl h,O,?_,λi x h=>?_,λq o u h=>⟨o,u,h⟩⟩
 .simp[L2.start,g,a,I]
 .have h':=h
  by_cases hi:i<n
  .rw[zax (by simpa[g]using hi),zao]at h'
   obtain⟨c,b,d⟩:=zab h';cases d;obtain⟨y,h3,h4⟩:=l.get i _ b;refine⟨y,?_,h4⟩;unfold L2.start;rw[zax (by simpa[a]using hi),zao,h3]
   rfl
  .rw[zaN (by simpa[g]using zba hi)]at h'
   have:=zaG (zaj h');cases this
def post_of(g:aW ⟨B,H,A,λq=>∃o u,H q=some (.frz o u)⟩ A' B' H' I s')(l:dj A' B' v r):wY A B H A' B' H' s'.S v r:=⟨g.pre,g.sB,g.sub,g.cj,g.kept,g.nB,g.fresh,g.st,g.nz,l⟩
theorem pO(hn:A.length<=n)(l:aW ⟨B,H,A,λq=>∃o u,H q=some (.frz o u)⟩ A' B' H' M s')(I:dj A' B' v r)(hb:blV n r=true):∃g,wY A B H g B' H' (fS n s'.S) v r:=by
 unfold fS;split
 .exact⟨_,post_of (l.gc hn)<|I.take _ hb⟩
 .exact⟨_,post_of l I⟩
theorem Je(hb:NS (λx _ H=>E (Zl.cl x.c) none H) t b)(g:N.length=n+k)(h:spS (fnS n k b) vs H Q E):t {nx:=λ_ H'=>Q .non H',rt:=Q} (L2.start N vs) H:=by
 obtain⟨A,B,S,xs,y,sub,tB,O,s,e,q⟩:=h;unfold fnS at e;split at e
 case isFalse=>cases e
 rename_i r
 obtain⟨w,o,a⟩:=zaa e;have R:=sE sub tB O s r g;refine hb _ A B H _ _ w _ R o ?_;have hn:=Nat.le_of_eq O.len;cases w with
 |nx s'=>cases a;exact λA' B' H' f d=>(let⟨i,p⟩:=pO hn d (.pl .non) rfl;q _ i B' H' p)
 |bk s'=>cases a
 |ct s'=>cases a
 |er x s'=>cases a;exact λA' B' H' f d=>(let⟨i,p⟩:=pO hn d (.pl .non) rfl;q i B' H' p)
 |rt u s'=>
  simp only[retS]at a;split at a
  .rename_i m
   cases a;exact λv A' B' H' f d j=>(let⟨i,p⟩:=pO hn d j m;q v i B' H' p)
  .cases a
   exact λv A' B' H' f d j=>q v A' B' H' (post_of d j)
def Jf(hb:NS W0 t b)(g:N.length=n+k)(h:spQ (fnS n k b) vs H Q E):t {nx:=λ_ H'=>Q .non H',rt:=Q} (L2.start N vs) H:=Je hb g h
theorem Jg(h:spS (fnS n k b) vs H Q E):vs.length=n:=by
 obtain⟨A,B,S,xs,w,sub,tB,O,c,e,q⟩:=h;unfold fnS at e;split at e
 .rename_i a;exact c.length.trans a
 .cases e
def gM(h:spQ (fnS n k b) vs H Q E):vs.length=n:=Jg h
noncomputable def P4:eP->Option (D×Bool)
 | .rt (.pl d) _=>some (d,false)
 | .rt (.lc k) s=>match s.S[k]? with
  |some (some (.dat d))=>some (d,true)
  |_=>none
 | .nx _=>some (.none,false)
 |_=>none
def fnO(n k:Nat)(b:SN)(ds:List D):Option (D×Bool):=if ds.length=n then(b ⟨[],ds.map (λd=>some<|.pl d)++List.replicate k none⟩).bind P4 else none
theorem Jh(hb:NS W0 t b)(g:N.length=n+k)(h:spM (fnO n k b) vs H Q E):t {nx:=λ_ H'=>Q .non H',rt:=Q} (L2.start N vs) H:=by
 obtain⟨B,ds,d,o,sub,tB,V,e,q⟩:=h;unfold fnO at e;split at e
 case isFalse=>cases e
 rename_i P
 obtain⟨w,K,i⟩:=zaa e;have O:StO [] B H ([]:List<|Option Cl):=⟨rfl,List.nodup_nil,(λa h=>by cases h),(λa h=>by cases h),λk c a h=>by simp at h⟩
 have R:=sE sub tB O (aJ.plV V) (by simpa using P) g
 rw[List.map_map]at R;refine hb _ [] B H _ _ w _ R K ?_;have post:∀{A':List Addr} {B' H':Hp} {p:St} {s':SS},aW ⟨B,H,[],λq=>∃o u,H q=some (.frz o u)⟩ A' B' H' p s'->aA H H'/\aA B B'/\aA B' H'/\(∀q,H q≠none->B q=none->B' q=none)/\(∀q xs,H' q=some (.tup xs)->B' q=some (.tup xs))/\∀q o u,H' q=some (.frz o u)->H q≠none:=λf=>
  ⟨λq u z=>f.kept q u z (by simp),f.sB,f.sub,f.nB,f.cj,λq o u z=>(let⟨_,_,y⟩:=f.nz q o u z;by rw[y];simp)⟩
 cases w with
 |nx s'=>
  cases i;intro A' B' H' p f;obtain⟨s,p2,A,C,D,F⟩:=post f;exact q _ B' H' ⟨s,p2,A,C,D,F,.non⟩
 |bk s'=>cases i
 |ct s'=>cases i
 |er x s'=>cases i
 |rt r s'=>
  intro v A' B' H' p f G;obtain⟨s,p2,A,C,D,F⟩:=post f;cases r with
  |pl c=>
   cases i;cases G with
   |pl W=>exact q v B' H' ⟨s,p2,A,C,D,F,W⟩
  |tp xs=>cases i
  |lc j=>
   have m:(match s'.S[j]? with
    |some (some (.dat d))=>some (d,true)
    |_=>none)=some (d,o):=i
   split at m
   .rename_i X ρ
    cases m;obtain⟨a,rfl,σ⟩:∃a,v=.ref a/\A'[j]?=some a:=by cases G with|lc h=>exact⟨_,rfl,h⟩
    .have ha:=zaj σ
     cases f.st.cell j _ _ ρ σ with
     |dat T=>
      have hn:H a=none:=by
       rcases f.fresh a ha with z|z
       .cases z
       .exact z
      exact q _ B' H' ⟨s,p2,A,C,D,F,⟨_,rfl,hn,f.st.dis _ ha,T⟩⟩
   .cases m
theorem Ji(h:spM (fnO n k b) vs H Q E):vs.length=n:=by
 obtain⟨B,ds,d,o,sub,tB,c,e,q⟩:=h;unfold fnO at e;split at e
 .rename_i a;exact c.length.trans a
 .cases e
end
end Mir
namespace L2
open PySem.Spec PyProof.Rows
section
variable{κ:Type} [DecidableEq κ]
noncomputable def jH(V0:List<|κ×V)(k : κ):Option V:=(V0.find? λe=>decide<|e.1=k).map (·.2)
def putK(V0:List<|κ×V)(k : κ)(v:V):List (κ×V) :=
 if(V0.any λe=>decide<|e.1=k)=true then V0.map (λe=>if e.1=k then(e.1,v)else e)else V0++[(k,v)]
def nL(V0:List<|κ×V)(k : κ):List (κ×V):=V0.filter λe=>decide (e.1≠k)
theorem jS{k : κ}(e:p.1=k):jH (p::r) k=some p.2:=by simp[jH,List.find?_cons,e]
theorem jT{k : κ}(e : ¬p.1=k):jH (p::r) k=jH r k:=by simp[jH,List.find?_cons,e]
theorem w6(k : κ):∀V0:List (κ×V),(V0.any λg=>decide<|g.1=k)=(jH V0 k).isSome
 | []=>rfl
 |p::r=>by
  rw[List.any_cons]
  by_cases e:p.1=k
  .simp only[jS e,decide_eq_true e,Bool.true_or,Option.isSome_some]
  .rw[jT e,zaO e,Bool.false_or];exact w6 k r
theorem nM(V0:List<|κ×V)(k : κ)(v:V):(putK V0 k v).length<=V0.length+1:=by
 unfold putK;split
 .rw[zal];lia
 .rw[zau,zaw,List.length_nil];lia
theorem ot.iy(r:ot o u):o.isSome=u.isSome:=by
 cases o with
 |none=>cases u with
  |none=>rfl
  |some _=>exact(r).elim
 |some _=>cases u with
  |none=>exact(r).elim
  |some _=>rfl
theorem KV.val(r:KV V0 vs)(k : κ):ot (jH V0 k) (valueAt vs k):=by
 induction r with
 |nil=>exact True.intro
 | @cons p q ps c h t i=>
  obtain⟨d,f⟩:=h
  by_cases e:p.1=k
  .have a:=d.symm.trans e
   have b:valueAt (q::c) k=some q.2:=by simp[valueAt,List.find?_cons,a]
   rw[jS e,b];exact f
  .have a : ¬q.1=k:=λz=>e (d.trans z)
   have b:valueAt (q::c) k=valueAt c k:=by simp[valueAt,List.find?_cons,a]
   rw[jT e,b];exact i
theorem KV.any(r:KV V0 vs)(k : κ):(V0.any λg=>decide<|g.1=k)=vs.any λg=>decide (g.1=k):=by
 induction r with
 |nil=>rfl
 |cons h t a=>rw[List.any_cons,List.any_cons,a,h.1]
theorem KV.repl(r:KV V0 vs)(k : κ)(l:RelV y u) :
  KV (V0.map λg=>if g.1=k then(g.1,y)else g) (vs.map λg=>if g.1=k then(g.1,u)else g):=by
 induction r with
 |nil=>exact .nil
 | @cons p q ps d h t c=>
  rw[zaz,zaz];refine .cons ?_ c;obtain⟨a,b⟩:=h
  by_cases e:p.1=k
  .rw[if_pos e,if_pos<|a.symm.trans e];exact⟨a,l⟩
  .rw[if_neg e,if_neg λz=>e<|a.trans z];exact⟨a,b⟩
theorem KV.put(r:KV V0 vs)(k : κ)(g:RelV y u):KV (putK V0 k y) (stored vs k u):=by
 unfold putK stored;rw[r.any k]
 by_cases e:(vs.any λa=>decide<|a.1=k)=true
 .rw[if_pos e,if_pos e];exact r.repl k g
 .rw[if_neg e,if_neg e];exact Paired.snoc r ⟨rfl,g⟩
theorem KV.drop(r:KV V0 vs)(k : κ):KV (nL V0 k) (without vs k):=by
 unfold nL without
 induction r with
 |nil=>exact .nil
 | @cons p q ps n h t f=>
  obtain⟨d,m⟩:=h;rw[List.filter_cons,List.filter_cons]
  by_cases e:p.1=k
  .have a : ¬decide (p.1≠k)=true:=by simp[e]
   have b : ¬decide (q.1≠k)=true:=by simp[d.symm.trans e]
   rw[if_neg a,if_neg b];exact f
  .have j : ¬q.1=k:=λz=>e (d.trans z)
   have a:decide (p.1≠k)=true:=by simp[e]
   have b:decide (q.1≠k)=true:=by simp[j]
   rw[if_pos a,if_pos b];exact .cons ⟨d,m⟩ f
theorem KV.length{vs:List<|κ×Value}(r:KV V0 vs):V0.length=vs.length:=Paired.length r
def Fp(V0:List<|κ×V)(k : κ):(nL V0 k).length<=V0.length:=zaY _ _
end
theorem sF(r:RelV (kV k) u):(bX P w).is k u=true:=by
 cases k with
 |inl i=>obtain⟨t,e⟩:=(r);subst e;exact v8 P w i t
 |inr x=>obtain⟨t,e⟩:=(r);subst e;exact v9 P w x t
theorem sG:∀{g:List Key} {us:List Value},Vals (g.map kV) us->ItemsAre (bX P w) g us
 | [],_,r=>by rw[List.map_nil]at r;cases r;exact .nil
 |k::g,_,r=>by
  cases r with
  |cons h t=>exact .cons (sF h) (sG t)
abbrev KT(H:Hp):List (List Key×V)->List (List Key×Addr×Value)->Prop:=Paired λp q=>p.1=q.1/\H q.2.1=some (.tup<|p.1.map kV)/\RelV p.2 q.2.2
theorem KT.val(r:KT H V0 xs)(k:List Key):ot (jH V0 k) ((atKey xs k).map (·.2)):=by
 induction r with
 |nil=>exact True.intro
 | @cons p q ps c h t i=>
  obtain⟨d,_,f⟩:=h
  by_cases e:p.1=k
  .have a:=d.symm.trans e
   have b:atKey (q::c) k=some q.2:=by simp[atKey,List.find?_cons,a]
   rw[jS e,b];exact f
  .have a : ¬q.1=k:=λz=>e (d.trans z)
   have b:atKey (q::c) k=atKey c k:=by simp[atKey,List.find?_cons,a]
   rw[jT e,b];exact i
theorem KT.repl(r:KT H V0 xs)(k:List Key)(l:RelV y u) :
  KT H (V0.map λg=>if g.1=k then(g.1,y)else g) (xs.map<|putAt k u):=by
 induction r with
 |nil=>exact .nil
 | @cons p q ps d h t c=>
  rw[zaz,zaz];refine .cons ?_ c;obtain⟨a,b,h3⟩:=h;unfold putAt
  by_cases e:p.1=k
  .rw[if_pos e,if_pos<|a.symm.trans e];exact⟨a,b,l⟩
  .rw[if_neg e,if_neg λz=>e<|a.trans z];exact⟨a,b,h3⟩
theorem KT.put(r:KT H V0 xs)(k:List Key)(hb:H b=some (.tup<|k.map kV))(g:RelV y u) :
  KT H (putK V0 k y) (storedH xs k b u):=by
 have e:(V0.any λa=>decide<|a.1=k)=(atKey xs k).isSome:=by
  rw[w6,(r.val k).iy,Option.isSome_map]
 unfold putK storedH;rw[e]
 by_cases q:(atKey xs k).isSome=true
 .rw[if_pos q,if_pos q];exact r.repl k g
 .rw[if_neg q,if_neg q];exact Paired.snoc r ⟨rfl,hb,g⟩
def KT.keeps(r:KT H V0 xs)(l:∀b g,H b=some (.tup g)->H' b=some (.tup g)):KT H' V0 xs :=
 Paired.LS r λ_ _ z=>⟨z.1,l _ _ z.2.1,z.2.2⟩
section
variable{P:Program}{w:World}{H:Hp}{h:Heap}{a:Addr}
def Li(ok:HOk P w H h)(e:Rd H a u):cu P w H h a u:=e.ok ok
def nN(ok:HOk P w H h)(e:Rd H a<|.dK V0):V0.length<=sizeLine/\(a==sysModules)=false/\∃vs,KV V0 vs/\h.DictOf (bX P w) a vs :=
 show cu P w H h a (.dK V0)from Li ok e
def Fq(ok:HOk P w H h)(e:H a=some (.dK V0)):V0.length<=sizeLine/\(a==sysModules)=false/\∃vs,KV V0 vs/\h.DictOf (bX P w) a vs:=nN ok (.inl e)
theorem pP(ok:HOk P w H h)(e:H a=some (.tup<|g.map kV)):(tupleKind<|bX P w).is h g a:=by
 obtain⟨_,b,r,o,c,d,n,h3⟩:=cu.Pf (ok a _ e);exact⟨o,b.toArray,n,c,d,h3,by simpa using sG r⟩
theorem w8(ok:HOk P w H h)(e:Rd H a<|.dT V0):V0.length<=sizeLine/\(a==sysModules)=false/\
  ∃xs,KT H V0 xs/\h.DictOfH (tupleKind<|bX P w) a xs:=by
 obtain⟨z,y,xs,r,o,es,d,f,i,h3,h4,j⟩:=(Li ok e);refine⟨z,y,xs,r,o,es,d,f,i,h3,h4,λx b=>?_,j⟩
 have all:∀{l:List<|List Key×V} {m:List<|List Key×Addr×Value},KT H l m->∀x∈m,(tupleKind<|bX P w).is h x.1 x.2.1:=by
  intro l m q
  induction q with
  |nil=>intro x b;exact nomatch b
  | @cons p q ps n c t k=>
   intro x b;rcases zaf b with e|b
   .subst e
    exact pP ok (by rw[<-c.1];exact c.2.1)
   .exact k x b
 exact all r x b
def P5(ok:HOk P w H h)(e:H a=some (.dT V0)):V0.length<=sizeLine/\(a==sysModules)=false/\
  ∃xs,KT H V0 xs/\h.DictOfH (tupleKind<|bX P w) a xs:=w8 ok (.inl e)
end
def rj(H:Hp)(a:Addr)(y:V)(r:Option V):Prop :=
 (∃V0 k,Rd H a (.dK V0)/\y=kV k/\r=jH V0 k)\/∃V0 k b,Rd H a (.dT V0)/\y=.ref b/\H b=some (.tup<|k.map kV)/\r=jH V0 k
def P6(H:Hp)(a:Addr)(y v:V)(H':Hp):Prop :=
 (∃V0 k,H a=some (.dK V0)/\y=kV k/\V0.length<sizeLine/\H'=upd H a (.dK<|putK V0 k v))\/
 ∃V0 k b,H a=some (.dT V0)/\y=.ref b/\H b=some (.tup<|k.map kV)/\V0.length<sizeLine/\H'=upd H a (.dT<|putK V0 k v)
section
variable{X:Cx}{U0:List<|Addr×Obj}{J:St}{H:Hp}{s:Shared}{a:Addr}{y v:V}{u r:Value}{o:Option V}{A:Around}{E:Value->Shared->Prop}
theorem Inv.big(I:Inv X U0 J H s):sysModules<s.heap.objs.size:=by
 have h:=(I.mod.glob.keeps I.bk).lt;exact Nat.lt_trans (by decide) h
theorem CH(U:A.units+1<cLine)(I:Inv X U0 J H s)(g:rj H a y<|some v)(O:RelV y u)(h:∀M s',Inv X U0 J H s'->RelV v M->Q M s') :
  wpAny (model X.prog X.w) A (getItem (.ref a) u) Q E s:=by
 rcases g with⟨V0,k,e,i,l⟩|⟨V0,k,b,e,i,n,l⟩
 .subst i
  obtain⟨z,hd,vs,c,f⟩:=nN I.hok e;obtain⟨M,m,d⟩:=ot.some_of (by rw[l];exact c.val k)
  exact wpAny_getItem_of (sF O) f.mapOf m (h M _ (I.tok _) d)
 .subst i
  cases(O);obtain⟨z,hd,xs,c,f⟩:=w8 I.hok e;obtain⟨M,m,d⟩:=ot.some_of (by rw[l];exact c.val k)
  obtain⟨p,q,j⟩:=zab m;refine wpAny_getItem_heap (tupleKind_room_in1 U) (pP I.hok n) f q ?_;rw[j];exact h M _ (I.tok _) d
theorem Rf(O:A.units+1<cLine)(I:Inv X U0 J H s)(g:rj H a y o)(M:RelV y u)(h:∀s',Inv X U0 J H s'->Q (.bool o.isSome) s') :
  wpAny (model X.prog X.w) A (compareOp .In u<|.ref a) Q E s:=by
 rcases g with⟨V0,k,e,f,l⟩|⟨V0,k,b,e,f,i,l⟩
 .subst f
  obtain⟨z,hd,vs,c,d⟩:=nN I.hok e;refine wpAny_in_of (sF M) hd d.mapOf ?_;rw[<-(c.val k).iy,<-l];exact h _ (I.tok _)
 .subst f
  cases(M);obtain⟨z,hd,xs,c,d⟩:=w8 I.hok e;refine wpAny_in_heap (tupleKind_room_in1 O) (pP I.hok i) hd d ?_;have q:=(c.val k).iy;rw[Option.isSome_map]at q;rw[<-q,<-l];exact h _ (I.tok _)
theorem Jj(O:A.units+1<cLine)(I:Inv X U0 J H s)(g:rj H a y o)(M:RelV y u)(h:∀s',Inv X U0 J H s'->Q (.bool<|!o.isSome) s') :
  wpAny (model X.prog X.w) A (compareOp .NotIn u<|.ref a) Q E s:=by
 rcases g with⟨V0,k,e,f,l⟩|⟨V0,k,b,e,f,i,l⟩
 .subst f
  obtain⟨z,hd,vs,c,d⟩:=nN I.hok e;refine wpAny_notIn_of (sF M) hd d.mapOf ?_;rw[<-(c.val k).iy,<-l];exact h _ (I.tok _)
 .subst f
  cases(M);obtain⟨z,hd,xs,c,d⟩:=w8 I.hok e;refine wpAny_notIn_heap (tupleKind_room_in1 O) (pP I.hok i) hd d ?_;have q:=(c.val k).iy;rw[Option.isSome_map]at q;rw[<-q,<-l];exact h _ (I.tok _)
def uF(I:Inv X U0 J H s)(l:Mut<|H a)(hs:Heap.SameBut a s.heap h')(g:∃q,h'.get? a=some q)(new:cu X.prog X.w (upd H a ob) h' a ob) :
  Inv X U0 J (upd H a ob) {s with heap:=h',toks:=M} :=
 I.write l (.inl rfl) (λb q hb z=>(hs.2 b hb).trans z) g new
def zA(z:V0.length<=sizeLine)(hd:(a==sysModules)=false)(g:KV V0 vs)(l:h'.DictOf (bX P w) a vs) :
  cu P w H' h' a (.dK V0):=⟨z,hd,vs,g,l⟩
theorem CI(U:A.units+1<cLine)(I:Inv X U0 J H s)(g:P6 H a y v H')(O:RelV y u)(M:RelV v r)(h:∀s',Inv X U0 J H' s'->Q () s') :
  wpAny (model X.prog X.w) A (setItem (.ref a) u r) Q E s:=by
 rcases g with⟨V0,k,e,m,l,eH⟩|⟨V0,k,b,e,m,t,l,eH⟩
 .subst m eH
  obtain⟨z,hd,vs,d,j⟩:=Fq I.hok e;have p:vs.length<=sizeLine:=by rw[<-d.length];exact z
  have n:(putK V0 k v).length<=sizeLine:=by have:=nM V0 k v;lia
  refine wpAny_setItem_pairs (hsz:=p) (sF O) j λh' f hs=>h _ ?_
  have F:∃q,h'.get? a=some q:=let⟨q,_,_,i,_⟩:=f;⟨q,i⟩
  exact uF I (by rw[e];exact True.intro) hs F (zA n hd (d.put k M) f)
 .subst m eH
  cases(O);obtain⟨z,hd,xs,d,j⟩:=P5 I.hok e;have p:xs.length<=sizeLine:=by rw[<-Paired.length d];exact z
  have n:(putK V0 k v).length<=sizeLine:=by have:=nM V0 k v;lia
  refine wpAny_setItem_heap (hsz:=p) (tupleKind_room_in1 U) (pP I.hok t) j λh' f hs=>h _ ?_
  obtain⟨q,es,B,i,C,h3,h4,_,D⟩:=f;refine uF I (by rw[e];exact True.intro) hs ⟨q,i⟩ ⟨n,hd,_,(d.put k t M).keeps λc G x=>?_,q,es,B,i,C,h3,h4,D⟩
  rw[aj<|OQ x e λz=>nomatch z]
  exact x
end
section
variable{X:Cx}{U0:List<|Addr×Obj}{J:St}{H:Hp}{s:Shared}{a:Addr}{V0:List<|Key×V}{k:Key}{u:Value}{A:Around}{E:Value->Shared->Prop}
theorem P7(I:Inv X U0 J H s)(e:H a=some (.dK V0))(M:RelV (kV k) u)(l:jH V0 k=some v)(hm:more=[]\/∃x,more=[x])
  (h:∀g s',Inv X U0 J (upd H a<|.dK<|nL V0 k) s'->RelV v g->Q g s'):wpAny (model X.prog X.w) A (call (.builtin "dict.pop") (.ref a::u::more)) Q E s:=by
 obtain⟨z,hd,vs,b,f⟩:=Fq I.hok e;obtain⟨g,o,d⟩:=ot.some_of (by rw[<-l];exact b.val k)
 have m:(keyPart u).isSome=true:=by
  cases k with
  |inl i=>obtain⟨t,q⟩:=(M);subst q;rfl
  |inr x=>obtain⟨t,q⟩:=(M);subst q;rfl
 have ha:argsOk "dict.pop" ⟨.ref a::u::more,[]⟩:=by
  rcases hm with q|⟨x,q⟩
  .subst q;exact PySem.F.args_dict_pop_2 _ _
  .subst q;exact PySem.F.args_dict_pop_3 _ _ _
 refine call_meetsIn PySem.F.slot_dict_pop f.typeIs PySem.F.entry_dict_pop ha (meets_dict_pop_there (bX X.prog X.w) a (sF M) more hm m)
  ⟨vs,g,f,by rw[<-b.length];exact z,o,λh' c hs=>h g _ ?_ d⟩
 have j:∃q,h'.get? a=some q:=let⟨q,_,_,n,_⟩:=c;⟨q,n⟩
 exact uF I (by rw[e];exact True.intro) hs j (zA (zaX (Fp V0 k) z) hd (b.drop k) c)
theorem P8(I:Inv X U0 J H s)(e:Rd H a<|.dK V0)(h:∀t s',Inv X U0 J H s'->Q (.int V0.length t) s'):wpAny (model X.prog X.w) A (call (.builtin "len") [.ref a]) Q E s:=by
 obtain⟨z,hd,vs,b,c⟩:=nN I.hok e;refine call_len_dict hd c (by rw[<-b.length];rw[sizeLine_eq]at z;lia) ?_
 rw[<-b.length];exact h _ _ (I.tok _)
end
def NW(i:Expr):Prop:=∀h e,subscripted i false h e=operate [h,e] (getItem h e)
theorem Jk{E:Value->Shared->Prop}{s:Shared}{env:Env}{l g:Expr}{pos:Pos}{T id:String}{Q:Value->Shared->Prop}
  (O:typeLookup (.type T) "__getitem__"=pure (some<|.builtin id)) (hs:NW g)
  (h:wpAny (model prog w) A (eval l env) (λo M=>wpAny (model prog w) A (eval g env) (λi I=>I.TypeIs o T/\wpAny (model prog w) A (getItem o i) Q E I) E M) E s) :
  wpAny (model prog w) A (eval (.Subscript l g pos) env) Q E s:=by
 refine Subscript_ (za6 h (λo M d=>za6 d (λi I a=>?_) λ_ _ x=>x) λ_ _ x=>x)
 obtain⟨f,a⟩:=a;refine zaI ?_;refine zaI (wpAny_specialOf f O ?_);have c:wpAny (model prog w) A (subscripted g false o i) (λr b=>wpAny (model prog w) A (letTemporaryGo l o r>>=λ_=>pure r) Q E b) E I:=by
  rw[hs o i];exact wpAny_operating (za6 a (λr b e=>zaI<|wpAny_letTemporaryGo<|zaZ e) λ_ _ x=>x)
 first
  |exact zaZ (zaI c)
  |exact zaI (zaZ (zaI c))
  |exact zaI c
theorem w9{J:St}{H:Hp}{s:Shared}{a:Addr}{y:V}{o:Option V}(I:Inv X U0 J H s)(g:rj H a y o):s.TypeIs (.ref a) "dict":=by
 rcases g with⟨V0,k,e,_,_⟩|⟨V0,k,b,e,_,_,_⟩
 .obtain⟨_,_,vs,_,c⟩:=nN I.hok e
  exact c.typeIs
 .obtain⟨_,_,xs,_,c⟩:=w8 I.hok e
  exact c.typeIs
def Lj(M ty:TE):TE:=λJ H Q=>M J H λx h=>ty J h λy e=>∃a v,x=.ref a/\rj e a y (some v)/\Q v e
def Rg(ty M:TE):TE:=λJ H Q=>ty J H λy h=>M J h λx e=>∃a o,x=.ref a/\rj e a y o/\Q (.bl o.isSome) e
def Jl(ty M:TE):TE:=λJ H Q=>ty J H λy h=>M J h λx e=>∃a o,x=.ref a/\rj e a y o/\Q (.bl<|!o.isSome) e
def Fs(M ty O:TE):TS:=λD J H=>O J H λv h=>M J h λx j=>ty J j λy q=>∃a e,x=.ref a/\P6 q a y v e/\D.nx J e
section
variable{X:Cx}{o i e value:Expr}{pos pos' tpos:Pos}{td ty tv:TE}
theorem Jm(l:X.A.units+1<cLine)(ho:PE X o td)(hi:PE X i ty)(hs:NW i):PE X (.Subscript o i pos) (Lj td ty):=by
 intro U0 s J H Q I h;refine Jk PySem.F.slot_dict_getitem.lookup hs (thn (ho U0 s J H _ I h) λu s1 ⟨x,d,j,p,m⟩=>thn (hi U0 s1 J d _ j m) λr s2 ⟨y,f,c,q,a,v,ex,g,n⟩=>?_)
 subst ex;obtain rfl:u=Value.ref a:=p;exact⟨w9 c g,CH l c g q λw t k b=>⟨v,f,k,b,n⟩⟩
theorem NX(l:X.A.units+1<cLine)(hi:PE X i ty)(ho:PE X o td):PC X .In i o (Rg ty td):=by
 intro U0 s J H Q I h;refine thn (hi U0 s J H _ I h) λr s1 ⟨y,b,d,q,m⟩=>thn (ho U0 s1 J b _ d m) λu s2 ⟨x,c,f,p,a,k,ex,g,n⟩=>?_
 subst ex;obtain rfl:u=Value.ref a:=p;exact Rf l f g q λt j=>⟨.bl k.isSome,c,j,rfl,n⟩
theorem CJ(l:X.A.units+1<cLine)(hi:PE X i ty)(ho:PE X o td):PC X .NotIn i o (Jl ty td):=by
 intro U0 s J H Q I h;refine thn (hi U0 s J H _ I h) λr s1 ⟨y,b,d,q,m⟩=>thn (ho U0 s1 J b _ d m) λu s2 ⟨x,c,f,p,a,k,ex,g,n⟩=>?_
 subst ex;obtain rfl:u=Value.ref a:=p;exact Jj l f g q λt j=>⟨.bl<|!k.isSome,c,j,rfl,n⟩
theorem Jn(l:X.A.units+1<cLine)(ho:PE X o td)(hi:PE X i ty)(M:PE X value tv)(hs:swapsWith value (some<|.Subscript o i pos') pos.line X.env=pure false) :
  PS X (.Assign [.Subscript o i pos'] value pos) (Fs td ty tv):=by
 intro U0 s J H D I h;refine wpAny_Assign_Subscript (thn (M U0 s J H _ I h) λr s1 ⟨v,b,f,t,n⟩=>thn (ho U0 s1 J b _ f n) λu s2 ⟨x,c,j,w,p⟩=>thn (hi U0 s2 J c _ j p) λE F ⟨y,C,k,B,a,d,ex,g,q⟩=>?_) hs
 subst ex;obtain rfl:u=Value.ref a:=w;exact CI l k g B t λG m=>⟨J,d,m,q⟩
end
def Ft(h:Heap)(hb:sysModules<h.objs.size):cu P w H (h.push {cls:=.type "dict",data:=.dict #[]}) h.objs.size (.dK []) :=
 ⟨Nat.zero_le _,beq_eq_false_iff_ne.mpr<|Ne.symm<|zaS hb,[],.nil,Heap.DictOf.new h⟩
def Fu:TE:=λ_ H Q=>∀p,H p=none->Q (.ref p) (upd H p<|.dK [])
section
variable{X:Cx}{pos:Pos}
def Fv:PE X (.Dict [] [] pos) Fu:=λU0 s J H Q I h=>
 wpAny_Dict_empty ⟨.ref s.heap.objs.size,_,I.laid (λ_ _ q=>zar _ q) (zap _)<|Ft s.heap I.big,rfl,h _<|I.hok.fresh<|zap _⟩
end
section
variable{X:Cx}{U0:List<|Addr×Obj}{J:St}{H:Hp}{s:Shared}{a:Addr}{V0:List<|Key×V}{A:Around}{E:Value->Shared->Prop}
theorem Fw(I:Inv X U0 J H s)(e:Rd H a<|.dK V0)(h:∀p s',H p=none->Inv X U0 J (upd H p<|.dK V0) s'->Q (.ref p) s'):wpAny (model X.prog X.w) A (call (.type "dict") [.ref a]) Q E s:=by
 obtain⟨z,hd,vs,c,i⟩:=nN I.hok e;refine kt_call_dict hd i (by rw[<-c.length];exact z) λh' d hs=>?_
 refine h _ _ (I.hok.fresh<|zap _) (I.laid (λb q f=>?_) (zap _)<|zA z (beq_eq_false_iff_ne.mpr<|Ne.symm<|zaS I.big) c d)
 exact(hs.2 b<|zaS<|zaq f).trans (zar _ f)
end
end L2
namespace Mir
open L2
variable [Zc]
def xa:PM:=λL=>some ((.dict [],.new),L)
theorem Jo:ME Fu xa:=by
 intro F B H J L r ρ' Q R e q;cases e;exact eY (Y0:=(.dict [],true)) (k:=λQ=>∀p,H p=none->Q (.ref p) (upd H p<|.dK [])) (Q:=Q) R ⟨[],.nil,λQ h=>h⟩ λv B' H' E a b N=>q v B' H' E a b N
noncomputable def uG:Option Sl->Option (List<|D×D)
 |some (.own (.dict es))=>some es
 |some (.io (.dict es))=>some es
 |_=>none
theorem A5(h:uG s=some es):∃t,s=some t/\t.cV=true/\slD t=.dict es:=by
 unfold uG at h;split at h
 .cases h;exact⟨_,rfl,rfl,rfl⟩
 .cases h;exact⟨_,rfl,rfl,rfl⟩
 .cases h
theorem Own.dict{es:List<|D×D}(h:Own B H p<|.dict es):∃V0,H p=some (.dK V0)/\aV B V0 es:=by
 cases h with
 |dct h r=>exact⟨_,h,r⟩
theorem aV.snoc(hk:uh k c)(g:Rep B x d):∀{V0:List<|Key×V} {es:List<|D×D},aV B V0 es->aV B (V0++[(k,x)]) (es++[(c,d)])
 |_,_,.nil=>.cons hk g .nil
 |_,_,.cons a b r=>.cons a b (aV.snoc hk g r)
theorem aV.length:∀{V0:List<|Key×V} {es:List<|D×D},aV B V0 es->V0.length=es.length
 |_,_,.nil=>rfl
 |_,_,.cons _ _ r=>by rw[zaw,zaw,aV.length r]
end Mir
namespace L2
open PySem.Spec PyProof.Rows
section
variable{X:Cx}
def Lk:List V->Hp->VK->Prop:=λxs H Q=>∃a V0,xs=[V.ref a]/\Rd H a (.dK V0)/\Q (.int V0.length) H
theorem CK:cE X (.builtin "len") Lk:=by
 intro U0 s J H xs us Q I r h;obtain⟨a,V0,rfl,ha,q⟩:=h;cases r with
 |cons c r=>
  cases r;obtain rfl:=c;exact P8 I ha λt s' b=>⟨.int V0.length,H,b,⟨t,rfl⟩,q⟩
def Fx:List V->Hp->VK->Prop:=λxs H Q=>∃a V0,xs=[V.ref a]/\Rd H a (.dK V0)/\∀p,H p=none->Q (.ref p) (upd H p<|.dK V0)
theorem zB:cE X (.type "dict") Fx:=by
 intro U0 s J H xs us Q I r h;obtain⟨a,V0,rfl,ha,q⟩:=h;cases r with
 |cons d r=>
  cases r;obtain rfl:=d;exact Fw I ha λp s' c b=>⟨.ref p,_,b,rfl,q p c⟩
def Fy:List V->Hp->VK->Prop:=λxs H Q=>∃a V0,xs=[V.ref a]/\Rd H a (.dK V0)/\∀p,H p=none->Q (.ref p) (upd H p<|.lst<|V0.map λq=>kV q.1)
theorem Fz(h:(bX P w).is k u=true):RelV (kV k) u:=by
 rcases cb h with⟨i,t,rfl,rfl⟩|⟨x,t,rfl,rfl⟩
 .exact⟨t,rfl⟩
 .exact⟨t,rfl⟩
theorem CL(us:List Value)(r:KV V0 vs)(g:us.length=vs.length)(l:∀(j:Nat) (v:Value),us[j]?=some v->∃k x,vs[j]?=some (k,x)/\(bX P w).is k v=true):Vals (V0.map λq=>kV q.1) us:=by
 induction r generalizing us with
 |nil=>
  cases us with
  |nil=>exact .nil
  |cons u us=>cases g
 | @cons a b n p h t m=>
  cases us with
  |nil=>cases g
  |cons u us=>
   obtain⟨k,x,c,d⟩:=l 0 u rfl;have f:b=(k,x):=by simpa using c
   subst f;have i:=h.1;refine .cons ?_ (m us (by simpa using g) λj v e=>l (j+1) v (by simpa using e))
   show RelV (kV a.1) u;rw[i];exact Fz d
theorem xb(g:X.calm=true):cE X (.type "list") Fy:=by
 intro U0 s J H xs us Q I r h;obtain⟨a,V0,rfl,ha,q⟩:=h;cases r with
 |cons n r=>
  cases r;obtain rfl:=n;obtain⟨z,hd,vs,d,i⟩:=nN I.hok ha;obtain⟨p,f⟩:=i.dictAt;refine PySem.W.kdl_call (PySem.W.kdl_dict hd) (I.ok.hd g) f (by rw[<-d.length];exact z) λh' tk b c' hk k c=>?_
  have m:=CL b.toList d (by rw[Array.length_toList];exact c.1) λj u e=>c.2 j u (by rw[<-Array.getElem?_toList];exact e)
  refine⟨.ref s.heap.objs.size,_,I.laid (o:=.lst<|V0.map λq=>kV q.1) hk (zap _) ⟨by rw[zal];exact z,b.toList,c',m,?_⟩,rfl,q _<|I.hok.fresh<|zap _⟩
  rw[k,Array.toArray_toList]
end
end L2
namespace Mir
open L2
variable [Zc]
noncomputable def keyOf:D->Option Key
 | .int i=>some (.inl i)
 | .str x=>some (.inr x)
 |_=>none
theorem uh.of(h:uh k c):keyOf c=some k:=by
 cases k with
 |inl i=>obtain rfl:=(h);rfl
 |inr x=>obtain rfl:=(h);rfl
theorem A6(h:keyOf c=some k):uh k c:=by
 unfold keyOf at h;split at h
 .cases h;exact rfl
 .cases h;exact rfl
 .cases h
def cO:List (D×D)->Key->Option D
 | [],_=>none
 |(c,d)::r,k=>if keyOf c=some k then some d else cO r k
theorem iz{B:Hp}{k:Key}:∀{V0:List<|Key×V} {es:List<|D×D},aV B V0 es->(∀d,cO es k=some d->∃u,jH V0 k=some u/\Rep B u d)/\(cO es k=none->jH V0 k=none)
 |_,_,.nil=>⟨λd h=>(by cases h),λ_=>rfl⟩
 |_,_,.cons (k:=b) (x:=x) (c:=c) (d:=d) (V0:=V0) (es:=es) hk i r=>by
  have j:=iz (k:=k) r
  by_cases e:b=k
  .subst e
   have a:cO ((c,d)::es) b=some d:=if_pos hk.of;refine⟨λm h=>?_,λh=>?_⟩
   .rw[a]at h;cases h
    exact⟨x,jS rfl,i⟩
   .rw[a]at h;cases h
  .have f:jH ((b,x)::V0) k=jH V0 k:=jT e
   have a:cO ((c,d)::es) k=cO es k:=if_neg λz=>e (by rw[hk.of]at z;exact zaQ z)
   rw[f,a];exact j
theorem View.key(h:View B H y d)(e:keyOf d=some k):y=kV k:=by
 unfold keyOf at e;split at e
 .cases e
  rcases h with h|⟨p,_,h⟩
  .cases h;rfl
  .cases h
 .cases e
  rcases h with h|⟨p,_,h⟩
  .cases h;rfl
  .cases h
 .cases e
def P9:R2:=λx y H Q=>∃a v,x=.ref a/\rj H a y (some v)/\Q v H
def Rh:R2:=λy x H Q=>∃a o,x=.ref a/\rj H a y o/\Q (.bl o.isSome) H
def Jp:R2:=λy x H Q=>∃a o,x=.ref a/\rj H a y o/\Q (.bl<|!o.isSome) H
def a7:D->D->Option (D×Bool)
 | .dict es,c=>(keyOf c).bind λk=>(cO es k).map λd=>(d,false)
 |_,_=>none
theorem Qa:OpJ P9 a7:=by
 intro B H x y c d n s h i e;unfold a7 at e;split at e
 .obtain⟨k,b,e⟩:=zaa e
  obtain⟨v,f,e⟩:=zab e;cases e;obtain rfl:=i.key b;obtain⟨a,V0,rfl,j,m⟩:=h.dict s;obtain⟨u,h3,h4⟩:=(iz m).1 v f;exact⟨u,h4,λQ q=>⟨a,u,rfl,.inl ⟨V0,k,j,rfl,h3.symm⟩,q⟩⟩
 .cases e
def zC:D->D->Option (D×Bool)
 |c,.dict es=>(keyOf c).map λk=>(.bool (cO es k).isSome,false)
 |_,_=>none
def cP:D->D->Option (D×Bool)
 |c,.dict es=>(keyOf c).map λk=>(.bool<|!(cO es k).isSome,false)
 |_,_=>none
theorem uH(r:aV B V0 es):(jH V0 k).isSome=(cO es k).isSome:=by
 cases h:cO es k with
 |none=>rw[(iz r).2 h];rfl
 |some d=>obtain⟨u,a,_⟩:=(iz r).1 d h;rw[a];rfl
theorem Qb:OpJ Rh zC:=by
 intro B H y x c d m s h f e;unfold zC at e;split at e
 .obtain⟨k,b,e⟩:=zab e
  cases e;obtain rfl:=h.key b;obtain⟨a,V0,rfl,i,j⟩:=f.dict s;exact⟨.bl _,.bl _,λQ q=>⟨a,_,rfl,.inl ⟨V0,k,i,rfl,rfl⟩,by rw[uH j];exact q⟩⟩
 .cases e
theorem FA:OpJ Jp cP:=by
 intro B H y x c d m s h f e;unfold cP at e;split at e
 .obtain⟨k,b,e⟩:=zab e
  cases e;obtain rfl:=h.key b;obtain⟨a,V0,rfl,i,j⟩:=f.dict s;exact⟨.bl _,.bl _,λQ q=>⟨a,_,rfl,.inl ⟨V0,k,i,rfl,rfl⟩,by rw[uH j];exact q⟩⟩
 .cases e
noncomputable def lX:List D->Option (D×Bool)
 | [.dict es]=>some (.int es.length,false)
 |_=>none
theorem NY:ik Lk lX:=by
 intro B H vs ds f s h e;unfold lX at e;split at e
 .cases e
  obtain⟨v,rfl,b⟩:=dC h;obtain⟨a,V0,rfl,c,d⟩:=b.dict s;exact dh λQ q=>⟨a,V0,rfl,c,by rw[d.length];exact q⟩
 .cases e
noncomputable def jU:List D->Option (D×Bool)
 | [.dict es]=>some (.dict es,true)
 |_=>none
theorem Jq:ik Fx jU:=by
 intro B H vs ds f s h e;unfold jU at e;split at e
 .cases e
  obtain⟨v,rfl,b⟩:=dC h;obtain⟨a,V0,rfl,c,d⟩:=b.dict s;exact⟨V0,d,λQ q=>⟨a,V0,rfl,c,q⟩⟩
 .cases e
def lA:List D->Option (D×Bool)
 | [.dict es]=>some (.list (es.map (·.1)),true)
 |_=>none
theorem pQ:∀{V0:List<|Key×V} {es:List<|D×D},aV B V0 es->aJ B (V0.map λq=>kV q.1) (es.map (·.1))
 |_,_,.nil=>.nil
 |_,_,.cons (k:=k) hk a r=>by
  refine .cons ?_ (pQ r);cases k with
  |inl i=>obtain rfl:=(hk);exact .int i
  |inr x=>obtain rfl:=(hk);exact .str x
theorem Jr:ik Fy lA:=by
 intro B H vs ds f s h e;unfold lA at e;split at e
 .cases e
  obtain⟨v,rfl,b⟩:=dC h;obtain⟨a,V0,rfl,c,d⟩:=b.dict s;exact⟨_,pQ d,λQ q=>⟨a,V0,rfl,c,q⟩⟩
 .cases e
def putD(es:List<|D×D)(c d:D)(k:Key):List (D×D):=if(cO es k).isSome then es.map λp=>if keyOf p.1=some k then(p.1,d)else p else es++[(c,d)]
theorem A7(k:Key):∀V0:List (Key×V),(V0.any λg=>decide<|g.1=k)=(jH V0 k).isSome
 | []=>rfl
 |p::l=>by
  rw[List.any_cons,A7 k l]
  by_cases h:p.1=k
  .rw[jS h,zaH h];rfl
  .rw[jT h,zaO h];rfl
theorem aV.map(l:Rep B v d):∀{V0:List<|Key×V} {es:List<|D×D},aV B V0 es->aV B (V0.map λp=>if p.1=k then(p.1,v)else p) (es.map λp=>if keyOf p.1=some k then(p.1,d)else p)
 |_,_,.nil=>.nil
 |_,_,.cons (k:=h) c f t=>by
  rw[zaz,zaz]
  by_cases e:h=k
  .subst e
   rw[if_pos rfl,if_pos c.of];exact .cons c l (aV.map l t)
  .rw[if_neg e,if_neg λz=>e (by rw[c.of]at z;exact zaQ z)]
   exact .cons c f (aV.map l t)
theorem aV.put(hk:uh k c)(g:Rep B v d)(r:aV B V0 es):aV B (putK V0 k v) (putD es c d k):=by
 unfold putK putD;rw[A7,uH r];split
 .exact aV.map g r
 .exact aV.snoc hk g r
def eC(i:Nat)(a b:PM):SM:=λL=>(sv a L).bind λx=>(gK x.1 x.2).bind λy=>(uG y.2[i]?).bind λ_=>(sv b y.2).bind λz=>(keyOf z.1.1).bind λk=>(uG z.2[i]?).bind λes=>cIf (es.length<100000) (some<|.nx<|Mir.putAt z.2 i<|.dict<|putD es z.1.1 y.1 k) none
theorem Js(ha:ME U a)(hb:ME ty b):MS (Fs (lg i) ty U) (eC i a b):=by
 intro F B H J L o D R e q
 fail "q1"
 obtain⟨g,V,e⟩:=zaa e;obtain⟨z,W,e⟩:=zaa e;obtain⟨k,t,e⟩:=zaa e;obtain⟨es,X,e⟩:=zaa e;obtain⟨hz,e⟩:=bQ e;cases e
 fail "q2"
 have w:=(Vl.weak (vs:=[v]) (rs:=[x.1]) ⟨⟨E,fJ A⟩,trivial⟩).1;obtain⟨K,R2,O,Y⟩:=f.frz w ρ;obtain⟨s0,n,m,I⟩:=A5 V;obtain⟨p,r,hB,ow⟩:=R2.ownAt n m;refine⟨_,r,?_⟩;refine hb.sv F K C J y.2 z.1 z.2 _ R2 W λu N H3 P h S N3=>?_
 obtain rfl:=(S.view h).key t;obtain⟨s,hs,ho,hd⟩:=A5 X;obtain⟨p',c,l,d⟩:=h.ownAt hs ho;rw[r]at c;cases c;rw[hd]at d;obtain⟨V0,M,σ⟩:=d.dict;obtain⟨Q,E4⟩:=h.write hs ho r ⟨(λ_ z=>by cases z),λ_ _ z=>by cases z⟩ (.dct ak<|aV.put (A6 t) (O.mono P.sB) σ)
 have Z:Mir.putAt z.2 i (.dict<|putD es z.1.1 y.1 k)=z.2.set i (s.put<|.dict<|putD es z.1.1 y.1 k):=by unfold Mir.putAt;rw[hs]
 rw[Z]at q;exact⟨p,_,rfl,.inl ⟨V0,k,M,rfl,by rw[σ.length,sizeLine_eq];lia,rfl⟩,q N _ J Q⟩
end Mir
namespace L2
open PySem.Spec PyProof.Rows
section
variable{X:Cx}{U0:List<|Addr×Obj}{J:St}{H:Hp}{s:Shared}{a:Addr}{V0:List<|Key×V}
theorem Inv.view(I:Inv X U0 J H s)(e:H a=some u)(nt:∀xs,u≠.tup xs)(no:∀x,u≠.own x)(nz:∀o v,X.H₀ a≠some (.frz o v))(nb:∀ps,u≠.tbl ps)(new:cu X.prog X.w (upd H a g) s.heap a g):Inv X U0 J (upd H a g) s:=by
 have d:∀b,H b=none->b≠a:=λb z y=>by rw[y,e]at z;cases z
 refine⟨I.ok,I.os,I.bare,⟨I.base.keep,I.base.slot,λb o q n B=>?_,I.base.there,λb xs q=>?_,λb o v q=>?_,λb ps q=>?_⟩,I.loc,I.cell,?_,λx c t=>?_,λp A=>?_,λb v q=>?_,I.len⟩
 .have:=I.base.free b o q n B
  rw[aj<|d b this];exact this
 .have z:=I.base.tups b xs q
  rw[aj λy=>by rw[y,e]at z;exact nt xs (zaQ z)];exact z
 .have z:=I.base.lK b o v q
  rw[aj λy=>nz o v (by rw[<-y];exact q)];exact z
 .obtain⟨m,z⟩:=I.base.la b ps q
  exact⟨m,by rw[aj λy=>by rw[y,e]at z;exact nb _ (zaQ z)];exact z⟩
 .rw[aj<|d _ I.free];exact I.free
 .have z:=I.ic x c t
  rw[aj<|d _ z];exact z
 .obtain⟨h,f,i,j,k⟩:=I.pin p A
  exact⟨h,by rw[aj<|d _ f];exact f,i,j,k⟩
 .by_cases z:b=a
  .subst z
   rw[ak]at q;cases q;exact new
  .rw[aj z]at q
   refine(I.hok b v q).stay (λ_ _ _ r=>r) (λc r=>?_) λc xs hk r=>?_
   .rw[aj λy=>by rw[y,e]at r;exact no b (zaQ r)];exact r
   .rw[aj (λy=>by
     rw[y,e]at r;cases xs with
     |tup l=>exact nt l (zaQ r)
     |tbl l=>exact nb l (zaQ r)
     |_=>exact hk)];exact r
theorem Inv.FC(I:Inv X U0 J H s)(e:H a=some (.dK V0)):∀o v,X.H₀ a≠some (.frz o v):=λo v z=>by
 have:=I.base.lK a o v z;rw[e]at this;cases this
theorem Inv.Qc(I:Inv X U0 J H s)(e:H a=some (.dK V0)):∃o,Inv X U0 J (upd H a<|.frz o<|.dK V0) s:=by
 obtain⟨z,hd,vs,b,c⟩:=Fq I.hok e;obtain⟨o,es,d,ho,r⟩:=id c;exact⟨o,I.view e (λ_ z=>by cases z) (λ_ z=>by cases z) (I.FC e) (λ_ z=>by cases z) ⟨ho,z,hd,vs,b,c⟩⟩
theorem Inv.pR(I:Inv X U0 J H s)(e:H a=some (.frz o<|.dK V0))(nz:∀o v,X.H₀ a≠some (.frz o v)):Inv X U0 J (upd H a<|.dK V0) s:=by
 obtain⟨_,z,hd,vs,b,c⟩:=I.hok a _ e;exact I.view e (λ_ z=>by cases z) (λ_ z=>by cases z) nz (λ_ z=>by cases z) ⟨z,hd,vs,b,c⟩
def Qd(a:Addr)(o:Obj)(V0:List<|Key×V)(D:Ends):Ends where
 nx:=λJ H=>H a=some (.frz o<|.dK V0)/\D.nx J (upd H a<|.dK V0)
 rt:=λv H=>H a=some (.frz o<|.dK V0)/\D.rt v (upd H a<|.dK V0)
 bk:=λJ H=>H a=some (.frz o<|.dK V0)/\D.bk J (upd H a<|.dK V0)
 ct:=λJ H=>H a=some (.frz o<|.dK V0)/\D.ct J (upd H a<|.dK V0)
def Ll(t:TS):TS:=λD J H=>∃a V0,H a=some (.dK V0)/\∀o,t (Qd a o V0 D) J (upd H a<|.frz o<|.dK V0)
theorem NZ{st:Stmt}(h:PS X st t):PS X st (Ll t):=by
 intro U0 s J H D I j;obtain⟨a,V0,e,q⟩:=j;obtain⟨o,i⟩:=I.Qc e;have nz:=I.FC e;refine za6 (h U0 s J _ _ i<|q o) (λf s1 z=>?_) λ_ _ z=>z
 cases f with
 |next=>obtain⟨b,H',c,d,z⟩:=z;exact⟨b,_,c.pR d nz,z⟩
 |brk=>obtain⟨b,H',c,d,z⟩:=z;exact⟨b,_,c.pR d nz,z⟩
 |cont=>obtain⟨b,H',c,d,z⟩:=z;exact⟨b,_,c.pR d nz,z⟩
 |ret u=>obtain⟨v,b,H',c,r,d,z⟩:=z;exact⟨v,b,_,c.pR d nz,r,z⟩
def Lm(t:TE):TE:=λJ H Q=>∃a V0,H a=some (.dK V0)/\∀o,t J (upd H a<|.frz o<|.dK V0) λv H'=>H' a=some (.frz o<|.dK V0)/\Q v (upd H' a<|.dK V0)
theorem N0(h:PE X ex t):PE X ex (Lm t):=by
 intro U0 s J H Q I f;obtain⟨a,V0,e,q⟩:=f;obtain⟨o,c⟩:=I.Qc e;have nz:=I.FC e;refine za6 (h U0 s J _ _ c<|q o) (λu s1 z=>?_) λ_ _ z=>z
 obtain⟨v,H',b,r,d,z⟩:=z;exact⟨v,_,b.pR d nz,r,z⟩
def ItD(a:Addr)(o:Obj)(V0:List<|Key×V):It where
 go:=λi H=>H a=some (.frz o<|.dK V0)/\i<V0.length
 yld:=λi H x H'=>H'=H/\∃k v,V0[i]?=some (k,v)/\x=kV k
 stop:=λi H=>H a=some (.frz o<|.dK V0)/\V0.length<=i
theorem Qe(r:KV V0 vs)(i:Nat)(h:vs[i]?=some (k,x)):∃v,V0[i]?=some (k,v):=by
 induction r generalizing i with
 |nil=>simp at h
 |cons b t c=>
  cases i with
  |zero=>
   rename_i p q l d
   have e:q=(k,x):=by simpa using h
   subst e;exact⟨p.2,by show some p=_;exact congrArg some (Prod.ext b.1 rfl)⟩
  |succ i=>simpa using c i (by simpa using h)
theorem CM{K:zag}{tg:Expr}{a it:Addr}{o:Obj}{V0:List<|Key×V}{vs:List<|Key×Value}{O:Nat}{g:Heap}(l:KV V0 vs)(ho:g.get? a=some o)(M:g.DictAt (bX P w) a vs O) :
  Turn P w K tg (ItD a o V0) [it] it (λi h=>h.IsKeyIter it a i vs.length O) where
 mem:=by simp
 obj:=λi h st b hb=>by
  have e:b=it:=by simpa using hb
  subst e;obtain⟨o,e,c,d⟩:=st;exact⟨o,e,λv z=>by rw[d]at z;cases z⟩
 keep:=λi h h' st k=>st.at λo e=>k it (by simp) o e
 item:=by
  intro X G N F y i U0 s J H E I m st f;obtain⟨u,hi⟩:=f;obtain⟨f,_⟩:=I.hok a _ u;have hd:=M.at' λo' e=>by rw[ho]at e;cases e;exact f
  obtain⟨f0,f1,f2,n,r,t⟩:=m it (by simp)
  have σ:=l.length;obtain⟨⟨k,x⟩,B⟩:∃p,vs[i]?=some p:=⟨vs[i]'(by lia),by simp⟩
  refine wpAny_pyNext_dict_item st hd B λkey h' j st' sb=>?_
  have C:Inv X U0 J H {s with heap:=h'}:=I.turned (λb o hb e=>(sb.2 b hb).trans e) f0 f1 n r t
  obtain⟨R,e,c,d⟩:=id st';obtain⟨v,ρ⟩:=Qe l i B;exact⟨key,rfl,wk e c d (by decide) ⟨kV k,H,C,Fz j,⟨rfl,k,v,ρ,rfl⟩,st',λb hb=>(m b hb).1⟩⟩
 done:=by
  intro X G N F y i U0 s J H E I m st f;obtain⟨u,hi⟩:=f;obtain⟨f,_⟩:=I.hok a _ u;have hd:=M.at' λo' e=>by rw[ho]at e;cases e;exact f
  obtain⟨f0,f1,f2,n,r,t⟩:=m it (by simp)
  have σ:=l.length;exact wpAny_pyNext_dict_end (I.ok.hd y) st hd (by simp;lia) λh' D=>⟨rfl,I.turned (λb o hb e=>D b o hb e) f0 f1 n r t⟩
 self:=λA i s Q E st q=>wpAny_pyIter_keyiter st q
def N7(tl:TE):TI:=λJ H R=>tl J H λx e=>∃a o V0,x=.ref a/\e a=some (.frz o<|.dK V0)/\R (ItD a o V0) e
theorem Jt(g:PE X l tl):PI X tg l (N7 tl):=by
 intro U0 s J H R I h;refine thn (g U0 s J H _ I h) λv s1 ⟨x,i,d,n,m⟩=>?_
 obtain⟨a,o,V0,e,k,q⟩:=m;subst e;cases n;obtain⟨ho,z,hd,vs,f,j⟩:=d.hok a _ k;obtain⟨p,c⟩:=j.dictAt;refine wpAny_pyIter_dict hd c ?_;refine⟨s1.heap.objs.size,[s1.heap.objs.size],_,_,i,rfl,d.kept λb o e=>zar _ e,CM f ho c,⟨_,zaL _ rfl,rfl,rfl⟩,λb hb=>?_,q⟩
 have e:b=s1.heap.objs.size:=by simpa using hb
 subst e;exact d.mF (zap _) (d.hok.fresh<|zap _)
end
end L2
namespace Mir
open L2
variable [Zc]
mutual
theorem Rep.map(I:∀p xs,Rd B p (.lst xs)->Rd B' p (.lst xs))(M:∀p xs,B p=some (.tup xs)->B' p=some (.tup xs))(l:∀p V0,Rd B p (.dK V0)->Rd B' p (.dK V0)):∀{v:V} {d:D},Rep B v d->Rep B' v d
 |_,_,.non=>.non
 |_,_,.bl b=>.bl b
 |_,_,.int i=>.int i
 |_,_,.str x=>.str x
 |_,_,.lst h r=>.lst (I _ _ h) (aJ.map I M l r)
 |_,_,.tup h r=>.tup (M _ _ h) (aJ.map I M l r)
 |_,_,.dct h r=>.dct (l _ _ h) (aV.map' I M l r)
theorem aJ.map(I:∀p xs,Rd B p (.lst xs)->Rd B' p (.lst xs))(M:∀p xs,B p=some (.tup xs)->B' p=some (.tup xs))(l:∀p V0,Rd B p (.dK V0)->Rd B' p (.dK V0)):∀{vs:List V} {ds:List D},aJ B vs ds->aJ B' vs ds
 |_,_,.nil=>.nil
 |_,_,.cons h r=>.cons (Rep.map I M l h) (aJ.map I M l r)
theorem aV.map'(l:∀p xs,Rd B p (.lst xs)->Rd B' p (.lst xs))(I:∀p xs,B p=some (.tup xs)->B' p=some (.tup xs))(g:∀p V0,Rd B p (.dK V0)->Rd B' p (.dK V0)):∀{V0:List<|Key×V} {es:List<|D×D},aV B V0 es->aV B' V0 es
 |_,_,.nil=>.nil
 |_,_,.cons hk h r=>.cons hk (Rep.map l I g h) (aV.map' l I g r)
end
section
variable{B:Hp}{a:Addr}{o:Obj}{V0:List<|Key×V}
theorem mU(g:B a=some (.dK V0)):∀p xs,Rd B p (.lst xs)->Rd (upd B a<|.frz o<|.dK V0) p (.lst xs):=λp xs h=>by
 by_cases z:p=a
 .subst z
  rcases h with h|⟨o',h⟩<;>(rw[g]at h;cases h)
 .rcases h with h|⟨o',h⟩
  .exact .inl (by rw[aj z];exact h)
  .exact .inr ⟨o',by rw[aj z];exact h⟩
theorem mV(g:B a=some (.dK V0)):∀p xs,B p=some (.tup xs)->upd B a (.frz o<|.dK V0) p=some (.tup xs):=λp xs h=>by
 rw[aj λz=>by rw[z,g]at h;cases h];exact h
theorem mW(l:B a=some (.dK V0)):∀p g,Rd B p (.dK g)->Rd (upd B a<|.frz o<|.dK V0) p (.dK g):=λp xs h=>by
 by_cases z:p=a
 .subst z
  rcases h with h|⟨o',h⟩
  .rw[l]at h;cases h
   exact .inr ⟨o,ak⟩
  .rw[l]at h;cases h
 .rcases h with h|⟨o',h⟩
  .exact .inl (by rw[aj z];exact h)
  .exact .inr ⟨o',by rw[aj z];exact h⟩
theorem mX(g:B a=some (.frz o<|.dK V0)):∀p xs,Rd B p (.lst xs)->Rd (upd B a<|.dK V0) p (.lst xs):=λp xs h=>by
 by_cases z:p=a
 .subst z
  rcases h with h|⟨o',h⟩<;>(rw[g]at h;cases h)
 .rcases h with h|⟨o',h⟩
  .exact .inl (by rw[aj z];exact h)
  .exact .inr ⟨o',by rw[aj z];exact h⟩
theorem mY(g:B a=some (.frz o<|.dK V0)):∀p xs,B p=some (.tup xs)->upd B a (.dK V0) p=some (.tup xs):=λp xs h=>by
 rw[aj λz=>by rw[z,g]at h;cases h];exact h
theorem mZ(l:B a=some (.frz o<|.dK V0)):∀p g,Rd B p (.dK g)->Rd (upd B a<|.dK V0) p (.dK g):=λp xs h=>by
 by_cases z:p=a
 .subst z
  rcases h with h|⟨o',h⟩
  .rw[l]at h;cases h
  .rw[l]at h;cases h
   exact .inl ak
 .rcases h with h|⟨o',h⟩
  .exact .inl (by rw[aj z];exact h)
  .exact .inr ⟨o',by rw[aj z];exact h⟩
end
def jV(L:Rho):Bool:=L.all λs=>match s with
 | .ro _=>false
 |_=>true
theorem A8(h:jV L=true){i:Nat}(z : L[i]?=some (.ro d)):False:=by
 have:=(List.all_eq_true.mp h) _ (zaj z);cases this
noncomputable def Fr.hide(F:Fr)(a:Addr)(u:HO):Fr:=⟨λq=>if q=a then(F.B a).map λ_=>u else F.B q,λq=>if q=a then(F.H a).map λ_=>u else F.H q,F.io,λq=>F.Z q\/q=a⟩
section
variable{F:Fr}{B H:Hp}{J:St}{L:Rho}{a:Addr}{o:Obj}{V0:List<|Key×V}
theorem Own.ne(l:B p=none)(I:B a=some u):p≠a:=λz=>by rw[z,I]at l;cases l
theorem Rel.hide(R:Rel F B H J L)(g:B a=some (.dK V0))(nr:jV L=true):Rel (F.hide a<|.frz o<|.dK V0) (upd B a<|.frz o<|.dK V0) (upd H a<|.frz o<|.dK V0) J L:=by
 have own:∀{p:Addr} {d:D},B p=none->Own B H p d->Own (upd B a<|.frz o<|.dK V0) (upd H a<|.frz o<|.dK V0) p d:=fun{p d} j h=>by
  have z:=Own.ne j g;cases h with
  |lst h r=>exact .lst (by rw[aj z];exact h) (aJ.map (mU g) (mV g) (mW g) r)
  |dct h r=>exact .dct (by rw[aj z];exact h) (aV.map' (mU g) (mV g) (mW g) r)
 refine⟨λq u h=>?_,λq u h=>?_,λq u h n=>?_,λq c b=>?_,R.len,λi s hs=>?_,R.dist,λi d p c b=>?_,R.fx,R.ioN,λq xs h=>?_,R.exv,λq o' u h=>?_⟩
 .by_cases z:q=a
  .subst z;rw[ak]at h⊢;exact h
  .rw[aj z]at h⊢;exact R.sub q u h
 .by_cases z:q=a
  .subst z
   have e:(∃x,F.B q=some x)/\HO.frz o (HO.dK V0)=u:=by simpa[Fr.hide]using h
   rw[ak,e.2]
  .rw[aj z];exact R.sB q u (by simpa[Fr.hide,z]using h)
 .by_cases z:q=a
  .subst z
   have e:(∃x,F.H q=some x)/\HO.frz o (HO.dK V0)=u:=by simpa[Fr.hide]using h
   rw[ak,e.2]
  .rw[aj z];exact R.sH q u (by simpa[Fr.hide,z]using h) n
 .by_cases z:q=a
  .subst z
   have g1:F.H q≠none:=λy=>c (by simp[Fr.hide,y])
   have f:F.B q=none:=by simpa[Fr.hide]using b
   have:=R.nB q g1 f;rw[g]at this;cases this
  .rw[aj z];exact R.nB q (by simpa[Fr.hide,z]using c) (by simpa[Fr.hide,z]using b)
 .have:=R.slot i s hs
  cases s with
  |no=>trivial
  |ex=>trivial
  |fz d=>obtain⟨v,c,b⟩:=this;exact⟨v,c,Rep.map (mU g) (mV g) (mW g) b⟩
  |own d=>obtain⟨p,c,b,h3⟩:=this;exact⟨p,c,by rw[aj<|Own.ne b g];exact b,own b h3⟩
  |io d=>obtain⟨p,c,b,h3⟩:=this;exact⟨p,c,by rw[aj<|Own.ne b g];exact b,own b h3⟩
  |ro d=>exact(A8 nr hs).elim
 .have h3:=R.iT i d p c b
  obtain⟨k,g1,f,_⟩:=R.slot i _ c;rw[b]at g1;cases g1
  have z:=Own.ne f g;show(if p=a then _ else F.H p)=none
  rw[if_neg z];exact h3
 .have z:q≠a:=λz=>by rw[z,ak]at h;cases h
  rw[aj z]at h⊢;exact R.cj q xs h
 .by_cases z:q=a
  .exact .inr z
  .rw[aj z]at h;exact .inl (R.nz q o' u h)
theorem Rel.show(M:∃Y H0 U O,Rel F Y H0 U O/\Y a=some (.dK V0))(R:Rel (F.hide a<|.frz o<|.dK V0) B H J L)(l:B a=some (.frz o<|.dK V0))(nr:jV L=true):Rel F (upd B a<|.dK V0) (upd H a<|.dK V0) J L:=by
 obtain⟨Y,H0,U,O,M,f⟩:=M;have own:∀{p:Addr} {d:D},B p=none->Own B H p d->Own (upd B a<|.dK V0) (upd H a<|.dK V0) p d:=fun{p d} t h=>by
  have z:=Own.ne t l;cases h with
  |lst h r=>exact .lst (by rw[aj z];exact h) (aJ.map (mX l) (mY l) (mZ l) r)
  |dct h r=>exact .dct (by rw[aj z];exact h) (aV.map' (mX l) (mY l) (mZ l) r)
 refine⟨λq u h=>?_,λq u h=>?_,λq u h n=>?_,λq e c=>?_,R.len,λi s hs=>?_,R.dist,λi d p e c=>?_,R.fx,R.ioN,λq xs h=>?_,R.exv,λq o' u h=>?_⟩
 .by_cases z:q=a
  .subst z;rw[ak]at h⊢;exact h
  .rw[aj z]at h⊢;exact R.sub q u h
 .by_cases z:q=a
  .subst z
   have:=M.sB q u h;rw[f]at this;rw[ak];exact this
  .rw[aj z];exact R.sB q u (by simpa[Fr.hide,z]using h)
 .by_cases z:q=a
  .subst z
   have:=M.sH q u h n;rw[M.sub q _ f]at this;rw[ak];exact this
  .rw[aj z];exact R.sH q u (by simpa[Fr.hide,z]using h) n
 .by_cases z:q=a
  .subst z
   have:=M.nB q e c;rw[f]at this;cases this
  .rw[aj z];exact R.nB q (by simpa[Fr.hide,z]using e) (by simpa[Fr.hide,z]using c)
 .have:=R.slot i s hs
  cases s with
  |no=>trivial
  |ex=>trivial
  |fz d=>obtain⟨v,e,c⟩:=this;exact⟨v,e,Rep.map (mX l) (mY l) (mZ l) c⟩
  |own d=>obtain⟨p,e,c,h3⟩:=this;exact⟨p,e,by rw[aj<|Own.ne c l];exact c,own c h3⟩
  |io d=>obtain⟨p,e,c,h3⟩:=this;exact⟨p,e,by rw[aj<|Own.ne c l];exact c,own c h3⟩
  |ro d=>exact(A8 nr hs).elim
 .have h3:=R.iT i d p e c
  obtain⟨y,g1,j,_⟩:=R.slot i _ e;rw[c]at g1;cases g1
  have z:=Own.ne j l;have:(if p=a then(F.H a).map λ_=>HO.frz o (.dK V0)else F.H p)=none:=h3
  rw[if_neg z]at this;exact this
 .have z:q≠a:=λz=>by rw[z,ak]at h;cases h
  rw[aj z]at h⊢;exact R.cj q xs h
 .have z:q≠a:=λz=>by rw[z,ak]at h;cases h
  rw[aj z]at h;rcases R.nz q o' u h with w|w
  .exact w
  .exact absurd w z
end
theorem uI(h:G a=some (.frz o<|.dK V0))(r:aV B V0 es):lP G B (ItD a o V0) (es.map (·.1)):=λH s=>by
 have h':=s _ _ h;have m:=r.length;refine⟨⟨h',by rw[zal];lia⟩,λi d hd=>?_⟩
 have hi:i<es.length:=by have:=(zac hd).1;rwa[zal]at this
 refine⟨⟨h',by lia⟩,λx H' f=>?_⟩
 obtain⟨rfl,k,v,hk,rfl⟩:=f;refine .inl ⟨rfl,?_⟩;have j:=pQ r;obtain⟨w,b,c⟩:=j.get i d hd;have e:(V0.map λq=>kV q.1)[i]?=some (kV k):=by rw[zao,hk];rfl
 rw[e]at b;cases b;exact c
theorem uJ{b:SM}(hg:MG tg g)(hb:MS tb b){F:Fr}{M Y:Hp}{J:St}{O:Rho}{σ:It}{ds:List D}{o:Out}{D:Ends}(R1:Rel F M Y J O)(I1:lP M M σ ds)(e:forL g b ds O=some o)(q:nG F D o) :
  ∃W:Nat->Nat->St->Hp->Prop,(∃m,W 0 m J Y)/\∀i m J H,W i m J H->(σ.stop i H/\D.nx J H)\/(σ.go i H/\∃N:St->Hp->Prop,(∀l H',N l H'->∃m',m'<m/\W (i+1) m' l H')/\∀x H',σ.yld i H x H'->tg x J H' λI U=>tb {D with nx:=N,ct:=N,bk:=D.nx} I U):=by
 have A:=q.down R1;refine⟨λi m J H=>m=ds.length-i/\i<=ds.length/\∃B L,Rel ⟨M,F.H,F.io,F.Z⟩ B H J L/\forL g b (ds.drop i) L=some o,⟨ds.length,rfl,Nat.zero_le _,M,O,R1.down,e⟩,?_⟩
 rintro i m I U ⟨rfl,V,E,c,R2,h⟩
 have sH:=R2.sB.trans R2.sub
 by_cases a:i<ds.length
 .refine .inr ?_
  obtain⟨go,yl⟩:=(I1 U sH).2 i ds[i] (zaC a);rw[zbb a]at h;obtain⟨d,t,P⟩:=zaa (h);obtain⟨w,Q,j⟩:=zaa P;refine⟨go,λl H'=>∃B' ρ',Rel ⟨M,F.H,F.io,F.Z⟩ B' H' l ρ'/\forL g b (ds.drop<|i+1) ρ'=some o,λl H' h'=>⟨ds.length-(i+1),by lia,rfl,a,h'⟩,λy k X=>?_⟩
  have u:∃f,Rel ⟨M,F.H,F.io,F.Z⟩ f k I c/\Rep f y ds[i]:=by
   rcases yl y k X with⟨rfl,S⟩|⟨p,xs,cs,R,rfl,h3,rfl,T⟩
   .exact⟨E,R2,S.mono R2.sB⟩
   .obtain⟨s,E3,t⟩:=R2.rg h3
    exact⟨_,s,by rw[R];exact .tup ak (T.mono<|R2.sB.trans t)⟩
  obtain⟨f,s,rp⟩:=u;refine hg _ f k I c y ds[i] d _ s rp t λG K C ρ _=>?_
  refine hb _ G K C d w _ ρ Q ?_;cases w with
  |nx ρ'=>exact λB' H' l n=>⟨B',ρ',n,j⟩
  |ct ρ'=>exact λB' H' l n=>⟨B',ρ',n,j⟩
  |bk ρ'=>cases j;exact A
  |rt r ρ'=>cases j;exact A
 .have v:i=ds.length:=by lia
  subst v;rw[List.drop_length]at h;cases h;exact .inl ⟨(I1 U sH).1,A E U I R2⟩
def FD:Out->Rho
 | .nx L=>L
 | .rt _ L=>L
 | .bk L=>L
 | .ct L=>L
noncomputable def lY:RV->Option (List<|D×D)
 |(.dict es,.fz)=>some es
 |_=>none
theorem pT(h:lY r=some es):r=(.dict es,.fz):=by
 unfold lY at h;split at h
 .cases h;rfl
 .cases h
def xc(dv:PM)(g:D->Rho->Option Rho)(b:SM):SM:=λL=>(dv L).bind λx=>(lY x.1).bind λes=>if jV L=true then(forL g b (es.map (·.1)) x.2).bind λo=>if jV (FD o)=true then some o else none else none
def Calm(tl:TE)(dv:PM):Prop:=∀(F:Fr) (B H:Hp) (J:St) (L:Rho) (r:RV) (ρ':Rho),Rel F B H J L->dv L=some (r,ρ')->ρ'=L/\∃v,Rep B v r.1/\(∀Q:VK,Q v H->tl J H Q)/\∀a o V0,B a=some (.dK V0)->∀Q:VK,Q v (upd H a<|.frz o<|.dK V0)->tl J (upd H a<|.frz o<|.dK V0) Q
noncomputable def gq(i:Nat):PM:=λL=>match L[i]? with
 |some (.fz d)=>some ((d,.fz),L)
 |_=>none
theorem pU:Calm (lg i) (gq i):=by
 intro F B H J L r ρ' R e;unfold gq at e;split at e
 .rename_i d h
  cases e;obtain⟨v,b,c⟩:=R.slot i _ h;exact⟨rfl,v,c,λQ q=>⟨v,b,q⟩,λa o V0 _ Q q=>⟨v,b,q⟩⟩
 .cases e
theorem Own.show(l:B a=some (.frz o<|.dK V0))(z:p≠a)(h:Own B H p d):Own (upd B a<|.dK V0) (upd H a<|.dK V0) p d:=by
 cases h with
 |lst h r=>exact .lst (by rw[aj z];exact h) (aJ.map (mX l) (mY l) (mZ l) r)
 |dct h r=>exact .dct (by rw[aj z];exact h) (aV.map' (mX l) (mY l) (mZ l) r)
theorem xf(g:B a=some (.frz o<|.dK V0))(l:H a=some (.frz o<|.dK V0))(V:Val (F.hide a<|.frz o<|.dK V0) B H J L v r):Val F (upd B a<|.dK V0) (upd H a<|.dK V0) J L v r:=by
 obtain⟨c,k⟩:=r;cases k with
 |fz=>exact Rep.map (mX g) (mY g) (mZ g) V
 |new=>
  obtain⟨p,rfl,b,d,h3,h4⟩:=V;have z:=Own.ne b g;refine⟨p,rfl,by rw[aj z];exact b,?_,Own.show g z h3,h4⟩
  have:(if p=a then(F.H a).map λ_=>HO.frz o (.dK V0)else F.H p)=none:=d
  rw[if_neg z]at this;exact this
 | «at» i=>exact V
 |ro=>
  obtain⟨p,rfl,b,d⟩:=V;have z:p≠a:=λz=>by
   subst z;cases b with
   |lst h _=>rw[l]at h;cases h
   |dct h _=>rw[l]at h;cases h
  exact⟨p,rfl,Own.show g z b,d⟩
theorem xg{M:Rho}{a:Addr}{ob:Obj}{V0:List<|Key×V}(g:Rel F l H0 O M)(I:l a=some (.dK V0)){o:Out}{D:Ends}(nr:jV (FD o)=true)(q:nG F D o):nG ⟨upd l a<|.frz ob<|.dK V0,(F.hide a<|.frz ob<|.dK V0).H,F.io,(F.hide a<|.frz ob<|.dK V0).Z⟩ (Qd a ob V0 D) o:=by
 have up:∀{B H J L},Rel ⟨upd l a<|.frz ob<|.dK V0,(F.hide a<|.frz ob<|.dK V0).H,F.io,(F.hide a<|.frz ob<|.dK V0).Z⟩ B H J L->Rel (F.hide a<|.frz ob<|.dK V0) B H J L/\B a=some (.frz ob<|.dK V0):=fun{B H J L} R=>by
  refine⟨⟨R.sub,λq u h=>R.sB q u ?_,R.sH,λq h z=>R.nB q h ?_,R.len,R.slot,R.dist,R.iT,R.fx,R.ioN,R.cj,R.exv,R.nz⟩,R.sB a _ ak⟩
  .show upd l a _ q=some u
   by_cases w:q=a
   .subst w
    have e:(∃x,F.B q=some x)/\HO.frz ob (HO.dK V0)=u:=by simpa[Fr.hide]using h
    rw[ak,e.2]
   .rw[aj w];exact g.sB q u (by simpa[Fr.hide,w]using h)
  .show upd l a _ q=none
   by_cases w:q=a
   .subst w
    have g1:F.H q≠none:=λy=>h (by simp[Fr.hide,y])
    have b:F.B q=none:=by simpa[Fr.hide]using z
    have:=g.nB q g1 b;rw[I]at this;cases this
   .rw[aj w];exact g.nB q (by simpa[Fr.hide,w]using h) (by simpa[Fr.hide,w]using z)
 cases o with
 |nx L=>exact λB H J R=>⟨R.sub a _ (up R).2,q _ _ _<|Rel.show ⟨_,_,_,_,g,I⟩ (up R).1 (up R).2 nr⟩
 |bk L=>exact λB H J R=>⟨R.sub a _ (up R).2,q _ _ _<|Rel.show ⟨_,_,_,_,g,I⟩ (up R).1 (up R).2 nr⟩
 |ct L=>exact λB H J R=>⟨R.sub a _ (up R).2,q _ _ _<|Rel.show ⟨_,_,_,_,g,I⟩ (up R).1 (up R).2 nr⟩
 |rt r L=>exact λv B H J R V=>⟨R.sub a _ (up R).2,q _ _ _ _ (Rel.show ⟨_,_,_,_,g,I⟩ (up R).1 (up R).2 nr)<|xf (up R).2 (R.sub a _ (up R).2) V⟩
def zD(t:TS):TS:=λD J H=>Ll t D J H\/t D J H
theorem _root_.L2.Ju{X:Cx}{st:Stmt}{t:TS}(h:PS X st t):PS X st (zD t):=by
 intro U0 s J H D I a;rcases a with a|a
 .exact NZ h U0 s J H D I a
 .exact h U0 s J H D I a
theorem Jv(I:Calm tl dv)(l:MG tg g)(hb:MS M b):MS (zD<|BX (N7 tl) tg M) (xc dv g b):=by
 fail "q6"
 obtain⟨es,k,e⟩:=zaa e;split at e
 rotate_left
 .cases e
 rename_i nr
 obtain⟨o',h,e⟩:=zaa e;split at e
 rotate_left
 .cases e
 rename_i c
 cases e;obtain⟨r,d⟩:=x;obtain⟨rfl,v,p,m,n⟩:=I F B H J L r d R f;obtain rfl:=pT k;cases p with
 | @dct a V0 _ hd i=>
  rcases hd with hd|⟨ob,hd⟩
  .refine .inl ⟨a,V0,R.sub a _ hd,λob=>?_⟩
   have j:=R.hide (o:=ob) hd nr;refine n a ob V0 hd _ ⟨a,ob,V0,rfl,ak,?_⟩;exact uJ l hb j.down (uI ak<|aV.map' (mU hd) (mV hd) (mW hd) i) h (xg R hd c q)
  .exact .inr (m _ ⟨a,ob,V0,rfl,R.sub a _ hd,uJ l hb R (uI hd i) h q⟩)
end Mir
namespace Mir
open L2
variable [Zc]
def xh(fr:List<|Str×Nat)(dv:PM)(c:Rho->Option (Bool×Rho))(e:PM):PM:=λL=>(dv L).bind λx=>(lY x.1).bind λes=>if jV L=true then(jP c e (fr.map λp=>bG L p.2) (es.map (·.1))).bind λout=>cIf (out.length<sizeLine) (some ((.list out,.new),L)) none else none
def FE(t:TE):TE:=λJ H Q=>Lm t J H Q\/t J H Q
theorem _root_.L2.Jw{X:Cx}{ex:Expr}{t:TE}(h:PE X ex t):PE X ex (FE t):=by
 intro U0 s J H Q I a;rcases a with a|a
 .exact N0 h U0 s J H Q I a
 .exact h U0 s J H Q I a
theorem N8(hd:Calm tl dv)(g:MT I c)(l:ME M e):ME (FE<|tLC fr (N7 tl) I M) (xh fr dv c e):=by
 intro F B H J L T ρ' Q R d q;obtain⟨x,E,d⟩:=zaa d;obtain⟨es,G,d⟩:=zaa d;split at d
 rotate_left
 .cases d
 rename_i nr
 obtain⟨out,m,d⟩:=zaa d;obtain⟨s,d⟩:=bQ d;cases d;obtain⟨r,k⟩:=x;obtain⟨_,v,P,σ,K⟩:=hd F B H J L r k R E;obtain rfl:=pT G;cases P with
 | @dct a V0 _ b t=>
  rcases b with b|⟨ob,b⟩
  .refine .inl ⟨a,V0,R.sub a _ b,λob=>?_⟩
   have C:=R.hide (o:=ob) b nr;refine K a ob V0 b _ ⟨a,ob,V0,rfl,ak,?_⟩;refine Er (Q:=λv H'=>H' a=some (.frz ob<|.dK V0)/\Q v (upd H' a<|.dK V0)) g l C (uI ak<|aV.map' (mU b) (mV b) (mW b) t) m s λw B' H' i RR D A=>?_
   have f:=i.sB a _ ak;have j:=RR.sub a _ f;refine⟨j,q w _ _ ?_ (Rel.show ⟨_,_,_,_,R,b⟩ RR f nr) (xf f j D) λp V S=>?_⟩
   .refine⟨λp u h=>?_,λp u h n=>?_,i.own,i.ref,λp h=>?_⟩
    .by_cases z:p=a
     .subst z;rw[ak,<-b];exact h
     .rw[aj z];exact i.sB p u (by rw[aj z];exact h)
    .by_cases z:p=a
     .subst z
      rw[R.sub p _ b]at h;exact⟨by rw[ak];exact h,λy=>by rw[b]at y;cases y⟩
     .obtain⟨ρ,N⟩:=i.keep p u (by rw[aj z];exact h) n
      exact⟨by rw[aj z];exact ρ,λy=>by rw[aj z];exact N (by rw[aj z];exact y)⟩
    .have z:p≠a:=λz=>by rw[z,ak]at h;cases h
     rw[aj z]at h;have:=i.live p h;rw[aj z]at this;exact this
   .have:=A p rfl S
    have z:p≠a:=λz=>by rw[z,ak]at this;cases this
    rw[aj z]at this;exact this
  .exact .inr (σ _ ⟨a,ob,V0,rfl,R.sub a _ b,Er g l R (uI (R.sub a _ b) t) m s q⟩)
end Mir
namespace L2
open PySem.Spec PyProof.Rows
section
variable{X:Cx}{K:zag}
def Ln(K:zag):List V->Hp->VK->Prop:=λxs H Q=>∃p e,xs=[V.ref p]/\((SqL K H p e/\∀l,H l=none->Q (.ref l) (upd H l<|.tup e))\/(SqT K H p e/\Q (.ref p) H))
def xi(h:X.K=K):cE X (.type "tuple") (Ln K):=h▸rf
def Lo:V->List V->Hp->VK->Prop:=λx vs H Q=>∃(l:Addr) (zs:List Str) (z:Str) (j:Nat),x=.ref l/\vs=[.str z]/\H l=some (.lst<|zs.map V.str)/\zs[j]?=some z/\(∀m,m<j->zs[m]?≠some z)/\Q .non (upd H l<|.lst<|(zs.eraseIdx j).map V.str)
theorem Vals.erase:∀{xs:List V} {us:List Value} (j:Nat),Vals xs us->Vals (xs.eraseIdx j) (us.eraseIdx j)
 |_,_,_,.nil=>.nil
 |_,_,0,.cons _ t=>t
 |_,_,j+1,.cons h t=>.cons h (Vals.erase j t)
theorem uK{α g:Type}(f : α->g):∀(l:List α) (j:Nat),(l.eraseIdx j).map f=(l.map f).eraseIdx j
 | [],_=>rfl
 |_::_,0=>rfl
 |a::l,j+1=>by
  show f a::(l.eraseIdx j).map f=f a::(l.map f).eraseIdx j;rw[uK f l j]
def eqS(z:Str):Value->Bool
 | .str a _=>a==z
 |_=>false
theorem uL:∀{g:List Str} {us:List Value},Vals (g.map V.str) us->∀(i:Nat) (u:Value),us[i]?=some u->∃a t,g[i]?=some a/\u=.str a t
 | [],us,h,i,u,e=>by cases h;simp at e
 |a::g,us,h,i,u,e=>by
  cases h with
  |cons b t=>
   cases i with
   |zero=>
    obtain⟨tk,rfl⟩:=b;have:u=.str a tk:=by simpa using e.symm
    exact⟨a,tk,rfl,this⟩
   |succ i=>simpa using uL t i u (by simpa using e)
theorem Jx:MtM X "list.remove" Lo:=by
 intro U0 s J H x vs v us Q I N ρ h;obtain⟨l,C,z,j,rfl,rfl,A,B,p,q⟩:=h;cases N;obtain⟨u,rfl,σ⟩:=ρ.one;obtain⟨tk,rfl⟩:=σ;obtain⟨G,b,n,r,P,e⟩:=I.HG A;have d:b.length=C.length:=by rw[<-r.length,zal]
 have D:=(zac B).1;refine call_meets F.slot_list_remove ⟨_,e,rfl⟩ F.entry_list_remove (F.args_list_remove_2 _ _) (PySem.MeetsSeq.list_remove l b.toArray n (.str z tk) (eqS z) (λy E=>?_) j (by rw[zaK];lia) ?_ (λm hm o=>?_) (by rw[zaK,d];rwa[zal]at G)) ⟨e,?_⟩
 .obtain⟨i,hi,rfl⟩:=List.getElem_of_mem (show y∈b by simpa using E)
  obtain⟨a,t,_,ha⟩:=uL r i b[i] (zaC hi);rw[ha];exact eqGives_str a z t tk
 .have c:j<b.length:=by lia
  obtain⟨a,t,f,ha⟩:=uL r j b[j] (zaC c);have:b.toArray[j]'(by simpa using c)=b[j]:=by simp
  rw[this,ha];rw[B]at f;cases f;simp[eqS]
 .have k:m<b.length:=by simpa using hm
  obtain⟨a,t,f,ha⟩:=uL r m b[m] (zaC k);have:b.toArray[m]'hm=b[m]:=by simp
  rw[this,ha];have ne:a≠z:=λw=>p m o (by rw[f,w])
  simp[eqS,ne]
 .refine⟨.non,_,I.Mz (its':=b.eraseIdx j) A e (by simp) ?_ ?_,rfl,q⟩
  .have:=Vals.erase j r
   rwa[<-uK]at this
  .rw[zal]
   have:=List.length_eraseIdx_le C j
   lia
end
end L2
namespace Mir
open L2
variable [Zc]
noncomputable def jt:List D->Option (List Str)
 | []=>some []
 | .str z::r=>(jt r).map (z::·)
 |_=>none
noncomputable def xj:List Str->Str->Option Nat
 | [],_=>none
 |a::l,z=>if a=z then some 0 else(xj l z).map (· +1)
theorem A9:∀{g:List Str} {j:Nat},xj g z=some j->g[j]?=some z/\∀m,m<j->g[m]?≠some z
 | [],j,h=>by cases h
 |a::l,j,h=>by
  by_cases e:a=z
  .have:xj (a::l) z=some 0:=if_pos e
   rw[this]at h;cases h
   exact⟨by rw[e];rfl,λm hm=>by lia⟩
  .have:xj (a::l) z=(xj l z).map (· +1):=if_neg e
   rw[this]at h;obtain⟨i,c,rfl⟩:=zab h;obtain⟨g1,b⟩:=A9 c;refine⟨g1,λm hm=>?_⟩
   cases m with
   |zero=>exact λw=>e (by simpa using w)
   |succ m=>exact b m (by lia)
theorem lZ:∀{xs:List V} {ds:List D} {g:List Str},aJ B xs ds->jt ds=some g->xs=g.map V.str
 |_,_,_,.nil,h=>by cases h;rfl
 |_,_,g,.cons (d:=d) c r,h=>by
  cases d with
  |str z=>
   obtain⟨e,a,b⟩:=zab (h);subst b;cases c;rw[zaz,lZ r a]
  |_=>cases h
def oO(ds:List D):List D->Option (List D×D)
 | [.str z]=>(jt ds).bind λzs=>(xj zs z).map λj=>(ds.eraseIdx j,.none)
 |_=>none
theorem FG:Es Lo oO:=by
 intro B H p xs ds vs n w k c s m e;unfold oO at e;split at e
 .rename_i z
  obtain⟨d,f,e⟩:=zaa e;obtain⟨j,h,e⟩:=zab e;cases e;cases m with
  |cons a b=>
   cases b;cases a;obtain rfl:=lZ c f;obtain⟨g1,i⟩:=A9 h;refine⟨(d.eraseIdx j).map V.str,.non,?_,.non,λQ q=>⟨p,d,z,j,rfl,rfl,k,g1,i,q⟩⟩
   have:=aJ.eraseIdx j c
   rwa[<-uK]at this
 .cases e
noncomputable def pV:List D->Option (D×Bool)
 | [.list ds]=>some (.tuple ds,true)
 | [.tuple ds]=>some (.tuple ds,false)
 |_=>none
theorem Jy:ik (Ln K) pV:=by
 intro B H vs ds i s h e;unfold pV at e;split at e
 .cases e
  obtain⟨v,rfl,a⟩:=dC h;obtain⟨p,xs,rfl,f,b⟩:=a.list s;exact⟨xs,b,λQ q=>⟨p,xs,rfl,.inl ⟨eK f,q⟩⟩⟩
 .cases e
  obtain⟨v,rfl,a⟩:=dC h;rcases a with a|⟨p,rfl,a⟩
  .cases a with
   | @tup p xs _ c d=>exact⟨.ref p,.tup c d,λQ q=>⟨p,xs,rfl,.inr ⟨.inl<|.inl<|s _ _ c,q⟩⟩⟩
  .cases a
 .cases e
def uM:D->D->Option (D×Bool)
 | .str z,.int i=>cIf (z.length<=sizeLine) ((atI z.cps.toList i).map λc=>(.str ⟨#[c]⟩,false)) none
 |c,d=>gIx c d
theorem Qf:OpJ (rIx K) uM:=by
 intro B H x y c d f s a b e;unfold uM at e;split at e
 .obtain⟨j,e⟩:=bQ e
  obtain⟨w,h,i⟩:=zab e;cases i;rcases a with a|⟨p,_,a⟩
  .cases a
   rcases b with b|⟨p,_,b⟩
   .cases b
    exact⟨.str ⟨#[w]⟩,.str _,λQ q=>.inr<|.inr ⟨_,_,w,rfl,rfl,j,h,q⟩⟩
   .cases b
  .cases a
 .exact Nb B H x y _ _ f s a b e
end Mir
namespace L2
open PySem.Spec PyProof.Rows
def Ite(K:zag)(a:Addr):It :=
 ⟨λi H=>∃xs x,SqL K H a xs/\xs[i]?=some x,
  λi H v H'=>∃p x,v=.ref p/\H p=none/\H'=upd H p (.tup [.int i,x])/\∀xs,SqL K H a xs->xs[i]?=some x,
  λi H=>∃xs,SqL K H a xs/\xs.length<=i⟩
theorem CN{K:zag}{O:List Expr}{Y}{pos:Pos}{e it l:Addr}(U:e≠it) :
  Turn P w K (.Tuple O Y pos) (Ite K l) [e,it] e (λi h=>(∃M,IsEnum h e it ((i:Nat):Int) M)/\h.IsListIter it l i) where
 mem:=by simp
 obj:=λi h st b hb=>by
  obtain⟨⟨M,a⟩,⟨W,g1,c1,d1⟩⟩:=st
  fail "q5"
  .exact⟨_,a,λv e=>by cases e⟩
  .exact⟨_,g1,λv e=>by rw[d1]at e;cases e⟩
 keep:=λi h h' st k=>by
  obtain⟨⟨M,a⟩,c⟩:=st;exact⟨⟨M,k e (by simp) _ a⟩,c.at λo x=>k it (by simp) o x⟩
 item:=by
  fail "q4"
  obtain⟨⟨M,a⟩,c⟩:=st;obtain⟨xs,x,d,F⟩:=j;obtain⟨us,y,t,_⟩:=I.list d;obtain⟨u,V,Z⟩:=y.get F;have lt:∀b∈[e,it],b<s.heap.objs.size:=λb hb=>by
   obtain⟨W,g1,_,_⟩:=id c
   fail "q5"
   .exact zaq a
   .exact zaq g1
  refine wpAny_pyNext_enum_item a c t.isList (by simpa using V) U λh' q n S T hk=>?_
  refine⟨_,rfl,wpAny_letOwnedTupleGo_enum q λh3 p sb=>?_⟩
  have r:=I.hok.fresh (zap _);have up:∀b o,b≠e->h'.get? b=some o->h3.get? b=some o:=λb o hb x=>(sb.2 b hb).trans x
  have G:Inv X U0 J (upd H s.heap.objs.size<|.tup [.int i,x]) {s with heap:=s.heap.push {cls:=.type "tuple",data:=.seq #[.int i s.toks,u]},toks:=s.toks+1} :=
   I.laid (λb o e=>zar _ e) (zap _) (cu.za (by simp only[List.length_cons,List.length_nil,sizeLine];lia)<|.cons ⟨_,rfl⟩<|.cons Z .nil)
  have σ:Inv X U0 J (upd H s.heap.objs.size<|.tup [.int i,x]) {s with heap:=h3,toks:=s.toks+1}:=by
   refine Inv.lT (s:={s with heap:=s.heap.push {cls:=.type "tuple",data:=.seq #[.int i s.toks,u]},toks:=s.toks+1}) (fp:=[e,it]) G (λb o hb g=>?_) (λb hb=>?_)
   .simp only[List.mem_cons,List.not_mem_nil,or_false,not_or]at hb
    obtain⟨b1,ρ⟩:=hb;refine up b o b1 ?_
    by_cases A:b=s.heap.objs.size
    .subst A
     have N:(s.heap.push {cls:=.type "tuple",data:=.seq #[.int i s.toks,u]}).get? s.heap.objs.size=some {cls:=.type "tuple",data:=.seq #[.int i s.toks,u]}:=zaL _ rfl;rw[N]at g;cases g;exact S
    .have Q:(s.heap.push {cls:=.type "tuple",data:=.seq #[.int i s.toks,u]}).get? b=s.heap.get? b:=Heap.get?_push_ne _ _ _ A
     exact hk b o b1 ρ (Q▸g)
   .obtain⟨f0,f1⟩:=f b hb
    exact⟨by rw[aj λe=>absurd (lt b hb) (by rw[e];exact za3 _)];exact f0,f1⟩
  have R:((i+1:Nat):Int)=(i:Int)+1:=by push_cast;rfl
  refine⟨.ref s.heap.objs.size,_,σ,rfl,⟨_,x,rfl,r,rfl,λxs' h=>by rw[I.we h d];exact F⟩,⟨⟨u,R▸p⟩,n.at λo x=>up it o (Ne.symm U) x⟩,λb hb=>?_⟩
  rw[aj λe=>absurd (lt b hb) (by rw[e];exact za3 _)]
  exact(f b hb).1
 done:=by
  fail "q4"
  obtain⟨⟨M,a⟩,c⟩:=st;obtain⟨xs,d,hl⟩:=j;obtain⟨us,y,t,_⟩:=I.list d;have l1:=y.length;refine wpAny_pyNext_enum_end (I.ok.hd m) a c t.isList (by simp;lia) λh' hk=>⟨rfl,?_⟩
  refine Inv.lT I (λb o hb g=>?_) f
  simp only[List.mem_cons,List.not_mem_nil,or_false,not_or]at hb;exact hk b o hb.2 g
 self:=λ_ _ _ _ _ st h=>by obtain⟨⟨M,a⟩,_⟩:=st;exact wpAny_pyIter_enum a h
def Lp(K:zag)(M:TA):TI:=λJ H R=>M J H λvs e=>∃a xs,vs=[.ref a]/\SqL K e a xs/\R (Ite K a) e
section
variable{X:Cx}
theorem Jz(l:Gl X "enumerate")(hm:X.mg "enumerate"=none)(ha:PA X [a] M)(hs:starEach [a] X.env=[(false,eval a X.env)]:=by rfl) :
  PI X (.Tuple g O tp) (.Call (.Name "enumerate" p) [a] [] pos) (Lp X.K M):=by
 intro U0 s J H R I h;refine Call_ (gX I l hm boot_enumerate<|PyProof.Rows.callWith_type1 (thn (ha pos U0 s J H _ I h) λus s1 ⟨vs,i,d,o,n⟩=>?_) (by rw[hs];rfl) (by rfl))
 obtain⟨v,xs,e,g1,q⟩:=n;subst e;cases o with
 |cons r t=>
  cases t;cases r;obtain⟨us,u,m,_⟩:=d.list g1;refine call_enumerate_list m.isList λh' f j k hk=>?_
  refine wpAny_pyIter_enum f ?_;refine⟨s1.heap.objs.size+1,[s1.heap.objs.size+1,s1.heap.objs.size],_,_,i,rfl,d.kept hk,CN<|Nat.succ_ne_self _,⟨⟨_,f⟩,j⟩,λb hb=>?_,q⟩
  have c:s1.heap.objs.size<=b:=by
   fail "q5"
   .exact Nat.le_add_right _ _
   .exact zap _
  exact d.mF c (d.hok.fresh c)
end
def ItI(a:Addr)(o:Obj)(V0:List<|Key×V):It where
 go:=λi H=>H a=some (.frz o<|.dK V0)/\i<V0.length
 yld:=λi H x H'=>∃p k v,x=.ref p/\H p=none/\H'=upd H p (.tup [kV k,v])/\V0[i]?=some (k,v)
 stop:=λi H=>H a=some (.frz o<|.dK V0)/\V0.length<=i
theorem JA(r:KV V0 vs)(i:Nat){k:Key}{x:Value}(h:vs[i]?=some (k,x)):∃v,V0[i]?=some (k,v)/\RelV v x:=by
 induction r generalizing i with
 |nil=>simp at h
 |cons a t b=>
  cases i with
  |zero=>
   rename_i p q l c
   have e:q=(k,x):=by simpa using h
   subst e;exact⟨p.2,congrArg some<|Prod.ext a.1 rfl,a.2⟩
  |succ i=>simpa using b i (by simpa using h)
theorem pW:entryFor table "dict_itemiterator.__iter__"=some Builtin.«dict_keyiterator.__iter__»:=entryFor_alias (id':="dict_keyiterator.__iter__") (by kernel_rfl) rfl (by decide+kernel) (by kernel_rfl)
theorem zE{K:zag}{U:List Expr}{cx}{pos:Pos}{a it:Addr}{o:Obj}{V0:List<|Key×V}{vs:List<|Key×Value}{ep:Nat}{l:Heap}(O:KV V0 vs)(ho:l.get? a=some o)(Y:l.DictAt (bX P w) a vs ep) :
  Turn P w K (.Tuple U cx pos) (ItI a o V0) [it] it (λi h=>∃ok M,IsItemIter h it a i vs.length ep ok M) where
 mem:=by simp
 obj:=λi h st b hb=>by
  have e:b=it:=by simpa using hb
  subst e;obtain⟨ok,M,st⟩:=st;exact⟨_,st,λv e=>by cases e⟩
 keep:=λi h h' st k=>by
  obtain⟨ok,M,st⟩:=st;exact⟨ok,M,k it (by simp) _ st⟩
 item:=by
  intro X S hw R u i U0 s J H E I j st d;obtain⟨ok,M,st⟩:=st;obtain⟨m,hi⟩:=d;obtain⟨d,_⟩:=I.hok a _ m;have hd:=Y.at' λo' e=>by rw[ho]at e;cases e;exact d
  have W:=O.length;obtain⟨⟨k,x⟩,y⟩:∃p,vs[i]?=some p:=⟨vs[i]'(by lia),by simp⟩
  obtain⟨v,hv,rv⟩:=JA O i y;have lt:=zaq st;refine wpAny_pyNext_items_item st hd y λkey h' f r T Z hk=>?_
  refine⟨_,rfl,wpAny_letOwnedTupleGo_items r λh3 n sb=>?_⟩
  have t:=I.hok.fresh (zap _);have up:∀b o,b≠it->h'.get? b=some o->h3.get? b=some o:=λb o hb x=>(sb.2 b hb).trans x
  have B:Inv X U0 J (upd H s.heap.objs.size<|.tup [kV k,v]) {s with heap:=s.heap.push {cls:=.type "tuple",data:=.seq #[key,x]},toks:=s.toks} :=
   I.laid (λb o e=>zar _ e) (zap _) (cu.za (by simp only[List.length_cons,List.length_nil,sizeLine];lia)<|.cons (Fz f)<|.cons rv .nil)
  have C:Inv X U0 J (upd H s.heap.objs.size<|.tup [kV k,v]) {s with heap:=h3,toks:=s.toks}:=by
   refine Inv.lT (s:={s with heap:=s.heap.push {cls:=.type "tuple",data:=.seq #[key,x]},toks:=s.toks}) (fp:=[it]) B (λb o hb g=>?_) (λb hb=>?_)
   .have b1:b≠it:=by simpa using hb
    refine up b o b1 ?_
    by_cases c:b=s.heap.objs.size
    .subst c
     have D:(s.heap.push {cls:=.type "tuple",data:=.seq #[key,x]}).get? s.heap.objs.size=some {cls:=.type "tuple",data:=.seq #[key,x]}:=zaL _ rfl;rw[D]at g;cases g;exact T
    .have G:(s.heap.push {cls:=.type "tuple",data:=.seq #[key,x]}).get? b=s.heap.get? b:=Heap.get?_push_ne _ _ _ c
     exact hk b o b1 (G▸g)
   .have c:b=it:=by simpa using hb
    subst c;obtain⟨f0,f1⟩:=j b hb;exact⟨by rw[aj<|zaS lt];exact f0,f1⟩
  refine⟨.ref s.heap.objs.size,_,C,rfl,⟨_,k,v,rfl,t,rfl,hv⟩,⟨_,_,n⟩,λb hb=>?_⟩
  have c:b=it:=by simpa using hb
  subst c;rw[aj<|zaS lt];exact(j b hb).1
 done:=by
  intro X S hw R u i U0 s J H E I j st d;obtain⟨ok,M,st⟩:=st;obtain⟨m,hi⟩:=d;obtain⟨d,_⟩:=I.hok a _ m;have hd:=Y.at' λo' e=>by rw[ho]at e;cases e;exact d
  obtain⟨f0,f1,f2,σ,ρ,N⟩:=j it (by simp)
  have W:=O.length;exact wpAny_pyNext_items_end (I.ok.hd u) st hd (by simp;lia) λh' c=>⟨rfl,I.turned (λb o hb e=>c b o hb e) f0 f1 σ ρ N⟩
 self:=λA i s Q E st q=>by
  obtain⟨ok,M,st⟩:=st;refine wpAny_pyIter_slot ⟨_,st,rfl⟩ F.slot_dict_itemiterator_iter (wpAny_call_entry F.slot_dict_itemiterator_iter ⟨_,st,rfl⟩ pW ?_ (F.args_dict_itemiterator_iter_1 _));exact zaZ ⟨_,rfl,"dict_itemiterator",_,⟨_,st,rfl⟩,F.slot_dict_itemiterator_next.lookup,q⟩
def Qg(tl:TE):TI:=λJ H R=>tl J H λx e=>∃a o V0,x=.ref a/\e a=some (.frz o<|.dK V0)/\R (ItI a o V0) e
section
variable{X:Cx}
theorem FH{U:List Expr}{cx}{tp:Pos}{l:Expr}{tl:TE}{g Y:Pos}(hl:PE X l tl)(M:attributeBase l "items" X.env (eval l X.env)=eval l X.env:=by rfl)(O:(g.endLine==Y.line)=true:=by rfl) :
  PI X (.Tuple U cx tp) (.Call (.Attribute l "items" g) [] [] Y) (Qg tl):=by
 intro U0 s J H R I h;refine wpAny_Call_method0_late M O (thn (hl U0 s J H _ I h) λv s1 ⟨x,j,k,u,t⟩=>?_)
 obtain⟨a,o,V0,e,r,q⟩:=t;subst e;cases u;obtain⟨ho,z,hd,vs,i,c⟩:=k.hok a _ r;obtain⟨ob,_,_,g1,p,_⟩:=id c;obtain⟨y,d⟩:=c.dictAt;refine⟨"dict","dict.items",PySem.F.plainAttrs_dict,PySem.F.slot_dict_items,PySem.F.type_dict_items,c.typeIs,λb n=>by cases n;exact⟨ob,g1,p.2.1⟩,Calls.callWith_builtin rfl<|PySem.evalArgs_none ?_⟩
 refine call_meetsIn PySem.F.slot_dict_items c.typeIs PySem.F.entry_dict_items (PySem.F.args_dict_items_1 _) (meets_dict_items (bX X.prog X.w) a hd) ⟨⟨vs,c⟩,?_⟩;have m:(s1.heap.push {cls:=.type "dict_items",data:=.fields #[.ref a]}).IsItemsView s1.heap.objs.size a:=⟨_,zaL _ rfl,rfl,rfl⟩;have f:Inv X U0 J j {s1 with heap:=s1.heap.push {cls:=.type "dict_items",data:=.fields #[.ref a]}}:=k.kept λb o e=>zar _ e
 refine wpAny_pyIter_items m (d.push _) ?_;refine⟨_,[_],_,_,j,rfl,f.kept λb o e=>zar _ e,zE i ho d,⟨_,_,zaL _ rfl⟩,λb hb=>?_,q⟩
 have e:b=(s1.heap.push {cls:=.type "dict_items",data:=.fields #[.ref a]}).objs.size:=by simpa using hb
 subst e;exact f.mF (zap _) (f.hok.fresh<|zap _)
end
end L2
namespace Mir
open L2
variable [Zc]
def g7(es:List<|D×D):List D:=es.map λp=>PyData.tuple [p.1,p.2]
theorem Lq:∀{V0:List<|Key×V} {es:List<|D×D} (_:aV B V0 es) (i:Nat) {k:Key} {v:V} {p:D×D},V0[i]?=some (k,v)->es[i]?=some p->uh k p.1/\Rep B v p.2
 |_,_,.nil,i,k,v,p,h,_=>by simp at h
 |_,_,.cons hk c r,0,k,v,p,a,b=>by
  simp only[List.getElem?_cons_zero,Option.some.injEq]at a b;subst b;cases a;exact⟨hk,c⟩
 |_,_,.cons hk c r,i+1,k,v,p,a,b=>Lq r i (by simpa using a) (by simpa using b)
theorem uh.rep(h:uh k c):Rep B (kV k) c:=by
 cases k with
 |inl i=>obtain rfl:=(h);exact .int i
 |inr x=>obtain rfl:=(h);exact .str x
theorem FI(h:G a=some (.frz o<|.dK V0))(r:aV B V0 es):lP G B (ItI a o V0) (g7 es):=λH s=>by
 have h':=s _ _ h;have j:=r.length;have m:(g7 es).length=es.length:=by unfold g7;rw[zal]
 refine⟨⟨h',by lia⟩,λi d hd=>?_⟩
 have hi:i<es.length:=by have:=(zac hd).1;lia
 refine⟨⟨h',by lia⟩,λx H' f=>?_⟩
 obtain⟨p,k,v,rfl,hn,rfl,hk⟩:=f;have e:(g7 es)[i]?=(es[i]?).map λp=>PyData.tuple [p.1,p.2]:=by unfold g7;rw[zao]
 rw[e]at hd;obtain⟨q,c,rfl⟩:=zab hd;obtain⟨g1,b⟩:=Lq r i hk c;exact .inr ⟨p,[kV k,v],[q.1,q.2],rfl,rfl,hn,rfl,.cons g1.rep<|.cons b .nil⟩
def xk(dv:PM)(g:D->Rho->Option Rho)(b:SM):SM:=λL=>(dv L).bind λx=>(lY x.1).bind λes=>if jV L=true then(forL g b (g7 es) x.2).bind λo=>if jV (FD o)=true then some o else none else none
theorem JB(I:Calm tl dv)(l:MG tg g)(hb:MS M b):MS (zD<|BX (Qg tl) tg M) (xk dv g b):=by
 fail "q6"
 obtain⟨es,k,e⟩:=zaa e;split at e
 rotate_left
 .cases e
 rename_i nr
 obtain⟨o',h,e⟩:=zaa e;split at e
 rotate_left
 .cases e
 rename_i c
 cases e;obtain⟨r,d⟩:=x;obtain⟨rfl,v,p,m,n⟩:=I F B H J L r d R f;obtain rfl:=pT k;cases p with
 | @dct a V0 _ hd i=>
  rcases hd with hd|⟨ob,hd⟩
  .refine .inl ⟨a,V0,R.sub a _ hd,λob=>?_⟩
   have j:=R.hide (o:=ob) hd nr;refine n a ob V0 hd _ ⟨a,ob,V0,rfl,ak,?_⟩;exact uJ l hb j.down (FI ak<|aV.map' (mU hd) (mV hd) (mW hd) i) h (xg R hd c q)
  .exact .inr (m _ ⟨a,ob,V0,rfl,R.sub a _ hd,uJ l hb R (FI hd i) h q⟩)
end Mir
set_option maxHeartbeats 1000000
namespace L2
open PySem.Spec PyProof.Rows
noncomputable def aF(a:Int)(x:Str)(c:Int)(y:Str):Bool:=if a=c then(if x=y then false else decide (x.cps.toList<y.cps.toList))else decide (a<c)
def FJ(A:Around)(s:Shared)(x:Str)(t:Tok)(y:Str)(u:Tok)(prog:Program)(w:World)(E:Value->Shared->Prop)(Q:Value->Shared->Prop)(h:Q (.bool<|decide<|x.cps.toList<y.cps.toList) s) :
  wpAny (model prog w) A (richCompare .Lt (.str x t)<|.str y u) Q E s :=
 (PyProof.Rows.lt_str h:wpAny (model prog w) A (compareOp .Lt (.str x t)<|.str y u) Q E s)
section
open PySem.SeqAt
open PySem.AutoSeq1 (wpAny_loadPart')
open PySem.MeetsSeq PySem.MeetsSeq2 PySem.MeetsSeq3
theorem xl(l b:Addr)(n n2:Nat)(Y O:Option Addr)(sl U:Array<|Option Value)(a c:Int)(x y:Str)(t M u I:Tok) :
  Meets (Builtin.«tuple.__lt__» ⟨[.ref l,.ref b],[]⟩)
   (λ_ R s=>s.heap.get? l=some {cls:=.type "tuple",dict:=Y,data:=.seq #[.int a t,.str x u] n,slots:=sl}/\s.heap.get? b=some {cls:=.type "tuple",dict:=O,data:=.seq #[.int c M,.str y I] n2,slots:=U}/\
    R (.ok<|.ret<|.bool<|aF a x c y) s) :=
 .of_wp λprog w A R s h=>by
  have rI:=@HT.DX;have D:=@FJ;obtain⟨r,g,d,tk,os⟩:=s;obtain⟨C,hb,h⟩:=h;have f2:=AutoSeq1.sub_tuple_tuple;unfold aF at h
  wp_walk using wpAny_loadPart' C,wpAny_loadPart' hb,wpAny_forIn_list _ (λZ0 b s'=>b.1=none/\s'=⟨r,g,d,tk,os⟩/\
   ((Z0=[(.int a t,.int c M),(.str x u,.str y I)])\/(Z0=[(.str x u,.str y I)]/\a=c)\/(Z0=[]/\a=c/\x=y))) _
  case turn=>
   rintro⟨p,q⟩ Z0 b s' ⟨k,rfl,f⟩
   rcases f with f|⟨f,o⟩|⟨f,_,_⟩
   .cases f
    refine zaI ((EqAt.int_int a t c M) prog w _ _ ?_);cases j:(a==c)with
    |true=>
     have e:a=c:=by simpa using j
     wp_walk
     exact⟨rfl,rfl,.inr<|.inl ⟨rfl,e⟩⟩
    |false=>
     have e:a≠c:=by simpa using j
     have i:=rI A.in1 ⟨r,g,d,tk,os⟩ a t c M prog w
     first|rw[if_neg e]at h|rw[if_neg (Ne.symm e)]at h
     wp_walk using i
     exact⟨_,rfl,by simpa using h⟩
   .cases f
    refine zaI ((EqAt.str_str x u y I) prog w _ _ ?_);cases m:(x==y)with
    |true=>
     have e:x=y:=by simpa using m
     wp_walk
     exact⟨rfl,rfl,.inr<|.inr ⟨rfl,o,e⟩⟩
    |false=>
     have e:x≠y:=by simpa using m
     have i:=D A.in1 ⟨r,g,d,tk,os⟩ x u y I prog w
     first|rw[if_pos o,if_neg e]at h|rw[if_pos o.symm,if_neg (Ne.symm e)]at h
     wp_walk using i
     exact⟨_,rfl,by simpa using h⟩
   .cases f
  case fin=>
   rintro⟨b1,E⟩ s' ⟨k,rfl,f⟩
   subst k;rcases f with f|⟨f,_⟩|⟨_,v,B⟩
   .cases f
   .cases f
   .rw[v,B,if_pos rfl,if_pos rfl]at h
    wp_walk
    exact⟨_,rfl,by simpa[Builtin.Tuple.tupleCompareSizes]using h⟩
  case h=>exact⟨rfl,rfl,.inl rfl⟩
end
section
variable{prog:Program}{w:World}{A:Around}{E:Value->Shared->Prop}{s:Shared}
theorem xm(g:IsTup s.heap l #[.int a t,.str x u])(hb:IsTup s.heap b #[.int c M,.str y O])(I:A.units<cLine)(h:Q (.bool<|aF a x c y) s) :
  wpAny (model prog w) A (compareOp .Lt (.ref l)<|.ref b) Q E s:=by
 obtain⟨⟨cls,m,data,sl⟩,ho,o,n,hd⟩:=id g;obtain⟨⟨k,e,data2,j⟩,d,f,n2,i⟩:=id hb;subst o hd f i;exact richCompare_meets_room (op:=.Lt) ⟨_,ho,rfl⟩ ⟨_,d,rfl⟩ PySem.F.slot_tuple_lt PySem.F.entry_tuple_lt (PySem.F.args_tuple_lt_2 _ _) (xl l b n n2 m e sl j a c x y t M u O)
  ⟨ho,d,show Value.bool (aF a x c y)≠Value.notImplemented/\Q (.bool<|aF a x c y) s from⟨(λx=>nomatch x),h⟩⟩ I
end
section
variable{X:Cx}{K:zag}
def FK(K:zag):R2:=λx y H Q=>∃a b i z j v,x=.ref a/\y=.ref b/\SqT K H a [.int i,.str z]/\SqT K H b [.int j,.str v]/\Q (.bl<|aF i z j v) H
theorem FL(h:X.K=K)(g:X.A.units<cLine):OpR X (compareOp .Lt) (FK K):=by
 subst h;intro U0 s J H x y v u Q I n o h;obtain⟨a,b,i,z,j,w,rfl,rfl,ha,hb,q⟩:=h;cases n;cases o;obtain⟨p,c,m,_⟩:=I.tuple ha;obtain⟨e,d,p2,_⟩:=I.tuple hb;cases c with
 |cons f c=>
  cases c with
  |cons k c=>
   cases c;cases d with
   |cons f1 d=>
    cases d with
    |cons f2 d=>
     cases d;obtain⟨r,rfl⟩:=f;obtain⟨t,rfl⟩:=k;obtain⟨B,rfl⟩:=f1;obtain⟨C,rfl⟩:=f2;exact xm m p2 g ⟨.bl _,H,I,rfl,q⟩
end
end L2
namespace Mir
open L2
variable [Zc]
def pX:D->D->Option (D×Bool)
 | .tuple [.int i,.str z],.tuple [.int j,.str w]=>some (.bool<|aF i z j w,false)
 |_,_=>none
theorem Qi:OpJ (FK K) pX:=by
 intro B H x y c d r s m n e;unfold pX at e;split at e
 .cases e
  obtain⟨p,xs,rfl,j,a⟩:=m.tuple s;obtain⟨q,t,rfl,k,b⟩:=n.tuple s;cases a with
  |cons f a=>
   cases a with
   |cons h a=>
    cases a;cases b with
    |cons b1 b=>
     cases b with
     |cons i b=>
      cases b;cases f;cases h;cases b1;cases i
      exact⟨.bl _,.bl _,λQ o=>⟨p,q,_,_,_,_,rfl,rfl,.inl<|.inl j,.inl<|.inl k,o⟩⟩
 .cases e
def CO:D->D->Option (D×Bool)
 |x,.tuple ds=>if dJ x=true/\ds.all dJ=true then some (.bool<|inD x ds,false)else none
 |x,y=>gIn x y
theorem Qj:OpJ (rIn K false) CO:=by
 intro B H x y c d k s f h e;unfold CO at e;split at e
 .split at e
  .rename_i a
   cases e;obtain⟨p,xs,rfl,m,b⟩:=h.tuple s;have j:=f.rep s;have i:=b.mono s;refine dH λQ q=>⟨_,_,rfl,.inr<|.inl<|.inl m,j.flat a.1,i.oK a.2,?_⟩
   rw[aJ.inV j a.1 i a.2];exact q
  .cases e
 .exact Q8 B H x y _ _ k s f h e
end Mir
set_option maxHeartbeats 1000000
namespace L2
open PySem.Spec PyProof.Rows
def FO(A:Around)(s:Shared)(a:Int)(t:Tok)(c:Int)(u:Tok)(prog:Program)(w:World)(E:Value->Shared->Prop)(Q:Value->Shared->Prop)(h:Q (.bool<|decide<|c<a) s) :
  wpAny (model prog w) A (richCompare .Gt (.int a t)<|.int c u) Q E s :=
 (PyProof.Rows.gt_int h:wpAny (model prog w) A (compareOp .Gt (.int a t)<|.int c u) Q E s)
def FP(A:Around)(s:Shared)(x:Str)(t:Tok)(y:Str)(u:Tok)(prog:Program)(w:World)(E:Value->Shared->Prop)(Q:Value->Shared->Prop)(h:Q (.bool<|decide<|y.cps.toList<x.cps.toList) s) :
  wpAny (model prog w) A (richCompare .Gt (.str x t)<|.str y u) Q E s :=
 (PySem.P.gt_str h:wpAny (model prog w) A (compareOp .Gt (.str x t)<|.str y u) Q E s)
section
open PySem.SeqAt
open PySem.AutoSeq1 (wpAny_loadPart')
open PySem.MeetsSeq PySem.MeetsSeq2 PySem.MeetsSeq3
theorem xn(l b:Addr)(n n2:Nat)(Y O:Option Addr)(sl U:Array<|Option Value)(a c:Int)(x y:Str)(t M u I:Tok) :
  Meets (Builtin.«tuple.__gt__» ⟨[.ref l,.ref b],[]⟩)
   (λ_ R s=>s.heap.get? l=some {cls:=.type "tuple",dict:=Y,data:=.seq #[.int a t,.str x u] n,slots:=sl}/\s.heap.get? b=some {cls:=.type "tuple",dict:=O,data:=.seq #[.int c M,.str y I] n2,slots:=U}/\
    R (.ok<|.ret<|.bool<|aF c y a x) s) :=
 .of_wp λprog w A R s h=>by
  have rI:=@FO;have D:=@FP;obtain⟨r,g,d,tk,os⟩:=s;obtain⟨C,hb,h⟩:=h;have f2:=AutoSeq1.sub_tuple_tuple;unfold aF at h
  wp_walk using wpAny_loadPart' C,wpAny_loadPart' hb,wpAny_forIn_list _ (λZ0 b s'=>b.1=none/\s'=⟨r,g,d,tk,os⟩/\
   ((Z0=[(.int a t,.int c M),(.str x u,.str y I)])\/(Z0=[(.str x u,.str y I)]/\a=c)\/(Z0=[]/\a=c/\x=y))) _
  case turn=>
   rintro⟨p,q⟩ Z0 b s' ⟨k,rfl,f⟩
   rcases f with f|⟨f,o⟩|⟨f,_,_⟩
   .cases f
    refine zaI ((EqAt.int_int a t c M) prog w _ _ ?_);cases j:(a==c)with
    |true=>
     have e:a=c:=by simpa using j
     wp_walk
     exact⟨rfl,rfl,.inr<|.inl ⟨rfl,e⟩⟩
    |false=>
     have e:a≠c:=by simpa using j
     have i:=rI A.in1 ⟨r,g,d,tk,os⟩ a t c M prog w
     first|rw[if_neg e]at h|rw[if_neg (Ne.symm e)]at h
     wp_walk using i
     exact⟨_,rfl,by simpa using h⟩
   .cases f
    refine zaI ((EqAt.str_str x u y I) prog w _ _ ?_);cases m:(x==y)with
    |true=>
     have e:x=y:=by simpa using m
     wp_walk
     exact⟨rfl,rfl,.inr<|.inr ⟨rfl,o,e⟩⟩
    |false=>
     have e:x≠y:=by simpa using m
     have i:=D A.in1 ⟨r,g,d,tk,os⟩ x u y I prog w
     first|rw[if_pos o,if_neg e]at h|rw[if_pos o.symm,if_neg (Ne.symm e)]at h
     wp_walk using i
     exact⟨_,rfl,by simpa using h⟩
   .cases f
  case fin=>
   rintro⟨b1,E⟩ s' ⟨k,rfl,f⟩
   subst k;rcases f with f|⟨f,_⟩|⟨_,v,B⟩
   .cases f
   .cases f
   .rw[v,B,if_pos rfl,if_pos rfl]at h
    wp_walk
    exact⟨_,rfl,by simpa[Builtin.Tuple.tupleCompareSizes]using h⟩
  case h=>exact⟨rfl,rfl,.inl rfl⟩
end
section
variable{prog:Program}{w:World}{A:Around}{E:Value->Shared->Prop}{s:Shared}
theorem FQ(g:IsTup s.heap l #[.int a t,.str x u])(hb:IsTup s.heap b #[.int c M,.str y O])(I:A.units<cLine)(h:Q (.bool<|aF c y a x) s) :
  wpAny (model prog w) A (compareOp .Gt (.ref l)<|.ref b) Q E s:=by
 obtain⟨⟨cls,m,data,sl⟩,ho,o,n,hd⟩:=id g;obtain⟨⟨k,e,data2,j⟩,d,f,n2,i⟩:=id hb;subst o hd f i;exact richCompare_meets_room (op:=.Gt) ⟨_,ho,rfl⟩ ⟨_,d,rfl⟩ PySem.F.slot_tuple_gt PySem.F.entry_tuple_gt (PySem.F.args_tuple_gt_2 _ _) (xn l b n n2 m e sl j a c x y t M u O)
  ⟨ho,d,show Value.bool (aF c y a x)≠Value.notImplemented/\Q (.bool<|aF c y a x) s from⟨(λx=>nomatch x),h⟩⟩ I
end
section
variable{X:Cx}{K:zag}
def Qk(K:zag):R2:=λx y H Q=>∃a b i z j v,x=.ref a/\y=.ref b/\SqT K H a [.int i,.str z]/\SqT K H b [.int j,.str v]/\Q (.bl<|aF j v i z) H
theorem N9(h:X.K=K)(g:X.A.units<cLine):OpR X (compareOp .Gt) (Qk K):=by
 subst h;intro U0 s J H x y v u Q I n o h;obtain⟨a,b,i,z,j,w,rfl,rfl,ha,hb,q⟩:=h;cases n;cases o;obtain⟨p,c,m,_⟩:=I.tuple ha;obtain⟨e,d,p2,_⟩:=I.tuple hb;cases c with
 |cons f c=>
  cases c with
  |cons k c=>
   cases c;cases d with
   |cons f1 d=>
    cases d with
    |cons f2 d=>
     cases d;obtain⟨r,rfl⟩:=f;obtain⟨t,rfl⟩:=k;obtain⟨B,rfl⟩:=f1;obtain⟨C,rfl⟩:=f2;exact FQ m p2 g ⟨.bl _,H,I,rfl,q⟩
end
end L2
namespace Mir
open L2
variable [Zc]
def JC:D->D->Option (D×Bool)
 | .tuple [.int i,.str z],.tuple [.int j,.str w]=>some (.bool<|aF j w i z,false)
 |_,_=>none
theorem Ql:OpJ (Qk K) JC:=by
 intro B H x y c d r s m n e;unfold JC at e;split at e
 .cases e
  obtain⟨p,xs,rfl,j,a⟩:=m.tuple s;obtain⟨q,t,rfl,k,b⟩:=n.tuple s;cases a with
  |cons f a=>
   cases a with
   |cons h a=>
    cases a;cases b with
    |cons b1 b=>
     cases b with
     |cons i b=>
      cases b;cases f;cases h;cases b1;cases i
      exact⟨.bl _,.bl _,λQ o=>⟨p,q,_,_,_,_,rfl,rfl,.inl<|.inl j,.inl<|.inl k,o⟩⟩
 .cases e
end Mir
namespace L2
open PySem.Spec PyProof.Rows
end L2
namespace Mir
open L2
section
variable [Zc] [Zl]{W:WX}
theorem uN{m:MN α}{k : α->SN}{G:FrN}{A:List Addr}{B H:Hp}{J:St}{s:SS}{o:eP}{D:Ends}{C : I->Hp->Prop}(h:NM W l t m)(R:aW G A B H J s)(e:bS m k s=some o)(q:NOk G W D o)
  (c:∀x v A' B' H' s',Gro A A'->aA B B'->aW G A' B' H' J s'->l A' B' x v->k v s'=some o->C x H'):t J H C:=by
 unfold bS at e;split at e
 .rename_i v s' b
  exact h G A B H J s _ C R b λx A' B' H' g eB a V=>c x v A' B' H' s' g eB a V e
 .rename_i y s' b
  cases e;exact h G A B H J s _ C R b λA' B' H' a=>q A' B' H' J a
 .cases e
def JD(x y k:SV)(s:SS):Option eP:=match x,y,k with
 | .lc j,.pl e,.pl kd=>(keyOf kd).bind λkey=>match s.S[j]? with
  |some (some (.dat (.dict es)))=>cIf (es.length<100000) (some<|.nx ⟨s.S.set j<|some<|.dat<|.dict<|putD es kd e key,s.t⟩) none
  |_=>none
 |_,_,_=>none
def gN(d k v:EN):SN:=bS v λy=>bS d λx=>bS k λz=>JD x y z
theorem JE(hd:NE W l d)(hk:NE W ty k)(g:NE W I v):NS W (Fs l ty I) (gN d k v):=by
 intro G A B H J s o D R e q;refine uN g R e q λy yv M U H1 s1 g1 P w E K=>?_
 refine uN hd w K q λx xv O Y H2 s2 g2 h R2 F ρ=>?_
 refine uN hk R2 ρ q λz zv r t u s3 Q a i σ b=>?_
 unfold JD at b;split at b
 .rename_i j yd kd
  obtain⟨key,m,f⟩:=zaa b;split at f
  .rename_i es S
   obtain⟨hz,N⟩:=bQ f;cases N;have c:=F.mono Q a;cases E with
   |pl X=>
    cases σ with
    |pl Z=>
     cases c with
     |lc n=>
      cases i.st.cell j _ _ S n with
      |dat V=>
       obtain⟨V0,T,p⟩:=V.dict;obtain rfl:z=kV key:=View.key (H:=u) (.inl Z) m;have C:=i.write (o:=.dK<|putK V0 key y) n trivial (.dat<|.dct ak<|aV.put (A6 m) (X.mono<|h.trans a) p);exact⟨_,_,rfl,.inl ⟨V0,key,T,rfl,by rw[p.length,sizeLine_eq];lia,rfl⟩,q r t _ J C⟩
  .cases f
 .cases b
def m5(f:List D->Option (D×D))(m:MN<|List SV):EN:=bN m λxs s=>(oD s.S xs).bind λds=>(f ds).bind λc=>if(cF c.1 true&&cF c.2 true)=true then some (.ok (.tp [.lc s.S.length,.lc<|s.S.length+1]) ⟨s.S++[some<|.dat c.1]++[some<|.dat c.2],s.t⟩)else none
theorem aW.opened{B H B' H':Hp}{J:St}{s:SS}(R:aW G A B H J s)(eH:aA H H')(nz:∀q o u,H' q=some (.frz o u)->H q≠none):aW G A (tbu B H') H' J s:=by
 have b:=R.sub.trans eH;refine R.grow lU eH (λq u h=>?_) (λq h z=>?_) (λq xs h=>lV b h) λq u w h=>?_
 .rcases mR h with h|⟨_,xs,rfl,h'⟩
  .exact b q u h
  .exact h'
 .cases a:tbu B H' q with
  |none=>rfl
  |some u=>
   rcases mR a with h3|⟨_,xs,rfl,h3⟩
   .rw[z]at h3;cases h3
   .cases h4:H q with
    |none=>exact absurd h4 h
    |some e=>
     have:=eH q e h4;rw[h3]at this;cases this;rw[R.cj q xs h4]at z;cases z
 .have c:=nz q u w h
  cases a:H q with
  |none=>exact absurd a c
  |some d=>
   have:=eH q d a;rw[h]at this;cases this;exact R.nz q u w a
theorem xo(h:B p=none)(n:∀xs,H p≠some (.tup xs)):tbu B H p=none:=by
 cases a:tbu B H p with
 |none=>rfl
 |some o'=>
  rcases mR a with h3|⟨_,xs,rfl,h3⟩
  .rw[h]at h3;cases h3
  .exact absurd h3 (n xs)
theorem FT(h:NA W t m):NE W (jK (spD f) [] E t) (m5 f m):=by
 intro G A B H J s r0 Q R e q;refine fF (t:=t) h R e q λvs xs S Z g s1 g1 O b M d q1=>?_
 rw[zaR];obtain⟨ds,U,d⟩:=zaa d;obtain⟨c,Y,d⟩:=zaa d;split at d
 case isFalse=>cases d
 rename_i D
 rw[Bool.and_eq_true]at D;cases d;refine⟨g,ds,c,aA.refl _,λ_ _ z=>z,pM b.st b.sub M U,Y,λv B' H' P=>?_⟩
 obtain⟨a,p,r,rfl,ha,σ,F,K,hBp,hBr,V,or⟩:=P.val;have R2:=b.opened (B':=B') P.eH P.nz;have X:=b.sub.trans P.eH;have T:∀q xs,B' q=some (.tup xs)->tbu Z H' q=some (.tup xs):=λq xs h=>lV X (P.sub _ _ h)
 have i:=V.cX T D.1;have j:=or.cX T D.2;obtain⟨o1,y,ρ⟩:=i.mx;obtain⟨o2,C,N⟩:=j.mx;obtain⟨k,n,o⟩:=b.uB F;obtain⟨u,w,x⟩:=b.uB K;have l:=R2.take k n (xo o<|V.jM) y ρ (.dat i);have I:=l.take u (λz=>by
  rcases zae z with z|z
  .exact w z
  .exact σ (zad z).symm) (xo x<|or.jM) C N (.dat j)
 refine q1 _ _ _ H' ((Gro.app _ _).trans<|Gro.app _ _) lU I (.tp (lV X ha)<|.cons (.lc ?_)<|.cons (.lc ?_) .nil)
 .rw[<-b.st.len]
  exact Gro.app _ _ _ _ List.getElem?_concat_length
 .rw[<-b.st.len]
  have:(S++[p]).length=S.length+1:=by simp
  rw[<-this];exact List.getElem?_concat_length
end
end Mir
namespace L2
open PySem.Spec PyProof.Rows
section
variable{X:Cx}
def Lr:V->List V->Hp->VK->Prop:=λx xs H Q=>∃a V0 k v,x=.ref a/\xs=[kV k]/\H a=some (.dK V0)/\jH V0 k=some v/\Q v (upd H a<|.dK<|nL V0 k)
theorem JF:MtR X "dict.pop" Lr:=by
 intro U0 s J H x xs v us Q I i b h;obtain⟨a,V0,k,y,rfl,rfl,e,l,q⟩:=h;cases i;cases b with
 |cons f b=>
  cases b;exact P7 I e f l (.inl rfl) λj s' d c=>⟨y,_,d,c,q⟩
end
end L2
namespace Mir
open L2
section
variable [Zc] [Zl]{W:WX}
def pY(es:List<|D×D)(k:Key):List (D×D):=es.filter λp=>decide (keyOf p.1≠some k)
theorem aV.drop{B:Hp}{k:Key}:∀{V0:List<|Key×V} {es:List<|D×D},aV B V0 es->aV B (nL V0 k) (pY es k)
 |_,_,.nil=>.nil
 |_,_,.cons (k:=d) (c:=c') hk b r=>by
  have a:=aV.drop (k:=k) r;unfold nL pY at a⊢;rw[List.filter_cons,List.filter_cons];have e:(decide<|keyOf c'≠some k)=decide (d≠k):=by
   rw[hk.of];simp
  rw[e];split
  .exact .cons hk b a
  .exact a
def Ba(k:Nat)(xs:List SV)(s:SS):Option (RR SV):=match xs with
 | [.pl kd]=>(keyOf kd).bind λkey=>match s.S[k]? with
  |some (some (.dat (.dict es)))=>(cO es key).map λd=>.ok (.pl d) ⟨s.S.set k<|some<|.dat<|.dict<|pY es key,s.t⟩
  |_=>none
 |_=>none
noncomputable def Bb(S:List<|Option Cl)(k:Nat):Bool:=match S[k]? with
 |some (some (.dat (.dict _)))=>true
 |_=>false
def pZ(a:EN)(m:MN<|List SV):EN:=bN a λx s=>match x with
 | .lc k=>if Bb s.S k=true then bN m (λxs s2=>Ba k xs s2) s else none
 |_=>none
theorem JG(ha:NE W g a)(h:NA W t m):NE W (tBM K "dict" Lr g t) (pZ a m):=by
 intro G A B H J s r0 Q R e q;refine fF (t:=g) ha R e q λx v Y B1 H1 s1 g1 T w ρ b l=>?_
 split at b
 .rename_i k
  split at b
  .rename_i n
   cases ρ with
   |lc j=>
    refine⟨?_,?_⟩
    .unfold Bb at n
     split at n
     .rename_i es hk
      cases w.st.cell k _ _ hk j with
      |dat r=>obtain⟨V0,p,_⟩:=r.dict;exact .inr (.inr<|.inl ⟨rfl,.inl ⟨V0,p⟩⟩)
     .cases n
    .refine fF h w b l λvs xs D E F s2 y V R2 f c I=>?_
     unfold Ba at c;split at c
     .rename_i kd
      obtain⟨key,N,i⟩:=zaa c;split at i
      .rename_i es hk
       obtain⟨d,P,S⟩:=zab i;cases S;cases f with
       |cons U f=>
        cases f;cases U with
        |pl O=>
         cases R2.st.cell k _ _ hk (y _ _ j)with
         |dat r=>
          obtain⟨V0,p,C⟩:=r.dict;obtain⟨u,Z,M⟩:=(iz C).1 d P;have X:=View.key (H:=F) (.inl O) N;subst X;have σ:=R2.write (o:=.dK<|nL V0 key) (y _ _ j) trivial (.dat<|.dct ak<|aV.drop C);exact⟨_,V0,key,u,rfl,rfl,p,Z,I u D E _ (Gro.refl _) (aA.refl _) σ<|.pl M⟩
      .cases i
     .cases c
  .cases b
 .cases b
end
end Mir
namespace L2
def Ls(xs:List V)(H:Hp)(Q:VK):Prop:=Pb xs H Q\/∃a o V0 n,xs=[.ref a,.ty n]/\(H a=some (.dK V0)\/H a=some (.frz o<|.dK V0))/\n∈df/\Q (.bl<|o9 "dict" n) H
theorem CP:cE X (.builtin "isinstance") Ls:=by
 intro U0 s J H xs us Q I r h;rcases h with h|⟨a,o,V0,n,rfl,hd,e,q⟩
 .exact Ea U0 s J H xs us Q I r h
 .obtain⟨u,v,rfl,f,i⟩:=vals2 r
  cases i;have b:∀{vs} {h:Heap},h=s.heap->h.DictOf (bX X.prog X.w) a vs->wpAny (model X.prog X.w) X.A (call (.builtin "isinstance") [u,.type n]) (EP X U0 J Q) X.xe s:=fun{vs h} c p=>by
   subst c;cases(f);obtain⟨o,es,j,d,h3,_⟩:=p;exact za4 PySem.W.kitx_dict I.kIn ⟨o,d,h3.1⟩ (sf X.K "dict" (by decide) n e) (λz=>nomatch z) λtk=>⟨.bl _,H,I.tok tk,rfl,q⟩
  rcases hd with hd|hd
  .obtain⟨_,_,vs,_,p⟩:=(I.hok a _ hd)
   exact b rfl p
  .obtain⟨_,_,_,vs,_,p⟩:=(I.hok a _ hd)
   exact b rfl p
end L2
namespace Mir
open L2
section
variable [Zc]
def FU(n:String):D->Option (D×Bool)
 | .dict _=>if n∈df then some (.bool<|o9 "dict" n,false)else none
 |d=>mL n d
def xp(n:String)(a:PM):PM:=mUn (FU n) a
theorem JH(ha:ME g a):ME (tCB Ls<|fH g<|fH (tC<|.ty n) tW) (xp n a):=by
 intro F B H J L t ρ' Q R e q;obtain⟨x,A,e⟩:=zaa e;obtain⟨r,d,e⟩:=zab e;cases e
 by_cases hd:∃es,x.1.1=.dict es
 .obtain⟨es,hd⟩:=hd
  fail "q2"
  rw[hd]at d;have b:(if n∈df then some ((PyData.bool<|o9 "dict" n,false):D×Bool)else none)=some r:=d
  by_cases hn:n∈df
  .rw[if_pos hn]at b
   cases b;have k:=(E.view f).rep f.sub;rw[hd]at k;cases k with
   |dct h _=>
    rcases h with h|⟨o,h⟩
    .exact .inr ⟨_,⟨.none,none,.plain,#[]⟩,_,n,rfl,.inl h,hn,q _ G C j f (.bl _) λp z=>by cases z⟩
    .exact .inr ⟨_,o,_,n,rfl,.inr h,hn,q _ G C j f (.bl _) λp z=>by cases z⟩
  .rw[if_neg hn]at b;cases b
 .have i:mL n x.1.1=some r:=by
   revert d hd
   cases x.1.1 with
   |dict es=>intro _ hd;exact absurd ⟨es,rfl⟩ hd
   |_=>intro d _;exact d
  refine ha.sv F B H J L x.1 x.2 _ R A λv G C j f E T=>.inl ?_
  unfold mL at i;split at i
  .rename_i c
   cases i;have k:=(E.view f).rep f.sub;have s:=k.ty c.1;have hk:tyD x.1.1∈dQ:=by
    have m:=c.1
    revert m
    cases x.1.1 with
    |none=>intro _;show "NoneType"∈dQ;decide
    |bool _=>intro _;show "bool"∈dQ;decide
    |int _=>intro _;show "int"∈dQ;decide
    |str _=>intro _;show "str"∈dQ;decide
    |list _=>intro _;show "list"∈dQ;decide
    |tuple _=>intro _;show "tuple"∈dQ;decide
    |dict _=>intro m;exact absurd rfl m
   exact⟨v,n,rfl,by rw[s];exact hk,c.2,by rw[s];exact q _ G C j f (.bl _) λp z=>by cases z⟩
  .cases i
end
end Mir
namespace L2
theorem hv1(h:a+b<c)(hb : 1<=b:=by decide):a+1<c:=by lia
end L2
namespace Mir
open L2
end Mir
namespace L2
open PySem.Spec PyProof.Rows PySem.W
abbrev zF(X:Cx)(K1:Str)(X0:Scope)(ρ f:Addr)(cd:Value):Env:=envX K1 X0 ρ f cd (dX X.env.cells X0.names [])
def sI(X:Cx)(A:Around)(K1:Str)(X0:Scope)(N':List Str)(s₂:Shared)(H₂:Hp)(f:Addr)(cd:Value):Cx where
 prog:=X.prog
 w:=X.w
 K:=X.K
 mg:=X.mg
 base:=X.base
 A:=A.deeper (zF X K1 X0 s₂.heap.objs.size f cd)
 N:=N'
 s₀:=s₂
 H₀:=H₂
 env:=zF X K1 X0 s₂.heap.objs.size f cd
 outer:=X.stack
 stack:=zF X K1 X0 s₂.heap.objs.size f cd::X.stack
 ex:=[]
 calm:=true
 fn:=λ_=>false
 pn:=[]
 xe:=λ_ _=>False
section
variable{X:Cx}{X0:Scope}{x:Str}{fr:List<|Str×Nat}{U0:List<|Addr×Obj}{J:St}{H:Hp}{s:Shared}
theorem Blk.kinds'(B:Blk X X0 x fr)(h:X0.names.lookup y=some .cell\/X0.names.lookup y=some .free):(y,NameKind.free)∈X0.names:=by
 rcases h with h|h
 .exact absurd rfl (B.cell _<|za5 h)
 .exact za5 h
theorem JI(I:Inv X U0 J H s)(B:Blk X X0 x fr)(U:A.frames=some X.stack)(hd:A.handled=none)(Y:RelV v u)
  (g:∀b ob,s.heap.get? b=some ob->M.get? b=some ob) (O:M.Ns s.heap.objs.size λy=>[(x,u)].reverse.lookup y) :
  Inv (sI X A K1 X0 (bJ x fr) s H f cd) [] (some v::aP J fr) H {s with heap:=M,toks:=tk}:=by
 have k:∀b:Addr,b∉([]:List Addr):=λb=>by simp
 refine⟨⟨I.ok.mod,B.kind,rfl,rfl,zap _,λy z c C o=>I.ok.inj y z c (B.sub I.ok _ _ C)<|B.sub I.ok _ _ o,λy ρ=>lO _ _ _<|.inl<|B.kinds' ρ,λy c h _=>(zam h).elim,λ_=>hd,Around.frames_deeper U,.inr ⟨rfl,rfl⟩,
  λb z=>absurd z<|k b,I.bs,zaX I.ok.bsz I.sz,λb _ _=>k b,λb z=>absurd z<|k b,I.stack,I.tT,I.tab⟩,
  rfl,I.bare,Un.kept g,⟨_,O,λi y D C o h3=>?_⟩,λy c e=>?_,I.hok.fresh<|zap _,λy c e=>I.ic y c<|B.sub I.ok _ _ e,λp K=>absurd (show p∈([]:List<|Addr×Obj)from K) (by simp),I.hok.kept g,?_⟩
 .cases i with
  |zero=>
   simp only[List.getElem?_cons_zero,Option.some.injEq]at o;subst o;have E:x=y:=by simpa[bJ,sI]using C
   subst E;exact⟨u,Y,.inl ⟨B.here,by simp⟩⟩
  |succ i=>
   have a:(fr.map (·.1))[i]?=some y:=by
    have z:=C;exact z
   have d:(aP J fr)[i]?=some (some D):=by simpa using o
   rw[zao]at a;unfold aP at d;rw[zao]at d;cases e:fr[i]? with
   |none=>rw[e]at a;cases a
   |some p=>
    rw[e]at a d;have E:p.1=y:=by simpa using a
    have n : J.getD p.2 none=some D:=by simpa using d
    have hs:=List.all_eq_true.mp B.seen p (zaj e);rw[Bool.and_eq_true]at hs;have j:X0.names.lookup p.1=some .free:=by simpa using hs.1
    have w:X.N[p.2]?=some p.1:=by simpa using hs.2
    rw[E]at j w;have hk:=B.frees _ (za5 j) rfl;have F : J[p.2]?=some (some D):=by
     rw[List.getD_eq_getElem?_getD]at n;cases q : J[p.2]? with
     |none=>rw[q]at n;simp at n
     |some z=>rw[q]at n;simp at n;rw[n]
    obtain⟨m,hn,σ⟩:=I.loc;obtain⟨u,r,l⟩:=σ p.2 y D w F (.inr<|.inl hk);refine⟨u,r,.inr ⟨.inr j,?_⟩⟩;rcases l with⟨z,_⟩|⟨_,c,G,z⟩
    .rw[hk]at z;cases z
    .obtain⟨c',t⟩:=lO X0.names [] y (.inl<|za5 j)
     have:=B.sub I.ok _ _ t;rw[G]at this;cases this;obtain⟨ob,ho,hd⟩:=z;exact⟨c,t,ob,g _ _ ho,hd⟩
 .obtain⟨v,ob,ho,hd⟩:=I.cell y c (B.sub I.ok _ _ e)
  exact⟨v,ob,g _ _ ho,hd⟩
 .show _=(bJ x fr).length
  simp[bJ,aP]
theorem FV(I:Inv X U0 J H s)(B:Blk X X0 x fr)(hco:X0.isCoroutine=false)(Y:X0.isGenerator=false)
  (hA:A.frames=some X.stack) (hr:dF (k+1) A) (ho:s.heap.get? f=some (kla_obj name K1 l M X0 (dX X.env.cells X0.names []) pm c' ctv)) (hcd:s.heap.CodeRec (.ref c') K1)
  (O:bindArgs (kla_fn name K1 l M X0 (dX X.env.cells X0.names []) pm (.ref c') ctv) ⟨[u],[]⟩=pure [(x,u)]) (rv:RelV v u)
  (he:∀s₂ U,PE (sI X A K1 X0 (bJ x fr) s₂ U f<|.ref c') M te) (q:te (some v::aP J fr) H Q) :
  codeAny (model X.prog X.w) A (.call (.ref f) ⟨[u],[]⟩) (λr s'=>match r with| .ok (.ret u')=>∃v' H',Inv X U0 J H' s'/\RelV v' u'/\(∀b ps,H b=some (.tbl ps)->∃more,H' b=some (.tbl<|ps++more))/\Q v' H'|_=>False) s:=by
 refine kla_callFunE hr.depth ho rfl hco Y rfl hcd ?_;rw[O];refine zaZ (wpAny_newFunctionEnv B.cell (λy o=>?_) (λn i c=>⟨?_,?_⟩) B.kind)
 .have e:y=(x,u):=by simpa using o
  rw[e];exact B.here
 .exact(I.nolimit).fresh _ c
 .have j:=λb ob e=>c.extBut b ob (zaS<|zaq e) (zar _ e)
  have σ:=JI (tk:=s.toks+1) (f:=f) (cd:=.ref c') (K1:=K1) I B hA hr.hd rv j i;refine kla_codeExpr (za6 (he s H [] _ _ H Q σ q) (λu' s' h=>?_) λ_ _ z=>z.elim)
  obtain⟨v',H',a,C,p⟩:=h;obtain⟨D,g,d,t,m⟩:=s';obtain rfl:m=s.os:=a.os;exact⟨v',H',I.call (ch:=[]) a.base a.hok a.bare (λb z=>absurd z (by simp)),C,a.base.la,p⟩
theorem FW(I:Inv X U0 J H s)(B:Blk X X0 x fr)
  (hl:fq X.K=some (c,T,ps)) (hp:ps=#[rawInt pos.line,rawInt pos.col,.str K1 t]) (U:X.env.code=.ref c)
  (h:∀f c' H' pm l s',Inv X U0 J H' s'->aA H H'->(∀b,H b=none->H' b=none\/∃m,H' b=some (.tbl m))->s'.heap.get? f=some (kla_obj name K1 g O X0 (dX X.env.cells X0.names []) pm c' l)->iR X U0 H' f->
   (∃more,H' c'=some (.tbl<|#[.none,.str K1 t]++more))->Q (.ref f) s') :
  wpAny M A (makeFunction name K1 g (.expr O) X0 X.env [] [] [] pos fl) Q E s:=by
 obtain⟨more,v⟩:=I.tab c T ps hl;have D:=D6 (B.clos I.ok);have hg:=I.ok.mod.glob.keeps I.bk;have C:=codeHd_of_K I.kIn (o8 hl).2;have nT:∀b o,X.base.get? b=some o->b≠T:=λb o e z=>by
  have:=(I.bs b o e).2;rw[z,v]at this;cases this
 have Y:mainGlobals≠T:=by
  obtain⟨o,es,V,e,_⟩:=I.ok.mod.glob;exact nT _ _ e
 have hb:s.heap.BuiltinsAt X.mg T:=by
  obtain⟨bm,ob,b1,b2,N,b4,b5,R⟩:=I.ok.mod.bmain;refine⟨bm,ob,b1,b2,λz=>?_,nT _ _ N,I.bk _ _ N,b4,b5,R⟩
  obtain⟨o,es,V,e,d,_⟩:=I.ok.mod.glob;rw[z,e]at N;cases N;rw[d]at R;cases R
 subst hp;have g2:(#[rawInt pos.line,rawInt pos.col,Value.str K1 t]++more)[2]?=some (.str K1 t):=by rw[Array.getElem?_append_left (by simp)];rfl
 have d0:(#[rawInt pos.line,rawInt pos.col,Value.str K1 t]++more).getD 0 .none=rawInt pos.line:=by rw[Array.getD_eq_getD_getElem?,Array.getElem?_append_left (by simp)];rfl
 have d1:(#[rawInt pos.line,rawInt pos.col,Value.str K1 t]++more).getD 1 .none=rawInt pos.col:=by rw[Array.getD_eq_getD_getElem?,Array.getElem?_append_left (by simp)];rfl
 rcases I.hok T _ v with⟨S,_⟩|⟨S,qs,hq,hc⟩
 .exact absurd S (wy hl more)
 rcases hc with rfl|⟨c',q,t',m',rfl,e2,e3⟩
 .refine kla_makeFunction D I.ok.glob hg U C hq trivial rfl Y hb λc' l h' tk hx j k F ρ=>?_
  have W:=I.hok.fresh j;have i:∀b o,b≠T->s.heap.get? b=some o->(h'.push<|kla_obj name K1 g O X0 (dX X.env.cells X0.names []) ((X.mg "__name__").getD .none) c' l).get? b=some o:=λb o a e=>zar _ (hx b o a e)
  have tn:∀b,H b=none->b≠T:=λb e z=>by rw[z,v]at e;cases e
  have p:∀b o,H b=some o->b≠c':=λb o e=>cS e W
  have σ:Inv X U0 J (upd H c'<|.tbl #[.none,.str K1 t]) {s with heap:=h'.push<|kla_obj name K1 g O X0 (dX X.env.cells X0.names []) ((X.mg "__name__").getD .none) c' l,toks:=tk}:=by
   refine I.step (g':=s.gens) (ch:=[]) (λ_ z=>nomatch z) (λb o _ _ _ e n=>i b o (tn b n) e) (λb o _ _ _ e n=>⟨o.slots,i b o (tn b n) e⟩) (λb o _ e n=>?_) (λb o _ e=>?_) (λb xs e=>?_) (λb o u e=>?_) (λb ps' e=>⟨#[],?_⟩) (λm hm=>?_) (λb u e=>?_) I.bare
   .rw[aj<|zaS<|zaF (zaq e) j];exact n
   .by_cases a:b=T
    .exact⟨_,by rw[a];exact zar _ ρ⟩
    .exact⟨o,i b o a e⟩
   .rw[aj<|p _ _ e];exact e
   .rw[aj<|p _ _ e];exact e
   .rw[aj<|p _ _ e,e];simp
   .obtain⟨o,es,V,ho,r⟩:=hm
    exact⟨o,es,V,i _ o (tn _ I.free) ho,r⟩
   .by_cases y:b=c'
    .subst y
     rw[ak]at e;cases e;obtain⟨c2,oc,vs,tk2,ec,eo,ed⟩:=F;cases ec;exact .inl ⟨rfl,K1,t,rfl,b,oc,vs,tk2,rfl,zar _ eo,ed⟩
    .rw[aj y]at e
     by_cases w:b=T
     .subst w
      rw[v]at e;cases e;refine .inr ⟨S,_,zar _ ρ,.inr ⟨c',K1,t,#[],?_,g2,?_⟩⟩
      .rw[d0,d1];rfl
      .rw[ak];rfl
     .refine(I.hok b u e).stay (λP u' a q=>i P u' ?_ q) (λP q=>by rw[aj<|p _ _ q];exact q) λP v' _ q=>by rw[aj<|p _ _ q];exact q
      rintro rfl
      rcases a with z|z
      .exact w z.symm
      .rw[v]at z;cases z
  have Z:(upd H c'<|.tbl #[.none,.str K1 t]) h'.objs.size=none:=by
   rw[aj<|Nat.ne_of_gt k];exact I.hok.fresh (zaX j<|Nat.le_of_lt k)
  refine h h'.objs.size c' _ _ l _ σ (λb o e=>by rw[aj<|p _ _ e];exact e) (λb e=>?_) (zaL _ rfl) (I.mF (zaX j<|Nat.le_of_lt k) Z) ⟨#[],by rw[ak];rfl⟩
  by_cases z:b=c'
  .exact .inr ⟨_,by rw[z];exact ak⟩
  .exact .inl (by rw[aj z];exact e)
 .rw[g2]at e2
  cases e2;rw[d0,d1]at hq;refine kla_makeFunctionHit (cv:=.ref c') D I.ok.glob hg U C hq trivial (by simp[codeAmong,rawInt]) hb λl h' tk hk G=>?_
  have σ:Inv X U0 J H {s with heap:=h'.push<|kla_obj name K1 g O X0 (dX X.env.cells X0.names []) ((X.mg "__name__").getD .none) c' l,toks:=tk}:=I.kept λb o e=>zar _ (hk b o e)
  exact h h'.objs.size c' H _ l _ σ (aA.refl _) (λb e=>.inl e) (zaL _ rfl) (I.mF G<|I.hok.fresh G) ⟨m',e3⟩
end
def Lu(K:zag)(fr:List<|Str×Nat)(tl M:TE):TE:=λJ H Q=>tl J H λx j=>∃a xs u,x=.ref a/\SqL K j a xs/\xs[0]?=some u/\
 ∀e,aA j e->(∀b,j b=none->e b=none\/∃m,e b=some (.tbl m))->M (some u::aP J fr) e λF C=>∃W:Nat->V->V->Hp->Prop,W 1 u F C/\
  ∀i b q h,W i b q h->SqL K h a xs/\(xs.length<=i->Q b h)/\∀v,xs[i]?=some v->M (some v::aP J fr) h λk D=>FK K k q D λr y=>∃c,r=.bl c/\if c=true then W (i+1) v k y else W (i+1) b q y
section
variable{X:Cx}{X0:Scope}{x:Str}{fr:List<|Str×Nat}{U0:List<|Addr×Obj}{J:St}{H:Hp}{s:Shared}
theorem code_at(I:Inv X U0 J H s)(h:H c=some (.tbl<|#[.none,.str q t]++more)):s.heap.CodeRec (.ref c) q:=by
 have a:(#[Value.none,.str q t]++more)[0]?=some .none:=by rw[Array.getElem?_append_left (by simp)];rfl
 have b:(#[Value.none,.str q t]++more)[1]?=some (.str q t):=by rw[Array.getElem?_append_left (by simp)];rfl
 rcases I.hok c _ h with⟨_,d,e,z,r⟩|⟨z,_⟩
 .rw[b]at z;cases z;exact r
 .exact absurd a z
def CQ(g:IsTup s.heap l #[.int a t,.str x u])(hb:IsTup s.heap b #[.int c M,.str y O])(I:A.units<cLine)(h:Q (.bool<|aF a x c y) s) :
  wpAny (model prog w) A (richCompare .Lt (.ref l)<|.ref b) Q E s:=xm g hb I h
theorem xq(I:Inv X U0 J H s)(B:Blk X X0 x fr)(hco:X0.isCoroutine=false)(hgen:X0.isGenerator=false)
  (hr:dF (k+2) X.A) (ho:s.heap.get? f=some (kla_obj name K1 M O X0 (dX X.env.cells X0.names []) pm c' Y)) (hc:H c'=some (.tbl<|#[.none,.str K1 t]++more))
  (U:∀(pm Y:Value) (c':Addr) (cl:List<|Str×Addr) (u:Value),bindArgs (kla_fn name K1 M O X0 cl pm (.ref c') Y) ⟨[u],[]⟩=pure [(x,u)]) (rv:RelV v u)
  (he:∀l g f c',PE (sI X X.A.in1 K1 X0 (bJ x fr) l g f<|.ref c') O te) (q:te (some v::aP J fr) H Q)
  (h:∀u' s' v' H',Inv X U0 J H' s'->RelV v' u'->(∃more,H' c'=some (.tbl<|#[.none,.str K1 t]++more))->Q v' H'->P u' s') :
  wpAny (model X.prog X.w) X.A.in1 (call (.ref f) [u]) P E s:=by
 refine wpAny_call (codeAny_mono (FV I B hco hgen I.ok.frames hr.in1 ho (code_at I hc) (U _ _ _ _ _) rv (λl g=>he l g f c') q) λr s' a=>?_)
 cases r with
 |error e=>exact a.elim
 |ok fl=>
  cases fl with
  |next=>exact a.elim
  |brk=>exact a.elim
  |cont=>exact a.elim
  |ret u'=>
   obtain⟨v',H',σ,d,i,c⟩:=a;obtain⟨b,z⟩:=i _ _ hc;exact h u' s' v' H' σ d ⟨more++b,by rw[z,Array.append_assoc]⟩ c
structure Lv(X:Cx)(U0:List<|Addr×Obj)(J:St)(a it S f c':Addr)(fo:Obj)(K1:Str)(t:Tok)(i:Nat)(H:Hp)(s:Shared):Prop where
 inv:Inv X U0 J H s
 fi:iR X U0 H it
 fs:iR X U0 H S
 ff:iR X U0 H f
 n1:it≠S
 n2:it≠f
 n3:S≠f
 li:s.heap.IsListIter it a i
 lf:s.heap.get? f=some fo
 nf:∀v,fo.data≠.cell v
 lc:∃more,H c'=some (.tbl<|#[.none,.str K1 t]++more)
def iR.to(h:iR X U0 H b)(e:H' b=none):iR X U0 H' b:=⟨e,h.2⟩
theorem FX{g:Arguments}{l:Expr}{pm M:Value}{a it S f c':Addr}{te:TE}{xs:List V}{Q:VK}{W:Nat->V->V->Hp->Prop}{R:Result->Shared->Prop}(B:Blk X X0 x fr)(hco:X0.isCoroutine=false)(hgen:X0.isGenerator=false)
  (hr:dF (k+2) X.A) (O:∀(pm M:Value) (c':Addr) (cl:List<|Str×Addr) (u:Value),bindArgs (kla_fn name K1 g l X0 cl pm (.ref c') M) ⟨[u],[]⟩=pure [(x,u)])
  (he:∀s₂ Y f c',PE (sI X X.A.in1 K1 X0 (bJ x fr) s₂ Y f<|.ref c') l te)
  (turn:∀i b I H4,W i b I H4->SqL X.K H4 a xs/\(xs.length<=i->Q b H4)/\∀v,xs[i]?=some v->te (some v::aP J fr) H4 λk H5=>FK X.K k I H5 λr H6=>∃c,r=.bl c/\if c=true then W (i+1) v k H6 else W (i+1) b I H6)
  (hR:∀u s',EP X U0 J Q u s'->R (.ok<|.ret u) s') :
  ∀(n i:Nat) (H:Hp) (s:Shared) (b I:V) (U uk:Value) (cn:Nat),xs.length-i=n->Lv X U0 J a it S f c' (kla_obj name K1 g l X0 (dX X.env.cells X0.names []) pm c' M) K1 t i H s->
   s.heap.get? S=some (seqObj "list" #[U,uk] cn)->RelV b U->RelV I uk->W i b I H->codeAny (model X.prog X.w) X.A (.builtin "min.loop" ⟨[.ref it,.ref f,.ref S],[]⟩) R s:=by
 have m:(toString "min"++toString ".loop":String)="min.loop":=by decide
 intro n
 induction n with
 |zero=>
  intro i H s b I U uk cn hn ρ y rb rk w;obtain⟨sq,fin,_⟩:=turn i b I H w;obtain⟨S1,rv,p,q⟩:=ρ.inv.list sq;have hl:=rv.length;refine codeAny_builtin PySem.F.entry_min_loop ?_;refine zaI (wpAny_seqItems y rfl ?_);refine zaI (wpAny_tryCatch<|wpAny_pyNext_list_end (hr.hd) ρ.li p.isList (by simp;lia) λh' eb=>?_)
  obtain⟨f0,f1,f2,f3,f4,f5⟩:=ρ.fi;obtain⟨g0,g1,g2,g3,g4,g5⟩:=ρ.fs;have I1:Inv X U0 J H {s with heap:=h'}:=ρ.inv.turned (λb o hb e=>eb b o hb e) f0 f1 f3 f4 f5
  have hS':=eb S _ (Ne.symm ρ.n1) y;have s1:=Heap.SameBut.update h' S (Obj.mapSeq λ_=>(#[]:Array Value))
  refine zaI ?_;refine wpAny_updateSeq hS' rfl (zaI<|wpAny_letGo<|zaZ ?_);refine hR U _ ⟨b,H,?_,rb,fin (by lia)⟩
  exact I1.turned (λb o hb e=>(s1.2 b hb).trans e) g0 g1 g3 g4 g5
 |succ n ih=>
  intro i H s b I U uk cn hn ρ y rb rk w;obtain⟨sq,_,step⟩:=turn i b I H w;obtain⟨S1,rv,p,q⟩:=ρ.inv.list sq;have hi:i<xs.length:=by lia
  have E:=zaC hi;obtain⟨u,hu,ru⟩:=rv.get E;refine codeAny_builtin PySem.F.entry_min_loop ?_;rw[Around.under_plainId PySem.F.plain_min_loop _];refine zaI (wpAny_seqItems y rfl ?_);refine zaI (wpAny_tryCatch<|wpAny_pyNext_list_item ρ.li p.isList (by simpa using hu) λh' st' sb=>?_)
  obtain⟨f0,f1,f2,f3,f4,f5⟩:=ρ.fi;obtain⟨g0,g1,g2,g3,g4,g5⟩:=ρ.fs;have I1:Inv X U0 J H {s with heap:=h'}:=ρ.inv.turned (λb o hb e=>(sb.2 b hb).trans e) f0 f1 f3 f4 f5
  have C:=(sb.2 S<|Ne.symm ρ.n1).trans y;have j:=(sb.2 f<|Ne.symm ρ.n2).trans ρ.lf;obtain⟨oi,ei,ci,di⟩:=id st';have IP:=Inv.pinned I1 (fp:=[it,S,f]) (λz q=>by
    simp only[List.mem_cons,List.not_mem_nil,or_false]at q;rcases q with rfl|rfl|rfl
    .exact ρ.fi
    .exact ρ.fs
    .exact ρ.ff) λz q=>by
    simp only[List.mem_cons,List.not_mem_nil,or_false]at q;rcases q with rfl|rfl|rfl
    .exact⟨oi,ei,λv z=>by rw[di]at z;cases z⟩
    .exact⟨_,C,λv z=>by cases z⟩
    .exact⟨_,j,ρ.nf⟩
  obtain⟨more,hcm⟩:=ρ.lc;refine zaI (wpAny_tryCatch<|wpAny_holding ?_);refine xq IP B hco hgen hr j hcm O ru he (step _ E) λuk' s2 vk' Z σ rk' G q2=>?_
  have pi:=σ.pin (it,oi) (zan _<|zan _<|bF (by simp) ei)
  have N:=σ.pin (S,_) (zan _<|zan _<|bF (by simp) C)
  have pf:=σ.pin (f,_) (zan _<|zan _<|bF (by simp) j)
  have J2:=Inv.d8 σ;obtain⟨h,pb,i1,z1,i2,z2,e1,e2,t1,t2,cc,ec,w2⟩:=q2;subst e1 e2;cases ec;obtain rfl:uk'=Value.ref h:=rk';obtain rfl:uk=Value.ref pb:=rk;obtain⟨is1,P,p1,_⟩:=J2.tuple t1;obtain⟨is2,T,p2,_⟩:=J2.tuple t2;cases P with
  |cons a1 P=>
   cases P with
   |cons a2 P=>
    cases P;cases T with
    |cons b1 T=>
     cases T with
     |cons b2 T=>
      cases T;obtain⟨k1,rfl⟩:=a1;obtain⟨k2,rfl⟩:=a2;obtain⟨k3,rfl⟩:=b1;obtain⟨k4,rfl⟩:=b2;refine zaI (wpAny_tryCatch<|wpAny_holding<|zaI<|CQ p1 p2 (by have:=hr.un;show X.A.units+1<cLine;lia) ?_)
      refine zaI (wpAny_holding<|wpAny_truthy_bool ?_);refine zaI (wpAny_letGo<|zaZ ?_);have d:Lv X U0 J a it S f c' (kla_obj name K1 g l X0 (dX X.env.cells X0.names []) pm c' M) K1 t (i+1) Z s2 :=
       ⟨J2,ρ.fi.to pi.2.1,ρ.fs.to N.2.1,ρ.ff.to pf.2.1,ρ.n1,ρ.n2,ρ.n3,⟨oi,pi.1,ci,di⟩,pf.1,ρ.nf,G⟩
      by_cases D:aF i1 z1 i2 z2=true
      .rw[D]at w2⊢
       have s1:=Heap.SameBut.update s2.heap S (Obj.mapSeq λ_=>#[u,.ref h])
       obtain⟨c2,hc2⟩:∃c2,(s2.heap.update S<|Obj.mapSeq λ_=>#[u,.ref h]).get? S=some (seqObj "list" #[u,.ref h] c2):=⟨_,get?_update_seq N.1 λ_=>#[u,.ref h]⟩
       refine zaI ?_;refine wpAny_updateSeq N.1 rfl (zaI<|wpAny_letGo ?_);rw[m];have I3:Inv X U0 J Z {s2 with heap:=s2.heap.update S<|Obj.mapSeq λ_=>#[u,.ref h]}:=J2.turned (λb o hb e=>(s1.2 b hb).trans e) N.2.1 g1 g3 g4 g5
       refine zaZ ⟨plainId_quiet PySem.F.plain_min_loop _,ih (i+1) Z _ xs[i] (.ref h) u (.ref h) c2 (by lia) ⟨I3,d.fi,d.fs,d.ff,ρ.n1,ρ.n2,ρ.n3,⟨oi,(s1.2 it ρ.n1).trans pi.1,ci,di⟩,(s1.2 f<|Ne.symm ρ.n3).trans pf.1,ρ.nf,G⟩ hc2 ru rfl w2⟩
      .have hb2:aF i1 z1 i2 z2=false:=by simpa using D
       rw[hb2]at w2⊢;refine zaI (wpAny_letGo ?_);exact zaZ ⟨plainId_quiet PySem.F.plain_min_loop _,ih (i+1) Z _ b (.ref pb) U (.ref pb) cn (by lia) d N.1 rb rfl w2⟩
end
def Lw(X:Cx)(pos:Pos):Prop:=∃c T ps t,fq X.K=some (c,T,ps)/\ps=#[rawInt pos.line,rawInt pos.col,.str (X.env.qual++"<lambda>") t]/\X.env.code=.ref c
section
variable{X:Cx}{X0:Scope}{x:Str}{fr:List<|Str×Nat}
theorem JJ{l:Expr}{Qm p pos kpos:Pos}{tl te:TE}(B:Blk X X0 x fr)(hL:Lw X Qm)(hr:dF (k+2) X.A)(hg:Gl X "min")(hm:X.mg "min"=none)(hl:PE X e tl)
  (he:∀s₂ U f c',PE (sI X X.A.in1 (X.env.qual++"<lambda>") X0 (bJ x fr) s₂ U f<|.ref c') l te)
  (M:∀(pm Y:Value) (c':Addr) (cl:List<|Str×Addr) (u:Value),bindArgs (kla_fn "<lambda>" (X.env.qual++"<lambda>") g l X0 cl pm (.ref c') Y) ⟨[u],[]⟩=pure [(x,u)])
  (hco:X0.isCoroutine=false:=by rfl) (O:X0.isGenerator=false:=by rfl) (hdef:defaultsOf g X.env=([],[]):=by rfl)
  (hst:backTo pos (starEach [e] X.env)=(false,eval e X.env)::backTo pos (starEach [] X.env):=by rfl) (hpl:(backTo pos<|starEach [e] X.env).any (·.1)=false:=by rfl) (hst2:starEach [e] X.env=(false,eval e X.env)::starEach [] X.env:=by rfl) :
  PE X (.Call (.Name "min" p) [e] [⟨some "key",.Lambda g l X0 Qm,kpos⟩] pos) (Lu X.K fr tl te):=by
 have ha:=oI hl y0 hst2;intro U0 s J H Q I h;obtain⟨c,T,ps,t,Rj,hps,C⟩:=hL;have hname:(toString "min"++toString ".loop":String)="min.loop":=by decide
 refine wpAny_Call_Name_kw (gX I hg hm PyProof.Rows.boot_min ?_ (by decide) (by decide))
 refine callWith_kw (thn (ha pos U0 s J H (λvs n=>∃v,vs=[v]/\(λx n=>∃a xs v0,x=.ref a/\SqL X.K n a xs/\xs[0]?=some v0/\
  ∀j,aA n j->(∀b,n b=none->j b=none\/∃m,j b=some (.tbl m))->te (some v0::aP J fr) j λk0 H3=>∃W:Nat->V->V->Hp->Prop,W 1 v0 k0 H3/\
  ∀i b kb H4,W i b kb H4->SqL X.K H4 a xs/\(xs.length<=i->Q b H4)/\∀v,xs[i]?=some v->te (some v::aP J fr) H4 λk H5=>FK X.K k kb H5 λr H6=>∃c,r=.bl c/\if c=true then W (i+1) v k H6 else W (i+1) b kb H6) v n) I ?_) λus s1 ⟨vs,n,I1,r1,v,ev,q1⟩=>?_) hst hpl rfl rfl
 .show tl J H _
  have h':=h;refine Eq.mp (congrArg (tl J H) ?_) h';funext x n
  exact propext ⟨λz=>⟨x,rfl,z⟩,λ⟨v,ev,z⟩=>by cases ev;exact z⟩
 subst ev;obtain⟨a,xs,v0,rfl,sq,h0,q⟩:=q1;obtain⟨ua,rfl,ra⟩:∃ua,us=[ua]/\RelV (.ref a) ua:=by
  cases r1 with
  |cons ra rr=>
   cases rr;exact⟨_,rfl,ra⟩
 obtain rfl:ua=Value.ref a:=ra;refine kws_cons (kla_eval hdef<|FW I1 B Rj hps C λf c' j pm Y s2 σ sm nn ho ff hc=>kws_nil ?_)
 have sq2:SqL X.K j a xs:=by
  rcases sq with(z|⟨o,z⟩)|z
  .exact .inl (.inl<|sm _ _ z)
  .exact .inl (.inr ⟨o,sm _ _ z⟩)
  .exact .inr z
 obtain⟨S1,rv,p1,G⟩:=σ.list sq2;obtain⟨u0,hu0,ru0⟩:=rv.get h0;show wpAny (model X.prog X.w) X.A (call (.builtin "min") [.ref a] [(Str.ofString "key",.ref f)]) _ _ s2;refine kmk_tree PySem.F.kind_min PySem.F.plain_min PySem.F.entry_min (kmk_min_key _ _) ?_;refine zaI (wpAny_of_eq (rfl) ?_);refine zaI (zaZ ?_);refine zaI (wpAny_pyIter_list p1.isList ?_);refine zaI (wpAny_newList ?_ (Nat.zero_le _));refine zaZ ⟨plainId_quiet PySem.F.plain_min_loop _,?_⟩;generalize y:s2.heap.push {cls:=.type "list_iterator",data:=.fields #[.ref a,.int 0 0]}=d;have hS:d.objs.size=s2.heap.objs.size+1:=by rw[<-y,Heap.size_push]
 have S:∀b o,s2.heap.get? b=some o->(d.push<|seqObj "list" #[] 0).get? b=some o:=λb o e=>zar _ (by rw[<-y];exact zar _ e)
 have gI:(d.push<|seqObj "list" #[] 0).get? s2.heap.objs.size=some {cls:=.type "list_iterator",data:=.fields #[.ref a,.int 0 0]}:=zar _ (by rw[<-y];exact zaL _ rfl)
 have gS:(d.push<|seqObj "list" #[] 0).get? d.objs.size=some (seqObj "list" #[] 0):=zaL _ rfl;have I3:Inv X U0 J j {s2 with heap:=d.push<|seqObj "list" #[] 0}:=σ.kept S
 have fi:=σ.mF (zap _) (σ.hok.fresh<|zap _);have fs:iR X U0 j d.objs.size:=σ.mF (by lia) (σ.hok.fresh (by lia))
 have R:=zaq ho;have n1:s2.heap.objs.size≠d.objs.size:=by lia
 have n2:=Nat.ne_of_gt R;have n3:d.objs.size≠f:=by rw[hS];exact Nat.ne_of_gt (Nat.lt_succ_of_lt R)
 obtain⟨g0,g1,g2,g3,g4,g5⟩:=fs;refine codeAny_builtin PySem.F.entry_min_loop ?_;refine zaI (wpAny_seqItems gS rfl ?_);obtain⟨RE,rv3,p3,_⟩:=I3.list sq2;obtain⟨ρ,hu3,Z⟩:=rv3.get h0;refine zaI (wpAny_tryCatch<|wpAny_pyNext_list_item ⟨_,gI,rfl,rfl⟩ p3.isList (by simpa using hu3) λh' st' sb=>?_)
 have I4:Inv X U0 J j {s2 with heap:=h'}:=I3.turned (λb o hb e=>(sb.2 b hb).trans e) fi.1 fi.2.1 fi.2.2.2.1 fi.2.2.2.2.1 fi.2.2.2.2.2
 have P:=(sb.2 _<|Ne.symm n1).trans gS;have D:=(sb.2 f<|Ne.symm n2).trans (S _ _ ho);obtain⟨oi,ei,ci,di⟩:=id st';have IP:=Inv.pinned I4 (fp:=[s2.heap.objs.size,d.objs.size,f]) (λz G=>by
   simp only[List.mem_cons,List.not_mem_nil,or_false]at G;rcases G with rfl|rfl|rfl
   .exact fi
   .exact⟨g0,g1,g2,g3,g4,g5⟩
   .exact ff) λz G=>by
   simp only[List.mem_cons,List.not_mem_nil,or_false]at G;rcases G with rfl|rfl|rfl
   .exact⟨oi,ei,λv z=>by rw[di]at z;cases z⟩
   .exact⟨_,P,λv z=>by cases z⟩
   .exact⟨_,D,λv z=>by cases z⟩
 obtain⟨more,hcm⟩:=hc;refine zaI (wpAny_tryCatch<|wpAny_holding ?_);refine xq IP B hco O hr D hcm M Z he (q j sm nn) λN s5 vk H5 J5 rk lc5 q5=>?_
 obtain⟨W,w0,turn⟩:=q5;have pi:=J5.pin (s2.heap.objs.size,oi) (zan _<|zan _<|bF (by simp) ei)
 have pS:=J5.pin (d.objs.size,_) (zan _<|zan _<|bF (by simp) P)
 have pf:=J5.pin (f,_) (zan _<|zan _<|bF (by simp) D)
 have J6:=Inv.d8 J5;have E:=Heap.SameBut.update s5.heap d.objs.size (Obj.mapSeq λ_=>#[ρ,N])
 obtain⟨c2,hc2⟩:∃c2,(s5.heap.update d.objs.size<|Obj.mapSeq λ_=>#[ρ,N]).get? d.objs.size=some (seqObj "list" #[ρ,N] c2):=⟨_,get?_update_seq pS.1 λ_=>#[ρ,N]⟩
 refine zaI ?_;refine wpAny_updateSeq pS.1 rfl ?_;have I7:Inv X U0 J H5 {s5 with heap:=s5.heap.update d.objs.size<|Obj.mapSeq λ_=>#[ρ,N]}:=J6.turned (λb o hb e=>(E.2 b hb).trans e) pS.2.1 g1 g3 g4 g5
 refine zaZ ⟨plainId_quiet PySem.F.plain_min_loop _,FX B hco O hr M he turn (λu s' z=>z) _ 1 H5 _ v0 vk ρ N c2 rfl
  ⟨I7,fi.to pi.2.1,⟨pS.2.1,g1,g2,g3,g4,g5⟩,ff.to pf.2.1,n1,n2,n3,⟨oi,(E.2 _ n1).trans pi.1,ci,di⟩,(E.2 f<|Ne.symm n3).trans pf.1,(λv z=>by cases z),lc5⟩ hc2 Z rk w0⟩
end
section
variable{P:Program}{w:World}{K:zag}{mg:Str->Option Value}{base:Heap}
theorem Top.Rk{st:Stmt}{k:Nat}{sp:Sp}{I:Pos}(M:(fq K).isSome=true)(l:tS (.stmts<|dP st)=some I)(O:((x++".<locals>.":Str)++"<lambda>":Str)=x++".<locals>.<lambda>")(T:Top K mg x st)(S:aK N ps<|aB st)(len:∀vs H Q E,sp vs H Q E->vs.length=ps.length)
  (hb:∀(kV doc pm:Value) (an:Option Addr) (cdv ct:Value) (us:List Value),us.length=ps.length->bindArgs (PySem.W.fnOf x x (gJ st) (dP st) (aB st) .none kV doc pm an cdv ct) ⟨us,[]⟩=pure (ps.zip us))
  (g:∀(f:Addr) (cdv:Value) (A:Around) (outer:List Env) (s:Shared) (H:Hp) (vs:List V) (Q:VK) (E:XK),Lw (tX CX0 P w K mg base N x (aB st) f cdv A outer s H E).nox I->dF k (A.deeper<|envOfC x (aB st) s.heap.objs.size f cdv)->sp vs H Q E->
   ∃t,PSs (tX CX0 P w K mg base N x (aB st) f cdv A outer s H E).nox (dP st) t/\t {nx:=λ_ H'=>Q .non H',rt:=Q} (start N vs) H):Def P w K mg base CX0 (k+1) x ps sp:=by
 obtain⟨f,fd,F,m⟩:=T.ex;refine⟨⟨f,fd,?_,m,F.kp,F.binds hb⟩⟩;obtain⟨oc,od,kV,doc,pm,an,cdv,ct,osl,rfl,lk,a⟩:=F.ex;refine cf lk a S len λA outer s H vs Q E n b=>?_
 obtain⟨⟨c,T',d⟩,e⟩:=Option.isSome_iff_exists.mp M;obtain⟨i,j⟩:=MC e lk l;obtain⟨t,h,q⟩:=g f cdv A outer s H vs Q E ⟨c,T',d,0,e,by rw[j];show _=#[_,_,Value.str (x++".<locals>."++"<lambda>") 0];rw[O],i⟩ n b
 exact⟨t,h.nox,q⟩
end
def btK(M:Nat->Int×Str)(i j:Nat):Bool:=aF (M i).1 (M i).2 (M j).1 (M j).2
end L2
namespace Mir
open L2
section
variable [Zc]
def zG(e:PM)(M:Rho):List D->Option (List<|D×Int×Str)
 | []=>some []
 |d::ds=>(sv e (.fz d::M)).bind λy=>match y.1 with
  |(.tuple [.int i,.str z],.fz)=>(zG e M ds).map ((d,i,z)::·)
  |_=>none
def l4:D×Int×Str->List (D×Int×Str)->D×Int×Str
 |b,[]=>b
 |b,c::r=>l4 (if aF c.2.1 c.2.2 b.2.1 b.2.2=true then c else b) r
def FY(fr:List<|Str×Nat)(l e:PM):PM:=λL=>(l L).bind λx=>match x.1 with
 |(.list ds,.fz)=>(zG e (fr.map λp=>bG x.2 p.2) ds).bind λh=>match h with
  |b::r=>some (((l4 b r).1,.fz),x.2)
  | []=>none
 |_=>none
theorem sJ(h:zG e g (d::ds)=some l) :
  ∃y i z r,sv e (.fz d::g)=some y/\y.1=(.tuple [.int i,.str z],.fz)/\zG e g ds=some r/\l=(d,i,z)::r:=by
 obtain⟨y,b,a⟩:=zaa (h);split at a
 .rename_i i z c
  obtain⟨r,h3,h4⟩:=zab a;exact⟨y,i,z,r,b,c,h3,h4.symm⟩
 .cases a
theorem xr(h:Rep B v<|.tuple [.int i,.str z]):∃p,v=.ref p/\B p=some (.tup [.int i,.str z]):=by
 cases h with
 |tup h r=>
  cases r with
  |cons a r=>
   cases r with
   |cons b r=>
    cases r;cases a;cases b;exact⟨_,rfl,h⟩
theorem Rel.tabs(R:Rel F B H J L)(l:aA H g)(I:∀b,H b=none->g b=none\/∃m,g b=some (.tbl m)):Rel F B g J L:=by
 have back:∀q o,g q=some o->(∀m,o≠.tbl m)->H q=some o:=λq o h n=>by
  cases e:H q with
  |some u=>rw[l q u e]at h;exact h
  |none=>
   rcases I q e with z|⟨m,z⟩
   .rw[z]at h;cases h
   .rw[z]at h;cases h;exact absurd rfl (n m)
 exact R.grow (aA.refl _) l (R.sub.trans l) (λq _ z=>z) (λq xs h=>R.cj q xs<|back q _ h λm z=>by cases z) λq o u h z=>by rw[back q _ h λm z=>by cases z]at z;cases z
theorem JK(hl:ME tl l)(he:ME te e):ME (Lu K fr tl te) (FY fr l e):=by
 intro F B H J L r0 ρ' Q R m q;obtain⟨x,e1,m⟩:=zaa m;obtain⟨r1,d⟩:=x;split at m
 case h_2=>cases m
 rename_i ds hx
 obtain rfl:r1=(.list ds,.fz):=hx;obtain⟨ks,E,m⟩:=zaa m;split at m
 case h_2=>cases m
 rename_i b0 I
 cases m;refine hl F B H J L _ d _ R e1 λv C T E1 R1 V1 N1=>?_
 have V1':=V1;cases V1' with
 |lst σ n=>
 rename_i a xs
 match ds,n,E with
 | [],_,E=>cases E
 |d0::ds,.cons (x:=v0) (xs:=xs) A n,E=>
 obtain⟨y,X,Z,r,k1,k2,k3,k4⟩:=sJ E;obtain⟨rfl,rfl⟩:b0=(d0,X,Z)/\I=r:=by cases k4;exact⟨rfl,rfl⟩
 refine⟨a,v0::xs,v0,rfl,eK<|cB R1.sub σ,rfl,λH2 sm nn=>?_⟩
 have R2:=R1.tabs sm nn;have Ri:=R2.inner fr A;refine he.sv (F0 H2) C H2 _ _ y.1 y.2 _ Ri k1 λu g H3 S M V3 N3=>?_
 obtain⟨G,N⟩:=ip gk S;have O:=R2.grow S.sB G M.sub N M.cj M.nz;rw[k2]at V3;have V3':Rep g u (.tuple [.int X,.str Z]):=V3;have nbA:∀q,T q≠none->C q=none->g q=none:=λq h z=>N q (λy=>h<|sm.free y) z
 refine⟨λi b kb s=>1<=i/\i<=(d0::ds).length/\∃j f Z0,aA C j/\aA T s/\(∀q,T q≠none->C q=none->j q=none)/\Rel F j s J d/\Rep j b f.1/\Rep j kb (.tuple [.int f.2.1,.str f.2.2])/\
   zG e (fr.map λp=>bG d p.2) ((d0::ds).drop i)=some Z0/\l4 f Z0=l4 (d0,X,Z) I,
  ⟨zap _,by simp,g,(d0,X,Z),I,S.sB,sm.trans G,nbA,O,A.mono S.sB,V3',k3,rfl⟩,?_⟩
 rintro i b kb s ⟨h1,hil,j,f,Z0,eB,eH,nb,V,rb,rk,hk,hb⟩
 refine⟨eK<|cB V.sub<|cB eB σ,λhle=>?_,λv hv=>?_⟩
 .have hi:i=(d0::ds).length:=by
   have:=n.length;simp only[List.length_cons]at hle hil⊢
   lia
  rw[hi,List.drop_length]at hk;cases hk;have E4:Ext J d C T d j s:=Ext.grow eB eH nb;refine q b j s (E1.trans E4) V ?_ (λp z=>by cases z)
  rw[<-hb];exact rb
 .obtain⟨c,hc,rc⟩:=(aJ.cons A n).Pg i v hv
  have w:=(zac hc).1;rw[zbb w]at hk;have hce:=(zac hc).2;rw[hce]at hk;obtain⟨y',i',z',r',k1',k2',ρ,k4'⟩:=sJ hk;subst k4';have Y:=V.inner fr (rc.mono eB);refine he.sv (F0 s) j s _ _ y'.1 y'.2 _ Y k1' λu' B5 H5 o U V5 N5=>?_
  obtain⟨t,P⟩:=ip gk o;have k:=V.grow o.sB t U.sub P U.cj U.nz;rw[k2']at V5;have D:=V5;obtain⟨pu,rfl,hpu⟩:=xr D;obtain⟨pk,rfl,hpk⟩:=xr (rk.mono o.sB);have Qn:=λq h z=>P q (λy=>h<|eH.free y) (nb q h z)
  refine⟨pu,pk,i',z',f.2.1,f.2.2,rfl,rfl,.inl<|.inl<|k.sub _ _ hpu,.inl<|.inl<|k.sub _ _ hpk,_,rfl,?_⟩;simp only[l4]at hb
  by_cases W:aF i' z' f.2.1 f.2.2=true
  .rw[if_pos W]
   rw[if_pos W]at hb;exact⟨by lia,w,B5,(c,i',z'),r',eB.trans o.sB,eH.trans t,Qn,k,(rc.mono eB).mono o.sB,D,ρ,hb⟩
  .rw[if_neg W]
   rw[if_neg W]at hb;exact⟨by lia,w,B5,f,r',eB.trans o.sB,eH.trans t,Qn,k,rb.mono o.sB,rk.mono o.sB,ρ,hb⟩
end
end Mir
namespace L2
def dF.lam(r:dF k A)(h:j+2<=k)(env:Env):dF j (A.in1.deeper env):=(dF.in1<|r.mono h).deeper env
theorem JL{g:List Addr}{h:Heap}(e:((fq K).all λx=>g.contains x.2.1)=true)(t:∀T∈g,h.get? T=some (PySem.W.tabObj #[])):∀c T ps,fq K=some (c,T,ps)->h.get? T=some (PySem.W.tabObj #[]):=λc T ps z=>by
 rw[z]at e;exact t T (by simpa using e)
end L2
namespace Mir
open L2
section
variable [Zc]
noncomputable def pairD:D->Option (Int×Str)
 | .tuple [.int i,.str z]=>some (i,z)
 |_=>none
def pkD(ds:List D)(i:Nat):Int×Str:=((ds[i]?).bind pairD).getD (0,"")
def Lx:List D->Option (D×Bool)
 | [.list ds]=>if(ds.all λd=>(pairD d).isSome)=true then(ds[argBest (btK<|pkD ds)<|ds.length-1]?).map λd=>(d,false)else none
 |_=>none
end
end Mir
namespace L2
open PySem.Spec PyProof.Rows
def Its(x:Str):It:=⟨λi _=>i<x.cps.size,λi H v H'=>H'=H/\∃c,x.cps[i]?=some c/\v=.str ⟨#[c]⟩,λi _=>x.cps.size<=i⟩
theorem CS{K:zag}{tg:Expr}{it:Addr}{x:Str}{t:Tok}{T:String}(g:∀A:Around,A.handled=none->Walks P w A it [it] [it] x.cps.size (SignAt x) λi h=>h.IsStrIter it T x t i)
  (M : ["enumerate","zip","dict_itemiterator","dict_reverseitemiterator","odict_iterator","itertools.zip_longest","itertools.pairwise"].contains T=false)
  (l:∀(A:Around) (i:Nat) (s:Shared) (Q:Value->Shared->Prop) (E:Value->Shared->Prop),s.heap.IsStrIter it T x t i->Q (.ref it) s->wpAny (model P w) A (pyIter<|.ref it) Q E s) :
  Turn P w K tg (Its x) [it] it (λi h=>i<=x.cps.size/\h.IsStrIter it T x t i) where
 mem:=by simp
 obj:=λi h st b hb=>by
  have e:b=it:=by simpa using hb
  subst e;obtain⟨_,o,e,c,d⟩:=st;exact⟨o,e,λv z=>by rw[d]at z;cases z⟩
 keep:=λi h h' st k=>by
  obtain⟨hi,o,e,c,d⟩:=st;exact⟨hi,o,k it (by simp) o e,c,d⟩
 item:=by
  intro X F σ D p i U0 s J H E I a st f;obtain⟨f0,f1,f2,j,m,n⟩:=a it (by simp)
  refine(g X.A<|I.ok.hd p).item i s _ _ f st.2 λv h' tk G st' r=>?_
  obtain⟨c,u,q,rfl⟩:=G;have y:Inv X U0 J H {s with heap:=h',toks:=tk}:=I.turned (λb o hb e=>r b o (by simpa using hb) e) f0 f1 j m n
  obtain⟨o,e,B,C⟩:=id st';exact⟨_,rfl,wk e B C M ⟨.str ⟨#[c]⟩,H,y,⟨u,rfl⟩,⟨rfl,c,q,rfl⟩,⟨f,st'⟩,λb hb=>(a b hb).1⟩⟩
 done:=by
  intro X F σ D p i U0 s J H E I a st f;obtain⟨f0,f1,f2,j,m,n⟩:=a it (by simp)
  have hi:=Nat.le_antisymm st.1 f;subst hi;exact(g X.A<|I.ok.hd p).done s _ _ st.2 λh' tk r=>⟨rfl,I.turned (λb o hb e=>r b o (by simpa using hb) e) f0 f1 j m n⟩
 self:=λA i s Q E st h=>l A i s Q E st.2 h
section
variable{X:Cx}{tg:Expr}
def Qo(M:TE):TI:=λJ H R=>M J H λv e=>∃x,v=.str x/\R (Its x) e
theorem Oa(g:PE X l tl):PI X tg l (Qo tl):=by
 intro U0 s J H R I h;refine thn (g U0 s J H _ I h) λv s1 ⟨y,j,c,r,p⟩=>?_
 obtain⟨x,rfl,q⟩:=p;obtain⟨t,rfl⟩:=r;have a:∀(o:Obj) (T:String),(∀A:Around,A.handled=none->Walks X.prog X.w A s1.heap.objs.size [s1.heap.objs.size] [s1.heap.objs.size] x.cps.size (SignAt x) λi h=>h.IsStrIter s1.heap.objs.size T x t i)->
   ["enumerate","zip","dict_itemiterator","dict_reverseitemiterator","odict_iterator","itertools.zip_longest","itertools.pairwise"].contains T=false->
   (∀(A:Around) (i:Nat) (s:Shared) (Q:Value->Shared->Prop) (E:Value->Shared->Prop),s.heap.IsStrIter s1.heap.objs.size T x t i->Q (.ref s1.heap.objs.size) s->wpAny (model X.prog X.w) A (pyIter<|.ref s1.heap.objs.size) Q E s)->
   (s1.heap.push o).IsStrIter s1.heap.objs.size T x t 0->PIE X U0 J tg R (.ref s1.heap.objs.size) {s1 with heap:=s1.heap.push o}:=λo T n m k st=>
  ⟨s1.heap.objs.size,[s1.heap.objs.size],_,_,j,rfl,c.kept λb o e=>zar _ e,CS n m k,⟨Nat.zero_le _,st⟩,λb hb=>by
   have e:b=s1.heap.objs.size:=by simpa using hb
   subst e;exact c.mF (zap _) (c.hok.fresh<|zap _),q⟩
 cases ha:x.cps.all (· <128)
 .exact wpAny_pyIter_wide ha (a _ _ (λA' d=>Walks.strWide d _ x t) (by decide) (λ_ _ _ _ _ st f=>wpAny_pyIter_striter_wide st f) ⟨_,zaL _ rfl,rfl,rfl⟩)
 .exact wpAny_pyIter_ascii ha (a _ _ (λA' d=>Walks.strAscii d _ x t) (by decide) (λ_ _ _ _ _ st f=>wpAny_pyIter_striter_ascii st f) ⟨_,zaL _ rfl,rfl,rfl⟩)
noncomputable def leS(x y:Str):Bool:=!decide (y.cps.toList<x.cps.toList)
def JM:R2:=λa b H Q=>∃x y,a=.str x/\b=.str y/\Q (.bl<|leS x y) H
theorem F1:OpR X (compareOp .LtE) JM:=by
 intro U0 s J H x y v u Q I c d h;obtain⟨a,b,rfl,rfl,q⟩:=h;obtain⟨e,rfl⟩:=c;obtain⟨f,rfl⟩:=d;exact PySem.P.le_str ⟨.bl<|leS a b,H,I,rfl,q⟩
end
end L2
namespace Mir
open L2
section
variable [Zc]
def uO(x:Str):List D:=x.cps.toList.map λc=>.str ⟨#[c]⟩
def Qp(a:PM):Rho->Option (List D×Rho):=λL=>(sv a L).bind λx=>match x.1.1 with
 | .str z=>some (uO z,x.2)
 |_=>none
theorem Ob:lP G B (Its x) (uO x):=λH _=>by
 refine⟨by simp[uO,Its],λi d hd=>?_⟩
 unfold uO at hd;rw[zao]at hd;obtain⟨c,a,e⟩:=zab hd;rw[Array.getElem?_toList]at a;refine⟨(Array.getElem?_eq_some_iff.mp a).1,λv H' b=>.inl ⟨b.1,?_⟩⟩
 obtain⟨_,c',h3,h4⟩:=b;rw[a]at h3;cases h3;rw[h4,<-e];exact .str _
theorem Oc(ha:ME g a):MI (Qo g) (Qp a):=by
 intro F B H J L ds ρ' Q R e q;obtain⟨x,A,e⟩:=zaa e;split at e
 .rename_i z b
  cases e
  fail "q2"
  have w:=E.view f;rw[b]at w;exact⟨z,w.str,q _ G C j f Ob⟩
 .cases e
def xt:D->D->Option (D×Bool)
 | .str x,.str y=>some (.bool<|leS x y,false)
 |_,_=>none
theorem Ly:OpJ JM xt:=by
 intro B H x y c d f s a b e;unfold xt at e;split at e
 .cases e
  have:=a.str;subst this
  have:=b.str;subst this
  exact dH λQ q=>⟨_,_,rfl,rfl,q⟩
 .cases e
theorem CT(h:JM x y H Q)(k:∀v H',Q v H'->g v H'):JM x y H g:=by
 obtain⟨a,b,c,d,q⟩:=h;exact⟨a,b,c,d,k _ _ q⟩
end
end Mir
namespace L2
open PySem.Spec PyProof.Rows
end L2
namespace Mir
open L2
section
variable [Zc]
noncomputable def zH(m:PM)(j:Nat):Rho->Option (D×D):=λL=>(m L).bind λx=>match x.1,x.2[j]? with
 |(c,.new),some (.own d)=>some (c,d)
 |_,_=>none
theorem JN(h:ME g m):MD (BS<|DW<|fH g<|fH (lg j) tW) (zH m j):=by
 intro F B H J L c E R e q;obtain⟨x,σ,e⟩:=zaa e;obtain⟨r,b⟩:=x;split at e
 case h_2=>cases e
 rename_i G d1 ρ f
 cases e;obtain rfl:=(show r=(G,.new)from ρ);refine h F B H J L _ b _ R σ λv P S Q d A _=>?_
 obtain⟨p,rfl,D,K,t,N⟩:=A;obtain⟨s,k,C,n⟩:=d.slot j _ f;have i:p≠s:=λz=>N j _ f rfl (z▸k)
 refine⟨_,k,(by simp only[List.length_cons,List.length_nil,sizeLine];lia),λa ha=>?_⟩
 obtain⟨y,_,eB⟩:=d.rg (xs:=[.ref p,.ref s]) ha;have u:p≠a:=λz=>t.fI (z▸ha)
 have w:s≠a:=λz=>n.fI (z▸ha)
 refine q _ _ _ J b y ⟨a,p,s,rfl,ak,i,K,d.iT j _ s f k,by rw[aj u];exact D,by rw[aj w];exact C,t.mono eB λo h=>by rw[aj u];exact h,n.mono eB λo h=>by rw[aj w];exact h⟩
end
end Mir
namespace L2
open PySem.Spec PyProof.Rows
end L2
namespace Mir
open L2
section
variable [Zc] [Zl]{W:WX}
noncomputable def lenV(S:List<|Option Cl):SV->Option Nat
 | .lc k=>match S[k]? with
  |some (some (.lst xs))=>some xs.length
  |some (some (.dat (.list ds)))=>some ds.length
  |_=>none
 |_=>none
end
end Mir
namespace L2
open PySem.Spec
end L2
namespace Mir
open L2
end Mir
namespace L2
open PySem.Spec PyProof.Rows
end L2
namespace Mir
open L2
variable [Zc]
theorem zI(R2:Rel F I l J g)(hs : g[i]?=some s)(ho:s.cV=true)(O : J[i]?=some (some<|.ref p))(Y:aJ I vs M)(U:f (slD s::M)=some ((d,false),d1))
  (q:∀v B' H',Ext J g I l (g.set i<|s.put d1) B' H'->Rel F B' H' J (g.set i<|s.put d1)->Rep B' v d->Q v H'):spI f (.ref p::vs) l Q E:=by
 obtain⟨A,j,t,m⟩:=R2.ownAt hs ho;rw[O]at j;cases j;obtain⟨oo,h⟩:=m.there;refine⟨I,p,vs,slD s,M,(d,false),d1,rfl,R2.sub,R2.cj,t,m,Y,U,λv B' H' P=>?_⟩
 obtain⟨w,e⟩:=P.own.there;have k:=P.nb p (by rw[h];simp) t
 have eH:aA l (upd H' p oo):=λc u b=>by
  by_cases z:c=p
  .subst z;rw[h]at b;cases b;exact ak
  .rw[aj z];exact P.eH c u z b
 have sub:aA B' (upd H' p oo):=λc u b=>by
  rw[aj λz=>by rw[z,k]at b;cases b];exact P.sub c u b
 have tB:∀c xs,upd H' p oo c=some (.tup xs)->B' c=some (.tup xs):=λc xs b=>by
  by_cases z:c=p
  .subst z;rw[ak]at b;cases b;exact absurd h (m.jM xs)
  .rw[aj z]at b;exact P.tB c xs b
 have nz:∀c a u,upd H' p oo c=some (.frz a u)->l c≠none:=λc a u b=>by
  by_cases z:c=p
  .subst z;rw[h];simp
  .rw[aj z]at b;exact P.nz c a u b
 have y:=R2.grow P.eB eH sub P.nb tB nz;have x:Ext J g I l g B' (upd H' p oo):=Ext.grow P.eB eH P.nb;have back:upd (upd H' p oo) p w=H':=by
  funext c
  by_cases z:c=p
  .subst z;rw[ak,e]
  .rw[aj z,aj z]
 obtain⟨r,n⟩:=y.write (o:=w) hs ho O ⟨(λxs z=>by rw[z]at e;exact P.own.jM xs e),λa u z=>by rw[z]at e;exact P.own.uz a u e⟩ (by rw[back];exact P.own)
 rw[back]at r n;exact q v B' H' (x.trans n) r P.val
noncomputable def JO:List RV->Option (List D)
 | []=>some []
 |(d,.fz)::r=>(JO r).map (d::·)
 |_=>none
theorem Lz:∀{vs:List V} {rs:List RV} {ds:List D},Vl F B H J L vs rs->JO rs=some ds->aJ B vs ds
 | [],[],_,_,h=>by cases h;exact .nil
 |v::vs,(d,k)::rs,ds,V,h=>by
  obtain⟨⟨c,_⟩,e⟩:=V;cases k with
  |fz=>
   obtain⟨a,b,rfl⟩:=zab (h);exact .cons c (Lz e b)
  |_=>cases h
 | [],_::_,_,V,_=>V.elim
 |_::_,[],_,V,_=>V.elim
def goI(f:List D->Option ((D×Bool)×D))(m:Rho->Option (List RV×Rho))(fr:List<|Str×Nat)(L:Rho)(i:Nat)(s:Sl):List D->D->Option (List D×D)
 | [],d0=>some ([],d0)
 |d::ds,d0=>(m (.fz d::fr.map λp=>bG (L.set i<|s.put d0) p.2)).bind λx=>(JO x.1).bind λe=>(f (d0::e)).bind λw=>if w.1.2=false then(goI f m fr L i s ds w.2).map λz=>(w.1.1::z.1,z.2)else none
def Od(fr:List<|Str×Nat)(i j:Nat)(it:Rho->Option (List D×Rho))(f:List D->Option ((D×Bool)×D))(m:Rho->Option (List RV×Rho)):PM:=λL=>(it L).bind λx=>(ownAt x.2 i).bind λs=>(goI f m fr x.2 i s x.1<|slD s).bind λw=>cIf (w.1.length<sizeLine) (some ((.list w.1,.new),x.2.set i<|s.put w.2)) none
theorem JP(s:Sl)(d e:D):(s.put d).put e=s.put e:=by cases s<;>rfl
theorem JQ{s:Sl}(h:s.cV=true)(d:D):(s.put d).cV=true/\slD (s.put d)=d:=by cases s<;>first|exact⟨rfl,rfl⟩|cases h
theorem F2{s:Sl}(h:s.cV=true):s.put (slD s)=s:=by cases s<;>first|rfl|cases h
theorem Oe(hj:(fr.map (·.2))[j]?=some i)(hi:MF wi it)(h:MA t m) :
  ME (tLC fr wi MK<|jK (spI f) [] E<|fH (lg<|j+1) t) (Od fr i j it f m):=by
 intro F B H J L r0 ρ' Q R e q;obtain⟨x,e1,e⟩:=zaa e;obtain⟨s,e2,e⟩:=zaa e;obtain⟨w,W,e⟩:=zaa e;obtain⟨hz,e⟩:=bQ e;cases e;refine hi F B H J L x.1 x.2 _ R e1 λσ l H1 E1 R1 I1=>?_
 obtain⟨ds,a⟩:=x;obtain⟨hs,ho⟩:=gm e2;obtain⟨p,hv,_,_⟩:=R1.ownAt hs ho;have hil:=(zac hs).1;have hin:∀v:V,(some v::aP J fr)[j+1]?=some (some<|.ref p):=λv=>by
  have:(fr[j]?).map (·.2)=some i:=by rw[<-zao];exact hj
  obtain⟨q,h1,h2⟩:=zab this;rw[zat];unfold aP;rw[zao,h1,zaT,h2];have : J.getD i none=some (.ref p):=by
   rw[List.getD_eq_getElem?_getD,hv];rfl
  rw[this]
 have d : a.set i (s.put<|slD s)=a:=by
  rw[F2 ho];obtain⟨c,he⟩:=zac hs;rw[<-he];exact List.set_getElem_self c
 refine⟨λn m' Z G=>m'=ds.length-n/\n<=ds.length/\∃r b done Z0,aA l r/\Ext J a l H1 (a.set i<|s.put b) r G/\Rel F r G J (a.set i<|s.put b)/\aJ r Z done/\goI f m fr a i s (ds.drop n) b=some (Z0,w.2)/\done++Z0=w.1,
  ⟨ds.length,rfl,Nat.zero_le _,l,slD s,[],w.1,aA.refl _,by rw[d];exact Ext.refl _ _ _ _,by rw[d];exact R1,.nil,W,rfl⟩,?_⟩
 rintro n m' Z G ⟨rfl,hnl,r,b,done,Z0,eB,U,R2,X,o,k⟩
 have hlen:Z.length<=w.1.length:=by rw[<-k,zau,X.length];lia
 refine⟨by lia,?_⟩
 have sH:=eB.trans R2.sub
 by_cases c:n<ds.length
 .refine .inr ?_
  obtain⟨go,yl⟩:=(I1 G sH).2 n ds[n] (zaC c);refine⟨go,λv K hy=>?_⟩
  rw[zbb c]at o;obtain⟨y,c1,C⟩:=zaa (o);obtain⟨as,c3,C⟩:=zaa C;obtain⟨g,c4,C⟩:=zaa C;split at C
  rotate_left
  .cases C
  rename_i hg0
  obtain⟨z,c5,c6⟩:=zab C;have had:∃A,aA r A/\Ext J (a.set i<|s.put b) r G (a.set i<|s.put b) A K/\Rel F A K J (a.set i<|s.put b)/\Rep A v ds[n]:=by
   rcases yl v K hy with⟨rfl,h2⟩|⟨p,xs,cs,h1,rfl,h3,rfl,h5⟩
   .exact⟨r,aA.refl _,Ext.refl _ _ _ _,R2,h2.mono eB⟩
   .obtain⟨T,I,W⟩:=R2.rg h3
    exact⟨_,W,I,T,by rw[h1];exact .tup ak (h5.mono<|eB.trans W)⟩
  obtain⟨A,eB3,I,T,rv⟩:=had;have Ri:=T.inner fr rv;refine⟨_,hin v,?_⟩;refine h (F0 K) A K _ _ y.1 y.2 _ Ri c1 λus B4 H4 S Y V4=>?_
  obtain⟨ρ,P⟩:=ip gk S;have R4o:=T.grow S.sB ρ Y.sub P Y.cj Y.nz;have M:Ext J (a.set i<|s.put b) A K (a.set i<|s.put b) B4 H4:=Ext.grow S.sB ρ P;have hs':(a.set i<|s.put b)[i]?=some (s.put b):=zav hil;obtain⟨po,ps⟩:=JQ ho b;obtain⟨⟨gd,gb⟩,g1⟩:=g;have Rm:=hg0;subst Rm;rw[zaR];refine zI R4o hs' po hv (Lz V4 c3) (by rw[ps];exact c4) λu B5 H5 O R5 ru=>?_
  rw[JP,List.set_set]at O R5;have EA:=((U.trans I).trans M).trans O;have sB5:=EA.sB;have e6:=(Prod.mk.inj c6).1;have e7:=(Prod.mk.inj c6).2;refine⟨ds.length-(n+1),by lia,rfl,c,B5,g1,done++[gd],z.1,sB5,EA,R5,?_,by rw[c5,<-e7],by rw[<-k,<-e6,zaD];rfl⟩
  exact(X.mono<|eB3.trans<|S.sB.trans O.sB).append (.cons ru .nil)
 .have hn':n=ds.length:=by lia
  subst hn';refine .inl ⟨(I1 G sH).1,λD hD=>?_⟩
  rw[List.drop_length]at o;have Rn:Z0=[]/\b=w.2:=by
   have:=(zaQ<|o);exact⟨(congrArg Prod.fst this).symm,congrArg Prod.snd this⟩
  obtain⟨rfl,rfl⟩:=Rn;rw[zaR]at k;rw[k]at X;have:=eY (Y0:=(.list w.1,true)) R2 ⟨Z,X,λQ h=>h⟩ λv B' H' E' R' V' N=>q v B' H' ((E1.trans U).trans E') R' V' λp z1 z2=>(E1.trans U).live p (N p z1 z2)
  exact this D hD
end Mir
namespace L2
open PySem.Spec PyProof.Rows
section
variable{X:Cx}{o e:Expr}{es:List Expr}{to:TE}{t:TA}{name:Str}{apos U1:Pos}{id:String}{r:V->List V->Hp->VK->Prop}
def Qq(r:V->List V->Hp->VK->Prop)(to:TE)(t:TA):TE:=λJ H Q=>to J H λx h=>(∃p xs,x=.ref p/\h p=some (.tup xs))/\t J h λxs j=>r x xs j Q
theorem tup_is{J:St}{s:Shared}{p:Addr}{xs:List V}(I:Inv X U0 J H s)(h:H p=some (.tup xs)):s.TypeIs (.ref p) "tuple"/\∀a,Value.ref p=.ref a->∃ob,s.heap.get? a=some ob/\ob.dict=none:=by
 obtain⟨z,j,k,⟨ob,c,d,_⟩,b,f,i⟩:=I.hok p _ h;refine⟨⟨ob,c,d⟩,λa ea=>?_⟩
 cases ea;exact⟨b,f,i⟩
theorem Of(Y:PlainAttrs "tuple")(slot:Slot "tuple" name id)(U:typeOf (.builtin id)=pure (.type "method_descriptor"))(hm:MtR X id r)(ho:PE X o to)(ha:PA X (e::es) t)
  (l:attributeBase o name X.env (eval o X.env)=eval o X.env:=by rfl)
  (O:((backTo U1<|starEach (e::es) X.env).all (λx=>!x.1)&&(backToKw U1<|keywordEach [] X.env).all (λx=>x.1.isSome)
   &&decide ((e::es).length+([]:List Keyword).length+(if([]:List Keyword).isEmpty then 0 else 1)<30))=true:=by rfl)
  (M:(apos.endLine==U1.line)=true:=by rfl) (hs:starEach (e::es) X.env=(false,eval e X.env)::starEach es X.env:=by rfl) (g:(backTo U1<|starEach es X.env).any (·.1)=false:=by rfl) :
  PE X (.Call (.Attribute o name apos) (e::es) [] U1) (Qq r to t):=by
 intro U0 s J H Q I h;refine wpAny_Call_method_late l O M rfl (thn (ho U0 s J H _ I h) λv s1 ⟨x,c,a,q,⟨p,xs,ex,k⟩,m⟩=>?_)
 subst ex;cases q;obtain⟨i,j⟩:=tup_is a k;refine⟨"tuple",id,Y,slot,U,i,j,?_⟩;have b:=ha U1 U0 s1 J c _ a m;rw[hs]at b⊢;exact Calls.callWith_builtin (by show(false||(backTo U1<|starEach es X.env).any (·.1))=false;rw[g]<;>rfl) (Calls.evalArgs_plain<|thn b λus s2 ⟨vs,d,f,u,n⟩=>hm U0 s2 J d (.ref p) vs (.ref p) us Q f rfl u n)
end
def Bc:V->List V->Hp->VK->Prop:=λx vs H Q=>∃p xs y,x=.ref p/\vs=[y]/\H p=some (.tup xs)/\ig y=true/\xs.all ig=true/\Q (.int ((xs.countP λz=>eqV z y:Nat):Int)) H
section
variable{X:Cx}
theorem CU:MtR X "tuple.count" Bc:=by
 intro U0 s J H x vs v us Q I t o h;obtain⟨p,xs,y,rfl,rfl,i,f,fs,q⟩:=h;cases t;obtain⟨u,rfl,m⟩:=o.one;obtain⟨z,a,r,⟨⟨oc,od,k,osl⟩,b,c,n,d⟩,_⟩:=I.hok p _ i;cases c;cases d
 refine call_meets F.slot_tuple_count ⟨_,b,rfl⟩ F.entry_tuple_count (F.args_tuple_count_2 _ _) (SeqAt.tuple_countAt p a.toArray n od osl u<|eqU y) ⟨b,λw j=>lM m f r fs w (by simpa using j),?_⟩
 refine⟨.int _,H,I.tok _,⟨_,rfl⟩,?_⟩;have e:a.toArray.toList.countP (eqU y)=xs.countP λz=>eqV z y:=by
  rw[<-ph r fs]
 rw[e];exact q
end
end L2
namespace Mir
open L2
variable [Zc]
def fL:D->List D->Option (D×Bool)
 | .tuple ds,[d]=>if dJ d=true/\ds.all dJ=true then some (.int ((ds.countP λc=>PyData.eqv c d:Nat):Int),false)else none
 |_,_=>none
theorem p9(e:fL c ds=some l):∃g d,c=.tuple g/\ds=[d]/\dJ d=true/\g.all dJ=true/\l=(.int ((g.countP λc=>PyData.eqv c d:Nat):Int),false):=by
 unfold fL at e;split at e
 .split at e
  .rename_i a
   cases e;exact⟨_,_,rfl,rfl,a.1,a.2,rfl⟩
  .cases e
 .cases e
theorem CV(ha:ME U a)(h:MA t m):ME (Qq Bc U t) (mBM fL a m):=by
 intro F B H J L r0 ρ' Q R e q
 fail "q1"
 obtain⟨r',X,e⟩:=zaa e;obtain⟨Y,g,e⟩:=zaa e;obtain⟨Y0,Z,e⟩:=zab e;cases e
 fail "q2"
 obtain⟨cs,d,I,hd,f1,f2,hr⟩:=p9 g;have vw:=E.view f;rw[I]at vw;obtain⟨p,xs,rfl,M,rp⟩:=vw.tuple f.sub;refine⟨⟨p,xs,rfl,M⟩,?_⟩;refine h F G C J x.2 y.1 y.2 _ f ρ λvs N P E2 R2 S=>?_
 obtain⟨V,n3⟩:=E.next E2 R2 (fJ A) X;obtain⟨W,d',o,r,b,c,u⟩:=p9 Z;have n:=V.view R2;rw[o]at n;obtain⟨p',σ,l,s,D⟩:=n.tuple R2.sub;cases l;have K:=S.views R2;rw[r]at K;obtain⟨w,rfl,O⟩:=dC K;have k:=O.rep R2.sub;have i:=D.mono R2.sub;refine⟨p,σ,w,rfl,rfl,s,k.flat b,i.oK c,?_⟩;rw[i.countP k b c];subst u;exact q _ N P (j.trans E2) R2 (.int _) λp z=>by cases z
end Mir
namespace L2
open PySem.W PySem.Calls PySem.Spec PyProof.Rows
open PySem.AutoSeq1 (wpAny_loadPart')
theorem tuple_addW0(l b:Addr)(I M:Array Value)(n n2:Nat)(Y O:Option Addr)(sl U:Array<|Option Value)(hc0:I.isEmpty=true) :
  Meets (Builtin.«tuple.__add__» ⟨[.ref l,.ref b],[]⟩) (λ_ R s=>s.heap.get? l=some {cls:=.type "tuple",dict:=Y,data:=.seq I n,slots:=sl}/\s.heap.get? b=some {cls:=.type "tuple",dict:=O,data:=.seq M n2,slots:=U}/\R (.ok<|.ret<|Value.ref b) s) :=
 .of_wp λprog w A R s h=>by
  obtain⟨c,g,d,tk,os⟩:=s;obtain⟨a,hb,h⟩:=h
  have f2:=PySem.AutoSeq1.sub_tuple_tuple
  wp_walk using wpAny_loadPart' a,wpAny_loadPart' hb
  exact⟨_,rfl,h⟩
section
variable{prog:Program}{w:World}{A:Around}{E:Value->Shared->Prop}{s:Shared}
theorem F3{g:List Value}(I:IsTup s.heap t ([]:List Value).toArray)(hb:IsTup s.heap b g.toArray)(l:Q (.ref b) s):wpAny (model prog w) A (binaryOp .Add (.ref t)<|.ref b) Q E s:=by
 obtain⟨⟨cls,i,data,sl⟩,ho,j,n,hd⟩:=id I;obtain⟨⟨h,c,data2,f⟩,a,d,n2,e⟩:=id hb;subst j hd d e;exact concat_meets ⟨_,ho,rfl⟩ ⟨_,a,rfl⟩ noFill_tuple_add seq_tuple_add PySem.F.slot_tuple_add PySem.F.entry_tuple_add (PySem.F.args_tuple_add_2 _ _)
   (tuple_addW0 t b _ g.toArray n n2 i c sl f rfl) ⟨ho,a,l⟩
end
def LA(K:zag):R2:=λx y H Q=>∃a b e,x=.ref a/\y=.ref b/\SqT K H a []/\SqT K H b e/\Q (.ref b) H
section
variable{X:Cx}
theorem JR:OpR X (binaryOp .Add) (LA X.K):=by
 intro U0 s J H x y v u Q I f i h;obtain⟨a,b,m,rfl,rfl,ha,hb,q⟩:=h;cases f;cases i;obtain⟨j,e,d,_⟩:=I.tuple ha;obtain⟨c,k,p2,_⟩:=I.tuple hb;cases e;exact F3 d p2 ⟨.ref b,H,I,rfl,q⟩
def F5(K:zag):R2:=λx y H Q=>Mir.pG K x y H Q\/LA K x y H Q
def F6{K:zag}(h:X.K=K):OpR X (binaryOp .Add) (F5 K):=h▸Mir.AO.or JR
end
end L2
namespace Mir
open L2
variable [Zc]
def nP:D->D->Option (D×Bool)
 | .tuple [],.tuple b=>some (.tuple b,false)
 |x,y=>cM x y
theorem Og:OpJ (F5 K) nP:=by
 intro B H x y c d k s m n e;unfold nP at e;split at e
 .rename_i b
  cases e;obtain⟨p,xs,rfl,u,j⟩:=m.tuple s;cases j;have i:Rep B y (.tuple b):=by
   rcases n with h|⟨p,rfl,h⟩
   .exact h
   .cases h
  refine⟨y,i,λQ q=>.inr ?_⟩
  cases i with
  |tup h r=>
   exact⟨_,_,_,rfl,rfl,.inl<|.inl u,.inl<|.inl<|s _ _ h,q⟩
 .have:=Ld (K:=K) B H x y c d k s m n e
  obtain⟨t,o⟩:=k;cases o with
  |false=>obtain⟨v,a,f⟩:=this;exact⟨v,a,λQ q=>.inl<|f Q q⟩
  |true=>
   cases t with
   |list ds=>obtain⟨v,a,f⟩:=this;exact⟨v,a,λQ q=>.inl<|f Q q⟩
   |tuple ds=>obtain⟨v,a,f⟩:=this;exact⟨v,a,λQ q=>.inl<|f Q q⟩
   |dict ds=>obtain⟨v,a,f⟩:=this;exact⟨v,a,λQ q=>.inl<|f Q q⟩
   |_=>exact this
theorem sL(a b:List D)(h:a.length+b.length<=100000)(hb:b≠[]):∃o,nP (.tuple a) (.tuple b)=some (.tuple<|a++b,o):=by
 cases a with
 |nil=>exact⟨false,rfl⟩
 |cons c a=>exact⟨true,by show cIf _ _ _=_;rw[aX ⟨su h,hb⟩]⟩
end Mir
namespace Mir
open L2
section
variable [Zc]
def nr(m:SM):SM:=λL=>(m L).bind λo=>match o with
 | .rt _ _=>none
 |o=>some o
end
end Mir
namespace L2
open PySem.Spec PyProof.Rows
end L2
namespace Mir
open L2
section
variable [Zc]
def ju(M:List D):List D:=M.mapIdx λi a=>PyData.tuple [.int i,a]
theorem sM{i:Nat}(h:(ju g)[i]?=some d):∃a,d=.tuple [.int i,a]/\g[i]?=some a:=by
 unfold ju at h;rw[List.getElem?_mapIdx]at h;obtain⟨a,b,c⟩:=zab h;exact⟨a,c.symm,b⟩
theorem Oh(I:Rd G p<|.lst xs)(g:aJ B xs l):lP G B (Ite K p) (ju l):=λH s=>by
 have g1:SqL K H p xs:=eK (cB s I);refine⟨⟨xs,g1,by rw[g.length];simp[ju]⟩,λi d hd=>?_⟩
 obtain⟨a,rfl,ha⟩:=sM hd;obtain⟨x,c,k⟩:=g.get i a ha;refine⟨⟨xs,x,g1,c⟩,λv H' h=>?_⟩
 obtain⟨j,m,rfl,f,rfl,e⟩:=h;have b:=e xs g1;rw[c]at b;cases b;exact .inr ⟨j,[.int i,x],[.int i,a],rfl,rfl,f,rfl,.cons (.int _)<|.cons k .nil⟩
def Qr(m:Rho->Option (List RV×Rho)):Rho->Option (List D×Rho):=λL=>((m L).bind Ig).bind λx=>(gK x.1 x.2).bind λy=>(asL y.1).map λds=>(ju ds,y.2)
section
variable{K:zag}{ta:TA}{m:Rho->Option (List RV×Rho)}
theorem JS(h:MA ta m):MF (Lp K ta) (Qr m):=by
 intro F B H J L ds ρ' Q R e q;obtain⟨x,o,e⟩:=zaa e;obtain⟨w,b,s⟩:=zaa o;obtain⟨y,t,e⟩:=zaa e;obtain⟨n,p,e⟩:=zab e;cases e;rw[AM s]at b;refine h F B H J L _ _ _ R b λvs u j f k a=>?_
 match vs,a with
 | [v],a=>
  obtain⟨d,R2,c,i⟩:=k.frz a.weak.1 t;rw[zc p]at c;cases c with
  |lst h r=>exact⟨_,_,rfl,eK<|cB R2.sub h,q _ d j (f.trans i) R2<|Oh h r⟩
end
end
end Mir
namespace L2
open PySem.W PySem.Calls PySem.Spec PyProof.Rows
end L2
namespace Mir
open L2
section
variable [Zc]
noncomputable def pD(p:Int×Int):D:=.tuple [.int p.1,.int p.2]
end
end Mir
namespace L2
open PySem.W PySem.Calls PySem.Spec PyProof.Rows
def fN:Bool->Keyed->Array Keyed->Nat->Nat->Nat->StateT SortSt Sem (Option Nat):=sortPriv%PySem.Builtin.gallop
noncomputable def Bd(left:Bool)(key:Keyed)(M:Array Keyed)(base:Nat)(i:Nat):StateT SortSt Sem (Option Bool):=do
 let x<-elem' M (base+i)
 if left then lt' x key else return (<-lt' key x).map (!·)
section
variable{prog:Program}{w:World}{A:Around}{E:Value->Shared->Prop}{s:Shared}
structure Cmp(prog:Program)(w:World)(A:Around)(E:Value->Shared->Prop)(s:Shared)(κ:SortKind)(S:Keyed->Prop)(lt:Keyed->Keyed->Bool):Prop where
 ask:∀x y,S x->S y->∀Q:Bool->Shared->Prop,Q (lt x y) s->wpAny (model prog w) A (keyLt' κ x.1 y.1) Q (λ_ _=>False) s
 irr:∀x,lt x x=false
 asy:∀x y,lt x y=true->lt y x=false
 neg:∀x y z,lt x y=true->lt x z=true\/lt z y=true
variable{κ:SortKind}{S:Keyed->Prop}{lt:Keyed->Keyed->Bool}
theorem qa(C:Cmp prog w A E s κ S lt){st:SortSt}(hk:kindOf st=κ)(g:S x)(l:S y)(h:Q (some<|lt x y) st):wpS (model prog w) A E s (lt' x y) Q st:=by
 rw[lt'_eq];refine wpS_bind (wpS_get ?_);rw[hk];refine wpS_bind (wpS_lift<|wpAny_attempt<|za6 (C.ask x y g l (λb s'=>s'=s/\b=lt x y) ⟨rfl,rfl⟩) (λb s' hb=>?_) λ_ _ f=>f.elim)
 obtain⟨rfl,rfl⟩:=hb;exact⟨rfl,wpS_pure h⟩
theorem bg{st:SortSt}{x:Keyed}(hi:g[i]?=some x){Q:Keyed->SortSt->Prop}(h:Q x st):wpS (model prog w) A E s (elem' g i) Q st:=by
 rw[elem'_eq,hi];exact wpS_pure h
def bey(lt:Keyed->Keyed->Bool)(left:Bool)(key x:Keyed):Bool:=if left then lt x key else !lt key x
theorem i3(C:Cmp prog w A E s κ S lt){st:SortSt}(hk:kindOf st=κ){I:Array Keyed}{base i:Nat}{x:Keyed}(hi:I[base+i]?=some x)(g:S x)(l:S key){Q:Option Bool->SortSt->Prop}(h:Q (some<|bey lt left key x) st):wpS (model prog w) A E s (Bd left key I base i) Q st:=by
 refine wpS_bind (bg hi ?_);cases left with
 |true=>exact qa C hk g l h
 |false=>exact wpS_bind (qa C hk l g<|wpS_pure h)
theorem zJ(C:Cmp prog w A E s κ S lt){st:SortSt}(hk:kindOf st=κ){O:Array Keyed}{base n g:Nat}(f:Nat->Keyed)(I:∀i,i<n->O[base+i]?=some (f i)/\S (f i))(M:S key)(U:g<n)(mono:∀i j,i<=j->j<n->bey lt left key (f j)=true->bey lt left key (f i)=true)
  {Q:Option Nat->SortSt->Prop} (h:∀k,k<=n->(∀i,i<k->bey lt left key (f i)=true)->(∀i,k<=i->i<n->bey lt left key (f i)=false)->Q (some k) st):wpS (model prog w) A E s (fN left key O base n g) Q st:=by
 have x:∀lo hi:Nat,lo<=hi->hi<=n->(∀i,i<lo->bey lt left key (f i)=true)->(∀i,hi<=i->i<n->bey lt left key (f i)=false)->wpS (model prog w) A E s (do
   let mut lo:=lo
   let mut hi:=hi
   for _ in [0:n] do
    if lo>=hi then break
    let m:=lo+(hi-lo)/2
    let some more<-Bd left key O base m|return none
    if more then lo:=m+1 else hi:=m
   return some hi) Q st:=λlo hi σ K h3 h4=>by
  refine wpS_bind (wpS_forRange (λi c st'=>st'=st/\c.1=none/\c.2.1<=c.2.2/\c.2.2<=n/\c.2.2-c.2.1<=n-i/\(∀i,i<c.2.1->bey lt left key (f i)=true)/\(∀i,c.2.2<=i->i<n->bey lt left key (f i)=false)) ?_ ?_ ⟨rfl,rfl,σ,K,by show hi-lo<=n-0;lia,h3,h4⟩)
  .rintro i ⟨r,l,u⟩ st' _ y ⟨rfl,rfl,g1,d,b,a,o⟩
   dsimp only at g1 d b a o⊢
   by_cases e:l>=u
   .rw[if_pos e]
    have:l=u:=by lia
    subst this;exact wpS_pure (wpS_pure<|h l d a o)
   .rw[if_neg e]
    have hm:l+(u-l)/2<n:=by lia
    obtain⟨p,q⟩:=I (l+(u-l)/2) hm;refine wpS_bind (i3 C hk p q M ?_);cases t:bey lt left key (f<|l+(u-l)/2)with
    |true=>
     exact wpS_pure ⟨rfl,rfl,by show l+(u-l)/2+1<=u;lia,d,by show u-(l+(u-l)/2+1)<=n-(i+1);lia,λk G=>mono k (l+(u-l)/2) (by have B:k<l+(u-l)/2+1:=G;lia) hm t,o⟩
    |false=>
     refine wpS_pure ⟨rfl,rfl,by show l<=l+(u-l)/2;lia,by show l+(u-l)/2<=n;lia,by show l+(u-l)/2-l<=n-(i+1);lia,a,λk H B=>?_⟩
     cases ek:bey lt left key (f k)with
     |false=>rfl
     |true=>rw[mono (l+(u-l)/2) k H B ek]at t;cases t
  .rintro⟨r,l,u⟩ st' ⟨rfl,rfl,g1,d,b,a,o⟩
   dsimp only at g1 d b a o⊢;have:l=u:=by simp at b;lia
   subst this;exact wpS_pure (h l d a o)
 obtain⟨p,q⟩:=I g U;refine wpS_bind (i3 C hk p q M ?_);cases t:bey lt left key (f g)with
 |true=>
  refine wpS_bind (wpS_mono (wpS_forRange (λi c st'=>st'=st/\c.1=none/\c.2.1<c.2.2/\i<c.2.2/\g+c.2.1<n/\bey lt left key (f<|g+c.2.1)=true) (Q:=λc st'=>st'=st/\c.1=none/\c.2.1<c.2.2/\g+c.2.1<n/\bey lt left key (f<|g+c.2.1)=true/\(c.2.2<n-g->bey lt left key (f<|g+c.2.2)=false)) ?_ ?_ ?_) ?_)
  rotate_left 2
  .exact⟨rfl,rfl,by decide,by decide,U,t⟩
  rotate_left 1
  .rintro i ⟨r,l,u⟩ st' _ y ⟨rfl,rfl,g1,d,b,a⟩
   dsimp only at g1 d b a⊢
   by_cases e:u>=n-g
   .rw[if_pos e]
    exact wpS_pure ⟨rfl,rfl,g1,b,a,λz=>absurd z (by show¬u<n-g;lia)⟩
   .rw[if_neg e]
    obtain⟨p,q⟩:=I (g+u) (by lia)
    refine wpS_bind (i3 C hk p q M ?_);cases v:bey lt left key (f<|g+u)with
    |true=>
     exact wpS_pure ⟨rfl,rfl,by show u<2*u+1;lia,by show i+1<2*u+1;lia,by show g+u<n;lia,v⟩
    |false=>
     exact wpS_pure ⟨rfl,rfl,g1,b,a,λ_=>v⟩
  .rintro⟨r,l,u⟩ st' ⟨rfl,rfl,g1,d,b,a⟩
   exact⟨rfl,rfl,g1,b,a,λz=>by exfalso;simp at d;dsimp only at z;lia⟩
  .rintro⟨r,l,u⟩ st' ⟨rfl,rfl,g1,b,a,o⟩
   dsimp only at g1 b a o⊢;refine x (g+l+1) (g+min u (n-g)) (by lia) (by lia) (λi hi=>mono i (g+l) (by lia) b a) λi F hi2=>?_
   have ρ:u<n-g:=by lia
   cases D:bey lt left key (f i)with
   |false=>rfl
   |true=>have:=mono (g+u) i (by lia) hi2 D;rw[o ρ]at this;cases this
 |false=>
  refine wpS_bind (wpS_mono (wpS_forRange (λi c st'=>st'=st/\c.1=none/\c.2.1<c.2.2/\i<c.2.2/\c.2.1<=g/\bey lt left key (f<|g-c.2.1)=false) (Q:=λc st'=>st'=st/\c.1=none/\c.2.1<c.2.2/\c.2.1<=g/\bey lt left key (f<|g-c.2.1)=false/\(c.2.2<g+1->bey lt left key (f<|g-c.2.2)=true)) ?_ ?_ ?_) ?_)
  rotate_left 2
  .exact⟨rfl,rfl,by decide,by decide,Nat.zero_le _,t⟩
  rotate_left 1
  .rintro i ⟨r,l,u⟩ st' _ y ⟨rfl,rfl,g1,d,b,a⟩
   dsimp only at g1 d b a⊢
   by_cases e:u>=g+1
   .rw[if_pos e]
    exact wpS_pure ⟨rfl,rfl,g1,b,a,λz=>absurd z (by show¬u<g+1;lia)⟩
   .rw[if_neg e]
    obtain⟨p,q⟩:=I (g-u) (by lia)
    refine wpS_bind (i3 C hk p q M ?_);cases v:bey lt left key (f<|g-u)with
    |true=>
     exact wpS_pure ⟨rfl,rfl,g1,b,a,λ_=>v⟩
    |false=>
     exact wpS_pure ⟨rfl,rfl,by show u<2*u+1;lia,by show i+1<2*u+1;lia,by show u<=g;lia,v⟩
  .rintro⟨r,l,u⟩ st' ⟨rfl,rfl,g1,d,b,a⟩
   exact⟨rfl,rfl,g1,b,a,λz=>by exfalso;simp at d;dsimp only at z;lia⟩
  .rintro⟨r,l,u⟩ st' ⟨rfl,rfl,g1,b,a,o⟩
   dsimp only at g1 b a o⊢;refine x (g+1-min u (g+1)) (g-l) (by lia) (by lia) (λi hi=>mono i (g-u) (by lia) (by lia)<|o (by lia)) λi F hi2=>?_
   cases D:bey lt left key (f i)with
   |false=>rfl
   |true=>have:=mono (g-l) i (by lia) hi2 D;rw[a]at this;cases this
end
def SG(st st':SortSt):Prop:=kindOf st'=kindOf st/\arrOf st'=arrOf st/\pendingOf st'=pendingOf st/\failedOf st'=failedOf st
def SG.refl(st:SortSt):SG st st:=⟨rfl,rfl,rfl,rfl⟩
section
variable(lt:Keyed->Keyed->Bool)
def leK(x y:Keyed):Prop:=lt y x=false
structure MI(a b:Array Keyed)(out:Array Keyed)(ia ib:Nat):Prop where
 perm:(out.toList++(a.toList.drop ia++b.toList.drop ib)).Perm (a.toList++b.toList)
 srt:out.toList.Pairwise (leK lt)
 low:∀x∈out.toList,∀y∈a.toList.drop ia++b.toList.drop ib,leK lt x y
end
variable{lt:Keyed->Keyed->Bool}{a b out:Array Keyed}{ia ib:Nat}
theorem i4{l:List Keyed}(h:l[i]?=some x):l.drop i=x::l.drop (i+1):=by
 obtain⟨hi,e⟩:=zac h;rw[<-e];exact zbb hi
theorem MI.Qs(h:MI lt a b out ia ib)(l:a.toList[ia]?=some x)(g:∀y∈a.toList.drop (ia+1)++b.toList.drop ib,leK lt x y):MI lt a b (out.push x) (ia+1) ib:=by
 have e:=i4 l;refine⟨?_,?_,λz d y c=>?_⟩
 .have:=h.perm
  rw[e]at this;simpa using this
 .rw[Array.toList_push,List.pairwise_append]
  refine⟨h.srt,by simp,λz d y c=>?_⟩
  rw[zad c];exact h.low z d x (by rw[e];simp)
 .rw[Array.toList_push]at d
  rcases zae d with d|d
  .refine h.low z d y ?_
   rw[e];rcases zae c with c|c
   .simp[c]
   .simp[c]
  .rw[zad d];exact g y c
theorem MI.Qt(h:MI lt a b out ia ib)(l:b.toList[ib]?=some x)(g:∀y∈a.toList.drop ia++b.toList.drop (ib+1),leK lt x y):MI lt a b (out.push x) ia (ib+1):=by
 have e:=i4 l;refine⟨?_,?_,λz d y c=>?_⟩
 .have:=h.perm
  rw[e]at this;rw[Array.toList_push];refine List.Perm.trans ?_ this;rw[zaD];refine List.Perm.append_left _ ?_;simpa using(List.perm_middle).symm
 .rw[Array.toList_push,List.pairwise_append]
  refine⟨h.srt,by simp,λz d y c=>?_⟩
  rw[zad c];exact h.low z d x (by rw[e];simp)
 .rw[Array.toList_push]at d
  rcases zae d with d|d
  .refine h.low z d y ?_
   rw[e];rcases zae c with c|c
   .simp[c]
   .simp[c]
  .rw[zad d];exact g y c
structure Ord(lt:Keyed->Keyed->Bool):Prop where
 irr:∀x,lt x x=false
 asy:∀x y,lt x y=true->lt y x=false
 neg:∀x y z,lt x y=true->lt x z=true\/lt z y=true
theorem Ord.trans(O:Ord lt)(l:leK lt x y)(M:leK lt y z):leK lt x z:=by
 unfold leK at*;cases e:lt z x with
 |false=>rfl
 |true=>
  rcases O.neg z x y e with q|q
  .rw[M]at q;cases q
  .rw[l]at q;cases q
def Ord.jW(O:Ord lt)(h:lt x y=true):leK lt x y:=O.asy x y h
def Ord.le_refl(O:Ord lt)(x:Keyed):leK lt x x:=O.irr x
theorem l5(O:Ord lt){l:List Keyed}(hs:l.Pairwise<|leK lt)(g:l[i]?=some x):∀y∈l.drop i,leK lt x y:=λy c=>by
 have:=hs.sublist (List.drop_sublist i l);rw[i4 g]at this c;rcases zaf c with rfl|c
 .exact O.le_refl _
 .exact(List.pairwise_cons.mp this).1 y c
theorem MI.Be(O:Ord lt)(ha:a.toList.Pairwise<|leK lt)(hb:b.toList.Pairwise<|leK lt)(h:MI lt a b out ia ib)(g:a.toList[ia]?=some x)(I:b.toList[ib]?=some y)(l:leK lt x y):MI lt a b (out.push x) (ia+1) ib:=h.Qs g λz c=>by
 rcases zae c with c|c
 .exact l5 O ha g z (by rw[i4 g];exact zak _ c)
 .exact O.trans l (l5 O hb I z c)
theorem MI.xu(O:Ord lt)(ha:a.toList.Pairwise<|leK lt)(hb:b.toList.Pairwise<|leK lt)(h:MI lt a b out ia ib)(I:a.toList[ia]?=some x)(g:b.toList[ib]?=some y)(l:leK lt y x):MI lt a b (out.push y) ia (ib+1):=h.Qt g λz c=>by
 rcases zae c with c|c
 .exact O.trans l (l5 O ha I z c)
 .exact l5 O hb g z (by rw[i4 g];exact zak _ c)
theorem xw(c:Array Keyed)(i k:Nat)(h:c.toList[i+k]?=some x):c.extract i (i+(k+1))=(c.extract i<|i+k).push x:=by
 apply Array.toList_inj.mp;rw[Array.toList_push,Array.toList_extract,Array.toList_extract];have d:i+(k+1)-i=k+1:=by lia
 have e:i+k-i=k:=by lia
 rw[List.extract_eq_drop_take,List.extract_eq_drop_take,d,e,List.take_add_one];rw[List.getElem?_drop,h];rfl
theorem MI.zK(O:Ord lt)(ha:a.toList.Pairwise<|leK lt)(hb:b.toList.Pairwise<|leK lt)(h:MI lt a b out ia ib)(g:b.toList[ib]?=some y):∀k:Nat,ia+k<=a.size->(∀i x,i<k->a.toList[ia+i]?=some x->leK lt x y)->MI lt a b (out++a.extract ia (ia+k)) (ia+k) ib
 |0,_,_=>by
  have:a.extract ia (ia+0)=#[]:=by simp;lia
  rw[this,Array.append_empty];exact h
 |k+1,hk,d=>by
  have e:=MI.zK O ha hb h g k (by lia) λi x hi=>d i x (by lia)
  have c:a.toList[ia+k]?=some a[ia+k]:=by rw[Array.getElem?_toList];exact Array.getElem?_eq_getElem (by lia)
  rw[xw a ia k c,Array.append_push];exact e.Be O ha hb c g (d k _ (by lia) c)
theorem MI.zL(O:Ord lt)(ha:a.toList.Pairwise<|leK lt)(hb:b.toList.Pairwise<|leK lt)(h:MI lt a b out ia ib)(g:a.toList[ia]?=some x):∀k:Nat,ib+k<=b.size->(∀i y,i<k->b.toList[ib+i]?=some y->leK lt y x)->MI lt a b (out++b.extract ib (ib+k)) ia (ib+k)
 |0,_,_=>by
  have:b.extract ib (ib+0)=#[]:=by simp;lia
  rw[this,Array.append_empty];exact h
 |k+1,hk,d=>by
  have e:=MI.zL O ha hb h g k (by lia) λi x hi=>d i x (by lia)
  have c:b.toList[ib+k]?=some b[ib+k]:=by rw[Array.getElem?_toList];exact Array.getElem?_eq_getElem (by lia)
  rw[xw b ib k c,Array.append_push];exact e.xu O ha hb g c (d k _ (by lia) c)
structure Mgd(lt:Keyed->Keyed->Bool)(a b out:Array Keyed):Prop where
 perm:out.toList.Perm (a.toList++b.toList)
 srt:out.toList.Pairwise (leK lt)
theorem uP(c:Array Keyed)(i:Nat):(c.extract i c.size).toList=c.toList.drop i:=by
 rw[Array.toList_extract,List.extract_eq_drop_take];exact List.take_of_length_le (by simp)
theorem MI.done(O:Ord lt)(ha:a.toList.Pairwise<|leK lt)(hb:b.toList.Pairwise<|leK lt)(h:MI lt a b out ia ib)(g:a.size<=ia\/b.size<=ib):Mgd lt a b (out++a.extract ia a.size++b.extract ib b.size):=by
 have e:(out++a.extract ia a.size++b.extract ib b.size).toList=out.toList++(a.toList.drop ia++b.toList.drop ib):=by
  rw[Array.toList_append,Array.toList_append,uP,uP,zaD]
 refine⟨by rw[e];exact h.perm,?_⟩
 rw[e,List.pairwise_append];refine⟨h.srt,?_,h.low⟩;rcases g with g|g
 .rw[List.drop_of_length_le (by simpa using g),List.nil_append];exact hb.sublist (List.drop_sublist _ _)
 .rw[List.drop_of_length_le (l:=b.toList) (by simpa using g),zaR];exact ha.sublist (List.drop_sublist _ _)
theorem MI.last(O:Ord lt)(ha:a.toList.Pairwise<|leK lt)(hb:b.toList.Pairwise<|leK lt)(h:MI lt a b out ia ib)(l:a.toList.drop ia=[z])(g:∀y∈b.toList,leK lt y z):Mgd lt a b (out++b.extract ib b.size++a.extract ia a.size):=by
 have e:(out++b.extract ib b.size++a.extract ia a.size).toList=out.toList++(b.toList.drop ib++a.toList.drop ia):=by
  rw[Array.toList_append,Array.toList_append,uP,uP,zaD]
 refine⟨by rw[e];exact(List.Perm.append_left _ List.perm_append_comm).trans h.perm,?_⟩
 rw[e,List.pairwise_append];refine⟨h.srt,?_,λx c y d=>h.low x c y<|List.perm_append_comm.mem_iff.mp d⟩
 rw[l,List.pairwise_append];exact⟨hb.sublist<|List.drop_sublist _ _,by simp,λx c y d=>by rw[zad d];exact g x (List.mem_of_mem_drop c)⟩
end L2
namespace L2
open PySem.W PySem.Calls PySem.Spec PyProof.Rows
def e9:Nat->StateT SortSt Sem Unit:=sortPriv%PySem.Builtin.setMinGallop
def qb:Array Keyed->Array Keyed->StateT SortSt Sem (Array Keyed):=sortPriv%PySem.Builtin.mergeLo
abbrev AK:=Array Keyed
def T4:Bool->Type->Type
 |true,e=>Option AK×AK×Nat×Nat×e
 |false,e=>Option AK×Nat×Nat×AK×e
noncomputable def pk:(h:Bool)->{M:Type}->Option AK->AK->Nat->Nat->M->T4 h M
 |true,_,r,O,i,j,x=>(r,O,i,j,x)
 |false,_,r,O,i,j,x=>(r,i,j,O,x)
noncomputable def un:(h:Bool)->{M:Type}->T4 h M->Option AK×AK×Nat×Nat×M
 |true,_,s=>s
 |false,_,s=>(s.1,s.2.2.2.1,s.2.1,s.2.2.1,s.2.2.2.2)
abbrev F4(h:Bool)(M:Type):=ForInStep (T4 h M)
section
variable(a b:AK)(k l:Nat)
abbrev loD(O:AK)(i j:Nat):AK:=O++a.extract i k++b.extract j l
abbrev loL(O:AK)(i j:Nat):AK:=O++b.extract j l++a.extract i k
def loC(mg u v i:Nat)(O:AK)(j:Nat):StateT SortSt Sem (F4 true<|Nat×Nat×Nat):=do
 let x<-elem' a i
 if i+1+1==k then pure (.done<|pk true (some<|loL a b k l (O.push x) (i+1) j) (O.push x) (i+1) j (mg,u,v))
 else if decide (u<7)&&decide (v<7)then pure (.done<|pk true none (O.push x) (i+1) j (mg,u,v))else pure (.yield<|pk true none (O.push x) (i+1) j (mg,u,v))
def loB(mg u v:Nat)(O:AK)(i j:Nat):StateT SortSt Sem (F4 true<|Nat×Nat×Nat):=do
 let y<-elem' b j
 if j+1==l then pure (.done<|pk true (some<|loD a b k l (O.push y) i<|j+1) (O.push y) i (j+1) (mg,u,v))else
 match<-fN true (<-elem' a i) b (j+1) (l-(j+1)) 0 with
 |some v=>if v>0 then(if j+1+v==l then pure (.done<|pk true (some<|loD a b k l (O.push y++b.extract (j+1) (j+1+v)) i<|j+1+v) (O.push y++b.extract (j+1) (j+1+v)) i (j+1+v) (mg,u,v))else loC a b k l mg u v i (O.push y++b.extract (j+1) (j+1+v)) (j+1+v))else loC a b k l mg u v i (O.push y) (j+1)
 |_=>pure (.done<|pk true (some<|loD a b k l (O.push y) i<|j+1) (O.push y) i (j+1) (mg,u,v))
def loA(O:AK)(i j u v mg:Nat):StateT SortSt Sem (F4 true<|Nat×Nat×Nat):=do
 e9 mg
 match<-fN false (<-elem' b j) a i (k-i) 0 with
 |some u=>if u>0 then(if i+u+1==k then pure (.done<|pk true (some<|loL a b k l (O++a.extract i (i+u)) (i+u) j) (O++a.extract i (i+u)) (i+u) j (mg,u,v))else if i+u==k then pure (.done<|pk true (some<|loD a b k l (O++a.extract i (i+u)) (i+u) j) (O++a.extract i (i+u)) (i+u) j (mg,u,v))else loB a b k l mg u v (O++a.extract i (i+u)) (i+u) j)else loB a b k l mg u v O i j
 |_=>pure (.done<|pk true (some<|loD a b k l O i j) O i j (mg,u,v))
def lo3(O:AK)(i j mg u v:Nat):StateT SortSt Sem (F4 true<|Nat×Nat×Nat):=if mg>1 then loA a b k l O i j u v (mg-1)else loA a b k l O i j u v mg
def lo2(mg:Nat)(O:AK)(i j u v:Nat):StateT SortSt Sem (F4 true<|Nat×Nat):=do
 match<-lt' (<-elem' b j) (<-elem' a i)with
 |some w=>(if w then elem' b j>>=λy=>if j+1==l then pure (.done<|pk true (some<|loD a b k l (O.push y) i<|j+1) (O.push y) i (j+1) (0,v+1))else if v+1>=mg then pure (.done<|pk true none (O.push y) i (j+1) (0,v+1))else pure (.yield<|pk true none (O.push y) i (j+1) (0,v+1))else elem' a i>>=λx=>if i+1+1==k then pure (.done<|pk true (some<|loL a b k l (O.push x) (i+1) j) (O.push x) (i+1) j (u+1,0))else if u+1>=mg then pure (.done<|pk true none (O.push x) (i+1) j (u+1,0))else pure (.yield<|pk true none (O.push x) (i+1) j (u+1,0)))
 |_=>pure (.done<|pk true (some<|loD a b k l O i j) O i j (u,v))
end
section
variable(h:Bool)(n:Nat)(f2:Nat->AK->Nat->Nat->Nat->Nat->StateT SortSt Sem (F4 h<|Nat×Nat))(f3:AK->Nat->Nat->Nat->Nat->Nat->StateT SortSt Sem (F4 h<|Nat×Nat×Nat))(O:AK)(i j:Nat)
def mg1(mg:Nat):StateT SortSt Sem (F4 h Nat):=do
 let s<-forIn [0:n] (pk h none O i j (0,0)) λ_ r=>f2 mg (un h r).2.1 (un h r).2.2.1 (un h r).2.2.2.1 (un h r).2.2.2.2.1 (un h r).2.2.2.2.2
 match(un h s).1 with
 |some x=>pure (.done<|pk h (some x) (un h s).2.1 (un h s).2.2.1 (un h s).2.2.2.1 mg)
 |none=>
  rule "list.sort.gallop"
  let t<-forIn [0:n] (pk h none (un h s).2.1 (un h s).2.2.1 (un h s).2.2.2.1 (mg+1,(un h s).2.2.2.2.1,(un h s).2.2.2.2.2)) λ_ r=>f3 (un h r).2.1 (un h r).2.2.1 (un h r).2.2.2.1 (un h r).2.2.2.2.1 (un h r).2.2.2.2.2.1 (un h r).2.2.2.2.2.2
  match(un h t).1 with
  |some x=>pure (.done<|pk h (some x) (un h t).2.1 (un h t).2.2.1 (un h t).2.2.2.1 (un h t).2.2.2.2.1)
  |none=>
   e9 ((un h t).2.2.2.2.1+1)
   pure (.yield<|pk h none (un h t).2.1 (un h t).2.2.1 (un h t).2.2.2.1 ((un h t).2.2.2.2.1+1))
def mg0:StateT SortSt Sem AK:=do
 let r<-forIn [0:n] (pk h none O i j<|gallopOf<|<-get) λ_ r=>mg1 h n f2 f3 (un h r).2.1 (un h r).2.2.1 (un h r).2.2.2.1 (un h r).2.2.2.2
 match(un h r).1 with
 |some x=>pure x
 |none=>unsupported "internal:list.sort.merge-bound"
end
theorem xx{a b:AK}(ha:a.size=k)(hb:b.size=l):qb a b=(do
 rule "list.sort.merge-lo"
 let y<-elem' b 0
 if 1==l then pure (loD a b k l #[y] 0 1)else if 0+1==k then pure (loL a b k l #[y] 0 1)else mg0 true (k+l) (lo2 a b k l) (lo3 a b k l) #[y] 0 1):=by
 subst ha hb;kernel_rfl
section
variable{prog:Program}{w:World}{A:Around}{E:Value->Shared->Prop}{s:Shared}{κ:SortKind}{S:Keyed->Prop}{lt:Keyed->Keyed->Bool}
def Cmp.ord(C:Cmp prog w A E s κ S lt):Ord lt:=⟨C.irr,C.asy,C.neg⟩
def iA{st:SortSt}(h:Q () st):wpS (model prog w) A E s (liftM (rule x):StateT SortSt Sem Unit) Q st:=wpS_lift (wpAny_rule ⟨rfl,h⟩)
def qc{st:SortSt}(h:Q ()<|SortSt.mk' (kindOf st) (arrOf st) (pendingOf st) g<|failedOf st):wpS (model prog w) A E s (e9 g) Q st:=wpS_modify h
theorem oP{c:Array Keyed}(h:i<c.size):c.toList[i]?=some c[i]:=by rw[Array.getElem?_toList];exact Array.getElem?_eq_getElem h
def F7:bey lt false key x= !lt key x:=rfl
theorem F8(h:bey lt false key x=true):leK lt x key:=by
 unfold leK;cases e:lt key x with
 |false=>rfl
 |true=>rw[F7,e]at h;cases h
theorem Oi(h:leK lt x key):bey lt false key x=true:=by
 rw[F7,h];rfl
theorem Oj(h:bey lt false key x=false):lt key x=true:=by
 cases e:lt key x with
 |true=>rfl
 |false=>rw[F7,e]at h;cases h
theorem bq{x y:Nat}(e:(x==y)=true):y<=x:=by simp at e;lia
theorem aS{st:SortSt} [Decidable c]{m n:StateT SortSt Sem α}{Q : α->SortSt->Prop}(g:c->wpS (model prog w) A E s m Q st)(l : ¬c->wpS (model prog w) A E s n Q st):wpS (model prog w) A E s (if c then m else n) Q st:=by
 by_cases e:c
 .rw[if_pos e];exact g e
 .rw[if_neg e];exact l e
theorem iB{c:AK}(sc:∀x∈c.toList,S x)(hi:i<c.size):∃x,c[i]?=some x/\c.toList[i]?=some x/\S x:=⟨c[i],Array.getElem?_eq_getElem hi,oP hi,sc _ (by simp)⟩
theorem F9(O:Ord lt){l:List Keyed}(hs:l.Pairwise<|leK lt){u v:Nat}(h:u<=v)(g:l[u]?=some x)(I:l[v]?=some y):leK lt x y:=by
 obtain⟨d,rfl⟩:∃d,v=u+d:=⟨v-u,by lia⟩
 exact l5 O hs g y (zaj (by rw[List.getElem?_drop];exact I))
theorem Ol{left:Bool}(C:Cmp prog w A E s κ S lt){c:AK}(hs:∀u v x y,u<=v->v<n->c.toList[i+u]?=some x->c.toList[i+v]?=some y->leK lt x y)(sc:∀x∈c.toList,S x)(hb:i+n<=c.size)(I:l<n){y:Keyed}(M:S y){st:SortSt}(hk:kindOf st=κ){Q:Option Nat->SortSt->Prop}
  (h:∀t,t<=n->(∀j x,j<t->c.toList[i+j]?=some x->leK lt x y)->(∀j x,t<=j->j<n->c.toList[i+j]?=some x->if left then leK lt y x else lt y x=true)->Q (some t) st):wpS (model prog w) A E s (fN left y c i n l) Q st:=by
 have O:=C.ord;have g:∀j,j<n->c.toList[i+j]?=some ((c.toList[i+j]?).getD y):=λj a=>by rw[oP (by lia:i+j<c.size)];rfl
 refine zJ C hk (λj=>(c.toList[i+j]?).getD y) (λj a=>⟨by rw[<-Array.getElem?_toList];exact g j a,sc _<|zaj<|g j a⟩) M I (λu v e k b=>?_) λt p m o=>h t p (λj x a f=>?_) λj x a d f=>?_
 .have le:=hs u v _ _ e k (g u (by lia)) (g v k)
  cases left with
  |false=>exact Oi (O.trans le<|F8 b)
  |true=>exact(O.neg _ _ _ b).resolve_left λz=>by rw[show lt _ _=false from le]at z;cases z
 .have:=m j a
  rw[f,Option.getD_some]at this;cases left with
  |false=>exact F8 this
  |true=>exact O.jW this
 .have:=o j a d
  rw[f,Option.getD_some]at this;cases left with
  |false=>exact Oj this
  |true=>exact this
theorem gal{left:Bool}(C:Cmp prog w A E s κ S lt){c:AK}(hs:c.toList.Pairwise<|leK lt)(sc:∀x∈c.toList,S x)(hb:i+n<=c.size)(l:g<n){y:Keyed}(I:S y){st:SortSt}(hk:kindOf st=κ){Q:Option Nat->SortSt->Prop}
  (h:∀t,t<=n->(∀j x,j<t->c.toList[i+j]?=some x->leK lt x y)->(∀j x,t<=j->j<n->c.toList[i+j]?=some x->if left then leK lt y x else lt y x=true)->Q (some t) st):wpS (model prog w) A E s (fN left y c i n g) Q st:=Ol C (λu v x y a _ b d=>F9 C.ord hs (by lia) b d) sc hb l I hk h
def In(st:SortSt)(h:Bool){M:Type}(σ:AK->Nat->Nat->Prop)(c:T4 h M)(st':SortSt):Prop:=SG st st'/\∃O i j x,c=pk h none O i j x/\σ O i j
def Po(st:SortSt)(h:Bool){U:Type}(M:AK->Prop)(σ:AK->Nat->Nat->Prop)(c:T4 h U)(st':SortSt):Prop:=In st h σ c st'\/(SG st st'/\∃O,(un h c).1=some O/\M O)
def Tr(st:SortSt)(h:Bool){O:Type}(M:AK->Prop)(σ:AK->Nat->Nat->Prop)(r:F4 h O)(st':SortSt):Prop:=match r with
 | .done c=>Po st h M σ c st'
 | .yield c=>In st h σ c st'
section
variable{h:Bool}{β:Type}{st st':SortSt}{i j:Nat}{M:AK->Prop}{σ:AK->Nat->Nat->Prop}{O U:AK}{x : β}
theorem gO(g:SG st st')(z:M U):wpS (model prog w) A E s (pure<|.done<|pk h (some U) O i j x) (Tr st h M σ) st':=wpS_pure (.inr ⟨g,U,by cases h<;>rfl,z⟩)
def sN(g:SG st st')(z:σ O i j):wpS (model prog w) A E s (pure<|.done<|pk h none O i j x) (Tr st h M σ) st':=wpS_pure (.inl ⟨g,O,i,j,x,rfl,z⟩)
def sO(g:SG st st')(z:σ O i j):wpS (model prog w) A E s (pure<|.yield<|pk h none O i j x) (Tr st h M σ) st':=wpS_pure ⟨g,O,i,j,x,rfl,z⟩
end
def In.mono{st st':SortSt}{σ l:AK->Nat->Nat->Prop}{c:T4 h M}(z:In st h σ c st')(I:∀{O i j},σ O i j->l O i j):In st h l c st':=let⟨g,O,i,j,x,e,z⟩:=z;⟨g,O,i,j,x,e,I z⟩
theorem Bf{st st0:SortSt}(g0:SG st st0){f2:Nat->AK->Nat->Nat->Nat->Nat->StateT SortSt Sem (F4 h<|Nat×Nat)}{I:AK->Nat->Nat->Nat->Nat->Nat->StateT SortSt Sem (F4 h<|Nat×Nat×Nat)}{M:AK->Prop}(σ:Nat->AK->Nat->Nat->Prop)
  (l:∀O i j,¬σ n O i j) (mono:∀{q r O i j},r<=q->σ q O i j->σ r O i j)
  (U:∀q mg O i j u v st',SG st st'->σ q O i j->wpS (model prog w) A E s (f2 mg O i j u v) (Tr st h M<|σ<|q+1) st')
  (h3:∀q O i j mg u v st',SG st st'->σ q O i j->wpS (model prog w) A E s (I O i j mg u v) (Tr st h M<|σ<|q+1) st')
  {Q:AK->SortSt->Prop} (hQ:∀O st',SG st st'->M O->Q O st') {O:AK} {i j:Nat} (Y:σ 0 O i j):wpS (model prog w) A E s (mg0 h n f2 I O i j) Q st0:=by
 refine wpS_bind (wpS_get<|wpS_bind<|wpS_mono (wpS_forRange (λq c st'=>In st h (σ q) c st') (Q:=λc st'=>SG st st'/\∃O,(un h c).1=some O/\M O) ?_ (λc st' ⟨_,O,i,j,x,_,z⟩=>(l O i j<|mono (by lia) z).elim) ⟨g0,O,i,j,_,rfl,Y⟩) ?_)
 rotate_left 1
 .rintro c st' ⟨g,O,e,o⟩
  rw[e];exact wpS_pure (hQ _ _ g o)
 rintro q _ d _ f ⟨g,O,i,j,mg,rfl,ρ⟩
 cases h
 all_goals
  refine wpS_bind (wpS_mono (wpS_forRange (λr c st'=>In st _ (σ<|q+r) c st') (Q:=Po st _ M<|σ<|q+1) ?_ (λc st' ⟨_,O,i,j,x,_,z⟩=>(l O i j<|mono (by lia) z).elim) ⟨g,O,i,j,(0,0),rfl,ρ⟩) ?_)
  .rintro r _ a _ b ⟨g,O,i,j,⟨u,v⟩,rfl,ρ⟩
   refine wpS_mono (U (q+r) mg O i j u v a g ρ) λc st' z=>?_
   cases c with
   |done c=>exact z.imp (λz=>z.mono<|mono (by lia)) id
   |yield c=>exact z
  rintro c a (⟨g,O,i,j,⟨u,v⟩,rfl,ρ⟩|⟨g,O,e,o⟩)
  rotate_left 1
  .rw[e]
   exact wpS_pure ⟨g,O,rfl,o⟩
  refine wpS_bind (iA<|wpS_bind<|wpS_mono (wpS_forRange (λr c st'=>In st _ (σ<|q+1+r) c st') (Q:=Po st _ M<|σ<|q+1) ?_ (λc st' ⟨_,O,i,j,x,_,z⟩=>(l O i j<|mono (by lia) z).elim) ⟨g,O,i,j,(mg+1,u,v),rfl,ρ⟩) ?_)
  .rintro r _ a _ b ⟨g,O,i,j,⟨mg,u,v⟩,rfl,ρ⟩
   refine wpS_mono (h3 (q+1+r) O i j mg u v a g ρ) λc st' z=>?_
   cases c with
   |done c=>exact z.imp (λz=>z.mono<|mono (by lia)) id
   |yield c=>exact z
  rintro c a (⟨g,O,i,j,⟨mg,u,v⟩,rfl,ρ⟩|⟨g,O,e,o⟩)
  rotate_left 1
  .rw[e]
   exact wpS_pure ⟨g,O,rfl,o⟩
  exact wpS_bind (qc<|wpS_pure ⟨⟨g.1,g.2.1,g.2.2.1,g.2.2.2⟩,O,i,j,mg+1,rfl,ρ⟩)
abbrev LJ(lt:Keyed->Keyed->Bool)(a b:AK)(k l q:Nat)(O:AK)(i j:Nat):Prop:=MI lt a b O i j/\i+1<k/\j<l/\q<i+j
section
variable{a b:AK}{k l q:Nat}{st st':SortSt}{O:AK}{i j u v mg:Nat}
variable(C:Cmp prog w A E s κ S lt)(hk:kindOf st=κ)(ha:a.toList.Pairwise<|leK lt)(hb:b.toList.Pairwise<|leK lt)(sa:∀x∈a.toList,S x)(sb:∀x∈b.toList,S x)(ek:a.size=k)(el:b.size=l)(HL:∀z,a.toList[k-1]?=some z->∀y∈b.toList,leK lt y z)
include C ha hb ek el
theorem Ga(m:MI lt a b O i j)(e:k<=i\/l<=j):Mgd lt a b (loD a b k l O i j):=by subst ek el;exact m.done C.ord ha hb e
include HL
theorem JT(m:MI lt a b O i j)(e:i+1=k):Mgd lt a b (loL a b k l O i j):=by
 subst ek el;have c:=oP (by lia:i<a.size)
 exact m.last C.ord ha hb (by rw[i4 c,List.drop_of_length_le (by simp;lia)]) (HL _ (by rw[show a.size-1=i by lia];exact c))
include hk sa sb
theorem Bg(g:SG st st')(ρ:LJ lt a b k l q O i j)(I:∀x z,a.toList[i]?=some x->b.toList[j]?=some z->leK lt x z):wpS (model prog w) A E s (loC a b k l mg u v i O j) (Tr st true (Mgd lt a b)<|LJ lt a b k l<|q+1) st':=by
 obtain⟨m,p,d,h3⟩:=ρ;obtain⟨x,n,f,r⟩:=iB sa (by lia:i<a.size)
 obtain⟨z,_,h,_⟩:=iB sb (by lia:j<b.size)
 have c:=m.Be C.ord ha hb f h (I x z f h);refine wpS_bind (bg n<|aS (λe=>gO g<|JT C ha hb ek el HL c (by simpa using e)) λe=>?_)
 have o:i+1+1≠k:=by simpa using e
 exact aS (λ_=>sN g ⟨c,by lia,d,by lia⟩) λ_=>sO g ⟨c,by lia,d,by lia⟩
theorem Bh(g:SG st st')(ρ:LJ lt a b k l q O i j)(I:∀x y,a.toList[i]?=some x->b.toList[j]?=some y->lt y x=true):wpS (model prog w) A E s (loB a b k l mg u v O i j) (Tr st true (Mgd lt a b)<|LJ lt a b k l<|q+1) st':=by
 obtain⟨m,o,N,h3⟩:=ρ;obtain⟨x,H,d,σ⟩:=iB sa (by lia:i<a.size)
 obtain⟨y,K,t,P⟩:=iB sb (by lia:j<b.size)
 have f:=m.xu C.ord ha hb d t (C.ord.jW<|I x y d t);refine wpS_bind (bg K<|aS (λe=>gO g<|Ga C ha hb ek el f<|.inr<|bq e) λe=>?_)
 have B:j+1≠l:=by simpa using e
 refine wpS_bind (bg H<|wpS_bind<|gal C hb sb (by lia) (by lia) σ (g.1.trans hk) λn hn F G=>?_)
 have r:=f.zL C.ord ha hb d n (by lia) F
 have c:j+1+n<l->∀h z,a.toList[i]?=some h->b.toList[j+1+n]?=some z->leK lt h z:=λ_ h z p D=>by
  rw[d]at p;cases p
  exact G n z (zap _) (by lia) D
 refine aS (λ_=>aS (λe=>gO g<|Ga C ha hb ek el r<|.inr<|bq e) λe=>?_) λe=>?_
 .have B:j+1+n≠l:=by simpa using e
  exact Bg C hk ha hb sa sb ek el HL g ⟨r,o,by lia,by lia⟩ (c (by lia))
 .obtain rfl:n=0:=by lia
  exact Bg C hk ha hb sa sb ek el HL g ⟨f,o,by lia,by lia⟩ (c (by lia))
theorem JU(g:SG st st')(ρ:LJ lt a b k l q O i j):wpS (model prog w) A E s (lo3 a b k l O i j mg u v) (Tr st true (Mgd lt a b)<|LJ lt a b k l<|q+1) st':=by
 suffices z:∀mg,wpS (model prog w) A E s (loA a b k l O i j u v mg) (Tr st true (Mgd lt a b)<|LJ lt a b k l<|q+1) st' from aS (λ_=>z _) λ_=>z _
 intro mg;obtain⟨m,D,o,h3⟩:=ρ;obtain⟨y,σ,r,K⟩:=iB sb (by lia:j<b.size)
 have c:SG st (SortSt.mk' (kindOf st') (arrOf st') (pendingOf st') mg<|failedOf st'):=g;refine wpS_bind (qc<|wpS_bind<|bg σ<|wpS_bind<|gal C ha sa (by lia) (by lia) K (c.1.trans hk) λn hn G H=>?_)
 have f:=m.zK C.ord ha hb r n (by lia) G
 have d:i+n<k->∀x h,a.toList[i+n]?=some x->b.toList[j]?=some h->lt h x=true:=λ_ x h F p=>by
  rw[r]at p;cases p
  exact H n x (zap _) (by lia) F
 refine aS (λ_=>aS (λe=>gO c<|JT C ha hb ek el HL f (by simpa using e)) λe=>aS (λe=>gO c<|Ga C ha hb ek el f<|.inl<|bq e) λt=>?_) λe=>?_
 .have N:i+n+1≠k:=by simpa using e
  have B:i+n≠k:=by simpa using t
  exact Bh C hk ha hb sa sb ek el HL c ⟨f,by lia,o,by lia⟩ (d (by lia))
 .obtain rfl:n=0:=by lia
  exact Bh C hk ha hb sa sb ek el HL c ⟨m,D,o,h3⟩ (d (by lia))
theorem JV(g:SG st st')(ρ:LJ lt a b k l q O i j):wpS (model prog w) A E s (lo2 a b k l mg O i j u v) (Tr st true (Mgd lt a b)<|LJ lt a b k l<|q+1) st':=by
 obtain⟨m,f,h,h3⟩:=ρ;obtain⟨x,n,o,B⟩:=iB sa (by lia:i<a.size)
 obtain⟨y,p,r,D⟩:=iB sb (by lia:j<b.size)
 refine wpS_bind (bg p<|wpS_bind<|bg n<|wpS_bind<|qa C (g.1.trans hk) D B ?_);refine aS (λw=>?_) λw=>?_
 .have c:=m.xu C.ord ha hb o r (C.ord.jW w)
  refine wpS_bind (bg p<|aS (λe=>gO g<|Ga C ha hb ek el c<|.inr<|bq e) λe=>?_)
  have t:j+1≠l:=by simpa using e
  exact aS (λ_=>sN g ⟨c,f,by lia,by lia⟩) λ_=>sO g ⟨c,f,by lia,by lia⟩
 .have d:=m.Be C.ord ha hb o r (show lt y x=false by simpa using w)
  refine wpS_bind (bg n<|aS (λe=>gO g<|JT C ha hb ek el HL d (by simpa using e)) λe=>?_)
  have t:i+1+1≠k:=by simpa using e
  exact aS (λ_=>sN g ⟨d,by lia,h,by lia⟩) λ_=>sO g ⟨d,by lia,h,by lia⟩
theorem xA(I : 0<k)(M : 0<l)(H0:∀y,b.toList[0]?=some y->∀x∈a.toList,leK lt y x){Q:AK->SortSt->Prop}(h:∀O st',SG st st'->Mgd lt a b O->Q O st'):wpS (model prog w) A E s (qb a b) Q st:=by
 rw[xx ek el];obtain⟨y,F,f,H⟩:=iB sb (by lia : 0<b.size)
 have c:MI lt a b #[y] 0 1:=by
  have:MI lt a b #[] 0 0:=⟨List.Perm.refl _,by simp,λx D=>by cases D⟩
  obtain⟨x,_,d,_⟩:=iB sa (by lia : 0<a.size)
  exact this.xu C.ord ha hb d f (H0 y f x<|zaj d)
 refine wpS_bind (iA<|wpS_bind<|bg F<|aS (λe=>wpS_pure<|h _ _ (SG.refl _)<|Ga C ha hb ek el c<|.inr<|bq e) λm=>aS (λe=>wpS_pure<|h _ _ (SG.refl _)<|JT C ha hb ek el HL c (by simpa using e)) λp=>?_)
 have n : 1≠l:=by simpa using m
 have r : 0+1≠k:=by simpa using p
 exact Bf (SG.refl _) (LJ lt a b k l) (λ_ _ _ ⟨_,_,_,z⟩=>by lia) (λG ⟨t,B,h3,h4⟩=>⟨t,B,h3,by lia⟩) (λ_ _ _ _ _ _ _ _ g o=>JV C hk ha hb sa sb ek el HL g o) (λ_ _ _ _ _ _ _ _ g o=>JU C hk ha hb sa sb ek el HL g o) h ⟨c,by lia,by lia,by lia⟩
end
end
def qd:Array Keyed->Array Keyed->StateT SortSt Sem (Array Keyed):=sortPriv%PySem.Builtin.mergeHi
section
variable(a b:AK)
abbrev hiD(O:AK)(i j:Nat):AK:=a.extract 0 i++b.extract 0 j++O.reverse
abbrev hiF(O:AK)(i j:Nat):AK:=b.extract 0 j++a.extract 0 i++O.reverse
def hiC(mg u v i:Nat)(O:AK)(j:Nat):StateT SortSt Sem (F4 false<|Nat×Nat×Nat):=do
 let x<-elem' a (i-1)
 if i-1==0 then pure (.done<|pk false (some<|hiD a b (O.push x) (i-1) j) (O.push x) (i-1) j (mg,u,v))
 else if decide (u<7)&&decide (v<7)then pure (.done<|pk false none (O.push x) (i-1) j (mg,u,v))else pure (.yield<|pk false none (O.push x) (i-1) j (mg,u,v))
def hiB(mg u v:Nat)(O:AK)(i j:Nat):StateT SortSt Sem (F4 false<|Nat×Nat×Nat):=do
 let y<-elem' b (j-1)
 if j-1==1 then pure (.done<|pk false (some<|hiF a b (O.push y) i<|j-1) (O.push y) i (j-1) (mg,u,v))else
 match<-fN true (<-elem' a (i-1)) b 0 (j-1) (j-1-1)with
 |some t=>if j-1-t>0 then(if t==1 then pure (.done<|pk false (some<|hiF a b (O.push y++(b.extract t<|j-1).reverse) i t) (O.push y++(b.extract t<|j-1).reverse) i t (mg,u,j-1-t))else if t==0 then pure (.done<|pk false (some<|hiD a b (O.push y++(b.extract t<|j-1).reverse) i t) (O.push y++(b.extract t<|j-1).reverse) i t (mg,u,j-1-t))else hiC a b mg u (j-1-t) i (O.push y++(b.extract t<|j-1).reverse) t)else hiC a b mg u (j-1-t) i (O.push y) (j-1)
 |_=>pure (.done<|pk false (some<|hiD a b (O.push y) i<|j-1) (O.push y) i (j-1) (mg,u,v))
def hiA(O:AK)(i j u v mg:Nat):StateT SortSt Sem (F4 false<|Nat×Nat×Nat):=do
 e9 mg
 match<-fN false (<-elem' b (j-1)) a 0 i (i-1)with
 |some t=>if i-t>0 then(if t==0 then pure (.done<|pk false (some<|hiD a b (O++(a.extract t i).reverse) t j) (O++(a.extract t i).reverse) t j (mg,i-t,v))else hiB a b mg (i-t) v (O++(a.extract t i).reverse) t j)else hiB a b mg (i-t) v O i j
 |_=>pure (.done<|pk false (some<|hiD a b O i j) O i j (mg,u,v))
def hi3(O:AK)(i j mg u v:Nat):StateT SortSt Sem (F4 false<|Nat×Nat×Nat):=if mg>1 then hiA a b O i j u v (mg-1)else hiA a b O i j u v mg
def hi2(mg:Nat)(O:AK)(i j u v:Nat):StateT SortSt Sem (F4 false<|Nat×Nat):=do
 match<-lt' (<-elem' b (j-1)) (<-elem' a (i-1))with
 |some w=>(if w then elem' a (i-1)>>=λx=>if i-1==0 then pure (.done<|pk false (some<|hiD a b (O.push x) (i-1) j) (O.push x) (i-1) j (u+1,0))else if u+1>=mg then pure (.done<|pk false none (O.push x) (i-1) j (u+1,0))else pure (.yield<|pk false none (O.push x) (i-1) j (u+1,0))else elem' b (j-1)>>=λy=>if j-1==1 then pure (.done<|pk false (some<|hiF a b (O.push y) i<|j-1) (O.push y) i (j-1) (0,v+1))else if v+1>=mg then pure (.done<|pk false none (O.push y) i (j-1) (0,v+1))else pure (.yield<|pk false none (O.push y) i (j-1) (0,v+1)))
 |_=>pure (.done<|pk false (some<|hiD a b O i j) O i j (u,v))
end
theorem xB{a b:AK}(ha:a.size=k)(hb:b.size=l):qd a b=(do
 rule "list.sort.merge-hi"
 let x<-elem' a (k-1)
 if k-1==0 then pure (hiD a b #[x] (k-1) l)else if l==1 then pure (hiF a b #[x] (k-1) l)else mg0 false (k+l) (hi2 a b) (hi3 a b) #[x] (k-1) l):=by
 subst ha hb;kernel_rfl
abbrev fl(lt:Keyed->Keyed->Bool):Keyed->Keyed->Bool:=λx y=>lt y x
section
variable{prog:Program}{w:World}{A:Around}{E:Value->Shared->Prop}{s:Shared}{κ:SortKind}{S:Keyed->Prop}{lt:Keyed->Keyed->Bool}
theorem Ord.fl(O:Ord lt):Ord (fl lt):=⟨O.irr,λx y h=>O.asy y x h,λx y z h=>(O.neg y x z h).symm⟩
theorem dR{c:AK}(h:c.toList.Pairwise<|leK lt):c.reverse.toList.Pairwise (leK<|fl lt):=by
 rw[Array.toList_reverse,List.pairwise_reverse];exact h
theorem i5{c:AK}(e:c.size=k)(h:n+1+i=k):c.reverse.toList[n]?=c.toList[i]?:=by
 rw[Array.toList_reverse,List.getElem?_reverse (by simp;lia)]
 congr 1
 simp;lia
theorem oQ{c:AK}(e:c.size=k)(h:t<=i)(hi:i<=k):c.reverse.extract (k-i) (k-t)=(c.extract t i).reverse:=by
 apply Array.toList_inj.mp;rw[Array.toList_extract,Array.toList_reverse,Array.toList_reverse,Array.toList_extract,List.extract_eq_drop_take,List.extract_eq_drop_take,List.drop_reverse,List.take_reverse,<-List.drop_take]
 congr 2
 .simp;lia
 .congr 1;simp;lia
theorem Bi{a b R:AK}(h:Mgd (fl lt) b.reverse a.reverse R):Mgd lt a b R.reverse:=by
 refine⟨?_,?_⟩
 .rw[Array.toList_reverse]
  have p:=h.perm;rw[Array.toList_reverse,Array.toList_reverse,<-List.reverse_append]at p;exact(List.reverse_perm _).trans (p.trans<|List.reverse_perm _)
 .rw[Array.toList_reverse,List.pairwise_reverse];exact h.srt
abbrev HM(lt:Keyed->Keyed->Bool)(a b:AK)(k l:Nat)(O:AK)(i j:Nat):Prop:=MI (fl lt) b.reverse a.reverse O (l-j) (k-i)
abbrev HJ(lt:Keyed->Keyed->Bool)(a b:AK)(k l q:Nat)(O:AK)(i j:Nat):Prop:=HM lt a b k l O i j/\0<i/\1<j/\i<=k/\j<=l/\q+i+j<k+l
variable{a b:AK}{k l q:Nat}{st st':SortSt}{O:AK}{i j u v mg:Nat}
variable(C:Cmp prog w A E s κ S lt)(hk:kindOf st=κ)(ha:a.toList.Pairwise<|leK lt)(hb:b.toList.Pairwise<|leK lt)(sa:∀x∈a.toList,S x)(sb:∀x∈b.toList,S x)(ek:a.size=k)(el:b.size=l)(H0:∀z,b.toList[0]?=some z->∀y∈a.toList,leK lt z y)
include C ha hb ek el
theorem Om(m:HM lt a b k l O i j)(U : 0<i)(Y : 0<j)(h3:i<=k)(h4:j<=l)(I:a.toList[i-1]?=some x)(M:b.toList[j-1]?=some y)(g:leK lt y x):HM lt a b k l (O.push x) (i-1) j:=by
 have:=MI.xu C.ord.fl (dR hb) (dR ha) m ((i5 el (by lia)).trans M) ((i5 ek (by lia)).trans I) g
 rwa[show k-i+1=k-(i-1) by lia]at this
theorem Qu(m:HM lt a b k l O i j)(U : 0<i)(Y : 0<j)(h3:i<=k)(h4:j<=l)(I:a.toList[i-1]?=some x)(M:b.toList[j-1]?=some y)(g:leK lt x y):HM lt a b k l (O.push y) i (j-1):=by
 have:=MI.Be C.ord.fl (dR hb) (dR ha) m ((i5 el (by lia)).trans M) ((i5 ek (by lia)).trans I) g
 rwa[show l-j+1=l-(j-1) by lia]at this
theorem Qv(m:HM lt a b k l O i j)(U : 0<j)(h3:i<=k)(h4:j<=l)(I:t<=i)(M:b.toList[j-1]?=some y)(g:∀n x,t<=n->n<i->a.toList[n]?=some x->leK lt y x):HM lt a b k l (O++(a.extract t i).reverse) t j:=by
 have:=MI.zL C.ord.fl (dR hb) (dR ha) m ((i5 el (by lia)).trans M) (i-t) (by rw[Array.size_reverse];lia) λn x hn c=>by
  rw[i5 ek (by lia:k-i+n+1+(i-1-n)=k)]at c
  exact g (i-1-n) x (by lia) (by lia) c
 rwa[show k-i+(i-t)=k-t by lia,oQ ek I h3]at this
theorem Qw(m:HM lt a b k l O i j)(U : 0<i)(h3:i<=k)(h4:j<=l)(I:t<=j)(M:a.toList[i-1]?=some x)(g:∀n z,t<=n->n<j->b.toList[n]?=some z->leK lt x z):HM lt a b k l (O++(b.extract t j).reverse) i t:=by
 have:=MI.zK C.ord.fl (dR hb) (dR ha) m ((i5 ek (by lia)).trans M) (j-t) (by rw[Array.size_reverse];lia) λn z hn c=>by
  rw[i5 el (by lia:l-j+n+1+(j-1-n)=l)]at c
  exact g (j-1-n) z (by lia) (by lia) c
 rwa[show l-j+(j-t)=l-t by lia,oQ el I h4]at this
theorem Bj(h3:i<=k)(h4:j<=l):hiD a b O i j=(O++b.reverse.extract (l-j) b.reverse.size++a.reverse.extract (k-i) a.reverse.size).reverse/\hiF a b O i j=(O++a.reverse.extract (k-i) a.reverse.size++b.reverse.extract (l-j) b.reverse.size).reverse:=by
 have c:=oQ ek (Nat.zero_le i) h3;have d:=oQ el (Nat.zero_le j) h4;rw[Array.size_reverse,Array.size_reverse,ek,el,show a.reverse.extract (k-i) k=_ from c,show b.reverse.extract (l-j) l=_ from d];simp
theorem Gb(m:HM lt a b k l O i j)(h3:i<=k)(h4:j<=l)(e:i<=0\/j<=0):Mgd lt a b (hiD a b O i j):=by
 rw[(Bj C ha hb ek el h3 h4).1];exact Bi (m.done C.ord.fl (dR hb) (dR ha)<|e.symm.imp (λe=>by rw[Array.size_reverse];lia) λe=>by rw[Array.size_reverse];lia)
include H0
theorem JW(m:HM lt a b k l O i j)(h3:i<=k)(h4:j<=l)(e:j=1):Mgd lt a b (hiF a b O i j):=by
 rw[(Bj C ha hb ek el h3 h4).2];have d:=oP (by lia : 0<b.size)
 refine Bi (m.last C.ord.fl (dR hb) (dR ha) ?_ λy c=>H0 _ d y (by rw[Array.toList_reverse]at c;exact List.mem_reverse.mp c))
 rw[i4 ((i5 el (by lia:l-j+1+0=l)).trans d),List.drop_of_length_le (by simp;lia)]
include hk sa sb
theorem Bl(g:SG st st')(ρ:HJ lt a b k l q O i j)(I:∀x z,a.toList[i-1]?=some x->b.toList[j-1]?=some z->leK lt z x):wpS (model prog w) A E s (hiC a b mg u v i O j) (Tr st false (Mgd lt a b)<|HJ lt a b k l<|q+1) st':=by
 obtain⟨m,n,d,h3,h4,r⟩:=ρ;obtain⟨x,o,f,t⟩:=iB sa (by lia:i-1<a.size)
 obtain⟨z,_,h,_⟩:=iB sb (by lia:j-1<b.size)
 have c:=Om C ha hb ek el m n (by lia) h3 h4 f h (I x z f h)
 refine wpS_bind (bg o<|aS (λe=>gO g<|Gb C ha hb ek el c (by lia) h4<|.inl<|Nat.le_of_eq (by simpa using e)) λe=>?_)
 have p:i-1≠0:=by simpa using e
 exact aS (λ_=>sN g ⟨c,by lia,d,by lia,h4,by lia⟩) λ_=>sO g ⟨c,by lia,d,by lia,h4,by lia⟩
theorem Bm(g:SG st st')(ρ:HJ lt a b k l q O i j)(I:∀x y,a.toList[i-1]?=some x->b.toList[j-1]?=some y->leK lt x y):wpS (model prog w) A E s (hiB a b mg u v O i j) (Tr st false (Mgd lt a b)<|HJ lt a b k l<|q+1) st':=by
 obtain⟨m,f,W,h3,h4,X⟩:=ρ;obtain⟨x,R,h,T⟩:=iB sa (by lia:i-1<a.size)
 obtain⟨y,V,G,M⟩:=iB sb (by lia:j-1<b.size)
 have r:=Qu C ha hb ek el m f (by lia) h3 h4 h G (I x y h G)
 refine wpS_bind (bg V<|aS (λe=>gO g<|JW C ha hb ek el H0 r h3 (by lia) (by simpa using e)) λe=>?_)
 have H:j-1≠1:=by simpa using e
 refine wpS_bind (bg R<|wpS_bind<|gal C hb sb (by lia) (by lia) T (g.1.trans hk) λt N P Q=>?_)
 have B:=Qw C ha hb ek el r f h3 (by lia) N h λn z hn o p=>Q n z hn o (by rw[Nat.zero_add];exact p)
 have c:∀d,0<d->d<=t->∀D z,a.toList[i-1]?=some D->b.toList[d-1]?=some z->leK lt z D:=λd Z p2 D z F p=>by
  rw[h]at F;cases F
  exact P (d-1) z (by lia) (by rw[Nat.zero_add];exact p)
 refine aS (λ_=>aS (λe=>gO g<|JW C ha hb ek el H0 B h3 (by lia) (by simpa using e)) λe=>aS (λe=>gO g<|Gb C ha hb ek el B h3 (by lia)<|.inr<|Nat.le_of_eq (by simpa using e)) λσ=>?_) λe=>?_
 .have H:t≠1:=by simpa using e
  have K:t≠0:=by simpa using σ
  exact Bl C hk ha hb sa sb ek el H0 g ⟨B,f,by lia,h3,by lia,by lia⟩ (c t (by lia)<|zap _)
 .exact Bl C hk ha hb sa sb ek el H0 g ⟨r,f,by lia,h3,by lia,by lia⟩ (c (j-1) (by lia) (by lia))
theorem JX(g:SG st st')(ρ:HJ lt a b k l q O i j):wpS (model prog w) A E s (hi3 a b O i j mg u v) (Tr st false (Mgd lt a b)<|HJ lt a b k l<|q+1) st':=by
 suffices z:∀mg,wpS (model prog w) A E s (hiA a b O i j u v mg) (Tr st false (Mgd lt a b)<|HJ lt a b k l<|q+1) st' from aS (λ_=>z _) λ_=>z _
 intro mg;obtain⟨m,r,B,h3,h4,H⟩:=ρ;obtain⟨y,P,G,Q⟩:=iB sb (by lia:j-1<b.size)
 have f:SG st (SortSt.mk' (kindOf st') (arrOf st') (pendingOf st') mg<|failedOf st'):=g;refine wpS_bind (qc<|wpS_bind<|bg P<|wpS_bind<|gal C ha sa (by lia) (by lia) Q (f.1.trans hk) λt σ K N=>?_)
 have F:=Qv C ha hb ek el m (by lia) h3 h4 σ G λn x hn h o=>C.ord.jW (N n x hn h (by rw[Nat.zero_add];exact o))
 have c:∀d,0<d->d<=t->∀x p,a.toList[d-1]?=some x->b.toList[j-1]?=some p->leK lt x p:=λd T p2 x p o D=>by
  rw[G]at D;cases D
  exact K (d-1) x (by lia) (by rw[Nat.zero_add];exact o)
 refine aS (λ_=>aS (λe=>gO f<|Gb C ha hb ek el F (by lia) h4<|.inl<|Nat.le_of_eq (by simpa using e)) λe=>?_) λe=>?_
 .have R:t≠0:=by simpa using e
  exact Bm C hk ha hb sa sb ek el H0 f ⟨F,by lia,B,by lia,h4,by lia⟩ (c t (by lia)<|zap _)
 .exact Bm C hk ha hb sa sb ek el H0 f ⟨m,r,B,h3,h4,H⟩ (c i r (by lia))
theorem JY(g:SG st st')(ρ:HJ lt a b k l q O i j):wpS (model prog w) A E s (hi2 a b mg O i j u v) (Tr st false (Mgd lt a b)<|HJ lt a b k l<|q+1) st':=by
 obtain⟨m,c,h,h3,h4,F⟩:=ρ;obtain⟨x,n,o,B⟩:=iB sa (by lia:i-1<a.size)
 obtain⟨y,p,r,D⟩:=iB sb (by lia:j-1<b.size)
 refine wpS_bind (bg p<|wpS_bind<|bg n<|wpS_bind<|qa C (g.1.trans hk) D B ?_);refine aS (λw=>?_) λw=>?_
 .have d:=Om C ha hb ek el m c (by lia) h3 h4 o r (C.ord.jW w)
  refine wpS_bind (bg n<|aS (λe=>gO g<|Gb C ha hb ek el d (by lia) h4<|.inl<|Nat.le_of_eq (by simpa using e)) λe=>?_)
  have t:i-1≠0:=by simpa using e
  exact aS (λ_=>sN g ⟨d,by lia,h,by lia,h4,by lia⟩) λ_=>sO g ⟨d,by lia,h,by lia,h4,by lia⟩
 .have f:=Qu C ha hb ek el m c (by lia) h3 h4 o r (show lt y x=false by simpa using w)
  refine wpS_bind (bg p<|aS (λe=>gO g<|JW C ha hb ek el H0 f h3 (by lia) (by simpa using e)) λe=>?_)
  have t:j-1≠1:=by simpa using e
  exact aS (λ_=>sN g ⟨f,c,by lia,h3,by lia,by lia⟩) λ_=>sO g ⟨f,c,by lia,h3,by lia,by lia⟩
theorem xC(I : 0<k)(M : 0<l)(HL:∀z,a.toList[k-1]?=some z->∀y∈b.toList,leK lt y z){Q:AK->SortSt->Prop}(h:∀O st',SG st st'->Mgd lt a b O->Q O st'):wpS (model prog w) A E s (qd a b) Q st:=by
 rw[xB ek el];obtain⟨x,G,d,K⟩:=iB sa (by lia:k-1<a.size)
 obtain⟨y,_,f,_⟩:=iB sb (by lia:l-1<b.size)
 have c:=Om C ha hb ek el (show MI (fl lt) b.reverse a.reverse #[] (l-l) (k-k)from by rw[Nat.sub_self,Nat.sub_self];exact⟨by simpa using List.Perm.refl _,by simp,λx F=>by cases F⟩) I M (zap _) (zap _) d f (HL x d y<|zaj f)
 refine wpS_bind (iA<|wpS_bind<|bg G<|aS (λe=>wpS_pure<|h _ _ (SG.refl _)<|Gb C ha hb ek el c (by lia) (zap _)<|.inl<|Nat.le_of_eq (by simpa using e)) λm=>aS (λe=>wpS_pure<|h _ _ (SG.refl _)<|JW C ha hb ek el H0 c (by lia) (zap _) (by simpa using e)) λp=>?_)
 have n:k-1≠0:=by simpa using m
 have r:l≠1:=by simpa using p
 exact Bf (SG.refl _) (HJ lt a b k l) (λ_ _ _ ⟨_,_,_,_,_,z⟩=>by lia) (λσ ⟨t,B,h3,h4,D,H⟩=>⟨t,B,h3,h4,D,by lia⟩) (λ_ _ _ _ _ _ _ _ g o=>JY C hk ha hb sa sb ek el H0 g o) (λ_ _ _ _ _ _ _ _ g o=>JX C hk ha hb sa sb ek el H0 g o) h ⟨c,by lia,by lia,by lia,by lia,by lia⟩
end
def xD(i:Nat):mergeAt' i=(do
 let s<-get
 let(some (sa,g,l),some (sb,nb,_)):=((pendingOf s)[i]?,(pendingOf s)[i+1]?)|unsupported "internal:list.sort.pending"
 set (SortSt.mk' (kindOf s) (arrOf s) (((pendingOf s).setIfInBounds i (sa,g+nb,l)).eraseIdxIfInBounds (i+1)) (gallopOf s) (failedOf s))
 let some k<-fN false (<-elem' (arrOf s) sb) (arrOf s) sa g 0|return false
 let(sa,g):=(sa+k,g-k)
 if g==0 then return true
 let some nb<-fN true (<-elem' (arrOf s) (sa+g-1)) (arrOf s) sb nb (nb-1)|return false
 if nb==0 then return true
 let x:=(arrOf s).extract sa sb
 let y:=(arrOf s).extract sb (sb+nb)
 let merged<-if g<=nb then qb x y else qd x y
 modify λs=>setArr s (merged.toList.zipIdx.foldl (λa (p,j)=>a.setIfInBounds (sa+j) p)<|arrOf s)
 return (failedOf<|<-get).isNone):=rfl
theorem xE(c:Array Keyed):∀(l:List Keyed) (c:Array Keyed) (o j:Nat),o+j+l.length<=c.size->((l.zipIdx j).foldl (λ(a:Array Keyed) (p:Keyed×Nat)=>a.setIfInBounds (o+p.2) p.1) c).toList=c.toList.take (o+j)++l++c.toList.drop (o+j+l.length)
 | [],c,o,j,_=>by simp
 |x::l,c,o,j,h=>by
  rw[zaw]at h⊢;rw[List.zipIdx_cons,List.foldl_cons,xE c l _ o (j+1) (by rw[Array.size_setIfInBounds];lia)]
  rw[Array.toList_setIfInBounds];have b:o+j<c.toList.length:=by simp;lia
  rw[show o+(j+1)=o+j+1 by lia,List.take_set,List.drop_set_of_lt (by lia)]
  rw[List.take_add_one,zaC b];rw[List.set_append_right _ _ (by simp;lia)]
  rw[show o+j-(c.toList.take<|o+j).length=0 by simp;lia]
  rw[show o+j+1+l.length=o+j+(l.length+1) by lia]
  simp
section
variable{prog:Program}{w:World}{A:Around}{E:Value->Shared->Prop}{s:Shared}{κ:SortKind}{S:Keyed->Prop}{lt:Keyed->Keyed->Bool}
theorem JZ{st st':SortSt}(h:Q ⟨⟩ st'):wpS (model prog w) A E s (set st':StateT SortSt Sem PUnit) Q st:=by
 unfold wpS;rw[StateT.run_set];exact zaZ ⟨rfl,h⟩
theorem oR{l:List Keyed}(h:x∈(l.drop i).take n):∃j,j<n/\l[i+j]?=some x:=by
 obtain⟨j,a⟩:=List.mem_iff_getElem?.mp h;rw[List.getElem?_take]at a;split at a
 .rename_i hn
  rw[List.getElem?_drop]at a;exact⟨j,hn,a⟩
 .cases a
theorem xF(C:Cmp prog w A E s κ S lt){st:SortSt}(hk:kindOf st=κ)(U:failedOf st=none)(l:pendingOf st=#[(0,n1,p1),(n1,n2,p2)])(hn1 : 0<n1)(hn2 : 0<n2)(hsz:(arrOf st).size=n1+n2)(Y:∀x∈(arrOf st).toList,S x)
  (r1:((arrOf st).toList.take n1).Pairwise<|leK lt) (r2:((arrOf st).toList.drop n1).Pairwise<|leK lt)
  (h:∀st',failedOf st'=none->pendingOf st'=#[(0,n1+n2,p1)]->(arrOf st').toList.Perm (arrOf st).toList->(arrOf st').toList.Pairwise (leK lt)->Q true st'):wpS (model prog w) A E s (mergeAt' 0) Q st:=by
 have O:=C.ord;rw[xD];refine wpS_bind (wpS_get ?_);rw[l];generalize hc:arrOf st=c at*;obtain⟨y,y1,V,y3⟩:=iB Y (by lia:n1<c.size)
 obtain⟨x,x1,P,x3⟩:=iB Y (by lia:n1-1<c.size)
 have b1:∀u v p q,u<=v->v<n1->c.toList[u]?=some p->c.toList[v]?=some q->leK lt p q:=λu v p q n b l B=>F9 O r1 n (by rw[List.getElem?_take,if_pos (by lia)];exact l) (by rw[List.getElem?_take,if_pos b];exact B)
 have K:∀u v p q,u<=v->c.toList[n1+u]?=some p->c.toList[n1+v]?=some q->leK lt p q:=λu v p q n l B=>F9 O r2 n (by rw[List.getElem?_drop];exact l) (by rw[List.getElem?_drop];exact B)
 have σ:∀z∈c.toList.drop n1,leK lt y z:=λz o=>by
  obtain⟨j,r⟩:=List.mem_iff_getElem?.mp o;rw[List.getElem?_drop]at r;exact K 0 j y z (Nat.zero_le _) V r
 have T:∀z∈c.toList.take n1,leK lt z x:=λz o=>by
  obtain⟨j,r,e⟩:=oR (i:=0) o;rw[Nat.zero_add]at e;exact b1 j (n1-1) z x (by lia) (by lia) e P
 have pe:(#[(0,n1,p1),(n1,n2,p2)].setIfInBounds 0 (0,n1+n2,p1)).eraseIdxIfInBounds (0+1)=#[(0,n1+n2,p1)]:=by
  apply Array.toList_inj.mp;simp
 have t:(∀u∈c.toList.take n1,∀v∈c.toList.drop n1,leK lt u v)->c.toList.Pairwise (leK lt):=λh3=>by
  rw[<-List.take_append_drop n1 c.toList,List.pairwise_append];exact⟨r1,r2,h3⟩
 refine wpS_bind (JZ ?_);rw[pe];refine wpS_bind (bg y1<|wpS_bind<|Ol C (λu v p q n b l B=>b1 _ _ p q (by lia) (by lia) l B) Y (by lia) hn1 y3 (by exact hk) λk hk1 t1 t2=>?_)
 have lo:∀z∈c.toList.take k,leK lt z y:=λz o=>by
  obtain⟨j,r,e⟩:=oR (i:=0) o;exact t1 j z r e
 refine aS (λe=>wpS_pure<|h _ U rfl (List.Perm.refl _)<|t λu f v b=>O.trans (lo u (by rwa[show k=n1 by simp at e;lia]))<|σ v b) λZ=>?_
 have e1':n1-k≠0:=by simpa using Z
 rw[show 0+k+(n1-k)-1=n1-1 by lia]
 refine wpS_bind (bg x1<|wpS_bind<|Ol C (λu v p q n b l B=>K _ _ p q n l B) Y (by lia) (by lia) x3 (by exact hk) λm hm1 u1 u2=>?_)
 have up:∀z∈c.toList.drop (n1+m),leK lt x z:=λz o=>by
  obtain⟨j,r⟩:=List.mem_iff_getElem?.mp o;rw[List.getElem?_drop,Nat.add_assoc]at r;have:=(zac r).1;exact u2 (m+j) z (by lia) (by simp at this;lia) r
 refine aS (λe=>wpS_pure<|h _ U rfl (List.Perm.refl _)<|t λu f v b=>O.trans (T u f)<|up v (by rwa[show n1+m=n1 by simp at e;lia])) λe2=>?_
 have e2':m≠0:=by simpa using e2
 have ex:(c.extract (0+k) n1).toList=(c.toList.take n1).drop k:=by
  rw[Nat.zero_add,Array.toList_extract,List.extract_eq_drop_take,List.drop_take]
 have D:(c.extract n1<|n1+m).toList=(c.toList.drop n1).take m:=by
  rw[Array.toList_extract,List.extract_eq_drop_take,Nat.add_sub_cancel_left]
 have ρ:(c.extract (0+k) n1).size=n1-k:=by rw[Array.size_extract];lia
 have N:(c.extract n1<|n1+m).size=m:=by rw[Array.size_extract];lia
 have H0:∀z,(c.extract n1<|n1+m).toList[0]?=some z->∀v∈(c.extract (0+k) n1).toList,leK lt z v:=λz o v b=>by
  rw[D,List.getElem?_take,if_pos (by lia),List.getElem?_drop,show n1+0=n1 from rfl,V]at o
  cases o;rw[ex,List.drop_take]at b;obtain⟨j,r,e⟩:=oR b;exact O.jW (t2 (k+j) v (by lia) (by lia) (by rw[Nat.zero_add];exact e))
 have HL:∀z,(c.extract (0+k) n1).toList[n1-k-1]?=some z->∀v∈(c.extract n1<|n1+m).toList,leK lt v z:=λz o v b=>by
  rw[ex,List.getElem?_drop,List.getElem?_take,if_pos (by lia),show k+(n1-k-1)=n1-1 by lia,P]at o
  cases o;rw[D]at b;obtain⟨j,r,e⟩:=oR b;exact u1 j v r e
 have F:∀mg d,SG (SortSt.mk' (kindOf st) c #[(0,n1+n2,p1)] (gallopOf st) (failedOf st)) d->Mgd lt (c.extract (0+k) n1) (c.extract n1<|n1+m) mg->wpS (model prog w) A E s (do
   modify λs=>setArr s (mg.toList.zipIdx.foldl (λa (p,j)=>a.setIfInBounds (0+k+j) p)<|arrOf s)
   return (failedOf<|<-get).isNone) Q d:=λmg d g M=>by
  have mp:=M.perm;rw[ex,D]at mp;have ml:mg.toList.length=(n1-k)+m:=by rw[mp.length_eq,zau,List.length_drop,List.length_take,List.length_take,List.length_drop,Array.length_toList];lia
  refine wpS_bind (wpS_modify<|wpS_bind<|wpS_get ?_);have fs:=xE c mg.toList c (0+k) 0 (by lia)
  rw[Nat.add_zero,ml,show 0+k+(n1-k+m)=n1+m by lia,Nat.zero_add]at fs
  have G:(List.foldl (λ(a:Array Keyed) (x:Keyed×Nat)=>a.setIfInBounds (0+k+x.2) x.1) (arrOf d) mg.toList.zipIdx).toList=c.toList.take k++mg.toList++c.toList.drop (n1+m):=by rw[show arrOf d=c from g.2.1,Nat.zero_add];exact fs
  have gf:=g.2.2.2.trans U;have key:=gf;rw[key];have tk:c.toList.take k++(c.toList.take n1).drop k=c.toList.take n1:=by
   have:=List.take_append_drop k (c.toList.take n1)
   rwa[List.take_take,Nat.min_eq_left (by lia)]at this
  have H:(c.toList.drop n1).take m++c.toList.drop (n1+m)=c.toList.drop n1:=by
   have:=List.take_append_drop m (c.toList.drop n1)
   rwa[List.drop_drop]at this
  refine wpS_pure (h _ gf g.2.2.1 ?_ ?_)
  .show(List.foldl (λ(a:Array Keyed) (x:Keyed×Nat)=>a.setIfInBounds (0+k+x.2) x.1) (arrOf d) mg.toList.zipIdx).toList.Perm c.toList
   rw[G];refine(List.Perm.append_right _<|List.Perm.append_left _ mp).trans (List.Perm.of_eq ?_);rw[<-zaD,tk,zaD,H,List.take_append_drop]
  .show(List.foldl (λ(a:Array Keyed) (x:Keyed×Nat)=>a.setIfInBounds (0+k+x.2) x.1) (arrOf d) mg.toList.zipIdx).toList.Pairwise (leK lt)
   rw[<-tk,List.pairwise_append]at r1;rw[<-H,List.pairwise_append]at r2;have iD:∀v∈(c.toList.drop n1).take m,v∈c.toList.drop n1:=λv b=>List.mem_of_mem_take b
   have iE:∀v∈c.toList.drop (n1+m),v∈c.toList.drop n1:=λv b=>by rw[<-H];exact zan _ b
   rw[G,zaD,List.pairwise_append,List.pairwise_append];refine⟨r1.1,⟨M.srt,r2.2.1,λu f v b=>?_⟩,λu f v b=>?_⟩
   .rcases zae (mp.mem_iff.mp f)with q|q
    .exact O.trans (T u<|List.mem_of_mem_drop q) (up v b)
    .exact r2.2.2 u q v b
   .rcases zae b with b|b
    .rcases zae (mp.mem_iff.mp b)with q|q
     .exact r1.2.2 u f v q
     .exact O.trans (lo u f) (σ v<|iD v q)
    .exact O.trans (lo u f) (σ v<|iE v b)
 have xs:(c.extract (0+k) n1).toList.Pairwise (leK lt):=by rw[ex];exact r1.sublist (List.drop_sublist _ _)
 have X:(c.extract n1<|n1+m).toList.Pairwise (leK lt):=by rw[D];exact r2.sublist (List.take_sublist _ _)
 have R:∀u∈(c.extract (0+k) n1).toList,S u:=λu f=>Y u (by rw[ex]at f;exact List.mem_of_mem_take (List.mem_of_mem_drop f))
 have W:∀u∈(c.extract n1<|n1+m).toList,S u:=λu f=>Y u (by rw[D]at f;exact List.mem_of_mem_drop (List.mem_of_mem_take f))
 exact aS (λ_=>wpS_bind<|xA C (by exact hk) xs X R W ρ N HL (by lia) (by lia) H0 F) λ_=>wpS_bind (xC C (by exact hk) xs X R W ρ N H0 (by lia) (by lia) HL F)
end
def itA(xs:Array Keyed)(i:Nat):Keyed:=(xs[i]?).getD (Value.none,Value.none)
structure Bs(st0 st:SortSt)(lo:Nat):Prop where
 kd:kindOf st=kindOf st0
 pd:pendingOf st=pendingOf st0
 fd:failedOf st=failedOf st0
 pm:(arrOf st).Perm (arrOf st0)
 ft:∀i,i<lo->(arrOf st)[i]?=(arrOf st0)[i]?
theorem Bs.refl(st:SortSt)(lo:Nat):Bs st st lo:=⟨rfl,rfl,rfl,Array.Perm.refl _,λ_ _=>rfl⟩
theorem Bs.size{st0 st:SortSt}{lo:Nat}(h:Bs st0 st lo):(arrOf st).size=(arrOf st0).size:=h.pm.size_eq
def Bs.set{st0 st:SortSt}{lo:Nat}(h:Bs st0 st lo)(l:xs.Perm<|arrOf st)(g:∀i,i<lo->xs[i]?=(arrOf st)[i]?):Bs st0 (setArr st xs) lo:=⟨h.kd,h.pd,h.fd,l.trans h.pm,λi hi=>(g i hi).trans<|h.ft i hi⟩
def iC(lt:Keyed->Keyed->Bool)(xs:Array Keyed)(lo n:Nat):Prop:=∀i j,i<=j->j<n->leK lt (itA xs<|lo+i) (itA xs<|lo+j)
def qe(lt:Keyed->Keyed->Bool)(xs:Array Keyed)(lo n:Nat):Prop:=∀i j,i<=j->j<n->leK lt (itA xs<|lo+j) (itA xs<|lo+i)
section
variable{prog:Program}{w:World}{A:Around}{E:Value->Shared->Prop}{s:Shared}{κ:SortKind}{S:Keyed->Prop}{lt:Keyed->Keyed->Bool}
theorem Bs.get{st0 st:SortSt}{lo:Nat}(h:Bs st0 st lo)(g:∀x∈(arrOf st0).toList,S x)(hi:i<(arrOf st0).size):(arrOf st)[i]?=some (itA (arrOf st) i)/\S (itA (arrOf st) i):=by
 have a:i<(arrOf st).size:=by rw[h.size];exact hi
 have e:=Array.getElem?_eq_getElem a;unfold itA;rw[e,Option.getD_some];refine⟨rfl,g _ ?_⟩;have:=Array.perm_iff_toList_perm.mp h.pm;exact this.mem_iff.mp (by simp)
theorem qf(C:Cmp prog w A E s κ S lt){st0 st:SortSt}{lo:Nat}(hk:kindOf st0=κ)(g:∀x∈(arrOf st0).toList,S x)(h:Bs st0 st lo)(hi:i<(arrOf st0).size)(l:j<(arrOf st0).size){Q:Option Bool->SortSt->Prop}(q:Q (some<|lt (itA (arrOf st) i)<|itA (arrOf st) j) st):wpS (model prog w) A E s (ltAt' i j) Q st:=by
 refine wpS_bind (wpS_get ?_);obtain⟨a,s1⟩:=h.get g hi;obtain⟨b,s2⟩:=h.get g l;exact wpS_bind (bg a<|wpS_bind<|bg b<|qa C (h.kd.trans hk) s1 s2 q)
theorem xG(C:Cmp prog w A E s κ S lt){st0 st:SortSt}{lo n ok:Nat}(hk:kindOf st0=κ)(M:∀x∈(arrOf st0).toList,S x)(hn:lo+n<=(arrOf st0).size)(U : 1<=ok)(hok:ok<=n)(g:Bs st0 st lo)(hs:iC lt (arrOf st) lo ok)
  (h:∀st',Bs st0 st' lo->iC lt (arrOf st') lo n->Q true st'):wpS (model prog w) A E s (binarySort' lo n ok) Q st:=by
 have O:=C.ord;rw[binarySort'_eq];refine wpS_bind (wpS_mono (wpS_forRange (λk c st'=>c=(none,())/\Bs st0 st' lo/\iC lt (arrOf st') lo (min k n)) (Q:=λc st'=>c=(none,())/\Bs st0 st' lo/\iC lt (arrOf st') lo n) ?_ ?_ ?_) ?_)
 rotate_left 2
 .refine⟨rfl,g,?_⟩
  rw[show min (max ok 1) n=ok by lia];exact hs
 .rintro c st' ⟨rfl,o,f⟩
  exact wpS_pure (h st' o f)
 rotate_left 1
 .rintro c st' ⟨rfl,o,f⟩
  rw[show min (max (max ok 1) n) n=n by lia]at f
  exact⟨rfl,o,f⟩
 rintro k c a W X ⟨rfl,p,b⟩
 rw[show min k n=k by lia]at b
 dsimp only;have Z:=p.size;refine wpS_bind (wpS_mono (wpS_forRange (λi c st'=>st'=a/\c.1=none/\c.2.1<=c.2.2/\c.2.2<=k/\c.2.2-c.2.1<=k-i/\(∀i,i<c.2.1->leK lt (itA (arrOf a)<|lo+i) (itA (arrOf a)<|lo+k))/\(∀i,c.2.2<=i->i<k->leK lt (itA (arrOf a)<|lo+k) (itA (arrOf a)<|lo+i))) (Q:=λc st'=>st'=a/\c.1=none/\c.2.1<=k/\(∀i,i<c.2.1->leK lt (itA (arrOf a)<|lo+i) (itA (arrOf a)<|lo+k))/\(∀i,c.2.1<=i->i<k->leK lt (itA (arrOf a)<|lo+k) (itA (arrOf a)<|lo+i))) ?_ ?_ ?_) ?_)
 rotate_left 2
 .exact⟨rfl,rfl,Nat.zero_le _,zap _,by show k-0<=k-0;lia,λi hi=>absurd hi<|Nat.not_lt_zero _,λi hi hi2=>absurd hi (by show¬k<=i;lia)⟩
 .rintro⟨r,l,u⟩ st' ⟨rfl,er,g1,d,m⟩
  dsimp only at er g1 d m;subst er;rw[moveDown'_eq];refine wpS_bind (wpS_modify ?_);have hd:lo+k-(lo+l)=k-l:=by lia
  have y:=λi=>getElem?_bubble (xs:=arrOf st') (src:=lo+k) (by lia) (k-l) (by lia) i
  have H:lo+k-(k-l)=lo+l:=by lia
  refine wpS_pure ⟨rfl,p.set (bubble_perm _ _ _) λi hi=>?_,?_⟩
  .rw[hd,y i,H,if_neg (by lia),if_neg (by lia)]
  .rw[show min (k+1) n=k+1 by lia]
   intro i j D K;have v:∀i,i<=k->itA (bubble (arrOf st') (lo+k)<|lo+k-(lo+l)) (lo+i)=if i=l then itA (arrOf st') (lo+k)else if l<i then itA (arrOf st') (lo+(i-1))else itA (arrOf st') (lo+i):=λi hi=>by
    unfold itA;rw[hd,y<|lo+i,H]
    by_cases R:i=l
    .rw[if_pos (by lia),if_pos R]
    .rw[if_neg (by lia),if_neg R]
     by_cases T:l<i
     .rw[if_pos (by lia),if_pos T,show lo+i-1=lo+(i-1) by lia]
     .rw[if_neg (by lia),if_neg T]
   rw[v i (by lia),v j (by lia)]
   by_cases ρ:i=l
   .rw[if_pos ρ]
    by_cases B:j=l
    .rw[if_pos B];exact O.le_refl _
    .rw[if_neg B,if_pos (by lia)];exact m (j-1) (by lia) (by lia)
   .rw[if_neg ρ]
    by_cases N:l<i
    .rw[if_pos N,if_neg (by lia),if_pos (by lia)];exact b (i-1) (j-1) (by lia) (by lia)
    .rw[if_neg N]
     by_cases B:j=l
     .rw[if_pos B];exact d i (by lia)
     .rw[if_neg B]
      by_cases P:l<j
      .rw[if_pos P];exact b i (j-1) (by lia) (by lia)
      .rw[if_neg P];exact b i j D (by lia)
 rotate_left 1
 .rintro⟨r,l,u⟩ st' ⟨rfl,er,g1,d,m,q,t⟩
  dsimp only at er g1 d m q t;have:l=u:=by simp at m;lia
  subst this;exact⟨rfl,er,d,q,t⟩
 rintro i ⟨r,l,u⟩ st' _ hi ⟨rfl,er,g1,d,m,q,t⟩
 dsimp only at er g1 d m q t⊢
 by_cases e:l>=u
 .rw[if_pos e]
  have:l=u:=by lia
  subst this;exact wpS_pure ⟨rfl,rfl,d,q,t⟩
 .rw[if_neg e]
  refine wpS_bind (qf C hk M p (by lia) (by lia) ?_)
  cases σ:lt (itA (arrOf st')<|lo+k) (itA (arrOf st')<|lo+(l+u)/2)with
  |true=>
   exact wpS_pure ⟨rfl,rfl,by show l<=(l+u)/2;lia,by show(l+u)/2<=k;lia,by show(l+u)/2-l<=k-(i+1);lia,q,λj F G=>O.trans (O.jW σ)<|b ((l+u)/2) j F G⟩
  |false=>
   exact wpS_pure ⟨rfl,rfl,by show(l+u)/2+1<=u;lia,d,by show u-((l+u)/2+1)<=k-(i+1);lia,λj K=>O.trans (b j ((l+u)/2) (by have V:j<(l+u)/2+1:=K;lia) (by lia)) σ,t⟩
theorem dZ(g:j<=xs.size)(k:Nat):itA (mirror xs i j<|(j-i)/2) k=if i<=k/\k<j then itA xs (i+j-1-k)else itA xs k:=by
 unfold itA;rw[getElem?_mirror_all g k];split<;>rfl
theorem Bs.mirror{st0 st:SortSt}{lo:Nat}(h:Bs st0 st lo)(hi:lo<=i)(g:j<=(arrOf st).size):Bs st0 (setArr st<|mirror (arrOf st) i j<|(j-i)/2) lo:=h.set (mirror_perm _ _ _ _) λk hk=>by
 rw[getElem?_mirror_all g k,if_neg (by lia)]
theorem uQ(C:Cmp prog w A E s κ S lt){st0 st:SortSt}{lo g a:Nat}(hk:kindOf st0=κ)(hS:∀x∈(arrOf st0).toList,S x)(hn:lo+g<=(arrOf st0).size)(ha : 1<=a)(U:a<=g)(Y:Bs st0 st lo)(hs:iC lt (arrOf st) lo a)
  (h:∀n,a<=n->n<=g->iC lt (arrOf st) lo n->(n=g\/lt (itA (arrOf st)<|lo+n) (itA (arrOf st)<|lo+n-1)=true)->Q (none,n) st):wpS (model prog w) A E s (forIn [a:g] ((none,a):Option (Option Nat)×Nat) λ_ l=>do
    let M<-ltAt' (lo+l.snd) (lo+l.snd-1)
    match M with
    |some I=>if I=true then pure (ForInStep.done (none,l.snd))else pure (ForInStep.yield (none,l.snd+1))
    |_=>pure<|ForInStep.done (some none,l.snd)) Q st:=by
 have O:=C.ord;refine wpS_forRange (λx c st'=>st'=st/\c=(none,x)/\iC lt (arrOf st) lo x) ?_ ?_ ⟨rfl,rfl,hs⟩
 .rintro x c st' d q ⟨rfl,rfl,b⟩
  refine wpS_bind (qf C hk hS Y (by lia) (by lia) ?_)
  cases o:lt (itA (arrOf st')<|lo+x) (itA (arrOf st')<|lo+x-1)with
  |true=>
   exact wpS_pure (h x d (by lia) b<|.inr o)
  |false=>
   refine wpS_pure ⟨rfl,rfl,λi j f r=>?_⟩
   by_cases m:j<x
   .exact b i j f m
   .have k:j=x:=by lia
    subst k
    by_cases e:i=j
    .subst e;exact O.le_refl _
    .have p:leK lt (itA (arrOf st')<|lo+(j-1)) (itA (arrOf st')<|lo+j):=by
      rw[show lo+(j-1)=lo+j-1 by lia];exact o
     exact O.trans (b i (j-1) (by lia) (by lia)) p
 .rintro c st' ⟨rfl,rfl,b⟩
  rw[show max a g=g by lia]at b⊢
  exact h g U (zap _) b (.inl rfl)
theorem J0(O:Ord lt){lo n:Nat}(hn:lo+n<=xs.size)(h:qe lt xs lo n):iC lt (mirror xs lo (lo+n)<|(lo+n-lo)/2) lo n:=λi j a b=>by
 rw[dZ hn,dZ hn,if_pos (by lia),if_pos (by lia)]
 rw[show lo+(lo+n)-1-(lo+i)=lo+(n-1-i) by lia,show lo+(lo+n)-1-(lo+j)=lo+(n-1-j) by lia]
 exact h (n-1-j) (n-1-i) (by lia) (by lia)
def Alk(lt:Keyed->Keyed->Bool)(xs:Array Keyed)(lo u v:Nat):Prop:=∀i j,u<=i->i<v->u<=j->j<v->leK lt (itA xs<|lo+i) (itA xs<|lo+j)
theorem sP(O:Ord lt){lo u v n:Nat}(l:u<v)(I:v<=n)(hn:lo+n<=xs.size)(g:Alk lt xs lo u v)(h:qe lt xs lo n):qe lt (mirror xs (lo+u) (lo+v)<|(lo+v-(lo+u))/2) lo n:=λi j d q=>by
 have e:∀k,u<=k->k<v->∃m,u<=m/\m<v/\itA (mirror xs (lo+u) (lo+v)<|(lo+v-(lo+u))/2) (lo+k)=itA xs (lo+m):=λk y B=>⟨u+v-1-k,by lia,by lia,by
  rw[dZ (by lia),if_pos (by lia),show lo+u+(lo+v)-1-(lo+k)=lo+(u+v-1-k) by lia]⟩
 have b:∀k,¬(u<=k/\k<v)->itA (mirror xs (lo+u) (lo+v)<|(lo+v-(lo+u))/2) (lo+k)=itA xs (lo+k):=λk hk=>by
  rw[dZ (by lia),if_neg (by lia)]
 by_cases hi:u<=i/\i<v
 .obtain⟨r,t,x,o⟩:=e i hi.1 hi.2
  by_cases a:u<=j/\j<v
  .obtain⟨f,b1,p,c⟩:=e j a.1 a.2
   rw[o,c];exact g f r b1 p t x
  .rw[o,b j a];exact h r j (by lia) q
 .by_cases a:u<=j/\j<v
  .obtain⟨f,b1,p,c⟩:=e j a.1 a.2
   rw[b i hi,c];exact h i f (by lia) (by lia)
  .rw[b i hi,b j a];exact h i j d q
end
def Ro(lo M O:Nat):StateT SortSt Sem (Option Nat):=do
 let mut n:=O
 rule "list.sort.descending-run"
 n:=n+1
 let mut h:=0
 for _ in [n:M] do
  let some e<-ltAt' (lo+n) (lo+n-1)|return none
  if e then
   if h>0 then reverseSlice' (lo+n-(h+1)) (lo+n)
   h:=0
  else
   let some j<-ltAt' (lo+n-1) (lo+n)|return none
   if j then break
   h:=h+1
  n:=n+1
 if h>0 then reverseSlice' (lo+n-(h+1)) (lo+n)
 reverseSlice' lo (lo+n)
 for _ in [n:M] do
  let some e<-ltAt' (lo+n) (lo+n-1)|return none
  if e then break
  n:=n+1
 return some n
section
variable{prog:Program}{w:World}{A:Around}{E:Value->Shared->Prop}{s:Shared}{κ:SortKind}{S:Keyed->Prop}{lt:Keyed->Keyed->Bool}
theorem oS{st:SortSt}(h:Q ()<|setArr st<|mirror (arrOf st) i j<|(j-i)/2):wpS (model prog w) A E s (reverseSlice' i j) Q st:=by
 rw[reverseSlice'_eq];exact wpS_modify h
theorem xH(C:Cmp prog w A E s κ S lt){st0 l:SortSt}{lo g n:Nat}(hk:kindOf st0=κ)(I:∀x∈(arrOf st0).toList,S x)(hn:lo+g<=(arrOf st0).size)(hn1 : 1<=n)(hn2:n<g)(M:Bs st0 l lo)(U:qe lt (arrOf l) lo<|n+1)
  (h:∀m st',Bs st0 st' lo->1<=m->m<=g->iC lt (arrOf st') lo m->Q (some m) st'):wpS (model prog w) A E s (Ro lo g n) Q l:=by
 have O:=C.ord;refine wpS_bind (iA ?_);refine wpS_bind (wpS_mono (wpS_forRange (λx c st'=>∃a,c=(none,x,a)/\Bs st0 st' lo/\qe lt (arrOf st') lo x/\a+1<=x/\Alk lt (arrOf st') lo (x-(a+1)) x) (Q:=λc st'=>∃m a,c=(none,m,a)/\n+1<=m/\m<=g/\Bs st0 st' lo/\qe lt (arrOf st') lo m/\a+1<=m/\Alk lt (arrOf st') lo (m-(a+1)) m) ?_ ?_ ?_) ?_)
 rotate_left 2
 .exact⟨0,rfl,M,U,by lia,λi j G t u N=>by rw[show i=j by lia];exact O.le_refl _⟩
 .rintro c k ⟨m,a,rfl,hm1,K,b,f,p,d⟩
  dsimp only;have ρ:=b.size;have H:∀r:SortSt,Bs st0 r lo->qe lt (arrOf r) lo m->wpS (model prog w) A E s (reverseSlice' lo<|lo+m) (λ_ o=>Bs st0 o lo/\iC lt (arrOf o) lo m) r:=λr σ R=>by
   have RG:=σ.size;exact oS ⟨σ.mirror (zap _) (by lia),J0 O (by lia) R⟩
  by_cases q:a>0
  .rw[if_pos q]
   have e:lo+m-(a+1)=lo+(m-(a+1)):=by lia
   rw[e];refine wpS_bind (oS ?_);refine wpS_bind (wpS_mono (H _ (b.mirror (by lia) (by lia))<|sP O (by lia) (zap _) (by lia) d f) λ_ o v=>?_)
   exact wpS_bind (uQ C hk I hn (by lia) K v.1 v.2 λW G t u _=>wpS_pure<|h W o v.1 (by lia) t u)
  .rw[if_neg q]
   refine wpS_bind (wpS_mono (H _ b f) λ_ o v=>?_)
   exact wpS_bind (uQ C hk I hn (by lia) K v.1 v.2 λW G t u _=>wpS_pure<|h W o v.1 (by lia) t u)
 rotate_left 1
 .rintro c k ⟨a,rfl,b,f,p,d⟩
  rw[show max (n+1) g=g by lia]at f p d⊢
  exact⟨g,a,rfl,by lia,zap _,b,f,p,d⟩
 rintro x c k T hx2 ⟨a,rfl,b,f,p,d⟩
 dsimp only;have ρ:=b.size;refine wpS_bind (qf C hk I b (by lia) (by lia) ?_)
 have ex:lo+x-1=lo+(x-1):=by lia
 rw[ex];cases P:lt (itA (arrOf k)<|lo+x) (itA (arrOf k)<|lo+(x-1))with
 |true=>
  have grow:∀xs:Array Keyed,qe lt xs lo x->leK lt (itA xs<|lo+x) (itA xs<|lo+(x-1))->qe lt xs lo (x+1):=λxs hd Y i j B Z=>by
   by_cases F:j<x
   .exact hd i j B F
   .have D:j=x:=by lia
    subst D
    by_cases y:i=j
    .subst y;exact O.le_refl _
    .exact O.trans Y (hd i (j-1) (by lia) (by lia))
  by_cases q:a>0
  .rw[if_pos q]
   have e:lo+x-(a+1)=lo+(x-(a+1)):=by lia
   rw[e];refine wpS_bind (oS ?_);refine wpS_pure ⟨0,rfl,b.mirror (by lia) (by lia),grow _ (sP O (by lia) (zap _) (by lia) d f) ?_,by lia,λi j G t u N=>by rw[show i=j by lia];exact O.le_refl _⟩
   rw[dZ (by lia),dZ (by lia),if_neg (by lia),if_pos (by lia),show lo+(x-(a+1))+(lo+x)-1-(lo+(x-1))=lo+(x-(a+1)) by lia]
   exact O.trans (O.jW P) (d (x-1) (x-(a+1)) (by lia) (by lia) (by lia) (by lia))
  .rw[if_neg q]
   exact wpS_pure ⟨0,rfl,b,grow _ f<|O.jW P,by lia,λi j G t u N=>by rw[show i=j by lia];exact O.le_refl _⟩
 |false=>
  refine wpS_bind (qf C hk I b (by lia) (by lia) ?_)
  cases X:lt (itA (arrOf k)<|lo+(x-1)) (itA (arrOf k)<|lo+x)with
  |true=>
   exact wpS_pure ⟨x,a,rfl,T,by lia,b,f,p,d⟩
  |false=>
   have up:=P;have dn:=X;refine wpS_pure ⟨a+1,rfl,b,λi j B Z=>?_,by lia,λi j G t u N=>?_⟩
   .by_cases F:j<x
    .exact f i j B F
    .have D:j=x:=by lia
     subst D
     by_cases y:i=j
     .subst y;exact O.le_refl _
     .exact O.trans dn (f i (j-1) (by lia) (by lia))
   .by_cases ix:i=x
    .rw[ix]
     by_cases V:j=x
     .rw[V];exact O.le_refl _
     .exact O.trans dn (d (x-1) j (by lia) (by lia) (by lia) (by lia))
    .by_cases V:j=x
     .rw[V];exact O.trans (d i (x-1) (by lia) (by lia) (by lia) (by lia)) up
     .exact d i j (by lia) (by lia) (by lia) (by lia)
theorem sQ(C:Cmp prog w A E s κ S lt){st0 st:SortSt}{lo g:Nat}(hk:kindOf st0=κ)(M:∀x∈(arrOf st0).toList,S x)(hn:lo+g<=(arrOf st0).size)(U : 1<=g)(l:Bs st0 st lo)
  (h:∀m st',Bs st0 st' lo->1<=m->m<=g->iC lt (arrOf st') lo m->Q (some m) st'):wpS (model prog w) A E s (countRun' lo g) Q st:=by
 have O:=C.ord;have σ:iC lt (arrOf st) lo 1:=λi j r v=>by
  rw[show i=j by lia];exact O.le_refl _
 refine wpS_bind (uQ C hk M hn (zap 1) U l σ λn c u d G=>?_)
 dsimp only
 by_cases p:n=g
 .rw[if_pos (by simpa using p)]
  exact wpS_pure (h n st l c u d)
 .rw[if_neg (by simpa using p)]
  have o:=G.resolve_left p;have R:=l.size;have start:n>1->lt (itA (arrOf st) lo) (itA (arrOf st)<|lo+n-1)=false->∃a,a=setArr st (mirror (arrOf st) lo (lo+n)<|(lo+n-lo)/2)/\Bs st0 a lo/\qe lt (arrOf a) lo (n+1):=λb y=>by
   have N:lo+n-1=lo+(n-1):=by lia
   rw[N]at y o;have al:∀i j,i<n->j<n->leK lt (itA (arrOf st)<|lo+i) (itA (arrOf st)<|lo+j):=λi j hi v=>by
    have K:=d i (n-1) (by lia) (by lia)
    have ρ:=y;exact O.trans (O.trans K ρ) (d 0 j (by lia) v)
   refine⟨_,rfl,l.mirror (zap _) (by lia),λi j r v=>?_⟩
   rw[dZ (by lia),dZ (by lia)]
   by_cases P:j<n
   .rw[if_pos (by lia),if_pos (by lia),show lo+(lo+n)-1-(lo+j)=lo+(n-1-j) by lia,show lo+(lo+n)-1-(lo+i)=lo+(n-1-i) by lia]
    exact al _ _ (by lia) (by lia)
   .have D:j=n:=by lia
    subst D;rw[if_neg (by lia)]
    by_cases t:i=j
    .subst t;rw[if_neg (by lia)];exact O.le_refl _
    .rw[if_pos (by lia),show lo+(lo+j)-1-(lo+i)=lo+(j-1-i) by lia]
     exact O.trans (O.jW o) (al _ _ (by lia) (by lia))
  have H : ¬n>1->∃a,a=st/\Bs st0 a lo/\qe lt (arrOf a) lo (n+1):=λb=>by
   have e:n=1:=by lia
   subst e;refine⟨st,rfl,l,λi j r v=>?_⟩
   by_cases q:i=j
   .subst q;exact O.le_refl _
   .have hi:i=0:=by lia
    have F:j=1:=by lia
    subst hi F;exact O.jW o
  refine aS (λb=>?_) λb=>?_
  .refine wpS_bind (qf C hk M l (by lia) (by lia) ?_)
   refine aS (λ_=>wpS_pure<|h n st l c u d) λy=>?_
   obtain⟨a,B,f,k⟩:=start b (by simpa using y)
   refine wpS_bind (oS ?_);rw[<-B];exact xH C hk M hn c (by lia) f k h
  .obtain⟨a,B,f,k⟩:=H b
   rw[<-B];exact xH C hk M hn c (by lia) f k h
theorem Bn(h:i<xs.size):itA xs i=xs[i]:=by unfold itA;rw[Array.getElem?_eq_getElem h];rfl
theorem xI(hn:n<=xs.size)(h:iC lt xs 0 n):(xs.toList.take n).Pairwise (leK lt):=by
 rw[List.pairwise_iff_getElem];intro i j hi c b;have a:j<n:=by simp at c;lia
 have:=h i j (by lia) a
 rw[Nat.zero_add,Nat.zero_add,Bn (by lia),Bn (by lia)]at this
 simpa using this
theorem Gd(hn:n+m=xs.size)(h:iC lt xs n m):(xs.toList.drop n).Pairwise (leK lt):=by
 rw[List.pairwise_iff_getElem];intro i j hi c b;have a:j<m:=by simp at c;lia
 have:=h i j (by lia) a
 rw[Bn (by lia),Bn (by lia)]at this
 simpa using this
theorem zM:∀n:Nat,n<128->2<=n->n<=2*minRun' n n 0/\1<=minRun' n n 0:=by decide+kernel
theorem CW(g : 2<=n)(l:n<=127):n<=2*minRun' n n 0/\1<=minRun' n n 0:=zM n (by lia) g
structure RA(st st':SortSt):Prop where
 kd:kindOf st'=kindOf st
 fd:failedOf st'=none
 pm:(arrOf st').Perm (arrOf st)
def D9(lt:Keyed->Keyed->Bool)(st:SortSt)(n:Nat)(c:Option Unit×Nat)(st':SortSt):Prop:=c=(none,n)/\RA st st'/\((pendingOf st'=#[(0,n,0)]/\iC lt (arrOf st') 0 n)\/∃n1 n2 pw,0<n1/\0<n2/\n1+n2=n/\pendingOf st'=#[(0,n1,pw),(n1,n2,0)]/\iC lt (arrOf st') 0 n1/\iC lt (arrOf st') n1 n2)
def I9(lt:Keyed->Keyed->Bool)(st:SortSt)(n M x:Nat)(c:Option Unit×Nat)(st':SortSt):Prop:=(x=0/\c=(none,0)/\st'=st)\/(x=1/\∃n1,c=(none,n1)/\1<=n1/\n1<n/\n<=n1+M/\RA st st'/\pendingOf st'=#[(0,n1,0)]/\iC lt (arrOf st') 0 n1)\/D9 lt st n c st'
theorem xJ(C:Cmp prog w A E s κ S lt){st:SortSt}(hk:kindOf st=κ)(hp:pendingOf st=#[])(hf:failedOf st=none)(O:∀x∈(arrOf st).toList,S x)(h2 : 2<=(arrOf st).size)(M:(arrOf st).size<=127)
  (h:∀st',failedOf st'=none->(arrOf st').Perm (arrOf st)->(arrOf st').toList.Pairwise (leK lt)->Q () st'):wpS (model prog w) A E s sortRuns' Q st:=by
 rw[sortRuns'_eq];refine wpS_bind (wpS_get ?_);dsimp only;obtain⟨hm2,hm1⟩:=CW h2 M;generalize hn:(arrOf st).size=n at*;generalize minRun' n n 0=K at hm1 hm2⊢;have sub:∀{st':SortSt},(arrOf st').Perm (arrOf st)->∀x∈(arrOf st').toList,S x:=fun{st'} p x W=>O x ((Array.perm_iff_toList_perm.mp p).mem_iff.mp W)
 refine wpS_bind (wpS_mono (wpS_forRange (I:=λx c st'=>I9 lt st n K x c st') (Q:=λc st'=>D9 lt st n c st') ?step ?fin (.inl ⟨rfl,rfl,rfl⟩)) ?post)
 case fin=>
  rintro c st' (⟨W,_,_⟩|⟨W,_⟩|hD)
  .lia
  .lia
  .exact hD
 case step=>
  rintro x c st' _ W (⟨rfl,rfl,rfl⟩|⟨rfl,n1,rfl,T,RH,RI,R,t,G⟩|D)
  .dsimp only
   rw[if_neg (by lia)]
   have first:∀(b:SortSt) (m:Nat),Bs st' b 0->1<=m->m<=n->(m=n\/K<=m)->iC lt (arrOf b) 0 m->I9 lt st' n K (0+1) (none,0+m) (setPending b<|(pendingOf b).push (0,m,0)):=λb m B a1 a2 a3 a4=>by
    have V:(pendingOf b).push (0,m,0)=#[(0,m,0)]:=by rw[B.pd,hp];rfl
    have R:RA st' (setPending b<|(pendingOf b).push (0,m,0)):=⟨B.kd,B.fd.trans hf,B.pm⟩
    by_cases e:m=n
    .subst e;exact .inr (.inr ⟨by rw[Nat.zero_add],R,.inl ⟨V,a4⟩⟩)
    .exact .inr (.inl ⟨rfl,m,by rw[Nat.zero_add],a1,by lia,by lia,R,V,a4⟩)
   refine wpS_bind (sQ C hk O (by lia) (by lia) (Bs.refl st' 0) λm F f l P o=>?_)
   dsimp only;have hb:∀b:SortSt,Bs st' b 0->(pendingOf b).back?=none:=λb B=>by rw[B.pd,hp];rfl
   by_cases q:m<K
   .rw[if_pos q]
    refine wpS_bind (iA ?_);refine wpS_bind (xG C hk O (by lia) l (by lia) f o λb d v=>?_)
    refine wpS_bind (wpS_get ?_);rw[hb b d];exact wpS_bind (wpS_modify<|wpS_pure<|first b (min (n-0) K) d (by lia) (by lia) (by lia) v)
   .rw[if_neg q]
    refine wpS_bind (wpS_get ?_);rw[hb F f];exact wpS_bind (wpS_modify<|wpS_pure<|first F m f l (by lia) (.inr (by lia)) o)
  .dsimp only
   rw[if_neg (by lia)]
   have hsz:(arrOf st').size=n:=by rw[R.pm.size_eq,hn]
   refine wpS_bind (sQ C (R.kd.trans hk) (sub R.pm) (by lia) (by lia) (Bs.refl st' n1) λm F f l P o=>?_)
   dsimp only
   by_cases q:m<K
   case' pos=>
    rw[if_pos q];refine wpS_bind (iA ?_);refine wpS_bind (xG C (R.kd.trans hk) (sub R.pm) (by lia) l (by lia) f o λb d v=>?_)
    rw[show min (n-n1) K=n-n1 by lia]at v⊢
   case' neg=>
    rw[if_neg q];have em:m=n-n1:=by lia
    subst em;generalize F=b at f o⊢;have d:=f;have v:=o
   all_goals
    refine wpS_bind (wpS_get ?_);rw[show(pendingOf b).back?=some (0,n1,0) by rw[d.pd,t];rfl]
    refine wpS_bind (wpS_mono (wpS_forRange (I:=λ_ c a=>a=b/\c.1=none) ?_ (λ_ _ N=>N) ⟨rfl,rfl⟩) ?_)
    .rintro y c' a _ _ ⟨rfl,H⟩
     refine wpS_bind (wpS_get ?_);rw[if_neg (by rw[d.pd,t];show¬1>1;lia)]
     exact wpS_pure ⟨rfl,rfl⟩
    .rintro⟨r',u'⟩ a ⟨rfl,H⟩
     subst H;refine wpS_bind (wpS_modify ?_);refine wpS_bind (wpS_modify ?_);refine wpS_pure (.inr<|.inr ⟨?_,⟨d.kd.trans R.kd,d.fd.trans R.fd,d.pm.trans R.pm⟩,.inr ⟨n1,n-n1,power' n (2*0+n1) (2*0+n1+n1+(n-n1)) n,by lia,by lia,by lia,?_,?_,v⟩⟩)
     .rw[show n1+(n-n1)=n by lia]
     .show((pendingOf a).modify _ _).push _=_
      rw[d.pd,t,show n-n1=n-n1 by lia]
      apply Array.toList_inj.mp;simp
     .intro i j Y hj
      have e:∀k,k<n1->itA (arrOf a) (0+k)=itA (arrOf st') (0+k):=λk hk=>by
       unfold itA;rw[d.ft (0+k) (by lia)]
      rw[e i (by lia),e j hj]
      exact G i j Y hj
  .obtain⟨e,D⟩:=D
   subst e;rw[if_pos<|zap _];exact wpS_pure ⟨rfl,D⟩
 case post=>
  rintro c st' ⟨rfl,R,D⟩
  have hsz:(arrOf st').size=n:=by rw[R.pm.size_eq,hn]
  have ρ:∀a:SortSt,RA st a->iC lt (arrOf a) 0 n->(arrOf a).toList.Pairwise (leK lt):=λa R2 ha=>by
   have o:(arrOf a).size=n:=by rw[R2.pm.size_eq,hn]
   have:=xI (by lia) ha
   rwa[List.take_of_length_le (by simp;lia)]at this
  refine wpS_bind (wpS_mono (wpS_forRange (I:=λx c a=>c.1=none/\((x=0/\a=st')\/(failedOf a=none/\(arrOf a).Perm (arrOf st)/\(pendingOf a).size=1/\(arrOf a).toList.Pairwise (leK lt)))) (Q:=λc a=>c.1=none/\failedOf a=none/\(arrOf a).Perm (arrOf st)/\(arrOf a).toList.Pairwise (leK lt)) ?_ ?_ ⟨rfl,.inl ⟨rfl,rfl⟩⟩) ?_)
  .rintro x ⟨r,u⟩ a _ _ ⟨H,N⟩
   refine wpS_bind (wpS_get ?_);rcases N with⟨rfl,rfl⟩|⟨X,Z,q3,g⟩
   .rcases D with⟨t,ha⟩|⟨n1,n2,pw,T,hn2,hnn,σ,G,U⟩
    .rw[if_pos (by rw[t];exact zap 1)]
     exact wpS_pure ⟨rfl,R.fd,R.pm,ρ _ R ha⟩
    .rw[if_neg (by rw[σ];show¬2<=1;lia)]
     rw[σ];refine wpS_bind (xF C (R.kd.trans hk) R.fd σ T hn2 (by lia) (sub R.pm) (xI (by lia) G) (Gd (by lia) U) λb g1 g2 g3 g4=>?_)
     refine wpS_pure ⟨rfl,.inr ⟨g1,?_,by rw[g2];rfl,g4⟩⟩
     exact(Array.perm_iff_toList_perm.mpr g3).trans R.pm
   .rw[if_pos (by lia)]
    exact wpS_pure ⟨rfl,X,Z,g⟩
  .rintro⟨r,u⟩ a ⟨H,N⟩
   rcases N with⟨W,_⟩|⟨X,Z,q3,g⟩
   .lia
   .exact⟨H,X,Z,g⟩
  .rintro⟨r,u⟩ a ⟨H,X,Z,g⟩
   subst H;exact wpS_pure (h _ X Z g)
end
def leT(x y:Str):Bool:=decide (¬y.cps.toList<x.cps.toList)
def gr(zs:List Str):List Str:=zs.mergeSort leT
theorem CY(a b c:Str)(g:leT a b=true)(l:leT b c=true):leT a c=true:=by
 unfold leT at*;rw[decide_eq_true_eq]at*;exact λh=>by
  rcases PyProof.Rows.strKind.negTrans c.cps.toList b.cps.toList a.cps.toList (by simpa using h)with h|h
  .exact l (by simpa using h)
  .exact g (by simpa using h)
theorem CZ(a b:Str):(leT a b||leT b a)=true:=by
 unfold leT;rw[Bool.or_eq_true,decide_eq_true_eq,decide_eq_true_eq]
 by_cases h:b.cps.toList<a.cps.toList
 .exact Or.inr λz=>List.lt_irrefl _ (List.lt_trans h z)
 .exact Or.inl h
theorem Ge(a b:Str)(g:leT a b=true)(l:leT b a=true):a=b:=by
 unfold leT at*;rw[decide_eq_true_eq]at*;have e:=List.le_antisymm (List.not_lt.mp g) (List.not_lt.mp l);cases a;cases b
 exact congrArg Str.mk (Array.toList_inj.mp e)
def eQ(g:List Str):(gr g).Perm g:=List.mergeSort_perm g leT
def C0(g:List Str):(gr g).length=g.length:=(eQ g).length_eq
def qg(g:List Str):(gr g).Pairwise (λa b=>leT a b=true):=List.pairwise_mergeSort CY CZ g
def qh(I:l.Perm g)(hs:l.Pairwise λa b=>leT a b=true):l=gr g:=List.Perm.eq_of_pairwise (λa b _ _=>Ge a b) hs (qg g) (I.trans (eQ g).symm)
theorem C1:gr g=gr l↔g.Perm l:=⟨λe=>(eQ g).symm.trans (by rw[e];exact eQ l),λh=>qh ((eQ g).trans h)<|qg g⟩
def uR:Value->Str
 | .str x _=>x
 |_=>⟨#[]⟩
def ng(v:Value):Prop:=∃z t,v=.str z t
theorem mapM_first_strs:∀{vs:List Value},(∀v∈vs,ng v)->vs.mapM firstOfTuple'=pure (vs.map λ_=>none)
 | [],_=>by simp
 |v::vs,h=>by
  obtain⟨z,t,rfl⟩:=h v zas;rw[List.mapM_cons,show firstOfTuple' (.str z t)=pure none from rfl,mapM_first_strs λv a=>h v<|zak _ a];simp
theorem mapM_typeOf_strs:∀{vs:List Value},(∀v∈vs,ng v)->vs.mapM typeOf=pure (vs.map λ_=>Value.type "str")
 | [],_=>by simp
 |v::vs,h=>by
  obtain⟨z,t,rfl⟩:=h v zas;rw[List.mapM_cons,mapM_typeOf_strs λv a=>h v<|zak _ a]
  show(pure (Value.type "str")>>=λb=>pure _>>=λbs=>pure (b::bs))=_
  simp
theorem keyKind_strs(I:∀v∈g::l::vs,ng v):keyKind' (g::l::vs).toArray=pure oneType':=by
 rw[keyKind'_eq,List.mapM_toArray,mapM_first_strs I];simp only[map_pure,pure_bind];rw[if_neg (by simp),if_neg (by simp)]
 rw[oneTypeOnly'_eq,List.mapM_toArray,mapM_typeOf_strs I];simp only[map_pure,pure_bind];have a:((List.map (λ_=>Value.type "str") (g::l::vs)).toArray.all λx=>x==Value.type "str")=true:=by
  simp only[List.all_toArray,List.all_map,List.all_eq_true];intro _ _;rfl
 have b:(List.map (λ_=>Value.type "str") (g::l::vs)).toArray[0]?=some (Value.type "str"):=by simp
 rw[b];simp only[pure_bind,a,if_true,Option.isSome_some]
theorem xK(h:Vals (zs.map V.str) us):us.map uR=zs/\∀v∈us,ng v:=by
 induction zs generalizing us with
 |nil=>cases h;exact⟨rfl,λv a=>by cases a⟩
 |cons z zs d=>
  cases h with
  |cons r e=>
   obtain⟨b,c⟩:=d e;obtain⟨t,rfl⟩:=r;refine⟨by rw[zaz,b];rfl,λv a=>?_⟩
   rcases zaf a with rfl|a
   .exact⟨_,_,rfl⟩
   .exact c v a
theorem sR:∀{us:List Value},(∀v∈us,ng v)->Vals ((us.map uR).map V.str) us
 | [],_=>.nil
 |v::us,h=>by
  obtain⟨z,t,rfl⟩:=h v zas;exact .cons ⟨t,rfl⟩ (sR λv a=>h v<|zak _ a)
end L2
namespace Mir
open L2
variable [Zc]
theorem xM:∀g:List Str,aJ B (g.map V.str) (g.map PyData.str)
 | []=>.nil
 |z::g=>.cons (.str z) (xM g)
theorem fY:∀g:List Str,jt (g.map PyData.str)=some g
 | []=>rfl
 |z::g=>by
  show(jt<|g.map PyData.str).map (z::·)=_
  rw[fY g];rfl
end Mir
namespace L2
open PySem.W PySem.Calls PySem.Spec PyProof.Rows
end L2
namespace Mir
open L2
variable [Zc]
end Mir
namespace L2
open PySem.W PySem.Calls PySem.Spec PyProof.Rows
section
variable{prog:Program}{w:World}{A:Around}{E:Value->Shared->Prop}{s:Shared}
def ltT(x y:Str):Bool:=decide (x.cps.toList<y.cps.toList)
theorem Gf(prog:Program)(w:World)(A:Around)(E:Value->Shared->Prop)(s:Shared):Cmp prog w A E s oneType' (λx=>ng x.1) (λx y=>ltT (uR x.1)<|uR y.1) :=
 ⟨λx y e f Q q=>by
  obtain⟨a,t,ex⟩:=e;obtain⟨b,u,d⟩:=f;rw[ex,d]at q⊢;exact oneLt_str q,λx=>zaO<|List.lt_irrefl _,λx y h=>zaO λz=>List.lt_irrefl _<|List.lt_trans (of_decide_eq_true h) z,λx y z h=>by
  have h':=of_decide_eq_true h
  by_cases c:(uR x.1).cps.toList<(uR z.1).cps.toList
  .exact .inl (zaH c)
  .exact .inr (zaH<|List.lt_of_le_of_lt (List.not_lt.mp c) h')⟩
theorem xN(ho:s.heap.get? a=some (seqObj "list" vs.toArray n))(l:Vals (g.map V.str) vs)(I:vs.length<=127)
  (h:∀us:List Value,us.length=vs.length->Vals ((gr g).map V.str) us->P (.done<|.ret .none) {s with heap:=sortedHeap s.heap a vs us.toArray}) :
  wpAny (model prog w) A (Builtin.«list.sort» ⟨[.ref a],[]⟩) P E s:=by
 obtain⟨O,G⟩:=xK l;have m:vs.length=g.length:=by rw[<-l.length,zal]
 obtain⟨C,o⟩:∃C,(s.heap.update a<|Obj.mapSeq λ_=>(#[]:Array Value)).get? a=some (seqObj "list" #[] C):=⟨_,get?_update_seq ho λ_=>#[]⟩
 have b:(((s.heap.update a<|Obj.mapSeq λ_=>(#[]:Array Value)).push<|seqObj "tuple" vs.toArray 0).push<|seqObj "list" #[] 0).get? a=some (seqObj "list" #[] C):=zar _ (zar _ o)
 have t:vs.toArray.size=vs.length:=by simp
 rw[list_sort_plain];refine zaI (listItems_at ho rfl ?_);refine zaI (listUpdate_at ho rfl ?_ (by rw[zaK,sizeLine_eq];lia) (Nat.zero_le _))
 refine zaI (seqEpoch_at o rfl ?_);refine zaI (wpAny_newTuple ?_ (by show vs.length<=_;rw[sizeLine_eq];lia))
 refine zaI (wpAny_newList ?_ (Nat.zero_le _));refine wpAny_holding ?_;dsimp only
 by_cases j:vs.toArray.size<2
 .rw[if_pos j,if_pos j]
  have z1:gr g=g:=(qh (List.Perm.refl _) (by
   match g,m with
   | [],_=>exact .nil
   | [p],_=>simp
   |p::q::r,e=>simp at e;lia)).symm
  refine zaI (zaZ ?_);refine zaI (zaZ ?_);have K:(arrOf<|SortSt.mk' general' (vs.toArray.zip vs.toArray) #[] 7 none).map (·.2)=vs.toArray:=by
   apply Array.toList_inj.mp;simp;exact(List.map_snd_zip<|zap _)
  refine zaI (seqEpoch_at b rfl ?_);refine zaI (listUpdate_at b rfl ?_ (Nat.zero_le _) (by rw[K,t,sizeLine_eq];lia))
  simp only[bne_self_eq_false,Bool.false_eq_true,if_false];rw[K];exact zaZ (h vs rfl (by rw[z1];exact l))
 .rw[if_neg j,if_neg j]
  obtain⟨d,f,Z0,σ⟩:∃d f Z0,vs=d::f::Z0:=by
   match vs,t,j with
   | [],e,z=>simp at z
   | [x],e,z=>simp at z
   |x::y::r,_,_=>exact⟨x,y,r,rfl⟩
  rw[show keyKind' vs.toArray=pure oneType' by rw[σ];exact keyKind_strs (by rw[<-σ];exact G)]
  refine zaI (zaZ ?_);have ρ:(vs.toArray.zip vs.toArray).toList=vs.zip vs:=by simp
  have zs':(vs.toArray.zip vs.toArray).size=vs.length:=by simp
  have H:∀q∈vs.zip vs,q.1=q.2/\q.2∈vs:=λq Z=>by
   obtain⟨i,hi,e⟩:=List.getElem_of_mem Z;rw[List.getElem_zip]at e;rw[<-e];exact⟨rfl,List.getElem_mem _⟩
  refine zaI (za6 (xJ (Gf prog w A E {s with heap:=((s.heap.update a<|Obj.mapSeq λ_=>(#[]:Array Value)).push<|seqObj "tuple" vs.toArray 0).push<|seqObj "list" #[] 0}) rfl rfl rfl (λx u=>by
   rw[show(arrOf<|SortSt.mk' oneType' (vs.toArray.zip vs.toArray) #[] 7 none).toList=vs.zip vs from ρ]at u;obtain⟨g1,W⟩:=H x u;rw[g1];exact G _ W) (by show 2<=(vs.toArray.zip vs.toArray).size;lia) (by show(vs.toArray.zip vs.toArray).size<=127;lia)
   (Q:=λ_ st'=>failedOf st'=none/\(arrOf st').Perm (vs.toArray.zip vs.toArray)/\(arrOf st').toList.Pairwise (leK λx y=>ltT (uR x.1)<|uR y.1)) λst' N R S=>⟨N,R,S⟩) ?_ λ_ _ e=>e)
  rintro⟨⟨⟩,st'⟩ s' ⟨rfl,X,D,F⟩
  have pl:(arrOf st').toList.Perm (vs.zip vs):=by
   have:=Array.perm_iff_toList_perm.mp D
   rwa[ρ]at this
  have B:((arrOf st').toList.map (·.2)).Perm vs:=by
   have:=pl.map (·.2)
   rwa[List.map_snd_zip<|zap _]at this
  have T:(arrOf st').map (·.2)=((arrOf st').toList.map (·.2)).toArray:=by
   apply Array.toList_inj.mp;simp
  have k:Vals ((gr g).map V.str) ((arrOf st').toList.map (·.2)):=by
   have e:((arrOf st').toList.map (·.2)).map uR=gr g:=by
    refine qh ?_ ?_
    .rw[<-O];exact B.map _
    .rw[List.map_map,List.pairwise_map]
     refine F.imp_of_mem fun{x y} u M c=>?_
     obtain⟨U,x2⟩:=H x (pl.mem_iff.mp u);obtain⟨Y,y2⟩:=H y (pl.mem_iff.mp M);unfold leK at c;dsimp only at c;rw[U,Y]at c;exact zaH (of_decide_eq_false c)
   rw[<-e];exact sR λv l=>G v (B.mem_iff.mp l)
  rw[T];refine zaI (seqEpoch_at b rfl ?_);refine zaI (listUpdate_at b rfl ?_ (Nat.zero_le _) (by rw[zaK,B.length_eq,sizeLine_eq];lia))
  rw[X];simp only[bne_self_eq_false,Bool.false_eq_true,if_false];exact zaZ (h _ B.length_eq k)
end
def qi(K:zag):List V->Hp->VK->Prop:=λxs H Q=>∃(p:Addr) (zs:List Str),xs=[V.ref p]/\SqL K H p (zs.map V.str)/\zs.length<=127/\∀l,H l=none->Q (.ref l) (upd H l<|.lst<|(gr zs).map V.str)
section
variable{X:Cx}
theorem zN{J:St}{H:Hp}{Q:VK}{g:List Str}{h':Heap}{tk:Nat}{vs:List Value}{E:Value->Shared->Prop}(I:Inv X U0 J H s)(O:∀b o,s.heap.get? b=some o->h'.get? b=some o)(U:s.heap.objs.size<=h'.objs.size)(Y:Vals (g.map V.str) vs)(hz:g.length<=127)(q:∀l,H l=none->Q (.ref l) (upd H l<|.lst<|(gr g).map V.str)) :
  wpAny (model X.prog X.w) X.A.in1 (do let l<-newList vs;let _<-holding [l] (call (.builtin "list.sort") [l]);ret l) (λM s'=>∃v,M=.done (.ret v)/\EP X U0 J Q v s') E {s with heap:=h',toks:=tk}:=by
 have f:vs.length=g.length:=by rw[<-Y.length,zal]
 refine zaI (wpAny_newList ?_ (by rw[f];simp only[sizeLine];lia))
 have a:(h'.push<|seqObj "list" vs.toArray 0).get? h'.objs.size=some (seqObj "list" vs.toArray 0):=zaL _ rfl;refine zaI (wpAny_holding<|wpAny_call_entry slot_list_sort ⟨_,a,rfl⟩ entry_list_sort (xN a Y (by lia) λus i h=>⟨_,rfl,?_⟩)<|args_list_sort _)
 refine zaZ ⟨_,rfl,?_⟩;obtain⟨c,d⟩:=sortedHeap_at a;exact Ef I (by rw[zal,C0];simp only[sizeLine];lia) q U (λb o e=>by
  have:=O b o e;have lt:=zaq this;rw[sortedHeap_old (zaS lt) (by rw[size_push'];exact Nat.lt_succ_of_lt lt),Heap.get?_push_ne _ _ _<|zaS lt]
  exact this) d (by simpa using h)
theorem uS:cE X (.builtin "sorted") (qi X.K):=by
 intro U0 s J H xs us Q I r h;obtain⟨p,m,rfl,e,f,q⟩:=h;cases r with
 |cons k j=>
  cases j;cases k;obtain⟨d,c,pl,i⟩:=I.list e;have n:d.length=m.length:=by rw[<-c.length,zal]
  refine Calls.call_function_entry kind_sorted plain_sorted entry_sorted (args_sorted1 _) ?_
  refine zaI (zaZ ?_);refine zaI (collect_list pl.isList ?_ (by rw[sizeLine_eq];lia))
  refine zN I (λb o hb=>?_) ?_ c f q
  .have a:=zaq hb
   rw[Heap.get?_update_ne _ _ _ _<|zaS a];exact zar _ hb
  .rw[Heap.size_update,size_push'];exact Nat.le_succ _
def rm{K:zag}(h:X.K=K):cE X (.builtin "sorted") (qi K):=h▸uS
end
end L2
namespace Mir
open L2
variable [Zc]
def gu:List D->Option (D×Bool)
 | [.list ds]=>(jt ds).bind λzs=>cIf (zs.length<=127) (some (.list<|(gr zs).map .str,true)) none
 |_=>none
theorem C2:ik (qi K) gu:=by
 intro B H vs ds k s h e;unfold gu at e;split at e
 .obtain⟨j,b,e⟩:=zaa e
  obtain⟨f,e⟩:=bQ e;cases e;obtain⟨v,rfl,c⟩:=dC h;obtain⟨p,xs,rfl,i,a⟩:=c.list s;have d:=lZ a b;subst d;exact⟨_,xM _,λQ q=>⟨p,j,rfl,eK i,f,q⟩⟩
 .cases e
end Mir
namespace L2
open PySem.Spec PyProof.Rows
section
variable{K:Type} [DecidableEq K] [BEq K] [LawfulBEq K]
def qj(l:List K)(k:K):List K:=if l.any (· ==k)then l else l++[k]
def iF(l:List K):List K:=l.foldl qj []
theorem Gg(l:List K)(v k:K):(qj l v).any (· ==k)=(l.any (· ==k)||decide (k=v)):=by
 unfold qj;split
 .rename_i h
  by_cases e:k=v
  .subst e;rw[h];rfl
  .rw[zaO e,Bool.or_false]
 .rw[List.any_append]
  congr 1
  by_cases e:k=v
  .subst e;simp
  .rw[zaO e];simpa using λz=>e z.symm
theorem xO(l:List K)(v:K):(qj l v).length=if l.any (· ==v)then l.length else l.length+1:=by
 unfold qj;split<;>simp
theorem kS:∀(l m:List K),(l.foldl qj m).length<=m.length+l.length
 | [],m=>zap _
 |k::l,m=>by
  have:=kS l (qj m k);rw[xO]at this;rw[List.foldl_cons,zaw];split at this<;>lia
theorem Bo(l:List K):(iF l).length<=l.length:=by have:=kS l [];rw[List.length_nil,Nat.zero_add]at this;exact this
theorem kT:∀(l m:List K),(m++l).Nodup->l.foldl qj m=m++l
 | [],m,_=>by rw[zaR];rfl
 |k::l,m,h=>by
  have hk:=λz=>(List.nodup_append.mp h).2.2 k z k zas rfl
  have e:qj m k=m++[k]:=by
   unfold qj;rw[if_neg];intro z;obtain⟨x,a,ex⟩:=List.any_eq_true.mp z;exact hk (by rw[<-eq_of_beq ex];exact a)
  rw[List.foldl_cons,e,kT l (m++[k]) (by rw[zaD];exact h),zaD];rfl
def J4(l:List K)(h:l.Nodup):iF l=l:=kT l [] h
theorem sS(l:List K)(k:K):iF (l++[k])=qj (iF l) k:=by unfold iF;rw[List.foldl_append];rfl
end
section
variable{prog:Program}{w:World}{A:Around}{R:Result->Shared->Prop}{I:Addr}{fp wr:List Addr}{G:Array GenState->Array GenState->Prop}{n:Nat}{P:Nat->Value->Prop}{St:Nat->Shared->Prop}{K:Type} [DecidableEq K] [BEq K] [LawfulBEq K]{knd:PySem.KeyKind prog w K}
theorem C3(W:WalksS prog w A.in1 I fp wr G n P St)(S:Addr)(l:S∉fp)(g:List K)(O:g.length=n)
  (M:∀i v,P i v->∃k,g[i]?=some k/\knd.is k v=true/\v.scannable=true) (hb:n+1<scanBound) :
  ∀(k i:Nat) (s:Shared),n-i=k->i<=n->St i s->s.heap.SetOf knd S (λq=>(iF<|g.take i).any (· ==q)) (iF<|g.take i).length->
   (∀s',Moved (S::wr) G s s'->s'.heap.SetOf knd S (λq=>(iF g).any (· ==q)) (iF g).length->R (.ok<|.ret .none) s')->
   codeAny (model prog w) A (.builtin "set.update.loop" ⟨[.ref S,.ref I],[]⟩) R s:=by
 have C:=λh=>l (W.sub _ h)
 have keep:∀{i:Nat} {s s':Shared},Moved wr G s s'->s.heap.SetOf knd S (λq=>(iF<|g.take i).any (· ==q)) (iF<|g.take i).length->s'.heap.SetOf knd S (λq=>(iF<|g.take i).any (· ==q)) (iF<|g.take i).length:=fun{i s s'} hm d=>by
  obtain⟨o,es,ρ,t,ho,Z0⟩:=d;exact⟨o,es,ρ,t,hm.heap S _ C ho,Z0⟩
 have grow:∀b∈wr,b∈S::wr:=λb hb=>zak _ hb
 intro k
 induction k with
 |zero=>
  intro i s hk hi c d x;obtain rfl:i=n:=by lia
  refine codeAny_builtin PyProof.Rows.F.entry_set_update_loop ?_;rw[Around.under_plainId PyProof.Rows.F.plain_set_update_loop _];refine zaI (W.done s _ _ c λs' hm=>?_)
  have:=keep hm d;rw[<-O,List.take_length]at this;exact zaZ (x s' (hm.mono grow) this)
 |succ k T=>
  intro i s hk hi c d x;have m:i<n:=by lia
  refine codeAny_builtin PyProof.Rows.F.entry_set_update_loop ?_;rw[Around.under_plainId PyProof.Rows.F.plain_set_update_loop _];refine zaI (W.item i s _ _ m c λv s' N u hm=>?_)
  obtain⟨q,Q,j,D⟩:=M i v N;refine zaI (wpAny_holding ?_);refine wpAny_holding (zaI<|knd.pyHash j ?_);have a:(iF<|g.take i).length+1<scanBound:=by
   have:=Bo (g.take i);rw[List.length_take]at this
   lia
  refine wpAny_setAddHashed_of j D (keep (s':=s') hm d) a λh' r y=>?_
  have H:g.take (i+1)=g.take i++[q]:=by rw[List.take_succ,Q];rfl
  have B:h'.SetOf knd S (λσ=>(iF<|g.take<|i+1).any (· ==σ)) (iF<|g.take<|i+1).length:=SetOf_congr y (λσ=>by rw[H,sS,Gg]) (by rw[H,sS,xO])
  refine zaZ ⟨plainId_quiet PyProof.Rows.F.plain_set_update_loop _,T (i+1) _ (by lia) m (W.frame _ s' _ _ u (Nat.le_succ _) λb hb o e=>?_) B λE p f=>?_⟩
  .rw[r.2 b (λh:b=S=>l (by rw[<-h];exact hb))];exact e
  .refine x E (Moved.trans W.gtrans ((hm.mono grow).then_heap (Nat.le_succ _) λb o hb e=>?_) p) f
   rw[r.2 b (λh:b=S=>hb (by rw[h];exact zas))];exact e
end
section
variable{prog:Program}{w:World}{A:Around}{E:Value->Shared->Prop}{s:Shared}{K:Type} [DecidableEq K] [BEq K] [LawfulBEq K]{knd:PySem.KeyKind prog w K}
abbrev xP(M:Bool):Obj:={cls:=.type "set",dict:=none,data:=.set #[] 0 (.fresh 0 0 M)}
def zO(knd:PySem.KeyKind prog w K)(s:Shared)(zs:List K)(s':Shared):Prop:=∃h' tk,s'={s with heap:=h',toks:=tk}/\h'.SetOf knd s.heap.objs.size (λq=>(iF zs).any (· ==q)) (iF zs).length/\∀b o,b<s.heap.objs.size->s.heap.get? b=some o->h'.get? b=some o
set_option maxHeartbeats 3200000 in
theorem C4(O:A.handled=none)(U:s.heap.IsList l g)(hz:M.length=g.size)(Y:∀(i:Nat) (v:Value),g[i]?=some v->∃k,M[i]?=some k/\knd.is k v=true/\v.scannable=true)(hb:g.size+1<scanBound)
  (h:∀s',zO knd s M s'->R (.done<|.ret .none) s'):wpAny (model prog w) A.in1.in1 (Builtin.«set.__init__» ⟨[.ref s.heap.objs.size,.ref l],[]⟩) R E {s with heap:=s.heap.push<|xP I}:=by
 obtain⟨⟨D,u,t,n⟩,j,a,N,c⟩:=U;simp only at a c;subst a c;have f:l<s.heap.objs.size:=zaq j;have σ:(s.heap.push<|xP I).get? s.heap.objs.size=some (xP I):=zaL _ rfl;have m:=zar (xP I) j;have d:(s.heap.push<|xP I).IsList l g:=⟨_,m,rfl,N,rfl⟩;have C:=PySem.F.sub_list_set;have B:=PySem.F.sub_list_frozenset;have ρ:(Value.type "list"==Value.type "dict")=false:=by decide
 unfold Builtin.«set.__init__» noKeywords Builtin.Frozenset.updateFrom;generalize q:pyIter=PI
 wp_walk
 subst q;refine wpAny_pyIter_list d (zaI<|wpAny_runValue ?_);have p:(s.heap.push<|xP I).objs.size=s.heap.objs.size+1:=Heap.size_push ..;refine C3 (knd:=knd) ((Walks.list (by simp[O]) _ l (by rw[p];exact zaS (Nat.lt_succ_of_lt f)) g).toS) s.heap.objs.size (by
   rw[p];simp only[List.mem_cons,List.mem_singleton,List.not_mem_nil,or_false,not_or]
   exact⟨zaS<|Nat.lt_succ_self _,Nat.ne_of_gt f⟩) M hz Y hb (g.size-0) 0 _ rfl (Nat.zero_le _) ⟨⟨_,zaL _ rfl,rfl,rfl⟩,d.push _⟩ ?_ ?_
 .exact SetOf_congr ((setObjOf_fresh (knd:=knd) I).setOf (zar _ σ) (by unfold scanBound;lia)) (λ_=>rfl) rfl
 .rintro⟨h',H,G,y,x⟩ hm r
  obtain rfl:H=s.gens:=hm.gens;obtain rfl:G=s.drawn:=hm.drawn;obtain rfl:x=s.os:=hm.os;refine zaZ (zaZ<|h _ ⟨h',y,rfl,r,λb o hb e=>hm.heap b o ?_ (zar _<|zar _ e)⟩)
  rw[p];simp only[List.mem_cons,List.mem_singleton,List.not_mem_nil,or_false,not_or]
  exact⟨zaS hb,zaS<|Nat.lt_succ_of_lt hb⟩
set_option maxHeartbeats 3200000 in
theorem C5(I:A.handled=none)(M:s.heap.IsList l g)(U:zs.length=g.size)(O:∀(i:Nat) (v:Value),g[i]?=some v->∃k,zs[i]?=some k/\knd.is k v=true/\v.scannable=true)(hb:g.size+1<scanBound)
  (h:∀s',zO knd s zs s'->Q (.ref s.heap.objs.size) s'):wpAny (model prog w) A (call (.type "set") [.ref l]) Q E s:=by
 obtain⟨c,tl,p⟩:=PySem.F.called_set.mro;have n:=PySem.F.called_set.made;have q:=PySem.F.called_set.sub;have C:=PySem.F.called_set.notType;have D:=PySem.F.called_set.canCreate;have y:=PySem.F.typeCall_set_1 (.ref l);refine wpAny_call (codeAny_of_tree ?_);show wpAny _ _ (callAny (.type "set") _) _ _ _;refine zaZ ⟨Code.quiet_builtin _ (by decide+kernel),codeAny_builtin PySem.F.entry_type_call ?_⟩
 rw[Around.under_plain (weight_type_call_type "set" [.ref l] []) rfl]
 repeat (any_goals (first|assumption|wp_step))
 refine codeAny_mono (code_set_new_1 (.ref l) (E:=E) (Q₁:=λobj d=>∃b,obj=.ref s.heap.objs.size/\d={s with heap:=s.heap.push<|xP b}) λb=>⟨b,rfl,rfl⟩) λr d o=>?_
 match r,o with
 | .error e,o=>exact o
 | .ok (.ret obj),⟨b,m,t⟩=>
  subst m t;have u:Shared.TypeIs {s with heap:=s.heap.push<|xP b} (.ref s.heap.objs.size) "set":=⟨_,zaL _ rfl,rfl⟩
  have B:=PySem.F.called_set.init.lookup;have x:=PySem.F.called_set.init.bind (.ref s.heap.objs.size)
  repeat (any_goals (first|assumption|wp_step))
  refine codeAny_mono (codeAny_call_builtin (R:=wants (λr f=>r=.none/\zO knd s zs f) E) PySem.F.called_set.init.plain PySem.F.entry_set_init<|check_set_init_1 u ?_) λj f a=>?_
  .exact C4 I M U O hb λs' hs=>⟨rfl,hs⟩
  .match j,a with
   | .error e,a=>exact a
   | .ok (.ret r),⟨m,hs⟩=>
    subst m
    repeat (any_goals (first|assumption|wp_step))
    exact h _ hs
end
def LB(K:zag):List V->Hp->VK->Prop:=λxs H Q=>∃p zs,xs=[V.ref p]/\SqL K H p (zs.map V.str)/\zs.length+1<4096/\Q (.int (iF zs).length) H
theorem J7{K:zag}{te:TE}{p1 p2 pos g:Pos}(h:X.K=K)(hc:X.calm=true)(O:Gl X "len")(Y:X.mg "len"=none)(U:Gl X "set")(hms:X.mg "set"=none)(ha:PE X e te)
  (M:starEach [.Call (.Name "set" p2) [e] [] g] X.env=[(false,eval (.Call (.Name "set" p2) [e] [] g) X.env)]:=by rfl) (l:starEach [e] X.env=[(false,eval e X.env)]:=by rfl):PE X (.Call (.Name "len" p1) [.Call (.Name "set" p2) [e] [] g] [] pos) (tCB (LB K)<|fH te tW):=by
 subst h;intro U0 s J H Q I h;refine wpAny_Call_Name_kw (gX I O Y zaE ?_);refine PyProof.Rows.callWith_builtin1 ?_ M;refine Calls.spliced_cons (wpAny_Call_Name_kw<|gX I U hms PyProof.Rows.boot_set ?_);refine PyProof.Rows.callWith_type1 ?_ l;rw[l];refine Calls.spliced_cons (thn (ha U0 s J H _ I h) λu s1 ⟨x,j,c,C,B⟩=>Calls.spliced_nil ?_)
 obtain⟨p,zs,ex,r,y,q⟩:=B;cases ex;obtain rfl:=C;obtain⟨k,D,pl,_⟩:=c.list r;obtain⟨f,A⟩:=xK D;have a:zs.length=k.length:=by rw[<-f,zal]
 refine C5 (knd:=PySem.strKind X.prog X.w) (zs:=zs) (c.ok.hd hc) pl.isList (by rw[zaK,a]) (λi v e=>?_) (by rw[zaK,<-a];exact y) λs' ⟨h',tk,es,m,hk⟩=>?_
 .rw[List.getElem?_toArray]at e
  obtain⟨z,t,rfl⟩:=A v (zaj e);exact⟨z,by rw[<-f,zao,e];rfl,by show Value.isStrOf z (.str z t)=true;simp[Value.isStrOf],rfl⟩
 .subst es
  refine Calls.spliced_nil ?_;obtain⟨o,ho,d⟩:=m.objOf;obtain⟨hex,es,E,t,hd,_,_,hn,n⟩:=d;have:=Bo zs;rw[<-hn]at q this;exact call_len_set ho hex hd n (by lia) ⟨.int es.size,j,(c.kept λb u e=>hk b u (zaq e) e).tok _,⟨_,rfl⟩,q⟩
end L2
namespace Mir
open L2
variable [Zc]
def Bp:List D->Option (D×Bool)
 | [.list ds]=>(jt ds).bind λzs=>cIf (zs.length+1<4096) (some (.int ((iF zs).length:Int),false)) none
 |_=>none
theorem Oq:ik (LB K) Bp:=by
 intro B H vs ds k s h e;unfold Bp at e;split at e
 .obtain⟨j,b,e⟩:=zaa e
  obtain⟨f,e⟩:=bQ e;cases e;obtain⟨v,rfl,c⟩:=dC h;obtain⟨p,xs,rfl,i,a⟩:=c.list s;have d:=lZ a b;subst d;exact⟨_,.int _,λQ q=>⟨p,j,rfl,eK i,f,q⟩⟩
 .cases e
end Mir
namespace L2
open PySem.Spec PyProof.Rows
open AutoSeq1 (wpAny_loadPart')
theorem C6(M:A.handled=none)(it l:Addr)(I:l≠it)(g:Array Value) :
  Draws prog w A it [it,l] g.size (λi v=>g[i]?=some v) (λi h=>h.IsTupleIter it l i/\h.IsTuple l g) where
 live:=λ_ _ st=>let⟨o,ho,_⟩:=st.1;⟨o,ho⟩
 frame:=λ_ _ _ st hk=>⟨st.1.at λo e=>hk it (by simp) o e,let⟨o,e,r⟩:=st.2;⟨o,hk l (by simp) o e,r⟩⟩
 item:=λi s Q E hi st d=>by
  refine zr st.1 st.2 (x:=g[i]) (by simp[hi]) λh' a b=>?_
  exact d _ h' s.toks (by simp[hi]) ⟨a,let⟨o,e,r⟩:=st.2;⟨o,(b.2 l I).trans e,r⟩⟩ b
 done:=λs Q E st c=>sD M st.1 st.2 (by simp) c
section
variable{prog:Program}{w:World}{A:Around}{E:Value->Shared->Prop}{s:Shared}
theorem tup_ne(ho:s.heap.get? a=some o)(M:o.cls=.type T)(I:T≠"tuple")(O:s.heap.IsTuple l g):a≠l:=λe=>by
 obtain⟨o',b,c',_⟩:=O;rw[e,b]at ho;cases ho;rw[M]at c';cases c';exact I rfl
theorem zP{i:Nat}{x U:Value}{Q:Option Value->Shared->Prop}(hh:A.handled=none)
  (Y:IsEnum s.heap e it i U) (I:s.heap.IsTupleIter it l i) (O:s.heap.IsTuple l g) (hx:g[i]?=some x) (M:e≠it)
  (hQ:∀h' tk,IsEnumOut h' e it ((i:Int)+1) x s.heap.objs.size->h'.IsTupleIter it l (i+1)->
   h'.get? s.heap.objs.size=some {cls:=.type "tuple",data:=.seq #[.int i tk,x]}->h'.objs.size=s.heap.objs.size+1->
   (∀b o,b≠e->b≠it->s.heap.get? b=some o->h'.get? b=some o)->Q (some<|.ref s.heap.objs.size) {s with heap:=h',toks:=tk+1}):wpAny (model prog w) A (pyNext<|.ref e) Q E s:=by
 obtain⟨o,ho,c,_⟩:=id I;refine wpAny_pyNext_enum_itemD (C6 (A:=A.in1) hh it l (Ne.symm<|tup_ne ho c (by decide) O) g) Y ⟨I,O⟩ (Array.getElem?_eq_some_iff.mp hx).1 M ?_ λj h' tk d ho hs f h hk=>?_
 .simp only[List.mem_cons,List.not_mem_nil,or_false,not_or]
  exact⟨M,tup_ne Y rfl (by decide) O⟩
 .have a:=d
  rw[hx]at a;cases a;exact hQ h' tk ho hs.1 f h hk
theorem C7{i:Nat}{M:Value}{Q:Option Value->Shared->Prop}(Y:A.handled=none)
  (O:IsEnum s.heap e it i M) (I:s.heap.IsTupleIter it l i) (hl:s.heap.IsTuple l g) (hx:g[i]?=none)
  (U:∀h',Heap.ExtBut it s.heap h'->Q none {s with heap:=h'}):wpAny (model prog w) A (pyNext<|.ref e) Q E s:=by
 have c:s.TypeIs (.ref e) "enumerate":=⟨_,O,rfl⟩;refine zaI (wpAny_attempt (wpAny_callSpecial?_slot c F.slot_enumerate_next
  (wpAny_call_entry F.slot_enumerate_next c F.entry_enumerate_next ?_ (F.args_enumerate_next_1 _))))
 show wpAny _ _ (field (.ref e) 2>>=_) _ _ _;refine zaI (wpAny_field O rfl rfl ?_);refine zaI (sD Y I hl hx λh' x a b=>?_)
 obtain⟨o,ho,d⟩:=b;refine zaI (wpAny_isInstance ⟨o,ho,d⟩ isSubtype_stop ?_);exact zaZ (U _ a)
end
theorem xQ(l:Addr)(I:Array Value) :
  Meets (Builtin.«enumerate.__new__» ⟨[.type "enumerate",.ref l],[]⟩) (λ_ R s=>s.heap.IsTuple l I/\
   R (.ok<|.ret<|.ref (s.heap.push {cls:=.type "tuple_iterator",data:=.fields #[.ref l,.int 0 0]}).objs.size)
    {s with heap:=(s.heap.push {cls:=.type "tuple_iterator",data:=.fields #[.ref l,.int 0 0]}).push {cls:=.type "enumerate",data:=.fields #[.none,.bool false,.ref s.heap.objs.size,rawInt 0,.none,.none]}}) :=
 .of_wp λprog w A R s h=>by
  obtain⟨j,g,d,tk,os⟩:=s;obtain⟨e,h⟩:=h
  have f:=sub_enumerate;have b:=e;obtain⟨o0,a,i,k⟩:=id e
  wp_walk using wpAny_loadPart' a
  refine wpAny_stack_any λst=>zaZ ?_
  split
  .rename_i c _ _ _ _ _
   cases(c==Value.type "enumerate")
   .wp_walk using wpAny_loadPart' a,wpAny_pyIter_tuple b
    exact⟨_,rfl,h⟩
   .wp_walk using wpAny_loadPart' a,wpAny_pyIter_tuple b
    exact⟨_,rfl,h⟩
  .wp_walk using wpAny_loadPart' a,wpAny_pyIter_tuple b
   exact⟨_,rfl,h⟩
section
variable{prog:Program}{w:World}{A:Around}{E:Value->Shared->Prop}{s:Shared}
theorem zQ(I:s.heap.IsTuple l g)
  (h:∀h',IsEnum h' (s.heap.objs.size+1) s.heap.objs.size 0 .none->h'.IsTupleIter s.heap.objs.size l 0->h'.objs.size=s.heap.objs.size+2->
   (∀b o,s.heap.get? b=some o->h'.get? b=some o)->Q (.ref<|s.heap.objs.size+1) {s with heap:=h'}) :
  wpAny (model prog w) A (call (.type "enumerate") [.ref l]) Q E s:=by
 refine callType_new F.called_enumerate (by decide) (F.typeCall_enumerate_1 _) (F.newCall_enumerate_1 _) (λobj=>F.args_object_init_2 obj _) F.entry_enumerate_new
  (xQ l g) ⟨I,?_⟩
 obtain⟨d,c⟩:∃d,d=s.heap.push {cls:=.type "tuple_iterator",data:=.fields #[.ref l,.int 0 0]}:=⟨_,rfl⟩;rw[<-c];have f:d.objs.size=s.heap.objs.size+1:=by rw[c];exact Heap.size_push ..
 obtain⟨e,a⟩:∃e,e=d.push {cls:=.type "enumerate",data:=.fields #[.none,.bool false,.ref s.heap.objs.size,rawInt 0,.none,.none]}:=⟨_,rfl⟩;have i:IsEnum e (s.heap.objs.size+1) s.heap.objs.size 0 .none:=by rw[a,<-f];exact zaL _ rfl
 rw[f,<-a];refine⟨⟨_,i,rfl⟩,h _ i ⟨_,by rw[a];exact zar _ (by rw[c];exact zaL _ rfl),rfl,rfl⟩ (by rw[a,Heap.size_push,f]) λb o x=>by rw[a];exact zar _ (by rw[c];exact zar _ x)⟩
end
def Ot(K:zag)(a:Addr):It :=
 ⟨λi H=>∃xs x,SqT K H a xs/\xs[i]?=some x,
  λi H v H'=>∃p x,v=.ref p/\H p=none/\H'=upd H p (.tup [.int i,x])/\∀xs,SqT K H a xs->xs[i]?=some x,
  λi H=>∃xs,SqT K H a xs/\xs.length<=i⟩
theorem zR{K:zag}{O:List Expr}{Y}{pos:Pos}{e it l:Addr}(U:e≠it) :
  Turn P w K (.Tuple O Y pos) (Ot K l) [e,it] e (λi h=>(∃M,IsEnum h e it ((i:Nat):Int) M)/\h.IsTupleIter it l i) where
 mem:=by simp
 obj:=λi h st b hb=>by
  obtain⟨⟨M,a⟩,⟨W,g1,c1,d1⟩⟩:=st
  fail "q5"
  .exact⟨_,a,λv e=>by cases e⟩
  .exact⟨_,g1,λv e=>by rw[d1]at e;cases e⟩
 keep:=λi h h' st k=>by
  obtain⟨⟨M,a⟩,c⟩:=st;exact⟨⟨M,k e (by simp) _ a⟩,c.at λo x=>k it (by simp) o x⟩
 item:=by
  fail "q4"
  obtain⟨⟨M,a⟩,c⟩:=st;obtain⟨xs,x,d,F⟩:=j;obtain⟨us,y,t,_⟩:=I.tuple d;obtain⟨u,V,Z⟩:=y.get F;have lt:∀b∈[e,it],b<s.heap.objs.size:=λb hb=>by
   obtain⟨W,g1,_,_⟩:=id c
   fail "q5"
   .exact zaq a
   .exact zaq g1
  refine zP (I.ok.hd m) a c (t) (by simpa using V) U λh' tk q n S T hk=>?_
  refine⟨_,rfl,wpAny_letOwnedTupleGo_enum q λh3 p sb=>?_⟩
  have r:=I.hok.fresh (zap _);have up:∀b o,b≠e->h'.get? b=some o->h3.get? b=some o:=λb o hb x=>(sb.2 b hb).trans x
  have G:Inv X U0 J (upd H s.heap.objs.size<|.tup [.int i,x]) {s with heap:=s.heap.push {cls:=.type "tuple",data:=.seq #[.int i tk,u]},toks:=tk+1} :=
   I.laid (λb o e=>zar _ e) (zap _) (cu.za (by simp only[List.length_cons,List.length_nil,sizeLine];lia)<|.cons ⟨_,rfl⟩<|.cons Z .nil)
  have σ:Inv X U0 J (upd H s.heap.objs.size<|.tup [.int i,x]) {s with heap:=h3,toks:=tk+1}:=by
   refine Inv.lT (s:={s with heap:=s.heap.push {cls:=.type "tuple",data:=.seq #[.int i tk,u]},toks:=tk+1}) (fp:=[e,it]) G (λb o hb g=>?_) (λb hb=>?_)
   .simp only[List.mem_cons,List.not_mem_nil,or_false,not_or]at hb
    obtain⟨b1,ρ⟩:=hb;refine up b o b1 ?_
    by_cases A:b=s.heap.objs.size
    .subst A
     have N:(s.heap.push {cls:=.type "tuple",data:=.seq #[.int i tk,u]}).get? s.heap.objs.size=some {cls:=.type "tuple",data:=.seq #[.int i tk,u]}:=zaL _ rfl;rw[N]at g;cases g;exact S
    .have Q:(s.heap.push {cls:=.type "tuple",data:=.seq #[.int i tk,u]}).get? b=s.heap.get? b:=Heap.get?_push_ne _ _ _ A
     exact hk b o b1 ρ (Q▸g)
   .obtain⟨f0,f1⟩:=f b hb
    exact⟨by rw[aj λe=>absurd (lt b hb) (by rw[e];exact za3 _)];exact f0,f1⟩
  have R:((i+1:Nat):Int)=(i:Int)+1:=by push_cast;rfl
  refine⟨.ref s.heap.objs.size,_,σ,rfl,⟨_,x,rfl,r,rfl,λxs' h=>by rw[I.rZ h d];exact F⟩,⟨⟨u,R▸p⟩,n.at λo x=>up it o (Ne.symm U) x⟩,λb hb=>?_⟩
  rw[aj λe=>absurd (lt b hb) (by rw[e];exact za3 _)]
  exact(f b hb).1
 done:=by
  fail "q4"
  obtain⟨⟨M,a⟩,c⟩:=st;obtain⟨xs,d,hl⟩:=j;obtain⟨us,y,t,_⟩:=I.tuple d;have l1:=y.length;refine C7 (I.ok.hd m) a c (t) (by simp;lia) λh' hk=>⟨rfl,?_⟩
  refine Inv.lT I (λb o hb g=>?_) f
  simp only[List.mem_cons,List.not_mem_nil,or_false,not_or]at hb;exact hk b o hb.2 g
 self:=λ_ _ _ _ _ st h=>by obtain⟨⟨M,a⟩,_⟩:=st;exact wpAny_pyIter_enum a h
def Gh(K:zag)(M:TA):TI:=λJ H R=>M J H λvs e=>∃a xs,vs=[.ref a]/\SqT K e a xs/\R (Ot K a) e
section
variable{X:Cx}
theorem Gi(l:Gl X "enumerate")(hm:X.mg "enumerate"=none)(ha:PA X [a] M)(hs:starEach [a] X.env=[(false,eval a X.env)]:=by rfl) :
  PI X (.Tuple g O tp) (.Call (.Name "enumerate" p) [a] [] pos) (Gh X.K M):=by
 intro U0 s J H R I h;refine Call_ (gX I l hm boot_enumerate<|PyProof.Rows.callWith_type1 (thn (ha pos U0 s J H _ I h) λus s1 ⟨vs,i,d,o,n⟩=>?_) (by rw[hs];rfl) (by rfl))
 obtain⟨v,xs,e,g1,q⟩:=n;subst e;cases o with
 |cons r t=>
  cases t;cases r;obtain⟨us,u,m,_⟩:=d.tuple g1;refine zQ (m) λh' f j k hk=>?_
  refine wpAny_pyIter_enum f ?_;refine⟨s1.heap.objs.size+1,[s1.heap.objs.size+1,s1.heap.objs.size],_,_,i,rfl,d.kept hk,zR<|Nat.succ_ne_self _,⟨⟨_,f⟩,j⟩,λb hb=>?_,q⟩
  have c:s1.heap.objs.size<=b:=by
   fail "q5"
   .exact Nat.le_add_right _ _
   .exact zap _
  exact d.mF c (d.hok.fresh c)
theorem J8:OpR X (compareOp .IsNot) (λx y H Q=>∃a b,x=.bl a/\y=.bl b/\Q (.bl<|a !=b) H):=by
 intro U0 s J H x y v u Q I c d h;obtain⟨a,b,rfl,rfl,q⟩:=h;cases c;cases d;exact isnot_bool (yY I q rfl)
end
end L2
namespace Mir
open L2
section
variable [Zc]
noncomputable def oT:D->D->Option (D×Bool)
 | .bool a,.bool b=>some (.bool<|a !=b,false)
 |_,_=>none
theorem Gj:OpJ (λx y H Q=>∃a b,x=.bl a/\y=.bl b/\Q (.bl<|a !=b) H) oT:=by
 intro B H x y c d i s f h e;unfold oT at e;split at e
 .cases e
  exact dH λQ q=>⟨_,_,f.bool,h.bool,q⟩
 .cases e
theorem J9(I:G p=some (.tup xs))(g:aJ B xs l):lP G B (Ot K p) (ju l):=λH s=>by
 have g1:SqT K H p xs:=.inl (.inl<|s _ _ I);refine⟨⟨xs,g1,by rw[g.length];simp[ju]⟩,λi d hd=>?_⟩
 obtain⟨a,rfl,ha⟩:=sM hd;obtain⟨x,c,k⟩:=g.get i a ha;refine⟨⟨xs,x,g1,c⟩,λv H' h=>?_⟩
 obtain⟨j,m,rfl,f,rfl,e⟩:=h;have b:=e xs g1;rw[c]at b;cases b;exact .inr ⟨j,[.int i,x],[.int i,a],rfl,rfl,f,rfl,.cons (.int _)<|.cons k .nil⟩
def Gk(m:Rho->Option (List RV×Rho)):Rho->Option (List D×Rho):=λL=>((m L).bind Ig).bind λx=>(gK x.1 x.2).bind λy=>(asT y.1).map λds=>(ju ds,y.2)
theorem Gm(h:MA g m):MF (Gh K g) (Gk m):=by
 intro F B H J L ds ρ' Q R e q;obtain⟨x,o,e⟩:=zaa e;obtain⟨w,b,s⟩:=zaa o;obtain⟨y,t,e⟩:=zaa e;obtain⟨n,p,e⟩:=zab e;cases e;rw[AM s]at b;refine h F B H J L _ _ _ R b λvs u j f k a=>?_
 match vs,a with
 | [v],a=>
  obtain⟨d,R2,c,i⟩:=k.frz a.weak.1 t;rw[zd p]at c;cases c with
  |tup h r=>exact⟨_,_,rfl,.inl<|.inl<|R2.sub _ _ h,q _ d j (f.trans i) R2<|J9 h r⟩
end
end Mir
namespace aw
structure Row where
 key:Int
 above:Option Str
 mark:Bool
 below:List Str
section
variable{α:Type} [DecidableEq α]
theorem gv:∀(l k:List α),l.Nodup->(∀x∈l,x∈k)->l.length<=k.length
 | [],_,_,_=>Nat.zero_le _
 |a::l,k,h,hs=>by
  have ha:=hs a zas;have hn:=List.nodup_cons.mp h;have:=gv l (k.erase a) hn.2 λx b=>(List.mem_erase_of_ne λe=>hn.1 (by rw[<-e];exact b)).mpr (hs x<|zak _ b)
  rw[List.length_erase_of_mem ha]at this;have : 0<k.length:=List.length_pos_of_mem ha;rw[zaw]
  lia
theorem nh{l:List α}(h:l.Nodup)(ha:a∈l):l.count a=1:=by
 have b:=(List.nodup_iff_count.mp h) a;have c:=List.count_pos_iff.mpr ha
 lia
theorem nQ:∀{l k:List α},l.Nodup->k.Nodup->(∀x,x∈l↔x∈k)->l.Perm k:=fun{l k} b c h=>by
 rw[List.perm_iff_count];intro a
 by_cases ha:a∈l
 .rw[nh b ha,nh c<|(h a).mp ha]
 .rw[List.count_eq_zero.mpr ha,List.count_eq_zero.mpr λz=>ha<|(h a).mpr z]
end
variable(S0:List Str)(K0:Str->Row)
def nR:Nat->Option Str->Option Str
 |0,x=>x
 |_+1,none=>none
 |k+1,some n=>if n∈S0 then nR k (K0 n).above else some n
def zS:∀k,nR S0 K0 k none=none
 |0=>rfl
 |_+1=>rfl
variable(lt:Int->Str->Int->Str->Bool)
end aw
namespace Mir
open L2
theorem pix(K:zag)(ha:PE X a g)(h:X.K=K:=by rfl):PE X (.Subscript a (.Constant (.int i) j p) pos) (tOp (rIx K) g<|tC<|.int i):=K9 (AR h) ha yR λ_ _=>rfl
theorem pdg(g:X.A.units+64<cLine)(ho:PE X o l)(hi:PE X i ty)(hs:NW i:=by intro _ _;rfl):PE X (.Subscript o i pos) (Lj l ty):=Jm (hv1 g) ho hi hs
theorem pd{ps:List Str}{sp:Sp}{p pos:Pos}{e:Expr}{es:List Expr}{t:TA}(D:Def X.prog X.w X.K X.mg X.base CX0 k x ps sp)(U:dF n X.A)(ha:PA X (e::es) t)(hk:k<=n:=by lia)(O:Gl X x:=by rfl)
  (g:(x==("__debug__":Str))=false:=by decide) (M:starEach (e::es) X.env=(false,eval e X.env)::starEach es X.env:=by rfl) (l:(backTo pos<|starEach es X.env).any (·.1)=false:=by rfl) :
  PE X (.Call (.Name x p) (e::es) [] pos) (jK sp [] E0 t):=pj D (U.mono hk) ha O g M l
theorem pne(K:zag)(g:X.A.units+64<cLine)(ha:PE X a l)(hb:PE X b I)(h:X.K=K:=by rfl):PT X (.Compare a [.NotEq] [b] pos) (AE<|tOp (HQ K) l I):=d9 (Nf h g) ha hb (cT _)
theorem peq(K:zag)(g:X.A.units+64<cLine)(ha:PE X a l)(hb:PE X b I)(h:X.K=K:=by rfl):PT X (.Compare a [.Eq] [b] pos) (AE<|tOp (HP K) l I):=d9 (EI h g) ha hb (cT _)
theorem pa1(ha:PE X e g)(hs:starEach [e] X.env=(false,eval e X.env)::starEach [] X.env:=by rfl):PA X [e] (fH g tW):=oI ha y0 hs
theorem Rr(i:Nat){l:TE}{pos g:Pos}(I:X.N.Nodup)(M:PE X e l)(hi:X.N[i]?=some x:=by rfl)(U:Loc X.env.scope x:=by fail "l")(hs:swapsWith e (some<|.Name x g) pos.line X.env=pure false:=by rfl)(O:X.fn x=true\/X.env.scope.names.lookup x=some .local:=by first|exact .inl rfl|exact .inr rfl|assumption):PS X (.Assign [.Name x g] e pos) (yU l<|lL i):=L7 I hi U M hs O
theorem pgn{X:Cx}(i:Nat){pos:Pos}(g:X.N.Nodup)(hi:X.N[i]?=some x:=by rfl)(I:Loc X.env.scope x:=by fail "l")(l:X.fn x=true\/X.env.scope.names.lookup x=some .local:=by first|exact .inl rfl|exact .inr rfl|assumption):PG X (.Name x pos) (lL i):=tV g hi I l
theorem Rt(K:zag)(ha:PE X a g)(hb:PE X b l)(h:X.K=K:=by rfl):PE X (.BinOp a .Add b pos) (tOp (pG K) g l):=o6 (Iv h) ha hb
variable [Zc]{W:WX}
def nli:NE W (tC<|.int i) (nLit<|.int i):=zw λ_=>.int i
def nix(h:NE W g a):NE W (tOp (rIx K) g<|tC<|.int i) (nIx a<|nLit<|.int i):=Lg h nli
def mix(h:ME g a):ME (tOp (rIx K) g<|tC<|.int i) (mOp gIx a<|mC<|.int i):=dG Nb h zb
def ma1(ha:ME g a):MA (fH g tW) (af a ar):=uo ha Ej
end Mir
set_option maxHeartbeats 4000000
namespace K77
open L2 Mir
def i6:SM :=
  (aT (bL 5<|mOp gIx (aa 0)<|mOp bY (mOp cM (aa 2)<|aa 3)<|mCB bV<|af (aa 0) ar)
  (aT (bL 6<|mOp gIx (aa 0)<|mOp bY (mOp cM (aa 2)<|aa 4)<|mCB bV<|af (aa 0) ar)
  (cL (ax<|mOp gEq (mCB bV<|af (mOp gIx (mOp a7 (aa 1)<|aa 5)<|mC<|.int 3) ar)<|mCB bV<|af (mOp gIx (mOp a7 (aa 1)<|aa 6)<|mC<|.int 3) ar)
  (cw<|eM<|af (aa 5)<|af (aa 6) ar)
  cD)))
def l6:SM :=
  (oA (lz<|af (aa 3) ar) (mgN 4)
  i6)
def zT:SM :=
  (aT (oA (lz<|af (mCB bV<|af (aa 0) ar) ar) (mgN 3)
  l6)
  (cw<|eM ar))
def i7:List D->Option (D×Bool):=fnM 3 4 zT
def xR:Rho->Option (Bool×Rho) :=
  (ax<|mOp gNe (aa 0)<|aa 1)
def xU:PM :=
  (aa 0)
def nS:Rho->Option (Bool×Rho) :=
  (ax<|aa 4)
def jX:SM :=
  (aT (kR (mOp a7 (aa 1)<|aa 2)<|mgU 4<|aR (mgN 5)<|aR (mgN 6)<|aR (mgN 7)<|aR (mgN 8) dA)
  (aT (eC 1 (cW<|af (aa 5)<|af (mC .none)<|af (mC<|.bool false)<|af (aa 8) ar)<|aa 2)
  (aT (eg<|oz 0 eu<|af (aa 2) ar)
  (aT (eg<|oz 3 eu<|af (cW<|af (mC<|.str "cut")<|af (aa 2) ar) ar)
  (aT (kR (mOp a7 (aa 1)<|aa 6)<|mgU 4<|aR (mgN 5)<|aR (mgN 9)<|aR (mgN 10)<|aR (mgN 8) dA)
  (aT (bL 8<|mCB pV<|af (mLC [("_law_name",2)] (ze<|aa 8) xR xU) ar)
  (aT (eC 1 (cW<|af (aa 5)<|af (aa 9)<|af (mOp gY (aa 9)<|mC .none)<|af (aa 8) ar)<|aa 6)
  (aT (bL 4<|aa 10)
  (bL 2<|aa 6)))))))))
def C8:SM :=
  (aT (bL 3<|eM ar)
  (aT (bL 4<|mOp gY (mOp gIx (mOp a7 (aa 1)<|aa 2)<|mC<|.int 1)<|mC .none)
  (aT (dB nS
  jX 1000000)
  (cw<|aa 3))))
def fZ:List D->Option ((D×Bool)×D×D):=fnJ 3 8 C8
def uT:SM :=
  (cw<|mOp pX (cW<|af (mOp gIx (mOp a7 (aa 0)<|aa 1)<|mC<|.int 0)<|af (aa 1) ar)<|cW<|af (mOp gIx (mOp a7 (aa 0)<|aa 2)<|mC<|.int 0)<|af (aa 2) ar)
def dk:List D->Option (D×Bool):=fnM 3 0 uT
def zU:SM :=
  (aT (kR (mOp a7 (aa 1)<|aa 2)<|mgU 4<|aR (mgN 4)<|aR (mgN 5)<|aR (mgN 6)<|aR (mgN 7) dA)
  (aT (eC 1 (cW<|af (aa 4)<|af (aa 3)<|af (mC<|.bool false)<|af (aa 7) ar)<|aa 2)
  (aT (kR (mOp a7 (aa 1)<|aa 3)<|mgU 4<|aR (mgN 4)<|aR (mgN 5)<|aR (mgN 6)<|aR (mgN 7) dA)
  (aT (eC 1 (cW<|af (aa 4)<|af (aa 5)<|af (aa 6)<|af (mOp nP (aa 7)<|cW<|af (aa 2) ar) ar)<|aa 3)
  (eg<|oz 0 oO<|af (aa 2) ar)))))
def eR:List D->Option ((D×Bool)×D×D):=fnJ 4 4 zU
def rq:SM :=
  (aT (bL 1<|mC<|.str "abcdefghijklmnopqrstuvwxyz")
  (aT (bL 2<|mOp cM (mOp uM (aa 1)<|mOp bY (mOp iU (aa 0)<|mC<|.int 52)<|mC<|.int 26)<|mOp uM (aa 1)<|mOp bY (mOp iU (aa 0)<|mC<|.int 2)<|mC<|.int 26)
  (aT (cL (ax<|mOp gEq (mOp bY (aa 0)<|mC<|.int 2)<|mC<|.int 1)
  (bL 2<|mOp cM (aa 2)<|mOp gIx (eM<|af (mC<|.str "a")<|af (mC<|.str "zz")<|af (mC<|.str "aaa")<|af (mC<|.str "zzzz")<|af (mC<|.str "bbbbb")<|af (mC<|.str "zzzzzz") ar)<|mOp bY (mOp iU (aa 0)<|mC<|.int 2)<|mC<|.int 6)
  cD)
  (cw<|aa 2))))
def a9:List D->Option (D×Bool):=fnM 1 2 rq
def uU:SM :=
  (aT (cL (ax<|mOp gEq (mOp bY (aa 0)<|mC<|.int 3)<|mC<|.int 0)
  (cw<|mOp lh (mOp bY (mOp iU (aa 0)<|mC<|.int 3)<|mC<|.int 5)<|mC<|.int 2)
  cD)
  (aT (cL (ax<|mOp gEq (mOp bY (aa 0)<|mC<|.int 3)<|mC<|.int 1)
  (cw<|mOp lh (mOp bY (mOp iU (aa 0)<|mC<|.int 3)<|mC<|.int 61)<|mC<|.int 30)
  cD)
  (cw<|mOp lh (mOp bY (mOp iU (aa 0)<|mC<|.int 3)<|mOp cM (mOp Cm (mC<|.int 2)<|mOp zf (mC<|.int 10)<|mC<|.int 59)<|mC<|.int 1)<|mOp zf (mC<|.int 10)<|mC<|.int 59)))
def bB:List D->Option (D×Bool):=fnM 1 0 uU
def fc:SM :=
  (aT (bL 6<|mOp iU (aa 5)<|mC<|.int 5)
  (aT (bL 7<|aQ i7<|af (aa 2)<|af (aa 3)<|af (mOp bY (aa 6)<|mC<|.int 97) ar)
  (aT (bL 8<|mCB lA<|af (aa 3) ar)
  (cL (jO (ax<|mOp gEq (mOp bY (aa 5)<|mC<|.int 5)<|mC<|.int 4)<|ax<|mOp gGt (mCB bV<|af (aa 8) ar)<|mC<|.int 0)
  (eg<|iW 2 3 fZ<|af (mOp gIx (aa 8)<|mOp bY (aa 6)<|mCB bV<|af (aa 8) ar) ar)
  (cL (jO (ax<|mOp gGt (mOp bY (aa 5)<|mC<|.int 5)<|mC<|.int 0)<|ax<|mOp gNe (aa 7)<|eM ar)
  (aT (cL (ax<|aQ dk<|af (aa 3)<|af (mOp gIx (aa 7)<|mC<|.int 0)<|af (mOp gIx (aa 7)<|mC<|.int 1) ar)
  (eg<|sj 7 lQ)
  cD)
  (eg<|iW 2 3 eR<|af (mOp gIx (aa 7)<|mC<|.int 0)<|af (mOp gIx (aa 7)<|mC<|.int 1) ar))
  (aT (bL 9<|aQ a9<|af (mOp cM (aa 1)<|aa 4) ar)
  (aT (eC 3 (cW<|af (aQ bB<|af (aa 6) ar)<|af (mC .none)<|af (mC<|.bool false)<|af (cW ar) ar)<|aa 9)
  (eg<|oz 2 eu<|af (aa 9) ar))))))))
def uV:Rho->Option (D×D) :=
  (iw (bL 2<|eM ar)
  (iw (bL 3 xa)
  (iw (oA (Qr<|af (aa 0) ar) (mgU 2<|aR (mgN 4)<|aR (mgN 5) dA)
  fc)
  (AW 2 3))))
def gP:List D->Option (D×D):=fnD 2 8 uV
def xV(self:List D->Option ((D×Bool)×D)):SM :=
  (aT (bL 5<|aQ a9<|af (mCB lX<|af (aa 0) ar) ar)
  (aT (eC 0 (cW<|af (aa 4)<|af (aa 2)<|af (aa 3)<|af (cW ar) ar)<|aa 5)
  (aT (bL 6<|Od [("_law_held",0),("_law_name",5),("_law_key",4)] 0 0 (lz<|af (aa 1) ar) self<|af (mCB Co<|af (mC<|.int 0)<|af (mOp lh (aa 0)<|mC<|.int 1) ar)<|af (aa 2)<|af (mOp gGt (aa 0)<|mC<|.int 0)<|af (mOp cM (aa 3)<|mC<|.int 1) ar)
  (aT (eC 0 (cW<|af (aa 4)<|af (aa 2)<|af (aa 3)<|af (mCB pV<|af (aa 6) ar) ar)<|aa 5)
  (cw<|aa 5)))))
def fw:Nat->List D->Option ((D×Bool)×D)
 |0=>λ_=>none
 |n+1=>fnI 5 2 (xV<|fw n)
def kU:SM :=
  (aT (bL 4<|aQ a9<|af (mCB lX<|af (aa 1) ar) ar)
  (aT (eC 1 (cW<|af (aQ bB<|af (aa 3) ar)<|af (mC .none)<|af (mC<|.bool false)<|af (cW ar) ar)<|aa 4)
  (eg<|oz 2 eu<|af (aa 4) ar)))
def uW:Rho->Option (D×D) :=
  (Cz (mOr (ax<|mOp gEq (aa 0)<|eM ar)<|ax<|mOp gNe (mOp bY (mOp gIx (aa 0)<|mC<|.int 0)<|mC<|.int 7)<|mC<|.int 6) (E7 gP<|af (aa 0)<|af (mC<|.int 0) ar)
  (iw (bL 1 xa)
  (iw (bL 2<|eM<|af (uy 1 (fw 12)<|af (mOp bY (mOp iU (mOp gIx (aa 0)<|mC<|.int 0)<|mC<|.int 7)<|mC<|.int 10)<|af (mC .none)<|af (mC<|.bool false)<|af (aQ bB<|af (mOp iU (mOp gIx (aa 0)<|mC<|.int 0)<|mC<|.int 70) ar) ar) ar)
  (iw (oA (En<|mSl gSl (aa 0) (wC<|mC<|.int 1)<|wC<|mC<|.int 12) (mgN 3)
  kU)
  (AW 2 1)))))
def fA:List D->Option (D×D):=fnD 1 4 uW
def jv:SM :=
  (cL (ax<|mOp gY (aa 3)<|mC .none)
  (aT (eC 1 (mOp cM (mOp a7 (aa 1)<|aa 3)<|mC<|.int 1)<|aa 3)
  (bL 3<|mOp gIx (mOp a7 (aa 0)<|aa 3)<|mC<|.int 1))
  cD)
def jw:SM :=
  (aT (bL 3<|aa 2)
  (oA (lz<|af (mCB lX<|af (aa 0) ar) ar) (mgN 4)
  jv))
def jy:SM :=
  (eC 1 (mC<|.int 0)<|aa 2)
def rA:SM :=
  (aT (bL 1 xa)
  (aT (xc (gq 0) (mgN 2)
  jy)
  (aT (xc (gq 0) (mgN 2)
  jw)
  (cw<|aa 1))))
def fe:List D->Option (D×Bool):=fnM 1 4 rA
def jY:Rho->Option (Bool×Rho) :=
  (ax<|mOp gLe (aa 3)<|aa 0)
def jZ:SM :=
  (aT (bL 4<|mOp cM (aa 2)<|aa 3)
  (aT (bL 2<|aa 3)
  (aT (bL 3<|aa 4)
  (Ij 1 (λi j=>i+j)<|mC<|.int 1))))
def uX:SM :=
  (aT (bL 1<|mC<|.int 0)
  (aT (bL 2<|mC<|.int 1)
  (aT (bL 3<|mC<|.int 2)
  (aT (dB jY
  jZ 1000000)
  (cw<|aa 1)))))
def fO:List D->Option (D×Bool):=fnM 1 4 uX
def uY:SM :=
  (aT (bL 3<|mOp gIx (mOp gIx (mOp a7 (aa 0)<|aa 1)<|mC<|.int 3)<|aa 2)
  (aT (cL (mOr (ax<|mOp cP (aa 3)<|aa 0)<|ax<|mOp gNe (mOp gIx (mOp a7 (aa 0)<|aa 3)<|mC<|.int 1)<|aa 1)
  (cw<|mC<|.bool false)
  cD)
  (aT (bL 4<|wB (ax<|mOp gIx (mOp a7 (aa 0)<|aa 3)<|mC<|.int 2) (mOp lh (aa 2)<|mC<|.int 1)<|aa 2)
  (cw<|mOp gGe (mCB bV<|af (mOp gIx (mOp a7 (aa 0)<|aa 3)<|mC<|.int 3) ar)<|aa 4))))
def fP:List D->Option (D×Bool):=fnM 3 2 uY
def zV:SM :=
  (cw<|cW<|af (mOp gIx (mOp a7 (aa 0)<|aa 1)<|mC<|.int 0)<|af (aa 1) ar)
def aO:List D->Option (D×Bool):=fnM 2 0 zV
def iG:PM :=
  (aQ fP<|af (aa 1)<|af (aa 2)<|af (aa 0) ar)
def qk:SM :=
  (aT (bL 2<|mOp gIx (mOp a7 (aa 0)<|aa 1)<|mC<|.int 1)
  (aT (cL (ax<|mOp gIs (aa 2)<|mC .none)
  (cL (ax<|mOp gIx (mOp a7 (aa 0)<|aa 1)<|mC<|.int 2)
  (cw<|mC<|.bool false)
  cD)
  (cL (mOr (ax<|mOp cP (aa 2)<|aa 0)<|mOr (ax<|mOp gNe (mBM fL (mOp gIx (mOp a7 (aa 0)<|aa 2)<|mC<|.int 3)<|af (aa 1) ar)<|mC<|.int 1)<|ax<|mOp pX (aQ aO<|af (aa 0)<|af (aa 1) ar)<|aQ aO<|af (aa 0)<|af (aa 2) ar)
  (cw<|mC<|.bool false)
  cD))
  (cw<|mCB wK<|af (mLC [("held",0),("name",1)] (lz<|af (mCB bV<|af (mOp gIx (mOp a7 (aa 0)<|aa 1)<|mC<|.int 3) ar) ar) uu iG) ar)))
def eD:List D->Option (D×Bool):=fnM 2 1 qk
def iH:SM :=
  (aT (cL (mOr (ax<|mOp gIs (aa 2)<|mC .none)<|ax<|mOp cP (aa 2)<|aa 0)
  Pr
  cD)
  (bL 2<|mOp gIx (mOp a7 (aa 0)<|aa 2)<|mC<|.int 1))
def ql:SM :=
  (aT (bL 2<|aa 1)
  (aT (oA (lz<|af (mCB lX<|af (aa 0) ar) ar) (mgN 3)
  iH)
  (cw<|mOp gIs (aa 2)<|mC .none)))
def eE:List D->Option (D×Bool):=fnM 2 2 ql
def iI:PM :=
  (sh (aQ eD<|af (aa 1)<|af (aa 0) ar)<|aQ eE<|af (aa 1)<|af (aa 0) ar)
def eS:Rho->Option (Bool×Rho) :=
  (ax<|mOp gIs (mOp gIx (mOp a7 (aa 1)<|aa 0)<|mC<|.int 1)<|mC .none)
def eU:PM :=
  (aa 0)
def qm:SM :=
  (aT (bL 1<|mOp gIx (aa 0)<|mC<|.int 0)
  (aT (bL 2<|mOp gIx (aa 0)<|mC<|.int 1)
  (aT (cL (ax<|mOp gNe (mCB gu<|af (aa 1) ar)<|mCB gu<|af (xh [("held",2)] (gq 2) eS eU) ar)
  (cw<|mC<|.bool false)
  cD)
  (cw<|mCB wK<|af (xh [("held",2)] (gq 2) uu iI) ar))))
def cZ:List D->Option (D×Bool):=fnM 1 2 qm
def gQ:SM :=
  (aT (cL (mOr (ax<|mOp cP (aa 3)<|aa 0)<|mOr (ax<|mOp gNe (mOp gIx (mOp a7 (aa 0)<|aa 3)<|mC<|.int 1)<|aa 1)<|ax<|mOp pX (cW<|af (mOp gIx (mOp a7 (aa 0)<|aa 3)<|mC<|.int 0)<|af (aa 3) ar)<|cW<|af (mOp gIx (mOp a7 (aa 0)<|aa 1)<|mC<|.int 0)<|af (aa 1) ar)
  (cw<|mC<|.bool false)
  cD)
  (cw<|mOp gGe (mCB bV<|af (mOp gIx (mOp a7 (aa 0)<|aa 3)<|mC<|.int 3) ar)<|mOp lh (aa 2)<|mCB EF<|af (mOp gIx (mOp a7 (aa 0)<|aa 3)<|mC<|.int 2) ar))
def cQ:List D->Option (D×Bool):=fnM 4 0 gQ
def jz:SM :=
  (aT (cL (pA<|ax<|aQ cQ<|af (aa 2)<|af (aa 4)<|af (aa 6)<|af (aa 7) ar)
  (cw<|mC<|.bool false)
  cD)
  (eg<|oz 3 eu<|af (aa 7) ar))
def jA:SM :=
  (aT (cL (mOr (ax<|mOp gNe (mOp gIs (mOp gIx (aa 5)<|mC<|.int 1)<|mC .none)<|mOp CO (aa 4)<|aa 1)<|jO (ax<|mOp gIs (mOp gIx (aa 5)<|mC<|.int 1)<|mC .none)<|ax<|mOp gIx (aa 5)<|mC<|.int 2)
  (cw<|mC<|.bool false)
  cD)
  (oA (Gk<|af (mOp gIx (aa 5)<|mC<|.int 3) ar) (mgU 2<|aR (mgN 6)<|aR (mgN 7) dA)
  jz))
def rB:SM :=
  (aT (kR (aa 0)<|mgU 2<|aR (mgN 1)<|aR (mgN 2) dA)
  (aT (bL 3<|eM ar)
  (aT (xk (gq 2) (mgU 2<|aR (mgN 4)<|aR (mgN 5) dA)
  jA)
  (cw<|sh (mOp gEq (mCB Bp<|af (aa 3) ar)<|mCB bV<|af (aa 3) ar)<|mOp gEq (mOp cM (mCB bV<|af (aa 3) ar)<|mCB bV<|af (aa 1) ar)<|mCB lX<|af (aa 2) ar))))
def fg:List D->Option (D×Bool):=fnM 1 7 rB
def j0:SM :=
  (PN 1 2<|af (aa 2)<|af (mOp cM (aa 1)<|aa 2) ar)
def uZ:SM :=
  (aT (bL 1<|mC<|.int 1)
  (aT (bL 2<|mC<|.int 1)
  (aT (oA (Ci<|af (mC<|.int 1)<|af (aa 0) ar) (mgN 3)
  j0)
  (cw<|aa 1))))
def fQ:List D->Option (D×Bool):=fnM 1 3 uZ
def kW:SM :=
  (cL (mOr (ax<|mOp gLt (mOp a7 (aa 3)<|aa 5)<|aQ fQ<|af (mOp cM (mCB bV<|af (mOp gIx (aa 6)<|mC<|.int 3) ar)<|mC<|.int 2) ar)<|ax<|mOp gGt (mCB bV<|af (mOp gIx (aa 6)<|mC<|.int 3) ar)<|aa 4)
  (cw<|mC<|.bool false)
  cD)
def xW:SM :=
  (aT (kR (aa 0)<|mgU 2<|aR (mgN 1)<|aR (mgN 2) dA)
  (aT (cL (mOr (ax<|mOp oT (aQ cZ<|af (aa 0) ar)<|mC<|.bool true)<|pA<|ax<|aQ fg<|af (aa 0) ar)
  (cw<|mC<|.bool false)
  cD)
  (aT (bL 3<|aQ fe<|af (aa 2) ar)
  (aT (bL 4<|aQ fO<|af (mCB lX<|af (aa 2) ar) ar)
  (aT (xk (gq 2) (mgU 2<|aR (mgN 5)<|aR (mgN 6) dA)
  kW)
  (cw<|mC<|.bool true))))))
def fB:List D->Option (D×Bool):=fnM 1 6 xW
def xX:PM :=
  (uj xt xt (mC<|.str "a") (aa 0)<|mC<|.str "z")
def C9:SM :=
  (aT (cL (mOr (pA<|ax<|xp "str"<|aa 0)<|mOr (ax<|mOp gLt (mCB bV<|af (aa 0) ar)<|mC<|.int 1)<|ax<|mOp gGt (mCB bV<|af (aa 0) ar)<|mC<|.int 8)
  (cw<|mC<|.bool false)
  cD)
  (cw<|mCB wK<|af (mLC [] (Qp<|aa 0) uu xX) ar))
def f6:List D->Option (D×Bool):=fnM 1 0 C9
def xY:Rho->Option (D×D) :=
  (iw (cL (pA<|ax<|aQ f6<|af (aa 1) ar)
  pF
  cD)
  (iw (cL (ax<|mOp zC (aa 1)<|mOp gIx (aa 0)<|mC<|.int 1)
  pF
  cD)
  (iw (bL 3<|mCB jU<|af (mOp gIx (aa 0)<|mC<|.int 1) ar)
  (iw (eC 3 (cW<|af (aa 2)<|af (mC .none)<|af (mC<|.bool false)<|af (cW ar) ar)<|aa 1)
  (zH (mOp cM (mOp gIx (aa 0)<|mC<|.int 0)<|eM<|af (aa 1) ar) 3)))))
def gw:List D->Option (D×D):=fnD 3 1 xY
def u5:SM :=
  (cL (ax<|mOp cP (aa 1)<|mOp gIx (aa 0)<|mC<|.int 1)
  pF
  cD)
def cy:List D->Option (D×Bool):=fnM 2 0 u5
def iJ:Rho->Option (Bool×Rho) :=
  (ax<|mOp gIx (mOp a7 (aa 0)<|aa 3)<|mC<|.int 2)
def iK:SM :=
  (aT (eg<|oz 2 eu<|af (aa 3) ar)
  (bL 3<|mOp gIx (mOp a7 (aa 0)<|aa 3)<|mC<|.int 1))
def qo:SM :=
  (aT (bL 2<|eM<|af (aa 1) ar)
  (aT (bL 3<|mOp gIx (mOp a7 (aa 0)<|aa 1)<|mC<|.int 1)
  (aT (dB iJ
  iK 1000000)
  (cw<|aa 2))))
def eF:List D->Option (D×Bool):=fnM 2 2 qo
def xZ:Rho->Option (Bool×Rho) :=
  (ax<|mOp gNe (aa 0)<|aa 1)
def x8:PM :=
  (aa 0)
def Dc:SM :=
  (cw<|cW<|af (mOp gIx (aa 0)<|mC<|.int 0)<|af (mOp gIx (aa 0)<|mC<|.int 1)<|af (mOp gIx (aa 0)<|mC<|.int 2)<|af (mCB pV<|af (mLC [("name",1)] (ze<|mOp gIx (aa 0)<|mC<|.int 3) xZ x8) ar) ar)
def kH:List D->Option (D×Bool):=fnM 2 0 Dc
def Gn:SM :=
  (cw<|cW<|af (mOp gIx (aa 0)<|mC<|.int 0)<|af (mC .none)<|af (mC<|.bool false)<|af (mOp gIx (aa 0)<|mC<|.int 3) ar)
def iL:List D->Option (D×Bool):=fnM 1 0 Gn
def x9:SM :=
  (cw<|cW<|af (mOp gIx (aa 0)<|mC<|.int 0)<|af (mOp gIx (aa 0)<|mC<|.int 1)<|af (mC<|.bool true)<|af (mOp gIx (aa 0)<|mC<|.int 3) ar)
def gR:List D->Option (D×Bool):=fnM 1 0 x9
def ya:PM :=
  (cW<|af (mC<|.str "cut")<|af (aa 0) ar)
def gT:SN :=
  (bf (ck (nIx (nO<|mOp a7 (aa 2)<|aa 5)<|nLit<|.int 1)<|ngN 6)
  (bf (gN (aN 2) (aN 6)<|nO<|aQ kH<|af (mOp a7 (aa 2)<|aa 6)<|af (aa 5) ar)
  (gN (aN 2) (aN 5)<|nO<|aQ iL<|af (mOp a7 (aa 2)<|aa 5) ar)))
def Dd:SN :=
  (bf (ck (nO<|mCB jU<|af (mOp gIx (aa 0)<|mC<|.int 1) ar)<|ngN 2)
  (bf (ck (nO<|aQ eF<|af (aa 2)<|af (aa 1) ar)<|ngN 3)
  (bf (ck (nIx (nO<|mOp a7 (aa 2)<|mOp gIx (aa 3)<|mUn Cn<|mC<|.int 1)<|nLit<|.int 1)<|ngN 4)
  (bf (wZ [0,1,2,3,4] (aN 3) (ngN 5)
  gT)
  (bf (jG (nTo<|ax<|mOp gY (mOp gIx (mOp a7 (aa 2)<|aa 4)<|mC<|.int 1)<|mC .none)
  (gN (aN 2) (aN 4)<|nO<|aQ gR<|af (mOp a7 (aa 2)<|aa 4) ar)
  gL)
  (iY<|gn<|ay (gn<|ay (nO<|mOp cM (mOp gIx (aa 0)<|mC<|.int 0)<|aa 3)<|ay (aN 2) bw)<|ay (nO<|mLC [] (ur<|aa 3) uu ya) bw))))))
def f7:FN:=fnS 2 5 Dd
def yb:SN :=
  (bf (jR<|nO<|aQ cy<|af (aa 0)<|af (aa 1) ar)
  (bf (ck (nO<|mOp a7 (mOp gIx (aa 0)<|mC<|.int 1)<|aa 1)<|ngN 3)
  (bf (jG (nTo<|ax<|mOp gGe (aa 2)<|mOp gIx (aa 3)<|mC<|.int 0)
  zx
  gL)
  (bf (ck (nO<|mCB jU<|af (mOp gIx (aa 0)<|mC<|.int 1) ar)<|ngN 4)
  (bf (gN (aN 4) (aN 1)<|gn<|ay (aN 2)<|ay (nIx (aN 3)<|nLit<|.int 1)<|ay (nIx (aN 3)<|nLit<|.int 2)<|ay (nIx (aN 3)<|nLit<|.int 3) bw)
  (bf (jG (nTo<|mOr (ax<|mOp gIs (mOp gIx (aa 3)<|mC<|.int 1)<|mC .none)<|ax<|mOp JC (aQ aO<|af (aa 4)<|af (aa 1) ar)<|aQ aO<|af (aa 4)<|af (mOp gIx (aa 3)<|mC<|.int 1) ar)
  (iY<|gn<|ay (gn<|ay (nO<|mCB EG<|af (mOp gIx (aa 0)<|mC<|.int 0) ar)<|ay (aN 4) bw)<|ay (CF bw) bw)
  gL)
  (iY<|gp f7<|ay (gn<|ay (nIx (aN 0)<|nLit<|.int 0)<|ay (aN 4) bw)<|ay (aN 1) bw)))))))
def c7:FN:=fnS 3 2 yb
def c8:PM :=
  (aQ aO<|af (mOp gIx (aa 1)<|mC<|.int 1)<|af (aa 0) ar)
def u9:SM :=
  (aT (cL (ax<|mOp gEq (mCB bV<|af (mOp gIx (aa 0)<|mC<|.int 0) ar)<|mC<|.int 0)
  pF
  cD)
  (cw<|FY [("pile",0)] (mOp gIx (aa 0)<|mC<|.int 0) c8))
def fT:List D->Option (D×Bool):=fnM 1 0 u9
def Ou:SN :=
  (bf (ck (nO<|mOp a7 (aa 0)<|aa 1)<|ngN 3)
  (bf (gN (aN 0) (aN 1)<|gn<|ay (nIx (aN 3)<|nLit<|.int 0)<|ay (aN 2)<|ay (nLit<|.bool false)<|ay (nIx (aN 3)<|nLit<|.int 3) bw)
  (bf (ck (nO<|mOp a7 (aa 0)<|aa 2)<|ngN 3)
  (gN (aN 0) (aN 2)<|gn<|ay (nIx (aN 3)<|nLit<|.int 0)<|ay (nIx (aN 3)<|nLit<|.int 1)<|ay (nIx (aN 3)<|nLit<|.int 2)<|ay (nO<|mOp nP (mOp gIx (aa 3)<|mC<|.int 3)<|cW<|af (aa 1) ar) bw))))
def vb:FN:=fnS 3 1 Ou
def j4:Rho->Option (Bool×Rho) :=
  (ax<|mOp gIs (mOp gIx (mOp a7 (aa 1)<|aa 0)<|mC<|.int 1)<|mC .none)
def j5:PM :=
  (aa 0)
def j6:MN Bool :=
  (nTo<|ax<|mOp zC (mCB bV<|af (mOp gIx (mOp a7 (aa 1)<|aa 5)<|mC<|.int 3) ar)<|aa 2)
def j7:SN :=
  (bf (ck (pZ (aN 2)<|ay (nO<|mCB bV<|af (mOp gIx (mOp a7 (aa 1)<|aa 5)<|mC<|.int 3) ar) bw)<|ngN 6)
  (bf (jG (nTo<|ax<|mOp pX (aQ aO<|af (aa 1)<|af (aa 6) ar)<|aQ aO<|af (aa 1)<|af (aa 5) ar)
  (bf (ck (aN 6)<|ngN 7)
  (bf (ck (aN 5)<|ngN 6)
  (ck (aN 7)<|ngN 5)))
  gL)
  (bf (jR<|gp vb<|ay (aN 1)<|ay (aN 6)<|ay (aN 5) bw)
  (jR<|CG (aN 3)<|ay (gn<|ay (nLit<|.str "hang")<|ay (aN 6)<|ay (aN 5) bw) bw))))
def j8:SN :=
  (bf (ck (aN 4)<|ngN 5)
  (bf (fG [0,1,2,3,4,5] j6
  j7 1000000)
  (gN (aN 2) (nO<|mCB bV<|af (mOp gIx (mOp a7 (aa 1)<|aa 5)<|mC<|.int 3) ar)<|aN 5)))
def vc:SN :=
  (bf (ck (nO<|mCB jU<|af (mOp gIx (aa 0)<|mC<|.int 1) ar)<|ngN 1)
  (bf (ck (nO xa)<|ngN 2)
  (bf (ck (CF bw)<|ngN 3)
  (bf (wZ [0,1,2,3] (nIx (aN 0)<|nLit<|.int 0) (ngN 4)
  j8)
  (iY<|gn<|ay (gn<|ay (nO<|mLC [("held",1)] (ur<|mOp gIx (aa 0)<|mC<|.int 0) j4 j5)<|ay (aN 1) bw)<|ay (aN 3) bw)))))
def fU:FN:=fnS 1 7 vc
def l7:SN :=
  (bf (gN (aN 2) (aN 6)<|nO<|aQ iL<|af (mOp a7 (aa 2)<|aa 6) ar)
  (bf (jR<|CG (aN 4)<|ay (aN 6) bw)
  (jR<|CG (aN 5)<|ay (gn<|ay (nLit<|.str "free")<|ay (aN 6) bw) bw)))
def l8:Rho->Option (Bool×Rho) :=
  (ax<|mOp gNe (aa 0)<|aa 1)
def l9:PM :=
  (aa 0)
def zW:SN :=
  (bf (ck (nO<|mCB jU<|af (mOp gIx (aa 0)<|mC<|.int 1) ar)<|ngN 2)
  (bf (ck (pZ (aN 2)<|ay (aN 1) bw)<|ngN 3)
  (bf (ck (nO<|mLC [("name",1)] (ur<|mOp gIx (aa 0)<|mC<|.int 0) l8 l9)<|ngN 4)
  (bf (ck (CF bw)<|ngN 5)
  (bf (Fl [0,1,2,3,4,5,7] (ze<|mOp gIx (aa 3)<|mC<|.int 3) (ngN 6)
  l7)
  (bf (ck (gp fU<|ay (gn<|ay (aN 4)<|ay (aN 2) bw) bw)<|ngN 7)
  (iY<|gn<|ay (nIx (aN 3)<|nLit<|.int 0)<|ay (nIx (aN 7)<|nLit<|.int 0)<|ay (nO<|mOp cM (aa 5)<|mOp gIx (aa 7)<|mC<|.int 1) bw)))))))
def dW:FN:=fnS 2 6 zW
def vd:SN :=
  (bf (ck (nO<|aQ fT<|af (aa 0) ar)<|ngN 1)
  (bf (ck (gp dW<|ay (aN 0)<|ay (aN 1) bw)<|ngN 2)
  (iY<|gn<|ay (aN 1)<|ay (nIx (aN 2)<|nLit<|.int 0)<|ay (nIx (aN 2)<|nLit<|.int 1)<|ay (nIx (aN 2)<|nLit<|.int 2) bw)))
def fV:FN:=fnS 1 2 vd
def De:SN :=
  (bf (jR<|nO<|aQ cy<|af (aa 0)<|af (aa 1) ar)
  (bf (jG (nTo<|ax<|mOp gIs (mOp gIx (mOp a7 (mOp gIx (aa 0)<|mC<|.int 1)<|aa 1)<|mC<|.int 1)<|mC .none)
  (iY<|gp dW<|ay (aN 0)<|ay (aN 1) bw)
  gL)
  (bf (ck (gp f7<|ay (aN 0)<|ay (aN 1) bw)<|ngN 2)
  (bf (ck (gp dW<|ay (nIx (aN 2)<|nLit<|.int 0)<|ay (aN 1) bw)<|ngN 3)
  (iY<|gn<|ay (nIx (aN 3)<|nLit<|.int 0)<|ay (nIx (aN 3)<|nLit<|.int 1)<|ay (nO<|mOp cM (mOp gIx (aa 2)<|mC<|.int 1)<|mOp gIx (aa 3)<|mC<|.int 2) bw)))))
def kI:FN:=fnS 2 2 De
def zX:SN :=
  (bf (ck (nO<|mOp iU (aa 2)<|mC<|.int 4)<|ngN 3)
  (bf (ck (nO<|mCB lA<|af (mOp gIx (aa 0)<|mC<|.int 1) ar)<|ngN 4)
  (bf (jG (nTo<|mOr (ax<|mOp gEq (aa 4)<|eM ar)<|jO (ax<|mOp gEq (mOp bY (aa 2)<|mC<|.int 4)<|mC<|.int 3)<|ax<|mOp gLt (mCB bV<|af (aa 4) ar)<|mC<|.int 100)
  (iY<|m5 gw<|ay (aN 0)<|ay (nO<|aQ a9<|af (mOp cM (mC<|.int 100)<|aa 1) ar)<|ay (nO<|aQ bB<|af (aa 3) ar) bw)
  gL)
  (bf (ck (nIx (aN 4)<|nO<|mOp bY (aa 3)<|mCB bV<|af (aa 4) ar)<|ngN 5)
  (bf (jG (nTo<|mOr (ax<|mOp gEq (mOp bY (aa 2)<|mC<|.int 4)<|mC<|.int 0)<|ax<|mOp gEq (mOp bY (aa 2)<|mC<|.int 4)<|mC<|.int 3)
  (iY<|nIx (gp fV<|ay (aN 0) bw)<|nLit<|.int 2)
  gL)
  (bf (jG (nTo<|ax<|mOp gEq (mOp bY (aa 2)<|mC<|.int 4)<|mC<|.int 1)
  (iY<|nIx (gp kI<|ay (aN 0)<|ay (aN 5) bw)<|nLit<|.int 1)
  gL)
  (iY<|nIx (gp c7<|ay (aN 0)<|ay (aN 5)<|ay (nO<|mOp lh (mOp lh (mOp gIx (mOp a7 (mOp gIx (aa 0)<|mC<|.int 1)<|aa 5)<|mC<|.int 0)<|mC<|.int 1)<|mOp bY (aa 3)<|mOp zf (mC<|.int 10)<|mC<|.int 20) bw)<|nLit<|.int 0)))))))
def i8:FN:=fnS 3 3 zX
def Bq:SN :=
  (bf (ck (gp i8<|ay (aN 3)<|ay (aN 4)<|ay (nIx (aN 0)<|aN 4) bw)<|ngN 3)
  (jG (nTo<|pA<|ax<|aQ fB<|af (aa 3) ar)
  (iY<|nLit<|.bool false)
  gL))
def Br:SN :=
  (bf (ck (m5 fA<|ay (nO<|mSl gSl (aa 0) (wC<|mC<|.int 20)<|wC<|mC<|.int 60) bw)<|ngT 2<|iZ 1<|iZ 2 zy)
  (bf (ck (gn<|ay (aN 1)<|ay (aN 2) bw)<|ngN 3)
  (bf (jG (nTo<|pA<|ax<|aQ fB<|af (aa 3) ar)
  (iY<|nLit<|.bool false)
  gL)
  (bf (Fl [0,1,2,3] (lz<|af (mCB Iu<|af (mC<|.int 20)<|af (mCB bV<|af (aa 0) ar) ar) ar) (ngN 4)
  Bq)
  (iY<|nLit<|.bool true)))))
def LC:List D->Option (D×Bool):=fnO 1 4 Br
local macro_rules | `(tactic| fail "mir") => `(tactic| simp only [*, fnM, aT, cL, ax, mOp, sv, aa, mC, mCB, af, ar, mJ, gB0, gI0, gI, cM, Cm, Cn, gIx, Iz, gSl, bV, Co, Iu, Q3, EF, gIs, gY, Nh, Ni, Nj, asB, asI, mUn, Q4, AS, AU, wN, EO, EM, wL, wO, ux, ri, oB, isNone,
 jO,mOr,pA,sh,QV,Pm,wB,cW,eM,fv,gK,bL,sto,eL,cw,Pt,eg,cD,Ij,wJ,aQ,Cr,zj,Cs,zk,zo,Ct,Cu,pH,pI,wQ,wR,nJ,Q6,Q7,lz,Ci,rg1,rg2,ur,En,asL,asT,oA,mgN,mgT,mgU,asS,aR,dA,kR,Pu,pE,Mir.putAt,Sl.put,oz,sj,eu,Q5,Nd,
 List.length_cons,List.length_nil,List.map_cons,List.map_nil,List.cons_append,List.nil_append,List.replicate,List.getElem?_cons_zero,List.getElem?_cons_succ,List.getElem?_nil,List.set_cons_zero,List.set_cons_succ,
 Option.bind_some,Option.bind_none,Option.map_some,Option.map_none,if_true,if_false,Eh,Bool.false_eq_true,reduceIte,decide_true,decide_false,Bool.not_true,Bool.not_false,ite_true,ite_false,Nat.reduceAdd,Nat.reduceEqDiff,Bool.and_true,Bool.true_and,Bool.and_false,Bool.not_eq_true,not_true_eq_false,not_false_eq_true,Int.reduceLT,Int.reduceLE,Int.reduceEq,Nat.reduceLeDiff])
local macro_rules | `(tactic| fail "st") => `(tactic| (apply az; · (fail "mir"; try exact rfl)))
theorem qp(l:List D)(k:Int)(d:D)(h:L2.atI l k=some d):gIx (.list l) (.int k)=some (d,false):=by
 show(L2.atI l k).map _=_;rw[h];rfl
def NIo(s:Sl):Prop:=∀d,s≠.io d
theorem NIo.no:NIo .no:=λd h=>by cases h
theorem NIo.fz(x:D):NIo (.fz x):=λd h=>by cases h
theorem NIo.own(x:D):NIo (.own x):=λd h=>by cases h
theorem fj(q:Sl)(h : L[i]?=some s)(hs:NIo s):eL L i q=some (L.set i q):=by
 unfold eL;rw[h];cases s<;>first|rfl|exact absurd rfl (hs _)
def cC(h : L[i]?=some s)(hs:NIo s):mgN i d L=some (L.set i<|.fz d):=fj _ h hs
def LT:Str:="abcdefghijklmnopqrstuvwxyz"
def letter(j:Nat):Str:=⟨#[LT.cps.toList.getD j 97]⟩
theorem Qx:∀j:Nat,j<26->atI LT.cps.toList (j:Int)=some (LT.cps.toList.getD j 97):=by decide
theorem sT(j:Nat)(h:j<26):uM (.str LT) (.int (j:Int))=some (.str<|letter j,false):=by
 show cIf (LT.length<=sizeLine) _ none=_;rw[aX (by rw[sizeLine_eq];decide),Qx j h];rfl
noncomputable def sfx(j:Nat):Str:=(["a","zz","aaa","zzzz","bbbbb","zzzzzz"]:List Str).getD j ""
def aq(k:Nat):Str:=if k%2=1 then letter (k/52%26)++letter (k/2%26)++sfx (k/2%6)else letter (k/52%26)++letter (k/2%26)
theorem qq:∀i:Nat,i<26->∀j:Nat,j<26->LT.cps.toList.getD i 97=LT.cps.toList.getD j 97->i=j:=by decide
theorem Ka:∀j:Nat,j<6->0<(sfx j).cps.size:=by decide
theorem sU(k:Nat):(aq k).cps.toList=LT.cps.toList.getD (k/52%26) 97::LT.cps.toList.getD (k/2%26) 97::(if k%2=1 then(sfx<|k/2%6).cps.toList else []):=by
 unfold aq;split
 .show((#[LT.cps.toList.getD (k/52%26) 97]++#[LT.cps.toList.getD (k/2%26) 97])++(sfx<|k/2%6).cps).toList=_
  simp
 .show(#[LT.cps.toList.getD (k/52%26) 97]++#[LT.cps.toList.getD (k/2%26) 97]).toList=_
  simp
theorem fC:∀i:Nat,i<1300->∀j:Nat,j<i->aq i≠aq j:=λi hi j p e=>by
 have f:(aq i).cps.toList=(aq j).cps.toList:=by rw[e]
 rw[sU,sU]at f;injection f with h d
 injection d with d k
 have m:=qq _ (Nat.mod_lt _ (by decide)) _ (Nat.mod_lt _ (by decide)) h
 have n:=qq _ (Nat.mod_lt _ (by decide)) _ (Nat.mod_lt _ (by decide)) d
 have q:=Ka (i/2%6) (Nat.mod_lt _ (by decide))
 have c:=congrArg List.length k;have h3:i%2=j%2:=by
  by_cases a:i%2=1<;>by_cases b:j%2=1
  .lia
  .rw[if_pos a,if_neg b]at c
   have z:(sfx<|i/2%6).cps.toList.length=0:=c;rw[Array.length_toList]at z;lia
  .rw[if_neg a,if_pos b]at c
   have z:=c;rw[Array.length_toList]at z;lia
  .lia
 lia
def oU(m:Str):keyOf (.str m)=some (.inr m):=rfl
def aM:Option Str->D
 |none=>.none
 |some a=>.str a
def bc(r:aw.Row):D:=.tuple [.int r.key,aM r.above,.bool r.mark,.tuple<|r.below.map .str]
def bA(S0:List Str)(K0:Str->aw.Row):List (D×D):=S0.map λn=>(PyData.str n,bc<|K0 n)
theorem eV(K0:Str->aw.Row)(n:Str):∀S0:List Str,cO (bA S0 K0) (.inr n)=if n∈S0 then some (bc<|K0 n)else none
 | []=>rfl
 |m::S0=>by
  show(if keyOf (.str m)=some (.inr n)then some (bc<|K0 m)else cO (bA S0 K0) (.inr n))=_
  by_cases e:m=n
  .subst e
   rw[if_pos<|oU m,if_pos zas]
  .have a : ¬keyOf (.str m)=some (.inr n):=λz=>e (Sum.inr.inj<|zaQ z)
   rw[if_neg a,eV K0 n S0]
   by_cases h:n∈S0
   .rw[if_pos h,if_pos<|zak _ h]
   .rw[if_neg h,if_neg λz=>by
     rcases zaf z with z|z
     .exact e z.symm
     .exact h z]
noncomputable def aI(K0:Str->aw.Row)(n:Str)(r:aw.Row):Str->aw.Row:=λm=>if m=n then r else K0 m
theorem ve(S0:List Str)(K0:Str->aw.Row)(n:Str)(r:aw.Row)(h:n∈S0):putD (bA S0 K0) (.str n) (bc r) (.inr n)=bA S0 (aI K0 n r):=by
 unfold putD;rw[eV,if_pos h];unfold bA;rw[List.map_map];refine List.map_congr_left λm _=>?_
 show(if keyOf (.str m)=some (.inr n)then(PyData.str m,bc r)else(PyData.str m,bc<|K0 m))=(PyData.str m,bc<|aI K0 n r m)
 unfold aI
 by_cases e:m=n
 .subst e
  rw[if_pos<|oU m,if_pos rfl]
 .have a : ¬keyOf (.str m)=some (.inr n):=λz=>e (Sum.inr.inj<|zaQ z)
  rw[if_neg a,if_neg e]
theorem vg(S0:List Str)(K0:Str->aw.Row)(n:Str)(r:aw.Row)(h:n∉S0):putD (bA S0 K0) (.str n) (bc r) (.inr n)=bA (S0++[n]) (aI K0 n r):=by
 unfold putD;rw[eV,if_neg h];show bA S0 K0++[(.str n,bc r)]=_;unfold bA;rw[za1]
 congr 1
 .refine List.map_congr_left λm hm=>?_
  unfold aI;rw[if_neg λz=>h (by rw[<-z];exact hm)]
 .show [(PyData.str n,bc r)]=[(PyData.str n,bc<|aI K0 n r n)]
  unfold aI;rw[if_pos rfl]
theorem qr(S0:List Str)(K0:Str->aw.Row):(bA S0 K0).length=S0.length:=by unfold bA;rw[zal]
theorem kJ(S0:List Str)(K0:Str->aw.Row):(bA S0 K0).map (·.1)=S0.map .str:=by unfold bA;rw[List.map_map];rfl
theorem Bu(S0:List Str)(K0:Str->aw.Row)(n:Str)(h:n∈S0):a7 (.dict<|bA S0 K0) (.str n)=some (bc<|K0 n,false):=by
 show(cO (bA S0 K0)<|.inr n).map _=_;rw[eV,if_pos h];rfl
theorem Kb(S0:List Str)(K0:Str->aw.Row)(n:Str):zC (.str n) (.dict<|bA S0 K0)=some (.bool<|decide<|n∈S0,false):=by
 show some (PyData.bool (cO (bA S0 K0)<|.inr n).isSome,false)=_;rw[eV]
 by_cases h:n∈S0
 .rw[if_pos h,zaH h];rfl
 .rw[if_neg h,zaO h];rfl
def qt(j:Nat):(letter j).length=1:=rfl
theorem Kc:∀j:Nat,j<6->(sfx j).length<=6:=by decide
theorem add_str(a b:Str)(h:a.length+b.length<=1000):cM (.str a) (.str b)=some (.str<|a++b,false):=by
 show cIf (a.length+b.length<=sizeLine) _ none=_;rw[aX (by rw[sizeLine_eq];lia)]
def two_len(i j:Nat):(letter i++letter j).length=2:=rfl
theorem oV(k:Nat):a9 [.int (k:Int)]=some (.str<|aq k,false):=by
 have hk:∀{L:Rho},L[0]?=some (.fz<|.int (k:Int))->∀(a b:Nat),0<a->a<1000->0<b->IE (mOp bY (mOp iU (aa 0)<|mC<|.int (a:Int))<|mC<|.int (b:Int)) L ((k/a%b:Nat):Int):=fun{L} h a b ha q hb=>by
  have:=cY (mP (a6 h) (bC (i:=(a:Int))) ⟨by lia,by lia⟩) (bC (i:=(b:Int))) (by lia)
  rwa[show((k:Int)/(a:Int)%(b:Int))=((k/a%b:Nat):Int) by rw[Int.natCast_emod,Int.natCast_ediv]]at this
 have t:∀{L:Rho},L[0]?=some (.fz<|.int (k:Int))->L[1]?=some (.fz<|.str LT)->mOp uM (aa 1) (mOp bY (mOp iU (aa 0)<|mC<|.int 52)<|mC<|.int 26) L=some ((.str<|letter<|k/52%26,.fz),L):=fun{L} e f=>aL (ah<|ai f) (ah<|hk e 52 26 (by lia) (by lia) (by lia)) (sT _ (by lia))
 have v:∀{L:Rho},L[0]?=some (.fz<|.int (k:Int))->L[1]?=some (.fz<|.str LT)->mOp uM (aa 1) (mOp bY (mOp iU (aa 0)<|mC<|.int 2)<|mC<|.int 26) L=some ((.str<|letter<|k/2%26,.fz),L):=fun{L} e f=>aL (ah<|ai f) (ah<|hk e 2 26 (by lia) (by lia) (by lia)) (sT _ (by lia))
 have em:∀{L:Rho},L[0]?=some (.fz<|.int (k:Int))->IE (mOp bY (aa 0)<|mC<|.int 2) L ((k:Int)%2):=fun{L} h=>cY (a6 h) bC (by decide)
 have p:=add_str (letter<|k/52%26) (letter<|k/2%26) (by rw[qt,qt];lia)
 have hd:∀(u:SM) (o:Option Out),u [.fz<|.int (k:Int),.fz<|.str LT,.fz<|.str<|letter (k/52%26)++letter (k/2%26)]=o->aT (bL 1<|mC<|.str "abcdefghijklmnopqrstuvwxyz") (aT (bL 2<|mOp cM (mOp uM (aa 1)<|mOp bY (mOp iU (aa 0)<|mC<|.int 52)<|mC<|.int 26)<|mOp uM (aa 1)<|mOp bY (mOp iU (aa 0)<|mC<|.int 2)<|mC<|.int 26) u) [.fz<|.int (k:Int),.no,.no]=o:=λu o h=>by
  refine az (bz rfl rfl) ?_;exact az (bz (aL (ah<|t rfl rfl) (ah<|v rfl rfl) p) rfl) h
 by_cases c:k%2=1
 .have d:aq k=letter (k/52%26)++letter (k/2%26)++sfx (k/2%6):=if_pos c
  rw[d];refine cf (o:=.rt (.str<|letter (k/52%26)++letter (k/2%26)++sfx (k/2%6),.fz) [.fz<|.int (k:Int),.fz<|.str LT,.fz<|.str<|letter (k/52%26)++letter (k/2%26)++sfx (k/2%6)]) rfl (hd _ _ ?_) rfl;have n:∀j:Nat,j<6->gIx (.list [.str "a",.str "zz",.str "aaa",.str "zzzz",.str "bbbbb",.str "zzzzzz"]) (.int (j:Int))=some (.str<|sfx j,false):=λj w=>by
   have:j=0\/j=1\/j=2\/j=3\/j=4\/j=5:=by lia
   rcases this with rfl|rfl|rfl|rfl|rfl|rfl<;>rfl
  refine az (mM (tEq (em rfl) bC (by lia))<|bz (aL (ah<|ai rfl) (ah<|aL (eA<|eO rfl rfl (by simp)) (ah<|hk rfl 2 6 (by lia) (by lia) (by lia))<|n _ (by lia))<|add_str _ _ (by have:=Kc (k/2%6) (by lia);rw[two_len];lia)) rfl) (bH<|ai rfl)
 .have d:aq k=letter (k/52%26)++letter (k/2%26):=if_neg c
  rw[d];exact cf rfl (hd _ _<|az (eN (tNe (em rfl) bC (by lia)) rfl)<|bH<|ai rfl) rfl
theorem key_is(c:Int):∃v:Int,bB [.int c]=some (.int v,false):=by
 have em:∀{L:Rho},IE (mOp bY (aa 0)<|mC<|.int 3) (.fz (.int c)::L) (c%3):=fun{L}=>cY (a6 rfl) bC (by decide)
 have b:∀{L:Rho},IE (mOp iU (aa 0)<|mC<|.int 3) (.fz (.int c)::L) (c/3):=fun{L}=>mP (a6 rfl) bC ⟨by decide,by decide⟩
 by_cases d:c%3=0
 .exact⟨c/3%5-2,cf rfl (pJ<|mM (tEq em bC d)<|bH<|jQ (cY b bC (by decide)) bC) rfl⟩
 .by_cases f:c%3=1
  .exact⟨c/3%61-30,cf rfl (az (eN (tNe em bC d) rfl)<|pJ<|mM (tEq em bC f)<|bH<|jQ (cY b bC (by decide)) bC) rfl⟩
  .have e:∀{L:Rho},IE (mOp zf (mC<|.int 10)<|mC<|.int 59) L ((10:Int)^(59:Int).toNat):=fun{L}=>ET bC bC ⟨by decide,by decide,by decide⟩
   have h:IE (mOp Cm (mC<|.int 2)<|mOp zf (mC<|.int 10)<|mC<|.int 59) [.fz<|.int c] (2*(10:Int)^(59:Int).toNat):=Nq bC e (IntMulOk.of_left (by decide))
   exact⟨_,cf rfl (az (eN (tNe em bC d) rfl)<|az (eN (tNe em bC f) rfl)<|bH<|jQ (cY b (g6 h bC) (by decide)) e) rfl⟩
def qu(h:n∈S0){a b:PM}{L:Rho}(ha:sv a L=some ((.dict<|bA S0 K0,.fz),L))(hb:b L=some ((.str n,.fz),L)):mOp a7 a b L=some ((bc<|K0 n,.fz),L):=aL ha (ah hb) (Bu S0 K0 n h)
def eG{a:PM}(h:a L=some ((bc r,.fz),L)):IE (mOp gIx a<|mC<|.int 0) L r.key:=aL (Y0:=(.int r.key,false)) (ah h) (ah rfl) rfl
def bx{a:PM}(h:a L=some ((bc r,.fz),L)):mOp gIx a (mC<|.int 1) L=some ((aM r.above,.fz),L):=aL (Y0:=(aM r.above,false)) (ah h) (ah rfl) rfl
def gx{a:PM}(h:a L=some ((bc r,.fz),L)):mOp gIx a (mC<|.int 2) L=some ((.bool r.mark,.fz),L):=aL (Y0:=(.bool r.mark,false)) (ah h) (ah rfl) rfl
def dq{a:PM}(h:a L=some ((bc r,.fz),L)):mOp gIx a (mC<|.int 3) L=some ((.tuple<|r.below.map .str,.fz),L):=aL (Y0:=(.tuple<|r.below.map .str,false)) (ah h) (ah rfl) rfl
theorem Df(S0:List Str)(K0:Str->aw.Row)(x y:Str)(g:x∈S0)(l:y∈S0):dk [.dict<|bA S0 K0,.str x,.str y]=some (.bool<|aF (K0 x).key x (K0 y).key y,false):=by
 generalize b:PyData.dict (bA S0 K0)=X;have c:mOp a7 (aa 0) (aa 1) [.fz X,.fz<|.str x,.fz<|.str y]=some ((bc<|K0 x,.fz),[.fz X,.fz<|.str x,.fz<|.str y]):=qu g (by rw[b];exact ah (ai rfl)) (ai rfl)
 have d:mOp a7 (aa 0) (aa 2) [.fz X,.fz<|.str x,.fz<|.str y]=some ((bc<|K0 y,.fz),[.fz X,.fz<|.str x,.fz<|.str y]):=qu l (by rw[b];exact ah (ai rfl)) (ai rfl)
 have e:=bR (cG (eG c)<|ao (ah<|ai (i:=1) rfl) aG) rfl (by simp)
 have ty:=bR (cG (eG d)<|ao (ah<|ai (i:=2) rfl) aG) rfl (by simp)
 exact cf rfl (bH<|aL (Y0:=(.bool<|aF (K0 x).key x (K0 y).key y,false)) (ah e) (ah ty) rfl) rfl
theorem fY:∀g:List Str,jt (g.map PyData.str)=some g
 | []=>rfl
 |z::g=>by
  show(jt<|g.map PyData.str).map (z::·)=_
  rw[fY g];rfl
def Is(L:Rho)(i:Nat)(d:D):Prop:=L[i]?=some (.fz d)\/L[i]?=some (.own d)\/L[i]?=some (.io d)
theorem zq(h : L[i]?=some (.io d)):aa i L=some ((d,.at i),L):=by unfold aa;rw[h]
theorem Qy(O:sv a L=some ((x,.at i),I))(U:sv b I=some (r,l))(h4 : l[i]?=some (.io y))(h3:g y r.1=some M):mOp g a b L=some (jN M,l):=by
 unfold mOp;rw[O,zai];dsimp only;rw[U,zai];simp only[mJ,h4,Option.bind_some,h3,Option.map_some]
theorem nU(h:Is L i x)(l:sv b L=some (r,L))(h3:g x r.1=some Y0):mOp g (aa i) b L=some (jN Y0,L):=by
 rcases h with h|h|h
 .exact aL (ah<|ai h) l h3
 .exact PQ (pK<|fK h) l h h3
 .exact Qy (pK<|zq h) l h h3
theorem Ke{x:D}{rs:List RV}(h:Is L i x)(g:m L=some (rs,L)):∃k,af (aa i) m L=some ((x,k)::rs,L):=by
 rcases h with h|h|h
 .exact⟨_,ao (ah<|ai h) g⟩
 .exact⟨_,oN (pK<|fK h) g h⟩
 .refine⟨.at i,?_⟩
  unfold af;rw[pK<|zq h,zai];dsimp only
  rw[g,zai];simp only[mJ,h,Option.map_some]
theorem sV(h:Is L i x)(l:g [x]=some Y0):mCB g (af (aa i) ar) L=some (jN Y0,L):=by
 obtain⟨k,e⟩:=Ke h aG;exact dY e l
def zY{l:List D}(h:Is L i<|.list l):IE (mCB bV<|af (aa i) ar) L (l.length:Int):=sV (Y0:=(.int (l.length:Int),false)) h rfl
theorem kK(h:Is L i<|.dict<|bA S0 K0):IE (mCB lX<|af (aa i) ar) L (S0.length:Int):=sV (Y0:=(.int (S0.length:Int),false)) h (by show some (PyData.int ((bA S0 K0).length:Int),false)=_;rw[qr])
def a8{K0:Str->aw.Row}{n:Str}{b:PM}(h:Is L i<|.dict<|bA S0 K0)(hn:n∈S0)(hb:b L=some ((.str n,.fz),L)):mOp a7 (aa i) b L=some ((bc<|K0 n,.fz),L):=nU h (ah hb) (Bu S0 K0 n hn)
theorem kL{a:PM}{d:D}(h:a L=some ((d,.fz),ρ1))(I:g d ρ1=some l):kR a g L=some (.nx l):=by
 unfold kR;rw[ah h,zai];dsimp only[gK,Option.bind_some];rw[I];rfl
def Dg(S0:List Str)(n:Str):List Str:=if n∈S0 then S0 else S0++[n]
def du(h:n∈S0):Dg S0 n=S0:=if_pos h
def md(h:n∉S0):Dg S0 n=S0++[n]:=if_neg h
theorem yc(S0:List Str)(K0:Str->aw.Row)(n:Str)(r:aw.Row):putD (bA S0 K0) (.str n) (bc r) (.inr n)=bA (Dg S0 n) (aI K0 n r):=by
 by_cases h:n∈S0
 .rw[du h,ve _ _ _ _ h]
 .rw[md h,vg _ _ _ _ h]
theorem fW{a b:PM}{S0:List Str}{K0:Str->aw.Row}{n:Str}{r:aw.Row}{s:Sl}(ha:a L=some ((bc r,.fz),L))(hb:b L=some ((.str n,.fz),L))(h : L[i]?=some s)(hs:s=.own (.dict<|bA S0 K0)\/s=.io (.dict<|bA S0 K0))(l:S0.length<=1000):eC i a b L=some (.nx<|L.set i<|s.put<|.dict<|bA (Dg S0 n)<|aI K0 n r):=by
 have c:(bA S0 K0).length<100000:=by rw[qr];lia
 have ho:uG (some s)=some (bA S0 K0):=by rcases hs with rfl|rfl<;>rfl
 unfold eC;rw[ah ha,zai];dsimp only[gK,Option.bind_some]
 rw[h,ho,zai,ah hb,zai];dsimp only[keyOf,Option.bind_some]
 rw[h,ho,zai,aX c,yc];unfold Mir.putAt;rw[h]
theorem lB(U:pE L[i]?=some O)(Y:m L=some (rs,ρ1))(h2:fv rs ρ1=some (M,l))(h3:pE l[i]?=some ds)(h4:f ds M=some w)(h5:Mir.putAt l i (.list w.1)=I):oz i f m L=some ((w.2,.fz),I):=by
 unfold oz;rw[U,zai,Y,zai];dsimp only
 rw[h2,zai];dsimp only
 rw[h3,zai,h4,zaT,h5]
theorem ni(d:D)(h:ds.length<=100000):eu ds [d]=some (ds++[d],.none):=by
 show cIf _ _ _=_;rw[aX<|wU h]
theorem ye{L ρ1 g l:Rho}{rs:List RV}{ds:List D}{s t s0 t0:Sl}{d d1 d2 M dT:D}{o:Bool}{r:RV}(I:i≠j)(a:ownAt L i=some s0)(b:ownAt L j=some t0)(Y:m L=some (rs,ρ1))(h2:fv rs ρ1=some (ds,g))(h3:ownAt g i=some s)(h4:ownAt g j=some t)(h5:f (M::dT::ds)=some ((d,o),d1,d2))(h6:(g.set i<|s.put d1).set j (t.put d2)=l)(O:slD s=M:=by rfl)(U:slD t=dT:=by rfl)(h7:kO d o=r:=by rfl):iW i j f m L=some (r,l):=by
 subst O U h7;unfold iW;rw[if_neg I,a,zai,b,zai,Y,zai];dsimp only
 rw[h2,zai];dsimp only
 rw[h3,zai,h4,zai,h5,zaT,h6]
theorem zZ(M:ds.length+2=n)(O:b (.io l::.io I::ds.map .fz++List.replicate k .no)=some o)(U:wJ o=some r)(h3:io2 (mQ o)=some d):fnJ n k b (l::I::ds)=some (r,d):=by
 show(if ds.length+2=n then _ else _)=_
 rw[if_pos M,O,zai,U,zai,h3,zaT]
abbrev TD(ag:List Str):D:=.list (ag.map .str)
abbrev HD(S0:List Str)(K0:Str->aw.Row):D:=.dict (bA S0 K0)
theorem Gq:∀{g:List Str},z∈g->∃j,xj g z=some j/\g.eraseIdx j=g.erase z
 | [],h=>by cases h
 |a::g,h=>by
  unfold xj
  by_cases e:a=z
  .subst e
   exact⟨0,if_pos rfl,by simp⟩
  .obtain⟨j,b,c⟩:=Gq ((zaf h).resolve_left λq=>e q.symm)
   refine⟨j+1,?_,?_⟩
   .rw[if_neg e,b];rfl
   .rw[List.eraseIdx_cons_succ,c,List.erase_cons_tail (by simpa using e)]
theorem Ov{l:List Str}(h:z∈l):oO (l.map .str) [.str z]=some ((l.erase z).map .str,.none):=by
 obtain⟨j,c,d⟩:=Gq h;show(jt<|l.map .str).bind _=_;rw[fY,zai,c,zaT,<-d,uK]
def aY(K0:Str->aw.Row)(name on:Str):Str->aw.Row :=
 aI (aI K0 name ⟨(K0 name).key,some on,false,(K0 name).below⟩) on ⟨((aI K0 name ⟨(K0 name).key,some on,false,(K0 name).below⟩) on).key,((aI K0 name ⟨(K0 name).key,some on,false,(K0 name).below⟩) on).above,((aI K0 name ⟨(K0 name).key,some on,false,(K0 name).below⟩) on).mark,((aI K0 name ⟨(K0 name).key,some on,false,(K0 name).below⟩) on).below++[name]⟩
theorem Kf(hn:name∈S0)(ho:on∈S0)(l:name∈ag)(hk:S0.length<=1000)(hb:∀n∈S0,(K0 n).below.length<=1000):eR [TD ag,HD S0 K0,.str name,.str on]=some ((.none,false),TD<|ag.erase name,HD S0<|aY K0 name on):=by
 let c:=aI K0 name ⟨(K0 name).key,some on,false,(K0 name).below⟩
 have d:(c on).below.length<=1000:=by
  show(aI K0 name ⟨(K0 name).key,some on,false,(K0 name).below⟩ on).below.length<=1000;unfold aI;split
  .exact hb name hn
  .exact hb on ho
 refine zZ (o:=.nx [.io<|TD<|ag.erase name,.io<|HD S0<|aY K0 name on,.fz<|.str name,.fz<|.str on,.fz<|.int (c on).key,.fz<|aM (c on).above,.fz<|.bool (c on).mark,.fz<|.tuple<|(c on).below.map .str]) rfl ?_ rfl rfl;refine az (kL (a8 (.inr<|.inr rfl) hn<|ai rfl) rfl) ?_;refine az (ρ1:=[.io<|TD ag,.io<|HD S0 c,.fz<|.str name,.fz<|.str on,.fz<|.int (K0 name).key,.fz<|aM (K0 name).above,.fz<|.bool (K0 name).mark,.fz<|.tuple<|(K0 name).below.map .str]) ((fW (bR rfl rfl (by simp)) (ai rfl) rfl (.inr rfl) hk).trans (by rw[du hn];rfl)) ?_
 refine az (kL (a8 (.inr<|.inr rfl) ho<|ai rfl) rfl) ?_;refine az (ρ1:=[.io<|TD ag,.io<|HD S0<|aY K0 name on,.fz<|.str name,.fz<|.str on,.fz<|.int (c on).key,.fz<|aM (c on).above,.fz<|.bool (c on).mark,.fz<|.tuple<|(c on).below.map .str]) ?_ ?_
 .have ea:∃k,sv (mOp nP (aa 7)<|cW<|af (aa 2) ar) [.io<|TD ag,.io<|HD S0 c,.fz<|.str name,.fz<|.str on,.fz<|.int (c on).key,.fz<|aM (c on).above,.fz<|.bool (c on).mark,.fz<|.tuple<|(c on).below.map .str]=some ((.tuple<|((c on).below++[name]).map .str,.fz),k)/\k=[.io<|TD ag,.io<|HD S0 c,.fz<|.str name,.fz<|.str on,.fz<|.int (c on).key,.fz<|aM (c on).above,.fz<|.bool (c on).mark,.fz<|.tuple<|(c on).below.map .str]:=by
   obtain⟨o,ho⟩:=sL ((c on).below.map .str) [.str name] (by simp;lia) (by simp)
   refine⟨_,?_,rfl⟩;have h:=aL (a:=aa 7) (b:=cW<|af (aa 2) ar) (Y0:=(.tuple<|((c on).below++[name]).map .str,o)) (L:=[.io<|TD ag,.io<|HD S0 c,.fz<|.str name,.fz<|.str on,.fz<|.int (c on).key,.fz<|aM (c on).above,.fz<|.bool (c on).mark,.fz<|.tuple<|(c on).below.map .str]) (g:=nP) (ah<|ai rfl) (ah<|bR rfl rfl (by simp)) (by rw[ho,za1];rfl)
   cases o
   .exact ah h
   .exact ah h
  obtain⟨_,ea,rfl⟩:=ea;exact(fW (bR (ao (ah<|ai rfl)<|ao (ah<|ai rfl)<|ao (ah<|ai rfl)<|ao ea aG) rfl (by simp)) (ai rfl) rfl (.inr rfl) hk).trans (by rw[du ho];rfl)
 .exact eZ (lB rfl rfl rfl rfl (Ov l) rfl)
theorem iM(ne:x≠y)(h:aF a x c y=false):aF c y a x=true:=by
 unfold aF at h⊢
 by_cases e:a=c
 .subst e
  rw[if_pos rfl,if_neg ne]at h;rw[if_pos rfl,if_neg λz=>ne z.symm]
  have d:=of_decide_eq_false h;refine zaH ?_;rcases List.le_iff_lt_or_eq.mp (List.not_lt.mp d)with b|b
  .exact b
  .refine absurd ?_ ne
   cases x;cases y
   congr 1
   exact(Array.toList_inj.mp b).symm
 .rw[if_neg e]at h
  rw[if_neg λz=>e z.symm]
  have:=of_decide_eq_false h;exact zaH (by lia)
theorem cH(l:aF a x b y=true)(g:aF b y c z=true):aF a x c z=true:=by
 unfold aF at l g⊢
 by_cases e:a=b
 .subst e
  rw[if_pos rfl]at l
  by_cases d:a=c
  .subst d
   rw[if_pos rfl]at g⊢;split at l
   .cases l
   split at g
   .cases g
   have h:=of_decide_eq_true l;have i:=of_decide_eq_true g;have f:=List.lt_trans h i;rw[if_neg λq=>by rw[q]at f;exact List.lt_irrefl _ f]
   exact zaH f
  .rw[if_neg d]at g⊢;exact g
 .rw[if_neg e]at l
  have h:=of_decide_eq_true l
  by_cases d:b=c
  .subst d;rw[if_neg e];exact l
  .rw[if_neg d]at g
   have i:=of_decide_eq_true g;rw[if_neg (by lia)]
   exact zaH (by lia)
theorem gy:aF a x a x=false:=by
 unfold aF;rw[if_pos rfl,if_pos rfl]
theorem i9(h:PyData.strOk x=true):SeqAt.shaped (.str x)=true:=by
 unfold SeqAt.shaped;rw[zaH (by simp[PyData.depth]),Bool.and_true]
 simp only[PyData.canLay0,h]
theorem oW(g:PyData.strOk x=true)(l:PyData.strOk y=true):gNe (.str x) (.str y)=some (.bool<|!decide (x=y),false):=by
 unfold gNe;rw[if_pos ⟨i9 g,i9 l⟩];simp only[PyData.eqv]
 by_cases e:x=y
 .subst e;simp
 .simp[e]
theorem sW(ha:∀z,a=some z->PyData.strOk z=true)(g:PyData.strOk y=true):gNe (aM a) (.str y)=some (.bool<|!decide (a=some y),false):=by
 cases a with
 |none=>
  show gNe .none (.str y)=_;unfold gNe;rw[if_pos ⟨rfl,i9 g⟩];simp[PyData.eqv]
 |some z=>
  show gNe (.str z) (.str y)=_;rw[oW (ha z rfl) g];simp
theorem dw{g:Rho}{p:Str->Bool}:∀l:List Str,(∀x∈l,∃L,c (.fz (.str x)::g)=some (p x,L))->(∀x∈l,∃L,sv e (.fz (.str x)::g)=some ((.str x,.fz),L))->jP c e g (l.map .str)=some ((l.filter p).map .str)
 | [],_,_=>rfl
 |x::l,h,b=>by
  have f:=dw l (λy a=>h y<|zak _ a) λy a=>b y (zak _ a)
  obtain⟨L,i⟩:=h x zas;obtain⟨m,j⟩:=b x zas;show(c (.fz (.str x)::g)).bind _=_;rw[i,zai];dsimp only
  cases d:p x with
  |false=>rw[if_neg (by simp),f,List.filter_cons_of_neg (by simp[d])]
  |true=>rw[if_pos rfl,j,zai];dsimp only[asF,Option.bind_some];rw[f,List.filter_cons_of_pos (by simp[d])];rfl
theorem ja(g:PyData.strOk x=true)(l:PyData.strOk y=true):PyData.strOk (x++y)=true:=by
 unfold PyData.strOk at*;show(x.cps++y.cps).all _=true;rw[Array.all_append,g,l];rfl
theorem sX:∀j:Nat,j<26->PyData.strOk (letter j)=true:=by decide+kernel
theorem Ow:∀j:Nat,j<6->PyData.strOk (sfx j)=true:=by decide+kernel
theorem Gr(k:Nat):PyData.strOk (aq k)=true:=by
 unfold aq;have a:=sX (k/52%26) (by lia)
 have b:=sX (k/2%26) (by lia)
 split
 .exact ja (ja a b) (Ow _ (by lia))
 .exact ja a b
structure Bt(K:Str->Int)(c:Nat)(ag S0:List Str)(K0:Str->aw.Row):Prop where
 nd:S0.Nodup
 nm:∀n∈S0,∃i,i<c/\n=aq i
 tn:ag.Nodup
 tk:∀t∈ag,t∈S0/\(K0 t).above=none
 ne:∀n∈S0,(K0 n).above=none->n∈ag
 mkd:∀n∈S0,(K0 n).mark=true->(K0 n).above≠none
 ab:∀n∈S0,∀a,(K0 n).above=some a->a∈S0
 bl:∀n∈S0,(K0 n).below.length<=c/\∀b∈(K0 n).below,b∈S0
 ho:∀n∈S0,∀a,(K0 n).above=some a->aF (K a) a (K n) n=true
theorem Bt.kl(h:Bt K c ag S0 K0):S0.length<=c:=by
 have:=aw.gv S0 ((List.range c).map aq) h.nd λx d=>by
  obtain⟨i,hi,rfl⟩:=h.nm x d;exact List.mem_map_of_mem (List.mem_range.mpr hi)
 simpa using this
def Bt.tl(h:Bt K c ag S0 K0):ag.length<=c:=zaX (aw.gv ag S0 h.tn λx b=>(h.tk x b).1) h.kl
theorem Bt.ok(h:Bt K c ag S0 K0)(hn:n∈S0):PyData.strOk n=true:=by
 obtain⟨i,_,rfl⟩:=h.nm n hn;exact Gr i
def aC(K0:Str->aw.Row)(n:Str)(r:aw.Row):aI K0 n r n=r:=if_pos rfl
def au(K0:Str->aw.Row)(r:aw.Row)(h:m≠n):aI K0 n r m=K0 m:=if_neg h
def bW(K0:Str->aw.Row)(name:Str):Str->aw.Row:=aI K0 name ⟨(K0 name).key,none,false,(K0 name).below⟩
def cz(K0:Str->aw.Row)(name a:Str):Str->aw.Row:=aI (bW K0 name) a ⟨(bW K0 name a).key,(bW K0 name a).above,(bW K0 name a).above.isSome,(bW K0 name a).below.filter λx=>!decide (x=name)⟩
theorem qv(K0:Str->aw.Row)(name n:Str):(bW K0 name n).above=if n=name then none else(K0 n).above:=by
 unfold bW aI;split<;>rfl
theorem cp(K0:Str->aw.Row)(name a n:Str):(cz K0 name a n).above=if n=name then none else(K0 n).above:=by
 rw[<-qv];unfold cz
 by_cases e:n=a
 .subst e;rw[aC]
 .rw[au _ _ e]
theorem qw:(cz K0 name a n).below.length<=(K0 n).below.length/\∀b∈(cz K0 name a n).below,b∈(K0 n).below:=by
 have c:(bW K0 name n).below=(K0 n).below:=by
  unfold bW aI;split
  .rename_i e;rw[e]
  .rfl
 unfold cz
 by_cases e:n=a
 .subst e
  rw[aC];rw[c];exact⟨zaY _ _,λb hb=>(List.mem_filter.mp hb).1⟩
 .rw[au _ _ e,c]
  exact⟨zap _,λb hb=>hb⟩
theorem Dh:(cz K0 name a n).mark=true->(cz K0 name a n).above.isSome=true\/(n≠name/\(K0 n).mark=true):=by
 intro h
 by_cases e:n=a
 .subst e
  left;unfold cz at h⊢;rw[aC]at h⊢;exact h
 .unfold cz at h⊢
  rw[au _ _ e]at h⊢;unfold bW at h⊢
  by_cases b:n=name
  .subst b;rw[aC]at h;cases h
  .rw[au _ _ b]at h
   exact Or.inr ⟨b,h⟩
theorem Gs(K0:Str->aw.Row)(name n:Str):(bW K0 name n).key=(K0 n).key:=by
 unfold bW aI;split
 .rename_i e;rw[e]
 .rfl
theorem Gu(K0:Str->aw.Row)(name a n:Str):(cz K0 name a n).key=(K0 n).key:=by
 rw[<-Gs K0 name];unfold cz
 by_cases e:n=a
 .subst e;rw[aC]
 .rw[au _ _ e]
theorem Bt.cut(h:Bt K c ag S0 K0)(hn:name∈S0)(ha:(K0 name).above=some a):Bt K c (ag++[name]) S0 (cz K0 name a):=by
 have f:name∉ag:=λz=>by rw[(h.tk name z).2]at ha;cases ha
 refine⟨h.nd,h.nm,?_,λt d=>?_,λm hm e=>?_,λn hk hm=>?_,λn hk b hb=>?_,λn hk=>?_,λn hk b hb=>?_⟩
 .rw[List.nodup_append]
  refine⟨h.tn,by simp,λx p y q=>?_⟩
  rw[zad q];exact λe=>f (by rw[<-e];exact p)
 .rw[cp]
  rcases zae d with d|d
  .refine⟨(h.tk t d).1,?_⟩
   split
   .rfl
   .exact(h.tk t d).2
  .rw[zad d]
   exact⟨hn,if_pos rfl⟩
 .by_cases z:m=name
  .rw[z];simp
  .rw[cp,if_neg z]at e;exact zaW _ (h.ne m hm e)
 .rcases Dh hm with e|⟨j,o⟩
  .exact λz=>by rw[z]at e;cases e
  .rw[cp,if_neg j]
   exact h.mkd n hk o
 .rw[cp]at hb
  split at hb
  .cases hb
  .exact h.ab n hk b hb
 .exact⟨zaX qw.1 (h.bl n hk).1,λb hb=>(h.bl n hk).2 b (qw.2 b hb)⟩
 .rw[cp]at hb
  split at hb
  .cases hb
  .exact h.ho n hk b hb
inductive Ch(K0:Str->aw.Row):Str->List Str->Str->Prop
 |one {n a:Str}:(K0 n).above=some a->(K0 a).mark=false->Ch K0 n [n] a
 |more {n a ρ:Str} {C:List Str}:(K0 n).above=some a->(K0 a).mark=true->Ch K0 a C ρ->Ch K0 n (n::C) ρ
theorem nj{α:Type}{p q : α->Bool}:∀l:List α,(∀x∈l,p x=true->q x=true)->(∃x∈l,p x=false/\q x=true)->l.countP p<l.countP q
 | [],_,⟨x,a,_⟩=>by cases a
 |y::l,h,⟨x,a,d,e⟩=>by
  rw[List.countP_cons,List.countP_cons];have f:=List.countP_mono_left λz c=>h z (zak _ c)
  rcases zaf a with rfl|b
  .rw[d,e,if_neg zam,if_pos rfl];lia
  .have:=nj l (λz c=>h z<|zak _ c) ⟨x,b,d,e⟩
   have j:=h y (zas);cases i:p y with
   |false=>rw[if_neg zam];lia
   |true=>rw[j i,if_pos rfl];lia
section
variable{K:Str->Int}{c:Nat}{ag S0:List Str}{K0:Str->aw.Row}
def rank(K:Str->Int)(S0:List Str)(n:Str):Nat:=S0.countP λm=>aF (K m) m (K n) n
def oX(h:Bt K c ag S0 K0)(hn:n∈S0)(ha:(K0 n).above=some a):rank K S0 a<rank K S0 n :=
 nj S0 (λm _ e=>cH e<|h.ho n hn a ha) ⟨a,h.ab n hn a ha,gy,h.ho n hn a ha⟩
theorem Qz(h:Bt K c ag S0 K0):∀(m:Nat) (n:Str),n∈S0->rank K S0 n<=m->(K0 n).above≠none->∃C ρ,Ch K0 n C ρ/\C.length<=m:=by
 intro m
 induction m with
 |zero=>
  intro n hn d ha;cases e:(K0 n).above with
  |none=>exact absurd e ha
  |some a=>have:=oX h hn e;lia
 |succ m f=>
  intro n hn d ha;cases e:(K0 n).above with
  |none=>exact absurd e ha
  |some a=>
   have hk:=h.ab n hn a e;cases em:(K0 a).mark with
   |false=>exact⟨[n],a,.one e em,by simp⟩
   |true=>
    obtain⟨C,ρ,b,i⟩:=f a hk (by have:=oX h hn e;lia) (h.mkd a hk em)
    exact⟨n::C,ρ,.more e em b,by rw[zaw];lia⟩
theorem Gv(h:Bt K c ag S0 K0)(hn:n∈S0)(ha:(K0 n).above≠none):∃C ρ,Ch K0 n C ρ/\C.length<=c:=by
 obtain⟨C,ρ,a,b⟩:=Qz h S0.length n hn List.countP_le_length ha;exact⟨C,ρ,a,zaX b h.kl⟩
theorem Ch.mem(h:Bt K c ag S0 K0):∀{C:List Str} {n ρ:Str},Ch K0 n C ρ->n∈S0->(∀x∈C,x∈S0)/\ρ∈S0
 |_,n,_,.one ha _,hn=>⟨λx a=>by rw[zad a];exact hn,h.ab n hn _ ha⟩
 |_,n,_,.more ha _ f,hn=>by
  obtain⟨b,d⟩:=Ch.mem h f (h.ab n hn _ ha);exact⟨λx a=>(zaf a).elim (λe=>e▸hn)<|b x,d⟩
theorem Ch.tr(h:Bt K c ag S0 K0):∀{C:List Str} {n ρ:Str},Ch K0 n C ρ->n∈S0->(aE n).above=(K0 n).above->(∀m∈S0,aF (K m) m (K n) n=true->(aE m).above=(K0 m).above/\(aE m).mark=(K0 m).mark)->Ch aE n C ρ
 |_,n,a,.one ha hm,hn,e,k=>.one (e.trans ha) (((k a (h.ab n hn a ha)<|h.ho n hn a ha).2).trans hm)
 |_,n,_,.more (a:=a) ha hm b,hn,e,k=>
  .more (e.trans ha) (((k a (h.ab n hn a ha)<|h.ho n hn a ha).2).trans hm) (Ch.tr h b (h.ab n hn a ha) (k a (h.ab n hn a ha)<|h.ho n hn a ha).1 λm hm l=>k m hm<|cH l<|h.ho n hn a ha)
theorem sY(g:m≠n)(l:m≠a):cz K0 n a m=K0 m:=by
 unfold cz bW;rw[au _ _ l,au _ _ g]
theorem sZ(h:a≠n):(bW K0 n a).mark=(K0 a).mark:=by
 unfold bW;rw[au _ _ h]
theorem Bt.neA(h:Bt K c ag S0 K0)(hn:n∈S0)(ha:(K0 n).above=some a):a≠n:=λe=>by
 have:=h.ho n hn a ha;rw[e,gy]at this;cases this
theorem Ch.cut(h:Bt K c ag S0 K0)(hn:n∈S0)(ha:(K0 n).above=some a)(g:Ch K0 a C ρ):Ch (cz K0 n a) a C ρ:=by
 have ne:=h.neA hn ha;refine Ch.tr h g (h.ab n hn a ha) (by rw[cp,if_neg ne]) λm hm l=>?_
 have d:m≠n:=λe=>by
  subst e;have:=cH l (h.ho m hn a ha);rw[gy]at this;cases this
 have f:m≠a:=λe=>by
  subst e;rw[gy]at l;cases l
 rw[sY d f];exact⟨rfl,rfl⟩
end
def cuts:List Str->(Str->aw.Row)->Str->aw.Row
 | [],K0=>K0
 |n::C,K0=>cuts C (cz K0 n<|(K0 n).above.getD n)
theorem cK(ha:(K0 n).above=some a):cuts (n::C) K0=cuts C (cz K0 n a):=by
 show cuts C (cz K0 n<|(K0 n).above.getD n)=_;rw[ha];rfl
theorem j9:∀(C:List Str) (K0:Str->aw.Row) (n:Str),(cuts C K0 n).key=(K0 n).key
 | [],_,_=>rfl
 |x::C,K0,n=>(j9 C _ n).trans (Gu _ _ _ _)
def stp(n:Str):D:=.tuple [.str "cut",.str n]
section
variable{S0:List Str}{K0:Str->aw.Row}{ag:List Str}{c:Nat}
def mk(S0:List Str)(K0:Str->aw.Row):Nat:=(S0.filter λn=>(K0 n).mark).length
def b1(b:Bool):Nat:=if b then 1 else 0
theorem QA(b:Bool):b1 b<=1:=by unfold b1;split<;>lia
end
theorem oY(c:Int)(n:Nat)(h : 0<n):∃a:Nat,c%(n:Int)=(a:Int)/\a<n:=by
 have d:=Int.emod_nonneg c (show(n:Int)≠0 by lia)
 have e:=Int.emod_lt_of_pos c (show(0:Int)<(n:Int) by lia)
 exact⟨(c%(n:Int)).toNat,by lia,by lia⟩
theorem Ox(c:Int){n k j:Nat}(hk:k<n)(g:j<k):(c+(k:Int))%(n:Int)≠(c+(j:Int))%(n:Int):=λe=>by
 have h:=Int.emod_eq_emod_iff_emod_sub_eq_zero.mp e;rw[show c+(k:Int)-(c+(j:Int))=(k:Int)-(j:Int) by lia,Int.emod_eq_of_lt (by lia) (by lia)]at h
 lia
theorem kc{n:Nat}(h:IE a L (n:Int))(hn:n<=100000):lz (af a ar) L=some ((List.range n).map (λk:Nat=>PyData.int (k:Int)),L):=by
 rw[Nk (cG h aG) ⟨by lia,by lia⟩,Int.toNat_natCast,ER]
theorem vh{α:Type}{f : α->D}(I:Rho->Prop)(R:RV->Prop):∀(l:List α) (L:Rho),I L->(∀x∈l,∀L,I L->∃O o,g (f x) L=some O/\b O=some o/\((∃M,o=.nx M/\I M)\/∃r M,o=.rt r M/\R r))->∃o,forL g b (l.map f) L=some o/\((∃M,o=.nx M/\I M)\/∃r M,o=.rt r M/\R r)
 | [],L,h,_=>⟨_,rfl,.inl ⟨L,rfl,h⟩⟩
 |x::l,L,h,hb=>by
  obtain⟨O,o,c,d,h3⟩:=hb x zas L h;rcases h3 with⟨M,rfl,a⟩|⟨r,M,rfl,a⟩
  .obtain⟨o,e,j⟩:=vh I R l M a λy k=>hb y (zak _ k)
   exact⟨o,cg c d e,j⟩
  .exact⟨_,IC c d,.inr ⟨r,M,rfl,a⟩⟩
theorem Gw{i:Nat}(h:ag[i]?=some t):gIx (TD ag) (.int (i:Int))=some (.str t,false):=qp _ _ _ (by rw[Mir.kF,zao,h];rfl)
def Oy(ag:List Str)(K0:Str->aw.Row)(r:RV):Prop:=∃a b,(∃i j:Nat,i≠j/\ag[i]?=some a/\ag[j]?=some b)/\(K0 a).below.length=(K0 b).below.length/\r=(.list [.str a,.str b],.new)
theorem dM{a:PM}(h:a L=some ((bc r,.fz),L)):IE (mCB bV<|af (mOp gIx a<|mC<|.int 3) ar) L (r.below.length:Int):=dY (Y0:=(.int (r.below.length:Int),false)) (ao (ah<|dq h) aG) (by show some (PyData.int ((r.below.map PyData.str).length:Int),false)=_;rw[zal])
theorem Di(hk:∀t∈ag,t∈S0)(st:Int){k j:Nat}(l:k<ag.length)(U:j<k){I M:Sl}(Y:NIo I)(n6:NIo M) :
  ∃o,i6 [.fz<|TD ag,.fz<|HD S0 K0,.fz<|.int st,.fz<|.int (k:Int),.fz<|.int (j:Int),I,M]=some o/\((∃x y,o=.nx [.fz<|TD ag,.fz<|HD S0 K0,.fz<|.int st,.fz<|.int (k:Int),.fz<|.int (j:Int),.fz x,.fz y])\/∃r O,o=.rt r O/\Oy ag K0 r):=by
 obtain⟨i,p,hi⟩:=oY (st+(k:Int)) ag.length (by lia)
 obtain⟨n,q,d⟩:=oY (st+(j:Int)) ag.length (by lia)
 have ne:i≠n:=λz=>Ox st l U (by rw[p,q,z])
 have g1:=zaC hi;have f:=zaC d;have w:=hk _ (List.getElem_mem hi);have A:=hk _ (List.getElem_mem d);generalize ag[i]=a at g1 w;generalize ag[n]=b at f A;have v:∀{L:Rho},L[0]?=some (.fz<|TD ag)->IE (mCB bV<|af (aa 0) ar) L (ag.length:Int):=fun{L} h=>by
  have:=zY (.inl h)
  rwa[zal]at this
 have B:∀{L:Rho},L[0]?=some (.fz<|TD ag)->L[2]?=some (.fz<|.int st)->L[3]?=some (.fz<|.int (k:Int))->mOp gIx (aa 0) (mOp bY (mOp cM (aa 2)<|aa 3)<|mCB bV<|af (aa 0) ar) L=some ((.str a,.fz),L):=fun{L} c m h3=>aL (ah<|ai c) (ah<|(cY (g6 (a6 m)<|a6 h3) (v c) (by lia)).is p) (Gw g1)
 have C:∀{L:Rho},L[0]?=some (.fz<|TD ag)->L[2]?=some (.fz<|.int st)->L[4]?=some (.fz<|.int (j:Int))->mOp gIx (aa 0) (mOp bY (mOp cM (aa 2)<|aa 4)<|mCB bV<|af (aa 0) ar) L=some ((.str b,.fz),L):=fun{L} c m h3=>aL (ah<|ai c) (ah<|(cY (g6 (a6 m)<|a6 h3) (v c) (by lia)).is q) (Gw f)
 have go:∀o,cL (ax<|mOp gEq (mCB bV<|af (mOp gIx (mOp a7 (aa 1)<|aa 5)<|mC<|.int 3) ar)<|mCB bV<|af (mOp gIx (mOp a7 (aa 1)<|aa 6)<|mC<|.int 3) ar) (cw<|eM<|af (aa 5)<|af (aa 6) ar) cD [.fz<|TD ag,.fz<|HD S0 K0,.fz<|.int st,.fz<|.int (k:Int),.fz<|.int (j:Int),.fz<|.str a,.fz<|.str b]=some o->i6 [.fz<|TD ag,.fz<|HD S0 K0,.fz<|.int st,.fz<|.int (k:Int),.fz<|.int (j:Int),I,M]=some o:=λo h=>by
  refine az (bz (B rfl rfl rfl)<|fj _ rfl Y) ?_;exact az (bz (C rfl rfl rfl)<|fj _ rfl n6) h
 have s:=dM (a8 (i:=1) (L:=[.fz<|TD ag,.fz<|HD S0 K0,.fz<|.int st,.fz<|.int (k:Int),.fz<|.int (j:Int),.fz<|.str a,.fz<|.str b]) (b:=aa 5) (.inl rfl) w<|ai rfl);have u:=dM (a8 (i:=1) (L:=[.fz<|TD ag,.fz<|HD S0 K0,.fz<|.int st,.fz<|.int (k:Int),.fz<|.int (j:Int),.fz<|.str a,.fz<|.str b]) (b:=aa 6) (.inl rfl) A<|ai rfl)
 by_cases e:((K0 a).below.length:Int)=((K0 b).below.length:Int)
 .exact⟨_,go _ (mM (tEq s u e)<|bH<|eO rfl rfl (by simp)),.inr ⟨_,_,rfl,a,b,⟨i,n,ne,g1,f⟩,by lia,rfl⟩⟩
 .exact⟨_,go _<|eN (tNe s u e) rfl,.inl ⟨_,_,rfl⟩⟩
theorem Kg(hk:∀t∈ag,t∈S0)(l:ag.length<=1000)(st:Int):∃ρ:List Str,i7 [TD ag,HD S0 K0,.int st]=some (TD ρ,true)/\(ρ=[]\/∃(a b:Str) (i j:Nat),ρ=[a,b]/\i≠j/\ag[i]?=some a/\ag[j]?=some b/\(K0 a).below.length=(K0 b).below.length):=by
 have B:IE (mCB bV<|af (aa 0) ar) [.fz<|TD ag,.fz<|HD S0 K0,.fz<|.int st,.no,.no,.no,.no] (ag.length:Int):=by
  have:=zY (i:=0) (L:=[.fz<|TD ag,.fz<|HD S0 K0,.fz<|.int st,.no,.no,.no,.no]) (.inl rfl)
  rwa[zal]at this
 obtain⟨o,A,D⟩:=vh (g:=mgN 3) (b:=l6) (λL=>∃w c d e,NIo w/\NIo c/\NIo d/\NIo e/\L=[.fz<|TD ag,.fz<|HD S0 K0,.fz<|.int st,w,c,d,e]) (Oy ag K0) (List.range ag.length) [.fz<|TD ag,.fz<|HD S0 K0,.fz<|.int st,.no,.no,.no,.no] ⟨_,_,_,_,NIo.no,NIo.no,NIo.no,NIo.no,rfl⟩ (λk u L f=>by
  obtain⟨w,c,d,e,n3,m,n,p,rfl⟩:=f;have v:=List.mem_range.mp u;obtain⟨o,g1,h⟩:=vh (g:=mgN 4) (λL=>∃c d e,NIo c/\NIo d/\NIo e/\L=[.fz<|TD ag,.fz<|HD S0 K0,.fz<|.int st,.fz<|.int (k:Int),c,d,e]) (Oy ag K0) (List.range k) [.fz<|TD ag,.fz<|HD S0 K0,.fz<|.int st,.fz<|.int (k:Int),c,d,e] ⟨_,_,_,m,n,p,rfl⟩ (λj s L f=>by
   obtain⟨c,d,e,m,n,p,rfl⟩:=f;obtain⟨o,f1,f2⟩:=Di hk st v (List.mem_range.mp s) n p;refine⟨_,o,cC rfl m,f1,?_⟩;rcases f2 with⟨x,y,rfl⟩|f2
   .exact .inl ⟨_,rfl,_,_,_,NIo.fz _,NIo.fz _,NIo.fz _,rfl⟩
   .exact .inr f2)
  refine⟨_,o,cC rfl n3,iV (kc (a6 rfl) (by lia)) g1,?_⟩
  rcases h with⟨q,rfl,c,d,e,m,n,p,rfl⟩|h
  .exact .inl ⟨_,rfl,_,_,_,_,NIo.fz _,m,n,p,rfl⟩
  .exact .inr h)
 rcases D with⟨q,rfl,_⟩|⟨r,q,rfl,a,b,⟨i,j,ne,g1,h⟩,C,rfl⟩
 .exact⟨[],cf rfl (az (iV (kc B (by lia)) A)<|bH<|eO rfl rfl (by simp)) rfl,.inl rfl⟩
 .exact⟨[a,b],cf rfl (pJ<|iV (kc B (by lia)) A) rfl,.inr ⟨a,b,i,j,rfl,ne,g1,h,C⟩⟩
theorem Bt.more(h:Bt K c ag S0 K0)(hd:c<=d):Bt K d ag S0 K0 :=
 ⟨h.nd,λn hn=>by obtain⟨i,hi,e⟩:=h.nm n hn;exact⟨i,by lia,e⟩,h.tn,h.tk,h.ne,h.mkd,h.ab,λn hn=>⟨by have:=(h.bl n hn).1;lia,(h.bl n hn).2⟩,h.ho⟩
theorem cq(ne:on≠name):aY K0 name on on=⟨(K0 on).key,(K0 on).above,(K0 on).mark,(K0 on).below++[name]⟩:=by
 unfold aY;rw[aC,au _ _ ne]
theorem bP(ne:on≠name):aY K0 name on name=⟨(K0 name).key,some on,false,(K0 name).below⟩:=by
 unfold aY;rw[au _ _ λz=>ne z.symm,aC]
theorem bO(g:n≠on)(l:n≠name):aY K0 name on n=K0 n:=by
 unfold aY;rw[au _ _ g,au _ _ l]
theorem ke(ne:on≠name)(n:Str):(aY K0 name on n).key=(K0 n).key:=by
 by_cases e:n=on
 .subst e;rw[cq ne]
 .by_cases b:n=name
  .subst b;rw[bP ne]
  .rw[bO e b]
theorem Bt.hung(h:Bt K c ag S0 K0)(hn:name∈ag)(ho:on∈ag)(ne:on≠name)(g:aF (K on) on (K name) name=true):Bt K (c+1) (ag.erase name) S0 (aY K0 name on):=by
 have hk:=(h.tk name hn).1;have ok:=(h.tk on ho).1;refine⟨h.nd,(h.more<|Nat.le_succ c).nm,h.tn.erase _,λt p=>?_,λm hm e=>?_,λn d hm=>?_,λn d a ha=>?_,λn d=>?_,λn d a ha=>?_⟩
 .obtain⟨o,j⟩:=(za9 h.tn).mp p
  refine⟨(h.tk t j).1,?_⟩
  by_cases e:t=on
  .subst e;rw[cq ne];exact(h.tk t j).2
  .rw[bO e o];exact(h.tk t j).2
 .refine(za9 h.tn).mpr ⟨λz=>?_,h.ne m hm ?_⟩
  .rw[z,bP ne]at e;cases e
  .by_cases z:m=on
   .rw[z,cq ne]at e;rw[z];exact e
   .by_cases w:m=name
    .rw[w,bP ne]at e;cases e
    .rw[bO z w]at e;exact e
 .by_cases e:n=on
  .subst e;rw[cq ne]at hm⊢;exact h.mkd n d hm
  .by_cases f:n=name
   .subst f;rw[bP ne]at hm;cases hm
   .rw[bO e f]at hm⊢;exact h.mkd n d hm
 .by_cases e:n=on
  .subst e;rw[cq ne]at ha;exact h.ab n d a ha
  .by_cases f:n=name
   .subst f;rw[bP ne]at ha;cases ha;exact ok
   .rw[bO e f]at ha;exact h.ab n d a ha
 .by_cases e:n=on
  .subst e
   rw[cq ne];refine⟨?_,λb hb=>?_⟩
   .show((K0 n).below++[name]).length<=c+1
    rw[zau,za7];have:=(h.bl n d).1
    lia
   .rcases zae (hb)with hb|hb
    .exact(h.bl n d).2 b hb
    .rw[zad hb];exact hk
  .by_cases f:n=name
   .subst f;rw[bP ne];exact⟨Nat.le_succ_of_le (h.bl n d).1,(h.bl n d).2⟩
   .rw[bO e f];exact⟨by have:=(h.bl n d).1;lia,(h.bl n d).2⟩
 .by_cases e:n=on
  .subst e;rw[cq ne]at ha;exact h.ho n d a ha
  .by_cases f:n=name
   .subst f;rw[bP ne]at ha;cases ha;exact g
   .rw[bO e f]at ha;exact h.ho n d a ha
theorem Bt.IT(g:c<C)(h:Bt K C ag S0 K0)(hn:aq c∉S0)(v:Int):Bt (λn=>if n=aq c then v else K n) C (ag++[aq c]) (S0++[aq c]) (aI K0 (aq c) ⟨v,none,false,[]⟩):=by
 refine⟨?_,λn d=>?_,?_,λt o=>?_,λm hm e=>?_,λn d hm=>?_,λn d a ha=>?_,λn d=>?_,λn d a ha=>?_⟩
 .rw[List.nodup_append]
  exact⟨h.nd,by simp,λx f y j=>by rw[zad j];exact λe=>hn (by rw[<-e];exact f)⟩
 .rcases zae d with f|f
  .obtain⟨i,hi,e⟩:=h.nm n f;exact⟨i,by lia,e⟩
  .exact⟨c,by lia,zad f⟩
 .rw[List.nodup_append]
  exact⟨h.tn,by simp,λx f y j=>by rw[zad j];exact λe=>hn (by rw[<-e];exact(h.tk x f).1)⟩
 .rcases zae o with f|f
  .refine⟨zaW _ (h.tk t f).1,?_⟩
   rw[au _ _ λz=>hn (by rw[<-z];exact(h.tk t f).1)]
   exact(h.tk t f).2
  .rw[zad f,aC]
   exact⟨by simp,rfl⟩
 .by_cases z:m=aq c
  .rw[z];simp
  .rw[au _ _ z]at e
   exact zaW _ (h.ne m ((zae hm).resolve_right λw=>z<|zad w) e)
 .by_cases e:n=aq c
  .subst e;rw[aC]at hm;cases hm
  .rw[au _ _ e]at hm⊢
   exact h.mkd n ((zae d).resolve_right λz=>e<|zad z) hm
 .by_cases e:n=aq c
  .subst e;rw[aC]at ha;cases ha
  .rw[au _ _ e]at ha
   exact zaW _ (h.ab n ((zae d).resolve_right λz=>e<|zad z) a ha)
 .by_cases e:n=aq c
  .subst e;rw[aC];exact⟨Nat.zero_le _,λb hb=>by cases hb⟩
  .rw[au _ _ e]
   have k:=h.bl n ((zae d).resolve_right λz=>e<|zad z)
   exact⟨by have:=k.1;lia,λb hb=>zaW _<|k.2 b hb⟩
 .by_cases e:n=aq c
  .subst e;rw[aC]at ha;cases ha
  .rw[au _ _ e]at ha
   have hk:=(zae d).resolve_right λz=>e (zad z)
   rw[if_neg e,if_neg λz=>hn (by rw[<-z];exact h.ab n hk a ha)]
   exact h.ho n hk a ha
theorem Bt.new(g:c<600)(h:Bt K c ag S0 K0)(v:Int):aq c∉S0/\Bt (λn=>if n=aq c then v else K n) (c+1) (ag++[aq c]) (S0++[aq c]) (aI K0 (aq c) ⟨v,none,false,[]⟩):=by
 have hn:aq c∉S0:=λz=>by
  obtain⟨i,hi,e⟩:=h.nm _ z;exact fC c (by lia) i hi e
 exact⟨hn,Bt.IT (Nat.lt_succ_self c) (h.more<|Nat.le_succ c) hn v⟩
abbrev Bk(c:Nat)(ag S0:List Str)(K0:Str->aw.Row):Prop:=Bt (λn=>(K0 n).key) c ag S0 K0
theorem Bt.re(h:Bt K c ag S0 K0)(e:∀n∈S0,K n=(K0 n).key):Bk c ag S0 K0 :=
 ⟨h.nd,h.nm,h.tn,h.tk,h.ne,h.mkd,h.ab,h.bl,λn hn a ha=>by rw[<-e n hn,<-e a (h.ab n hn a ha)];exact h.ho n hn a ha⟩
theorem Bk.new(g:c<600)(h:Bk c ag S0 K0)(v:Int):aq c∉S0/\Bk (c+1) (ag++[aq c]) (S0++[aq c]) (aI K0 (aq c) ⟨v,none,false,[]⟩) :=
 ⟨(Bt.new g h v).1,(Bt.new g h v).2.re λn _=>by
  by_cases e:n=aq c
  .subst e;rw[aC,if_pos rfl]
  .rw[au _ _ e,if_neg e]⟩
theorem yf{l:List Str}(h:∀x∈l,PyData.strOk x=true):PyData.canLayAll0 (l.map .str)=true/\PyData.depthAll (l.map .str)<=1:=by
 induction l with
 |nil=>exact⟨rfl,by simp[PyData.depthAll]⟩
 |cons x l c=>
  obtain⟨a,d⟩:=c λy b=>h y (zak _ b)
  refine⟨?_,?_⟩
  .simp only[List.map_cons,PyData.canLayAll0,PyData.canLay0,h x List.mem_cons_self,a,Bool.and_true]
  .simp only[List.map_cons,PyData.depthAll,PyData.depth]
   lia
theorem f9(h:∀x∈l,PyData.strOk x=true):SeqAt.shaped (TD l)=true:=by
 obtain⟨a,b⟩:=yf h;unfold SeqAt.shaped;rw[zaH (by simp only[PyData.depth];lia),Bool.and_true]
 simp only[PyData.canLay0,a]
theorem Kh(h:∀x∈l,PyData.strOk x=true):gNe (TD l) (.list [])=some (.bool<|!l.isEmpty,false):=by
 unfold gNe;rw[if_pos ⟨f9 h,f9 (l:=[]) λx b=>by cases b⟩]
 cases l with
 |nil=>rfl
 |cons x l=>simp[PyData.eqv,PyData.eqvAll]
theorem Ki(h:∀x∈l,PyData.strOk x=true):gEq (TD l) (.list [])=some (.bool l.isEmpty,false):=by
 unfold gEq;rw[if_pos ⟨f9 h,f9 (l:=[]) λx a=>by cases a⟩]
 cases l with
 |nil=>rfl
 |cons x l=>simp[PyData.eqv,PyData.eqvAll]
theorem gg:∀l:List Str,aU (l.map .str)=true
 | []=>rfl
 |x::l=>by
  show(ee (.str x)&&aU (l.map .str))=true;rw[gg l];rfl
theorem Kj(g:pE L[i]?=some ds)(h4:f ds []=some w)(l:Mir.putAt L i (.list w.1)=ρ1):sj i f L=some ((w.2,.fz),ρ1):=by
 unfold sj;rw[g,zai,h4,zaT,l]
theorem Gx(h:Is L i<|HD S0 K0):mCB lA (af (aa i) ar) L=some ((TD S0,.new),L):=sV (Y0:=(TD S0,true)) h (by show some (PyData.list ((bA S0 K0).map (·.1)),true)=_;rw[kJ])
theorem me(h:Is L i<|TD l):IE (mCB bV<|af (aa i) ar) L (l.length:Int):=by
 have:=zY h
 rwa[zal]at this
theorem Kk(h:Is L i<|TD l)(g : 0<l.length)(ha:IE a L v):∃n∈l,mOp gIx (aa i) (mOp bY a<|mCB bV<|af (aa i) ar) L=some ((.str n,.fz),L):=by
 obtain⟨k,e,hk⟩:=oY v l.length g;exact⟨l[k],List.getElem_mem hk,nU h (ah<|(cY ha (me h) (by lia)).is e)<|Gw<|zaC hk⟩
noncomputable def gf:Nat->Nat×Nat
 |0=>(1,1)
 |n+1=>((gf n).2+(gf n).1,(gf n).1)
def gd(d:Nat):Nat:=(gf d).1
theorem kM(d:Nat):gd (d+1)=gd d+gd (d-1):=by
 cases d with
 |zero=>rfl
 |succ d=>show(gf<|d+1).2+(gf<|d+1).1=_;rw[Nat.add_comm];rfl
theorem Oz(d:Nat) : 0<gd d:=by
 induction d with
 |zero=>decide
 |succ d a=>rw[kM];lia
theorem Bv(h:a<=b):gd a<=gd b:=by
 induction h with
 |refl=>exact zap _
 |step h c=>rw[kM];lia
inductive Up(K0:Str->aw.Row):Str->Str->Prop
 |refl (m:Str):Up K0 m m
 |step {m a n:Str}:(K0 m).above=some a->Up K0 a n->Up K0 m n
theorem Up.lin(g:Up K0 m x):∀{y:Str},Up K0 m y->Up K0 x y\/Up K0 y x:=by
 induction g with
 |refl m=>exact λa=>.inl a
 |step e h c=>
  intro y a;cases a with
  |refl=>exact .inr (.step e h)
  |step b a=>rw[e]at b;cases b;exact c a
theorem Up.trans(M:Up K0 m x)(l:Up K0 x y):Up K0 m y:=by
 induction M with
 |refl m=>exact l
 |step e h c=>exact .step e (c l)
section
variable{K:Str->Int}{c:Nat}{ag S0:List Str}{K0:Str->aw.Row}
theorem Up.ord(h:Bt K c ag S0 K0)(u:Up K0 m n):m∈S0->n∈S0/\(m=n\/aF (K n) n (K m) m=true):=by
 induction u with
 |refl m=>exact λhm=>⟨hm,.inl rfl⟩
 | @step m a n e u f=>
  intro hm;obtain⟨d,b⟩:=f (h.ab m hm a e);refine⟨d,.inr ?_⟩;have l:=h.ho m hm a e;rcases b with rfl|b
  .exact l
  .exact cH b l
structure Fm(S0:List Str)(K0:Str->aw.Row):Prop where
 nd:∀n∈S0,(K0 n).below.Nodup
 up:∀n∈S0,∀b∈(K0 n).below,b∈S0/\(K0 b).above=some n
 dn:∀m∈S0,∀a,(K0 m).above=some a->m∈(K0 a).below
 dg:∀n∈S0,∀(i:Nat) (b:Str),(K0 n).below[i]?=some b->i<=(K0 b).below.length+b1 (K0 b).mark
open Classical in
def cm(S0:List Str)(K0:Str->aw.Row)(n:Str):List Str:=S0.filter λm=>decide (Up K0 m n)
open Classical in
theorem nq:m∈cm S0 K0 n↔m∈S0/\Up K0 m n:=by
 unfold cm;rw[List.mem_filter];exact⟨λh=>⟨h.1,of_decide_eq_true h.2⟩,λh=>⟨h.1,zaH h.2⟩⟩
theorem Gy(h:Bt K c ag S0 K0)(hb:b∈S0)(hn:n∈S0)(e:(K0 b).above=some n) : ¬Up K0 n b:=λu=>by
 have l:=h.ho b hb n e;rcases(u.ord h hn).2 with rfl|a
 .rw[gy]at l;cases l
 .have:=cH l a
  rw[gy]at this;cases this
theorem qx{f:Str->List Str}:∀l:List Str,l.Nodup->(∀x∈l,(f x).Nodup)->(∀x∈l,∀y∈l,x≠y->∀z,z∈f x->z∈f y->False)->(l.flatMap f).Nodup
 | [],_,_,_=>List.nodup_nil
 |x::l,nd,i,j=>by
  obtain⟨n1,n2⟩:=List.nodup_cons.mp nd;rw[List.flatMap_cons,List.nodup_append];refine⟨i x zas,qx l n2 (λy d=>i y<|zak _ d) λy d z h=>j y (zak _ d) z<|zak _ h,λa ha b hb e=>?_⟩
  subst e;obtain⟨y,d,h⟩:=List.mem_flatMap.mp hb;exact j x zas y (zak _ d) (λe=>n1<|e▸d) a ha h
theorem Gz(h:Bt K c ag S0 K0)(f:Fm S0 K0)(hn:n∈S0) : 1+((K0 n).below.map λb=>(cm S0 K0 b).length).sum<=(cm S0 K0 n).length:=by
 have nd:(n::(K0 n).below.flatMap (cm S0 K0)).Nodup:=by
  refine List.nodup_cons.mpr ⟨λz=>?_,qx _ (f.nd n hn) (λb _=>h.nd.sublist List.filter_sublist) λb1 a r d ne m i j=>?_⟩
  .obtain⟨b,hb,o⟩:=List.mem_flatMap.mp z
   obtain⟨hk,e⟩:=f.up n hn b hb;exact Gy h hk hn e (nq.mp o).2
  .obtain⟨s,p⟩:=f.up n hn b1 a
   obtain⟨t,q⟩:=f.up n hn r d;rcases(nq.mp i).2.lin (nq.mp j).2 with u|u
   .cases u with
    |refl=>exact ne rfl
    |step e u=>rw[p]at e;cases e;exact Gy h t hn q u
   .cases u with
    |refl=>exact ne rfl
    |step e u=>rw[q]at e;cases e;exact Gy h s hn p u
 have:=aw.gv _ (cm S0 K0 n) nd λx k=>by
  rcases zaf k with rfl|k
  .exact nq.mpr ⟨hn,.refl _⟩
  .obtain⟨b,hb,o⟩:=List.mem_flatMap.mp k
   obtain⟨hk,e⟩:=f.up n hn b hb;obtain⟨v,y⟩:=nq.mp o;exact nq.mpr ⟨v,y.trans<|.step e<|.refl _⟩
 rw[zaw,List.length_flatMap]at this
 lia
theorem GA:∀(l:List Str) (i:Nat),(∀(j:Nat) (b:Str),l[j]?=some b->gd (i+j-1)<=w b)->gd (i+l.length)<=gd i+(l.map w).sum
 | [],i,_=>by simp
 |b::l,i,h=>by
  have a:=h 0 b rfl;have d:=GA l (i+1) λj x e=>by
   have:=h (j+1) x (by simpa using e)
   rw[show i+1+j-1=i+(j+1)-1 by lia];exact this
  rw[zaw,zaz,List.sum_cons,show i+(l.length+1)=i+1+l.length by lia]
  rw[kM]at d;simp only[Nat.add_zero]at a
  lia
theorem GB{w:Str->Nat}{b:Str}:∀l:List Str,b∈l->w b<=(l.map w).sum
 |x::l,h=>by
  rw[zaz,List.sum_cons];rcases zaf h with rfl|h
  .lia
  .have:=GB (w:=w) l h;lia
theorem Bw(h:Bt K c ag S0 K0)(f:Fm S0 K0):∀(m:Nat) (n:Str),n∈S0->(cm S0 K0 n).length<=m->gd (K0 n).below.length<=(cm S0 K0 n).length:=by
 intro m
 induction m with
 |zero=>
  intro n hn hm;have:=Gz h f hn
  lia
 |succ m i=>
  intro n hn hm;have hs:=Gz h f hn;have:=GA (K0 n).below 0 λj b e=>by
   have hb:=f.up n hn b (zaj e);have a:=GB (w:=λb=>(cm S0 K0 b).length) _ (zaj e)
   have d:=i b hb.1 (by lia)
   have d1:=f.dg n hn j b e;have:=QA (K0 b).mark;exact zaX (Bv (by lia)) d
  rw[Nat.zero_add]at this;have:gd 0=1:=rfl
  lia
def OA(h:Bt K c ag S0 K0)(f:Fm S0 K0)(hn:n∈S0):gd (K0 n).below.length<=S0.length :=
 zaX (Bw h f _ n hn<|zap _) (zaY _ _)
theorem Fm.zero(K0:Str->aw.Row):Fm [] K0:=⟨(λn hn=>by cases hn),(λn hn=>by cases hn),(λn hn=>by cases hn),λn hn=>by cases hn⟩
theorem Fm.new(f:Fm S0 K0)(ab:∀n∈S0,∀a,(K0 n).above=some a->a∈S0)(g:x∉S0)(v:Int):Fm (S0++[x]) (aI K0 x ⟨v,none,false,[]⟩):=by
 have ne:∀{n:Str},n∈S0->n≠x:=fun{n} hn e=>g (e▸hn)
 have d:∀{n:Str},n∈S0++[x]->n≠x->n∈S0:=fun{n} hn e=>(zae hn).resolve_right λz=>e (zad z)
 refine⟨λn hn=>?_,λn hn b hb=>?_,λm hm a e=>?_,λn hn i b e=>?_⟩
 .by_cases e:n=x
  .subst e;rw[aC];exact List.nodup_nil
  .rw[au _ _ e];exact f.nd n (d hn e)
 .by_cases e:n=x
  .subst e;rw[aC]at hb;cases hb
  .rw[au _ _ e]at hb
   obtain⟨h,j⟩:=f.up n (d hn e) b hb;rw[au _ _<|ne h];exact⟨zaW _ h,j⟩
 .by_cases z:m=x
  .subst z;rw[aC]at e;cases e
  .rw[au _ _ z]at e
   rw[au _ _<|ne<|ab m (d hm z) a e];exact f.dn m (d hm z) a e
 .by_cases z:n=x
  .subst z;rw[aC]at e;simp at e
  .rw[au _ _ z]at e
   have hb:=f.up n (d hn z) b (zaj e);rw[au _ _<|ne hb.1];exact f.dg n (d hn z) i b e
theorem Fm.hung(f:Fm S0 K0)(I:x∈S0)(O:y∈S0)(ne:y≠x)(g:(K0 x).above=none)(M:(K0 x).below.length=(K0 y).below.length):Fm S0 (aY K0 x y):=by
 have d:∀{n:Str},n≠y->(aY K0 x y n).below=(K0 n).below:=fun{n} e=>by
  by_cases z:n=x
  .subst z;rw[bP ne]
  .rw[bO e z]
 have h:(aY K0 x y y).below=(K0 y).below++[x]:=by rw[cq ne]
 have u:∀{n:Str},n≠x->(aY K0 x y n).above=(K0 n).above:=fun{n} e=>by
  by_cases z:n=y
  .subst z;rw[cq ne]
  .rw[bO z e]
 have A:(aY K0 x y x).above=some y:=by rw[bP ne]
 have D:∀{n:Str},n≠x->(aY K0 x y n).mark=(K0 n).mark:=fun{n} e=>by
  by_cases z:n=y
  .subst z;rw[cq ne]
  .rw[bO z e]
 have nb:∀n∈S0,x∉(K0 n).below:=λn hn z=>by
  rw[(f.up n hn x z).2]at g;cases g
 have o:∀n∈S0,∀b∈(K0 n).below,b∈S0/\(aY K0 x y b).above=some n:=λn hn b hb=>by
  obtain⟨s,t⟩:=f.up n hn b hb;exact⟨s,by rw[u λe=>nb n hn<|e▸hb];exact t⟩
 have dl:∀b:Str,(K0 b).below.length<=(aY K0 x y b).below.length:=λb=>by
  by_cases z:b=y
  .subst z;rw[h,zau];lia
  .rw[d z];exact zap _
 have j:∀n∈S0,∀(i:Nat) (b:Str),(K0 n).below[i]?=some b->i<=(aY K0 x y b).below.length+b1 (aY K0 x y b).mark:=λn hn i b e=>by
  have s:=f.dg n hn i b e;have t:=dl b;rw[D λz=>nb n hn<|z▸zaj e]
  lia
 refine⟨λn hn=>?_,λn hn b hb=>?_,λm hm a e=>?_,λn hn i b e=>?_⟩
 .by_cases z:n=y
  .subst z
   rw[h,List.nodup_append];exact⟨f.nd n hn,by simp,λp B q C=>by rw[zad C];exact λe=>nb n hn<|e▸B⟩
  .rw[d z];exact f.nd n hn
 .by_cases z:n=y
  .subst z
   rw[h]at hb;rcases zae hb with hb|hb
   .exact o n hn b hb
   .rw[zad hb];exact⟨I,A⟩
  .rw[d z]at hb;exact o n hn b hb
 .by_cases z:m=x
  .subst z
   rw[A]at e;cases e
   rw[h];simp
  .rw[u z]at e
   have:=f.dn m hm a e
   by_cases w:a=y
   .subst w;rw[h];exact zaW _ this
   .rw[d w];exact this
 .by_cases z:n=y
  .subst z
   rw[h]at e
   by_cases l:i<(K0 n).below.length
   .rw[zax l]at e;exact j n hn i b e
   .rw[zaN (by lia)]at e
    cases q:i-(K0 n).below.length with
    |zero=>
     rw[q]at e;simp at e;subst e;rw[d λw=>ne w.symm]
     lia
    |succ k=>rw[q]at e;simp at e
  .rw[d z]at e;exact j n hn i b e
structure FmX(S0:List Str)(K0:Str->aw.Row)(x:Str):Prop where
 nd:∀n∈S0,(K0 n).below.Nodup
 up:∀n∈S0,∀b∈(K0 n).below,b∈S0/\(K0 b).above=some n
 dn:∀m∈S0,∀a,(K0 m).above=some a->m∈(K0 a).below
 dg:∀n∈S0,∀(i:Nat) (b:Str),(K0 n).below[i]?=some b->b≠x->i<=(K0 b).below.length+b1 (K0 b).mark
theorem Fm.x(f:Fm S0 K0)(x:Str):FmX S0 K0 x:=⟨f.nd,f.up,f.dn,λn hn i b e _=>f.dg n hn i b e⟩
theorem yg:∀l:List Str,l.Nodup->n∈l->(l.filter λx=>!decide (x=n)).length+1=l.length
 |y::l,nd,h=>by
  obtain⟨n1,n2⟩:=List.nodup_cons.mp nd;rw[List.filter_cons]
  by_cases e:y=n
  .subst e
   rw[if_neg (by simp),zaw,List.filter_eq_self.mpr λx a=>by
    have:x≠y:=λe=>n1 (e▸a)
    simpa using this]
  .rw[if_pos (by simpa using e),zaw,zaw,yg l n2<|(zaf h).resolve_left λz=>e z.symm]
theorem vm:∀(l:List Str) (i:Nat) (b:Str),(l.filter p)[i]?=some b->∃j,i<=j/\l[j]?=some b
 | [],i,b,h=>by simp at h
 |y::l,i,b,h=>by
  rw[List.filter_cons]at h;split at h
  .cases i with
   |zero=>exact⟨0,zap _,by simpa using h⟩
   |succ i=>
    obtain⟨j,d,a⟩:=vm l i b (by simpa using h)
    exact⟨j+1,by lia,by simpa using a⟩
  .obtain⟨j,d,a⟩:=vm l i b h
   exact⟨j+1,by lia,by simpa using a⟩
theorem FmX.cut(f:FmX S0 K0 n)(sa:∀m∈S0,(K0 m).above≠some m)(hn:n∈S0)(hk:a∈S0)(ha:(K0 n).above=some a)(ne:a≠n):FmX S0 (cz K0 n a) a/\((K0 a).mark=false->Fm S0 (cz K0 n a)):=by
 have s:∀{m:Str},m≠n->(cz K0 n a m).above=(K0 m).above:=fun{m} e=>by rw[cp,if_neg e]
 have q:(cz K0 n a a).below=(K0 a).below.filter λx=>!decide (x=n):=by
  unfold cz bW;rw[aC,au _ _ ne]
 have h:∀{m:Str},m≠a->(cz K0 n a m).below=(K0 m).below:=fun{m} e=>by
  unfold cz bW;rw[au _ _ e]
  by_cases z:m=n
  .subst z;rw[aC]
  .rw[au _ _ z]
 have sub:∀{m b:Str},m∈S0->b∈(cz K0 n a m).below->b∈(K0 m).below/\b≠n:=fun{m b} hm hb=>by
  by_cases e:m=a
  .subst e
   rw[q]at hb;obtain⟨p,r⟩:=List.mem_filter.mp hb;exact⟨p,by simpa using r⟩
  .rw[h e]at hb
   refine⟨hb,λz=>?_⟩
   subst z;rw[(f.up m hm b hb).2]at ha;cases ha;exact e rfl
 have dl:=yg (K0 a).below (f.nd a hk) (f.dn n hn a ha);have o:FmX S0 (cz K0 n a) a:=by
  refine⟨λm hm=>?_,λm hm b hb=>?_,λm hm x e=>?_,λm hm i b e nb=>?_⟩
  .by_cases e:m=a
   .subst e;rw[q];exact(f.nd m hm).sublist List.filter_sublist
   .rw[h e];exact f.nd m hm
  .obtain⟨p,r⟩:=sub hm hb
   rw[s r];exact f.up m hm b p
  .by_cases z:m=n
   .subst z;rw[cp,if_pos rfl]at e;cases e
   .rw[s z]at e
    have:=f.dn m hm x e
    by_cases w:x=a
    .subst w;rw[q];exact List.mem_filter.mpr ⟨this,by simpa using z⟩
    .rw[h w];exact this
  .have hb:=(sub hm<|zaj e).2
   have key:∀j,i<=j->(K0 m).below[j]?=some b->i<=(cz K0 n a b).below.length+b1 (cz K0 n a b).mark:=λj y t=>by
    have:=f.dg m hm j b t hb;rw[h nb,sY hb nb];lia
   by_cases z:m=a
   .subst z
    rw[q]at e;obtain⟨j,p,r⟩:=vm _ i b e;exact key j p r
   .rw[h z]at e;exact key i (zap _) e
 refine⟨o,λhm=>⟨o.nd,o.up,o.dn,λm d i b e=>?_⟩⟩
 by_cases nb:b=a
 .subst nb
  have u:=o.up m d b (zaj e);have hs:(cz K0 n b b).mark=true:=by
   unfold cz;rw[aC];rw[qv,if_neg ne,<-s ne,u.2];rfl
  have mb:m≠b:=λz=>by
   subst z;exact sa m d (f.up m d m (sub d<|zaj e).1).2
  rw[h mb]at e;have:=f.dg m d i b e (λz=>ne z)
  rw[q,hs];rw[hm]at this;have p:b1 true=1:=rfl;have v:b1 false=0:=rfl
  lia
 .exact o.dg m d i b e nb
theorem Fm.cuts:∀(C ag:List Str) (K0:Str->aw.Row) (n ρ:Str),Bt K c ag S0 K0->n∈S0->FmX S0 K0 n->Ch K0 n C ρ->Fm S0 (cuts C K0):=by
 intro C
 induction C with
 |nil=>intro ag K0 n ρ _ _ _ b;cases b
 |cons x C i=>
  intro ag K0 n ρ h hn f b;have sa:∀m∈S0,(K0 m).above≠some m:=λm hm e=>h.neA hm e rfl
  cases b with
  |one ha hm=>
   rw[cK ha];exact(f.cut sa hn (h.ab x hn _ ha) ha<|h.neA hn ha).2 hm
  |more ha hm b=>
   rename_i a
   have d:=h.ab x hn a ha;rw[cK ha];exact i (ag++[x]) (cz K0 x a) a ρ (h.cut hn ha) d (f.cut sa hn d ha<|h.neA hn ha).1 (Ch.cut h hn ha b)
end
theorem fD(f:Option Str):gY (aM f) .none=some (.bool f.isSome,false):=by cases f<;>rfl
theorem gz(f:Option Str):gIs (aM f) .none=some (.bool f.isNone,false):=by cases f<;>rfl
theorem iN(l:List Str)(x:Str):l.map PyData.str++[.str x]=(l++[x]).map .str:=by rw[za1];rfl
theorem z3{l:List D}{k:Kd}(g:sv a L=some ((.tuple l,k),ρ1)):ze a L=some (l,ρ1):=by
 unfold ze;rw[g];rfl
theorem yh(hc:c<=600){name a:Str}{K:Str->Int}(h:Bt K c ag S0 K0)(hn:name∈S0)(ha:(K0 name).above=some a){sts:List D}(hs:sts.length<=1000){M O U Y l g:Sl}(n5:NIo M)(n6:NIo O)(n7:NIo U)(n8:NIo Y)(n9:NIo l)(I:NIo g) :
  jX [.io<|TD ag,.io<|HD S0 K0,.fz<|.str name,.own<|.list sts,.fz<|.bool true,M,O,U,Y,l,g]=some (.nx [.io<|TD<|ag++[name],.io<|HD S0<|cz K0 name a,.fz<|.str a,.own<|.list<|sts++[.tuple [.str "cut",.str name]],.fz<|.bool (bW K0 name a).mark,.fz<|.int (bW K0 name a).key,.fz<|.str a,.fz<|.bool (K0 name).mark,.fz<|.tuple<|((bW K0 name a).below.filter λx=>!decide (x=name)).map .str,.fz<|aM (bW K0 name a).above,.fz<|.bool (bW K0 name a).mark]):=by
 have d:=h.ab name hn a ha;have kl:=h.kl;have tl:=h.tl;have m:=h.ok hn;refine az (ρ1:=[.io<|TD ag,.io<|HD S0 K0,.fz<|.str name,.own<|.list sts,.fz<|.bool true,.fz<|.int (K0 name).key,.fz<|.str a,.fz<|.bool (K0 name).mark,.fz<|.tuple<|(K0 name).below.map .str,l,g]) (kL (a8 (.inr<|.inr rfl) hn<|ai rfl) ?_) ?_
 .show(mgN 5 (.int (K0 name).key) _).bind (fun ρ1=>(mgN 6 (aM (K0 name).above) ρ1).bind λf=>(mgN 7 (.bool (K0 name).mark) f).bind λi=>(mgN 8 (.tuple<|(K0 name).below.map .str) i).bind λj=>some j)=_
  rw[cC rfl n5,zai,cC rfl n6,zai,cC rfl n7,zai,cC rfl n8,zai,ha];rfl
 refine az (ρ1:=[.io<|TD ag,.io<|HD S0<|bW K0 name,.fz<|.str name,.own<|.list sts,.fz<|.bool true,.fz<|.int (K0 name).key,.fz<|.str a,.fz<|.bool (K0 name).mark,.fz<|.tuple<|(K0 name).below.map .str,l,g]) ((fW (bR rfl rfl (by simp)) (ai rfl) rfl (.inr rfl) (by lia)).trans (by rw[du hn];rfl)) ?_
 refine az (ρ1:=[.io<|TD<|ag++[name],.io<|HD S0<|bW K0 name,.fz<|.str name,.own<|.list sts,.fz<|.bool true,.fz<|.int (K0 name).key,.fz<|.str a,.fz<|.bool (K0 name).mark,.fz<|.tuple<|(K0 name).below.map .str,l,g]) (eZ<|lB rfl rfl rfl rfl (ni _ (by rw[zal];lia)) (by rw[iN];rfl)) ?_
 refine az (eZ<|lB rfl (ao (ah<|bR rfl rfl (by simp)) aG) rfl rfl (ni _ (by lia)) rfl) ?_
 refine az (ρ1:=[.io<|TD<|ag++[name],.io<|HD S0<|bW K0 name,.fz<|.str name,.own<|.list<|sts++[.tuple [.str "cut",.str name]],.fz<|.bool true,.fz<|.int (bW K0 name a).key,.fz<|.str a,.fz<|.bool (K0 name).mark,.fz<|.tuple<|(bW K0 name a).below.map .str,.fz<|aM (bW K0 name a).above,.fz<|.bool (bW K0 name a).mark]) (kL (a8 (.inr<|.inr rfl) d<|ai rfl) ?_) ?_
 .show(some ([.io<|TD<|ag++[name],.io<|HD S0<|bW K0 name,.fz<|.str name,.own<|.list<|sts++[.tuple [.str "cut",.str name]],.fz<|.bool true,.fz<|.int (bW K0 name a).key,.fz<|.str a,.fz<|.bool (K0 name).mark,.fz<|.tuple<|(K0 name).below.map .str,l,g]:Rho)).bind (fun ρ1=>(mgN 9 (aM (bW K0 name a).above) ρ1).bind λf=>(mgN 10 (.bool (bW K0 name a).mark) f).bind λi=>(mgN 8 (.tuple<|(bW K0 name a).below.map .str) i).bind λj=>some j)=_
  rw[zai,cC rfl n9,zai,cC rfl I,zai];rfl
 have bk:∀b∈(bW K0 name a).below,b∈S0:=λb hb=>by
  have e:(bW K0 name a).below=(K0 a).below:=by
   unfold bW aI;split
   .rename_i e;rw[e]
   .rfl
  rw[e]at hb;exact(h.bl a d).2 b hb
 have bl:(bW K0 name a).below.length<=1000:=by
  have e:(bW K0 name a).below=(K0 a).below:=by
   unfold bW aI;split
   .rename_i e;rw[e]
   .rfl
  rw[e];have:=(h.bl a d).1
  lia
 refine az (bz (dY (Y0:=(.tuple<|((bW K0 name a).below.filter λx=>!decide (x=name)).map .str,true)) (ao (eA<|pL (z3<|ah<|ai rfl) (dw _ (λx n=>⟨_,test_ev (k:=.fz)<|aL (ah<|ai rfl) (ah<|ai rfl)<|oW (h.ok<|bk x n) m⟩) λx n=>⟨_,ah<|ai rfl⟩) (by rw[zal];exact zaX (zaY _ _) (by lia))) aG) rfl) rfl) ?_
 refine az (ρ1:=[.io<|TD<|ag++[name],.io<|HD S0<|cz K0 name a,.fz<|.str name,.own<|.list<|sts++[.tuple [.str "cut",.str name]],.fz<|.bool true,.fz<|.int (bW K0 name a).key,.fz<|.str a,.fz<|.bool (K0 name).mark,.fz<|.tuple<|((bW K0 name a).below.filter λx=>!decide (x=name)).map .str,.fz<|aM (bW K0 name a).above,.fz<|.bool (bW K0 name a).mark]) ((fW (bR (ao (ah<|ai rfl)<|ao (ah<|ai rfl)<|ao (ah<|aL (ah<|ai rfl) (ah rfl)<|fD _)<|ao (ah<|ai rfl) aG) rfl (by simp)) (ai rfl) rfl (.inr rfl) (by lia)).trans (by rw[du d];rfl)) ?_
 exact az (bz (ai rfl) rfl) (bz (ai rfl) rfl)
theorem Dj(hc:c<=600):∀(C:List Str) (ag:List Str) (K0:Str->aw.Row) (name ρ:Str) (sts:List D) (I M O U Y l:Sl) (g:Nat),NIo I->NIo M->NIo O->NIo U->NIo Y->NIo l->Ch K0 name C ρ->Bt K c ag S0 K0->name∈S0->sts.length+C.length<=1000->C.length<g->
  ∃n' tl,dB nS jX g [.io<|TD ag,.io<|HD S0 K0,.fz<|.str name,.own<|.list sts,.fz<|.bool true,I,M,O,U,Y,l]=some (.nx (.io (TD<|ag++C)::.io (HD S0<|cuts C K0)::.fz n'::.own (.list<|sts++C.map stp)::tl))/\Bt K c (ag++C) S0 (cuts C K0):=by
 intro C
 induction C with
 |nil=>intro ag K0 name ρ sts I M O U Y l g _ _ _ _ _ _ b;cases b
 |cons x C r=>
  intro ag K0 name ρ sts I M O U Y l g i j m n p d b h hn hs q;rw[zaw]at hs q;obtain⟨g,rfl⟩:∃k,g=k+1:=⟨g-1,by lia⟩
  cases b with
  |one ha hm=>
   obtain⟨g,rfl⟩:∃k,g=k+1:=⟨g-1,by lia⟩
   have ne:=h.neA hn ha;rw[cK ha];exact⟨_,_,lR (test_ev (k:=.fz)<|ai rfl) (yh hc h hn ha (by lia) i j m n p d) (ir<|test_ev (k:=.fz) (by rw[sZ ne,hm];exact ai rfl)),h.cut hn ha⟩
  |more ha hm b=>
   rename_i a
   have ne:=h.neA hn ha;rw[cK ha];obtain⟨n',tl,e,f⟩:=r (ag++[x]) (cz K0 x a) a ρ (sts++[.tuple [.str "cut",.str x]]) (.fz<|.int (bW K0 x a).key) (.fz<|.str a) (.fz<|.bool (K0 x).mark) (.fz<|.tuple<|((bW K0 x a).below.filter λy=>!decide (y=x)).map .str) (.fz<|aM (bW K0 x a).above) (.fz<|.bool (bW K0 x a).mark) g (NIo.fz _) (NIo.fz _) (NIo.fz _) (NIo.fz _) (NIo.fz _) (NIo.fz _) (Ch.cut h hn ha b) (h.cut hn ha) (h.ab x hn a ha) (by rw[zau,za7];lia) (by lia)
   refine⟨n',tl,lR (test_ev (k:=.fz)<|ai rfl) (yh hc h hn ha (by lia) i j m n p d) ?_,?_⟩
   .rw[sZ ne,hm]at e⊢
    rw[e,zaD,zaD];rfl
   .rw[zaD]at f;exact f
theorem QB(l:c<=600)(h:Bt K c ag S0 K0)(hn:name∈S0)(g:Ch K0 name C ρ)(I:C.length<=600):fZ [TD ag,HD S0 K0,.str name]=some ((.list<|C.map stp,true),TD<|ag++C,HD S0<|cuts C K0)/\Bt K c (ag++C) S0 (cuts C K0):=by
 obtain⟨d,tl,a,b⟩:=Dj l C ag K0 name ρ [] .no .no .no .no .no .no 1000000 NIo.no NIo.no NIo.no NIo.no NIo.no NIo.no g h hn (by simp;lia) (by lia)
 refine⟨?_,b⟩;have ea:(K0 name).above.isSome=true:=by cases g with|one ha _=>rw[ha];rfl|more ha _ _=>rw[ha];rfl
 refine zZ (o:=.rt (.list<|C.map stp,.at 3) (.io (TD<|ag++C)::.io (HD S0<|cuts C K0)::.fz d::.own (.list<|C.map stp)::tl)) rfl ?_ rfl rfl;refine az (cN (eO rfl rfl (by simp)) rfl) ?_
 refine az (bz (aL (Y0:=(.bool true,false)) (ah<|bx<|a8 (.inr<|.inr rfl) hn<|ai rfl) (ah rfl) (by rw[fD,ea])) rfl) ?_
 exact az a (bH<|fK rfl)
theorem OB(I:c<=600)(h:Bt K c ag S0 K0)(l:Fm S0 K0)(hn:name∈S0):∃g aE sts,fZ [TD ag,HD S0 K0,.str name]=some ((.list sts,true),TD g,HD S0 aE)/\Bt K c g S0 aE/\(∀n,(aE n).key=(K0 n).key)/\Fm S0 aE:=by
 cases ea:(K0 name).above with
 |some a=>
  obtain⟨C,ρ,b,d⟩:=Gv h hn (by rw[ea];simp)
  obtain⟨h3,h4⟩:=QB I h hn b (by lia)
  exact⟨_,_,_,h3,h4,j9 C K0,Fm.cuts C ag K0 name ρ h hn (l.x name) b⟩
 |none=>
  refine⟨ag,K0,[],?_,h,λ_=>rfl,l⟩
  refine zZ (o:=.rt (.list [],.at 3) [.io<|TD ag,.io<|HD S0 K0,.fz<|.str name,.own<|.list [],.fz<|.bool false,.no,.no,.no,.no,.no,.no]) rfl ?_ rfl rfl;refine az (cN (eO rfl rfl (by simp)) rfl) ?_
  refine az (bz (aL (Y0:=(.bool false,false)) (ah<|bx<|a8 (.inr<|.inr rfl) hn<|ai rfl) (ah rfl) (by rw[fD,ea];rfl)) rfl) ?_
  exact az (ir<|test_ev (k:=.fz)<|ai rfl) (bH<|fK rfl)
abbrev bst(M:D)(T H:D)(k cell:Int)(s6 O U Y:Sl):Rho:=[.fz M,.fz<|.int 0,.own T,.own H,.fz<|.int k,.fz<|.int cell,s6,O,U,Y]
theorem z4(hc:c<100)(h:Bk c ag S0 K0)(O:Fm S0 K0)(g:D)(cell:Int)(n6:NIo Y)(n7:NIo s7)(n8:NIo s8)(U:NIo l) :
  ∃M I aE t6 t7 t8 t9,fc (bst g (TD ag) (HD S0 K0) (c:Int) cell Y s7 s8 l)=some (.nx<|bst g (TD M) (HD I aE) (c:Int) cell t6 t7 t8 t9)/\Bk (c+1) M I aE/\Fm I aE/\NIo t6/\NIo t7/\NIo t8/\NIo t9:=by
 have kl:=h.kl;have tl:=h.tl;obtain⟨ρ,hL,s⟩:=Kg (λt ht=>(h.tk t ht).1) (by lia) (cell/5%97)
 have Q:∀x∈ρ,PyData.strOk x=true:=λx w=>by
  rcases s with rfl|⟨a,b,i,j,rfl,_,g1,B,_⟩
  .cases w
  .have:x=a\/x=b:=by simpa using w
   rcases this with rfl|rfl
   .exact h.ok (h.tk x<|zaj g1).1
   .exact h.ok (h.tk x<|zaj B).1
 have hd:∀o,cL (jO (ax<|mOp gEq (mOp bY (aa 5)<|mC<|.int 5)<|mC<|.int 4)<|ax<|mOp gGt (mCB bV<|af (aa 8) ar)<|mC<|.int 0)
   (eg<|iW 2 3 fZ<|af (mOp gIx (aa 8)<|mOp bY (aa 6)<|mCB bV<|af (aa 8) ar) ar)
   (cL (jO (ax<|mOp gGt (mOp bY (aa 5)<|mC<|.int 5)<|mC<|.int 0)<|ax<|mOp gNe (aa 7)<|eM ar)
   (aT (cL (ax<|aQ dk<|af (aa 3)<|af (mOp gIx (aa 7)<|mC<|.int 0)<|af (mOp gIx (aa 7)<|mC<|.int 1) ar)
   (eg<|sj 7 lQ)
   cD)
   (eg<|iW 2 3 eR<|af (mOp gIx (aa 7)<|mC<|.int 0)<|af (mOp gIx (aa 7)<|mC<|.int 1) ar))
   (aT (bL 9<|aQ a9<|af (mOp cM (aa 1)<|aa 4) ar)
   (aT (eC 3 (cW<|af (aQ bB<|af (aa 6) ar)<|af (mC .none)<|af (mC<|.bool false)<|af (cW ar) ar)<|aa 9)
   (eg<|oz 2 eu<|af (aa 9) ar)))) (bst g (TD ag) (HD S0 K0) (c:Int) cell (.fz<|.int<|cell/5) (.own<|TD ρ) (.own<|TD S0) l)=some o->fc (bst g (TD ag) (HD S0 K0) (c:Int) cell Y s7 s8 l)=some o:=λo ho=>by
  refine az (bz (mP (a6 rfl) bC ⟨by decide,by decide⟩)<|fj _ rfl n6) ?_
  refine az (cN (aZ (oN (pK<|fK rfl) (oN (pK<|fK rfl) (cG (cY (a6 rfl) bC (by decide)) aG) rfl) rfl) hL<|gg ρ)<|fj _ rfl n7) ?_
  exact az (cN (Gx<|.inr<|.inl rfl)<|fj _ rfl n8) ho
 have em:IE (mOp bY (aa 5)<|mC<|.int 5) (bst g (TD ag) (HD S0 K0) (c:Int) cell (.fz<|.int<|cell/5) (.own<|TD ρ) (.own<|TD S0) l) (cell%5):=cY (a6 rfl) bC (by decide)
 have el:IE (mCB bV<|af (aa 8) ar) (bst g (TD ag) (HD S0 K0) (c:Int) cell (.fz<|.int<|cell/5) (.own<|TD ρ) (.own<|TD S0) l) (S0.length:Int):=me (.inr<|.inl rfl)
 by_cases S:cell%5=4/\0<S0.length
 .obtain⟨n,hn,Z⟩:=Kk (L:=bst g (TD ag) (HD S0 K0) (c:Int) cell (.fz<|.int<|cell/5) (.own<|TD ρ) (.own<|TD S0) l) (i:=8) (.inr<|.inl rfl) S.2 (a:=aa 6) (a6 rfl)
  obtain⟨M,aE,sts,h1,h2,H,G⟩:=OB (by lia:c<=600) h O hn
  refine⟨M,S0,aE,_,_,_,_,hd _ (mM (sA (tEq em bC S.1)<|b7 (lS el bC)<|zaH (by lia))<|eZ<|ye (by decide) rfl rfl (ao (ah Z) aG) rfl rfl rfl h1 rfl),(h2.re λn _=>(H n).symm).more<|Nat.le_succ c,G,NIo.fz _,NIo.own _,NIo.own _,U⟩
 .have R:jO (ax<|mOp gEq (mOp bY (aa 5)<|mC<|.int 5)<|mC<|.int 4) (ax<|mOp gGt (mCB bV<|af (aa 8) ar)<|mC<|.int 0) (bst g (TD ag) (HD S0 K0) (c:Int) cell (.fz<|.int<|cell/5) (.own<|TD ρ) (.own<|TD S0) l)=some (false,bst g (TD ag) (HD S0 K0) (c:Int) cell (.fz<|.int<|cell/5) (.own<|TD ρ) (.own<|TD S0) l):=by
   by_cases e:cell%5=4
   .exact sA (tEq em bC e) (b7 (lS el bC)<|zaO (by lia))
   .exact AV (tNe em bC e)
  have m:mOp gNe (aa 7) (eM ar) (bst g (TD ag) (HD S0 K0) (c:Int) cell (.fz<|.int<|cell/5) (.own<|TD ρ) (.own<|TD S0) l)=some ((.bool<|!ρ.isEmpty,.fz),bst g (TD ag) (HD S0 K0) (c:Int) cell (.fz<|.int<|cell/5) (.own<|TD ρ) (.own<|TD S0) l):=nU (.inr<|.inl rfl) (eA<|eO rfl rfl (by simp)) (Kh Q)
  by_cases F : 0<cell%5/\ρ≠[]
  .obtain⟨a,b,i,j,rfl,ne,g1,B,W⟩:=s.resolve_left F.2
   have f:=zaj g1;have mb:=zaj B;have N:=(h.tk a f).1;have P:=(h.tk b mb).1;have d:a≠b:=λe=>by
    subst e;obtain⟨hi,T⟩:=zac g1;obtain⟨X,V⟩:=zac B;have pw:=List.pairwise_iff_getElem.mp h.tn;rcases Nat.lt_or_gt_of_ne ne with q|q
    .exact pw i j hi X q (T.trans V.symm)
    .exact pw j i X hi q (V.trans T.symm)
   have p:∀x y:Str,x∈ag->y∈ag->y≠x->eg (iW 2 3 eR<|af (mOp gIx (aa 7)<|mC<|.int 0)<|af (mOp gIx (aa 7)<|mC<|.int 1) ar) (bst g (TD ag) (HD S0 K0) (c:Int) cell (.fz<|.int<|cell/5) (.own<|TD [x,y]) (.own<|TD S0) l)=some (.nx<|bst g (TD<|ag.erase x) (HD S0<|aY K0 x y) (c:Int) cell (.fz<|.int<|cell/5) (.own<|TD [x,y]) (.own<|TD S0) l):=λx y w hy hne=>by
    have σ:mOp gIx (aa 7) (mC<|.int 0) (bst g (TD ag) (HD S0 K0) (c:Int) cell (.fz<|.int<|cell/5) (.own<|TD [x,y]) (.own<|TD S0) l)=some ((.str x,.fz),bst g (TD ag) (HD S0 K0) (c:Int) cell (.fz<|.int<|cell/5) (.own<|TD [x,y]) (.own<|TD S0) l):=nU (Y0:=(.str x,false)) (.inr<|.inl rfl) (ah rfl) rfl;have K:mOp gIx (aa 7) (mC<|.int 1) (bst g (TD ag) (HD S0 K0) (c:Int) cell (.fz<|.int<|cell/5) (.own<|TD [x,y]) (.own<|TD S0) l)=some ((.str y,.fz),bst g (TD ag) (HD S0 K0) (c:Int) cell (.fz<|.int<|cell/5) (.own<|TD [x,y]) (.own<|TD S0) l):=nU (Y0:=(.str y,false)) (.inr<|.inl rfl) (ah rfl) rfl;exact eZ (ye (by decide) rfl rfl (ao (ah σ)<|ao (ah K) aG) rfl rfl rfl (Kf (h.tk x w).1 (h.tk y hy).1 w (by lia) λn hn=>by have:=(h.bl n hn).1;lia) rfl)
   have σ:mOp gIx (aa 7) (mC<|.int 0) (bst g (TD ag) (HD S0 K0) (c:Int) cell (.fz<|.int<|cell/5) (.own<|TD [a,b]) (.own<|TD S0) l)=some ((.str a,.fz),bst g (TD ag) (HD S0 K0) (c:Int) cell (.fz<|.int<|cell/5) (.own<|TD [a,b]) (.own<|TD S0) l):=nU (Y0:=(.str a,false)) (.inr<|.inl rfl) (ah rfl) rfl;have K:mOp gIx (aa 7) (mC<|.int 1) (bst g (TD ag) (HD S0 K0) (c:Int) cell (.fz<|.int<|cell/5) (.own<|TD [a,b]) (.own<|TD S0) l)=some ((.str b,.fz),bst g (TD ag) (HD S0 K0) (c:Int) cell (.fz<|.int<|cell/5) (.own<|TD [a,b]) (.own<|TD S0) l):=nU (Y0:=(.str b,false)) (.inr<|.inl rfl) (ah rfl) rfl;have E:ax (aQ dk<|af (aa 3)<|af (mOp gIx (aa 7)<|mC<|.int 0)<|af (mOp gIx (aa 7)<|mC<|.int 1) ar) (bst g (TD ag) (HD S0 K0) (c:Int) cell (.fz<|.int<|cell/5) (.own<|TD [a,b]) (.own<|TD S0) l)=some (aF (K0 a).key a (K0 b).key b,bst g (TD ag) (HD S0 K0) (c:Int) cell (.fz<|.int<|cell/5) (.own<|TD [a,b]) (.own<|TD S0) l):=(e8 (oN (pK<|fK rfl) (ao (ah σ)<|ao (ah K) aG) rfl)<|Df S0 K0 a b N P).t;have C:=sA (b7 (lS em bC)<|zaH F.1) (test_ev (k:=.fz) m);cases A:aF (K0 a).key a (K0 b).key b with
   |true=>
    rw[A]at E;exact⟨ag.erase b,S0,aY K0 b a,_,_,_,_,hd _<|eN R<|mM C<|az (mM E<|eZ<|Kj rfl rfl rfl)<|p b a mb f d,(h.hung mb f d A).re λn _=>(ke d n).symm,O.hung P N d (h.tk b mb).2 W.symm,NIo.fz _,NIo.own _,NIo.own _,U⟩
   |false=>
    rw[A]at E;exact⟨ag.erase a,S0,aY K0 a b,_,_,_,_,hd _<|eN R<|mM C<|az (eN E rfl)<|p a b f mb λz=>d z.symm,(h.hung f mb (λz=>d z.symm)<|iM d A).re λn _=>(ke (λz=>d z.symm) n).symm,O.hung N P (λz=>d z.symm) (h.tk a f).2 W,NIo.fz _,NIo.own _,NIo.own _,U⟩
  .have C:jO (ax<|mOp gGt (mOp bY (aa 5)<|mC<|.int 5)<|mC<|.int 0) (ax<|mOp gNe (aa 7)<|eM ar) (bst g (TD ag) (HD S0 K0) (c:Int) cell (.fz<|.int<|cell/5) (.own<|TD ρ) (.own<|TD S0) l)=some (false,bst g (TD ag) (HD S0 K0) (c:Int) cell (.fz<|.int<|cell/5) (.own<|TD ρ) (.own<|TD S0) l):=by
    by_cases e : 0<cell%5
    .have:ρ=[]:=Classical.byContradiction λz=>F ⟨e,z⟩
     subst this;exact sA (b7 (lS em bC)<|zaH e) (test_ev (k:=.fz) m)
    .exact AV (b7 (lS em bC)<|zaO e)
   obtain⟨v,hv⟩:=key_is (cell/5);obtain⟨u,hB⟩:=Bk.new (by lia:c<600) h v
   have ea:IE (mOp cM (aa 1)<|aa 4) (bst g (TD ag) (HD S0 K0) (c:Int) cell (.fz<|.int<|cell/5) (.own<|TD ρ) (.own<|TD S0) l) (c:Int):=(g6 (a6 rfl)<|a6 rfl).is (by lia)
   refine⟨_,_,_,_,_,_,_,hd _<|eN R<|eN C ?_,hB,O.new h.ab u v,NIo.fz<|.int<|cell/5,NIo.own<|TD ρ,NIo.own<|TD S0,NIo.fz<|.str<|aq c⟩;refine az (bz (aZ (cG ea aG) (oV c) rfl)<|fj _ rfl U) ?_;refine az (ρ1:=bst g (TD ag) (HD (S0++[aq c])<|aI K0 (aq c) ⟨v,none,false,[]⟩) (c:Int) cell (.fz<|.int<|cell/5) (.own<|TD ρ) (.own<|TD S0)<|.fz<|.str<|aq c) ((fW (r:=⟨v,none,false,[]⟩) (bR (cG (kG rfl hv)<|ao (ah rfl)<|ao (ah rfl)<|ao (ah<|bR rfl rfl (by simp)) aG) rfl (by simp)) (ai rfl) rfl (.inl rfl) (by lia)).trans (by rw[md u];rfl)) ?_
   exact eZ (lB rfl rfl rfl rfl (ni _ (by rw[zal];lia)) (by rw[iN];rfl))
theorem GC(g:List Int):ju (g.map .int)=(g.zipIdx).map λp:Int×Nat=>PyData.tuple [.int (p.2:Int),.int p.1]:=by
 unfold ju;refine List.ext_getElem? λi=>?_
 rw[List.getElem?_mapIdx,zao,zao,List.getElem?_zipIdx];cases g[i]? <;>simp
theorem z5(I:D):∀(l:List Int) (c:Nat) (ag S0:List Str) (K0:Str->aw.Row) (O U Y s7 s8 s9:Sl),NIo O->NIo U->NIo Y->NIo s7->NIo s8->NIo s9->c+l.length<=100->Bk c ag S0 K0->Fm S0 K0->
  ∃M g aE tl,forL (mgU 2<|aR (mgN 4)<|aR (mgN 5) dA) fc ((l.zipIdx c).map λp:Int×Nat=>PyData.tuple [.int (p.2:Int),.int p.1]) [.fz I,.fz<|.int 0,.own<|TD ag,.own<|HD S0 K0,O,U,Y,s7,s8,s9]=some (.nx (.fz I::.fz (.int 0)::.own (TD M)::.own (HD g aE)::tl))/\Bk (c+l.length) M g aE/\Fm g aE:=by
 intro l
 induction l with
 |nil=>intro c ag S0 K0 O U Y s7 s8 s9 _ _ _ _ _ _ _ h d;exact⟨ag,S0,K0,_,rfl,h,d⟩
 |cons x l q=>
  intro c ag S0 K0 O U Y s7 s8 s9 v w y A B C o h d;rw[zaw]at o⊢;obtain⟨i,j,k,E,F,G,H,m,n,a,r,s,t,u⟩:=z4 (by lia:c<100) h d I x y A B C
  obtain⟨M,g,aE,tl,h3,h4,b⟩:=q (c+1) i j k (.fz<|.int (c:Int)) (.fz<|.int x) E F G H (NIo.fz _) (NIo.fz _) r s t u (by lia) n a
  refine⟨M,g,aE,tl,?_,by rw[show c+(l.length+1)=c+1+l.length by lia];exact h4,b⟩
  refine cg ?_ m h3;show(mgN 4 (.int (c:Int)) _).bind (λe=>(mgN 5 (.int x) e).bind λf=>some f)=_
  rw[cC rfl v,zai,cC rfl w,zai];rfl
theorem Bt.zero(K0:Str->aw.Row):Bk 0 [] [] K0:=⟨by simp,(λn hn=>by cases hn),by simp,(λn hn=>by cases hn),(λn hn=>by cases hn),(λn hn=>by cases hn),(λn hn=>by cases hn),(λn hn=>by cases hn),λn hn=>by cases hn⟩
theorem vn(g:ds.length=n)(l:b (ds.map .fz++List.replicate k .no)=some w):fnD n k b ds=some w:=by unfold fnD;rw[if_pos g,l]
theorem dN(g:a L=some (.nx ρ1))(l:b ρ1=o):iw a b L=o:=by unfold iw;rw[g,zai];exact l
theorem GD(g:List Int)(l:g.length<=60):∃ag S0 K0,gP [.list<|g.map .int,.int 0]=some (TD ag,HD S0 K0)/\Bk 60 ag S0 K0/\Fm S0 K0:=by
 obtain⟨ag,S0,K0,tl,b,c,a⟩:=z5 (.list<|g.map .int) g 0 [] [] (λ_=>⟨0,none,false,[]⟩) .no .no .no .no .no .no NIo.no NIo.no NIo.no NIo.no NIo.no NIo.no (by lia) (Bt.zero _) (Fm.zero _)
 refine⟨ag,S0,K0,?_,c.more (by lia),a⟩
 refine vn rfl ?_;refine dN (cN (eO rfl rfl (by simp)) rfl) ?_
 refine dN (cN rfl rfl) ?_;rw[<-GC]at b;exact dN (iV rfl b) rfl
def names(c:Nat):List Str:=(List.range c).map aq
theorem iO(c:Nat):(names c).length=c:=by unfold names;rw[zal,List.length_range]
theorem d6:n∈names c↔∃i,i<c/\n=aq i:=by
 unfold names;rw[List.mem_map]
 constructor
 .rintro⟨i,hi,rfl⟩;exact⟨i,List.mem_range.mp hi,rfl⟩
 .rintro⟨i,hi,rfl⟩;exact⟨i,List.mem_range.mpr hi,rfl⟩
theorem jb(c:Nat):names (c+1)=names c++[aq c]:=by unfold names;rw[List.range_succ,za1];rfl
theorem nu(g:c<600):aq c∉names c:=λz=>by
 obtain⟨i,hi,e⟩:=d6.mp z;exact fC c (by lia) i hi e
theorem qy(g:c<600):Dg (names c) (aq c)=names (c+1):=by rw[md<|nu g,jb]
theorem GF:∀c:Nat,c<=600->(names c).Nodup:=by
 intro c
 induction c with
 |zero=>intro _;exact List.nodup_nil
 |succ c d=>
  intro f;rw[jb,List.nodup_append];exact⟨d (by lia),by simp,λx a y b=>by rw[zad b];exact λe=>nu (c:=c) (by lia) (by rw[<-e];exact a)⟩
noncomputable def fb(m:Nat):Nat:=[1,2,3,5,8,13,21,34,55,89].getD m 0
theorem vo:∀q,q<9->fb (q+1)=fb q+fb (q-1):=by decide
theorem tj:∀M,M<10->∀q,q<M+1->fb q<=fb M:=by decide
theorem kN:∀M,M<10->M<=fb M/\0<fb M:=by decide
structure Gp(o:Str->Prop)(c:Nat)(K0:Str->aw.Row):Prop where
 ab:∀i,i<c->∀a,(K0<|aq i).above=some a->(∃j,j<c/\a=aq j)/\(K0 a).key<(K0<|aq i).key
 mkd:∀i,i<c->(K0<|aq i).mark=true->(K0<|aq i).above≠none
 bl:∀i,i<c->(K0<|aq i).below.length<=c/\∀b∈(K0<|aq i).below,(∃j,j<c/\b=aq j)/\(K0 b).above=some (aq i)
 nd:∀i,i<c->(K0<|aq i).below.Nodup
 dg:∀i,i<c->∀(p:Nat) (b:Str),(K0<|aq i).below[p]?=some b->p<=(K0 b).below.length+b1 (K0 b).mark
 dn:∀i,i<c->∀a,(K0<|aq i).above=some a->¬o a->aq i∈(K0 a).below
theorem iP(hi:i<600)(g:j<600)(e:aq i=aq j):i=j:=by
 rcases Nat.lt_trichotomy i j with h|h|h
 .exact absurd e.symm (fC j (by lia) i h)
 .exact h
 .exact absurd e (fC i (by lia) j h)
theorem Gp.new(h:Gp o c K0)(g:c<600)(ha:∀a,above=some a->(∃j,j<c/\a=aq j)/\(K0 a).key<key)(hm:mark=true->above≠none)(ho:∀a,above=some a->o a):Gp o (c+1) (aI K0 (aq c) ⟨key,above,mark,[]⟩):=by
 have ne:∀i,i<c->aq i≠aq c:=λi hi e=>fC c (by lia) i hi e.symm
 have q:∀(P:Nat->Prop),P c->(∀i,i<c->P i)->∀i,i<c+1->P i:=λP t f i hi=>by
  by_cases z:i=c
  .subst z;exact t
  .exact f i (by lia)
 refine⟨q _ (λa e=>?_) λi hi a e=>?_,q _ (λe=>?_) λi hi e=>?_,q _ ?_ λi hi=>?_,q _ ?_ λi hi=>?_,q _ (λp b e=>?_) λi hi p b e=>?_,q _ (λa e n=>?_) λi hi a e n=>?_⟩
 .rw[aC]at e⊢
  obtain⟨⟨j,d,rfl⟩,f⟩:=ha a e;rw[au _ _<|ne j d];exact⟨⟨j,by lia,rfl⟩,f⟩
 .rw[au _ _<|ne i hi]at e⊢
  obtain⟨⟨j,d,rfl⟩,f⟩:=h.ab i hi a e;rw[au _ _<|ne j d];exact⟨⟨j,by lia,rfl⟩,f⟩
 .rw[aC]at e⊢;exact hm e
 .rw[au _ _<|ne i hi]at e⊢;exact h.mkd i hi e
 .rw[aC];exact⟨Nat.zero_le _,λb hb=>by cases hb⟩
 .rw[au _ _<|ne i hi]
  obtain⟨t,f⟩:=h.bl i hi;refine⟨by lia,λb hb=>?_⟩
  obtain⟨⟨j,d,rfl⟩,e⟩:=f b hb;rw[au _ _<|ne j d];exact⟨⟨j,by lia,rfl⟩,e⟩
 .rw[aC];exact List.nodup_nil
 .rw[au _ _<|ne i hi];exact h.nd i hi
 .rw[aC]at e;simp at e
 .rw[au _ _<|ne i hi]at e
  obtain⟨⟨j,d,rfl⟩,_⟩:=(h.bl i hi).2 b (zaj e);rw[au _ _<|ne j d];exact h.dg i hi p _ e
 .rw[aC]at e;exact absurd (ho a e) n
 .rw[au _ _<|ne i hi]at e
  obtain⟨⟨j,d,rfl⟩,_⟩:=h.ab i hi a e;rw[au _ _<|ne j d];exact h.dn i hi _ e n
theorem Gp.upd(h:Gp (λx=>o x\/x=aq g) c K0)(O:g<c)(l:(K0<|aq g).below=[])(M:ns.length<=c)(hn:ns.Nodup)(hb:∀b∈ns,(∃j,j<c/\b=aq j)/\(K0 b).above=some (aq g))(I:∀(p:Nat) (b:Str),ns[p]?=some b->p<=(K0 b).below.length+b1 (K0 b).mark)(hd:∀i,i<c->(K0<|aq i).above=some (aq g)->aq i∈ns):Gp o c (aI K0 (aq g) ⟨(K0<|aq g).key,(K0<|aq g).above,(K0<|aq g).mark,ns⟩):=by
 have ek:∀m,(aI K0 (aq g) ⟨(K0<|aq g).key,(K0<|aq g).above,(K0<|aq g).mark,ns⟩ m).key=(K0 m).key/\(aI K0 (aq g) ⟨(K0<|aq g).key,(K0<|aq g).above,(K0<|aq g).mark,ns⟩ m).above=(K0 m).above/\(aI K0 (aq g) ⟨(K0<|aq g).key,(K0<|aq g).above,(K0<|aq g).mark,ns⟩ m).mark=(K0 m).mark/\(K0 m).below.length<=(aI K0 (aq g) ⟨(K0<|aq g).key,(K0<|aq g).above,(K0<|aq g).mark,ns⟩ m).below.length:=λm=>by
  by_cases z:m=aq g
  .subst z;rw[aC,l];exact⟨rfl,rfl,rfl,Nat.zero_le _⟩
  .rw[au _ _ z];exact⟨rfl,rfl,rfl,zap _⟩
 refine⟨λi hi a e=>?_,λi hi e=>?_,λi hi=>?_,λi hi=>?_,λi hi p b e=>?_,λi hi a e n=>?_⟩
 .rw[(ek _).2.1]at e
  rw[(ek _).1,(ek _).1];exact h.ab i hi a e
 .rw[(ek _).2.2.1]at e
  rw[(ek _).2.1];exact h.mkd i hi e
 .by_cases z:aq i=aq g
  .rw[z,aC]
   exact⟨M,λb d=>⟨(hb b d).1,by rw[(ek b).2.1];exact(hb b d).2⟩⟩
  .rw[au _ _ z]
   exact⟨(h.bl i hi).1,λb d=>⟨((h.bl i hi).2 b d).1,by rw[(ek b).2.1];exact((h.bl i hi).2 b d).2⟩⟩
 .by_cases z:aq i=aq g
  .rw[z,aC];exact hn
  .rw[au _ _ z];exact h.nd i hi
 .have q:=(ek b).2.2
  rw[q.1]
  by_cases z:aq i=aq g
  .rw[z,aC]at e
   have:=I p b e
   lia
  .rw[au _ _ z]at e
   have:=h.dg i hi p b e
   lia
 .rw[(ek _).2.1]at e
  by_cases z:a=aq g
  .subst z;rw[aC];exact hd i hi e
  .rw[au _ _ z]
   exact h.dn i hi a e λw=>w.elim n z
theorem Gp.bt(h:Gp o c K0)(I:c<=600)(l : 0<c)(ha:(K0<|aq 0).above=none)(no:∀x,¬o x)(g:∀i,0<i->i<c->(K0<|aq i).above≠none):Bk c [aq 0] (names c) K0/\Fm (names c) K0:=by
 refine⟨⟨GF c I,λn hn=>d6.mp hn,by simp,λt g=>?_,λn hn e=>?_,λn hn e=>?_,λn hn a e=>?_,λn hn=>?_,λn hn a e=>?_⟩,⟨λn hn=>?_,λn hn b hb=>?_,λn hn a e=>?_,λn hn p b e=>?_⟩⟩
 .rw[zad g]
  exact⟨d6.mpr ⟨0,l,rfl⟩,ha⟩
 all_goals obtain⟨i,hi,rfl⟩:=d6.mp hn
 .by_cases z:i=0
  .rw[z];simp
  .exact absurd e (g i (by lia) hi)
 .exact h.mkd i hi e
 .exact d6.mpr (h.ab i hi a e).1
 .exact⟨(h.bl i hi).1,λb hb=>d6.mpr ((h.bl i hi).2 b hb).1⟩
 .have hk:=(h.ab i hi a e).2
  unfold aF;rw[if_neg (by lia)]
  exact zaH hk
 .exact h.nd i hi
 .exact⟨d6.mpr ((h.bl i hi).2 b hb).1,((h.bl i hi).2 b hb).2⟩
 .exact h.dn i hi a e (no a)
 .exact h.dg i hi p b e
def Grows(f:List D->Option ((D×Bool)×D))(many:Nat):Prop:=∀(o:Str->Prop) (c:Nat) (K0:Str->aw.Row) (above:Option Str) (mark:Bool) (key:Int),Gp o c K0->c+fb many<=120->(∀a,above=some a->(∃j,j<c/\a=aq j)/\(K0 a).key<key)->(mark=true->above≠none)->(∀a,above=some a->o a)->
 ∃aE:Str->aw.Row,f [HD (names c) K0,.int (many:Int),aM above,.bool mark,.int key]=some ((.str<|aq c,false),HD (names<|c+fb many) aE)/\Gp o (c+fb many) aE/\(∀i,i<c->aE (aq i)=K0 (aq i))/\((aE<|aq c).above=above/\(aE<|aq c).mark=mark/\(aE<|aq c).below.length=many)/\∀i,c<i->i<c+fb many->(aE<|aq i).above≠none/\∀a,(aE<|aq i).above=some a->∃j,c<=j/\j<c+fb many/\a=aq j
theorem Kl(U:M<10)(Y:∀k,k+1<M\/(k=0/\0<M)->Grows f k)(g:Nat)(O:o<|aq g)(l:Int)(hm:key=.fz (.int l))(hb:g+fb M<=120):∀(m q:Nat) (K0:Str->aw.Row),q+m=M->Gp o (g+fb q) K0->(K0<|aq g).key=l->∀I:D,
  ∃(ns:List Str) (aE:Str->aw.Row),goI f (af (mCB Co<|af (mC<|.int 0)<|af (mOp lh (aa 0)<|mC<|.int 1) ar)<|af (aa 2)<|af (mOp gGt (aa 0)<|mC<|.int 0)<|af (mOp cM (aa 3)<|mC<|.int 1) ar) [("_law_held",0),("_law_name",5),("_law_key",4)] [.io I,many,above,mark,key,.fz<|.str<|aq g,s6] 0 (.io I) ((List.range' q m).map λk:Nat=>PyData.int (k:Int)) (HD (names<|g+fb q) K0)=some (ns.map .str,HD (names<|g+fb M) aE)/\Gp o (g+fb M) aE/\(∀i,i<g+fb q->aE (aq i)=K0 (aq i))/\ns.length=m/\(∀(p:Nat) (x:Str),ns[p]?=some x->q+p<M/\x=aq (g+fb (q+p))/\(aE x).above=some (aq g)/\(aE x).below.length=q+p-1/\(aE x).mark=decide (0<((q+p:Nat):Int)))/\(∀i,g+fb q<=i->i<g+fb M->(aE<|aq i).above=some (aq g)->aq i∈ns)/\∀i,g+fb q<=i->i<g+fb M->(aE<|aq i).above≠none/\∀a,(aE<|aq i).above=some a->∃j,g<=j/\j<g+fb M/\a=aq j:=by
 subst hm;intro m
 induction m with
 |zero=>
  intro q K0 B h hk I;obtain rfl:q=M:=by lia
  exact⟨[],K0,rfl,h,λ_ _=>rfl,rfl,(λp x c=>by simp at c),(λi e b=>by lia),λi e b=>by lia⟩
 |succ m C=>
  intro q K0 B h hk I;have P:=(kN q (by lia)).2
  have Q:=vo q (by lia)
  have p2:=tj M U (q+1) (by lia)
  obtain⟨t,u,g1,s1,d,s⟩:=Y (q-1) (by lia) o (g+fb q) K0 (some<|aq g) (decide<|0<(q:Int)) (l+1) h (by lia) (λa ha=>by cases ha;exact⟨⟨g,by lia,rfl⟩,by rw[hk];lia⟩) (λ_ z=>by cases z) (λa ha=>by cases ha;exact O)
  rw[show g+fb q+fb (q-1)=g+fb (q+1) by lia]at u g1 s
  obtain⟨ns,aE,v,A,s2,σ,K,ρ,N⟩:=C (q+1) t (by lia) g1 (by rw[s1 g (by lia)];exact hk) I
  refine⟨aq (g+fb q)::ns,aE,?_,A,λi hi=>(s2 i (by lia)).trans<|s1 i hi,by rw[zaw,σ],λp x c=>?_,λi e b ea=>?_,λi e b=>?_⟩
  .rw[List.range'_succ,zaz]
   have y:af (mCB Co<|af (mC<|.int 0)<|af (mOp lh (aa 0)<|mC<|.int 1) ar) (af (aa 2)<|af (mOp gGt (aa 0)<|mC<|.int 0)<|af (mOp cM (aa 3)<|mC<|.int 1) ar) [.fz<|.int (q:Int),.ro<|HD (names<|g+fb q) K0,.fz<|.str<|aq g,.fz<|.int l]=some ([(.int ((q-1:Nat):Int),.fz),(.str<|aq g,.fz),(.bool<|decide<|0<(q:Int),.fz),(.int<|l+1,.fz)],[.fz<|.int (q:Int),.ro<|HD (names<|g+fb q) K0,.fz<|.str<|aq g,.fz<|.int l]):=by
    refine ao (ah<|dY (Y0:=(.int ((q-1:Nat):Int),false)) (cG bC<|cG (jQ (a6 rfl) bC) aG) ?_) (ao (ah<|ai rfl)<|ao (ah<|lS (a6 rfl) bC)<|cG (g6 (a6 rfl) bC) aG);show some (PyData.int<|if(0:Int)<(q:Int)-1 then(q:Int)-1 else 0,false)=_
    rw[show(if(0:Int)<(q:Int)-1 then(q:Int)-1 else 0)=((q-1:Nat):Int) by split<;>lia]
   show(af _ _ [.fz<|.int (q:Int),.ro<|HD (names<|g+fb q) K0,.fz<|.str<|aq g,.fz<|.int l]).bind _=_;rw[y,zai];dsimp only[JO,Option.bind_some,Option.map_some];rw[show f [HD (names<|g+fb q) K0,.int ((q-1:Nat):Int),.str<|aq g,.bool<|decide<|0<(q:Int),.int<|l+1]=some ((.str<|aq<|g+fb q,false),HD (names<|g+fb (q+1)) t)from u,zai];rw[if_pos rfl,v];rfl
  .cases p with
   |zero=>
    obtain rfl:aq (g+fb q)=x:=by simpa using c
    rw[s2 (g+fb q) (by have:=(kN (q-1) (by lia)).2;lia)]
    exact⟨by lia,rfl,d.1,d.2.2,d.2.1⟩
   |succ p=>
    have:=K p x (by simpa using c)
    rw[show q+1+p=q+(p+1) by lia]at this
    exact this
  .by_cases z:i<g+fb (q+1)
   .by_cases w:i=g+fb q
    .subst w;exact zas
    .rw[s2 i z]at ea
     obtain⟨j,E,F,n⟩:=(s i (by lia) z).2 _ ea
     exact absurd (iP (by lia) (by lia) n) (by lia)
   .exact zak _ (ρ i (by lia) b ea)
  .by_cases z:i<g+fb (q+1)
   .rw[s2 i z]
    by_cases w:i=g+fb q
    .subst w;rw[d.1];exact⟨by simp,λa ea=>by cases ea;exact⟨g,by lia,by lia,rfl⟩⟩
    .obtain⟨G,H⟩:=s i (by lia) z
     exact⟨G,λa ea=>(let⟨j,E,F,n⟩:=H a ea;⟨j,by lia,by lia,n⟩)⟩
   .exact N i (by lia) b
theorem GG:∀n many:Nat,many<n->many<10->Grows (fw n) many:=by
 intro n
 induction n with
 |zero=>intro many h;lia
 |succ n P=>
  intro many N q o c K0 above mark key f K ha hk t;have pm:=kN many q;have C:c<600:=by lia
  have g1:=(Gp.new (o:=λx=>o x\/x=aq c) ⟨f.ab,f.mkd,f.bl,f.nd,f.dg,λi hi a e n=>f.dn i hi a e λz=>n<|.inl z⟩ C ha hk λa e=>.inl<|t a e)
  obtain⟨ns,aE,G,H,s2,R,S,Z,g⟩:=Kl q (λk hk=>P k (by lia) (by lia)) (many:=.fz<|.int (many:Int)) (above:=.fz<|aM above) (mark:=.fz<|.bool mark) (s6:=.no) c (.inr rfl) key rfl K many 0 _ (by lia) g1 (by rw[aC]) (HD (names<|c+1)<|aI K0 (aq c) ⟨key,above,mark,[]⟩)
  have er:=(s2 c<|Nat.lt_succ_self c).trans (aC _ _ _);have f0:fb 0=1:=rfl;have d:=λp x e=>by
   have:=S p x e;rw[Nat.zero_add]at this;exact this
  have y:ns.Nodup:=List.pairwise_iff_getElem.mpr λp A m u ρ e=>by
   have D:=d p _ (zaC m);have E:=d A _ (zaC u);have F:=tj many q A (by lia)
   have I:=zaF (show fb p<fb (p+1) by rw[vo p (by lia)];have:=(kN (p-1) (by lia)).2;lia) (tj A (by lia) (p+1) (by lia))
   rw[D.2.1,E.2.1]at e;have:=iP (by lia) (by lia) e
   lia
  have B:=Gp.upd H (by lia) (by rw[er]) (by lia) y (λb hb=>by
   obtain⟨p,m⟩:=List.mem_iff_getElem?.mp hb;obtain⟨O,T,V,_⟩:=d p b m;have l:=tj many q (p+1) (by lia)
   rw[vo p (by lia)]at l
   have U:=(kN (p-1) (by lia)).2
   exact⟨⟨c+fb p,by lia,T⟩,V⟩) (λp b m=>by
   obtain⟨_,_,_,W,X⟩:=d p b m;rw[W,X];unfold b1
   by_cases z:p=0
   .lia
   .rw[if_pos<|zaH (by lia)];lia) λi hi ea=>by
   by_cases z:c+1<=i
   .exact Z i (by rw[f0];lia) hi ea
   .exfalso
    rw[s2 i (by rw[f0];lia)]at ea
    by_cases w:i=c
    .subst w
     rw[aC]at ea;obtain⟨⟨j,Q,v⟩,_⟩:=ha _ ea;exact absurd (iP (by lia) (by lia) v) (by lia)
    .rw[au _ _ λe=>fC c (by lia) i (by lia) e.symm]at ea
     obtain⟨⟨j,Q,v⟩,_⟩:=f.ab i (by lia) _ ea
     exact absurd (iP (by lia) (by lia) v) (by lia)
  rw[er]at B;have s:aq c∈names (c+fb many):=d6.mpr ⟨c,by lia,rfl⟩
  refine⟨aI aE (aq c) ⟨key,above,mark,ns⟩,?_,B,λi hi=>?_,by rw[aC];exact⟨rfl,rfl,R⟩,λi M σ=>?_⟩
  .refine Nw (o:=.rt (.str<|aq c,.fz) [.io<|HD (names<|c+fb many)<|aI aE (aq c) ⟨key,above,mark,ns⟩,.fz<|.int (many:Int),.fz<|aM above,.fz<|.bool mark,.fz<|.int key,.fz<|.str<|aq c,.own<|TD ns]) rfl ?_ rfl rfl
   refine az (bz (aZ (cG ((kK<|.inr<|.inr rfl).is (by rw[iO])) aG) (oV c) rfl) rfl) ?_
   refine az (ρ1:=[.io<|HD (names<|c+1)<|aI K0 (aq c) ⟨key,above,mark,[]⟩,.fz<|.int (many:Int),.fz<|aM above,.fz<|.bool mark,.fz<|.int key,.fz<|.str<|aq c,.no]) ((fW (r:=⟨key,above,mark,[]⟩) (bR (ao (ah<|ai rfl)<|ao (ah<|ai rfl)<|ao (ah<|ai rfl)<|ao (ah<|bR rfl rfl (by simp)) aG) rfl (by simp)) (ai rfl) rfl (.inr rfl) (by rw[iO];lia)).trans (by rw[qy C];rfl)) ?_
   refine az (ρ1:=[.io<|HD (names<|c+fb many) aE,.fz<|.int (many:Int),.fz<|aM above,.fz<|.bool mark,.fz<|.int key,.fz<|.str<|aq c,.own<|TD ns]) (cN (ρ1:=[.io<|HD (names<|c+fb many) aE,.fz<|.int (many:Int),.fz<|aM above,.fz<|.bool mark,.fz<|.int key,.fz<|.str<|aq c,.no]) ?_ rfl) ?_
   .unfold Od
    rw[kc (a6 rfl) (by lia),zai]
    rw[List.range_eq_range'];show(goI _ _ _ _ _ _ _<|HD (names<|c+fb 0)<|aI K0 (aq c) ⟨key,above,mark,[]⟩).bind _=_;rw[G,zai];rw[aX<|wU (by rw[zal];lia)];rfl
   .exact az ((fW (bR (ao (ah<|ai rfl)<|ao (ah<|ai rfl)<|ao (ah<|ai rfl)<|ao (ah<|sV (Y0:=(.tuple<|ns.map .str,true)) (.inr<|.inl rfl) rfl) aG) rfl (by simp)) (ai rfl) rfl (.inr rfl) (by rw[iO];lia)).trans (by rw[du s];rfl)) (bH<|ai rfl)
  .rw[au _ _ (λe=>fC c (by lia) i hi e.symm),s2 i<|Nat.lt_succ_of_lt hi,au _ _ λe=>fC c (by lia) i hi e.symm]
  .rw[au _ _ λe=>absurd (iP (by lia) (by lia) e) (by lia)]
   exact g i (by rw[f0];lia) σ
theorem z6(l:D):∀(g:List Int) (c:Nat) (ag:List Str) (K0:Str->aw.Row) (M O:Sl),NIo M->NIo O->Bk c ag (names c) K0->Fm (names c) K0->c+g.length<=120->
  ∃(I:List Str) (aE:Str->aw.Row) (tl:Rho),forL (mgN 3) kU (g.map .int) [.fz l,.own<|HD (names c) K0,.own<|TD ag,M,O]=some (.nx (.fz l::.own (HD (names<|c+g.length) aE)::.own (TD I)::tl))/\Bk (c+g.length) I (names<|c+g.length) aE/\Fm (names<|c+g.length) aE:=by
 intro g
 induction g with
 |nil=>intro c ag K0 M O _ _ h d _;exact⟨ag,K0,_,rfl,h,d⟩
 |cons x g q=>
  intro c ag K0 M O n3 s h d o;rw[zaw]at o⊢;obtain⟨v,p⟩:=key_is x;have e:c<600:=by lia
  have n:=(Bk.new e h v).2;rw[<-jb]at n;have b:=d.new h.ab (nu e) v;rw[<-jb]at b;have tl:=h.tl;obtain⟨I,aE,f,j,m,a⟩:=q (c+1) (ag++[aq c]) (aI K0 (aq c) ⟨v,none,false,[]⟩) (.fz<|.int x) (.fz<|.str<|aq c) (NIo.fz _) (NIo.fz _) n b (by lia)
  rw[show c+1+g.length=c+(g.length+1) by lia]at j m a
  refine⟨I,aE,f,?_,m,a⟩;refine cg (cC rfl n3) ?_ j;refine az (bz (aZ (cG ((kK<|.inr<|.inl rfl).is (by rw[iO])) aG) (oV c) rfl)<|fj _ rfl s) ?_
  refine az (ρ1:=[.fz l,.own<|HD (names<|c+1)<|aI K0 (aq c) ⟨v,none,false,[]⟩,.own<|TD ag,.fz<|.int x,.fz<|.str<|aq c]) ((fW (r:=⟨v,none,false,[]⟩) (bR (cG (kG rfl p)<|ao (ah rfl)<|ao (ah rfl)<|ao (ah<|bR rfl rfl (by simp)) aG) rfl (by simp)) (ai rfl) rfl (.inl rfl) (by rw[iO];lia)).trans (by rw[qy e];rfl)) ?_
  exact eZ (lB rfl rfl rfl rfl (ni _ (by rw[zal];lia)) (by rw[iN];rfl))
theorem yi(ns:List Int)(lo hi:Nat):∃g:List Int,cutD (ns.map .int) (some (lo:Int)) (some (hi:Int))=g.map .int/\g.length<=hi-lo/\∀c∈g,c∈ns:=by
 unfold cutD;refine⟨(ns.drop<|HT.sIx (ns.map PyData.int).length 0<|some (lo:Int)).take<|HT.sIx (ns.map PyData.int).length (ns.map PyData.int).length (some (hi:Int))-HT.sIx (ns.map PyData.int).length 0 (some (lo:Int)),by rw[List.map_take,List.map_drop],?_,λc a=>List.mem_of_mem_drop<|List.mem_of_mem_take a⟩
 rw[List.length_take,List.length_drop];simp only[HT.sIx,List.length_map];rw[if_neg (by lia),if_neg (by lia),Int.toNat_natCast,Int.toNat_natCast]
 refine zaX (Nat.min_le_left _ _) ?_;rcases Nat.le_total lo ns.length with h|h
 .rw[Nat.min_eq_left h];exact Nat.sub_le_sub_right (Nat.min_le_left _ _) _
 .rw[Nat.min_eq_right h,Nat.sub_eq_zero_of_le<|Nat.min_le_right _ _];exact Nat.zero_le _
theorem GH(g:List Int)(l:g.length<=60):∃(ag S0:List Str) (K0:Str->aw.Row),fA [.list<|g.map .int]=some (TD ag,HD S0 K0)/\Bk 100 ag S0 K0/\Fm S0 K0:=by
 have d:mOp gEq (aa 0) (eM ar) [.fz<|.list<|g.map .int,.no,.no,.no,.no]=some ((.bool<|decide<|g=[],.fz),[.fz<|.list<|g.map .int,.no,.no,.no,.no]):=aL (ah<|ai rfl) (eA<|eO rfl rfl (by simp)) (wN g [])
 have bt:∀h:mOr (ax<|mOp gEq (aa 0)<|eM ar) (ax<|mOp gNe (mOp bY (mOp gIx (aa 0)<|mC<|.int 0)<|mC<|.int 7)<|mC<|.int 6) [.fz<|.list<|g.map .int,.no,.no,.no,.no]=some (true,[.fz<|.list<|g.map .int,.no,.no,.no,.no]),∃(ag S0:List Str) (K0:Str->aw.Row),fA [.list<|g.map .int]=some (TD ag,HD S0 K0)/\Bk 100 ag S0 K0/\Fm S0 K0:=λh=>by
  obtain⟨ag,S0,K0,e,f,b⟩:=GD g l;refine⟨ag,S0,K0,vn rfl ?_,f.more (by lia),b⟩
  show Cz _ _ _ [.fz<|.list<|g.map .int,.no,.no,.no,.no]=_;unfold Cz;rw[h,zai];dsimp only
  exact e
 cases g with
 |nil=>exact bt (Cv<|test_ev (k:=.fz) d)
 |cons c g=>
  have p:IE (mOp gIx (aa 0)<|mC<|.int 0) [.fz<|.list<|(c::g).map .int,.no,.no,.no,.no] c:=aL (ah<|ai rfl) (ah rfl) (qp _ _ _<|Mir.wW _ _);have j:ax (mOp gEq (aa 0)<|eM ar) [.fz<|.list<|(c::g).map .int,.no,.no,.no,.no]=some (false,[.fz<|.list<|(c::g).map .int,.no,.no,.no,.no]):=test_ev (k:=.fz) (by rw[d];rfl)
  by_cases o:c%7=6
  .obtain⟨v,x⟩:=key_is (c/70)
   obtain⟨m,em,hm⟩:∃m:Nat,c/7%10=(m:Int)/\m<10:=oY (c/7) 10 (by lia)
   obtain⟨t,n,g1,_,r,s⟩:=GG 12 m (by lia) hm (λ_=>False) 0 (λ_=>(⟨0,none,false,[]⟩:aw.Row)) none false v ⟨(λi hi=>by lia),(λi hi=>by lia),(λi hi=>by lia),(λi hi=>by lia),(λi hi=>by lia),λi hi=>by lia⟩ (by have:=tj 9 (by lia) m (by lia);have:fb 9=89:=rfl;lia) (λa ha=>by cases ha) (λz=>by cases z) (λa ha=>by cases ha)
   have A:=tj 9 (by lia) m (by lia)
   have y:fb 9=89:=rfl;rw[Nat.zero_add]at n g1;have b1:=g1.bt (by lia) (kN m hm).2 r.1 (λ_ z=>z) λi e f=>(s i e (by rw[Nat.zero_add];exact f)).1
   obtain⟨ds,w,B,_⟩:=yi (c::g) 1 12;obtain⟨u,aE,tl,e,f,b⟩:=z6 (.list<|(c::g).map .int) ds (fb m) [aq 0] t .no .no NIo.no NIo.no b1.1 b1.2 (by lia)
   refine⟨u,_,aE,vn rfl ?_,f.more (by lia),b⟩
   show Cz _ _ _ [.fz<|.list<|(c::g).map .int,.no,.no,.no,.no]=_;unfold Cz;rw[gZ j (b7 (EU (cY p bC (by decide)) bC) (by rw[o])),zai];dsimp only
   refine dN (cN rfl rfl) ?_;have q:IE (mOp gIx (aa 0)<|mC<|.int 0) [.fz<|.list<|(c::g).map .int,.own<|HD [] λ_=>⟨0,none,false,[]⟩,.no,.no,.no] c:=aL (ah<|ai rfl) (ah rfl) (qp _ _ _<|Mir.wW _ _)
   refine dN (cN (eO (ao (ah<|E6 (d0:=.none) (i:=1) rfl (cG ((cY (mP q bC ⟨by decide,by decide⟩) bC (by decide)).is em)<|ao (ah rfl)<|ao (ah rfl)<|cG (kG (cG (mP q bC ⟨by decide,by decide⟩) aG) x) aG) rfl rfl n) aG) rfl (by simp)) rfl) ?_
   exact dN (iV (Np<|eA (by rw[<-w];rfl)) e) rfl
  .exact bt (gZ j<|b7 (EU (cY p bC (by decide)) bC) (by rw[zaO o];rfl))
inductive Hs:List Str->(Str->aw.Row)->List (Str×Str)->List Str->(Str->aw.Row)->Prop
 |nil {T:List Str} {K0:Str->aw.Row}:Hs T K0 [] T K0
 |cons {T T':List Str} {K0 aE:Str->aw.Row} {x y:Str} {r:List (Str×Str)}:x∈T->y∈T->y≠x->aF (K0 y).key y (K0 x).key x=true->(K0 x).below.length=(K0 y).below.length->Hs (T.erase x) (aY K0 x y) r T' aE->Hs T K0 ((x,y)::r) T' aE
theorem Hs.snoc(h:Hs T K0 r T' aE)(l:x∈T')(I:y∈T')(ne:y≠x)(lt:aF (aE y).key y (aE x).key x=true)(g:(aE x).below.length=(aE y).below.length):Hs T K0 (r++[(x,y)]) (T'.erase x) (aY aE x y):=by
 induction h with
 |nil=>exact .cons l I ne lt g .nil
 |cons a b c d e _ f=>exact .cons a b c d e (f l I lt g)
theorem Hs.len(h:Hs T K0 r T' aE):T'.length+r.length=T.length:=by
 induction h with
 |nil=>rfl
 |cons a b c d e _ f=>
  rw[List.length_erase_of_mem a]at f;have:=List.length_pos_of_mem a;rw[zaw];lia
theorem Hs.sub(h:Hs T K0 r T' aE)(nd:T.Nodup):T'.Nodup/\(∀t∈T',t∈T)/\∀m,m∉T->aE m=K0 m:=by
 induction h with
 |nil=>exact⟨nd,λt f=>f,λ_ _=>rfl⟩
 | @cons T T' K0 aE x y r a b c d e _ p=>
  obtain⟨j,n,h3⟩:=p (nd.erase _);refine⟨j,λt f=>List.mem_of_mem_erase<|n t f,λm hm=>?_⟩
  rw[h3 m λz=>hm<|List.mem_of_mem_erase z,bO (λz=>hm (by rw[z];exact b)) λz=>hm (by rw[z];exact a)]
theorem Hs.ag(h:Hs T K0 r T' aE)(nd:T.Nodup)(ha:∀t∈T,(K0 t).above=none):T'=T.filter (λt=>(aE t).above.isNone):=by
 induction h with
 |nil=>exact(List.filter_eq_self.mpr λt f=>by rw[ha t f];rfl).symm
 | @cons T T' K0 aE x y r a b c d e hs u=>
  have nx:x∉T.erase x:=λz=>((za9 nd).mp z).1 rfl
  have q:(aE x).above=some y:=by rw[(hs.sub<|nd.erase _).2.2 x nx,bP c]
  rw[u (nd.erase _) λt f=>?_,List.Nodup.erase_eq_filter nd,List.filter_filter]
  .refine List.filter_congr λt f=>?_
   by_cases z:t=x
   .subst z;rw[q];rfl
   .simp[z]
  .obtain⟨A,j⟩:=(za9 nd).mp f
   by_cases w:t=y
   .subst w;rw[cq c];exact ha t j
   .rw[bO w A];exact ha t j
section
variable{c:Nat}{ag S0:List Str}{K0:Str->aw.Row}
theorem Bt.QE(h:Bt K d ag S0 K0)(f:Fm S0 K0)(nm:∀n∈S0,∃i,i<c/\n=aq i):Bt K c ag S0 K0:=by
 have kl:S0.length<=c:=by
  have:=aw.gv S0 ((List.range c).map aq) h.nd λx a=>by
   obtain⟨i,hi,rfl⟩:=nm x a;exact List.mem_map_of_mem (List.mem_range.mpr hi)
  simpa using this
 exact⟨h.nd,nm,h.tn,h.tk,h.ne,h.mkd,h.ab,λn hn=>⟨zaX (aw.gv _ S0 (f.nd n hn) (h.bl n hn).2) kl,(h.bl n hn).2⟩,h.ho⟩
theorem Bk.hang(h:Bk c ag S0 K0)(f:Fm S0 K0)(g:x∈ag)(l:y∈ag)(ne:y≠x)(lt:aF (K0 y).key y (K0 x).key x=true)(I:(K0 x).below.length=(K0 y).below.length):Bk c (ag.erase x) S0 (aY K0 x y)/\Fm S0 (aY K0 x y):=by
 have a:=f.hung (h.tk x g).1 (h.tk y l).1 ne (h.tk x g).2 I;exact⟨((Bt.hung h g l ne lt).QE a h.nm).re λn _=>(ke ne n).symm,a⟩
theorem Hs.inv(hs:Hs ag K0 r T' aE):Bk c ag S0 K0->Fm S0 K0->Bk c T' S0 aE/\Fm S0 aE:=by
 induction hs with
 |nil=>exact λh f=>⟨h,f⟩
 |cons a b c' d e _ i=>exact λh f=>i (Bk.hang h f a b c' d e).1 (Bk.hang h f a b c' d e).2
end
def alL(al:List<|Nat×Str):List (D×D):=al.map λp=>(PyData.int (p.1:Int),PyData.str p.2)
abbrev AL(al:List<|Nat×Str):D:=.dict (alL al)
theorem oZ(d:Nat):∀al:List (Nat×Str),cO (alL al) (.inl (d:Int))=(al.lookup d).map .str
 | []=>rfl
 |(e,t)::al=>by
  show(if keyOf (.int (e:Int))=some (.inl (d:Int))then some (.str t)else cO (alL al) (.inl (d:Int)))=_
  by_cases z:d=e
  .subst z
   rw[if_pos<|show keyOf (PyData.int (d:Int))=some (.inl (d:Int))from rfl,za8,beq_self_eq_true];rfl
  .rw[if_neg (λw=>z (by
    have:(e:Int)=(d:Int):=by injection w with w;injection w
    lia)),za8,beq_eq_false_iff_ne.mpr z,oZ d al]
theorem Km(d:Nat)(al:List<|Nat×Str):pY (alL al) (.inl (d:Int))=alL (al.filter λp=>decide<|p.1≠d):=by
 unfold pY alL;rw[List.filter_map]
 congr 1
 refine List.filter_congr λp _=>?_
 have:(keyOf (PyData.int (p.1:Int))≠some (Sum.inl (d:Int)))↔p.1≠d:=by
  refine⟨λh e=>h (by rw[e];rfl),λh w=>h ?_⟩
  have a:=w;have:(p.1:Int)=(d:Int):=by injection a with w;injection w
  lia
 exact decide_eq_decide.mpr this
theorem OC{al:List<|Nat×Str}(h:al.lookup d=none)(t:Str):putD (alL al) (.int (d:Int)) (.str t) (.inl (d:Int))=alL (al++[(d,t)]):=by
 unfold putD;rw[oZ,h];unfold alL;rw[za1];rfl
theorem LD(d:Nat)(al:List<|Nat×Str):zC (.int (d:Int)) (AL al)=some (.bool (al.lookup d).isSome,false):=by
 show some (PyData.bool (cO (alL al)<|.inl (d:Int)).isSome,false)=_;rw[oZ];cases al.lookup d<;>rfl
theorem Bx(x y:Str):PyData.eqv (.str x) (.str y)=decide (x=y):=by
 simp only[PyData.eqv]
 by_cases e:x=y
 .subst e;simp
 .simp[e]
theorem nV:∀a b:List Str,PyData.eqvAll (a.map .str) (b.map .str)=decide (a=b)
 | [],[]=>by simp[PyData.eqvAll]
 | [],_::_=>by simp[PyData.eqvAll]
 |_::_,[]=>by simp[PyData.eqvAll]
 |x::a,y::b=>by
  simp only[List.map_cons,PyData.eqvAll];rw[Bx,nV a b,Bool.eq_iff_iff];simp
variable{S0:List Str}{K0:Str->aw.Row}{ag:List Str}{c:Nat}
theorem qz(S0:List Str)(K0:Str->aw.Row)(n:Str):cP (.str n) (HD S0 K0)=some (.bool<|!decide (n∈S0),false):=by
 show some (PyData.bool<|!(cO (bA S0 K0)<|.inr n).isSome,false)=_;rw[eV]
 by_cases h:n∈S0
 .rw[if_pos h,zaH h];rfl
 .rw[if_neg h,zaO h];rfl
theorem fE(hn:n∈S0):aO [HD S0 K0,.str n]=some (.tuple [.int (K0 n).key,.str n],false) :=
 cf rfl (bH<|bR (cG (eG<|a8 (.inl rfl) hn<|ai rfl)<|ao (ah<|ai rfl) aG) rfl (by simp)) rfl
theorem GI{dv:PM}{e:PM}{L:Rho}{g:List D}(I:dv L=some ((HD S0 K0,.fz),L))(O:jV L=true)(M:jP l e (fr.map λp=>bG L p.2) (S0.map .str)=some g)(h3:g.length<=100000):xh fr dv l e L=some ((.list g,.new),L):=by
 unfold xh;rw[I,zai];dsimp only[lY,Option.bind_some];rw[if_pos O,kJ,M,zai,aX<|wU h3]
abbrev PD(ag S0:List Str)(K0:Str->aw.Row):D:=.tuple [TD ag,HD S0 K0]
def jB(h : L[i]?=some (.fz<|PD ag S0 K0)):mOp gIx (aa i) (mC<|.int 1) L=some ((HD S0 K0,.fz),L):=aL (Y0:=(HD S0 K0,false)) (ah<|ai h) (ah rfl) rfl
def qA(h : L[i]?=some (.fz<|PD ag S0 K0)):mOp gIx (aa i) (mC<|.int 0) L=some ((TD ag,.fz),L):=aL (Y0:=(TD ag,false)) (ah<|ai h) (ah rfl) rfl
def GJ(h : L[i]?=some (.fz<|PD ag S0 K0))(g : L[j]?=some (.fz<|.str n)):BE (mOp cP (aa j)<|mOp gIx (aa i)<|mC<|.int 1) L (!decide (n∈S0)):=aL (ah<|ai g) (ah<|jB h) (qz S0 K0 n)
theorem By(hn:n∈S0):cy [PD ag S0 K0,.str n]=some (.none,false) :=
 cf rfl (eN (b7 (GJ rfl rfl) (by rw[zaH hn];rfl)) rfl) rfl
theorem Kn(l:sv a L=some ((d,k),g))(I:FU n d=some (.bool v,false)):xp n a L=some ((.bool v,.fz),g):=by
 unfold xp mUn;rw[l,zai];dsimp only;rw[I];rfl
theorem tq(r:aw.Row):iL [bc r]=some (bc ⟨r.key,none,false,r.below⟩,false) :=
 cf rfl (bH<|bR (ao (ah<|eG<|ai rfl)<|ao (ah rfl)<|ao (ah rfl)<|ao (ah<|dq<|ai rfl) aG) rfl (by simp)) rfl
theorem vp(r:aw.Row):gR [bc r]=some (bc ⟨r.key,r.above,true,r.below⟩,false) :=
 cf rfl (bH<|bR (ao (ah<|eG<|ai rfl)<|ao (ah<|bx<|ai rfl)<|ao (ah rfl)<|ao (ah<|dq<|ai rfl) aG) rfl (by simp)) rfl
theorem z7(hb:∀b∈r.below,PyData.strOk b=true)(g:r.below.length<=1000)(hn:PyData.strOk n=true):kH [bc r,.str n]=some (bc ⟨r.key,r.above,r.mark,r.below.filter λx=>!decide (x=n)⟩,false):=by
 refine cf (o:=.rt (bc ⟨r.key,r.above,r.mark,r.below.filter λx=>!decide (x=n)⟩,.fz) [.fz<|bc r,.fz<|.str n]) rfl (bH<|bR (ao (ah<|eG<|ai rfl)<|ao (ah<|bx<|ai rfl)<|ao (ah<|gx<|ai rfl)<|ao (ah ?_) aG) rfl (by simp)) rfl
 refine dY (Y0:=(.tuple<|(r.below.filter λx=>!decide (x=n)).map .str,true)) (ao (eA<|pL (z3<|ah<|dq<|ai rfl) (dw _ (λx a=>⟨_,test_ev (k:=.fz)<|aL (ah<|ai rfl) (ah<|ai rfl)<|oW (hb x a) hn⟩) λx a=>⟨_,ah<|ai rfl⟩) (by rw[zal];exact zaX (zaY _ _) (by lia))) aG) rfl
theorem z8(h:Bt K c ag S0 K0)(x:D):∀(C:List Str) (n ρ a:Str) (pre:List Str) (g:Nat),Ch K0 n C ρ->n∈S0->(K0 n).above=some a->pre.length+C.length<=1000->C.length<=g->
  dB iJ iK g [.fz<|HD S0 K0,.fz x,.own<|TD<|pre++[n],.fz<|.str a]=some (.nx [.fz<|HD S0 K0,.fz x,.own<|TD<|pre++C,.fz<|.str ρ]):=by
 intro C
 induction C with
 |nil=>intro n ρ a pre g d;cases d
 |cons y C p=>
  intro n ρ a pre g d hn ha m j;rw[zaw]at m j;obtain⟨g,rfl⟩:∃k,g=k+1:=⟨g-1,by lia⟩
  have hk:=h.ab n hn a ha;cases d with
  |one hb hm=>
   rw[ha]at hb;cases hb;exact ir (test_ev (k:=.fz) (by rw[<-hm];exact gx (a8 (.inl rfl) hk<|ai rfl)))
  |more hb hm d=>
   rw[ha]at hb;cases hb;obtain⟨b,f⟩:∃b,(K0 a).above=some b:=by cases d with|one e _=>exact⟨_,e⟩|more e _ _=>exact⟨_,e⟩
   have i:=p a ρ b (pre++[y]) g d hk f (by rw[zau,za7];lia) (by lia)
   rw[zaD pre [y] C]at i;refine lR (test_ev (k:=.fz) (by rw[<-hm];exact gx (a8 (.inl rfl) hk<|ai rfl))) ?_ i
   refine az (ρ1:=[.fz<|HD S0 K0,.fz x,.own<|TD<|pre++[y]++[a],.fz<|.str a]) (eZ<|lB rfl rfl rfl rfl (ni _ (by rw[zal,zau,za7];lia)) (by rw[iN];rfl)) ?_
   exact bz (bx<|a8 (.inl rfl) hk<|ai rfl) (by rw[f];rfl)
theorem GK(h:Bt K c ag S0 K0)(hn:n∈S0)(g:Ch K0 n C ρ)(l:C.length<=900):eF [HD S0 K0,.str n]=some (TD C,true):=by
 obtain⟨a,ea⟩:∃a,(K0 n).above=some a:=by cases g with|one e _=>exact⟨_,e⟩|more e _ _=>exact⟨_,e⟩
 have b:=z8 h (.str n) C n ρ a [] 1000000 g hn ea (by simp;lia) (by lia)
 refine cf (o:=.rt (TD C,.at 2) [.fz<|HD S0 K0,.fz<|.str n,.own<|TD C,.fz<|.str ρ]) rfl ?_ rfl;refine az (cN (eO (ao (ah<|ai rfl) aG) rfl (by simp)) rfl) ?_
 refine az (bz (bx<|a8 (.inl rfl) hn<|ai rfl) (by rw[ea];rfl)) ?_
 exact az b (bH<|fK rfl)
section
variable{α β:Type}
theorem gA(h:m s=some (.ok v s')):bN m k s=k v s':=by unfold bN;rw[h]
theorem gB(h:m s=some (.ok v s')):bS m k s=k v s':=by unfold bS;rw[h]
theorem aH(h:a s=some (.nx s'))(g:b s'=o):bf a b s=o:=by unfold bf;rw[h];exact g
theorem mf(h:a s=some (.rt r s')):bf a b s=some (.rt r s'):=by unfold bf;rw[h]
theorem qB{c:MN Bool}{o:Option eP}(h:c s=some (.ok true s'))(g:a s'=o):jG c a b s=o:=by unfold jG;rw[gB h,if_pos rfl];exact g
theorem kf{c:MN Bool}{o:Option eP}(h:c s=some (.ok false s'))(g:b s'=o):jG c a b s=o:=by unfold jG;rw[gB h,if_neg zam];exact g
theorem bD(h:a s=some (.ok x s'))(hi:i<s'.t.length):ck a (ngN i) s=some (.nx ⟨s'.S,s'.t.set i<|some x⟩):=by unfold ck;rw[gB h];unfold ngN;rw[if_pos hi]
theorem dy(h:a s=some (.ok x s')):iY a s=some (.rt x s'):=by unfold iY;rw[gB h]
theorem iQ(h:a s=some (.ok x s')):jR a s=some (.nx s'):=by unfold jR;rw[gB h]
theorem av(h:s.t[i]?=some (some x)):aN i s=some (.ok x s):=by unfold aN;rw[h]
theorem aD(h:a s=some (.ok x s1))(g:m s1=some (.ok xs s2)):ay a m s=some (.ok (x::xs) s2):=by unfold ay;rw[gA h,gA g]
theorem de(h:m s=some (.ok xs s1))(g:f s1.S xs=some (.ok r S')):gp f m s=some (.ok r ⟨S',s1.t⟩):=by unfold gp;rw[gA h,g];rfl
def eW:nLit d s=some (.ok (.pl d) s):=rfl
def bT:bw s=some (.ok [] s):=rfl
theorem GL(g:xs.length=n)(l:b ⟨S,xs.map some++List.replicate k none⟩=some o)(I:retS S.length o=some w):fnS n k b S xs=some w:=by
 unfold fnS;rw[if_pos g,l];exact I
end
theorem tw(h:E9 n S=true){c:Cl}(g:some c∈S.take n):blC n c=true:=by
 exact(List.all_eq_true.mp h) _ g
theorem Bz{c:Option Cl}(h:∀d,c=some d->blC n d=true):gcC n c=c:=by
 cases c with
 |none=>rfl
 |some d=>simp only[gcC,h d rfl,if_true]
theorem b8{α:Type}{S X:List α}{j:Nat}{c : α}(h:S[j]?=some c):(S++X)[j]?=some c:=by
 rw[zax (zac h).1];exact h
theorem Ko(h:∀y,x=some y->blV n y=true):gcV n x=x:=by
 cases x with
 |none=>rfl
 |some y=>simp only[gcV,h y rfl,if_true]
def mh(n:Nat)(t:List<|Option SV):Bool:=t.all λx=>match x with
 |some x=>blV n x
 |none=>true
def Kq(h:mh n t=true)(g:some x∈t):blV n x=true:=(List.all_eq_true.mp h) _ g
theorem Kr(h:mh n t=true):gcT n t=t:=by
 refine(List.map_congr_left λc a=>Ko λd e=>?_).trans (List.map_id _)
 subst e;exact Kq h a
theorem cI(h:S[j]?=some (some<|.dat d)):rdV S (.lc j)=some d:=by simp only[rdV,h]
theorem LF:rdV S (.pl d)=some d:=by simp only[rdV]
theorem bh{k:Nat}{d:D}(h:s.t[k]?=some (some x))(e:rdV s.S x=some d):(vw s)[k]?=some (.fz d):=by
 unfold vw;rw[zao,h];simp only[Option.map_some,CC,e]
def bU{k:Nat}(h:s.t[k]?=some (some<|.pl d)):(vw s)[k]?=some (.fz d):=bh h LF
theorem GN{k:Nat}(h:s.t[k]?=some (some<|.pl d)):(vwC s)[k]?=some (.fz d):=by
 unfold vwC;rw[zao,h];rfl
theorem gC{m:PM}{L:Rho}(h:m (vw s)=some ((d,.fz),L))(g:ee d=true):nO m s=some (.ok (.pl d) s):=by
 unfold nO;rw[h,zai];dsimp only;rw[if_pos g]
def tD(h:IE m (vw s) i):nO m s=some (.ok (.pl<|.int i) s):=gC h rfl
theorem kg{m:PM}{L:Rho}(h:m (vw s)=some ((d,.new),L))(g:cF d true=true):nO m s=some (.ok (.lc s.S.length) ⟨s.S++[some<|.dat d],s.t⟩):=by
 unfold nO;rw[h,zai];dsimp only;rw[if_pos g];rfl
theorem dE(h:m (vw s)=some (b,L)):nTo m s=some (.ok b s):=by unfold nTo;rw[h];rfl
theorem bZ(g:a s=some (.ok x s1))(l:b s1=some (.ok (.pl<|.int i) s2))(h3:ixV s2.S x i=some y):nIx a b s=some (.ok y s2):=by
 unfold nIx;rw[gA g,gA l];simp only[h3,Option.map_some]
theorem GO:CF bw s=some (.ok (.lc s.S.length) ⟨s.S++[some<|.dat<|.list []],s.t⟩):=by
 unfold CF;rw[gA<|rfl,aX<|show([]:List SV).length<=sizeLine from Nat.zero_le _];rfl
theorem mi(h:m s=some (.ok xs s1))(g:nK xs=some ds)(l:xs.length<=100):gn m s=some (.ok (.pl<|.tuple ds) s1):=by
 unfold gn;rw[gA h,aX<|su (by lia)]
 simp only[mkT,g]
theorem vq{k:Nat}{ds:List D}{d:D}{g:List D}(h:a s=some (.ok (.lc k) s1))(l:s1.S[k]?=some (some<|.dat<|.list g))(I:m s1=some (.ok [.pl d] s2))(M:s2.S[k]?=some (some<|.dat<|.list ds))(h3:ds.length<=100000):CG a m s=some (.ok (.pl .none) ⟨s2.S.set k<|some<|.dat<|.list<|ds++[d],s2.t⟩):=by
 unfold CG Fo;rw[gA h];simp only[A0,l,if_true];rw[gA I];simp only[Jc,M,aX<|wU h3]
theorem yj:eJ n kp (λ_=>True) g b [] s=some (.nx s):=by unfold eJ;rw[aX trivial]
theorem tE(l:g d s=some (.nx s1))(I:b s1=some (.nx s2))(h3:gcE n kp s2=M)(h4:eJ n kp (λ_=>True) g b ds M=o):eJ n kp (λ_=>True) g b (d::ds) s=o:=by
 unfold eJ;rw[aX trivial,l];dsimp only;rw[I];dsimp only;rw[h3];exact h4
theorem BA(l:it (vwC s)=some (ds,L))(I:eJ s.S.length kp (λ_=>True) g b (ds.map .pl) s=o):Fl kp it g b s=o:=by unfold Fl;rw[l,zai];exact I
theorem vt(h:i<s.t.length):ngN i x s=some (.nx ⟨s.S,s.t.set i<|some x⟩):=by unfold ngN;rw[if_pos h]
abbrev dt(d:D):Option Cl:=some (.dat d)
section
variable{α:Type}
theorem ap0{a : α}:(S++a::X)[S.length]?=some a:=by rw[zaN<|zap _,Nat.sub_self];rfl
theorem apk{S X:List α}(h:X[k]?=some a):(S++X)[S.length+k]?=some a:=by rw[zaN<|Nat.le_add_right _ _,Nat.add_sub_cancel_left];exact h
theorem z9{a b : α}:(S++a::X).set S.length b=S++b::X:=by
 rw[List.set_append_right _ _<|zap _,Nat.sub_self];rfl
def kh{S:List α}(h:S[i]?=some a):i<S.length:=(zac h).1
end
theorem Aa(l:List Str):ee (.tuple<|l.map .str)=true:=by
 exact gg l
theorem cA(r:aw.Row):ee (bc r)=true:=by
 unfold bc;have:ee (aM r.above)=true:=by cases r.above<;>rfl
 simp only[ee,aU,this,gg,Bool.and_true]
theorem kP(S0:List Str)(K0:Str->aw.Row):cF (HD S0 K0) true=true:=by
 show aU ((bA S0 K0).map (·.2))=true
 unfold bA
 induction S0 with
 |nil=>rfl
 |cons n l a=>simp only[List.map_cons,aU,Function.comp,cA,Bool.true_and];exact a
def gU(l:List Str):cF (TD l) true=true:=gg l
theorem mj(hn:S.length<=n)(g:mh n t=true):gcE n kp ⟨S,t⟩=⟨S,t⟩:=by
 unfold gcE;split
 .rename_i h
  rw[Bool.and_eq_true]at h;unfold gc;rw[Kr g]
  congr 1
  unfold gcS;rw[List.take_of_length_le hn];refine(List.map_congr_left λc a=>Bz λd e=>?_).trans (List.map_id _)
  subst e;exact tw h.1 (by rw[List.take_of_length_le hn];exact a)
 .rfl
theorem tF(l:ok s):eJ n kp ok g b [] s=some (.nx s):=by unfold eJ;rw[aX l]
theorem qC(l:ok s)(I:g d s=some (.nx s1))(M:b s1=some (.nx s2))(h3:gcE n kp s2=O)(h4:eJ n kp ok g b ds O=o):eJ n kp ok g b (d::ds) s=o:=by
 unfold eJ;rw[aX l,I];dsimp only;rw[M];dsimp only;rw[h3];exact h4
theorem jc(I:v s=some (.ok (.pl<|bc r) s1))(hd:d s1=some (.ok (.lc j) s2))(hk:k s2=some (.ok (.pl<|.str n) g))(l:g.S[j]?=some (dt<|HD S0 K0))(M:S0.length<=1000):gN d k v s=some (.nx ⟨g.S.set j<|dt<|HD (Dg S0 n)<|aI K0 n r,g.t⟩):=by
 unfold gN;rw[gB I,gB hd,gB hk];unfold JD;dsimp only[keyOf,Option.bind_some];rw[l];dsimp only;rw[aX (by rw[qr];lia),yc]
theorem yk{b:SN}{s s1:SS}{k:Nat}{ds:List D}{o:Option eP}(h:a s=some (.ok (.lc k) s1))(hk:s1.S[k]?=some (dt<|.list ds))(l:eJ s1.S.length kp (stays (.lc k)<|ds.map .pl) g b (ds.map .pl) s1=o):wZ kp a g b s=o:=by
 unfold wZ;rw[gB h];simp only[pN,hk,Option.bind_some];exact l
theorem mm{ds:List D}(h:S[k]?=some (dt<|.list ds)):stays (.lc k) (ds.map .pl) ⟨S,t⟩:=by
 show pN S (.lc k)=_;simp only[pN,h]
theorem cR(g:S[p]?=some (dt<|TD ag))(l:S[q]?=some (dt<|HD S0 K0)):rdV S (.tp [.lc p,.lc q])=some (PD ag S0 K0):=by
 simp only[rdV,oD,g,l,Option.bind_some,Option.map_some]
theorem dU(h:m s=some (.ok xs s1))(g:nK xs=none)(l:xs.length<=100):gn m s=some (.ok (.tp xs) s1):=by
 unfold gn;rw[gA h,aX<|su (by lia)]
 simp only[mkT,g]
def off(K0:Str->aw.Row)(n a:Str):Str->aw.Row:=aI (aI K0 a ⟨(K0 a).key,(K0 a).above,(K0 a).mark,(K0 a).below.filter λx=>!decide (x=n)⟩) n ⟨(K0 n).key,none,false,(K0 n).below⟩
theorem vx(ne:a≠n)(hm:(K0 a).mark=(K0 a).above.isSome):off K0 n a=cz K0 n a:=by
 funext m
 unfold off cz bW
 by_cases d:m=n
 .subst d
  rw[aC,au _ _ λz=>ne z.symm,aC]
 .rw[au _ _ d]
  by_cases e:m=a
  .subst e
   rw[aC,aC,au _ _ d,hm]
  .rw[au _ _ e,au _ _ e,au _ _ d]
theorem GP(ne:a≠n)(hm:(K0 a).mark=false):cz K0 n a=if(off K0 n a a).above.isSome=true then aI (off K0 n a) a ⟨(off K0 n a a).key,(off K0 n a a).above,true,(off K0 n a a).below⟩else off K0 n a:=by
 have e:off K0 n a a=⟨(K0 a).key,(K0 a).above,(K0 a).mark,(K0 a).below.filter λx=>!decide (x=n)⟩:=by
  unfold off;rw[au _ _ ne,aC]
 rw[e];cases ea:(K0 a).above.isSome with
 |false=>
  exact(vx ne (by rw[hm,ea])).symm
 |true=>
  rw[if_pos rfl];funext m
  by_cases b:m=a
  .subst b
   unfold cz bW;rw[aC,aC,au _ _ ne,ea]
  .rw[au _ _ b]
   unfold cz bW off;rw[au _ _ b]
   by_cases d:m=n
   .subst d;rw[aC,aC]
   .rw[au _ _ d,au _ _ d,au _ _ b]
theorem BB(h:r.above=some a):ixV S (.pl<|bc r) 1=some (.pl<|.str a):=by
 show some (SV.pl<|aM r.above)=_;rw[h];rfl
def offs:List Str->(Str->aw.Row)->Str->aw.Row
 | [],K0=>K0
 |n::C,K0=>offs C (off K0 n<|(K0 n).above.getD n)
theorem kQ(ha:(K0 n).above=some a):offs (n::C) K0=offs C (off K0 n a):=by
 show offs C (off K0 n<|(K0 n).above.getD n)=_;rw[ha];rfl
theorem Dk:∀(C ag:List Str) (K0:Str->aw.Row) (n ρ:Str),Bt K c ag S0 K0->n∈S0->Ch K0 n C ρ->cuts C K0=if(offs C K0 ρ).above.isSome=true then aI (offs C K0) ρ ⟨(offs C K0 ρ).key,(offs C K0 ρ).above,true,(offs C K0 ρ).below⟩else offs C K0:=by
 intro C
 induction C with
 |nil=>intro ag K0 n ρ _ _ d;cases d
 |cons x C i=>
  intro ag K0 n ρ h hn d;cases d with
  |one ha hm=>
   rw[cK ha,kQ ha];exact GP (h.neA hn ha) hm
  |more ha hm d=>
   rename_i a
   have f:=h.ab x hn a ha;rw[cK ha,kQ ha,vx (h.neA hn ha) (by
    rw[hm];cases e:(K0 a).above with
    |none=>exact absurd e (h.mkd a f hm)
    |some b=>rfl)]
   exact i (ag++[x]) (cz K0 x a) a ρ (h.cut hn ha) f (Ch.cut h hn ha d)
theorem Ch.last(h:Bt K c ag S0 K0):∀{C:List Str} {n ρ:Str},Ch K0 n C ρ->n∈S0->∃pre z,C=pre++[z]/\z∈S0/\(K0 z).above=some ρ
 |_,n,_,.one ha _,hn=>⟨[],n,rfl,hn,ha⟩
 |_,n,_,.more ha _ e,hn=>by
  obtain⟨pre,z,a,d,h3⟩:=Ch.last h e (h.ab n hn _ ha);exact⟨n::pre,z,by rw[a];rfl,d,h3⟩
theorem GQ(U:c<=600)(M:blV (B.length+2) pile=true)(O:blV (B.length+2) nm=true)(h3:blV (B.length+2) last=true):∀(C ag:List Str) (K0:Str->aw.Row) (n ρ:Str) (x y:Option SV),Bt K c ag S0 K0->n∈S0->Ch K0 n C ρ->mh (B.length+2) [y]=true->
  ∃l I,eJ (B.length+2) [0,1,2,3,4] (stays (.lc<|B.length+1)<|(g.map PyData.str).map .pl) (ngN 5) gT ((C.map PyData.str).map .pl) ⟨B++[dt<|HD S0 K0,dt<|TD g],[some pile,some nm,some<|.lc B.length,some<|.lc<|B.length+1,some last,x,y]⟩=some (.nx ⟨B++[dt<|HD S0<|offs C K0,dt<|TD g],[some pile,some nm,some<|.lc B.length,some<|.lc<|B.length+1,some last,l,I]⟩):=by
 have step:∀(ag:List Str) (K0:Str->aw.Row) (n a:Str) (x y:Option SV) (ds:List SV) (o:Option eP),Bt K c ag S0 K0->n∈S0->(K0 n).above=some a->eJ (B.length+2) [0,1,2,3,4] (stays (.lc<|B.length+1)<|(g.map PyData.str).map .pl) (ngN 5) gT ds ⟨B++[dt<|HD S0<|off K0 n a,dt<|TD g],[some pile,some nm,some<|.lc B.length,some<|.lc<|B.length+1,some last,some<|.pl<|.str n,some<|.pl<|.str a]⟩=o->
   eJ (B.length+2) [0,1,2,3,4] (stays (.lc<|B.length+1)<|(g.map PyData.str).map .pl) (ngN 5) gT (.pl (.str n)::ds) ⟨B++[dt<|HD S0 K0,dt<|TD g],[some pile,some nm,some<|.lc B.length,some<|.lc<|B.length+1,some last,x,y]⟩=o:=λag K0 n a x y ds o h hn ha ho=>by
  have d:=h.ab n hn a ha;have ne:=h.neA hn ha;have kl:=h.kl;have bl:=h.bl a d;refine qC (mm<|apk rfl) (vt (by simp)) ?_ (mj (by simp) (by simp[mh,M,O,h3,blV])) ho
  refine aH (bD (bZ (gC (a8 (.inl<|bh rfl<|cI ap0) hn<|ai<|bU rfl)<|cA _) eW<|BB ha) (by simp)) ?_
  refine aH ((jc (gC (aZ (ao (ah<|a8 (.inl<|bh rfl<|cI ap0) d<|ai<|bU rfl)<|ao (ah<|ai<|bU rfl) aG) (z7 (λb hb=>h.ok<|bl.2 b hb) (by lia)<|h.ok hn)<|cA _)<|cA _) (av rfl) (av rfl) ap0 (by lia)).trans (by rw[du d,z9])) ?_
  have:=a8 (i:=2) (b:=aa 5) (L:=vw ⟨B++[dt<|HD S0<|aI K0 a ⟨(K0 a).key,(K0 a).above,(K0 a).mark,(K0 a).below.filter λx=>!decide (x=n)⟩,dt<|TD g],[some pile,some nm,some<|.lc B.length,some<|.lc<|B.length+1,some last,some<|.pl<|.str n,some<|.pl<|.str a]⟩) (.inl<|bh rfl<|cI ap0) hn (ai<|bU rfl)
  rw[au _ _ λz=>ne z.symm]at this
  exact(jc (gC (aZ (ao (ah this) aG) (tq<|K0 n)<|cA _)<|cA _) (av rfl) (av rfl) ap0 (by lia)).trans (by rw[du hn,z9];rfl)
 intro C
 induction C with
 |nil=>intro ag K0 n ρ x y _ _ f;cases f
 |cons z C j=>
  intro ag K0 n ρ x y h hn f m;cases f with
  |one ha hm=>
   rw[kQ ha];exact⟨_,_,step ag K0 z _ x y [] _ h hn ha<|tF<|mm<|apk rfl⟩
  |more ha hm f=>
   rename_i a
   have d:=h.ab z hn a ha;have e:=vx (h.neA hn ha) (by
    rw[hm];cases e:(K0 a).above with
    |none=>exact absurd e (h.mkd a d hm)
    |some b=>rfl)
   obtain⟨l,I,h4⟩:=j (ag++[z]) (cz K0 z a) a ρ (some<|.pl<|.str z) (some<|.pl<|.str a) (h.cut hn ha) d (Ch.cut h hn ha f) rfl;refine⟨l,I,?_⟩;rw[<-e]at h4;rw[kQ ha];exact step ag K0 z a x y _ _ h hn ha h4
theorem Ks(ds:List D)(d:D):gIx (.list<|ds++[d]) (.int<|-1)=some (d,false):=by
 show(L2.atI (ds++[d])<|-1).map (λd=>(d,false))=_
 rw[Mir.wu];simp
theorem tG(C:List Str):cF (.list<|C.map stp) true=true:=by
 show aU (C.map stp)=true
 induction C with
 |nil=>rfl
 |cons x C a=>simp only[List.map_cons,aU,a,Bool.and_true];rfl
theorem Ru{α:Type}{S:List α}{a : α}:(S++[a]).length=S.length+1:=by simp
theorem Kt{α:Type}{S:List α}{a b : α}:(S++[a,b]).length=S.length+2:=by simp
theorem nW{m:PM}{d:D}{L:Rho}{X:List<|Option Cl}{k:Nat}(h:m (vw ⟨S++X,t⟩)=some ((d,.new),L))(g:cF d true=true)(hk:X.length=k):nO m ⟨S++X,t⟩=some (.ok (.lc<|S.length+k) ⟨S++(X++[dt d]),t⟩):=by
 rw[kg h g];rw[zau,hk,zaD]
theorem g8(g:xs.length=n)(l:b ⟨S,xs.map some++List.replicate k none⟩=some (.rt r ⟨S',t'⟩))(I:blV S.length r=false):fnS n k b S xs=some (.ok r S') :=
 GL g l (if_neg (by rw[I];simp))
theorem qD(M:c<=600)(h:Bt K c ag S0 K0)(hn:n∈S0)(g:Ch K0 n C ρ)(O:C.length<=c)(l:S[p]?=some (dt<|TD ag))(I:S[q]?=some (dt<|HD S0 K0)) :
  f7 S [.tp [.lc p,.lc q],.pl<|.str n]=some (.ok (.tp [.tp [.lc<|S.length+2,.lc S.length],.lc<|S.length+3])<|S++[dt<|HD S0<|cuts C K0,dt<|TD C,dt<|TD<|ag++C,dt<|.list<|C.map stp]):=by
 have kl:=h.kl;have tl:=h.tl;obtain⟨o,m⟩:=Ch.mem h g hn;obtain⟨pre,z,rfl,s,i⟩:=Ch.last h g hn;have v:=kh l;have w:=kh I;have t:∀X:List (Option Cl),rdV (S++X) (.tp [.lc p,.lc q])=some (PD ag S0 K0):=λX=>cR (b8 l) (b8 I)
 obtain⟨a,b,lo⟩:=GQ M (B:=S) (pile:=.tp [.lc p,.lc q]) (nm:=.pl<|.str n) (last:=.pl<|.str ρ) (by simp[blV,iX];lia) rfl rfl (pre++[z]) ag K0 n ρ none none h hn g rfl
 refine g8 (t':=[some<|.tp [.lc p,.lc q],some<|.pl<|.str n,some<|.lc S.length,some<|.lc<|S.length+1,some<|.pl<|.str ρ,a,b]) rfl ?_ (by simp[blV,iX])
 refine aH (bD (kg (dY (Y0:=(HD S0 K0,true)) (ao (ah<|jB<|bh rfl<|cR l I) aG) rfl)<|kP S0 K0) (by simp)) ?_
 refine aH (s':=⟨S++[dt<|HD S0 K0,dt<|TD<|pre++[z]],[some<|.tp [.lc p,.lc q],some<|.pl<|.str n,some<|.lc S.length,some<|.lc<|S.length+1,none,none,none]⟩) (bD (nW (aZ (ao (ah<|ai<|bh rfl<|cI ap0)<|ao (ah<|ai<|bU rfl) aG) (GK h hn g (by lia))<|gg _) (gU _) rfl) (by simp)) ?_
 have j:mOp a7 (aa 2) (mOp gIx (aa 3)<|mUn Cn<|mC<|.int 1) (vw ⟨S++[dt<|HD S0 K0,dt<|TD<|pre++[z]],[some<|.tp [.lc p,.lc q],some<|.pl<|.str n,some<|.lc S.length,some<|.lc<|S.length+1,none,none,none]⟩)=some ((bc<|K0 z,.fz),vw ⟨S++[dt<|HD S0 K0,dt<|TD<|pre++[z]],[some<|.tp [.lc p,.lc q],some<|.pl<|.str n,some<|.lc S.length,some<|.lc<|S.length+1,none,none,none]⟩) :=
  a8 (.inl<|bh rfl<|cI ap0) s (aL (ah<|ai<|bh rfl<|cI<|apk rfl) (ah<|Nr bC) (by show gIx (.list<|(pre++[z]).map .str) (.int<|-1)=_;rw[za1];exact Ks _ _))
 refine aH (bD (bZ (gC j<|cA _) eW<|BB i) (by simp)) ?_
 refine aH (yk (av rfl) (apk rfl) (by dsimp only;rw[Kt];exact lo)) ?_
 have r:mOp a7 (aa 2) (aa 4) (vw ⟨S++[dt<|HD S0<|offs (pre++[z]) K0,dt<|TD<|pre++[z]],[some<|.tp [.lc p,.lc q],some<|.pl<|.str n,some<|.lc S.length,some<|.lc<|S.length+1,some<|.pl<|.str ρ,a,b]⟩)=some ((bc<|offs (pre++[z]) K0 ρ,.fz),vw ⟨S++[dt<|HD S0<|offs (pre++[z]) K0,dt<|TD<|pre++[z]],[some<|.tp [.lc p,.lc q],some<|.pl<|.str n,some<|.lc S.length,some<|.lc<|S.length+1,some<|.pl<|.str ρ,a,b]⟩):=a8 (.inl<|bh rfl<|cI ap0) m (ai<|bU rfl);have f:nTo (ax<|mOp gY (mOp gIx (mOp a7 (aa 2)<|aa 4)<|mC<|.int 1)<|mC .none) ⟨S++[dt<|HD S0<|offs (pre++[z]) K0,dt<|TD<|pre++[z]],[some<|.tp [.lc p,.lc q],some<|.pl<|.str n,some<|.lc S.length,some<|.lc<|S.length+1,some<|.pl<|.str ρ,a,b]⟩=some (.ok (offs (pre++[z]) K0 ρ).above.isSome ⟨S++[dt<|HD S0<|offs (pre++[z]) K0,dt<|TD<|pre++[z]],[some<|.tp [.lc p,.lc q],some<|.pl<|.str n,some<|.lc S.length,some<|.lc<|S.length+1,some<|.pl<|.str ρ,a,b]⟩):=dE (test_ev (k:=.fz)<|aL (ah<|bx r) (ah rfl)<|fD _);have e:=Dk (pre++[z]) ag K0 n ρ h hn g;refine aH (s':=⟨S++[dt<|HD S0<|cuts (pre++[z]) K0,dt<|TD<|pre++[z]],[some<|.tp [.lc p,.lc q],some<|.pl<|.str n,some<|.lc S.length,some<|.lc<|S.length+1,some<|.pl<|.str ρ,a,b]⟩) ?_ ?_
 .cases d:(offs (pre++[z]) K0 ρ).above.isSome with
  |true=>
   rw[d,if_pos rfl]at e;rw[d]at f;refine qB f ((jc (gC (aZ (ao (ah r) aG) (vp _)<|cA _)<|cA _) (av rfl) (av rfl) ap0 (by lia)).trans ?_)
   rw[du m,z9,e]
  |false=>
   rw[d,if_neg zam]at e;rw[d]at f;rw[e];exact kf f rfl
 refine dy (dU (aD (dU (aD (nW (aL (Y0:=(TD<|ag++(pre++[z]),true)) (ah<|qA<|bh rfl<|t _) (ah<|ai<|bh rfl<|cI<|apk rfl) ?_) (gU _) rfl)<|aD (av rfl) bT) rfl (by simp))<|aD (nW (pL (zp<|ah<|ai<|bh rfl<|cI<|apk rfl) (iu _ λx u=>⟨[.fz<|.str x],ah<|bR rfl rfl (by simp)⟩) (by rw[zal];lia)) (tG _) rfl) bT) rfl (by simp))
 show cM (.list<|ag.map .str) (.list<|(pre++[z]).map .str)=some (.list<|(ag++(pre++[z])).map .str,true);rw[za1 (l₁:=ag)];exact mO _ _ (by simp only[List.length_map];lia)
theorem Ku(h:S.length<=n):fS n S=S:=by
 unfold fS;split
 .rename_i f
  unfold gcS;rw[List.take_of_length_le h];refine(List.map_congr_left λc a=>Bz λd e=>?_).trans (List.map_id _)
  subst e;exact tw f (by rw[List.take_of_length_le h];exact a)
 .rfl
noncomputable def stH(p:Str×Str):D:=.tuple [.str "hang",.str p.1,.str p.2]
theorem Kv(g:r.below.length<=1000){a b:PM}{L:Rho}(h:a L=some ((bc r,.fz),L))(hb:b L=some ((.tuple [.str x],.fz),L)):mOp nP (mOp gIx a<|mC<|.int 3) b L=some ((.tuple<|(r.below++[x]).map .str,.fz),L):=by
 obtain⟨o,ho⟩:=sL (r.below.map .str) [.str x] (by simp;lia) (by simp)
 have e:=aL (Y0:=(.tuple<|(r.below++[x]).map .str,o)) (ah<|dq h) (ah hb) (by rw[za1];exact ho)
 cases o<;>exact e
theorem Kw(l:x∈S0)(I:y∈S0)(ne:y≠x)(hk:S0.length<=1000)(hb:(K0 y).below.length<=1000)(g:S[j]?=some (dt<|HD S0 K0)):vb S [.lc j,.pl<|.str x,.pl<|.str y]=some (.ok (.pl .none)<|S.set j<|dt<|HD S0<|aY K0 x y):=by
 have e:=kh g;refine GL (o:=.nx ⟨S.set j<|dt<|HD S0<|aY K0 x y,[some<|.lc j,some<|.pl<|.str x,some<|.pl<|.str y,some<|.pl<|bc<|K0 y]⟩) rfl ?_ (by show some (FR.ok (.pl .none)<|fS S.length<|S.set j _)=_;rw[Ku (by rw[zaM];exact zap _)])
 refine aH (s':=⟨S,[some<|.lc j,some<|.pl<|.str x,some<|.pl<|.str y,some<|.pl<|bc<|K0 x]⟩) (bD (gC (a8 (.inl<|bh rfl<|cI g) l<|ai<|bU rfl)<|cA _) (by simp)) ?_
 have a:(S.set j<|dt<|HD S0<|aI K0 x ⟨(K0 x).key,some y,false,(K0 x).below⟩)[j]?=some (dt<|HD S0<|aI K0 x ⟨(K0 x).key,some y,false,(K0 x).below⟩):=zav e;refine aH (s':=⟨S.set j<|dt<|HD S0<|aI K0 x ⟨(K0 x).key,some y,false,(K0 x).below⟩,[some<|.lc j,some<|.pl<|.str x,some<|.pl<|.str y,some<|.pl<|bc<|K0 x]⟩) ((jc (mi (aD (bZ (av rfl) eW rfl)<|aD (av rfl)<|aD eW<|aD (bZ (av rfl) eW rfl) bT) rfl (by simp)) (av rfl) (av rfl) g hk).trans (by rw[du l])) ?_
 have d:=a8 (i:=0) (b:=aa 2) (L:=vw ⟨S.set j<|dt<|HD S0<|aI K0 x ⟨(K0 x).key,some y,false,(K0 x).below⟩,[some<|.lc j,some<|.pl<|.str x,some<|.pl<|.str y,some<|.pl<|bc<|K0 x]⟩) (.inl<|bh rfl<|cI a) I (ai<|bU rfl);rw[au _ _ ne]at d;refine aH (s':=⟨S.set j<|dt<|HD S0<|aI K0 x ⟨(K0 x).key,some y,false,(K0 x).below⟩,[some<|.lc j,some<|.pl<|.str x,some<|.pl<|.str y,some<|.pl<|bc<|K0 y]⟩) (bD (gC d<|cA _) (by simp)) ?_
 refine(jc (r:=⟨(K0 y).key,(K0 y).above,(K0 y).mark,(K0 y).below++[x]⟩) (mi (aD (bZ (av rfl) eW rfl)<|aD (bZ (av rfl) eW rfl)<|aD (bZ (av rfl) eW rfl)<|aD (gC (Kv hb (ai<|bU rfl)<|bR (ao (ah<|ai<|bU rfl) aG) rfl (by simp))<|Aa _) bT) rfl (by simp)) (av rfl) (av rfl) a hk).trans ?_
 rw[du I,List.set_set];unfold aY;rw[au _ _ ne]
theorem BC(h:g s=some (.ok false s')):fG kp g b (n+1) s=some (.nx s'):=by
 unfold fG;rw[gB h,if_neg zam]
theorem OD(l:g s=some (.ok true s1))(I:b s1=some (.nx s2))(h3:gcE s1.S.length kp s2=M)(h4:fG kp g b n M=o):fG kp g b (n+1) s=o:=by
 unfold fG;rw[gB l,if_pos rfl,I];dsimp only;rw[h3];exact h4
theorem Kx(h:a s=some (.ok (.lc k) s1))(g:s1.S[k]?=some (dt<|AL al))(l:m s1=some (.ok [.pl<|.int (d:Int)] s2))(I:s2.S[k]?=some (dt<|AL al))(M:al.lookup d=some t):pZ a m s=some (.ok (.pl<|.str t) ⟨s2.S.set k<|dt<|AL<|al.filter λp=>decide<|p.1≠d,s2.t⟩):=by
 unfold pZ;rw[gA h];simp only[Bb,g,if_true];rw[gA l];unfold Ba;dsimp only[keyOf,Option.bind_some];rw[I];dsimp only;rw[oZ,M,Km];rfl
section
variable{α:Type}
theorem OE{a b x : α}:(S++a::b::X).set (S.length+1) x=S++a::x::X:=by
 rw[List.set_append_right _ _ (by lia),Nat.add_sub_cancel_left];rfl
theorem QG{a b e x : α}:(S++a::b::e::X).set (S.length+2) x=S++a::b::x::X:=by
 rw[List.set_append_right _ _ (by lia),Nat.add_sub_cancel_left];rfl
end
abbrev Sa(B:List<|Option Cl)(S0:List Str)(K0:Str->aw.Row)(al:List<|Nat×Str)(sts:List<|Str×Str):List (Option Cl):=B++[dt<|HD S0 K0,dt<|AL al,dt<|.list<|sts.map stH]
abbrev fh(pile:SV)(N:Nat)(x4 M O U:Option SV):List (Option SV):=[some pile,some<|.lc N,some<|.lc<|N+1,some<|.lc<|N+2,x4,M,O,U]
structure Al(T0:List Str)(d7:Str->aw.Row)(sts:List<|Str×Str)(T:List Str)(K0:Str->aw.Row)(al:List<|Nat×Str)(on:Str)(Z0:List Str):Prop where
 hs:Hs T0 d7 sts T K0
 nk:(al.map Prod.fst).Nodup
 ae:∀p∈al,p.2∈T/\(K0 p.2).below.length=p.1/\p.2≠on/\p.2∉Z0
 oo:on∈T/\on∉Z0
 rs:∀t∈Z0,t∈T
 cov:∀t∈T,t=on\/(∃p∈al,p.2=t)\/t∈Z0
theorem vy:∀{al:List<|Nat×Str},al.lookup d=some t->(d,t)∈al
 |(e,u)::al,h=>by
  by_cases z:d=e
  .subst z;rw[za8,beq_self_eq_true]at h;cases h;exact zas
  .rw[za8,beq_eq_false_iff_ne.mpr z]at h;exact zak _ (vy h)
theorem vz:∀{al:List<|Nat×Str},(al.map Prod.fst).Nodup->∀{p q:Nat×Str},p∈al->q∈al->p.1=q.1->p=q
 |x::al,nd,p,q,d,f,e=>by
  rw[zaz,List.nodup_cons]at nd;rcases zaf d with rfl|a<;>rcases zaf f with rfl|b
  .rfl
  .exact absurd (e▸List.mem_map_of_mem b) nd.1
  .exact absurd (e▸List.mem_map_of_mem a) nd.1
  .exact vz nd.2 a b e
theorem Al.turn{T:List Str}{al:List<|Nat×Str}{on:Str}{Z0:List Str}(A:Al T0 d7 sts T K0 al on Z0)(l:T.Nodup){t x y:Str}(I:al.lookup (K0 on).below.length=some t)(g:(x=on/\y=t)\/(x=t/\y=on))(lt:aF (K0 y).key y (K0 x).key x=true) :
  y≠x/\x∈T/\y∈T/\Al T0 d7 (sts++[(x,y)]) (T.erase x) (aY K0 x y) (al.filter λp=>decide<|p.1≠(K0 on).below.length) y Z0:=by
 have mt:=vy I;obtain⟨s,F,v,w⟩:=A.ae _ mt;dsimp only at s F v w;have ne:y≠x:=by rcases g with⟨rfl,rfl⟩|⟨rfl,rfl⟩<;>first|exact v|exact λe=>v e.symm
 have m:x∈T/\x∉Z0:=by rcases g with⟨rfl,rfl⟩|⟨rfl,rfl⟩<;>first|exact A.oo|exact⟨s,w⟩
 have f:y∈T/\y∉Z0:=by rcases g with⟨rfl,rfl⟩|⟨rfl,rfl⟩<;>first|exact A.oo|exact⟨s,w⟩
 have H:(K0 x).below.length=(K0 y).below.length:=by rcases g with⟨rfl,rfl⟩|⟨rfl,rfl⟩<;>lia
 have er:∀{u:Str},u∈T->u≠x->u∈T.erase x:=fun{u} b j=>(za9 l).mpr ⟨j,b⟩
 have n:∀p∈al,p.1≠(K0 on).below.length->p.2≠x/\p.2≠y:=λp a hd=>by
  obtain⟨B,p2,q,C⟩:=A.ae p a;have pt:p.2≠t:=λe=>hd (by rw[<-p2,e];exact F)
  rcases g with⟨rfl,rfl⟩|⟨rfl,rfl⟩
  .exact⟨q,pt⟩
  .exact⟨pt,q⟩
 refine⟨ne,m.1,f.1,A.hs.snoc m.1 f.1 ne lt H,A.nk.sublist<|List.filter_sublist.map _,λp a=>?_,⟨er f.1 ne,f.2⟩,λu d=>er (A.rs u d) λe=>m.2<|e▸d,λu d=>?_⟩
 .obtain⟨b,j⟩:=List.mem_filter.mp a
  have hd:=of_decide_eq_true j;obtain⟨B,p2,q,C⟩:=A.ae p b;obtain⟨D,E⟩:=n p b hd;exact⟨er B D,by rw[bO E D];exact p2,E,C⟩
 .obtain⟨G,σ⟩:=(za9 l).mp d
  rcases A.cov u σ with rfl|⟨p,a,rfl⟩|h
  .rcases g with⟨rfl,rfl⟩|⟨rfl,rfl⟩
   .exact absurd rfl G
   .exact .inl rfl
  .by_cases hd:p.1=(K0 on).below.length
   .have:=vz A.nk a mt hd
    subst this;rcases g with⟨rfl,rfl⟩|⟨rfl,rfl⟩
    .exact .inl rfl
    .exact absurd rfl G
   .exact .inr (.inl ⟨p,List.mem_filter.mpr ⟨a,zaH hd⟩,rfl⟩)
  .exact .inr (.inr h)
theorem Ky(hc:c<=600)(h0:Bk c T0 S0 d7)(f0:Fm S0 d7){l:SV}(hpl:blV (B.length+3) l=true){Z0:List Str}{x4:SV}(h4:blV (B.length+3) x4=true):∀(m:Nat) (al:List<|Nat×Str) (sts:List<|Str×Str) (T:List Str) (K0:Str->aw.Row) (on:Str) (Y M:Option SV) (g:Nat),al.length<=m->m<g->mh (B.length+3) [Y,M]=true->Al T0 d7 sts T K0 al on Z0->
  ∃O rC T' aE U x6' I,fG [0,1,2,3,4,5] j6 j7 g ⟨Sa B S0 K0 al sts,fh l B.length (some x4) (some<|.pl<|.str on) Y M⟩=some (.nx ⟨Sa B S0 aE O rC,fh l B.length (some x4) (some<|.pl<|.str U) x6' I⟩)/\Al T0 d7 rC T' aE O U Z0/\O.lookup (aE U).below.length=none/\mh (B.length+3) [x6',I]=true:=by
 intro m
 induction m with
 |zero=>
  intro al sts T K0 on Y M g hm E f A;obtain⟨g,rfl⟩:∃k,g=k+1:=⟨g-1,by lia⟩
  obtain rfl:al=[]:=List.eq_nil_of_length_eq_zero (by lia)
  obtain⟨b,D⟩:=A.hs.inv h0 f0;have a:=(b.tk on A.oo.1).1;refine⟨[],sts,T,K0,on,Y,M,BC<|dE<|test_ev (k:=.fz)<|aL (r:=(AL [],.fz)) (ah<|dM<|a8 (.inl<|bh rfl<|cI ap0) a<|ai<|bU rfl) (ah<|ai<|bh rfl<|cI<|apk rfl)<|LD _ _,A,rfl,f⟩
 |succ m G=>
  intro al sts T K0 on Y M g hm E f A;obtain⟨g,rfl⟩:∃k,g=k+1:=⟨g-1,by lia⟩
  obtain⟨b,D⟩:=A.hs.inv h0 f0;have a:=(b.tk on A.oo.1).1;have kl:=b.kl;have sl:=A.hs.len;have K:=h0.tl;have d:nTo (ax<|mOp zC (mCB bV<|af (mOp gIx (mOp a7 (aa 1)<|aa 5)<|mC<|.int 3) ar)<|aa 2) ⟨Sa B S0 K0 al sts,fh l B.length (some x4) (some<|.pl<|.str on) Y M⟩=some (.ok (al.lookup (K0 on).below.length).isSome ⟨Sa B S0 K0 al sts,fh l B.length (some x4) (some<|.pl<|.str on) Y M⟩):=dE (test_ev (k:=.fz)<|aL (ah<|dM<|a8 (.inl<|bh rfl<|cI ap0) a<|ai<|bU rfl) (ah<|ai<|bh rfl<|cI<|apk rfl)<|LD _ _);cases el:al.lookup (K0 on).below.length with
  |none=>
   rw[el]at d;exact⟨al,sts,T,K0,on,Y,M,BC d,A,el,f⟩
  |some t=>
   rw[el]at d;have mt:=vy el;obtain⟨H,Q,σ,_⟩:=A.ae _ mt;have htk:=(b.tk t H).1;obtain⟨x,y,ρ,lt,e⟩:∃x y,((x=on/\y=t)\/(x=t/\y=on))/\aF (K0 y).key y (K0 x).key x=true/\∃I,mh (B.length+3) [I]=true/\jG (nTo<|ax<|mOp pX (aQ aO<|af (aa 1)<|af (aa 6) ar)<|aQ aO<|af (aa 1)<|af (aa 5) ar) (bf (ck (aN 6)<|ngN 7)<|bf (ck (aN 5)<|ngN 6)<|ck (aN 7)<|ngN 5) gL ⟨Sa B S0 K0 (al.filter λp=>decide<|p.1≠(K0 on).below.length) sts,fh l B.length (some x4) (some<|.pl<|.str on) (some<|.pl<|.str t) M⟩=some (.nx ⟨Sa B S0 K0 (al.filter λp=>decide<|p.1≠(K0 on).below.length) sts,fh l B.length (some x4) (some<|.pl<|.str y) (some<|.pl<|.str x) I⟩):=by
    have tl:nTo (ax<|mOp pX (aQ aO<|af (aa 1)<|af (aa 6) ar)<|aQ aO<|af (aa 1)<|af (aa 5) ar) ⟨Sa B S0 K0 (al.filter λp=>decide<|p.1≠(K0 on).below.length) sts,fh l B.length (some x4) (some<|.pl<|.str on) (some<|.pl<|.str t) M⟩=some (.ok (aF (K0 t).key t (K0 on).key on) ⟨Sa B S0 K0 (al.filter λp=>decide<|p.1≠(K0 on).below.length) sts,fh l B.length (some x4) (some<|.pl<|.str on) (some<|.pl<|.str t) M⟩):=dE (test_ev (k:=.fz)<|aL (Y0:=(.bool<|aF (K0 t).key t (K0 on).key on,false)) (ah<|aZ (ao (ah<|ai<|bh rfl<|cI ap0)<|ao (ah<|ai<|bU rfl) aG) (fE htk) rfl) (ah<|aZ (ao (ah<|ai<|bh rfl<|cI ap0)<|ao (ah<|ai<|bU rfl) aG) (fE a) rfl) rfl)
    cases i:aF (K0 t).key t (K0 on).key on with
    |true=>
     rw[i]at tl;exact⟨on,t,.inl ⟨rfl,rfl⟩,i,some<|.pl<|.str t,rfl,qB tl<|aH (bD (av rfl) (by simp))<|aH (bD (av rfl) (by simp))<|bD (av rfl) (by simp)⟩
    |false=>
     rw[i]at tl;exact⟨t,on,.inr ⟨rfl,rfl⟩,iM σ i,M,(by simp[mh]at f⊢;exact f.2),kf tl rfl⟩
   obtain⟨I,j,e⟩:=e;obtain⟨ne,n,q,A'⟩:=A.turn b.tn el ρ lt;have o:=(b.tk x n).1;have h:=(b.tk y q).1;have F:(al.filter λp=>decide<|p.1≠(K0 on).below.length).length<al.length:=List.length_filter_lt_length_iff_exists.mpr ⟨_,mt,by simp⟩
   obtain⟨O,rC,T',aE,U,N,P,u,v,w,C⟩:=G (al.filter λp=>decide<|p.1≠(K0 on).below.length) (sts++[(x,y)]) (T.erase x) (aY K0 x y) y (some<|.pl<|.str x) I g (by lia) (by lia) (by simp[mh,blV]at j⊢;exact j) A'
   refine⟨O,rC,T',aE,U,N,P,OD d ?_ (mj (by simp) (by simp[mh,hpl,h4,blV]at j⊢;exact j)) u,v,w,C⟩
   refine aH (s':=⟨Sa B S0 K0 (al.filter λp=>decide<|p.1≠(K0 on).below.length) sts,fh l B.length (some x4) (some<|.pl<|.str on) (some<|.pl<|.str t) M⟩) ((bD (Kx (av rfl) (apk rfl) (aD (tD<|dM<|a8 (.inl<|bh rfl<|cI ap0) a<|ai<|bU rfl) bT) (apk rfl) el) (by simp)).trans (by dsimp only;rw[OE];rfl)) ?_
   refine aH e ?_;have s:=Kw o h ne (by lia) (by have:=(b.bl y h).1;lia) (S:=Sa B S0 K0 (al.filter λp=>decide<|p.1≠(K0 on).below.length) sts) ap0
   rw[z9]at s;refine aH (iQ<|de (aD (av rfl)<|aD (av rfl)<|aD (av rfl) bT) s) ?_;refine(iQ<|vq (av rfl) (apk rfl) (aD (mi (aD eW<|aD (av rfl)<|aD (av rfl) bT) rfl (by simp)) bT) (apk rfl) (by rw[zal];lia)).trans ?_
   rw[QG];show _=some (eP.nx ⟨B++[_,_,dt<|.list<|(sts++[(x,y)]).map stH],_⟩);rw[za1];rfl
structure Am(T0:List Str)(d7:Str->aw.Row)(sts:List<|Str×Str)(T:List Str)(K0:Str->aw.Row)(al:List<|Nat×Str)(Z0:List Str):Prop where
 hs:Hs T0 d7 sts T K0
 nk:(al.map Prod.fst).Nodup
 ae:∀p∈al,p.2∈T/\(K0 p.2).below.length=p.1/\p.2∉Z0
 rs:∀t∈Z0,t∈T
 cov:∀t∈T,(∃p∈al,p.2=t)\/t∈Z0
 nd:Z0.Nodup
theorem BD:∀{al:List<|Nat×Str},al.lookup d=none->∀p∈al,p.1≠d
 |(e,u)::al,h,p,a=>by
  by_cases z:d=e
  .subst z;rw[za8,beq_self_eq_true]at h;cases h
  .rw[za8,beq_eq_false_iff_ne.mpr z]at h
   rcases zaf a with rfl|a
   .exact λw=>z w.symm
   .exact BD h p a
theorem GR(I:v s=some (.ok (.pl<|.str t) s1))(hd:d s1=some (.ok (.lc j) s2))(hk:k s2=some (.ok (.pl<|.int (n:Int)) g))(l:g.S[j]?=some (dt<|AL al))(M:al.length<=1000)(hn:al.lookup n=none):gN d k v s=some (.nx ⟨g.S.set j<|dt<|AL<|al++[(n,t)],g.t⟩):=by
 unfold gN;rw[gB I,gB hd,gB hk];unfold JD;dsimp only[keyOf,Option.bind_some];rw[l];dsimp only;rw[aX (by unfold alL;rw[zal];lia),OC hn]
theorem Kz(hc:c<=600)(Y:Bk c T0 S0 d7)(f0:Fm S0 d7)(M:blV (B.length+3) pile=true)(hp:B[p]?=some (dt<|TD T0)):∀(Z0:List Str) (al:List<|Nat×Str) (sts:List<|Str×Str) (T:List Str) (K0:Str->aw.Row) (x4 U l I:Option SV),mh (B.length+3) [l,I]=true->Am T0 d7 sts T K0 al Z0->
  ∃g O T' aE y4 y5 y6 y7,eJ (B.length+3) [0,1,2,3] (stays (.lc p)<|(T0.map PyData.str).map .pl) (ngN 4) j8 ((Z0.map PyData.str).map .pl) ⟨Sa B S0 K0 al sts,fh pile B.length x4 U l I⟩=some (.nx ⟨Sa B S0 aE g O,fh pile B.length y4 y5 y6 y7⟩)/\Am T0 d7 O T' aE g []:=by
 intro Z0
 induction Z0 with
 |nil=>intro al sts T K0 x4 U l I _ A;exact⟨al,sts,T,K0,x4,U,l,I,tF<|mm<|b8 hp,A⟩
 |cons t Z0 R=>
  intro al sts T K0 x4 U l I N A;obtain⟨nt,x⟩:=List.nodup_cons.mp A.nd;have G:Al T0 d7 sts T K0 al t Z0:=⟨A.hs,A.nk,λq f=>(let⟨m,r,E⟩:=A.ae q f;⟨m,r,λe=>E (by rw[e];exact zas),λz=>E<|zak _ z⟩),⟨A.rs t zas,nt⟩,λu n=>A.rs u<|zak _ n,λu n=>by
   rcases A.cov u n with h|h
   .exact .inr (.inl h)
   .rcases zaf h with h|h
    .exact .inl h
    .exact .inr (.inr h)⟩
  have all:∀{al:List<|Nat×Str} {sts:List<|Str×Str} {T:List Str} {K0:Str->aw.Row},Hs T0 d7 sts T K0->(al.map Prod.fst).Nodup->(∀q∈al,q.2∈T/\(K0 q.2).below.length=q.1)->al.length<=601:=fun{al sts T K0} hs nk ae=>by
   obtain⟨s,_⟩:=hs.inv Y f0;have:=aw.gv (al.map Prod.fst) (List.range 601) nk λd hd=>by
    obtain⟨q,f,rfl⟩:=List.mem_map.mp hd;obtain⟨m,r⟩:=ae q f;have:=(s.bl q.2 (s.tk q.2 m).1).1;exact List.mem_range.mpr (by lia)
   simpa using this
  obtain⟨g,O,T',aE,j,C,D,S,i,F,y⟩:=Ky hc Y f0 M (x4:=.pl<|.str t) rfl al.length al sts T K0 t l I 1000000 (zap _) (by have:=all A.hs A.nk λq f=>⟨(A.ae q f).1,(A.ae q f).2.1⟩;lia) N G
  obtain⟨s,_⟩:=i.hs.inv Y f0;have w:=(s.tk j i.oo.1).1;have H:Am T0 d7 O T' aE (g++[((aE j).below.length,j)]) Z0:=by
   refine⟨i.hs,?_,λq f=>?_,i.rs,λu n=>?_,x⟩
   .rw[za1,List.nodup_append]
    refine⟨i.nk,by simp,λa ha b hb e=>?_⟩
    obtain⟨q,f,rfl⟩:=List.mem_map.mp ha;rw[List.map_singleton,List.mem_singleton]at hb;exact BD F q f (e.trans hb)
   .rcases zae f with f|f
    .obtain⟨m,r,_,ρ⟩:=i.ae q f
     exact⟨m,r,ρ⟩
    .rw[zad f];exact⟨i.oo.1,rfl,i.oo.2⟩
   .rcases i.cov u n with rfl|⟨q,f,e⟩|h
    .exact .inl ⟨_,zan _<|List.mem_singleton.mpr rfl,rfl⟩
    .exact .inl ⟨q,zaW _ f,e⟩
    .exact .inr h
  obtain⟨v,σ,K,o,y4,y5,y6,y7,P,Q⟩:=R (g++[((aE j).below.length,j)]) O T' aE (some<|.pl<|.str t) (some<|.pl<|.str j) C D y H;refine⟨v,σ,K,o,y4,y5,y6,y7,?_,Q⟩;refine qC (mm<|b8 hp) (vt (by simp)) ?_ (mj (by simp) (by simp[mh,M,blV]at y⊢;exact y)) P
  refine aH (bD (av rfl) (by simp)) ?_
  refine aH S ((GR (av rfl) (av rfl) (tD<|dM<|a8 (.inl<|bh rfl<|cI ap0) w<|ai<|bU rfl) (apk rfl) (by have:=all i.hs i.nk λq f=>⟨(i.ae q f).1,(i.ae q f).2.1⟩;lia) F).trans ?_)
  rw[OE]
theorem GS(M:c<=600)(g:Bk c T0 S0 d7)(f0:Fm S0 d7)(l:S[p]?=some (dt<|TD T0))(I:S[q]?=some (dt<|HD S0 d7)) :
  ∃(sts:List<|Str×Str) (T:List Str) (K0:Str->aw.Row) (al:List<|Nat×Str),fU S [.tp [.lc p,.lc q]]=some (.ok (.tp [.tp [.lc<|S.length+3,.lc S.length],.lc<|S.length+2])<|S++[dt<|HD S0 K0,dt<|AL al,dt<|.list<|sts.map stH,dt<|TD T])/\Hs T0 d7 sts T K0/\∀t∈T,∀u∈T,(K0 t).below.length=(K0 u).below.length->t=u:=by
 have C:=kh l;have D:=kh I;obtain⟨al,sts,T,K0,f,i,j,m,lo,A⟩:=Kz M g f0 (pile:=.tp [.lc p,.lc q]) (by simp[blV,iX];lia) l T0 [] [] T0 d7 none none none none rfl ⟨.nil,List.nodup_nil,(λq I=>by cases I),λt a=>a,λt a=>.inr a,g.tn⟩
 obtain⟨v,_⟩:=A.hs.inv g f0;refine⟨sts,T,K0,al,?_,A.hs,λt a u w e=>?_⟩
 .refine g8 (t':=fh (.tp [.lc p,.lc q]) S.length f i j m) rfl ?_ (by simp[blV,iX])
  refine aH (bD (kg (dY (Y0:=(HD S0 d7,true)) (ao (ah<|jB<|bh rfl<|cR l I) aG) rfl)<|kP S0 d7) (by simp)) ?_
  refine aH (s':=⟨S++[dt<|HD S0 d7,dt<|AL []],[some<|.tp [.lc p,.lc q],some<|.lc S.length,some<|.lc<|S.length+1,none,none,none,none,none]⟩) (bD (nW rfl rfl rfl) (by simp)) ?_
  refine aH (s':=⟨Sa S S0 d7 [] [],fh (.tp [.lc p,.lc q]) S.length none none none none⟩) ((bD GO (by simp)).trans (by dsimp only;rw[Kt,zaD];rfl)) ?_
  refine aH (yk (bZ (av rfl) eW rfl) (b8 l) (by dsimp only;rw[show(Sa S S0 d7 [] []).length=S.length+3 by simp];exact lo)) ?_
  have r:([("held",1)]:List<|Str×Nat).map (λz=>bG (vw ⟨Sa S S0 K0 al sts,fh (.tp [.lc p,.lc q]) S.length f i j m⟩) z.2)=[.fz<|HD S0 K0]:=by
   show [bG (vw ⟨Sa S S0 K0 al sts,fh (.tp [.lc p,.lc q]) S.length f i j m⟩) 1]=_;unfold bG;rw[bh rfl<|cI ap0]
  have s:=A.hs.ag g.tn λt a=>(g.tk t a).2
  have o:mLC [("held",1)] (ur<|mOp gIx (aa 0)<|mC<|.int 0) j4 j5 (vw ⟨Sa S S0 K0 al sts,fh (.tp [.lc p,.lc q]) S.length f i j m⟩)=some ((TD T,.new),vw ⟨Sa S S0 K0 al sts,fh (.tp [.lc p,.lc q]) S.length f i j m⟩):=by
   refine pL (zp<|ah<|qA<|bh rfl<|cR (b8 l)<|b8 I) ?_ (by rw[zal];have:=v.tl;lia)
   rw[r,s];exact dw T0 (λn hn=>⟨_,test_ev (k:=.fz)<|aL (ah<|bx<|a8 (.inl rfl) (g.tk n hn).1 (ai rfl)) (ah rfl)<|gz _⟩) λn hn=>⟨_,ah<|ai rfl⟩
  exact dy (dU (aD (dU (aD (nW o (gU _) rfl)<|aD (av rfl) bT) rfl (by simp))<|aD (av rfl) bT) rfl (by simp))
 .rcases A.cov t a with⟨x,b,rfl⟩|h
  .rcases A.cov u w with⟨y,d,rfl⟩|h
   .rw[(A.ae x b).2.1,(A.ae y d).2.1]at e
    rw[vz A.nk b d e]
   .cases h
  .cases h
def bM(S0:List Str)(n:Str):List Str:=S0.filter λx=>!decide (x=n)
theorem bI:m∈bM S0 n↔m∈S0/\m≠n:=by
 unfold bM;simp
noncomputable def free(K0:Str->aw.Row)(l:List Str):Str->aw.Row:=λm=>if m∈l then⟨(K0 m).key,none,false,(K0 m).below⟩else K0 m
def jd(h:m∈l):free K0 l m=⟨(K0 m).key,none,false,(K0 m).below⟩:=if_pos h
def dO(h:m∉l):free K0 l m=K0 m:=if_neg h
theorem gW(l:List Str)(m:Str):(free K0 l m).key=(K0 m).key/\(free K0 l m).below=(K0 m).below:=by
 by_cases h:m∈l
 .rw[jd h];exact⟨rfl,rfl⟩
 .rw[dO h];exact⟨rfl,rfl⟩
theorem Dl(l:List Str)(b:Str):free K0 (l++[b])=aI (free K0 l) b ⟨(free K0 l b).key,none,false,(free K0 l b).below⟩:=by
 funext m
 by_cases e:m=b
 .subst e
  rw[aC,jd (by simp),(gW l m).1,(gW l m).2]
 .rw[au _ _ e]
  by_cases h:m∈l
  .rw[jd h,jd<|zaW _ h]
  .rw[dO h,dO λz=>(zae z).elim h λw=>e<|zad w]
theorem tH{K0:Str->aw.Row}(n:Str):∀S0:List Str,pY (bA S0 K0) (.inr n)=bA (bM S0 n) K0
 | []=>rfl
 |m::l=>by
  have a:=tH (K0:=K0) n l;unfold pY bA bM at a⊢;rw[zaz,List.filter_cons,List.filter_cons];have e:(decide<|keyOf (PyData.str m)≠some (Sum.inr n))= !decide (m=n):=by
   by_cases z:m=n
   .subst z;rw[zaH rfl];exact zaO λw=>w rfl
   .rw[zaO z]
    refine zaH λw=>z ?_
    have b:=w;injection b with w;injection w
  rw[e];split
  .rw[zaz,a]
  .exact a
theorem qE(h:Bk c ag S0 K0)(f:Fm S0 K0)(hn:n∈ag):Bk c (bM ag n++(K0 n).below) (bM S0 n) (free K0 (K0 n).below)/\Fm (bM S0 n) (free K0 (K0 n).below):=by
 have hk:=(h.tk n hn).1;have v:=f.up n hk;have u:∀b∈(K0 n).below,b≠n/\b∉ag:=λb hb=>by
  have q:=(v b hb).2;refine⟨λe=>?_,λz=>?_⟩
  .rw[e,(h.tk n hn).2]at q;cases q
  .rw[(h.tk b z).2]at q;cases q
 have ab:∀m,m∈bM S0 n->∀a,(free K0 (K0 n).below m).above=some a->m∉(K0 n).below/\(K0 m).above=some a/\a≠n:=λm hm a e=>by
  by_cases z:m∈(K0 n).below
  .rw[jd z]at e;cases e
  .rw[dO z]at e
   refine⟨z,e,λw=>z ?_⟩
   subst w;exact f.dn m (bI.mp hm).1 a e
 have un:∀m,m∈bM S0 n->∀b∈(K0 m).below,b∈bM S0 n/\b∉(K0 n).below/\(K0 b).above=some m:=λm hm b hb=>by
  obtain⟨H,σ⟩:=bI.mp hm;obtain⟨o,d⟩:=f.up m H b hb;refine⟨bI.mpr ⟨o,λe=>?_⟩,λz=>?_,d⟩
  .rw[e,(h.tk n hn).2]at d;cases d
  .rw[(v b z).2]at d;cases d;exact σ rfl
 have hb:Bt (λm=>(K0 m).key) c (bM ag n++(K0 n).below) (bM S0 n) (free K0 (K0 n).below):=by
  refine⟨h.nd.sublist List.filter_sublist,λm hm=>h.nm m (bI.mp hm).1,?_,λt j=>?_,λm hm e=>?_,λm hm e=>?_,λm hm a e=>?_,λm hm=>?_,λm hm a e=>?_⟩
  .rw[List.nodup_append]
   exact⟨h.tn.sublist List.filter_sublist,f.nd n hk,λx F y G e=>(u y G).2 (e▸(bI.mp F).1)⟩
  .rcases zae j with j|j
   .obtain⟨A,K⟩:=bI.mp j
    rw[dO λz=>(u t z).2 A]
    exact⟨bI.mpr ⟨(h.tk t A).1,K⟩,(h.tk t A).2⟩
   .rw[jd j];exact⟨bI.mpr ⟨(v t j).1,(u t j).1⟩,rfl⟩
  .by_cases z:m∈(K0 n).below
   .exact zan _ z
   .rw[dO z]at e
    exact zaW _ (bI.mpr ⟨h.ne m (bI.mp hm).1 e,(bI.mp hm).2⟩)
  .by_cases z:m∈(K0 n).below
   .rw[jd z]at e;cases e
   .rw[dO z]at e⊢;exact h.mkd m (bI.mp hm).1 e
  .obtain⟨E,r,C⟩:=ab m hm a e
   exact bI.mpr ⟨h.ab m (bI.mp hm).1 a r,C⟩
  .rw[(gW _ m).2]
   exact⟨(h.bl m (bI.mp hm).1).1,λb hb=>(un m hm b hb).1⟩
  .exact h.ho m (bI.mp hm).1 a (ab m hm a e).2.1
 refine⟨hb.re λm _=>(gW _ m).1.symm,⟨λm hm=>?_,λm hm b hb=>?_,λm hm a e=>?_,λm hm i b e=>?_⟩⟩
 .rw[(gW _ m).2];exact f.nd m (bI.mp hm).1
 .rw[(gW _ m).2]at hb
  obtain⟨o,d,D⟩:=un m hm b hb;rw[dO d];exact⟨o,D⟩
 .obtain⟨E,r,C⟩:=ab m hm a e
  rw[(gW _ a).2];exact f.dn m (bI.mp hm).1 a r
 .rw[(gW _ m).2]at e
  obtain⟨o,d,D⟩:=un m hm b (zaj e);rw[dO d];exact f.dg m (bI.mp hm).1 i b e
def stF(b:Str):D:=.tuple [.str "free",.str b]
theorem ki{α:Type}{f : α->D}(h:∀x,ee (f x)=true)(l:List α):cF (.list<|l.map f) true=true:=by
 show aU (l.map f)=true
 induction l with
 |nil=>rfl
 |cons x l a=>simp only[List.map_cons,aU,a,Bool.and_true];exact h x
abbrev St(B:List<|Option Cl)(S0:List Str)(K0:Str->aw.Row)(ts:List Str)(sts:List Str):List (Option Cl):=B++[dt<|HD S0 K0,dt<|TD ts,dt<|.list<|sts.map stF]
abbrev ft(pile nm:SV)(N:Nat)(x3:SV)(M O:Option SV):List (Option SV):=[some pile,some nm,some<|.lc N,some x3,some<|.lc<|N+1,some<|.lc<|N+2,M,O]
theorem Dm(O:blV (B.length+3) pile=true)(M:blV (B.length+3) nm=true)(h3:blV (B.length+3) x3=true)(hk:S0.length<=1000)(U:ts.length<=1000):∀(l pre:List Str) (I:Option SV),(∀b∈l,b∈S0)->pre.length+l.length<=1000->
  ∃g,eJ (B.length+3) [0,1,2,3,4,5,7] (λ_=>True) (ngN 6) l7 ((l.map PyData.str).map .pl) ⟨St B S0 (free K0 pre) (ts++pre) pre,ft pile nm B.length x3 I none⟩=some (.nx ⟨St B S0 (free K0<|pre++l) (ts++(pre++l))<|pre++l,ft pile nm B.length x3 g none⟩):=by
 intro l
 induction l with
 |nil=>intro pre I _ _;rw[zaR];exact⟨I,yj⟩
 |cons b l h=>
  intro pre I d f;rw[zaw]at f;have hb:=d b zas;obtain⟨g,a⟩:=h (pre++[b]) (some<|.pl<|.str b) (λy e=>d y<|zak _ e) (by rw[zau,za7];lia)
  rw[zaD]at a;refine⟨g,tE (s1:=⟨St B S0 (free K0 pre) (ts++pre) pre,ft pile nm B.length x3 (some<|.pl<|.str b) none⟩) (vt (by simp)) ?_ (mj (by simp) (by simp[mh,O,M,h3,blV])) a⟩
  refine aH (s':=⟨St B S0 (free K0<|pre++[b]) (ts++pre) pre,ft pile nm B.length x3 (some<|.pl<|.str b) none⟩) ((jc (gC (aZ (ao (ah<|a8 (.inl<|bh rfl<|cI ap0) hb<|ai<|bU rfl) aG) (tq _)<|cA _)<|cA _) (av rfl) (av rfl) ap0 hk).trans (by rw[du hb,z9,Dl])) ?_
  refine aH (s':=⟨St B S0 (free K0<|pre++[b]) (ts++(pre++[b])) pre,ft pile nm B.length x3 (some<|.pl<|.str b) none⟩) ((iQ<|vq (av rfl) (apk rfl) (aD (av rfl) bT) (apk rfl) (by rw[zal,zau];lia)).trans (by dsimp only;rw[OE,iN,zaD])) ?_
  refine(iQ<|vq (av rfl) (apk rfl) (aD (mi (aD eW<|aD (av rfl) bT) rfl (by simp)) bT) (apk rfl) (by rw[zal];lia)).trans ?_
  rw[QG];show _=some (eP.nx ⟨B++[_,_,dt<|.list<|(pre++[b]).map stF],_⟩);rw[za1];rfl
theorem je:∀a b:List D,aU (a++b)=(aU a&&aU b)
 | [],b=>by simp[aU]
 |x::a,b=>by simp only[List.cons_append,aU,je a b,Bool.and_assoc]
theorem GU(h:a s=some (.ok (.lc k) s1))(g:s1.S[k]?=some (dt<|HD S0 K0))(l:m s1=some (.ok [.pl<|.str n] s2))(I:s2.S[k]?=some (dt<|HD S0 K0))(hn:n∈S0):pZ a m s=some (.ok (.pl<|bc<|K0 n) ⟨s2.S.set k<|dt<|HD (bM S0 n) K0,s2.t⟩):=by
 unfold pZ;rw[gA h];simp only[Bb,g,if_true];rw[gA l];unfold Ba;dsimp only[keyOf,Option.bind_some];rw[I];dsimp only;rw[eV,if_pos hn,tH];rfl
def qF(fs:List Str)(hs:List<|Str×Str):List D:=fs.map stF++hs.map stH
theorem vA(I:c<=600)(h:Bk c ag S0 K0)(f:Fm S0 K0)(hn:n∈ag)(g:S[p]?=some (dt<|TD ag))(l:S[q]?=some (dt<|HD S0 K0)) :
  ∃(sts:List<|Str×Str) (T:List Str) (aE:Str->aw.Row) (X:List<|Option Cl),dW S [.tp [.lc p,.lc q],.pl<|.str n]=some (.ok (.tp [.pl<|.int (K0 n).key,.tp [.lc<|S.length+6,.lc<|S.length+3],.lc<|S.length+7])<|S++X)/\(S++X)[S.length+6]?=some (dt<|TD T)/\(S++X)[S.length+3]?=some (dt<|HD (bM S0 n) aE)/\(S++X)[S.length+7]?=some (dt<|.list<|qF (K0 n).below sts)/\Hs (bM ag n++(K0 n).below) (free K0 (K0 n).below) sts T aE/\∀t∈T,∀u∈T,(aE t).below.length=(aE u).below.length->t=u:=by
 have E:=kh g;have F:=kh l;have kl:=h.kl;have tl:=h.tl;have hk:=(h.tk n hn).1;have C:=h.bl n hk;have G:(bM ag n).length<=ag.length:=zaY _ _;have v:(bM S0 n).length<=S0.length:=zaY _ _;have y:∀X:List (Option Cl),rdV (S++X) (.tp [.lc p,.lc q])=some (PD ag S0 K0):=λX=>cR (b8 g) (b8 l)
 obtain⟨a,e⟩:=qE h f hn;have r:=λb hb=>(a.tk b<|zan _ hb).1
 obtain⟨A,fl⟩:=Dm (B:=S) (pile:=.tp [.lc p,.lc q]) (nm:=.pl<|.str n) (x3:=.pl<|bc<|K0 n) (by simp[blV,iX];lia) rfl rfl (by lia) (ts:=bM ag n) (by lia) (K0 n).below [] none r (by simp;lia)
 rw[List.nil_append,zaR,show free K0 []=K0 from funext λm=>dO (by simp)]at fl
 obtain⟨sts,T,aE,al,i,j,s⟩:=GS I a e (S:=St S (bM S0 n) (free K0 (K0 n).below) (bM ag n++(K0 n).below) (K0 n).below) (p:=S.length+1) (apk rfl) ap0;rw[show(St S (bM S0 n) (free K0 (K0 n).below) (bM ag n++(K0 n).below) (K0 n).below).length=S.length+3 by simp,zaD]at i
 have sl:=j.len;rw[zau]at sl;have d:mLC [("name",1)] (ur<|mOp gIx (aa 0)<|mC<|.int 0) l8 l9 (vw ⟨S++[dt<|HD (bM S0 n) K0],[some<|.tp [.lc p,.lc q],some<|.pl<|.str n,some<|.lc S.length,some<|.pl<|bc<|K0 n,none,none,none,none]⟩)=some ((TD<|bM ag n,.new),vw ⟨S++[dt<|HD (bM S0 n) K0],[some<|.tp [.lc p,.lc q],some<|.pl<|.str n,some<|.lc S.length,some<|.pl<|bc<|K0 n,none,none,none,none]⟩):=by
  refine pL (zp<|ah<|qA<|bh rfl<|y _) ?_ (by rw[zal];lia)
  have D:([("name",1)]:List<|Str×Nat).map (λz=>bG (vw ⟨S++[dt<|HD (bM S0 n) K0],[some<|.tp [.lc p,.lc q],some<|.pl<|.str n,some<|.lc S.length,some<|.pl<|bc<|K0 n,none,none,none,none]⟩) z.2)=[.fz<|.str n]:=by
   show [bG (vw _) 1]=_;unfold bG;rw[bU rfl]
  exact dw ag (λx o=>⟨_,test_ev (k:=.fz)<|aL (ah<|ai rfl) (ah<|ai rfl)<|oW (h.ok (h.tk x o).1)<|h.ok hk⟩) λx o=>⟨_,ah<|ai rfl⟩
 refine⟨sts,T,aE,[dt<|HD (bM S0 n)<|free K0 (K0 n).below,dt<|TD<|bM ag n++(K0 n).below,dt<|.list<|(K0 n).below.map stF,dt<|HD (bM S0 n) aE,dt<|AL al,dt<|.list<|sts.map stH,dt<|TD T,dt<|.list<|qF (K0 n).below sts],?_,apk rfl,apk rfl,apk rfl,j,s⟩;refine g8 (t':=ft (.tp [.lc p,.lc q]) (.pl<|.str n) S.length (.pl<|bc<|K0 n) A<|some<|.tp [.tp [.lc<|S.length+6,.lc<|S.length+3],.lc<|S.length+5]) rfl ?_ (by simp[blV,iX])
 refine aH (bD (kg (dY (Y0:=(HD S0 K0,true)) (ao (ah<|jB<|bh rfl<|cR g l) aG) rfl)<|kP S0 K0) (by simp)) ?_
 refine aH (s':=⟨S++[dt<|HD (bM S0 n) K0],[some<|.tp [.lc p,.lc q],some<|.pl<|.str n,some<|.lc S.length,some<|.pl<|bc<|K0 n,none,none,none,none]⟩) ((bD (GU (av rfl) ap0 (aD (av rfl) bT) ap0 hk) (by simp)).trans (by dsimp only;rw[z9];rfl)) ?_
 refine aH (s':=⟨S++[dt<|HD (bM S0 n) K0,dt<|TD<|bM ag n],[some<|.tp [.lc p,.lc q],some<|.pl<|.str n,some<|.lc S.length,some<|.pl<|bc<|K0 n,some<|.lc<|S.length+1,none,none,none]⟩) (bD (nW d (gU _) rfl) (by simp)) ?_
 refine aH (s':=⟨St S (bM S0 n) K0 (bM ag n) [],ft (.tp [.lc p,.lc q]) (.pl<|.str n) S.length (.pl<|bc<|K0 n) none none⟩) ((bD GO (by simp)).trans (by dsimp only;rw[Kt,zaD];rfl)) ?_
 refine aH (BA (z3<|ah<|dq<|ai<|GN rfl) (by dsimp only;rw[show(St S (bM S0 n) K0 (bM ag n) []).length=S.length+3 by simp];exact fl)) ?_
 refine aH (bD (de (aD (dU (aD (av rfl)<|aD (av rfl) bT) rfl (by simp)) bT) i) (by simp)) ?_
 have w:rdV (S++[dt<|HD (bM S0 n)<|free K0 (K0 n).below,dt<|TD<|bM ag n++(K0 n).below,dt<|.list<|(K0 n).below.map stF,dt<|HD (bM S0 n) aE,dt<|AL al,dt<|.list<|sts.map stH,dt<|TD T]) (.tp [.tp [.lc<|S.length+6,.lc<|S.length+3],.lc<|S.length+5])=some (.tuple [PD T (bM S0 n) aE,.list<|sts.map stH]):=by
  simp only[rdV,oD,apk<|show([dt<|HD (bM S0 n)<|free K0 (K0 n).below,dt<|TD<|bM ag n++(K0 n).below,dt<|.list<|(K0 n).below.map stF,dt<|HD (bM S0 n) aE,dt<|AL al,dt<|.list<|sts.map stH,dt<|TD T]:List<|Option Cl)[6]?=some (dt<|TD T)from rfl,apk<|show([dt<|HD (bM S0 n)<|free K0 (K0 n).below,dt<|TD<|bM ag n++(K0 n).below,dt<|.list<|(K0 n).below.map stF,dt<|HD (bM S0 n) aE,dt<|AL al,dt<|.list<|sts.map stH,dt<|TD T]:List<|Option Cl)[3]?=some (dt<|HD (bM S0 n) aE)from rfl,apk<|show([dt<|HD (bM S0 n)<|free K0 (K0 n).below,dt<|TD<|bM ag n++(K0 n).below,dt<|.list<|(K0 n).below.map stF,dt<|HD (bM S0 n) aE,dt<|AL al,dt<|.list<|sts.map stH,dt<|TD T]:List<|Option Cl)[5]?=some (dt<|.list<|sts.map stH)from rfl,zai,zaT]
 refine dy (dU (aD (bZ (av rfl) eW rfl)<|aD (bZ (av rfl) eW rfl)<|aD (nW (aL (ah<|ai<|bh rfl<|cI<|apk rfl) (ah<|aL (Y0:=(.list<|sts.map stH,false)) (ah<|ai<|bh rfl w) (ah rfl) rfl)<|mO _ _ (by simp only[List.length_map];lia)) ?_ rfl) bT) rfl (by simp))
 show aU (qF (K0 n).below sts)=true;unfold qF;rw[je,show aU ((K0 n).below.map stF)=true from ki (λx=>rfl) _,show aU (sts.map stH)=true from ki (λx=>rfl) _];rfl
theorem vB:∀(C ag:List Str) (K0:Str->aw.Row) (n ρ:Str),Ch K0 n C ρ->Bt K c ag S0 K0->n∈S0->Bt K c (ag++C) S0 (cuts C K0)
 | [],_,_,_,_,b,_,_=>by cases b
 |x::C,ag,K0,_,ρ,b,h,hn=>by
  cases b with
  |one ha hm=>rw[cK ha];exact h.cut hn ha
  |more ha hm b=>
   rename_i a
   rw[cK ha];have:=vB C (ag++[x]) (cz K0 x a) a ρ (Ch.cut h hn ha b) (h.cut hn ha) (h.ab x hn a ha);rw[zaD]at this;exact this
structure Po(c:Nat)(S0:List Str)(K0:Str->aw.Row)(n:Str)(S X:List<|Option Cl)(p q f0 f1 f2:Nat)(tJ:List Str)(ym:Str->aw.Row)(sts:List<|Str×Str)(T:List Str)(aE:Str->aw.Row):Prop where
 run:kI S [.tp [.lc p,.lc q],.pl<|.str n]=some (.ok (.tp [.pl<|.int (K0 n).key,.tp [.lc f0,.lc f1],.lc f2])<|S++X)
 g0:(S++X)[f0]?=some (dt<|TD T)
 g1:(S++X)[f1]?=some (dt<|HD (bM S0 n) aE)
 l0:S.length<=f0
 bk:Bk c tJ S0 ym
 fm:Fm S0 ym
 nt:n∈tJ
 hs:Hs (bM tJ n++(ym n).below) (free ym (ym n).below) sts T aE
theorem OF(g:c<=600)(h:Bk c ag S0 K0)(f:Fm S0 K0)(hn:n∈S0)(l:S[p]?=some (dt<|TD ag))(I:S[q]?=some (dt<|HD S0 K0)) :
  ∃X f0 f1 f2 tJ ym sts T aE,Po c S0 K0 n S X p q f0 f1 f2 tJ ym sts T aE:=by
 have E:=cR l I;have hd:∀{u:SN} {o:Option eP},u ⟨S,[some<|.tp [.lc p,.lc q],some<|.pl<|.str n,none,none]⟩=o->bf (jR<|nO<|aQ cy<|af (aa 0)<|af (aa 1) ar) u ⟨S,[some<|.tp [.lc p,.lc q],some<|.pl<|.str n,none,none]⟩=o:=fun{u o} G=>
  aH (iQ<|gC (aZ (ao (ah<|ai<|bh rfl E)<|ao (ah<|ai<|bU rfl) aG) (By hn) rfl) rfl) G
 have w:nTo (ax<|mOp gIs (mOp gIx (mOp a7 (mOp gIx (aa 0)<|mC<|.int 1)<|aa 1)<|mC<|.int 1)<|mC .none) ⟨S,[some<|.tp [.lc p,.lc q],some<|.pl<|.str n,none,none]⟩=some (.ok (K0 n).above.isNone ⟨S,[some<|.tp [.lc p,.lc q],some<|.pl<|.str n,none,none]⟩):=dE (test_ev (k:=.fz)<|aL (ah<|bx<|qu hn (ah<|jB<|bh rfl E)<|ai<|bU rfl) (ah rfl)<|gz _);cases ea:(K0 n).above with
 |none=>
  rw[ea]at w;have nt:=h.ne n hn ea;obtain⟨sts,T,aE,X,i,j,r,A,t,F⟩:=vA g h f nt l I;exact⟨X,_,_,_,ag,K0,sts,T,aE,g8 rfl (hd<|mf<|qB w<|dy<|de (aD (av rfl)<|aD (av rfl) bT) i) (by simp[blV,iX]),j,r,by lia,h,f,nt,t⟩
 |some a=>
  rw[ea]at w;obtain⟨C,ρ,d,y⟩:=Gv h hn (by rw[ea];simp)
  have b:Bk c (ag++C) S0 (cuts C K0):=(vB C ag K0 n ρ d h hn).re λm _=>(j9 C K0 m).symm
  have e:=Fm.cuts C ag K0 n ρ h hn (f.x n) d;have nt:n∈ag++C:=zan _ (by cases d<;>exact zas)
  have co:=qD g h hn d y l I;obtain⟨Y,v⟩:∃Y,Y=[dt<|HD S0<|cuts C K0,dt<|TD C,dt<|TD<|ag++C,dt<|.list<|C.map stp]:=⟨_,rfl⟩;rw[<-v]at co;have B:(S++Y)[S.length]?=some (dt<|HD S0<|cuts C K0):=by rw[v];exact ap0
  have D:(S++Y)[S.length+2]?=some (dt<|TD<|ag++C):=by rw[v];exact apk rfl
  have H:(S++Y)[S.length+3]?=some (dt<|.list<|C.map stp):=by rw[v];exact apk rfl
  obtain⟨sts,T,aE,X,i,j,r,A,t,F⟩:=vA g b e nt D B;rw[j9]at i;have sl:=t.len;have P:=(b.bl n hn).1;have Q:(bM (ag++C) n).length<=(ag++C).length:=zaY _ _;have N:=b.tl;rw[zau]at sl;refine⟨Y++(X++[dt<|.list<|C.map stp++qF (cuts C K0 n).below sts]),(S++Y).length+6,(S++Y).length+3,(S++Y++X).length,ag++C,cuts C K0,sts,T,aE,?_,?_,?_,?_,b,e,nt,t⟩
  .refine g8 (t':=[some<|.tp [.lc p,.lc q],some<|.pl<|.str n,some<|.tp [.tp [.lc<|S.length+2,.lc S.length],.lc<|S.length+3],some<|.tp [.pl<|.int (K0 n).key,.tp [.lc<|(S++Y).length+6,.lc<|(S++Y).length+3],.lc<|(S++Y).length+7]]) rfl (hd ?_) (by simp[blV,iX])
   refine aH (kf w rfl) ?_;refine aH (bD (de (aD (av rfl)<|aD (av rfl) bT) co) (by simp)) ?_
   refine aH (bD (de (aD (bZ (av rfl) eW rfl)<|aD (av rfl) bT) i) (by simp)) ?_
   have σ:rdV (S++Y++X) (.tp [.tp [.lc<|S.length+2,.lc S.length],.lc<|S.length+3])=some (.tuple [PD (ag++C) S0<|cuts C K0,.list<|C.map stp]):=by
    simp only[rdV,oD,b8 D,b8 B,b8 H,Option.bind_some,Option.map_some]
   have K:rdV (S++Y++X) (.tp [.pl<|.int (K0 n).key,.tp [.lc<|(S++Y).length+6,.lc<|(S++Y).length+3],.lc<|(S++Y).length+7])=some (.tuple [.int (K0 n).key,PD T (bM S0 n) aE,.list<|qF (cuts C K0 n).below sts]):=by
    simp only[rdV,oD,j,r,A,Option.bind_some,Option.map_some]
   refine(dy<|dU (aD (bZ (av rfl) eW rfl)<|aD (bZ (av rfl) eW rfl)<|aD (kg (aL (ah<|aL (Y0:=(.list<|C.map stp,false)) (ah<|ai<|bh rfl σ) (ah rfl) rfl) (ah<|aL (Y0:=(.list<|qF (cuts C K0 n).below sts,false)) (ah<|ai<|bh rfl K) (ah rfl) rfl)<|mO _ _ (by unfold qF;simp only[List.length_map,List.length_append];lia)) ?_) bT) rfl (by simp)).trans ?_
   .show aU (C.map stp++qF (cuts C K0 n).below sts)=true
    unfold qF;rw[je,je,show aU (C.map stp)=true from tG C,show aU ((cuts C K0 n).below.map stF)=true from ki (λx=>rfl) _,show aU (sts.map stH)=true from ki (λx=>rfl) _];rfl
   .dsimp only
    simp only[List.append_assoc];rfl
  .rw[<-zaD,<-zaD];exact b8 j
  .rw[<-zaD,<-zaD];exact b8 r
  .simp;lia
theorem tK(l:List Str):(l.map PyData.str).all dJ=true:=by
 rw[List.all_map,List.all_eq_true];exact λ_ _=>rfl
theorem OG(d:Nat):d<gd d:=by
 induction d with
 |zero=>decide
 |succ d a=>rw[kM];have:=Oz (d-1);lia
theorem Dn(n:Nat):∀(k m l:Nat) (M:Sl),NIo M->n<m+k->k<l->∃d I,n<gd (d+1)/\dB jY jZ l [.fz<|.int (n:Int),.fz<|.int (m:Int),.fz<|.int (gd m:Int),.fz<|.int (gd (m+1):Int),M]=some (.nx [.fz<|.int (n:Int),.fz<|.int (d:Int),.fz<|.int (gd d:Int),.fz<|.int (gd (d+1):Int),I]):=by
 intro k
 induction k with
 |zero=>
  intro m l M a hm h;obtain⟨l,rfl⟩:∃f,l=f+1:=⟨l-1,by lia⟩
  have:=OG (m+1);exact⟨m,M,by lia,ir<|b7 (EV (a6 rfl)<|a6 rfl)<|zaO (by lia)⟩
 |succ k i=>
  intro m l M a hm h;obtain⟨l,rfl⟩:∃f,l=f+1:=⟨l-1,by lia⟩
  by_cases hb:n<gd (m+1)
  .exact⟨m,M,hb,ir<|b7 (EV (a6 rfl)<|a6 rfl)<|zaO (by lia)⟩
  .obtain⟨d,I,g,e⟩:=i (m+1) l (.fz<|.int (gd (m+2):Int)) (NIo.fz _) (by lia) (by lia)
   refine⟨d,I,g,lR (b7 (EV (a6 rfl)<|a6 rfl)<|zaH (by lia)) ?_ e⟩
   have b:((gd m:Int)+(gd (m+1):Int))=(gd (m+2):Int):=by
    have:gd (m+2)=gd (m+1)+gd m:=kM (m+1)
    lia
   refine az (Nt ((g6 (a6 rfl)<|a6 rfl).is b)<|fj _ rfl a) ?_;refine az (bz (ai rfl) rfl) ?_;refine az (bz (ai rfl) rfl) ?_;rfl
theorem KA(hn:n<=1000):∃d,n<gd (d+1)/\fO [.int (n:Int)]=some (.int (d:Int),false):=by
 obtain⟨d,a,g,e⟩:=Dn n (n+1) 0 1000000 .no NIo.no (by lia) (by lia)
 refine⟨d,g,cf (o:=.rt (.int (d:Int),.fz) [.fz<|.int (n:Int),.fz<|.int (d:Int),.fz<|.int (gd d:Int),.fz<|.int (gd (d+1):Int),a]) rfl ?_ rfl⟩;refine az (bz rfl rfl) ?_;refine az (bz rfl rfl) ?_;refine az (bz rfl rfl) ?_;exact az e (bH<|ai rfl)
abbrev tp(l:List Str):D:=.tuple (l.map .str)
section
variable{L:Rho}{A B:List D}(h3 : L[3]?=some (.fz<|.list<|A++B))(h4 : L[4]?=some (.fz<|.list A))
include h4
include h3
end
abbrev fr(a b i j:Nat)(n:Str)(M O s6:Option SV):List (Option SV):=[some<|.tp [.lc a,.lc b],some<|.lc i,some<|.lc j,some<|.pl<|.str n,M,O,s6]
abbrev lt(M:D)(a b:Nat)(cell:Int)(O U Y:Option SV):List (Option SV):=[some<|.pl M,some<|.lc 1,some<|.lc 2,some<|.tp [.lc a,.lc b],some<|.pl<|.int cell,O,U,Y]
def g9(K0:Str->aw.Row)(n:Str)(k:Int):Str->aw.Row:=aI K0 n ⟨k,(K0 n).above,(K0 n).mark,(K0 n).below⟩
def vC(n:Str)(k:Int):g9 K0 n k n=⟨k,(K0 n).above,(K0 n).mark,(K0 n).below⟩:=aC _ _ _
def vD(k:Int)(h:m≠n):g9 K0 n k m=K0 m:=au _ _ h
theorem b9(n m:Str)(k:Int):(g9 K0 n k m).above=(K0 m).above/\(g9 K0 n k m).mark=(K0 m).mark/\(g9 K0 n k m).below=(K0 m).below:=by
 by_cases e:m=n
 .subst e;rw[vC];exact⟨rfl,rfl,rfl⟩
 .rw[vD k e];exact⟨rfl,rfl,rfl⟩
theorem Bt.less(h:Bt K c ag S0 K0)(n:Str)(k:Int):Bt K c ag S0 (g9 K0 n k) :=
 ⟨h.nd,h.nm,h.tn,λt b=>⟨(h.tk t b).1,by rw[(b9 n t k).1];exact(h.tk t b).2⟩,λm hm e=>h.ne m hm (by rw[(b9 n m k).1]at e;exact e),λm hm e=>by rw[(b9 n m k).2.1]at e;rw[(b9 n m k).1];exact h.mkd m hm e,λm hm a e=>h.ab m hm a (by rw[(b9 n m k).1]at e;exact e),λm hm=>by rw[(b9 n m k).2.2];exact h.bl m hm,λm hm a e=>h.ho m hm a (by rw[(b9 n m k).1]at e;exact e)⟩
section
variable{K:Str->Int}{n:Str}{k:Int}
def Keeps(K0:Str->aw.Row)(n:Str)(k:Int):Prop:=∀a,(K0 n).above=some a->aF k n (K0 a).key a=false
end
section
variable{K:Str->Int}{n:Str}{k:Int}{S:List<|Option Cl}{p q:Nat}
theorem tL(I:c<=600)(h:Bt K c ag S0 K0)(hn:n∈S0)(hk:k<(K0 n).key)(g:S[p]?=some (dt<|TD ag))(l:S[q]?=some (dt<|HD S0 K0))
  (ho:u ⟨S++[dt<|HD S0<|g9 K0 n k],[some<|.tp [.lc p,.lc q],some<|.pl<|.str n,some<|.pl<|.int k,some<|.pl<|bc<|K0 n,some<|.lc S.length]⟩=o) :
  bf (jR<|nO<|aQ cy<|af (aa 0)<|af (aa 1) ar) (bf (ck (nO<|mOp a7 (mOp gIx (aa 0)<|mC<|.int 1)<|aa 1)<|ngN 3)<|bf (jG (nTo<|ax<|mOp gGe (aa 2)<|mOp gIx (aa 3)<|mC<|.int 0) zx gL)<|bf (ck (nO<|mCB jU<|af (mOp gIx (aa 0)<|mC<|.int 1) ar)<|ngN 4)<|bf (gN (aN 4) (aN 1)<|gn<|ay (aN 2)<|ay (nIx (aN 3)<|nLit<|.int 1)<|ay (nIx (aN 3)<|nLit<|.int 2)<|ay (nIx (aN 3)<|nLit<|.int 3) bw) u) ⟨S,[some<|.tp [.lc p,.lc q],some<|.pl<|.str n,some<|.pl<|.int k,none,none]⟩=o:=by
 have kl:=h.kl;have a:=cR g l;refine aH (iQ<|gC (aZ (ao (ah<|ai<|bh rfl a)<|ao (ah<|ai<|bU rfl) aG) (By hn) rfl) rfl) ?_;refine aH (bD (gC (qu hn (ah<|jB<|bh rfl a)<|ai<|bU rfl)<|cA _) (by simp)) ?_
 refine aH (kf (dE<|b7 (EW (a6<|bU rfl)<|eG<|ai<|bU rfl)<|zaO (by lia)) rfl) ?_
 refine aH (bD (kg (dY (Y0:=(HD S0 K0,true)) (ao (ah<|jB<|bh rfl a) aG) rfl)<|kP S0 K0) (by simp)) ?_
 exact aH ((jc (mi (aD (av rfl)<|aD (bZ (av rfl) eW rfl)<|aD (bZ (av rfl) eW rfl)<|aD (bZ (av rfl) eW rfl) bT) rfl (by simp)) (av rfl) (av rfl) ap0 (by lia)).trans (by rw[du hn,z9];rfl)) ho
theorem BF(h:Bt K c ag S0 K0)(hn:n∈S0)(l:(vw s)[1]?=some (.fz<|.str n))(h3:(vw s)[3]?=some (.fz<|bc<|K0 n))(h4:(vw s)[4]?=some (.fz<|HD S0<|g9 K0 n k))(hb:∀a,(K0 n).above=some a->aF (K0 a).key a k n=b)(g:(K0 n).above=none->b=true):nTo (mOr (ax<|mOp gIs (mOp gIx (aa 3)<|mC<|.int 1)<|mC .none)<|ax<|mOp JC (aQ aO<|af (aa 4)<|af (aa 1) ar)<|aQ aO<|af (aa 4)<|af (mOp gIx (aa 3)<|mC<|.int 1) ar) s=some (.ok b s):=by
 refine dE (L:=vw s) ?_;have d:ax (mOp gIs (mOp gIx (aa 3)<|mC<|.int 1)<|mC .none) (vw s)=some ((K0 n).above.isNone,vw s):=test_ev (k:=.fz) (aL (ah<|bx<|ai h3) (ah rfl)<|gz _);cases ea:(K0 n).above with
 |none=>
  rw[ea]at d;rw[g ea];exact Cv d
 |some a=>
  rw[ea]at d;have e:=h.ab n hn a ea;refine gZ d ?_;have s1:=fE (K0:=g9 K0 n k) hn;have s2:=fE (K0:=g9 K0 n k) e;rw[vC]at s1;rw[vD k<|h.neA hn ea]at s2;rw[<-hb a ea];have ab:mOp gIx (aa 3) (mC<|.int 1) (vw s)=some ((.str a,.fz),vw s):=by
   have:=bx (ai h3);rw[ea]at this;exact this
  exact test_ev (k:=.fz) (aL (Y0:=(.bool<|aF (K0 a).key a k n,false)) (ah<|aZ (ao (ah<|ai h4)<|ao (ah<|ai l) aG) s1 rfl) (ah<|aZ (ao (ah<|ai h4)<|ao (ah ab) aG) s2 rfl) rfl)
theorem Dp(M:c<=600)(h:Bt K c ag S0 K0)(hn:n∈S0)(hk:k<(K0 n).key)(g:Keeps K0 n k)(l:S[p]?=some (dt<|TD ag))(I:S[q]?=some (dt<|HD S0 K0)) :
  c7 S [.tp [.lc p,.lc q],.pl<|.str n,.pl<|.int k]=some (.ok (.tp [.tp [.lc<|S.length+1,.lc S.length],.lc<|S.length+2])<|S++[dt<|HD S0<|g9 K0 n k,dt<|TD ag,dt<|.list []]):=by
 refine g8 (t':=[some<|.tp [.lc p,.lc q],some<|.pl<|.str n,some<|.pl<|.int k,some<|.pl<|bc<|K0 n,some<|.lc S.length]) rfl (tL M h hn hk l I ?_) (by simp[blV,iX])
 refine mf (qB (BF h hn (bU rfl) (bU rfl) (bh rfl<|cI ap0) (λa ha=>iM (λz=>h.neA hn ha z.symm)<|g a ha) λ_=>rfl) ?_)
 refine dy (dU (aD (s1:=⟨S++[dt<|HD S0<|g9 K0 n k,dt<|TD ag],[some<|.tp [.lc p,.lc q],some<|.pl<|.str n,some<|.pl<|.int k,some<|.pl<|bc<|K0 n,some<|.lc S.length]⟩) (dU (aD (nW (dY (Y0:=(TD ag,true)) (ao (ah<|qA<|bh rfl<|cR (b8 l)<|b8 I) aG) rfl) (gU _) rfl)<|aD (av rfl) bT) rfl (by simp))<|aD ?_ bT) rfl (by simp))
 rw[GO];rw[Kt,zaD];rfl
theorem GV(I:c<=600)(h:Bt K c ag S0 K0)(hn:n∈S0)(hk:k<(K0 n).key)(ha:(K0 n).above=some a)(l:aF k n (K0 a).key a=true)(g:Ch (g9 K0 n k) n C ρ)(O:C.length<=c)(M:S[p]?=some (dt<|TD ag))(U:S[q]?=some (dt<|HD S0 K0)) :
  c7 S [.tp [.lc p,.lc q],.pl<|.str n,.pl<|.int k]=some (.ok (.tp [.tp [.lc<|S.length+3,.lc<|S.length+1],.lc<|S.length+4])<|S++[dt<|HD S0<|g9 K0 n k,dt<|HD S0<|cuts C<|g9 K0 n k,dt<|TD C,dt<|TD<|ag++C,dt<|.list<|C.map stp]):=by
 refine g8 (t':=[some<|.tp [.lc p,.lc q],some<|.pl<|.str n,some<|.pl<|.int k,some<|.pl<|bc<|K0 n,some<|.lc S.length]) rfl (tL I h hn hk M U ?_) (by simp[blV,iX])
 refine aH (kf (BF h hn (bU rfl) (bU rfl) (bh rfl<|cI ap0) (λd b=>by
  rw[ha]at b;cases b
  cases e:aF (K0 a).key a k n with
  |false=>rfl
  |true=>have:=cH l e;rw[gy]at this;cases this) λz=>by rw[ha]at z;cases z) rfl) ?_
 have co:=qD I (h.less n k) hn g O (S:=S++[dt<|HD S0<|g9 K0 n k]) (b8 M) ap0;rw[Ru,zaD]at co;exact dy (de (aD (dU (aD (bZ (av rfl) eW rfl)<|aD (av rfl) bT) rfl (by simp))<|aD (av rfl) bT) co)
end
def Lst(K0:Str->aw.Row)(l:List Str)(n:Str):Prop:=n∈l/\∀m∈l,m=n\/aF (K0 n).key n (K0 m).key m=true
theorem LG{a c:Int}(g:aF a x c y=true)(l:aF c y a x=true):False:=by
 have:=cH g l;rw[gy]at this;cases this
theorem Lst.one(g:Lst K0 l n)(I:Lst K0 M m)(a:n∈M)(b:m∈l):n=m:=by
 rcases g.2 m b with e|e
 .exact e.symm
 .rcases I.2 n a with d|d
  .exact d
  .exact(LG e d).elim
theorem vE:∀(l:List Str) (b:Str),∃n,l4 (.str b,(K0 b).key,b) (l.map λt=>(PyData.str t,(K0 t).key,t))=(.str n,(K0 n).key,n)/\Lst K0 (b::l) n
 | [],b=>⟨b,rfl,zas,λm hm=>.inl<|zad hm⟩
 |t::l,b=>by
  by_cases f:aF (K0 t).key t (K0 b).key b=true
  .obtain⟨n,e,h,a⟩:=vE l t
   refine⟨n,?_,zak _ h,λm hm=>?_⟩
   .simp only[List.map_cons,l4,f,if_true];exact e
   .rcases zaf hm with rfl|hm
    .rcases a t zas with z|z
     .exact .inr (by rw[<-z];exact f)
     .exact .inr (cH z f)
    .exact a m hm
  .obtain⟨n,e,h,a⟩:=vE l b
   have d:aF (K0 t).key t (K0 b).key b=false:=by simpa using f
   refine⟨n,?_,?_,λm hm=>?_⟩
   .simp only[List.map_cons,l4,d,Bool.false_eq_true,if_false];exact e
   .rcases zaf h with z|z
    .rw[z];exact zas
    .exact zak _ (zak _ z)
   .rcases zaf hm with rfl|hm
    .exact a _ zas
    .rcases zaf hm with rfl|hm
     .by_cases i:m=b
      .rw[i];exact a b zas
      .have lt:=iM i d
       rcases a b zas with z|z
       .exact .inr (by rw[<-z];exact lt)
       .exact .inr (cH z lt)
     .exact a m (zak _ hm)
theorem Lst.top(h:Bt K c ag S0 K0)(l:∀n∈S0,K n=(K0 n).key)(g:Lst K0 S0 n):n∈ag:=by
 refine h.ne n g.1 ?_;cases e:(K0 n).above with
 |none=>rfl
 |some a=>
  have ha:=h.ab n g.1 a e;have b:=h.ho n g.1 a e;rw[l n g.1,l a ha]at b;rcases g.2 a ha with z|z
  .rw[z,gy]at b;cases b
  .exact(LG b z).elim
theorem KC{l:List Str}:(∀t∈l,t∈S0)->zG c8 [.fz<|PD ag S0 K0] (l.map .str)=some (l.map λt=>(PyData.str t,(K0 t).key,t)):=by
 induction l with
 |nil=>intro _;rfl
 |cons t l b=>
  intro h;have e:sv c8 (.fz (.str t)::[.fz<|PD ag S0 K0])=some ((.tuple [.int (K0 t).key,.str t],.fz),[.fz<|.str t,.fz<|PD ag S0 K0]) :=
   ah (aZ (ao (ah<|jB rfl)<|ao (ah<|ai rfl) aG) (fE<|h t zas) rfl)
  show(sv c8 (.fz (.str t)::[.fz<|PD ag S0 K0])).bind _=_;rw[e,zai];rw[b λx a=>h x<|zak _ a]
  rfl
theorem GW(g:ag≠[])(I:∀t∈ag,t∈S0):∃n,Lst K0 ag n/\fT [PD ag S0 K0]=some (.str n,false):=by
 match ag,g,I with
 |b::l,_,I=>
  obtain⟨n,e,h⟩:=vE l b;refine⟨n,h,cf (o:=.rt (.str n,.fz) [.fz<|PD (b::l) S0 K0]) rfl (az (eN (b7 (sC (dY (Y0:=(.int (((b::l).length:Nat):Int),false)) (ao (ah<|qA rfl) aG) (by show some (PyData.int ((((b::l).map PyData.str).length:Nat):Int),false)=_;rw[zal])) bC)<|zaO (by simp only[List.length_cons];lia)) rfl)<|bH ?_) rfl⟩
  unfold FY;rw[show mOp gIx (aa 0) (mC<|.int 0) ([PD (b::l) S0 K0].map Sl.fz++List.replicate 0 Sl.no)=some ((TD (b::l),.fz),[.fz<|PD (b::l) S0 K0])from qA rfl,zai];show(zG c8 [.fz<|PD (b::l) S0 K0]<|(b::l).map .str).bind _=_;rw[KC I,zai];show some (((l4 _ _).1,Kd.fz),_)=_;rw[e]
theorem OH(l:List Str)(h:l[i]?=some n):pkD (l.map λt=>PyData.tuple [.int (K0 t).key,.str t]) i=((K0 n).key,n):=by
 unfold pkD;rw[zao,h];rfl
theorem Ab:∀k:Nat,argBest bt k<=k
 |0=>zap _
 |k+1=>by
  unfold argBest;split
  .exact zap _
  .exact Nat.le_succ_of_le (Ab k)
theorem KD(g:l≠[]):∃n,Lst K0 l n/\Lx [.list<|l.map λt=>PyData.tuple [.int (K0 t).key,.str t]]=some (.tuple [.int (K0 n).key,.str n],false):=by
 have y:=List.length_pos_iff.mpr g;obtain⟨G,x⟩:∃G,G=pkD (l.map λt=>PyData.tuple [.int (K0 t).key,.str t]):=⟨_,rfl⟩
 have f:∀{i:Nat} {n:Str},l[i]?=some n->G i=((K0 n).key,n):=fun{i n} h=>by rw[x];exact OH l h
 have key:∀k,k<l.length->∀m j,j<=k->l[j]?=some m->∀n,l[argBest (btK G) k]?=some n->m=n\/aF (K0 n).key n (K0 m).key m=true:=by
  intro k
  induction k with
  |zero=>
   intro _ m j o hm n hn;obtain rfl:j=0:=by lia
   have:l[0]?=some n:=hn;rw[hm]at this;cases this;exact .inl rfl
  |succ k A=>
   intro hk m j o hm n hn;have w:=Ab (bt:=btK G) k;obtain⟨p,r⟩:∃p,l[argBest (btK G) k]?=some p:=⟨_,zaC (by lia)⟩
   obtain⟨q,s⟩:∃q,l[k+1]?=some q:=⟨_,zaC hk⟩;have B:btK G (k+1) (argBest (btK G) k)=aF (K0 q).key q (K0 p).key p:=by
    show aF (G<|k+1).1 (G<|k+1).2 (G<|argBest (btK G) k).1 (G<|argBest (btK G) k).2=_;rw[f s,f r]
   have b:l[if btK G (k+1) (argBest (btK G) k)=true then k+1 else argBest (btK G) k]?=some n:=hn
   rw[B]at b
   by_cases a:aF (K0 q).key q (K0 p).key p=true
   .rw[if_pos a]at b
    have v:=zaQ (s.symm.trans b);rw[<-v]
    by_cases u:j=k+1
    .rw[u]at hm
     exact .inl (zaQ<|hm.symm.trans s)
    .rcases A (by lia) m j (by lia) hm p r with z|z
     .rw[z];exact .inr a
     .exact .inr (cH a z)
   .rw[if_neg a]at b
    have v:=zaQ (r.symm.trans b);rw[<-v]
    by_cases u:j=k+1
    .rw[u]at hm
     have em:=zaQ (s.symm.trans hm);rw[<-em]
     by_cases e:q=p
     .exact .inl e
     .exact .inr (iM e (by simpa using a))
    .exact A (by lia) m j (by lia) hm p r
 have w:=Ab (bt:=btK G) (l.length-1);obtain⟨n,hn⟩:∃n,l[argBest (btK G)<|l.length-1]?=some n:=⟨_,zaC (by lia)⟩
 refine⟨n,⟨zaj hn,λm hm=>?_⟩,?_⟩
 .obtain⟨j,o⟩:=List.mem_iff_getElem?.mp hm
  have:=(zac o).1;exact key _ (by lia) m j (by lia) o n hn
 .unfold Lx
  dsimp only;rw[if_pos (List.all_eq_true.mpr λd hd=>by obtain⟨t,_,rfl⟩:=List.mem_map.mp hd;rfl),zal,<-x,zao,hn]
  rfl
theorem GX(M:c<=600)(h:Bk c ag S0 K0)(f:Fm S0 K0)(g:Lst K0 ag n)(l:S[p]?=some (dt<|TD ag))(I:S[q]?=some (dt<|HD S0 K0)) :
  ∃(sts:List<|Str×Str) (T:List Str) (aE:Str->aw.Row) (X:List<|Option Cl),fV S [.tp [.lc p,.lc q]]=some (.ok (.tp [.pl<|.str n,.pl<|.int (K0 n).key,.tp [.lc<|S.length+6,.lc<|S.length+3],.lc<|S.length+7])<|S++X)/\(S++X)[S.length+6]?=some (dt<|TD T)/\(S++X)[S.length+3]?=some (dt<|HD (bM S0 n) aE)/\(S++X)[S.length+7]?=some (dt<|.list<|qF (K0 n).below sts)/\Hs (bM ag n++(K0 n).below) (free K0 (K0 n).below) sts T aE/\∀t∈T,∀u∈T,(aE t).below.length=(aE u).below.length->t=u:=by
 obtain⟨sts,T,aE,X,a,b,d,e,i,j⟩:=vA M h f g.1 l I;refine⟨sts,T,aE,X,?_,b,d,e,i,j⟩;obtain⟨m,hm,em⟩:=GW (λz=>by rw[z]at g;exact absurd g.1 (by simp)) λt k=>(h.tk t k).1
 obtain rfl:n=m:=g.one hm g.1 hm.1;refine g8 (t':=[some<|.tp [.lc p,.lc q],some<|.pl<|.str n,some<|.tp [.pl<|.int (K0 n).key,.tp [.lc<|S.length+6,.lc<|S.length+3],.lc<|S.length+7]]) rfl ?_ (by simp[blV,iX])
 refine aH (bD (gC (aZ (ao (ah<|ai<|bh rfl<|cR l I) aG) em rfl) rfl) (by simp)) ?_
 refine aH (bD (de (aD (av rfl)<|aD (av rfl) bT) a) (by simp)) ?_
 exact dy (dU (aD (av rfl)<|aD (bZ (av rfl) eW rfl)<|aD (bZ (av rfl) eW rfl)<|aD (bZ (av rfl) eW rfl) bT) rfl (by simp))
def nm(z:Str):Bool:=z.cps.toList.all λc=>leS "a" ⟨#[c]⟩&&leS ⟨#[c]⟩ "z"
theorem nX{α:Type}(p : α->Bool):∀l:List α,boolsOf (l.map λc=>PyData.bool<|p c)=some (l.map p)
 | []=>rfl
 |c::l=>by
  show(boolsOf<|l.map λc=>PyData.bool<|p c).map _=_
  rw[nX p l];rfl
theorem KG(z:Str)(L:Rho):uj xt xt (mC<|.str "a") (aa 0) (mC<|.str "z") (.fz (.str z)::L)=some ((.bool<|leS "a" z&&leS z "z",.fz),.fz (.str z)::L):=by
 have e:uj xt xt (mC<|.str "a") (aa 0) (mC<|.str "z") (.fz (.str z)::L)=(match leS "a" z with|true=>some ((.bool<|leS z "z",.fz),.fz (.str z)::L)|false=>some ((.bool false,.fz),.fz (.str z)::L)):=by
  show(match((PyData.bool<|leS "a" z,false):D×Bool)with
   |(.bool true,false)=>_
   |(.bool false,false)=>_
   |_=>_)=_
  cases leS "a" z<;>rfl
 rw[e];cases leS "a" z<;>rfl
theorem Ac(z:Str)(g:z.length<=1000):f6 [.str z]=some (.bool<|!decide ((z.length:Int)<1)&&(!decide ((8:Int)<(z.length:Int))&&nm z),false):=by
 have el:IE (mCB bV<|af (aa 0) ar) [.fz<|.str z] (z.length:Int):=dY (Y0:=(.int (z.length:Int),false)) rfl (aX<|zaX g (by decide))
 have d:pA (ax<|xp "str"<|aa 0) [.fz<|.str z]=some (false,[.fz<|.str z]):=mN (test_ev (k:=.fz) (v:=true)<|Kn (ah<|ai rfl) (by simp[FU,mL,tyD,df,o9]))
 by_cases a:(z.length:Int)<1
 .rw[zaH a]
  exact cf rfl (pJ<|mM (gZ d<|Cv<|b7 (wV el bC)<|zaH a) rfl) rfl
 by_cases b:(8:Int)<(z.length:Int)
 .rw[zaH b,zaO a]
  exact cf rfl (pJ<|mM (gZ d<|gZ (b7 (wV el bC)<|zaO a)<|b7 (lS el bC)<|zaH b) rfl) rfl
 .rw[zaO a,zaO b]
  have e:=Mir.iu z.cps.toList λc _=>⟨_,ah<|KG ⟨#[c]⟩ []⟩
  refine cf rfl (az (eN (gZ d<|gZ (b7 (wV el bC)<|zaO a)<|b7 (lS el bC)<|zaO b) rfl)<|bH<|dY (Y0:=(.bool<|nm z,false)) (ao (eA<|pL rfl e ?_) aG) ?_) rfl
  .rw[zal];show z.cps.toList.length<=_;have:z.length=z.cps.toList.length:=rfl;lia
  .show(boolsOf _).map _=_
   rw[nX];show some (PyData.bool _,false)=_;rw[List.all_map];rfl
theorem GY:∀i:Nat,i<600->nm (aq i)=true/\1<=(aq i).length/\(aq i).length<=8:=by decide+kernel
theorem yn(hi:i<600):f6 [.str<|aq i]=some (.bool true,false):=by
 obtain⟨a,b,h3⟩:=GY i hi;rw[Ac _ (by lia),a,zaO (by lia),zaO (by lia)];rfl
theorem OI(h:a.length+b.length<=1000):cM (TD a) (TD b)=some (TD<|a++b,true):=by
 show cM (.list<|a.map .str) (.list<|b.map .str)=some (.list<|(a++b).map .str,true);rw[za1];exact aX (zaX (show(a.map PyData.str).length+(b.map PyData.str).length<=1000 by rw[zal,zal];exact h) (by decide))
theorem OJ(h:f6 [.str n]=some (.bool true,false))(hn:n∉S0)(hk:S0.length<=1000)(g:ag.length<=900):gw [PD ag S0 K0,.str n,.int k]=some (TD<|ag++[n],HD (S0++[n])<|aI K0 n ⟨k,none,false,[]⟩):=by
 refine vn rfl ?_;refine dN (eN (mN (e8 (rs:=[(.str n,.fz)]) rfl h).t) rfl) ?_;refine dN (eN (test_ev (k:=.fz)<|aL (Y0:=(.bool false,false)) (ah<|ai rfl) (ah<|jB rfl) (by rw[Kb,zaO hn])) rfl) ?_
 refine dN (cN (dY (Y0:=(HD S0 K0,true)) (ao (ah<|jB rfl) aG) rfl) rfl) ?_;refine dN (ρ1:=[.fz<|PD ag S0 K0,.fz<|.str n,.fz<|.int k,.own<|HD (S0++[n])<|aI K0 n ⟨k,none,false,[]⟩]) ((fW (r:=⟨k,none,false,[]⟩) (bR (ao (ah<|ai rfl)<|ao (ah rfl)<|ao (ah rfl)<|ao (ah<|bR rfl rfl (by simp)) aG) rfl (by simp)) (ai rfl) rfl (.inl rfl) (by lia)).trans (by rw[md hn];rfl)) ?_
 unfold zH;rw[show mOp cM (mOp gIx (aa 0)<|mC<|.int 0) (eM<|af (aa 1) ar) [.fz<|PD ag S0 K0,.fz<|.str n,.fz<|.int k,.own<|HD (S0++[n])<|aI K0 n ⟨k,none,false,[]⟩]=some ((TD<|ag++[n],.new),[.fz<|PD ag S0 K0,.fz<|.str n,.fz<|.int k,.own<|HD (S0++[n])<|aI K0 n ⟨k,none,false,[]⟩])from aL (ah<|qA rfl) (eA<|eO rfl rfl (by simp)) (OI (b:=[n]) (by simp;lia))]
 rfl
variable{t1 k1 t2 k2:List Str}{r1 r2:Str->aw.Row}
theorem tM(h:m s=some (.ok xs ⟨S++X,t⟩))(I:oD (S++X) xs=some ds)(M:f ds=some (g,l))(O:cF g true=true)(p2:cF l true=true) :
  m5 f m s=some (.ok (.tp [.lc<|S.length+X.length,.lc<|S.length+X.length+1]) ⟨S++(X++[dt g,dt l]),t⟩):=by
 unfold m5;rw[gA h];rw[I,zai,M,zai];rw[if_pos (show(cF g true&&cF l true)=true by rw[O,p2];rfl),zau]
 simp only[List.append_assoc,List.cons_append,List.nil_append]
def LH(h:i<s.t.length):iZ i gs (x::xs) s=gs xs ⟨s.S,s.t.set i<|some x⟩:=if_pos h
theorem OL(h:a s=some (.ok (.tp [x,y]) s'))(hi:i<s'.t.length)(g:j<s'.t.length):ck a (ngT 2<|iZ i<|iZ j zy) s=some (.nx ⟨s'.S,(s'.t.set i<|some x).set j<|some y⟩):=by
 unfold ck;rw[gB h];unfold ngT;rw[show pN s'.S (.tp [x,y])=some [x,y]from rfl,zai,if_pos<|show([x,y]:List SV).length=2 from rfl];rw[LH hi,LH (by rw[zaM];exact g)]
 rfl
variable{c:Nat}{ag S0:List Str}{K0:Str->aw.Row}
theorem lC:∀(C:List Str) (K0:Str->aw.Row) (m:Str),(cuts C K0 m).above=none\/(cuts C K0 m).above=(K0 m).above
 | [],_,_=>.inr rfl
 |x::C,K0,m=>by
  rcases lC C (cz K0 x<|(K0 x).above.getD x) m with h|h
  .exact .inl h
  .rw[cp]at h
   by_cases e:m=x
   .rw[if_pos e]at h;exact .inl h
   .rw[if_neg e]at h;exact .inr h
theorem Ad(h:Ch K0 n C ρ):(cuts C K0 n).above=none:=by
 have key:∀(C:List Str) (K0:Str->aw.Row),(K0 n).above=none->(cuts C K0 n).above=none:=λC K0 e=>by
  rcases lC C K0 n with h|h
  .exact h
  .rw[h,e]
 cases h with
 |one ha hm=>rw[cK ha];exact key [] _ (by rw[cp,if_pos rfl])
 |more ha hm a=>rw[cK ha];exact key _ _ (by rw[cp,if_pos rfl])
theorem Fm.less(f:Fm S0 K0)(n:Str)(k:Int):Fm S0 (g9 K0 n k) :=
 ⟨λm hm=>by rw[(b9 n m k).2.2];exact f.nd m hm,λm hm b hb=>by rw[(b9 n m k).2.2]at hb;rw[(b9 n b k).1];exact f.up m hm b hb,λm hm a ha=>by rw[(b9 n m k).1]at ha;rw[(b9 n a k).2.2];exact f.dn m hm a ha,λm hm i b e=>by rw[(b9 n m k).2.2]at e;rw[(b9 n b k).2.2,(b9 n b k).2.1];exact f.dg m hm i b e⟩
theorem yo(n m:Str)(k:Int):(g9 K0 n k m).key=if m=n then k else(K0 m).key:=by
 by_cases e:m=n
 .subst e;rw[vC,if_pos rfl]
 .rw[vD k e,if_neg e]
theorem BG(h:Bk c ag S0 K0)(hk:k<(K0 n).key)(h':Bt K c g S0 aE)(ek:∀m,(aE m).key=if m=n then k else(K0 m).key)(ab:∀m a,(aE m).above=some a->(K0 m).above=some a)(top:∀a,(aE n).above=some a->aF (K0 a).key a k n=true):Bk c g S0 aE :=
 ⟨h'.nd,h'.nm,h'.tn,h'.tk,h'.ne,h'.mkd,h'.ab,h'.bl,λm hm a ha=>by
  have b:=ab m a ha;have o:=h.ho m hm a b;rw[ek,ek];have d:=h.neA hm b
  by_cases e:m=n
  .subst e
   rw[if_pos rfl,if_neg d];exact top a ha
  .rw[if_neg e]
   by_cases f:a=n
   .subst f
    exact cH (by unfold aF;simp[hk];lia) o
   .rw[if_neg f];exact o⟩
theorem KH(g:c<=600)(h:Bk c ag S0 K0)(f:Fm S0 K0)(hn:n∈S0)(hk:k<(K0 n).key)(ha:S[a]?=some (dt<|TD ag))(hb:S[b]?=some (dt<|HD S0 K0)) :
  ∃X f0 f1 f2 T aE,c7 S [.tp [.lc a,.lc b],.pl<|.str n,.pl<|.int k]=some (.ok (.tp [.tp [.lc f0,.lc f1],.lc f2])<|S++X)/\(S++X)[f0]?=some (dt<|TD T)/\(S++X)[f1]?=some (dt<|HD S0 aE)/\S.length<=f0/\Bk c T S0 aE/\Fm S0 aE:=by
 have keep:=λp=>(⟨_,_,_,_,ag,g9 K0 n k,Dp g h hn hk p ha hb,apk rfl,ap0,by lia,BG h hk (h.less n k) (λm=>yo n m k) (λm a e=>by rw[(b9 n m k).1]at e;exact e) (λa e=>by
   rw[(b9 n n k).1]at e;exact iM (λz=>h.neA hn e z.symm) (p a e)),f.less n k⟩:∃X f0 f1 f2 T aE,c7 S [.tp [.lc a,.lc b],.pl<|.str n,.pl<|.int k]=some (.ok (.tp [.tp [.lc f0,.lc f1],.lc f2])<|S++X)/\(S++X)[f0]?=some (dt<|TD T)/\(S++X)[f1]?=some (dt<|HD S0 aE)/\S.length<=f0/\Bk c T S0 aE/\Fm S0 aE)
 cases ea:(K0 n).above with
 |none=>exact keep λa e=>by rw[ea]at e;cases e
 |some o=>
  cases el:aF k n (K0 o).key o with
  |false=>exact keep λa e=>by rw[ea]at e;cases e;exact el
  |true=>
   have j:=h.less n k;obtain⟨C,ρ,d,i⟩:=Gv j hn (by rw[(b9 n n k).1,ea];simp)
   refine⟨_,_,_,_,ag++C,cuts C<|g9 K0 n k,GV g h hn hk ea el d i ha hb,apk rfl,apk rfl,by lia,BG h hk (vB C ag _ n ρ d j hn) (λm=>(j9 C _ m).trans<|yo n m k) (λm a e=>?_) λa e=>?_,Fm.cuts C ag _ n ρ j hn ((f.less n k).x n) d⟩
   .rcases lC C (g9 K0 n k) m with z|z
    .rw[z]at e;cases e
    .rw[z,(b9 n m k).1]at e;exact e
   .rw[Ad d]at e;cases e
def plL(S0:List Str)(g:Str->Int):List (D×D):=S0.map λn=>(PyData.str n,PyData.int<|g n)
abbrev PL(S0:List Str)(g:Str->Int):D:=.dict (plL S0 g)
noncomputable def fX(g:Str->Int)(n:Str)(v:Int):Str->Int:=λm=>if m=n then v else g m
variable{g:Str->Int}{n:Str}
theorem o3(g:Str->Int)(n:Str):∀S0:List Str,cO (plL S0 g) (.inr n)=if n∈S0 then some (.int<|g n)else none
 | []=>rfl
 |m::S0=>by
  show(if keyOf (.str m)=some (.inr n)then some (PyData.int<|g m)else cO (plL S0 g) (.inr n))=_
  by_cases e:m=n
  .subst e;rw[if_pos<|oU m,if_pos zas]
  .have a : ¬keyOf (.str m)=some (.inr n):=λz=>e (Sum.inr.inj<|zaQ z)
   rw[if_neg a,o3 g n S0]
   by_cases h:n∈S0
   .rw[if_pos h,if_pos<|zak _ h]
   .rw[if_neg h,if_neg λz=>(zaf z).elim (λz=>e z.symm) h]
theorem GZ(h:∀n∈S0,g n=g' n):plL S0 g=plL S0 g':=List.map_congr_left λm hm=>by rw[h m hm]
theorem G0(S0:List Str)(g:Str->Int):(plL S0 g).length=S0.length:=by unfold plL;rw[zal]
theorem Ae(S0:List Str)(g:Str->Int)(n:Str)(v:Int)(h:n∉S0):putD (plL S0 g) (.str n) (.int v) (.inr n)=plL (S0++[n]) (fX g n v):=by
 unfold putD;rw[o3,if_neg h];show plL S0 g++[(.str n,.int v)]=_;rw[show plL (S0++[n]) (fX g n v)=plL S0 (fX g n v)++plL [n] (fX g n v)from za1 ..,GZ (g':=fX g n v) λm hm=>by unfold fX;rw[if_neg λz=>h (by rw[<-z];exact hm)]]
 show _=_++[(PyData.str n,PyData.int<|fX g n v n)];unfold fX;rw[if_pos rfl]
theorem Af(S0:List Str)(g:Str->Int)(n:Str)(v:Int)(h:n∈S0):putD (plL S0 g) (.str n) (.int v) (.inr n)=plL S0 (fX g n v):=by
 unfold putD;rw[o3,if_pos h];unfold plL;rw[List.map_map];refine List.map_congr_left λm _=>?_
 show(if keyOf (.str m)=some (.inr n)then(PyData.str m,PyData.int v)else(PyData.str m,PyData.int<|g m))=(PyData.str m,PyData.int<|fX g n v m)
 unfold fX
 by_cases e:m=n
 .subst e;rw[if_pos<|oU m,if_pos rfl]
 .have a : ¬keyOf (.str m)=some (.inr n):=λz=>e (Sum.inr.inj<|zaQ z)
  rw[if_neg a,if_neg e]
theorem KI(S0:List Str)(g:Str->Int):cF (PL S0 g) true=true:=by
 show aU ((plL S0 g).map (·.2))=true
 unfold plL
 induction S0 with
 |nil=>rfl
 |cons n l a=>simp only[List.map_cons,aU,Function.comp,ee,Bool.true_and];exact a
theorem KJ{a b:PM}{v:Int}(ha:IE a L v)(hb:b L=some ((.str n,.fz),L))(h : L[i]?=some (.own<|PL S0 g))(hn:n∉S0)(l:S0.length<=1000):eC i a b L=some (.nx<|L.set i<|.own<|PL (S0++[n])<|fX g n v):=by
 have d:(plL S0 g).length<100000:=by rw[G0];lia
 unfold eC;rw[ah ha,zai];dsimp only[gK,Option.bind_some]
 rw[h,show uG (some<|Sl.own<|PL S0 g)=some (plL S0 g)from rfl,zai,ah hb,zai];dsimp only[keyOf,Option.bind_some]
 rw[h,show uG (some<|Sl.own<|PL S0 g)=some (plL S0 g)from rfl,zai,aX d,Ae _ _ _ _ hn];unfold Mir.putAt;rw[h];rfl
variable{t1 k1 t2 k2:List Str}{r1 r2:Str->aw.Row}
abbrev pw(a b d e p q:Nat)(x4 M:Option SV):List (Option SV):=[some<|.tp [.lc a,.lc b],some<|.tp [.lc d,.lc e],some<|.lc p,some<|.lc q,x4,M]
def yr(h : L[i]?=some (.fz<|TD l)):IE (mCB bV<|af (aa i) ar) L (l.length:Int):=me (.inl h)
theorem QH{l:List Str}(I : 0<l.length)(v:Int):∃n∈l,L2.atI (l.map PyData.str) (v%(l.length:Int))=some (.str n):=by
 have d:=Int.emod_nonneg v (show(l.length:Int)≠0 by lia)
 have e:=Int.emod_lt_of_pos v (show(0:Int)<(l.length:Int) by lia)
 obtain⟨j,b⟩:∃j:Nat,(j:Int)=v%(l.length:Int):=⟨(v%(l.length:Int)).toNat,by lia⟩
 have a:j<l.length:=by lia
 refine⟨l[j],List.getElem_mem a,?_⟩;rw[<-b];exact Mir.EY (by rw[zao,zaC a];rfl)
variable{c:Nat}{ag S0:List Str}{K0:Str->aw.Row}
theorem KL{l:List Str}{i:Nat}(h:l[i]?=some x):gIx (.tuple<|l.map .str) (.int (i:Int))=some (.str x,false):=by
 show(L2.atI (l.map PyData.str) (i:Int)).map _=_;rw[Mir.kF,zao,h];rfl
theorem o4(h:n∈S0):cP (.str n) (HD S0 K0)=some (.bool false,false):=by rw[qz,zaH h];rfl
theorem BH(h:aF a x b y=true):aF b y a x=false:=by
 cases e:aF b y a x with
 |false=>rfl
 |true=>have:=cH h e;rw[gy]at this;cases this
theorem G2(f:Fm S0 K0)(hn:n∈S0){i:Nat}(I:(K0 n).below[i]?=some l):(i:Int)-(if(K0 l).mark then 1 else 0)<=((K0 l).below.length:Int):=by
 have dg:=f.dg n hn i l I;unfold b1 at dg;split at dg<;>simp_all<;>lia
theorem G3(h:Bk c ag S0 K0)(f:Fm S0 K0)(hn:n∈S0){i:Nat}(I:(K0 n).below[i]?=some l):fP [HD S0 K0,.str n,.int (i:Int)]=some (.bool true,false):=by
 obtain⟨k,a⟩:=f.up n hn l (zaj I);have o:mOp gIx (mOp gIx (mOp a7 (aa 0)<|aa 1)<|mC<|.int 3) (aa 2) [.fz<|HD S0 K0,.fz<|.str n,.fz<|.int (i:Int),.no,.no]=some ((.str l,.fz),[.fz<|HD S0 K0,.fz<|.str n,.fz<|.int (i:Int),.no,.no]):=aL (ah<|dq<|a8 (.inl rfl) hn<|ai rfl) (ah<|ai rfl) (KL I);have t1:BE (mOp cP (aa 3)<|aa 0) [.fz<|HD S0 K0,.fz<|.str n,.fz<|.int (i:Int),.fz<|.str l,.no] false:=aL (ah<|ai rfl) (ah<|ai rfl) (o4 k);have m:mOp a7 (aa 0) (aa 3) [.fz<|HD S0 K0,.fz<|.str n,.fz<|.int (i:Int),.fz<|.str l,.no]=some ((bc<|K0 l,.fz),[.fz<|HD S0 K0,.fz<|.str n,.fz<|.int (i:Int),.fz<|.str l,.no]):=a8 (.inl rfl) k (ai rfl);have j:∀{s:Sl},mOp a7 (aa 0) (aa 3) [.fz<|HD S0 K0,.fz<|.str n,.fz<|.int (i:Int),.fz<|.str l,s]=some ((bc<|K0 l,.fz),[.fz<|HD S0 K0,.fz<|.str n,.fz<|.int (i:Int),.fz<|.str l,s]):=fun{s}=>a8 (.inl rfl) k (ai rfl)
 have t2:BE (mOp gNe (mOp gIx (mOp a7 (aa 0)<|aa 3)<|mC<|.int 1)<|aa 1) [.fz<|HD S0 K0,.fz<|.str n,.fz<|.int (i:Int),.fz<|.str l,.no] false:=aL (Y0:=(.bool false,false)) (ah<|bx m) (ah<|ai rfl) ((sW (λz e=>h.ok<|h.ab l k z e)<|h.ok hn).trans (by rw[a];simp))
 have d:=test_ev (k:=.fz) (gx m);have p:IE (wB (ax<|mOp gIx (mOp a7 (aa 0)<|aa 3)<|mC<|.int 2) (mOp lh (aa 2)<|mC<|.int 1)<|aa 2) [.fz<|HD S0 K0,.fz<|.str n,.fz<|.int (i:Int),.fz<|.str l,.no] ((i:Int)-(if(K0 l).mark then 1 else 0)):=by
  cases q:(K0 l).mark with
  |true=>rw[q]at d;exact PR d (jQ (a6 rfl) bC)
  |false=>rw[q]at d;exact PU d ((a6 rfl:IE (aa 2) _ (i:Int)).is (by simp))
 exact cf rfl (az (bz o rfl)<|az (eN (gZ (b7 t1 rfl)<|b7 t2 rfl) rfl)<|az (Nt p rfl)<|bH<|(EW (dM j)<|a6 rfl).is<|zaH<|G2 f hn I) rfl
theorem Dq{l:List Str}(nd:l.Nodup)(h:n∈l):fL (.tuple<|l.map .str) [.str n]=some (.int 1,false):=by
 show(if dJ (.str n)=true/\(l.map PyData.str).all dJ=true then _ else none)=_
 rw[if_pos ⟨rfl,tK l⟩];have:(l.map PyData.str).countP (λc=>PyData.eqv c<|.str n)=1:=by
  rw[List.countP_map,<-aw.nh nd h,List.count];refine List.countP_congr λy _=>?_
  simp[PyData.eqv]
 rw[this];rfl
theorem tN:∀l:List Bool,boolsOf (l.map .bool)=some l
 | []=>rfl
 |b::l=>by
  show(boolsOf<|l.map .bool).map (b::·)=_
  rw[tN l];rfl
theorem tO{α:Type}(l:List α):wK [.list<|l.map λ_=>PyData.bool true]=some (.bool true,false):=by
 show(boolsOf<|l.map λ_=>PyData.bool true).map _=_
 rw[show(l.map λ_=>PyData.bool true)=(l.map λ_=>true).map .bool by rw[List.map_map];rfl,tN]
 show some (PyData.bool<|(l.map λ_=>true).all id,false)=_
 rw[List.all_map];simp
theorem nY(hn:n∈S0):aO [HD S0 K0,.str n]=some (.tuple [.int (K0 n).key,.str n],false) :=
 cf rfl (bH<|bR (cG (eG<|a8 (.inl rfl) hn<|ai rfl)<|ao (ah<|ai rfl) aG) rfl (by simp)) rfl
theorem KN(l:c<=600)(h:Bk c ag S0 K0)(f:Fm S0 K0)(hn:n∈S0):eD [HD S0 K0,.str n]=some (.bool true,false):=by
 have hb:=(h.bl n hn).1;have o:=a8 (i:=0) (L:=[.fz<|HD S0 K0,.fz<|.str n,.no]) (b:=aa 1) (.inl rfl) hn (ai rfl);have ea:∃x,x=(K0 n).above:=⟨_,rfl⟩;obtain⟨x,ex⟩:=ea;have d:=bx o;rw[<-ex]at d;have r1:mOp a7 (aa 0) (aa 1) [.fz<|HD S0 K0,.fz<|.str n,.fz<|aM x]=some ((bc<|K0 n,.fz),[.fz<|HD S0 K0,.fz<|.str n,.fz<|aM x]):=a8 (.inl rfl) hn (ai rfl);have all:cw (mCB wK<|af (mLC [("held",0),("name",1)] (lz<|af (mCB bV<|af (mOp gIx (mOp a7 (aa 0)<|aa 1)<|mC<|.int 3) ar) ar) uu iG) ar) [.fz<|HD S0 K0,.fz<|.str n,.fz<|aM x]=some (.rt (.bool true,.fz) [.fz<|HD S0 K0,.fz<|.str n,.fz<|aM x]) :=
  bH (dY (ao (eA (pL (kc (dM r1) (by lia)) (Mir.iu _ λi hi=>by
   have e:(K0 n).below[i]?=some ((K0 n).below[i]'(List.mem_range.mp hi)):=zaC _;exact⟨_,ah<|e8 rfl<|G3 h f hn e⟩) (by rw[zal,List.length_range];lia))) aG)<|tO _)
 have j:BE (mOp gIs (aa 2)<|mC .none) [.fz<|HD S0 K0,.fz<|.str n,.fz<|aM x] x.isNone:=aL (ah<|ai rfl) (ah rfl) (gz _);have hd:cL (ax<|mOp gIs (aa 2)<|mC .none) (cL (ax<|mOp gIx (mOp a7 (aa 0)<|aa 1)<|mC<|.int 2) (cw<|mC<|.bool false) cD) (cL (mOr (ax<|mOp cP (aa 2)<|aa 0)<|mOr (ax<|mOp gNe (mBM fL (mOp gIx (mOp a7 (aa 0)<|aa 2)<|mC<|.int 3)<|af (aa 1) ar)<|mC<|.int 1)<|ax<|mOp pX (aQ aO<|af (aa 0)<|af (aa 1) ar)<|aQ aO<|af (aa 0)<|af (aa 2) ar) (cw<|mC<|.bool false) cD) [.fz<|HD S0 K0,.fz<|.str n,.fz<|aM x]=some (.nx [.fz<|HD S0 K0,.fz<|.str n,.fz<|aM x]):=by
  cases x with
  |none=>
   have em:(K0 n).mark=false:=by
    cases e:(K0 n).mark with
    |false=>rfl
    |true=>exact absurd ex.symm (h.mkd n hn e)
   have m:=test_ev (k:=.fz) (gx r1);rw[em]at m;exact mM (b7 j rfl) (eN m rfl)
  |some a=>
   have k:=h.ab n hn a ex.symm;have t1:BE (mOp cP (aa 2)<|aa 0) [.fz<|HD S0 K0,.fz<|.str n,.fz<|aM<|some a] false:=aL (ah<|ai rfl) (ah<|ai rfl) (o4 k);have p:mOp a7 (aa 0) (aa 2) [.fz<|HD S0 K0,.fz<|.str n,.fz<|aM<|some a]=some ((bc<|K0 a,.fz),[.fz<|HD S0 K0,.fz<|.str n,.fz<|aM<|some a]):=a8 (.inl rfl) k (ai rfl);have ct:IE (mBM fL (mOp gIx (mOp a7 (aa 0)<|aa 2)<|mC<|.int 3)<|af (aa 1) ar) [.fz<|HD S0 K0,.fz<|.str n,.fz<|aM<|some a] 1:=by
    unfold IE mBM;rw[ah<|dq p,zai];dsimp only
    show(fL (.tuple<|(K0 a).below.map .str) [.str n]).bind (λ_=>(fL (.tuple<|(K0 a).below.map .str) [.str n]).map _)=_
    rw[Dq (f.nd a k)<|f.dn n hn a ex.symm];rfl
   have q:BE (mOp pX (aQ aO<|af (aa 0)<|af (aa 1) ar)<|aQ aO<|af (aa 0)<|af (aa 2) ar) [.fz<|HD S0 K0,.fz<|.str n,.fz<|aM<|some a] (aF (K0 n).key n (K0 a).key a):=aL (Y0:=(.bool<|aF (K0 n).key n (K0 a).key a,false)) (ah<|aZ (rs:=[(HD S0 K0,.fz),(.str n,.fz)]) rfl (nY hn) rfl) (ah<|aZ (rs:=[(HD S0 K0,.fz),(.str a,.fz)]) rfl (nY k) rfl) rfl;exact eN (b7 j rfl) (eN (gZ (b7 t1 rfl)<|gZ (b7 (EU ct<|bC) rfl)<|b7 q<|BH<|h.ho n hn a ex.symm) rfl)
 exact cf rfl (az (bz d rfl)<|az hd all) rfl
theorem qG(h:Bt K c ag S0 K0):∀(k:Nat) (n:Str),n∈S0->rank K S0 n<k->aw.nR S0 K0 k (some n)=none
 |0,_,_,hk=>by lia
 |k+1,n,hn,hk=>by
  have er:aw.nR S0 K0 (k+1) (some n)=aw.nR S0 K0 k (K0 n).above:=by show(if n∈S0 then _ else _)=_;rw[if_pos hn]
  rw[er];cases e:(K0 n).above with
  |none=>exact aw.zS S0 K0 k
  |some a=>exact qG h k a (h.ab n hn a e) (by have:=oX h hn e;lia)
theorem BI(hn:n∈S0):rank K S0 n<S0.length:=by
 have:=nj (p:=λm=>aF (K m) m (K n) n) S0 (λ_ _ _=>rfl) ⟨n,hn,gy,rfl⟩
 rw[List.countP_true]at this;exact this
theorem KO{g:D->Rho->Option Rho}{ds:List D}{L l I:Rho}(M:g d L=some l)(O:b l=some (.bk I)):forL g b (d::ds) L=some (.nx I):=by
 show(g d L).bind _=_;rw[M,zai,O];rfl
theorem qH(nm:D):∀(l:List Nat) (x:Option Str) (M:Sl),NIo M->(∀n,x=some n->n∈S0)->(∀n∈S0,∀a,(K0 n).above=some a->a∈S0)->∃I,forL (mgN 3) iH (l.map λk:Nat=>PyData.int (k:Int)) [.fz<|HD S0 K0,.fz nm,.fz<|aM x,M]=some (.nx [.fz<|HD S0 K0,.fz nm,.fz<|aM<|aw.nR S0 K0 l.length x,I])
 | [],x,M,_,_,_=>⟨M,rfl⟩
 |k::l,x,M,n3,m,ab=>by
  rw[zaz,zaw];have d:mgN 3 (.int (k:Int)) [.fz<|HD S0 K0,.fz nm,.fz<|aM x,M]=some [.fz<|HD S0 K0,.fz nm,.fz<|aM x,.fz<|.int (k:Int)]:=cC rfl n3;have t1:ax (mOp gIs (aa 2)<|mC .none) [.fz<|HD S0 K0,.fz nm,.fz<|aM x,.fz<|.int (k:Int)]=some (x.isNone,[.fz<|HD S0 K0,.fz nm,.fz<|aM x,.fz<|.int (k:Int)]):=test_ev (k:=.fz) (aL (ah<|ai rfl) (ah rfl)<|gz _);cases x with
  |none=>exact⟨_,KO d<|Nu<|mM (Cv t1) rfl⟩
  |some n=>
   have h:=m n rfl;have f:BE (mOp cP (aa 2)<|aa 0) [.fz<|HD S0 K0,.fz nm,.fz<|.str n,.fz<|.int (k:Int)] false:=aL (ah<|ai rfl) (ah<|ai rfl) (o4 h);have er:aw.nR S0 K0 (l.length+1) (some n)=aw.nR S0 K0 l.length (K0 n).above:=by show(if n∈S0 then _ else _)=_;rw[if_pos h]
   rw[er];have p:=bx (a8 (i:=0) (L:=[.fz<|HD S0 K0,.fz nm,.fz<|.str n,.fz<|.int (k:Int)]) (b:=aa 2) (.inl rfl) h<|ai rfl);obtain⟨I,j⟩:=qH nm l (K0 n).above (.fz<|.int (k:Int)) (NIo.fz _) (λa e=>ab n h a e) ab
   exact⟨I,cg d (az (eN (gZ t1<|b7 f rfl) rfl)<|bz p rfl) j⟩
theorem G4(l:c<=600)(h:Bk c ag S0 K0)(hn:n∈S0):eE [HD S0 K0,.str n]=some (.bool true,false):=by
 have kl:=h.kl;obtain⟨a,b⟩:=qH (.str n) (List.range S0.length) (some n) .no NIo.no (λm e=>by cases e;exact hn) h.ab
 rw[List.length_range,qG h _ n hn<|BI hn]at b;refine cf (o:=.rt (.bool true,.fz) [.fz<|HD S0 K0,.fz<|.str n,.fz .none,a]) rfl ?_ rfl;refine az (bz (ai rfl) rfl) ?_;exact az (iV (kc (kK<|.inl rfl) (by lia)) b) (bH<|aL (Y0:=(.bool true,false)) (ah<|ai rfl) (ah rfl) rfl)
def BJ(S0:List Str)(K0:Str->aw.Row):List Str:=S0.filter λn=>(K0 n).above.isNone
theorem Dr(h:Bk c ag S0 K0):ag.Perm (BJ S0 K0):=aw.nQ h.tn (h.nd.filter _) λx=>by
 unfold BJ;rw[List.mem_filter];exact⟨λa=>⟨(h.tk x a).1,by rw[(h.tk x a).2];rfl⟩,λa=>h.ne x a.1 (by simpa using a.2)⟩
theorem tP(h:l.length<=127)(ha:sv a L=some ((TD l,.fz),L)):mCB gu (af a ar) L=some ((TD<|gr l,.new),L):=dY (Y0:=(TD<|gr l,true)) (ao ha aG) (by
 show(jt<|l.map .str).bind _=_;rw[fY,zai,aX h])
theorem KP(ha:∀x∈a,PyData.strOk x=true):gNe (TD a) (TD a)=some (.bool false,false):=by
 unfold gNe;rw[if_pos ⟨f9 ha,f9 ha⟩];show some (PyData.bool<|!PyData.eqvAll (a.map .str) (a.map .str),false)=_;rw[nV];simp
theorem KQ(l:c<=120)(h:Bk c ag S0 K0)(f:Fm S0 K0):cZ [PD ag S0 K0]=some (.bool true,false):=by
 have kl:=h.kl;have tl:=h.tl;have pm:=Dr h;have pl:=pm.length_eq;generalize a:([.fz<|PD ag S0 K0,.fz<|TD ag,.fz<|HD S0 K0]:Rho)=L;have g1 : L[1]?=some (.fz<|TD ag):=by rw[<-a];rfl
 have e : L[2]?=some (.fz<|HD S0 K0):=by rw[<-a];rfl
 have nr:jV L=true:=by rw[<-a];rfl
 have d:gq 2 L=some ((HD S0 K0,.fz),L):=by unfold gq;rw[e]
 have b:([("held",2)]:List<|Str×Nat).map (λp=>bG L p.2)=[.fz<|HD S0 K0]:=by rw[<-a];rfl
 have f1:xh [("held",2)] (gq 2) eS eU L=some ((TD<|BJ S0 K0,.new),L):=by
  refine GI d nr ?_ (by rw[zal];show(BJ S0 K0).length<=_;lia)
  rw[b];exact dw S0 (λn hn=>⟨_,test_ev (k:=.fz)<|aL (ah<|bx<|a8 (.inl rfl) hn<|ai rfl) (ah rfl)<|gz _⟩) λn hn=>⟨_,ah<|ai rfl⟩
 have t1:BE (mOp gNe (mCB gu<|af (aa 1) ar)<|mCB gu<|af (xh [("held",2)] (gq 2) eS eU) ar) L false :=
  aL (Y0:=(.bool false,false)) (eA<|tP (by lia)<|ah<|ai g1) (eA<|tP (by lia)<|eA f1) (by rw[C1.mpr pm];exact KP λx i=>h.ok (List.mem_filter.mp<|(eQ _).mem_iff.mp i).1)
 have f2:mCB wK (af (xh [("held",2)] (gq 2) uu iI) ar) L=some ((.bool true,.fz),L):=by
  refine dY (rs:=[(.list<|S0.map λ_=>PyData.bool true,.fz)]) (ao (eA<|GI d nr ?_ (by rw[zal];lia)) aG) (tO _)
  rw[b];refine Mir.iu S0 λn hn=>⟨[.fz<|.str n,.fz<|HD S0 K0],ah ?_⟩
  exact EX (e8 rfl<|KN (by lia) h f hn) (λ_=>e8 rfl<|G4 (by lia) h hn) (λz=>by cases z)
 refine cf rfl (az (bz (aL (Y0:=(TD ag,false)) (ah<|ai rfl) (ah rfl) rfl) rfl)<|az ?_ (az (eN (b7 t1 rfl) rfl)<|bH f2)) rfl;rw[<-a];exact bz (aL (Y0:=(HD S0 K0,false)) (ah<|ai rfl) (ah rfl) rfl) rfl
theorem G5(x:Str)(l:List Str):inD (.str x) (l.map .str)=decide (x∈l):=by
 unfold inD;rw[List.any_map]
 induction l with
 |nil=>simp
 |cons y l b=>
  rw[List.any_cons,b];show(PyData.eqv (.str y) (.str x)||_)=_
  rw[Bx]
  by_cases e:y=x
  .subst e;simp
  .have a : ¬x=y:=λz=>e z.symm
   simp[e,a]
theorem KR(x:Str)(l:List Str):CO (.str x) (TD l)=some (.bool<|decide<|x∈l,false):=by
 show(if dJ (.str x)=true/\(l.map PyData.str).all dJ=true then _ else none)=_
 rw[if_pos ⟨rfl,tK l⟩,G5]
theorem G6(h:Bk c ag S0 K0)(f:Fm S0 K0)(hn:n∈S0){i:Nat}(I:(K0 n).below[i]?=some l):cQ [HD S0 K0,.str n,.int (i:Int),.str l]=some (.bool true,false):=by
 obtain⟨k,a⟩:=f.up n hn l (zaj I);obtain⟨L,b⟩:∃L:Rho,L=[.fz<|HD S0 K0,.fz<|.str n,.fz<|.int (i:Int),.fz<|.str l]:=⟨_,rfl⟩;have g0 : L[0]?=some (.fz<|HD S0 K0):=by rw[b];rfl
 have g1 : L[1]?=some (.fz<|.str n):=by rw[b];rfl
 have p : L[2]?=some (.fz<|.int (i:Int)):=by rw[b];rfl
 have j : L[3]?=some (.fz<|.str l):=by rw[b];rfl
 have d:=a8 (.inl g0) k (ai j);have q:=a8 (.inl g0) hn (ai g1);have t1:=aL (ah<|ai j) (ah<|ai g0) (o4 k);have t2:=aL (Y0:=(.bool false,false)) (ah<|bx d) (ah<|ai g1) ((sW (λz e=>h.ok<|h.ab l k z e)<|h.ok hn).trans (by rw[a];simp))
 have r:BE (mOp pX (cW<|af (mOp gIx (mOp a7 (aa 0)<|aa 3)<|mC<|.int 0)<|af (aa 3) ar)<|cW<|af (mOp gIx (mOp a7 (aa 0)<|aa 1)<|mC<|.int 0)<|af (aa 1) ar) L (aF (K0 l).key l (K0 n).key n):=aL (Y0:=(.bool<|aF (K0 l).key l (K0 n).key n,false)) (ah<|bR (cG (eG d)<|ao (ah<|ai j) aG) rfl (by simp)) (ah<|bR (cG (eG q)<|ao (ah<|ai g1) aG) rfl (by simp)) rfl
 have m:IE (mCB EF<|af (mOp gIx (mOp a7 (aa 0)<|aa 3)<|mC<|.int 2) ar) L (if(K0 l).mark then 1 else 0):=dY (Y0:=(.int<|if(K0 l).mark then 1 else 0,false)) (ao (ah<|gx d) aG) rfl
 refine cf (o:=.rt (.bool true,.fz) L) rfl ?_ rfl;show gQ [.fz<|HD S0 K0,.fz<|.str n,.fz<|.int (i:Int),.fz<|.str l]=_;rw[<-b];exact az (eN (gZ (b7 t1 rfl)<|gZ (b7 t2 rfl)<|b7 r<|BH<|h.ho l k n a) rfl) (bH<|(EW (dM d)<|jQ (a6 p) m).is<|zaH<|G2 f hn I)
def NF(s:Sl):Prop:=s=.no\/∃d,s=.fz d
theorem NF.nio(h:NF s):NIo s:=by rcases h with rfl|⟨d,rfl⟩;exact NIo.no;exact NIo.fz d
theorem NF.fz(d:D):NF (.fz d):=.inr ⟨d,rfl⟩
abbrev fi(ag S0:List Str)(K0:Str->aw.Row)(hung:List Str)(M O s6 U:Sl):Rho:=[.fz<|PD ag S0 K0,.fz<|TD ag,.fz<|HD S0 K0,.own<|TD hung,M,O,s6,U]
theorem BK(h:Bk c ag S0 K0)(f:Fm S0 K0)(hn:n∈S0):∀(l:List Str) (i:Nat) (hung:List Str) (O U:Sl),NF O->NF U->(∀j x,l[j]?=some x->(K0 n).below[i+j]?=some x)->hung.length+l.length<=100000->∃I M,forL (mgU 2<|aR (mgN 6)<|aR (mgN 7) dA) jz ((l.zipIdx i).map λp:Str×Nat=>PyData.tuple [.int (p.2:Int),.str p.1]) (fi ag S0 K0 hung (.fz<|.str n) (.fz<|bc<|K0 n) O U)=some (.nx<|fi ag S0 K0 (hung++l) (.fz<|.str n) (.fz<|bc<|K0 n) I M)/\NF I/\NF M
 | [],i,hung,O,U,a,m,_,_=>⟨O,U,by rw[zaR];rfl,a,m⟩
 |x::l,i,hung,O,U,a,m,q,r=>by
  rw[zaw]at r;obtain⟨I,M,e,b,o⟩:=BK h f hn l (i+1) (hung++[x]) (.fz<|.int (i:Int)) (.fz<|.str x) (NF.fz _) (NF.fz _) (λj y s=>by have:=q (j+1) y (by simpa using s);rw[show i+1+j=i+(j+1) by lia];exact this) (by rw[zau,za7];lia)
  rw[zaD,List.singleton_append]at e;refine⟨I,M,?_,b,o⟩;refine cg (ρ1:=fi ag S0 K0 hung (.fz<|.str n) (.fz<|bc<|K0 n) (.fz<|.int (i:Int))<|.fz<|.str x) ?_ ?_ e
  .rcases a with rfl|⟨d,rfl⟩<;>rcases m with rfl|⟨t,rfl⟩<;>rfl
  .exact az (eN (mN (v:=true)<|test_ev (k:=.fz)<|e8 rfl<|G6 h f hn<|q 0 x rfl) rfl) (eZ<|lB rfl rfl rfl rfl (ni _ (by rw[zal];lia)) (by rw[iN];rfl))
def hung(K0:Str->aw.Row)(l:List Str):List Str:=l.flatMap λn=>(K0 n).below
def qI:x∈hung K0 l↔∃n∈l,x∈(K0 n).below:=List.mem_flatMap
theorem vF(f:Fm S0 K0):∀l:List Str,l.Nodup->(∀x∈l,x∈S0)->(hung K0 l).Nodup
 | [],_,_=>List.nodup_nil
 |n::l,nd,hk=>by
  have a:=List.nodup_cons.mp nd;show((K0 n).below++hung K0 l).Nodup;rw[List.nodup_append];refine⟨f.nd n<|hk n zas,vF f l a.2 λx b=>hk x<|zak _ b,λx b y d e=>?_⟩
  subst e;obtain⟨m,hm,d⟩:=qI.mp d;have h:=(f.up n (hk n zas) x b).2;rw[(f.up m (hk m<|zak _ hm) x d).2]at h;cases h;exact a.1 hm
theorem G7(h:Bk c ag S0 K0)(f:Fm S0 K0):(hung K0 S0).length+ag.length=S0.length:=by
 rw[<-zau];refine(aw.nQ ?_ h.nd λx=>?_).length_eq
 .rw[List.nodup_append]
  refine⟨vF f S0 h.nd λ_ b=>b,h.tn,λx b y d e=>?_⟩
  subst e;obtain⟨m,hm,b⟩:=qI.mp b;have:=(f.up m hm x b).2;rw[(h.tk x d).2]at this;cases this
 .rw[List.mem_append,qI]
  refine⟨λb=>?_,λb=>?_⟩
  .rcases b with⟨m,hm,b⟩|b
   .exact(f.up m hm x b).1
   .exact(h.tk x b).1
  .cases e:(K0 x).above with
   |none=>exact .inr (h.ne x b e)
   |some a=>exact .inl ⟨a,h.ab x b a e,f.dn x b a e⟩
theorem Ds(l:List Str):ju (l.map .str)=(l.zipIdx).map λp:Str×Nat=>PyData.tuple [.int (p.2:Int),.str p.1]:=by
 unfold ju;refine List.ext_getElem? λi=>?_
 rw[List.getElem?_mapIdx,zao,zao,List.getElem?_zipIdx];cases l[i]? <;>simp
theorem yt(h:Bk c ag S0 K0)(f:Fm S0 K0):∀(l:List Str) (I:List Str) (s4 s5 U s7:Sl),NF s4->NF s5->NF U->NF s7->(∀x∈l,x∈S0)->I.length+(hung K0 l).length<=100000->∃M O Y s7',forL (mgU 2<|aR (mgN 4)<|aR (mgN 5) dA) jA (l.map λn=>PyData.tuple [.str n,bc<|K0 n]) (fi ag S0 K0 I s4 s5 U s7)=some (.nx<|fi ag S0 K0 (I++hung K0 l) M O Y s7')/\NF M/\NF O/\NF Y/\NF s7'
 | [],I,s4,s5,U,s7,h4,m,o,q,_,_=>⟨s4,s5,U,s7,by show _=some (Out.nx<|fi ag S0 K0 (I++[]) s4 s5 U s7);rw[zaR];rfl,h4,m,o,q⟩
 |n::l,I,s4,s5,U,s7,h4,m,o,q,hk,B=>by
  have hn:=hk n zas;have v:hung K0 (n::l)=(K0 n).below++hung K0 l:=rfl;rw[v,zau]at B;obtain⟨C,D,w,p,s⟩:=BK h f hn (K0 n).below 0 I U s7 o q (λj x t=>by rw[Nat.zero_add];exact t) (by lia)
  obtain⟨M,O,Y,s7',e,r⟩:=yt h f l (I++(K0 n).below) (.fz<|.str n) (.fz<|bc<|K0 n) C D (NF.fz _) (NF.fz _) p s (λx t=>hk x<|zak _ t) (by rw[zau];lia)
  rw[zaD,<-v]at e;refine⟨M,O,Y,s7',?_,r⟩;refine cg (ρ1:=fi ag S0 K0 I (.fz<|.str n) (.fz<|bc<|K0 n) U s7) (by rcases h4 with rfl|⟨d,rfl⟩<;>rcases m with rfl|⟨E,rfl⟩<;>rfl) ?_ e
  obtain⟨L,b⟩:∃L,L=fi ag S0 K0 I (.fz<|.str n) (.fz<|bc<|K0 n) U s7:=⟨_,rfl⟩;rw[<-b];have g1 : L[1]?=some (.fz<|TD ag):=by rw[b];rfl
  have A : L[4]?=some (.fz<|.str n):=by rw[b];rfl
  have i : L[5]?=some (.fz<|bc<|K0 n):=by rw[b];rfl
  have u:BE (mOp gIs (mOp gIx (aa 5)<|mC<|.int 1)<|mC .none) L (K0 n).above.isNone:=aL (ah<|bx<|ai i) (ah rfl) (gz _);have tn:BE (mOp CO (aa 4)<|aa 1) L (K0 n).above.isNone:=aL (Y0:=(.bool (K0 n).above.isNone,false)) (ah<|ai A) (ah<|ai g1) (by
   rw[KR];cases e:(K0 n).above with
   |none=>rw[zaH<|h.ne n hn e];rfl
   |some a=>rw[zaO λz=>by have:=(h.tk n z).2;rw[e]at this;cases this];rfl)
  have t1:BE (mOp gNe (mOp gIs (mOp gIx (aa 5)<|mC<|.int 1)<|mC .none)<|mOp CO (aa 4)<|aa 1) L false:=aL (Y0:=(.bool false,false)) (ah u) (ah tn) (by rw[wL];simp)
  have t2:jO (ax<|mOp gIs (mOp gIx (aa 5)<|mC<|.int 1)<|mC .none) (ax<|mOp gIx (aa 5)<|mC<|.int 2) L=some (false,L):=by
   cases e:(K0 n).above with
   |none=>
    have em:(K0 n).mark=false:=by
     cases y:(K0 n).mark with
     |false=>rfl
     |true=>exact absurd e (h.mkd n hn y)
    exact sA (b7 u (by rw[e];rfl)) (test_ev (k:=.fz) (by rw[gx<|ai i,em]))
   |some a=>exact AV (b7 u (by rw[e];rfl))
  refine az (eN (gZ (b7 t1 rfl) t2) rfl) (iV (ρ1:=L) ?_ (by rw[b];exact w))
  unfold Gk;rw[ao (ah<|dq<|ai i) aG,<-Ds];rfl
theorem Dt(l:c<=120)(h:Bk c ag S0 K0)(f:Fm S0 K0):fg [PD ag S0 K0]=some (.bool true,false):=by
 have kl:=h.kl;have x:=G7 h f;obtain⟨s,t,u,w,e,h4,p,q,r⟩:=yt h f S0 [] .no .no .no .no (.inl rfl) (.inl rfl) (.inl rfl) (.inl rfl) (λ_ b=>b) (by rw[List.length_nil];lia)
 rw[List.nil_append]at e;obtain⟨L,a⟩:∃L,L=fi ag S0 K0 (hung K0 S0) s t u w:=⟨_,rfl⟩;rw[<-a]at e;have g1 : L[1]?=some (.fz<|TD ag):=by rw[a];rfl
 have o : L[2]?=some (.fz<|HD S0 K0):=by rw[a];rfl
 have i : L[3]?=some (.own<|TD<|hung K0 S0):=by rw[a];rfl
 have nr:jV L=true:=by rw[a];rcases h4 with rfl|⟨d,rfl⟩<;>rcases p with rfl|⟨m,rfl⟩<;>rcases q with rfl|⟨d,rfl⟩<;>rcases r with rfl|⟨m,rfl⟩<;>rfl
 have lt:IE (mCB Bp<|af (aa 3) ar) L ((hung K0 S0).length:Int):=sV (Y0:=(.int ((hung K0 S0).length:Int),false)) (.inr<|.inl i) (by
  show(jt<|(hung K0 S0).map .str).bind _=_;rw[fY,zai,aX (by lia),J4 _<|vF f S0 h.nd λ_ b=>b])
 have j:=me (.inr<|.inl i);refine cf rfl (az (kL (ai rfl) rfl)<|az (ρ1:=fi ag S0 K0 [] .no .no .no .no) (cN (eO rfl rfl (by simp)) rfl)<|az ?_ (bH<|EX ((sC lt j).is<|zaH rfl) (λ_=>(sC (g6 j<|me<|.inl g1)<|kK<|.inl o).is<|zaH (by lia)) λz=>by cases z)) rfl
 unfold xk;rw[show gq 2 (fi ag S0 K0 [] .no .no .no .no)=some ((HD S0 K0,.fz),fi ag S0 K0 [] .no .no .no .no)from rfl,zai];dsimp only[lY,Option.bind_some];rw[if_pos<|show jV (fi ag S0 K0 [] .no .no .no .no)=true from rfl,show g7 (bA S0 K0)=S0.map λn=>PyData.tuple [.str n,bc<|K0 n] by unfold g7 bA;rw[List.map_map];rfl,e,zai,if_pos<|show jV (FD<|Out.nx L)=true from nr]
def wl(K0:Str->aw.Row):Nat->Option Str->(Str->Int)->Str->Int
 |0,_,g=>g
 |_+1,none,g=>g
 |k+1,some n,g=>wl K0 k (K0 n).above (fX g n<|g n+1)
theorem KS(k:Nat)(g:Str->Int):wl K0 k none g=g:=by cases k<;>rfl
theorem G8:∀(k:Nat) (x:Option Str) (g:Str->Int) (m:Str),g m<=wl K0 k x g m
 |0,_,_,_=>Int.le_refl _
 |k+1,none,g,m=>Int.le_refl _
 |k+1,some n,g,m=>by
  refine Int.le_trans ?_ (G8 k (K0 n).above (fX g n<|g n+1) m);unfold fX;split
  .rename_i e;subst e;lia
  .exact Int.le_refl _
theorem LI(h:Bt K c ag S0 K0):∀(k:Nat) (n m:Str) (g:Str->Int),Up K0 n m->n∈S0->rank K S0 n<k->g m+1<=wl K0 k (some n) g m
 |0,_,_,_,_,_,hk=>by lia
 |k+1,n,m,g,u,hn,hk=>by
  show _<=wl K0 k (K0 n).above (fX g n<|g n+1) m
  by_cases e:m=n
  .refine Int.le_trans ?_ (G8 k (K0 n).above (fX g n<|g n+1) m)
   unfold fX;rw[if_pos e,e];exact Int.le_refl _
  .cases u with
   |refl=>exact absurd rfl e
   |step ea u=>
    rw[ea];have:=LI h k _ m (fX g n<|g n+1) u (h.ab n hn _ ea) (by have:=oX h hn ea;lia)
    rw[show fX g n (g n+1) m=g m from if_neg e]at this;exact this
def wls(K0:Str->aw.Row)(k:Nat):List Str->(Str->Int)->Str->Int
 | [],g=>g
 |n::l,g=>wls K0 k l (wl K0 k (some n) g)
theorem G9(h:Bk c ag S0 K0):∀(l:List Str) (g:Str->Int) (m:Str),(∀x∈l,x∈S0)->g m+((cm l K0 m).length:Int)<=wls K0 S0.length l g m
 | [],g,m,_=>by show g m+((0:Nat):Int)<=g m;lia
 |n::l,g,m,hk=>by
  have hn:=hk n zas;have a:=G9 h l (wl K0 S0.length (some n) g) m λx b=>hk x (zak _ b)
  show _<=wls K0 S0.length l (wl K0 S0.length (some n) g) m;have d:=G8 (K0:=K0) S0.length (some n) g m;unfold cm
  by_cases u:Up K0 n m
  .rw[List.filter_cons_of_pos (by simpa using u),zaw]
   have e:=LI h S0.length n m g u hn (BI hn);unfold cm at a
   lia
  .rw[List.filter_cons_of_neg (by simpa using u)]
   unfold cm at a
   lia
variable{g:Str->Int}
theorem KU{a b:PM}{v:Int}{n:Str}(ha:IE a L v)(hb:b L=some ((.str n,.fz),L))(h : L[i]?=some (.own<|PL S0 g))(hn:n∈S0)(l:S0.length<=1000):eC i a b L=some (.nx<|L.set i<|.own<|PL S0<|fX g n v):=by
 have d:(plL S0 g).length<100000:=by rw[G0];lia
 unfold eC;rw[ah ha,zai];dsimp only[gK,Option.bind_some]
 rw[h,show uG (some<|Sl.own<|PL S0 g)=some (plL S0 g)from rfl,zai,ah hb,zai];dsimp only[keyOf,Option.bind_some]
 rw[h,show uG (some<|Sl.own<|PL S0 g)=some (plL S0 g)from rfl,zai,aX d,Af _ _ _ _ hn];unfold Mir.putAt;rw[h];rfl
theorem Ha{b:PM}{n:Str}(hb:b L=some ((.str n,.fz),L))(h : L[i]?=some (.own<|PL S0 g))(hn:n∈S0):IE (mOp a7 (aa i) b) L (g n):=nU (Y0:=(.int<|g n,false)) (.inr<|.inl h) (ah hb) (by
 show(cO (plL S0 g)<|.inr n).map _=_;rw[o3,if_pos hn];rfl)
abbrev fM(S0:List Str)(K0:Str->aw.Row)(M:List Str)(g:Str->Int)(s2 O U:Sl):Rho:=[.fz<|HD S0 K0,.own<|PL M g,s2,O,U]
theorem vG(U:S0.length<=1000)(ab:∀n∈S0,∀a,(K0 n).above=some a->a∈S0)(nm:Sl):∀(l:List Nat) (x:Option Str) (g:Str->Int) (M:Sl),NF M->(∀n,x=some n->n∈S0)->∃O I,forL (mgN 4) jv (l.map λk:Nat=>PyData.int (k:Int)) (fM S0 K0 S0 g nm (.fz<|aM x) M)=some (.nx<|fM S0 K0 S0 (wl K0 l.length x g) nm (.fz<|aM O) I)/\NF I
 | [],x,g,M,h4,_=>⟨x,M,rfl,h4⟩
 |k::l,x,g,M,h4,d=>by
  have b:mgN 4 (.int (k:Int)) (fM S0 K0 S0 g nm (.fz<|aM x) M)=some (fM S0 K0 S0 g nm (.fz<|aM x)<|.fz<|.int (k:Int)):=cC rfl h4.nio;have t1:ax (mOp gY (aa 3)<|mC .none) (fM S0 K0 S0 g nm (.fz<|aM x)<|.fz<|.int (k:Int))=some (x.isSome,fM S0 K0 S0 g nm (.fz<|aM x)<|.fz<|.int (k:Int)):=test_ev (k:=.fz) (aL (ah<|ai rfl) (ah rfl)<|fD _);cases x with
  |none=>
   obtain⟨O,I,e,r⟩:=vG U ab nm l none g (.fz<|.int (k:Int)) (NF.fz _) (λn e=>by cases e)
   rw[KS]at e⊢;exact⟨O,I,cg b (eN t1 rfl) e,r⟩
  |some n=>
   have hn:=d n rfl;obtain⟨O,I,e,r⟩:=vG U ab nm l (K0 n).above (fX g n<|g n+1) (.fz<|.int (k:Int)) (NF.fz _) (λa ea=>ab n hn a ea)
   refine⟨O,I,cg b (mM t1<|az (KU (g6 (Ha (ai rfl) rfl hn) bC) (ai rfl) rfl hn U)<|bz (bx<|a8 (.inl rfl) hn<|ai rfl) rfl) e,r⟩
theorem Hb(U:S0.length<=1000):∀(l M:List Str) (s2:Sl) (g:Str->Int),NF s2->M++l=S0->S0.Nodup->(∀n∈M,g n=0)->∃O I,forL (mgN 2) jy (l.map .str) (fM S0 K0 M g s2 .no .no)=some (.nx<|fM S0 K0 S0 O I .no .no)/\NF I/\∀n∈S0,O n=0
 | [],M,s2,g,b,e,_,a=>by rw[zaR]at e;subst e;exact⟨g,s2,rfl,b,a⟩
 |n::l,M,s2,g,b,e,nd,a=>by
  have hn:=λz=>by
   rw[<-e,List.nodup_append]at nd;exact nd.2.2 n z n zas rfl
  have hk:M.length<=1000:=by rw[<-e,zau]at U;lia
  obtain⟨O,I,d,r⟩:=Hb U l (M++[n]) (.fz<|.str n) (fX g n 0) (NF.fz _) (by rw[zaD];exact e) nd (λm hm=>by
   unfold fX;split
   .rfl
   .rename_i ne
    rcases zae hm with hm|hm
    .exact a m hm
    .exact absurd (zad hm) ne)
  refine⟨O,I,?_,r⟩;exact cg (cC rfl b.nio) (KJ bC (ai rfl) rfl hn hk) d
theorem yu(hl:S0.length<=1000)(ab:∀n∈S0,∀a,(K0 n).above=some a->a∈S0):∀(l:List Str) (g:Str->Int) (s2 Y U:Sl),NF s2->NF Y->NF U->(∀x∈l,x∈S0)->∃I M O,forL (mgN 2) jw (l.map .str) (fM S0 K0 S0 g s2 Y U)=some (.nx<|fM S0 K0 S0 (wls K0 S0.length l g) I M O)/\NF I/\NF M/\NF O
 | [],g,s2,Y,U,b,h3,h4,_=>⟨s2,Y,U,rfl,b,h3,h4⟩
 |n::l,g,s2,Y,U,b,h3,h4,hk=>by
  obtain⟨j,i,d,h⟩:=vG hl ab (.fz<|.str n) (List.range S0.length) (some n) g U h4 (λm e=>by cases e;exact hk n zas)
  rw[List.length_range]at d;obtain⟨I,M,O,e,r⟩:=yu hl ab l (wl K0 S0.length (some n) g) (.fz<|.str n) (.fz<|aM j) i (NF.fz _) (NF.fz _) h (λx f=>hk x<|zak _ f)
  refine⟨I,M,O,?_,r⟩;exact cg (cC rfl b.nio) (az (bz (ai rfl)<|fj _ rfl h3.nio)<|iV (kc (kK<|.inl rfl) (by lia)) d) e
theorem BL{dv:PM}{g:D->Rho->Option Rho}{L:Rho}{o:Out}(l:dv L=some ((HD S0 K0,.fz),L))(M:jV L=true)(I:forL g b (S0.map .str) L=some o)(h3:jV (FD o)=true):xc dv g b L=some o:=by
 unfold xc;rw[l,zai];dsimp only[lY,Option.bind_some];rw[if_pos M,kJ,I,zai,if_pos h3]
theorem KW(l:c<=600)(h:Bk c ag S0 K0):∃g:Str->Int,fe [HD S0 K0]=some (PL S0 g,true)/\∀n∈S0,((cm S0 K0 n).length:Int)<=g n:=by
 have kl:=h.kl;obtain⟨g0,t2,i,a,o⟩:=Hb (S0:=S0) (by lia) S0 [] .no (λ_=>0) (.inl rfl) rfl h.nd (λn hn=>by cases hn)
 obtain⟨s2,q,r,e,r2,j,m⟩:=yu (by lia) h.ab S0 g0 t2 .no .no a (.inl rfl) (.inl rfl) (λ_ b=>b)
 refine⟨wls K0 S0.length S0 g0,cf rfl (az (cN rfl rfl)<|az (BL rfl rfl i ?_)<|az (BL rfl ?_ e ?_)<|bH<|fK rfl) rfl,λn hn=>?_⟩
 .rcases a with rfl|⟨d,rfl⟩<;>rfl
 .rcases a with rfl|⟨d,rfl⟩<;>rfl
 .rcases r2 with rfl|⟨d,rfl⟩<;>rcases j with rfl|⟨p,rfl⟩<;>rcases m with rfl|⟨f,rfl⟩<;>rfl
 .have:=G9 h S0 g0 n λ_ b=>b
  rw[o n hn]at this
  lia
theorem qJ(w:D):∀(ds:List D) (j:Nat) (I:Sl),NF I->∃l,forL (mgN 3) j0 ds [.fz w,.fz<|.int (gd j:Int),.fz<|.int (gd (j+1):Int),I]=some (.nx [.fz w,.fz<|.int (gd (j+ds.length):Int),.fz<|.int (gd (j+ds.length+1):Int),l])
 | [],j,I,_=>⟨I,rfl⟩
 |d::ds,j,I,h3=>by
  obtain⟨l,e⟩:=qJ w ds (j+1) (.fz d) (NF.fz _);rw[zaw,show j+(ds.length+1)=j+1+ds.length by lia]
  have es:(gd j:Int)+(gd (j+1):Int)=(gd (j+1+1):Int):=by
   have:gd (j+1+1)=gd (j+1)+gd j:=kM (j+1)
   lia
  refine⟨l,cg (cC rfl h3.nio) ?_ e⟩;rfl
theorem Hc{d:Nat}(hd:d<=1000):fQ [.int<|(d:Int)+2]=some (.int (gd d:Int),false):=by
 obtain⟨x,ds,b⟩:∃x ds,pB 1 ((d:Int)+2-1).toNat=x::ds/\ds.length=d:=by
  unfold pB;rw[show((d:Int)+2-1).toNat=d+1 by lia,List.range_succ_eq_map,zaz]
  exact⟨_,_,rfl,by rw[zal,zal,List.length_range]⟩
 obtain⟨a,e⟩:=qJ (.int<|(d:Int)+2) ds 0 (.fz x) (NF.fz _);rw[b.2]at e;simp only[Nat.zero_add]at e;refine cf (o:=.rt (.int (gd d:Int),.fz) [.fz<|.int<|(d:Int)+2,.fz<|.int (gd d:Int),.fz<|.int (gd (d+1):Int),a]) rfl ?_ rfl;refine az (bz rfl rfl) (az (bz rfl rfl)<|az (iV (ρ1:=[.fz<|.int<|(d:Int)+2,.fz<|.int 1,.fz<|.int 1,.no]) ?_ (cg rfl rfl e))<|bH<|ai rfl);rw[<-b.1];exact Nl rfl (by lia)
theorem Hd(h:Bk c ag S0 K0)(fm:Fm S0 K0)(l:n∈S0)(hm:S0.length<gd (m+1)):(K0 n).below.length<=m:=by
 have:=OA h fm l;rcases Nat.lt_or_ge m (K0 n).below.length with z|z
 .have:=Bv (show m+1<=(K0 n).below.length from z);lia
 .exact z
abbrev fR(ag S0:List Str)(K0:Str->aw.Row)(g:Str->Int)(d:Nat)(M s6:Sl):Rho:=[.fz<|PD ag S0 K0,.fz<|TD ag,.fz<|HD S0 K0,.own<|PL S0 g,.fz<|.int (d:Int),M,s6]
theorem qK(hb:∀n∈S0,(gd (K0 n).below.length:Int)<=g n/\(K0 n).below.length<=d/\(K0 n).below.length<=1000):∀(l:List Str) (O U:Sl),NF O->NF U->(∀x∈l,x∈S0)->∃I M,forL (mgU 2<|aR (mgN 5)<|aR (mgN 6) dA) kW (l.map λn=>PyData.tuple [.str n,bc<|K0 n]) (fR ag S0 K0 g d O U)=some (.nx<|fR ag S0 K0 g d I M)/\NF I/\NF M
 | [],O,U,a,b,_=>⟨O,U,rfl,a,b⟩
 |n::l,O,U,a,b,hk=>by
  have hn:=hk n zas;obtain⟨b1,i,j⟩:=hb n hn;obtain⟨I,M,e,r⟩:=qK hb l (.fz<|.str n) (.fz<|bc<|K0 n) (NF.fz _) (NF.fz _) λx h=>hk x (zak _ h)
  refine⟨I,M,?_,r⟩;refine cg (by rcases a with rfl|⟨d,rfl⟩<;>rcases b with rfl|⟨m,rfl⟩<;>rfl) ?_ e
  have f:IE (mCB bV<|af (mOp gIx (aa 6)<|mC<|.int 3) ar) (fR ag S0 K0 g d (.fz<|.str n)<|.fz<|bc<|K0 n) ((K0 n).below.length:Int):=dM (ai rfl);exact eN (gZ (b7 (wV (Ha (ai rfl) rfl hn)<|kG (cG (g6 f bC) aG)<|Hc (by lia))<|zaO (by lia))<|b7 (lS f<|a6 rfl)<|zaO (by lia)) rfl
theorem yw(l:c<=120)(h:Bk c ag S0 K0)(f:Fm S0 K0):fB [PD ag S0 K0]=some (.bool true,false):=by
 have kl:=h.kl;obtain⟨g,a,m⟩:=KW (by lia) h
 obtain⟨d,hd,b⟩:=KA (n:=S0.length) (by lia)
 have hb:∀n∈S0,(gd (K0 n).below.length:Int)<=g n/\(K0 n).below.length<=d/\(K0 n).below.length<=1000:=λn hn=>⟨by have:=m n hn;have:=Bw h f _ n hn (zap _);lia,Hd h f hn hd,by have:=(h.bl n hn).1;lia⟩
 obtain⟨p,q,e,i,j⟩:=qK hb S0 .no .no (.inl rfl) (.inl rfl) λ_ o=>o
 have r:ax (mOp oT (aQ cZ<|af (aa 0) ar)<|mC<|.bool true) [.fz<|PD ag S0 K0,.fz<|TD ag,.fz<|HD S0 K0,.no,.no,.no,.no]=some (false,[.fz<|PD ag S0 K0,.fz<|TD ag,.fz<|HD S0 K0,.no,.no,.no,.no]):=test_ev (k:=.fz) (aL (Y0:=(.bool false,false)) (ah<|e8 rfl<|KQ l h f) (ah rfl) rfl);refine cf rfl (az (kL (ai rfl) rfl)<|az (eN (gZ r<|mN (v:=true)<|test_ev (k:=.fz)<|e8 rfl<|Dt l h f) rfl)<|az (cN (aZ rfl a<|KI _ _) rfl)<|az (ρ1:=fR ag S0 K0 g d .no .no) (Nt (kG (cG (kK<|.inl rfl) aG) b) rfl)<|az (ρ1:=fR ag S0 K0 g d p q) ?_ (bH rfl)) rfl;unfold xk;rw[show gq 2 (fR ag S0 K0 g d .no .no)=some ((HD S0 K0,.fz),fR ag S0 K0 g d .no .no)from rfl,zai];dsimp only[lY,Option.bind_some];rw[if_pos<|show jV (fR ag S0 K0 g d .no .no)=true from rfl,show g7 (bA S0 K0)=S0.map λn=>PyData.tuple [.str n,bc<|K0 n] by unfold g7 bA;rw[List.map_map];rfl,e,zai,if_pos (by rcases i with rfl|⟨d,rfl⟩<;>rcases j with rfl|⟨s,rfl⟩<;>rfl)]
abbrev dv(p q:Nat)(k cell:Int)(x3 x4 M:Option SV):List (Option SV):=[some<|.tp [.lc p,.lc q],some<|.pl<|.int k,some<|.pl<|.int cell,x3,x4,M]
theorem OM(h:Bk c ag S0 K0)(l:S0≠[]):∃n,Lst K0 ag n:=by
 obtain⟨n,a,_⟩:=KD l;exact⟨n,Lst.top h (λ_ _=>rfl) a,λm hm=>a.2 m (h.tk m hm).1⟩
theorem KY(hk:k<20)(h:Bk (100+k) ag S0 K0)(f:Fm S0 K0)(cell:Int)(l:S[p]?=some (dt<|TD ag))(I:S[q]?=some (dt<|HD S0 K0)) :
  ∃S' f0 f1 T K R,i8 S [.tp [.lc p,.lc q],.pl<|.int (k:Int),.pl<|.int cell]=some (.ok (.tp [.lc f0,.lc f1]) S')/\S'[f0]?=some (dt<|TD T)/\S'[f1]?=some (dt<|HD K R)/\S.length<=f0/\Bk (100+k+1) T K R/\Fm K R:=by
 have kl:=h.kl;have tl:=h.tl;obtain⟨Y,A⟩:∃Y,Y=S++[dt<|TD S0]:=⟨_,rfl⟩;have F:Y[p]?=some (dt<|TD ag):=by rw[A];exact b8 l
 have G:Y[q]?=some (dt<|HD S0 K0):=by rw[A];exact b8 I
 have O:Y[S.length]?=some (dt<|TD S0):=by rw[A];exact ap0
 have ly:Y.length=S.length+1:=by rw[A,zau];rfl
 have M:=cR F G;have hd:∀{u:SN} {o:Option eP},u ⟨Y,dv p q (k:Int) cell (some<|.pl<|.int<|cell/4) (some<|.lc S.length) none⟩=o->bf (ck (nO<|mOp iU (aa 2)<|mC<|.int 4)<|ngN 3) (bf (ck (nO<|mCB lA<|af (mOp gIx (aa 0)<|mC<|.int 1) ar)<|ngN 4) u) ⟨S,dv p q (k:Int) cell none none none⟩=o:=fun{u o} t=>
  aH (bD (tD<|mP (a6<|bU rfl) bC ⟨by decide,by decide⟩) (by simp)) (aH (bD (kg (dY (Y0:=(TD S0,true)) (ao (ah<|jB<|bh rfl<|cR l I) aG) (by show some (PyData.list ((bA S0 K0).map (·.1)),true)=_;rw[kJ]))<|gU _) (by simp)) (by rw[A]at t;exact t))
 have W:∀{B:Option SV},(vw ⟨Y,dv p q (k:Int) cell (some<|.pl<|.int<|cell/4) (some<|.lc S.length) B⟩)[4]?=some (.fz<|TD S0):=fun{B}=>bh rfl (cI O)
 have V:BE (mOp gEq (aa 4)<|eM ar) (vw ⟨Y,dv p q (k:Int) cell (some<|.pl<|.int<|cell/4) (some<|.lc S.length) none⟩) S0.isEmpty:=aL (ah<|ai W) (eA<|eO rfl rfl (by simp)) (Ki λx hx=>h.ok hx)
 have d:∀{B:Option SV} (j:Int),BE (mOp gEq (mOp bY (aa 2)<|mC<|.int 4)<|mC<|.int j) (vw ⟨Y,dv p q (k:Int) cell (some<|.pl<|.int<|cell/4) (some<|.lc S.length) B⟩) (decide<|cell%4=j):=fun{B} j=>sC (cY (a6<|bU rfl) bC (by decide)) bC
 have tb:BE (mOp gLt (mCB bV<|af (aa 4) ar)<|mC<|.int 100) (vw ⟨Y,dv p q (k:Int) cell (some<|.pl<|.int<|cell/4) (some<|.lc S.length) none⟩) (decide<|(S0.length:Int)<100):=wV (yr W) bC;obtain⟨b,hb⟩:∃b,mOr (ax<|mOp gEq (aa 4)<|eM ar) (jO (ax<|mOp gEq (mOp bY (aa 2)<|mC<|.int 4)<|mC<|.int 3)<|ax<|mOp gLt (mCB bV<|af (aa 4) ar)<|mC<|.int 100) (vw ⟨Y,dv p q (k:Int) cell (some<|.pl<|.int<|cell/4) (some<|.lc S.length) none⟩)=some (b,vw ⟨Y,dv p q (k:Int) cell (some<|.pl<|.int<|cell/4) (some<|.lc S.length) none⟩)/\(b=false->S0≠[]):=by
  cases e:S0.isEmpty with
  |true=>exact⟨true,Cv<|b7 V e,λz=>by cases z⟩
  |false=>
   have ne:S0≠[]:=λz=>by rw[z]at e;cases e
   by_cases D:cell%4=3
   .exact⟨_,gZ (b7 V e)<|sA (b7 (d 3)<|zaH D)<|b7 tb rfl,λ_=>ne⟩
   .exact⟨_,gZ (b7 V e)<|AV<|b7 (d 3)<|zaO D,λ_=>ne⟩
 obtain⟨v,hv⟩:=key_is (cell/4);cases b with
 |true=>
  obtain⟨hn,hB⟩:=Bk.new (by lia) h v
  refine⟨Y++[dt<|TD<|ag++[aq<|100+k],dt<|HD (S0++[aq<|100+k])<|aI K0 (aq<|100+k) ⟨v,none,false,[]⟩],Y.length+0,Y.length+0+1,_,_,_,?_,ap0,apk rfl,by lia,hB,f.new h.ab hn v⟩
  refine g8 (t':=dv p q (k:Int) cell (some<|.pl<|.int<|cell/4) (some<|.lc S.length) none) rfl (hd<|mf<|qB (dE hb.1)<|dy ?_) (by simp[blV,iX];lia)
  have:=tM (s:=⟨Y,dv p q (k:Int) cell (some<|.pl<|.int<|cell/4) (some<|.lc S.length) none⟩) (ds:=[PD ag S0 K0,.str<|aq<|100+k,.int v]) (m:=ay (aN 0)<|ay (nO<|aQ a9<|af (mOp cM (mC<|.int 100)<|aa 1) ar)<|ay (nO<|aQ bB<|af (aa 3) ar) bw) (by
    rw[zaR];exact aD (av rfl) (aD (gC (aZ (cG ((g6 bC<|a6<|bU rfl).is (by lia)) aG) (oV<|100+k) rfl) rfl)<|aD (tD<|kG (cG (a6<|bU rfl) aG) hv) bT)) (by rw[zaR];simp only[oD,M,LF,Option.bind_some,Option.map_some]) (OJ (yn (by lia)) hn (by lia) (by lia)) (gU _) (kP _ _)
  exact this
 |false=>
  have r:=hb.2 rfl;obtain⟨n,hn,en⟩:=QH (List.length_pos_iff.mpr r) (cell/4);have σ:∀{u:SN} {o:Option eP},u ⟨Y,dv p q (k:Int) cell (some<|.pl<|.int<|cell/4) (some<|.lc S.length)<|some<|.pl<|.str n⟩=o->bf (ck (nIx (aN 4)<|nO<|mOp bY (aa 3)<|mCB bV<|af (aa 4) ar)<|ngN 5) u ⟨Y,dv p q (k:Int) cell (some<|.pl<|.int<|cell/4) (some<|.lc S.length) none⟩=o:=fun{u o} t=>
   aH (bD (bZ (av rfl) (tD<|cY (a6<|bU rfl) (yr W) (by have:=List.length_pos_iff.mpr r;lia)) (by
    simp only[ixV,O,en,Option.map_some])) (by simp)) t
  have i:∀{S':List<|Option Cl} {f0 f1:Nat} {u:SN},u ⟨Y,dv p q (k:Int) cell (some<|.pl<|.int<|cell/4) (some<|.lc S.length)<|some<|.pl<|.str n⟩=some (.rt (.tp [.lc f0,.lc f1]) ⟨S',dv p q (k:Int) cell (some<|.pl<|.int<|cell/4) (some<|.lc S.length)<|some<|.pl<|.str n⟩)->S.length<=f0->fnS 3 3 (bf (ck (nO<|mOp iU (aa 2)<|mC<|.int 4)<|ngN 3)<|bf (ck (nO<|mCB lA<|af (mOp gIx (aa 0)<|mC<|.int 1) ar)<|ngN 4)<|bf (jG (nTo<|mOr (ax<|mOp gEq (aa 4)<|eM ar)<|jO (ax<|mOp gEq (mOp bY (aa 2)<|mC<|.int 4)<|mC<|.int 3)<|ax<|mOp gLt (mCB bV<|af (aa 4) ar)<|mC<|.int 100) (iY<|m5 gw<|ay (aN 0)<|ay (nO<|aQ a9<|af (mOp cM (mC<|.int 100)<|aa 1) ar)<|ay (nO<|aQ bB<|af (aa 3) ar) bw) gL)<|bf (ck (nIx (aN 4)<|nO<|mOp bY (aa 3)<|mCB bV<|af (aa 4) ar)<|ngN 5) u) S [.tp [.lc p,.lc q],.pl<|.int (k:Int),.pl<|.int cell]=some (.ok (.tp [.lc f0,.lc f1]) S'):=fun{S' f0 f1 u} t hf=>
   g8 rfl (hd<|aH (kf (dE hb.1) rfl)<|σ t) (by simp[blV,iX];lia)
  by_cases H:cell%4=0\/cell%4=3
  .obtain⟨m,Z⟩:=OM h r
   obtain⟨sts,T,aE,X,C,U,D,e4,e5,e6⟩:=GX (by lia) h f Z F G
   obtain⟨N,Q⟩:=qE h f Z.1;obtain⟨y,w⟩:=e5.inv N Q;have a:mOr (ax<|mOp gEq (mOp bY (aa 2)<|mC<|.int 4)<|mC<|.int 0) (ax<|mOp gEq (mOp bY (aa 2)<|mC<|.int 4)<|mC<|.int 3) (vw ⟨Y,dv p q (k:Int) cell (some<|.pl<|.int<|cell/4) (some<|.lc S.length)<|some<|.pl<|.str n⟩)=some (true,vw ⟨Y,dv p q (k:Int) cell (some<|.pl<|.int<|cell/4) (some<|.lc S.length)<|some<|.pl<|.str n⟩):=by
    rcases H with z|z
    .exact Cv (b7 (d 0)<|zaH z)
    .exact gZ (b7 (d 0)<|zaO (by lia)) (b7 (d 3)<|zaH z)
   exact⟨_,_,_,T,_,aE,i (mf<|qB (dE a)<|dy<|bZ (de (aD (av rfl) bT) C) eW rfl) (by lia),U,D,by lia,y.more<|Nat.le_succ _,w⟩
  .have a:mOr (ax<|mOp gEq (mOp bY (aa 2)<|mC<|.int 4)<|mC<|.int 0) (ax<|mOp gEq (mOp bY (aa 2)<|mC<|.int 4)<|mC<|.int 3) (vw ⟨Y,dv p q (k:Int) cell (some<|.pl<|.int<|cell/4) (some<|.lc S.length)<|some<|.pl<|.str n⟩)=some (false,vw ⟨Y,dv p q (k:Int) cell (some<|.pl<|.int<|cell/4) (some<|.lc S.length)<|some<|.pl<|.str n⟩):=gZ (b7 (d 0)<|zaO (by lia)) (b7 (d 3)<|zaO (by lia))
   by_cases C:cell%4=1
   .obtain⟨X,f0,f1,f2,tJ,ym,sts,T,aE,P⟩:=OF (by lia) h f hn F G
    obtain⟨N,Q⟩:=qE P.bk P.fm P.nt;obtain⟨y,w⟩:=P.hs.inv N Q;have:=P.l0;exact⟨_,f0,f1,T,_,aE,i (aH (kf (dE a) rfl)<|mf<|qB (dE<|b7 (d 1)<|zaH C)<|dy<|bZ (de (aD (av rfl)<|aD (av rfl) bT) P.run) eW rfl) (by lia),P.g0,P.g1,by lia,y.more<|Nat.le_succ _,w⟩
   .obtain⟨E,ρ⟩:∃E:Int,E=(K0 n).key-1-cell/4%(10:Int)^(20:Int).toNat:=⟨_,rfl⟩
    have kn:E<(K0 n).key:=by
     lia
    obtain⟨X,f0,f1,f2,T,aE,r1,r2,r3,l0,y,w⟩:=KH (by lia) h f hn kn F G
    have ek:nO (mOp lh (mOp lh (mOp gIx (mOp a7 (mOp gIx (aa 0)<|mC<|.int 1)<|aa 5)<|mC<|.int 0)<|mC<|.int 1)<|mOp bY (aa 3)<|mOp zf (mC<|.int 10)<|mC<|.int 20) ⟨Y,dv p q (k:Int) cell (some<|.pl<|.int<|cell/4) (some<|.lc S.length)<|some<|.pl<|.str n⟩=some (.ok (.pl<|.int E) ⟨Y,dv p q (k:Int) cell (some<|.pl<|.int<|cell/4) (some<|.lc S.length)<|some<|.pl<|.str n⟩):=tD (IE.is (jQ (jQ (eG<|qu hn (ah<|jB<|bh rfl M)<|ai<|bU rfl) bC)<|cY (a6<|bU rfl) (ET bC bC ⟨by decide,by decide,by decide⟩) (by decide)) ρ.symm)
    exact⟨_,f0,f1,T,_,aE,i (aH (kf (dE a) rfl)<|aH (kf (dE<|b7 (d 1)<|zaO C) rfl)<|dy<|bZ (de (aD (av rfl)<|aD (av rfl)<|aD ek bT) r1) eW rfl) (by lia),r2,r3,by lia,y.more<|Nat.le_succ _,w⟩
abbrev lv(X:D)(x3 x4:Option SV):List (Option SV):=[some<|.pl X,some<|.lc 1,some<|.lc 2,x3,x4]
theorem KZ(h : 3<=f0):gcE 3 [0,1,2,3] ⟨S,lv X (some<|.tp [.lc f0,.lc f1]) l⟩=⟨S,lv X (some<|.tp [.lc f0,.lc f1]) l⟩:=by
 unfold gcE;simp only[List.all_cons,Lf,List.getElem?_cons_zero,List.getElem?_cons_succ,blV,iX,decide_eq_false (by lia : ¬f0<3)]
 simp
theorem LK{ns:List Int}(I:X=.list (ns.map .int)):∀(m k:Nat) (S:List<|Option Cl) (p q:Nat) (ag S0:List Str) (K0:Str->aw.Row) (l:Option SV),k+m<=20->k+m<=ns.length->3<=S.length->S[p]?=some (dt<|TD ag)->S[q]?=some (dt<|HD S0 K0)->Bk (100+k) ag S0 K0->Fm S0 K0->∃s',eJ 3 [0,1,2,3] (λ_=>True) (ngN 4) Bq (((List.range' k m).map λk:Nat=>PyData.int (k:Int)).map .pl) ⟨S,lv X (some<|.tp [.lc p,.lc q]) l⟩=some (.nx s')
 |0,k,S,p,q,ag,S0,K0,l,_,_,_,_,_,_,_=>⟨_,yj⟩
 |m+1,k,S,p,q,ag,S0,K0,l,u,v,h3,r,s,h,f=>by
  obtain⟨c,o⟩:∃c,ns[k]?=some c:=⟨_,zaC (by lia)⟩
  obtain⟨S',f0,f1,T,K,R,j,a,b,t,d,i⟩:=KY (by lia) h f c r s
  obtain⟨s',e⟩:=LK I m (k+1) S' f0 f1 T K R (some<|.pl<|.int (k:Int)) (by lia) (by lia) (by have:=kh a;lia) a b d i
  refine⟨s',?_⟩;refine tE (vt (by simp)) ?_ (KZ (by lia)) e
  refine aH (bD (de (aD (av rfl) (aD (av rfl) (aD (bZ (av rfl) (av rfl) (by
   rw[I];simp only[ixV,Mir.kF,List.getElem?_map,o,Option.map_some])) bT))) j) (by simp)) ?_
  exact kf (dE<|mN<|test_ev (k:=.fz)<|e8 (ao (ah<|ai<|bh rfl<|cR a b) aG)<|yw (by lia) d i) rfl
theorem He(ns:List Int)(l:ns.length<=63)(hb:∀k∈ns,Builtin.Int.intBits k<=1048576):LC [.list<|ns.map .int]=some (.bool true,false):=by
 obtain⟨f,j,l0,_⟩:=yi ns 20 60;obtain⟨ag,S0,K0,o,h,i⟩:=GH f (by lia)
 obtain⟨X,d⟩:∃X:D,X=.list (ns.map .int):=⟨_,rfl⟩;obtain⟨S,b⟩:∃S:List (Option Cl),S=[dt<|.list<|f.map .int,dt<|TD ag,dt<|HD S0 K0]:=⟨_,rfl⟩;have g0:S[1]?=some (dt<|TD ag):=by rw[b];rfl
 have g1:S[2]?=some (dt<|HD S0 K0):=by rw[b];rfl
 obtain⟨m,hm⟩:∃m,m=min 20 ns.length:=⟨_,rfl⟩;obtain⟨s',e⟩:=LK d m 0 S 1 2 ag S0 K0 none (by lia) (by lia) (by rw[b];exact zap _) g0 g1 h i
 have a:Br ⟨[],[some<|.pl X,none,none,none,none]⟩=some (.rt (.pl<|.bool true) s'):=by
  refine aH (s':=⟨S,lv X none none⟩) ?_ ?_
  .rw[b]
   refine OL (tM (aD (kg (L:=vw ⟨[],[some<|.pl X,none,none,none,none]⟩) ?_ ?_) bT) rfl o (gU _)<|kP _ _) (by simp) (by simp)
   .rw[<-j,d];rfl
   .exact ki (λx=>rfl) _
  refine aH (bD (dU (aD (av rfl)<|aD (av rfl) bT) rfl (by simp)) (by simp)) ?_
  refine aH (kf (dE<|mN<|test_ev (k:=.fz)<|e8 (ao (ah<|ai<|bh rfl<|cR g0 g1) aG)<|yw (by lia) h i) rfl) ?_
  refine aH (BA (L:=vwC ⟨S,lv X (some<|.tp [.lc 1,.lc 2]) none⟩) ?_ (by rw[show(⟨S,lv X (some<|.tp [.lc 1,.lc 2]) none⟩:SS).S.length=3 by rw[b];rfl];exact e)) (dy eW)
  rw[<-List.range_eq_range'];have p:IE (mCB bV<|af (aa 0) ar) (vwC ⟨S,lv X (some<|.tp [.lc 1,.lc 2]) none⟩) (ns.length:Int):=sV (Y0:=(.int (ns.length:Int),false)) (.inl<|GN rfl) (by rw[d];show some (PyData.int ((ns.map PyData.int).length:Int),false)=_;rw[zal])
  refine kc (IE.is (dY (Y0:=(.int ((min 20 ns.length:Nat):Int),false)) (cG bC<|cG p aG) ?_) (by rw[hm])) (by lia)
  show some (PyData.int<|if(ns.length:Int)<20 then(ns.length:Int)else 20,false)=_
  rw[show(if(ns.length:Int)<20 then(ns.length:Int)else 20)=((min 20 ns.length:Nat):Int) by split<;>lia]
 show fnO 1 4 Br [.list<|ns.map .int]=_;unfold fnO;rw[if_pos<|show([PyData.list<|ns.map .int]:List D).length=1 from rfl,<-d];show(Br ⟨[],[some<|.pl X,none,none,none,none]⟩).bind P4=_;rw[a];rfl
end K77
set_option maxHeartbeats 4000000
namespace K77
open L2 Mir
open Lean
set_option hygiene false in
def rtT:MacroM (Array Term):=do
 let `([$xs,*])<- `([fu (sk (K:=K) rfl) rfl z zaE q,
 EC (n:=nn) (k:=nn) q rfl h,
 Jn (hv1 hu) q q q rfl,
 K9 (AR (K:=K) rfl) q q (λ_ _=>rfl),
 zh (K:=K) rfl zaJ PySem.F.slot_list_append PySem.F.type_list_append Cb q q,
 Pa rfl ⟨rfl,rfl,rfl,rfl,rfl,rfl,by decide+kernel⟩ q (λ_ _ _ _=>q) (λ_ _ _ _=>q),
 Jf (n:=nn) (k:=nn) q rfl h,
 d9 DT q q (cT _),
 EK (K:=K) rfl q,
 CJ (hv1 hu) q q,
 d9 K5 q q (cT _),
 zw λ_=>.bl _,
 ie (xi (K:=K) rfl) rfl z PyProof.Rows.boot_tuple q,
 Iw (K:=K) rfl q,
 II (n:=nn) (k:=nn) q rfl h,
 pj d (hr.mono (by lia)) q,
 d9 (FL (K:=K) rfl (Nat.lt_of_le_of_lt (Nat.le_add_right _ _) hu)) q q (cT _),
 fu (Cq (K:=K) rfl rfl) rfl z PyProof.Rows.boot_all q,
 d9 O0 q q (cT _),
 iS AD q q (cT _),
 IK (n:=nn) (k:=nn) q rfl h,
 o6 (F6 (K:=K) rfl) q q,
 ie (xb rfl) rfl z PyProof.Rows.boot_list q,
 Ee rfl hd rfl (by fail "l") ⟨rfl,rfl,rfl,rfl,rfl,rfl,by decide+kernel⟩ q (λ_ _ _ _=>q) (λ_ _ _ _=>q),
 DY (EJ (K:=K) rfl) q q q,
 d9 AD q q (cT _),
 iS K6 q q (cT _),
 iS DT q q (cT _),
 fu (rm (K:=K) rfl) rfl z PyProof.Rows.boot_sorted q,
 iS (EI (K:=K) rfl hu) q q (cT _),
 NX (hv1 hu) q q,
 zh (K:=K) rfl PySem.F.plainAttrs_dict PySem.F.slot_dict_pop PySem.F.type_dict_pop JF q q,
 zw λ_=>.str _,
 iS (FL (K:=K) rfl (Nat.lt_of_le_of_lt (Nat.le_add_right _ _) hu)) q q (cT _),
 zh (K:=K) rfl zaJ PySem.F.slot_list_remove PySem.F.type_list_remove Jx q q,
 Iy (K:=K) rfl zaJ PySem.F.slot_list_reverse PySem.F.type_list_reverse y9 q,
 pj d (hr.mono (by first|lia|(show _<=_+n;lia))) q,
 pj d (hr.mono (zap _)) q,
 fu (BY rfl) rfl z PyProof.Rows.boot_max q,
 iS K5 q q (cT _),
 IF (n:=nn) (k:=nn) q rfl h,
 d9 O1 q q (cT _),
 L9 hd rfl (by fail "l") q Ma,
 iS (Nn (K:=K) rfl) q q rfl,
 J7 (K:=K) rfl rfl rfl z rfl z q,
 L8 rfl hd rfl rfl (by decide) rfl rfl q rfl,
 d9 J8 q q (cT _),
 EL Ly Ly q q q (λ_ _ _ _ _ k h=>CT h k),
 d9 K6 q q (cT _),
 d9 (N9 (K:=K) rfl (Nat.lt_of_le_of_lt (Nat.le_add_right _ _) hu)) q q (cT _),
 ie (zg (K:=K) rfl) rfl z PyProof.Rows.boot_list q,
 fu (BZ rfl) rfl z PyProof.Rows.boot_min q,
 Jh (n:=nn) (k:=nn) q rfl h])|Macro.throwUnsupported
 let h<- `(_)
 let mut r:=#[]
 let mut c:=xs.getElems.toList
 for f in "pv _,pz,pa1 q,wg q q,ma1 q,oI q q,pix K q,tU q,NH,uo q q,mix q,Eu q q,IQ q q,yR,zb,Rr _ hd q,DO q,NO q q,oJ q,pd d hr q,pdg hu q q,dG Qa q q,M7 q,Mn q,pgn _ hd,NJ,Ik,dG J_I q q,AJ q,Ex q,Rb q,K4 q q q,IX,AA,NQ q q,DQ q q,Ey q q,M0 q,OR,#,o6 Mi q q,il Le q,Lb q q q,nix q,#,AN,Ph,LV,#,MU,Rt K q q,dG Ld q q,NK q,Mc PassesOwn.never rfl q q q,Hm q,PW.pt q,Mo q,OV q q,Pl q q,NP q,y0,dG Px q q,LW,M1 q,LY q,Pk q,dG QZ q q,LZ q,peq K hu q q,Ej,HU rfl q,Ho,Js q q,MV,Rc q,Fe q,#,pne K hu q q,ID q,Il,Ii q,dG Q0 q q,o6 Hu q q,Nx q q,P2 q q q,IV,#,dG Q1 q q,M9 q q q,#,o6 Mh q q,dG QY q q,#,JE q q q,BV rfl z q,L6 q q,Pq q q q,LX q,#,Ic q,dG Nb q q,Im q q,Et EH q,fu CK rfl z zaE q,il NY q,#,L1 q,MY q,IW q,HK q,HI,#,dG FA q q,ie zB rfl z PyProof.Rows.boot_dict q,il Jq q,DR PassesOwn.never q q,dG Ir q q,dG Qi q q,Fv,L0 q q,Hl q,#,Jo,MX q q,Hz q,HY q,Ju q,Jt q,M6,wj,#,#,#,Ez q q,il Jy q,o6 Mj q q,#,#,#,#,il PH q,#,wH,HZ q,NN q,NV q q,#,#,M3 q,#,dG Og q q,dG Qf q q,#,il Jr q,E8 q,Ny,#,#,Pp Q2 q q q,#,Jv pU q q,#,#,#,Jw q,L4 q q,L3 q,il C2 q,N8 pU q q,HX q q,FH q,#,JB pU q q,#,dG Qb q q,Ja q q q,#,JG q q,#,NU q q q,FT q,Lg q q,Fh q,#,#,Et FG q,o6 Iq q q,dG Pw q q,Jz rfl z q,#,JS q,Ih Cp,#,#,#,#,#,Oe rfl q q,il Pz q,PY q q q,IH q,EZ q,Ia q,#,#,M8 q,DI q q q,MZ q q q,Of PySem.F.plainAttrs_tuple PySem.F.slot_tuple_count PySem.F.type_tuple_count CU q q,CV q q,Ib q,DM,Ew,ie B6 rfl z PyProof.Rows.boot_int q,il PF q,#,Gi rfl z q,#,dG Qj q q,Gm q,il Oq q,BW rfl z q,#,Ie q,Nm q,#,dG Gj q q,fu CP rfl z PyProof.Rows.boot_isinstance q,Pd z PyProof.Rows.boot_str,Oa q,DV F1 F1 q q q,JH q,Oc q,#,JN q,OY Mk q,Pj Py q,#,#,#,Fg,dG Ql q q,il Nc q,Fj q q,M4 q,#,#,IZ q,IY,il PB q".splitOn "," do
  if f="#" then r:=r.push (c.headD h);c:=c.drop 1
  else
   let l:=(f.splitOn " ").map λw=>if w="_" then h else ⟨mkIdent w.toName⟩
   r:=r.push (Syntax.mkApp (l.headD h) (l.drop 1).toArray)
 return r
set_option hygiene false in
def rtG(tb:Array Term):Nat->StateT (List Char) MacroM Term
 |0=>Macro.throwUnsupported
 |n+1=>do
  let c::r<-get|Macro.throwUnsupported
  set r
  let t<-(tb.getD ("!#$%&'()*+,-./0123456789:;<=>?@ABCDEFGHIJKLMNOPQRSTUVWXYZ[]^_`abcdefghijklmnopqrstuvwxyz{|}~¡¢£¤¥¦§¨©ª«¬®¯°±²³´µ¶·¸¹º»¼½¾¿ÀÁÂÃÄÅÆÇÈÉÊËÌÍÎÏÐÑÒÓÔÕÖ×ØÙÚÛÜÝÞßàáâãäåæçèéêëìíîïðñòóôõö÷øùúûüýþÿĀāĂăĄąĆćĈĉĊċČčĎďĐđĒēĔĕĖėĘęĚěĜĝĞğĠġĢģĤĥĦħĨĩĪīĬĭĮįİıĲĳĴĵĶķĸĹĺĻļĽľĿ".toList.idxOf c) default).raw.replaceM λs=>match s with
   | .ident _ _ `q _=>do return some (<-rtG tb n).raw
   | .ident _ _ `z _=>do return some (<- `(Z _ (by decide+kernel))).raw
   | .ident _ _ `nn _=>do
    let r<-get
    set (r.drop 1)
    return some (quote ("0123456789abcdefghijklmnopqrstuvwxyz".toList.idxOf (r.headD '0')):Term).raw
   | .ident _ _ `d _=>do
    let r<-get
    set (r.drop 1)
    return some (mkIdent (.mkSimple ("d"++String.ofList (r.take 1)))).raw
   |_=>pure none
  return ⟨t⟩
set_option hygiene false in
local macro_rules | `(tactic| fail $s:str) => do
 let ' '::r:=s.getString.toList|Macro.throwUnsupported
 let tb<-rtT
 let(m,r)<-rtG tb 999 r
 let(p,_)<-rtG tb 999 r
 `(tactic|exact⟨_,And.symm ⟨$m,$p⟩⟩)
local macro_rules | `(tactic| fail "Qs") => `(tactic| exact ⟨rfl, rfl, rfl, by decide +kernel, rfl, by decide +kernel, by decide +kernel⟩)
local macro_rules | `(tactic| fail "Qb") => `(tactic| (rintro _ _ _ _ _ _ (_ | ⟨_, _ | ⟨_, _ | ⟨_, _ | ⟨_, _ | ⟨_, _ | ⟨_, _⟩⟩⟩⟩⟩⟩) h <;> first | rfl | cases h))
noncomputable def top(i:Nat):Stmt:=PySem.Challenge.pw_creditworks_k77_whole_names_that_come.main.body.getD i (.Pass ⟨0,0,0,0⟩)
abbrev lD:Stmt:=top 37
theorem nZ:aK ["_law_tops","_law_held","_law_start","_law_k","_law_j","_law_one","_law_other"] ["_law_tops","_law_held","_law_start"] (aB lD):=by fail "Qs"
abbrev nv:Stmt:=top 35
theorem qL:aK ["_law_tops","_law_held","_law_name","_law_steps","_law_going","_law_key","_law_above","_law_mark","_law_below","_law_further","_law_marked"] ["_law_tops","_law_held","_law_name"] (aB nv):=by fail "Qs"
abbrev jf:Stmt:=top 36
theorem kX:aK ["_law_held","_law_one","_law_other"] ["_law_held","_law_one","_law_other"] (aB jf):=by fail "Qs"
abbrev lE:Stmt:=top 34
theorem oa:aK ["_law_tops","_law_held","_law_name","_law_on","_law_key","_law_above","_law_mark","_law_below"] ["_law_tops","_law_held","_law_name","_law_on"] (aB lE):=by fail "Qs"
abbrev hU:Stmt:=top 32
theorem kj:aK ["_law_k","_law_letters","_law_name"] ["_law_k"] (aB hU):=by fail "Qs"
abbrev jg:Stmt:=top 33
theorem kY:aK ["_law_number"] ["_law_number"] (aB jg):=by fail "Qs"
abbrev kq:Stmt:=top 38
theorem mn:aK ["_law_cells","_law_first","_law_tops","_law_held","_law_k","_law_cell","_law_number","_law_like_here","_law_names","_law_name"] ["_law_cells","_law_first"] (aB kq):=by fail "Qs"
abbrev ku:Stmt:=top 39
theorem jh:aK ["_law_held","_law_many","_law_above","_law_mark","_law_key","_law_name","_law_below"] ["_law_held","_law_many","_law_above","_law_mark","_law_key"] (aB ku):=by fail "Qs"
abbrev kz:Stmt:=top 40
theorem mq:aK ["_law_cells","_law_held","_law_tops","_law_cell","_law_name"] ["_law_cells"] (aB kz):=by fail "Qs"
abbrev hZ:Stmt:=top 42
theorem kA:aK ["_law_held","_law_many","_law_name","_law_here","_law_k"] ["_law_held"] (aB hZ):=by fail "Qs"
abbrev ji:Stmt:=top 15
theorem kZ:aK ["n","most","lesser","greater","total"] ["n"] (aB ji):=by fail "Qs"
abbrev jj:Stmt:=top 13
theorem k5:aK ["held","name","place","lower","wanted"] ["held","name","place"] (aB jj):=by fail "Qs"
abbrev lF:Stmt:=top 9
theorem og:aK ["held","name"] ["held","name"] (aB lF):=by fail "Qs"
abbrev gD:Stmt:=top 12
theorem jC:aK ["held","name","above"] ["held","name"] (aB gD):=by fail "Qs"
abbrev gE:Stmt:=top 14
theorem jD:aK ["held","name","at","look"] ["held","name"] (aB gE):=by fail "Qs"
abbrev gF:Stmt:=top 11
theorem jE:aK ["pile","tops","held"] ["pile"] (aB gF):=by fail "Qs"
abbrev eI:Stmt:=top 43
theorem gG:aK ["_law_held","_law_name","_law_place","_law_one"] ["_law_held","_law_name","_law_place","_law_one"] (aB eI):=by fail "Qs"
abbrev h8:Stmt:=top 44
theorem kB:aK ["_law_pile","_law_tops","_law_held","_law_hung_here","_law_name","_law_entry","_law_place","_law_one"] ["_law_pile"] (aB h8):=by fail "Qs"
abbrev jk:Stmt:=top 41
theorem k6:aK ["_law_place","_law_one","_law_other","_law_k"] ["_law_place"] (aB jk):=by fail "Qs"
abbrev kC:Stmt:=top 45
theorem mv:aK ["_law_pile","_law_tops","_law_held","_law_many","_law_most","_law_name","_law_entry"] ["_law_pile"] (aB kC):=by fail "Qs"
abbrev ny:Stmt:=top 8
theorem qM:aK ["value"] ["value"] (aB ny):=by fail "Qs"
abbrev lG:Stmt:=top 16
theorem oh:aK ["pile","name","key","held"] ["pile","name","key"] (aB lG):=by fail "Qs"
abbrev jl:Stmt:=top 26
theorem k7:aK ["pile","name"] ["pile","name"] (aB jl):=by fail "Qs"
abbrev gH:Stmt:=top 28
theorem jF:aK ["held","name","names","above"] ["held","name"] (aB gH):=by fail "Qs"
abbrev nA:Stmt:=top 29
theorem qN:aK ["row","name"] ["row","name"] (aB nA):=by fail "Qs"
abbrev qO:Stmt:=top 10
theorem tQ:aK ["row"] ["row"] (aB qO):=by fail "Qs"
abbrev kD:Stmt:=top 30
theorem mw:aK ["row"] ["row"] (aB kD):=by fail "Qs"
abbrev nC:Stmt:=top 27
theorem qP:aK ["pile","name","held","names","last","cut","above"] ["pile","name"] (aB nC):=by fail "Qs"
abbrev kE:Stmt:=top 24
theorem my:aK ["pile","name","key","row","held"] ["pile","name","key"] (aB kE):=by fail "Qs"
abbrev jm:Stmt:=top 17
theorem rD:aK ["pile"] ["pile"] (aB jm):=by fail "Qs"
abbrev Ag:Stmt:=top 22
theorem BM:aK ["held","name","on","row"] ["held","name","on"] (aB Ag):=by fail "Qs"
abbrev jn:Stmt:=top 21
theorem k8:aK ["pile","held","alone","steps","top","on","name","lesser"] ["pile"] (aB jn):=by fail "Qs"
abbrev lH:Stmt:=top 20
theorem om:aK ["pile","name","held","row","tops","steps","lower","hung"] ["pile","name"] (aB lH):=by fail "Qs"
abbrev jo:Stmt:=top 19
theorem k9:aK ["pile","name","taken"] ["pile"] (aB jo):=by fail "Qs"
abbrev nD:Stmt:=top 25
theorem qQ:aK ["pile","name","cut","taken"] ["pile","name"] (aB nD):=by fail "Qs"
abbrev lI:Stmt:=top 46
theorem oq:aK ["_law_pile","_law_k","_law_cell","_law_number","_law_names","_law_name"] ["_law_pile","_law_k","_law_cell"] (aB lI):=by fail "Qs"
abbrev BN:Stmt:=top 47
theorem Hf:aK ["_law_script","_law_tops","_law_held","_law_pile","_law_k"] ["_law_script"] (aB BN):=by fail "Qs"
local macro_rules | `(tactic| fail "l") => `(tactic| first | exact Or.inl rfl | exact Or.inr rfl)
section
variable(P:Program)(w:World){K:zag}{mg:Str->Option Value}(base:Heap)
def cJ(mg:Str->Option Value):Prop:=∀x∈(["all","dict","enumerate","int","isinstance","len","list","max","min","range","set","sorted","str","tuple"]:List Str),mg x=none
theorem yx(Z:cJ mg)(T:Top K mg "_law_like" lD) :Def P w K mg base CX0 1 "_law_like" ["_law_tops","_law_held","_law_start"] (spM i7):=by
 refine T.def nZ (λvs H Q E h=>bK h) (by fail "Qb") λf cdv A outer s H vs Q E hr h=>?_
 have hu:=hr.units;have hd:=nZ.nd
 fail " N34-{¨&K&#<{¨&#<-8©#=U##K&#-8©#=U##K&#L4`K&,7##K&,7##?b+#&#O?bh%W£$I$!:)W£$!:%1o!JT!!I$!%1o!JT!!I$!)AgI$(6!!I$(6!!)2Z'!$!C)2Z_"
theorem Ah(Z:cJ mg)(T:Top K mg "_law_cut" nv) :Def P w K mg base CX0 1 "_law_cut" ["_law_tops","_law_held","_law_name"] (spJ fZ):=by
 refine T.def qL (λvs H Q E h=>AX h) (by fail "Qb") λf cdv A outer s H vs Q E hr h=>?_
 have hu:=hr.units;have hd:=qL.nd
 fail " Ù38-8bh-8º,7##S-Ëd#-ª7##qF<F<F<F<r-kG+#+S+P&##-s«&#-s«&G+l&#-ª7##qF<F<F<F<r-8Ì&¥Ú#4t###-kG+#+#+º#S&##-8#8#?#%1Z_%1Ø(6!!Q%¹c!%¤6!!iE:E:E:E:j%R!!9'!'Q'H$!%Xy!$!%Xy!$9'a$!%¤6!!iE:E:E:E:j%1É$|Ê!³p!!!%R!!9'!'!'Ø!Q$!%1!)1!)2!"
theorem rE(Z:cJ mg)(T:Top K mg "_law_before" jf) :Def P w K mg base CX0 1 "_law_before" ["_law_held","_law_one","_law_other"] (spM dk):=by
 refine T.def kX (λvs H Q E h=>bK h) (by fail "Qb") λf cdv A outer s H vs Q E hr h=>?_
 have hu:=hr.units;have hd:=kX.nd
 fail " N30?»G+,7##&#G+,7##&#)2ý9'(6!!$!9'(6!!$!"
theorem yy(Z:cJ mg)(T:Top K mg "_law_hung" lE) :Def P w K mg base CX0 1 "_law_hung" ["_law_tops","_law_held","_law_name","_law_on"] (spJ eR):=by
 refine T.def oa (λvs H Q E h=>AX h) (by fail "Qb") λf cdv A outer s H vs Q E hr h=>?_
 have hu:=hr.units;have hd:=oa.nd
 fail " Ù44-ª7##qF<F<F<F<r-kG+#+#+P&##-ª7##qF<F<F<F<r-kG+#+#+#&Ü#G&##sÿ&#%¤6!!iE:E:E:E:j%R!!9'!'!'H$!%¤6!!iE:E:E:E:j%R!!9'!'!'!$Û!9$!)Xþ!$!"
theorem qR(Z:cJ mg)(T:Top K mg "_law_name_by" hU) :Def P w K mg base CX0 1 "_law_name_by" ["_law_k"] (spM a9):=by
 refine T.def kj (λvs H Q E h=>bK h) (by fail "Qb") λf cdv A outer s H vs Q E hr h=>?_
 have hu:=hr.units;have hd:=kj.nd
 fail " N12-8l-8UÝ#==#00Ý#==#00-L4`=#008U#©b+l+l+l+l+l&l==#00O?#%1a%1To!Ju!//o!Ju!//%AgJ!//)1T!oZ'a'a'a'a'a$aJu!//C)2!"
theorem rF(Z:cJ mg)(T:Top K mg "_law_key_by" jg) :Def P w K mg base CX0 1 "_law_key_by" ["_law_number"] (spM bB):=by
 refine T.def kY (λvs H Q E h=>bK h) (by fail "Qb") λf cdv A outer s H vs Q E hr h=>?_
 have hu:=hr.units;have hd:=kY.nd
 fail " N10-L4`=#00?~==#000O-L4`=#00?~==#000O?~==#0Uā0=000=00%AgJ!//)2}Ju!///C%AgJ!//)2}Ju!///C)2}Ju!/TĀ/Í///Í//"
theorem rG(Z:cJ mg)(T:Top K mg "_law_built" kq)(d0:Def P w K mg base CX0 1 "_law_cut" ["_law_tops","_law_held","_law_name"] (spJ fZ))(d1:Def P w K mg base CX0 1 "_law_hung" ["_law_tops","_law_held","_law_name","_law_on"] (spJ eR))(d2:Def P w K mg base CX0 1 "_law_before" ["_law_held","_law_one","_law_other"] (spM dk))(d3:Def P w K mg base CX0 1 "_law_key_by" ["_law_number"] (spM bB))(d4:Def P w K mg base CX0 1 "_law_name_by" ["_law_k"] (spM a9))(d5:Def P w K mg base CX0 1 "_law_like" ["_law_tops","_law_held","_law_start"] (spM i7)):Def P w K mg base CX0 2 "_law_built" ["_law_cells","_law_first"] (spD gP):=by
 refine T.def mn (λvs H Q E h=>uA h) (by fail "Qb") λf cdv A outer s H vs Q E hr h=>?_
 have hu:=hr.units;have hd:=mn.nd
 fail " Î28v8bhv8Àv{Ą&#qF<F<r-8=#0-8>+#+#&=#0-8ß&#LÁ4`=#004eK&#0sà&©#=#K&#LÁ4e=#004t#bh-Ld>+#+,#&,#sąOsà+,#&,#-8>&U##-kG+>&#+S+P&Gh#s«&#á%1Z_%1¼%WĂ$!iE:E:j%1u!/%155'!'!$J!/%1Þ$!)AY½gJ!//¾¿I$!/)X50'!'!$o!J!I$!)AY½¿J!//¾p!Z_%Ac52'!'(!$(!)Xă!C)X51'!'!'(!$(!%154$T!!%R!!9'53$!'Q'H$9_)Xy!$!)29'!$!"
theorem mz(Z:cJ mg)(T:Top K mg "_law_grown" ku)(d0:Def P w K mg base CX0 1 "_law_name_by" ["_law_k"] (spM a9)):∀n,Def P w K mg base CX0 (2+n) "_law_grown" ["_law_held","_law_many","_law_above","_law_mark","_law_key"] (spI (fw n))
 |0=>T.def jh (λvs H Q E h=>by obtain⟨_,_,_,_,_,_,_,_,_,_,_,_,_,e,_⟩:=h;cases e) (by fail "Qb") λf cdv A outer s H vs Q E hr h=>by obtain⟨_,_,_,_,_,_,_,_,_,_,_,_,_,e,_⟩:=h;cases e
 |n+1=>by
  have d1:=mz Z T d0 n;refine T.def jh (λvs H Q E h=>IG h) (by fail "Qb") λf cdv A outer s H vs Q E hr h=>?_
  have hu:=hr.units;have hd:=jh.nd
  fail " Ċ52-8>&®&#-kG+#+#+#&Gh#-8ċ¨&#+Č+0&~#0+#+e#0&U#0-kG+#+#+#&Ì&##?#%1Ć0$¬$!%R!!9'!'!'!$9_%â£$!´ć1'!'Ĉ'/$}!/'!'ĉ!/$T!/%R!!9'!'!'!$É$!)2!"
theorem rH(Z:cJ mg)(T:Top K mg "_law_begun" kz)(d0:Def P w K mg base CX0 1 "_law_key_by" ["_law_number"] (spM bB))(d1:Def P w K mg base CX0 1 "_law_name_by" ["_law_k"] (spM a9))(d2:Def P w K mg base CX0 14 "_law_grown" ["_law_held","_law_many","_law_above","_law_mark","_law_key"] (spI (fw 12)))(d3:Def P w K mg base CX0 2 "_law_built" ["_law_cells","_law_first"] (spD gP)):Def P w K mg base CX0 15 "_law_begun" ["_law_cells"] (spD fA):=by
 refine T.def mq (λvs H Q E h=>uA h) (by fail "Qb") λf cdv A outer s H vs Q E hr h=>?_
 have hu:=hr.units;have hd:=mq.nd
 fail " Î14č]4`#bh4t=,#00Ď+#&0v8Àv8b&ď+==,#00+S+P&>&=,#0v{Đä#Ã0Ã0<-8>&®&#-kG+>&#+S+P&Gh#s«&#á%AY[g!Z_fpJ(!//)2Ï3'!$/C%1¼%1Z$52'!'Ju(!//'Q'H$50$u(!/%W¯ã!Â/Â/:%151$¬$!%R!!9'50$!'Q'H$9_)Xy!$!)29'!$!"
theorem qS(Z:cJ mg)(T:Top K mg "_law_many_to" hZ) :Def P w K mg base CX0 1 "_law_many_to" ["_law_held"] (spM fe):=by
 refine T.def kA (λvs H Q E h=>bK h) (by fail "Qb") λf cdv A outer s H vs Q E hr h=>?_
 have hu:=hr.units;have hd:=kA.nd
 fail " N14-8À-æ<k0#-æ<-8#{¨&®&#<L4º#S-kU7##0#8,7##O?#%1¼%ÄWÅ!:)R!!/%ÄWÅ!:%1!)W£$¬$!:)Aå!Q%R!!T6!!/)1(6!!C)2!"
theorem rJ(Z:cJ mg)(T:Top K mg "most_below" ji) :Def P w K mg base CX0 1 "most_below" ["n"] (spM fO):=by
 refine T.def kZ (λvs H Q E h=>bK h) (by fail "Qb") λf cdv A outer s H vs Q E hr h=>?_
 have hu:=hr.units;have hd:=kZ.nd
 fail " N14-80-80-80-Ë4e##-8U##-8#-8#ē0?#%1/%1/%1/%¹đ!!%1T!!%1!%1!)Ē/)2!"
theorem rK(Z:cJ mg)(T:Top K mg "hangs_well" jj) :Def P w K mg base CX0 1 "hangs_well" ["held","name","place"] (spM fP):=by
 refine T.def k5 (λvs H Q E h=>bK h) (by fail "Qb") λf cdv A outer s H vs Q E hr h=>?_
 have hu:=hr.units;have hd:=k5.nd
 fail " N32-8©,7###-L]4¶##4t,7###?PO-8ĕd,7##~#0#?eK&,7###%1o(6!!!%AY[¦µ!!fp(6!!!)2HC%1Ĕc(6!!}!/!)2çI$(6!!!"
theorem yz(Z:cJ mg)(T:Top K mg "standing" lF) :Def P w K mg base CX0 1 "standing" ["held","name"] (spM aO):=by
 refine T.def og (λvs H Q E h=>bK h) (by fail "Qb") λf cdv A outer s H vs Q E hr h=>?_
 have hu:=hr.units;have hd:=og.nd
 fail " N20?G+,7##&#)29'(6!!$!"
theorem oE(Z:cJ mg)(T:Top K mg "ties_in_form" gD)(d0:Def P w K mg base CX0 1 "hangs_well" ["held","name","place"] (spM fP))(d1:Def P w K mg base CX0 1 "standing" ["held","name"] (spM aO)):Def P w K mg base CX0 2 "ties_in_form" ["held","name"] (spM eD):=by
 refine T.def jC (λvs H Q E h=>bK h) (by fail "Qb") λf cdv A outer s H vs Q E hr h=>?_
 have hu:=hr.units;have hd:=jC.nd
 fail " N21-8,7##-L4z#SLd,7##?POL]4¶##]4tė,7##&#04»>+#&#>+#&#?PO?Ò&¥Ę&K&,7##Æ>+#+#&#%1(6!!%A§!Q)Ac(6!!)2HC)AY[¦µ!![pĖ(6!!$!/fÐ51'!$!51'!$!)2HC)2Ñ$|£$I$(6!!´50'!'!$!"
theorem oF(Z:cJ mg)(T:Top K mg "comes_to_top" gE) :Def P w K mg base CX0 1 "comes_to_top" ["held","name"] (spM eE):=by
 refine T.def jD (λvs H Q E h=>bK h) (by fail "Qb") λf cdv A outer s H vs Q E hr h=>?_
 have hu:=hr.units;have hd:=jD.nd
 fail " N22-8#-{¨&®&#<-L]4z#S4¶##ĚO8,7##?z#S%1!%W£$¬$!:%AY[§!Qf¦µ!!)ęC)1(6!!)2è!Q"
theorem oG(Z:cJ mg)(T:Top K mg "pile_in_form" gF)(d0:Def P w K mg base CX0 1 "comes_to_top" ["held","name"] (spM eE))(d1:Def P w K mg base CX0 2 "ties_in_form" ["held","name"] (spM eD)):Def P w K mg base CX0 3 "pile_in_form" ["pile"] (spM cZ):=by
 refine T.def jE (λvs H Q E h=>bK h) (by fail "Qb") λf cdv A outer s H vs Q E hr h=>?_
 have hu:=hr.units;have hd:=jE.nd
 fail " N12-8,#-8,#-L4tí&#í&î4z,7##S#?PO?Ò&îÆï>+#&#>+#&#%1(!%1(!%Apé$!é$ê|Å!³§(6!!Q!)2HC)2Ñ$ê|Å!´ë51'!$!ì50'!$!"
theorem lJ(Z:cJ mg)(T:Top K mg "_law_child_right" eI) :Def P w K mg base CX0 1 "_law_child_right" ["_law_held","_law_name","_law_place","_law_one"] (spM cQ):=by
 refine T.def gG (λvs H Q E h=>bK h) (by fail "Qb") λf cdv A outer s H vs Q E hr h=>?_
 have hu:=hr.units;have hd:=gG.nd
 fail " N40-L]4¶##]4t,7###4»G+,7##&#G+,7##&#?PO?eK&,7##~#Ĝ&,7##%AY[¦µ!![p(6!!!fÐ9'(6!!$!9'(6!!$!)2HC)2çI$(6!!}!ě$(6!!"
theorem qT(Z:cJ mg)(T:Top K mg "_law_in_form" h8)(d0:Def P w K mg base CX0 1 "_law_child_right" ["_law_held","_law_name","_law_place","_law_one"] (spM cQ)):Def P w K mg base CX0 2 "_law_in_form" ["_law_pile"] (spM fg):=by
 refine T.def kB (λvs H Q E h=>bK h) (by fail "Qb") λf cdv A outer s H vs Q E hr h=>?_
 have hu:=hr.units;have hd:=kB.nd
 fail " N17-ª#qF<F<r-8bh-òqF<F<r-L]4tz,#SĠ##Á4z,#Sd,#?PO{ġ&,#qF<F<r-L±d>+#+#+#&#?POs«&#?ï`Ģ&#K&#`UK&#K&#®&#%¤!iE:E:j%1Z_%ÄWð!iE:E:j%AY[pè(!Qĝ!!fY½§(!Q¾c(!)2HC)WĞ$(!iE:E:j%A°c50'!'!'!$!)2HC)Xy!$!)2ëñğ!I$!ìñTI$!I$!¬$!"
theorem rM(Z:cJ mg)(T:Top K mg "_law_row_at" jk) :Def P w K mg base CX0 1 "_law_row_at" ["_law_place"] (spM fQ):=by
 refine T.def k6 (λvs H Q E h=>bK h) (by fail "Qb") λf cdv A outer s H vs Q E hr h=>?_
 have hu:=hr.units;have hd:=k6.nd
 fail " N13-80-80-{ĥ+0&#<Ħ+#&U##?#%1/%1/%Wģ'/$!:)Ĥ'!$T!!)2!"
theorem vH(Z:cJ mg)(T:Top K mg "_law_right" kC)(d0:Def P w K mg base CX0 1 "_law_row_at" ["_law_place"] (spM fQ))(d1:Def P w K mg base CX0 1 "most_below" ["n"] (spM fO))(d2:Def P w K mg base CX0 1 "_law_many_to" ["_law_held"] (spM fe))(d3:Def P w K mg base CX0 2 "_law_in_form" ["_law_pile"] (spM fg))(d4:Def P w K mg base CX0 3 "pile_in_form" ["pile"] (spM cZ)):Def P w K mg base CX0 4 "_law_right" ["_law_pile"] (spM fB):=by
 refine T.def mv (λvs H Q E h=>bK h) (by fail "Qb") λf cdv A outer s H vs Q E hr h=>?_
 have hu:=hr.units;have hd:=mv.nd
 fail " N16-ª#qF<F<r-L]4Ĩ>&#P±d>&#?PO-8>&#-8>&®&#-òqF<F<rL]4e7##>&UK&,#04eK&,##?PO?P%¤!iE:E:j%AY[ħ54$!Hf°c53$!)2HC%152$!%151$¬$!%ÄWð!iE:E:j)AY[Ó6!!50$TI$(!/f¿I$(!!)2HC)2H"
theorem Ai(Z:cJ mg)(T:Top K mg "is_name" ny) :Def P w K mg base CX0 1 "is_name" ["value"] (spM f6):=by
 refine T.def qM (λvs H Q E h=>bK h) (by fail "Qb") λf cdv A outer s H vs Q E hr h=>?_
 have hu:=hr.units;have hd:=qM.nd
 fail " N10-L]±dĭ#]4eK&#04eK&#0?PO?Ò&¥Į#Æįl#l%AY[°cĩ'!$Ī[ÓI$!/f¿I$!/)2HC)2Ñ$|ī!´Ĭa!a"
theorem vI(Z:cJ mg)(T:Top K mg "pile_put" lG)(d0:Def P w K mg base CX0 1 "is_name" ["value"] (spM f6)):Def P w K mg base CX0 2 "pile_put" ["pile","name","key"] (spD gw):=by
 refine T.def oh (λvs H Q E h=>uA h) (by fail "Qb") λf cdv A outer s H vs Q E hr h=>?_
 have hu:=hr.units;have hd:=oh.nd
 fail " Î31vL±d>&#ÔOvL4ô#,#ÔOv8¸&,#vkG+#+S+P&Gh#İU,#b&#%A°c50$!)ÇC%A¦ó!(!)ÇC%1·$(!%R!!9'!'Q'H$9_)29'T(!Z$!$!"
theorem rN(Z:cJ mg)(T:Top K mg "hold_there" jl) :Def P w K mg base CX0 1 "hold_there" ["pile","name"] (spM cy):=by
 refine T.def k7 (λvs H Q E h=>bK h) (by fail "Qb") λf cdv A outer s H vs Q E hr h=>?_
 have hu:=hr.units;have hd:=k7.nd
 fail " N20L4¶#,#ÔO)A¦µ!(!)ÇC"
theorem oH(Z:cJ mg)(T:Top K mg "names_to_cut" gH) :Def P w K mg base CX0 1 "names_to_cut" ["held","name"] (spM eF):=by
 refine T.def jF (λvs H Q E h=>bK h) (by fail "Qb") λf cdv A outer s H vs Q E hr h=>?_
 have hu:=hr.units;have hd:=jF.nd
 fail " N22-8b&#-8,7##-Ëd,7##-s«&#8,7##?#%1Z$!%1(6!!%¹c(6!!%Xy!$!)1(6!!)2!"
theorem Aj(Z:cJ mg)(T:Top K mg "without" nA) :Def P w K mg base CX0 1 "without" ["row","name"] (spM kH):=by
 refine T.def qN (λvs H Q E h=>bK h) (by fail "Qb") λf cdv A outer s H vs Q E hr h=>?_
 have hu:=hr.units;have hd:=qN.nd
 fail " N20?G+,#+,#+,#&Ì&¥Ú,#4t###)29'(!'(!'(!$É$|Ê(!³p!!!"
theorem Du(Z:cJ mg)(T:Top K mg "as_top" qO) :Def P w K mg base CX0 1 "as_top" ["row"] (spM iL):=by
 refine T.def tQ (λvs H Q E h=>bK h) (by fail "Qb") λf cdv A outer s H vs Q E hr h=>?_
 have hu:=hr.units;have hd:=tQ.nd
 fail " N10?G+,#+S+P&,#)29'(!'Q'H$(!"
theorem vJ(Z:cJ mg)(T:Top K mg "with_mark" kD) :Def P w K mg base CX0 1 "with_mark" ["row"] (spM gR):=by
 refine T.def mw (λvs H Q E h=>bK h) (by fail "Qb") λf cdv A outer s H vs Q E hr h=>?_
 have hu:=hr.units;have hd:=mw.nd
 fail " N10?G+,#+,#+P&,#)29'(!'(!'H$(!"
theorem Ak(Z:cJ mg)(T:Top K mg "cut_off" nC)(d0:Def P w K mg base CX0 1 "with_mark" ["row"] (spM gR))(d1:Def P w K mg base CX0 1 "as_top" ["row"] (spM iL))(d2:Def P w K mg base CX0 1 "without" ["row","name"] (spM kH))(d3:Def P w K mg base CX0 1 "names_to_cut" ["held","name"] (spM eF)):Def P w K mg base CX0 2 "cut_off" ["pile","name"] (spQ f7):=by
 refine T.def qP (λvs H Q E h=>gM h) (by fail "Qb") λf cdv A outer s H vs Q E hr h=>?_
 have hu:=hr.units;have hd:=qP.nd
 fail " ¡253D@¸&,#B3D@>+#&#B3DM@7#©#Ĳ0B3õ*B3DM@7##B3¢**@>+7##&#¢**@>&7##3wm4º,7##S¢**@>&7##x^V.V.@U,##.*;.@¥Õ#ÆG+l&#;%1·$(!%153'!$!%1(6!o!ı/%W¯!:%1(6!!%R!!52'6!!$!)R!!51$6!!%Aå(6!!Q)R!!50$6!!C)29'9'T(!!$!$|¯!´9'a$!"
theorem vK(Z:cJ mg)(T:Top K mg "make_less" kE)(d0:Def P w K mg base CX0 2 "cut_off" ["pile","name"] (spQ f7))(d1:Def P w K mg base CX0 1 "standing" ["held","name"] (spM aO))(d2:Def P w K mg base CX0 1 "hold_there" ["pile","name"] (spM cy)):Def P w K mg base CX0 3 "make_less" ["pile","name","key"] (spQ c7):=by
 refine T.def my (λvs H Q E h=>gM h) (by fail "Qb") λf cdv A outer s H vs Q E hr h=>?_
 have hu:=hr.units;have hd:=my.nd
 fail " ¡323²@>+#&#3D@7,##B3wm4e#,#Ķx3D@¸&,#B3¢**V.*.M*.M*.M*;3wm]4z,#S4ķ>+#&#>+#&,#^V.V.@ĸ&,#.*;.Ö;;x^n.V.M*.*;.*;%X52'!$!%16(!!%Aĳ!(!)ÇC%1·$(!%R!!9'!'(!'(!$(!%AY[§(!QfĴ51'!$!51'!$(!)29'9'ĵ$(!$!$Z_C)250'9'(!$!$!"
theorem rO(Z:cJ mg)(hK:(fq K).isSome=true)(T:Top K mg "least_name" jm)(eX:Def P w K mg base CX0 1 "standing" ["held","name"] (spM aO)):Def P w K mg base CX0 4 "least_name" ["pile"] (spM fT):=by
 have LL:mg "min"=none:=Z _ (by decide+kernel)
 have LM:mg "len"=none:=Z _ (by decide+kernel)
 refine T.Rk hK rfl (by decide+kernel) rD (λvs H Q E h=>bK h) (by fail "Qb") λf cdv A outer s H vs Q E hL hr h=>?_
 have hu:=hr.units;exact⟨_,(wg (K4 (peq K hu (fu (sk (K:=K) rfl) rfl LM zaE (pa1 (pix K (pv 0)))) yR)
   (tU wj)
   AA)
   (tU (DO (JJ (k:=1) (fr:=[("pile",0)]) ⟨rfl,rfl,rfl,rfl,rfl,rfl,by decide+kernel⟩ hL (hr.mono (by lia)) rfl LL (pix K (pv 0)) (λ_ _ _ _=>(pj eX (hr.lam (by lia) _) (oI (pix K (pv 1)) (pa1 (pv 0))))) (λ_ _ _ _ _=>rfl))))),
   EC (n:=1) (k:=0) (Eu (Lb (oJ (dG Px (il Le (ma1 (mix pz))) zb))
   wH
   AN)
   (Ex (JK (mix pz) (AJ (uo (mix pz) (ma1 pz)))))) rfl h⟩
theorem K0(Z:cJ mg)(T:Top K mg "hang" Ag) :Def P w K mg base CX0 1 "hang" ["held","name","on"] (spQ vb):=by
 refine T.def BM (λvs H Q E h=>gM h) (by fail "Qb") λf cdv A outer s H vs Q E hr h=>?_
 have hu:=hr.units;have hd:=BM.nd
 fail " ¡313D@7##B3¢**V.M*.*.È.M*;3D@7##B¢**V.M*.M*.M*.@Ü,#G&#;%16!!%R!!9'(!'!'H$(!%16!!)R!!9'(!'(!'(!$Û(!9$!"
theorem rP(Z:cJ mg)(T:Top K mg "hang_alike" jn)(d0:Def P w K mg base CX0 1 "hang" ["held","name","on"] (spQ vb))(d1:Def P w K mg base CX0 1 "standing" ["held","name"] (spM aO)):Def P w K mg base CX0 2 "hang_alike" ["pile"] (spQ fU):=by
 refine T.def k8 (λvs H Q E h=>gM h) (by fail "Qb") λf cdv A outer s H vs Q E hr h=>?_
 have hu:=hr.units;have hd:=k8.nd
 fail " ¡173D@¸&,#B3D@ÀB3DÖ;B3õM*B3D*B3Ĺm4ôK&,7###3D÷*.@K&,7##;B3wm4»>+#&#>+#&#3D*B3D*BD*Bx3²n.*.*.*;²×*.V.ø.*.*;;¢*@K&,7##*^V.V.@¥Õ,#4z,7##S#.*;.*;%1·$(!%1¼%1Z_%W¯(!:%1!%¹¦óI$(6!!!%1ö!$I$(6!!%AÐ51'!$!51'!$!%1!%1!)1!C%X50'!'!$!)Xy!$9'a'!$!)R!I$(6!!!)29'9'|¯(!³§(6!!Q!$!$!"
theorem yA(Z:cJ mg)(T:Top K mg "take_top" lH)(d0:Def P w K mg base CX0 2 "hang_alike" ["pile"] (spQ fU))(d1:Def P w K mg base CX0 1 "as_top" ["row"] (spM iL)):Def P w K mg base CX0 3 "take_top" ["pile","name"] (spQ dW):=by
 refine T.def om (λvs H Q E h=>gM h) (by fail "Qb") λf cdv A outer s H vs Q E hr h=>?_
 have hu:=hr.units;have hd:=om.nd
 fail " ¡263D@¸&,#B3D÷*.*;B3D@¥Õ,#4t###B3DÖ;B3ùĺ,#B3¢**@>&7##3²×*.*;²×*.V.ø.*;;3Dn.V.*.*;;B^V.M*.M*.@U#,#;%1·$(!%1ö!$!%â¯(!³p!!!%1Z_%WÊ(!:%R!!51$6!!%Xy!$!)Xy!$9'a$!%150$9'!$!)29'(!'(!$T!(!"
theorem rQ(Z:cJ mg)(T:Top K mg "take_least" jo)(d0:Def P w K mg base CX0 3 "take_top" ["pile","name"] (spQ dW))(d1:Def P w K mg base CX0 4 "least_name" ["pile"] (spM fT)):Def P w K mg base CX0 5 "take_least" ["pile"] (spQ fV):=by
 refine T.def k9 (λvs H Q E h=>gM h) (by fail "Qb") λf cdv A outer s H vs Q E hr h=>?_
 have hu:=hr.units;have hd:=k9.nd
 fail " ¡123D@>&#B3Dn.*.*;B^V.*.M*.M*.M*;%151$!%150'!$!)29'!'(!'(!$(!"
theorem An(Z:cJ mg)(T:Top K mg "put_out" nD)(d0:Def P w K mg base CX0 3 "take_top" ["pile","name"] (spQ dW))(d1:Def P w K mg base CX0 2 "cut_off" ["pile","name"] (spQ f7))(d2:Def P w K mg base CX0 1 "hold_there" ["pile","name"] (spM cy)):Def P w K mg base CX0 4 "put_out" ["pile","name"] (spQ kI):=by
 refine T.def qQ (λvs H Q E h=>gM h) (by fail "Qb") λf cdv A outer s H vs Q E hr h=>?_
 have hu:=hr.units;have hd:=qQ.nd
 fail " ¡223²@>+#&#3wm4z,7,##S^n.*.*;x3Dn.*.*;B3Dn.M*.*;B^V.M*.M*.@U,#,#;%X52'!$!%A§(6(!!Q)250'!$!C%151'!$!%150'(!$!)29'(!'(!$T(!(!"
theorem yB(Z:cJ mg)(T:Top K mg "_law_deed" lI)(d0:Def P w K mg base CX0 3 "make_less" ["pile","name","key"] (spQ c7))(d1:Def P w K mg base CX0 4 "put_out" ["pile","name"] (spQ kI))(d2:Def P w K mg base CX0 5 "take_least" ["pile"] (spQ fV))(d3:Def P w K mg base CX0 1 "_law_key_by" ["_law_number"] (spM bB))(d4:Def P w K mg base CX0 1 "_law_name_by" ["_law_k"] (spM a9))(d5:Def P w K mg base CX0 2 "pile_put" ["pile","name","key"] (spD gw)):Def P w K mg base CX0 6 "_law_deed" ["_law_pile","_law_k","_law_cell"] (spQ i8):=by
 refine T.def oq (λvs H Q E h=>gM h) (by fail "Qb") λf cdv A outer s H vs Q E hr h=>?_
 have hu:=hr.units;have hd:=oq.nd
 fail " ¡333D@=#0B3D@ß&,#B3wm]4`#bhÁ4`=#004eK&#0^ú.*.@>&U0#.@>&#;x3Dû*@=#K&#B3wm]4`=#004`=#00^Mn.*;x3wm4`=#00^Mn.*.*;x^Mn.*.*.@~~,7,##0=#=00;%1u!/%1Þ$(!%AY[g!Z_fY½gJ!//¾ÓI$!/)2Ï5'!'54$T/!$53$!C%1o!J!I$!%AY[gJ!//fgJ!//)2(52$!C%AgJ!//)2(51'!$!C)2(50'!'!$}}(6(!!/J!Í//"
theorem ON(NL:oM K=true)(Z:cJ mg)(F:Fun K "law" "law" BN f fd)(d0:Def P w K mg base CX0 4 "_law_right" ["_law_pile"] (spM fB))(d1:Def P w K mg base CX0 6 "_law_deed" ["_law_pile","_law_k","_law_cell"] (spQ i8))(d2:Def P w K mg base CX0 15 "_law_begun" ["_law_cells"] (spD fA)):ou P w K mg base CX0 16 f fd ["_law_script"] (Ec K):=by
 refine ou.imp (sp:=spM LC) ?_ (Ng NL He);refine F.ok Hf (λvs H Q E h=>Ji h) λcdv A outer s H vs Q E hr h=>?_
 have hu:=hr.units;have hd:=Hf.nd
 fail " ļ143Dú.@ä#Ã0Ã0;Ľüüľ3DV.*.*;B3wm±d>&#^Èx3ù¨&Ŀ+0&K&#B3Dn.*.*.û**;Bwm±d>&#^Èx^È%¤Ï2$ã!Â/Â/iE:E:j%19'!$!%A°c50$!)2HC%W£$Ļ'/$I$!:%151'!'!$o!!)A°c50$!)2HC)2H"
end
end K77
open PySem.W PyProof.Rows
set_option maxRecDepth 100000 in
set_option maxHeartbeats 0 in
theorem PySem.Challenge.cw_creditworks_k77_whole_names_that_come_holds : PySem.Challenge.rw_creditworks_k77_whole_names_that_come.Holds := by
 w_on;o_law;k_head;(case hw=>w_witness2)
 k_fill
 refine L2.Ed (l:=PySem.Challenge.rw_creditworks_k77_whole_names_that_come) (k:=16) (x:="_law_script") (st:=K77.BN) rfl rfl ⟨rfl,by decide,by decide⟩ (λw h Y=>⟨PySem.W.km_in_of Y,L2.JL (by kernel_rfl) (PySem.W.km_tabs_of Y)⟩) (λ_ _ _ _ _ _ _=>rfl) ?F
 case F=>
  intro w mg h KX G;have hK:(L2.fq (L2.KOf KX)).isSome=true:=by
   dsimp only[L2.KOf]
   kernel_rfl
  have Ao:L2.Top (L2.KOf KX) mg "_law_like" K77.lD:=by
   fail "q0"
  have Dv:L2.Top (L2.KOf KX) mg "_law_cut" K77.nv:=by
   fail "q0"
  have vL:L2.Top (L2.KOf KX) mg "_law_before" K77.jf:=by
   fail "q0"
  have Ap:L2.Top (L2.KOf KX) mg "_law_hung" K77.lE:=by
   fail "q0"
  have rR:L2.Top (L2.KOf KX) mg "_law_name_by" K77.hU:=by
   fail "q0"
  have vM:L2.Top (L2.KOf KX) mg "_law_key_by" K77.jg:=by
   fail "q0"
  have yC:L2.Top (L2.KOf KX) mg "_law_built" K77.kq:=by
   fail "q0"
  have yE:L2.Top (L2.KOf KX) mg "_law_grown" K77.ku:=by
   fail "q0"
  have yF:L2.Top (L2.KOf KX) mg "_law_begun" K77.kz:=by
   fail "q0"
  have rT:L2.Top (L2.KOf KX) mg "_law_many_to" K77.hZ:=by
   fail "q0"
  have vN:L2.Top (L2.KOf KX) mg "most_below" K77.ji:=by
   fail "q0"
  have vO:L2.Top (L2.KOf KX) mg "hangs_well" K77.jj:=by
   fail "q0"
  have Aq:L2.Top (L2.KOf KX) mg "standing" K77.lF:=by
   fail "q0"
  have qU:L2.Top (L2.KOf KX) mg "ties_in_form" K77.gD:=by
   fail "q0"
  have qV:L2.Top (L2.KOf KX) mg "comes_to_top" K77.gE:=by
   fail "q0"
  have qW:L2.Top (L2.KOf KX) mg "pile_in_form" K77.gF:=by
   fail "q0"
  have mB:L2.Top (L2.KOf KX) mg "_law_child_right" K77.eI:=by
   fail "q0"
  have rV:L2.Top (L2.KOf KX) mg "_law_in_form" K77.h8:=by
   fail "q0"
  have vP:L2.Top (L2.KOf KX) mg "_law_row_at" K77.jk:=by
   fail "q0"
  have yG:L2.Top (L2.KOf KX) mg "_law_right" K77.kC:=by
   fail "q0"
  have Dw:L2.Top (L2.KOf KX) mg "is_name" K77.ny:=by
   fail "q0"
  have Ar:L2.Top (L2.KOf KX) mg "pile_put" K77.lG:=by
   fail "q0"
  have vQ:L2.Top (L2.KOf KX) mg "hold_there" K77.jl:=by
   fail "q0"
  have qX:L2.Top (L2.KOf KX) mg "names_to_cut" K77.gH:=by
   fail "q0"
  have Dx:L2.Top (L2.KOf KX) mg "without" K77.nA:=by
   fail "q0"
  have Hg:L2.Top (L2.KOf KX) mg "as_top" K77.qO:=by
   fail "q0"
  have yH:L2.Top (L2.KOf KX) mg "with_mark" K77.kD:=by
   fail "q0"
  have Dy:L2.Top (L2.KOf KX) mg "cut_off" K77.nC:=by
   fail "q0"
  have yI:L2.Top (L2.KOf KX) mg "make_less" K77.kE:=by
   fail "q0"
  have vR:L2.Top (L2.KOf KX) mg "least_name" K77.jm:=by
   fail "q0"
  have OO:L2.Top (L2.KOf KX) mg "hang" K77.Ag:=by
   fail "q0"
  have vS:L2.Top (L2.KOf KX) mg "hang_alike" K77.jn:=by
   fail "q0"
  have As:L2.Top (L2.KOf KX) mg "take_top" K77.lH:=by
   fail "q0"
  have vT:L2.Top (L2.KOf KX) mg "take_least" K77.jo:=by
   fail "q0"
  have Dz:L2.Top (L2.KOf KX) mg "put_out" K77.nD:=by
   fail "q0"
  have Au:L2.Top (L2.KOf KX) mg "_law_deed" K77.lI:=by
   fail "q0"
  have QI:L2.Top (L2.KOf KX) mg "law" K77.BN:=by
   fail "q0"
  have Ry:mg "all"=none:=by
   refine' za0 KX G ?z
   (case z=>k_is)
  have Rw:mg "dict"=none:=by
   refine' za0 KX G ?z
   (case z=>k_is)
  have LN:mg "enumerate"=none:=by
   refine' za0 KX G ?z
   (case z=>k_is)
  have Rz:mg "int"=none:=by
   refine' za0 KX G ?z
   (case z=>k_is)
  have K1:mg "isinstance"=none:=by
   refine' za0 KX G ?z
   (case z=>k_is)
  have LM:mg "len"=none:=by
   refine' za0 KX G ?z
   (case z=>k_is)
  have Rx:mg "list"=none:=by
   refine' za0 KX G ?z
   (case z=>k_is)
  have RB:mg "max"=none:=by
   refine' za0 KX G ?z
   (case z=>k_is)
  have LL:mg "min"=none:=by
   refine' za0 KX G ?z
   (case z=>k_is)
  have QK:mg "range"=none:=by
   refine' za0 KX G ?z
   (case z=>k_is)
  have RC:mg "set"=none:=by
   refine' za0 KX G ?z
   (case z=>k_is)
  have QJ:mg "sorted"=none:=by
   refine' za0 KX G ?z
   (case z=>k_is)
  have RD:mg "str"=none:=by
   refine' za0 KX G ?z
   (case z=>k_is)
  have QL:mg "tuple"=none:=by
   refine' za0 KX G ?z
   (case z=>k_is)
  have Z:K77.cJ mg:=by
   intro x hx;simp only[List.mem_cons,List.not_mem_nil,or_false]at hx;rcases hx with rfl|rfl|rfl|rfl|rfl|rfl|rfl|rfl|rfl|rfl|rfl|rfl|rfl|rfl<;>assumption
  have NL:Mir.oM (L2.KOf KX)=true:=by
   dsimp only[L2.KOf]
   first|rfl|kernel_rfl|k_is
  refine⟨QI,λf fd Ff base kb gb=>?_⟩
  have Av:=K77.yx zah w base Z Ao;have DA:=K77.Ah zah w base Z Dv;have vU:=K77.rE zah w base Z vL;have Aw:=K77.yy zah w base Z Ap;have fk:=K77.qR zah w base Z rR;have jq:=K77.rF zah w base Z vM;have vV:=K77.rG zah w base Z yC DA Aw vU jq fk Av;have yJ:=K77.mz zah w base Z yE fk 12;have vW:=K77.rH zah w base Z yF jq fk yJ vV;have rW:=K77.qS zah w base Z rT;have vX:=K77.rJ zah w base Z vN;have vY:=K77.rK zah w base Z vO;have eX:=K77.yz zah w base Z Aq;have qY:=K77.oE zah w base Z qU vY eX;have qZ:=K77.oF zah w base Z qV;have q0:=K77.oG zah w base Z qW qZ qY;have mD:=K77.lJ zah w base Z mB;have rX:=K77.qT zah w base Z rV mD;have vZ:=K77.rM zah w base Z vP;have yK:=K77.vH zah w base Z yG vZ vX rW rX q0;have DB:=K77.Ai zah w base Z Dw;have yL:=K77.vI zah w base Z Ar DB
  have mE:=K77.rN zah w base Z vQ;have q8:=K77.oH zah w base Z qX;have DC:=K77.Aj zah w base Z Dx;have yM:=K77.Du zah w base Z Hg;have yN:=K77.vJ zah w base Z yH;have tR:=K77.Ak zah w base Z Dy yN yM DC q8;have yO:=K77.vK zah w base Z yI tR eX mE;have v3:=K77.rO zah w base Z hK vR eX;have OP:=K77.K0 zah w base Z OO;have v5:=K77.rP zah w base Z vS OP eX;have q9:=K77.yA zah w base Z As v5 yM;have v7:=K77.rQ zah w base Z vT q9 v3;have DD:=K77.An zah w base Z Dz q9 tR mE;have Ax:=K77.yB zah w base Z Au yO DD v7 jq fk yL;exact K77.ON _ _ _ NL Z Ff yK Ax vW
