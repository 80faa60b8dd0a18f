import PyProof.Rows.All
import Wide.All
import OpenK.AllK
import Wide.FinOn
import Lean
import PyProof.EqAt
import PyProof.EqKinds
import PyProof.TupleCall
import KE.KLam
import KE.KNestM
import KE.KTryMore
import PyProof.ZipIter
import KE.KDictLaws
import KE.KDictList
import PyProof.Rows.SetFrom
import PyProof.DictWalks
import PyProof.Rows.StrInSeq3
import PyProof.EnumMake
import PyProof.Rows.EnumRows
import PyProof.DictItems
import PyProof.FString5
import PyProof.MeetsDictList
import KE.KMinKey
import PyProof.StrWalks
import PyProof.DictUpdate
import PyProof.NeKinds
import PyProof.FactsAll.dict_1
import PyProof.FactsAll.dict_2
import KE.KSortTup
import PyProof.Rows.SortRunsK
import PyProof.Rows.SortShellK
import PyProof.Rows.SortKeyStr
import KE.KDictSum
import PySem.Challenge.RW_creditworks_k78_whole_piles
set_option Elab.async false
set_option linter.all false
set_option maxRecDepth 100000
set_option hygiene false
local macro_rules | `(tactic|walk_at "q0")=>`(tactic|(
 dsimp only[L2.KOf];refine' L2.Top.mk' KX G ?a ?l ?c ?k
 (case a=>k_is);(case l=>k_is);(case c=>k_is);(case k=>k_is)))
local macro_rules | `(tactic|walk_at "q1")=>`(tactic|(
 refine zaI ?_;unfold Builtin.Dict.dictSlotArgs;refine zaI (wpAny_notOrdered_dict C ?_);show wpAny _ _ (pure (Value.ref l,Value.ref b)) _ _ s;refine zaZ ?_;dsimp only;refine zaI (wpAny_isInstance D (b:=true) (by rw[isSubtype_type];kernel_rfl) ?_)
 show wpAny _ _ (Builtin.Dict.samePairs _ l b>>=_) _ _ s;refine zaI ?_;unfold Builtin.Dict.samePairs;have X:∀(d:Addr) (Q:Unit->Shared->Prop),(d==sysModules)=false->Q () s->wpAny (model prog w) A (Builtin.Dict.showsAll d) Q E s:=λd Q h q=>by
  unfold Builtin.Dict.showsAll;rw[if_neg (by rw[h];exact zam)]
  exact zaZ q
 refine zaI (X l _ O ?_);refine zaI (X b _ M ?_);refine zaI (wpAny_dictEntries ho hd ?_);refine zaI (wpAny_dictEntries a f ?_);dsimp only))
local macro_rules | `(tactic|walk_at "q2")=>`(tactic|(
 refine ha.sv F B H σ ρ x.1 x.2 _ R G λv E C A f L W=>?_))
local macro_rules | `(tactic|walk_at "q3")=>`(tactic|(
 obtain⟨x,G,e⟩:=zaa e;obtain⟨y,S,e⟩:=zaa e))
local macro_rules | `(tactic|walk_at "q4")=>`(tactic|(
 intro G A B H σ s Z Q R e q;refine iG (t:=I) ha R e q λx v L N P s1 g1 X i l f j=>?_))
local macro_rules | `(tactic|walk_at "q5")=>`(tactic|(
 intro G A B H σ s r0 Q R e q;refine iG (t:=t) h R e q λvs xs C j D s1 g1 eB1 b y i l=>?_))
local macro_rules | `(tactic|walk_at "q6")=>`(tactic|(
 intro F B H σ ρ o D R e q;obtain⟨x,f,e⟩:=zaa e))
local macro_rules | `(tactic|walk_at "q7")=>`(tactic|(
 refine codeAny_builtin PySem.F.entry_min_loop ?_;rw[Around.under_plainId PySem.F.plain_min_loop _]))
local macro_rules | `(tactic|walk_at "q8")=>`(tactic|(
 intro X G L F l i V0 s σ H E I f st g;subst G L F))
local macro_rules | `(tactic|walk_at "q9")=>`(tactic|(
 refine h F B H σ ρ x.1 x.2 _ R G λvs B1 b a X I=>?_
 obtain⟨l,R2,g,A⟩:=Rel.LD X I.weak S))
local macro_rules | `(tactic|walk_at "qa")=>`(tactic|(
 intro F B H σ ρ N ρ' Q R e q;obtain⟨x,G,e⟩:=zaa e;obtain⟨l,b,e⟩:=zab e;cases e))
local macro_rules | `(tactic|walk_at "qb")=>`(tactic|(
 ·rcases h with h|⟨o',h⟩
  ·exact .inl (by rw[au z];exact h)
  ·exact .inr ⟨o',by rw[au z];exact h⟩))
local macro_rules | `(tactic|walk_at "qc")=>`(tactic|(
 intro G A B H σ s M Q R e q;refine iG (t:=I) ha R e q λx v F L H1 s1 g1 X f l b w=>?_
 split at b))
local macro_rules | `(tactic|walk_at "qd")=>`(tactic|(
 obtain⟨v,rfl,b⟩:=iH h;obtain⟨p,xs,rfl,d,a⟩:=b.list s))
set_option hygiene true
noncomputable section
open PySem
def zaa(h:o.bind f=some b):∃a,o=some a/\f a=some b:=Option.bind_eq_some_iff.mp h
def zab(h:o.map f=some b):∃a,o=some a/\f a=b:=Option.map_eq_some_iff.mp h
def zac{l:List α}{i:Nat}(h:l[i]?=some a):∃h:i<l.length,l[i]=a:=List.getElem?_eq_some_iff.mp h
def zad(h:a∈[b]):a=b:=List.mem_singleton.mp h
def zae{s t:List α}(h:a∈s++t):a∈s\/a∈t:=List.mem_append.mp h
def zaf(h:a∈b::l):a=b\/a∈l:=List.mem_cons.mp h
abbrev zag:=PySem.W.Frag
abbrev zah:=PySem.Challenge.rw_creditworks_k78_whole_piles.prog
section
open PySem.Spec PyProof.Rows
def zai:=@Option.bind_some
def zaj:=@List.mem_of_getElem?
def zak:=@List.mem_cons_of_mem
def zal:=@List.length_map
def zam:=@Bool.false_ne_true
def zan:=@List.mem_append_right
def zao:=@List.getElem?_map
def zap:=@Nat.le_refl
def zaq:=@Heap.lt_size
def zar:=@Heap.get?_push_of_some
def zas:=@List.mem_cons_self
def zat:=@List.getElem?_cons_succ
def zau:=@List.length_append
def zav:=@List.getElem?_set_self
def zaw:=@List.length_cons
def zax:=@List.getElem?_append_left
def zaz:=@List.map_cons
def zaA:=@List.getElem?_set_ne
def zaB:=@PyProof.Rows.boot_isinstance
def zaC:=@List.getElem?_eq_getElem
def zaD:=@List.append_assoc
def zaE:=@PySem.boot_len
def zaF:=@Nat.lt_of_lt_of_le
def zaG:=@List.eq_of_mem_replicate
def zaH:=@decide_eq_true
def zaI:=@wpAny_bind
def zaJ:=@PySem.F.plainAttrs_list
def zaK:=@List.size_toArray
def zaL:=@Heap.get?_push_size
def zaM:=@List.length_set
def zaN:=@List.getElem?_append_right
def zaO:=@decide_eq_false
def zaQ:=@Option.some.inj
def zaR:=@List.append_nil
def zaS:=@Nat.ne_of_lt
def zaT:=@Option.map_some
def zaU:=@PySem.F.type_list_append
def zaV:=@PySem.F.slot_list_append
def zaW:=@List.mem_append_left
def zaX:=@Nat.le_trans
def zaY:=@List.length_filter_le
def zaZ:=@wpAny_pure
def za0:=@PySem.W.mg_none_of
def za1:=@List.map_append
def za3:=@Nat.lt_irrefl
def za4:=@PySem.W.kia_one
def za5:=@PySem.mem_of_lookup
def za6:=@wpAny_mono
def za7:=@List.length_singleton
def za8:=@List.lookup_cons
def za9:=@List.Nodup.mem_erase_iff
def zba:=@Nat.le_of_not_lt
def zbb:=@List.drop_eq_getElem_cons
def zbc:=@List.replicate_succ
end
namespace L2
open PySem.Spec PyProof.Rows
abbrev Key:=Sum Int Str
def qT:Key->Value->Bool
 | .inl k,v=>Value.isInt k v
 | .inr x,v=>Value.isStrOf x v
def PU(w:World):Key->Int
 | .inl k=>hashInt k
 | .inr x=>hashStr w x
theorem cS:∀{k:Key} {v:Value},qT k v=true->(∃i t,k=Sum.inl i/\v=Value.int i t)\/(∃x t,k=Sum.inr x/\v=Value.str x t)
 | .inl i,v,h=>by
  obtain⟨t,e⟩:=Value.isInt_shape (k:=i) (v:=v) h;exact .inl ⟨i,t,rfl,e⟩
 | .inr x,v,h=>by
  obtain⟨t,e⟩:=Value.isStrOf_shape (x:=x) (v:=v) h;exact .inr ⟨x,t,rfl,e⟩
theorem CN(i:Int)(t:Tok):qT (.inl i) (.int i t)=true:=by simp[qT,Value.isInt]
theorem CO(x:Str)(t:Tok):qT (.inr x) (.str x t)=true:=by simp[qT,Value.isStrOf]
theorem LG(a b:Int):decide ((Sum.inl a:Key)=Sum.inl b)=(a==b):=by
 by_cases e:a=b
 ·subst e;simp
 ·have h : ¬(Sum.inl a:Key)=Sum.inl b:=λq=>e (Sum.inl.inj q)
  rw[zaO h];exact(beq_eq_false_iff_ne.mpr e).symm
theorem LH(a b:Str):decide ((Sum.inr a:Key)=Sum.inr b)=decide (a=b):=by
 by_cases e:a=b
 ·subst e;simp
 ·have h : ¬(Sum.inr a:Key)=Sum.inr b:=λq=>e (Sum.inr.inj q)
  rw[zaO h,zaO e]
def LI(a:Int)(b:Str):decide ((Sum.inl a:Key)=Sum.inr b)=false:=zaO (λq=>nomatch q)
def LK(a:Str)(b:Int):decide ((Sum.inr a:Key)=Sum.inl b)=false:=zaO (λq=>nomatch q)
def bX(prog:Program)(w:World):PySem.KeyKind prog w Key where
 is:=qT
 hash:=PU w
 inj:=λv a b ha hb=>by
  rcases cS ha with⟨i,t,rfl,rfl⟩|⟨x,t,rfl,rfl⟩
  ·rcases cS hb with⟨j,u,rfl,e⟩|⟨y,u,rfl,e⟩
   ·injection e with e1 _;rw[e1]
   ·exact nomatch e
  ·rcases cS hb with⟨j,u,rfl,e⟩|⟨y,u,rfl,e⟩
   ·exact nomatch e
   ·injection e with e1 _;rw[e1]
 byValue:=λk v h=>by
  rcases cS h with⟨i,t,rfl,rfl⟩|⟨x,t,rfl,rfl⟩<;>rfl
 pyHash:=λhv h=>by
  rcases cS hv with⟨i,t,rfl,rfl⟩|⟨x,t,rfl,rfl⟩
  ·exact wpAny_pyHash_int h
  ·exact wpAny_pyHash_str h
 eqBool:=λhu hv h=>by
  rcases cS hu with⟨i,t,rfl,rfl⟩|⟨x,t,rfl,rfl⟩
  ·rcases cS hv with⟨j,u,rfl,rfl⟩|⟨y,u,rfl,rfl⟩
   ·rw[LG]at h;exact wpAny_eqBool_int h
   ·rw[LI]at h;exact SeqAt.EqAt.int_str i t y u _ _ _ _ h
  ·rcases cS hv with⟨j,u,rfl,rfl⟩|⟨y,u,rfl,rfl⟩
   ·rw[LK]at h;exact SeqAt.EqAt.str_int x t j u _ _ _ _ h
   ·rw[LH]at h;exact wpAny_eqBool_str h
 «strs»:=λk x t v h=>by
  rcases cS h with⟨i,u,rfl,e⟩|⟨y,u,rfl,e⟩
  ·exact nomatch e
  ·injection e with e1 _
   subst e1;cases v<;>rfl
def zq(prog:Program)(w:World)(k:Key)(v:Value):(bX prog w).is k v=qT k v:=rfl
def wV(prog:Program)(w:World)(i:Int)(t:Tok):(bX prog w).is (.inl i) (.int i t)=true:=CN i t
def wW(prog:Program)(w:World)(x:Str)(t:Tok):(bX prog w).is (.inr x) (.str x t)=true:=CO x t
inductive V where
 |non|bl (b:Bool)|int (i:Int)|str (x:Str)|byt (b:Array UInt8)|flt (b:UInt64)|ref (a:Addr)|ty (n:String)
 deriving DecidableEq
def RelV:V->Value->Prop
 | .non,u=>u=Value.none
 | .bl b,u=>u=Value.bool b
 | .int i,u=>∃t,u=Value.int i t
 | .str x,u=>∃t,u=Value.str x t
 | .byt b,u=>∃t,u=Value.bytes b t
 | .flt b,u=>∃t,u=Value.float b t
 | .ref a,u=>u=Value.ref a
 | .ty n,u=>u=Value.type n
abbrev Vals:List V->List Value->Prop:=Paired RelV
theorem Vals.length(r:Vals xs us):xs.length=us.length:=Paired.length r
theorem Vals.get:∀{xs:List V} {us:List Value} {i:Nat} {x:V},Vals xs us->xs[i]?=some x->∃u,us[i]?=some u/\RelV x u
 |_,_,_,_,.nil,e=>by simp at e
 |_,_,0,_,.cons r _,e=>by simp at e;subst e;exact⟨_,rfl,r⟩
 |_,_,i+1,x,.cons _ t,e=>by
  obtain⟨u,a,b⟩:=Vals.get (i:=i) (x:=x) t (by simpa using e)
  exact⟨u,by simpa using a,b⟩
theorem Vals.set(r:RelV x u):∀{xs:List V} {us:List Value} (i:Nat),Vals xs us->Vals (xs.set i x) (us.set i u)
 |_,_,_,.nil=>.nil
 |_,_,0,.cons _ t=>.cons r t
 |_,_,i+1,.cons q t=>.cons q (Vals.set r i t)
theorem Vals.append:∀{xs I:List V} {us ws:List Value},Vals xs us->Vals I ws->Vals (xs++I) (us++ws)
 |_,_,_,_,.nil,s=>s
 |_,_,_,_,.cons r t,s=>.cons r (Vals.append t s)
theorem Vals.take:∀{xs:List V} {us:List Value} (n:Nat),Vals xs us->Vals (xs.take n) (us.take n)
 |_,_,0,_=>.nil
 |_,_,_+1,.nil=>.nil
 |_,_,n+1,.cons r t=>.cons r (Vals.take n t)
theorem Vals.drop:∀{xs:List V} {us:List Value} (n:Nat),Vals xs us->Vals (xs.drop n) (us.drop n)
 |_,_,0,r=>r
 |_,_,_+1,.nil=>.nil
 |_,_,n+1,.cons _ t=>Vals.drop n t
def qv:Option V->Option Value->Prop
 |some v,some u=>RelV v u
 |none,none=>True
 |_,_=>False
def KV{κ:Type}:List (κ×V)->List (κ×Value)->Prop:=Paired λ(p : κ×V) (q : κ×Value)=>p.1=q.1/\RelV p.2 q.2
def kV:Key->V
 | .inl i=>.int i
 | .inr x=>.str x
inductive HO where
 |lst (xs:List V)
 |tup (xs:List V)
 |dK (Z0:List (Key×V))|dT (Z0:List (List Key×V))
 |set (S:Int->Bool) (n:Nat)
 |ins (C dx:Addr) (fs:List (Str×V))
 |own (x:Addr)
 |xd (fs:List (Str×V))
 |met (f x:Addr)
 |rng (lo hi:Int)
 |frz (o:Obj) (u:HO)
 |tbl (ps:Array Value)
 |ext (φ:Heap->Prop)
def Kp:HO->Prop
 | .tup _=>True
 | .tbl _=>True
 |_=>False
abbrev Hp:=Addr->Option HO
def upd(H:Hp)(a:Addr)(o:HO):Hp:=λb=>if b=a then some o else H b
theorem ay:upd H a o a=some o:=by unfold upd;rw[if_pos rfl]
theorem au(h:b≠a):upd H a o b=H b:=by unfold upd;rw[if_neg h]
theorem Ob{H:Hp}(h:H a=some o)(h':H b=some u)(d:o≠u):a≠b:=by
 intro e;subst e;rw[h]at h';exact d (zaQ h')
theorem d7{H:Hp}(h:H a=some o)(h':H b=none):a≠b:=by
 intro e;subst e;rw[h]at h';cases h'
section
variable(P:Program)(w:World)
def bY(H:Hp)(h:Heap)(a:Addr):HO->Prop
 | .lst xs=>xs.length<=sizeLine/\∃(D:List Value) (n:Nat),Vals xs D/\h.get? a=some {cls:=.type "list",data:=.seq D.toArray n}
 | .tup xs=>xs.length<=sizeLine/\∃D:List Value,Vals xs D/\IsTup h a D.toArray
 | .dK Z0=>Z0.length<=sizeLine/\(a==sysModules)=false/\∃vs,KV Z0 vs/\h.DictOf (bX P w) a vs
 | .dT Z0=>Z0.length<=sizeLine/\(a==sysModules)=false/\∃xs:List (List Key×Addr×Value),
   Paired (λ(p:List Key×V) (q:List Key×Addr×Value)=>p.1=q.1/\H q.2.1=some (.tup<|p.1.map kV)/\RelV p.2 q.2.2) Z0 xs/\
   ∃o es ep,h.get? a=some o/\o.ExactDict/\o.data=.dict es ep/\es.toList=xs.map (entryOfKey<|tupleKind<|bX P w)/\(xs.map (·.1)).Nodup
 | .set S n=>h.SetOf (intKind P w) a S n
 | .ins C dx fs=>H dx=some (.own a)/\fs.length<=1000/\dx≠a/\h.get? a=some (PySem.W.instObj C dx)/\
   ∃mA,h.Ns1 dx mA/\(∀f,qv (fs.lookup f)<|mA f)/\PySem.Within mA (fs.map (·.1))
 | .own _=>∃o,h.get? a=some o
 | .xd fs=>∃mA,h.Ns1 a mA/\∀f,qv (fs.lookup f) (mA f)
 | .rng lo hi=>∃t u v,h.get? a=some {cls:=.type "range",data:=.fields #[.int lo t,.int hi u,.int 1 v]}
 | .frz o u=>h.get? a=some o/\bY H h a u
 | .tbl ps=>(ps[0]?=some .none/\∃q t,ps[1]?=some (.str q t)/\h.CodeRec (.ref a) q)\/
   (ps[0]?≠some .none/\∃G,h.get? a=some {cls:=.none,data:=.fields G}/\(G=#[]\/∃c q t more,G=#[ps.getD 0 .none,ps.getD 1 .none,.ref c]/\ps[2]?=some (.str q t)/\H c=some (.tbl<|#[.none,.str q t]++more)))
 | .met f x=>h.get? a=some (PySem.W.methodObj (.ref f)<|.ref x)
 | .ext φ=>φ h/\(∃o,h.get? a=some o)/\∀J L:Heap,φ J->(∀o,J.get? a=some o->L.get? a=some o)->φ L
def HOk(H:Hp)(h:Heap):Prop:=∀a o,H a=some o->bY P w H h a o
end
section
variable{P:Program}{w:World}{H H':Hp}{h h':Heap}{a:Addr}{o:HO}
theorem bY.lt(x:bY P w H h a o):a<h.objs.size:=by
 cases o with
 |lst xs=>obtain⟨_,_,_,_,e⟩:=x;exact zaq e
 |tup xs=>obtain⟨_,_,_,p⟩:=x;exact p.lt
 |dK Z0=>obtain⟨_,_,_,_,o,_,_,e,_⟩:=x;exact zaq e
 |dT Z0=>obtain⟨_,_,_,_,o,_,_,e,_⟩:=x;exact zaq e
 |set S n=>obtain⟨o,_,_,_,e,_⟩:=x;exact zaq e
 |ins C dx fs=>obtain⟨_,_,_,e,_⟩:=x;exact zaq e
 |own y=>obtain⟨_,e⟩:=x;exact zaq e
 |xd fs=>obtain⟨_,⟨_,_,_,e,_⟩,_⟩:=x;exact zaq e
 |rng lo hi=>obtain⟨_,_,_,e⟩:=x;exact zaq e
 |frz ob u=>obtain⟨e,_⟩:=x;exact zaq e
 |tbl ps=>
  rcases x with⟨_,_,_,_,_,_,_,_,b,e,_⟩|⟨_,_,e,_⟩
  ·cases b;exact zaq e
  ·exact zaq e
 |met f y=>exact zaq (show h.get? a=some _ from x)
 |ext φ=>obtain⟨_,⟨_,e⟩,_⟩:=x;exact zaq e
theorem Paired.LL:∀{I:List α} {M:List O},Paired F I M->(∀a b,F a b->G a b)->Paired G I M
 |_,_,.nil,_=>.nil
 |_,_,.cons r t,f=>.cons (f _ _ r) (Paired.LL t f)
theorem bY.stay(x:bY P w H h a o)(k:∀b u,(b=a\/H b=some (.own a))->h.get? b=some u->h'.get? b=some u)
  (ho:∀b,H b=some (.own a)->H' b=some (.own a)) (I:∀b u,Kp u->H b=some u->H' b=some u):bY P w H' h' a o:=by
 induction o with
 |lst xs=>obtain⟨z,i,n,r,e⟩:=x;exact⟨z,i,n,r,k _ _ (.inl rfl) e⟩
 |tup xs=>obtain⟨z,i,r,ob,e,c⟩:=x;exact⟨z,i,r,ob,k _ _ (.inl rfl) e,c⟩
 |dK Z0=>obtain⟨z,y,vs,r,ob,es,g,e,c⟩:=x;exact⟨z,y,vs,r,ob,es,g,k _ _ (.inl rfl) e,c⟩
 |dT Z0=>
  obtain⟨z,y,xs,r,ob,es,g,e,c⟩:=x;exact⟨z,y,xs,Paired.LL r λp q z=>⟨z.1,I _ _ trivial z.2.1,z.2.2⟩,ob,es,g,k _ _ (.inl rfl) e,c⟩
 |set S n=>obtain⟨ob,es,g,t,e,c⟩:=x;exact⟨ob,es,g,t,k _ _ (.inl rfl) e,c⟩
 |ins C dx fs=>
  obtain⟨d,z,ne,e,mA,⟨od,es,g,s,c⟩,r⟩:=x;exact⟨ho _ d,z,ne,k _ _ (.inl rfl) e,mA,⟨od,es,g,k _ _ (.inr d) s,c⟩,r⟩
 |own y=>obtain⟨ob,e⟩:=x;exact⟨ob,k _ _ (.inl rfl) e⟩
 |xd fs=>obtain⟨mA,⟨od,es,g,e,c⟩,r⟩:=x;exact⟨mA,⟨od,es,g,k _ _ (.inl rfl) e,c⟩,r⟩
 |rng lo hi=>obtain⟨t,u,v,e⟩:=x;exact⟨t,u,v,k _ _ (.inl rfl) e⟩
 |frz ob u F=>obtain⟨e,q⟩:=x;exact⟨k _ _ (.inl rfl) e,F q⟩
 |tbl ps=>
  rcases x with⟨j,q,t,l,c,o,vs,tk,B,E,D⟩|⟨j,G,e,c⟩
  ·cases B
   exact .inl ⟨j,q,t,l,_,o,vs,tk,rfl,k _ _ (.inl rfl) E,D⟩
  ·refine .inr ⟨j,G,k _ _ (.inl rfl) e,?_⟩
   rcases c with c|⟨c,q,t,m,l,s,A⟩
   ·exact .inl c
   ·exact .inr ⟨c,q,t,m,l,s,I _ _ trivial A⟩
 |met f y=>
  have e:h.get? a=some (PySem.W.methodObj (.ref f)<|.ref y):=x;show h'.get? a=some (PySem.W.methodObj (.ref f)<|.ref y);exact k a _ (.inl rfl) e
 |ext φ=>obtain⟨p,⟨o,e⟩,st⟩:=x;exact⟨st _ _ p λo q=>k _ _ (.inl rfl) q,⟨o,k _ _ (.inl rfl) e⟩,st⟩
theorem HOk.lt(x:HOk P w H h)(e:H a=some o):a<h.objs.size:=(x a o e).lt
theorem HOk.fresh(x:HOk P w H h)(e:h.objs.size<=a):H a=none:=by
 cases q:H a with
 |none=>rfl
 |some u=>exact absurd (zaF (x.lt q) e) (za3 _)
def HOk.kept(x:HOk P w H h)(k:∀b u,h.get? b=some u->h'.get? b=some u):HOk P w H h':=λa o e=>
 (x a o e).stay (λb u _ q=>k b u q) (λ_ q=>q) λ_ _ _ q=>q
theorem HOk.laid(x:HOk P w H h)(k:∀b u,h.get? b=some u->h'.get? b=some u)(I:h.objs.size<=a)(new:bY P w (upd H a o) h' a o):HOk P w (upd H a o) h':=λb u e=>by
 have hn:=x.fresh I
 by_cases d:b=a
 ·subst d;rw[ay]at e;cases e;exact new
 ·rw[au d]at e
  exact(x b u e).stay (λc v _ q=>k c v q) (λc q=>by rw[au<|d7 q hn];exact q) λc xs _ q=>by rw[au<|d7 q hn];exact q
end
def Rd(H:Hp)(a:Addr)(u:HO):Prop:=H a=some u\/∃o,H a=some (.frz o u)
theorem Rd.ok(r:Rd H a u)(x:HOk P w H h):bY P w H h a u:=by
 rcases r with r|⟨o,r⟩
 ·exact x a u r
 ·obtain⟨_,q⟩:=x a _ r
  exact q
def Mut:Option HO->Prop
 |some (.lst _)=>True
 |some (.dK _)=>True
 |some (.dT _)=>True
 |some (.set _ _)=>True
 |some (.ins _ _ _)=>True
 |some (.ext _)=>True
 |_=>False
section
variable{P:Program}{w:World}{H:Hp}{h h':Heap}{x e:Addr}{o':HO}
theorem HOk.write(ok:HOk P w H h)(I:Mut<|H x)(O:e=x\/H e=some (.own x))(k:∀b u,b≠e->h.get? b=some u->h'.get? b=some u)(M:∃u,h'.get? e=some u)
  (new:bY P w (upd H x o') h' x o'):HOk P w (upd H x o') h':=λb u q=>by
 have j:∀c y,H c=some (.own y)->c≠x:=λc y r z=>by subst z;rw[r]at I;exact I
 have m:∀c xs,H c=some (.tup xs)->c≠x:=λc xs r z=>by subst z;rw[r]at I;exact I
 by_cases f:b=x
 ·subst f;rw[ay]at q;cases q;exact new
 ·rw[au f]at q
  by_cases a:b=e
  ·have i:H b=some (.own x):=by
    rcases O with z|z
    ·exact absurd (a.trans z) f
    ·rw[a];exact z
   rw[q]at i;cases i
   obtain⟨v,l⟩:=M;exact⟨v,by rw[a];exact l⟩
  ·refine(ok b u q).stay (λc v g r=>k c v ?_ r) (λc r=>by rw[au<|j c b r];exact r) λc v hk r=>by rw[au λz=>by subst z;rw[r]at I;cases v<;>first|exact hk|exact I];exact r
   rcases g with rfl|g
   ·exact a
   ·rintro rfl
    rcases O with z|z
    ·exact j c b g z
    ·rw[g]at z;cases z;exact f rfl
end
structure Un(fs ex:List Addr)(H H':Hp)(h h':Heap):Prop where
 keep:∀b o,h.get? b=some o->H b=none->b∉fs->b∉ex->h'.get? b=some o
 slot:∀b o,h.get? b=some o->H b=none->b∈fs->b∉ex->∃sl,h'.get? b=some {o with slots:=sl}
 free:∀b o,h.get? b=some o->H b=none->b∉ex->H' b=none
 there:∀b o,h.get? b=some o->b∉ex->∃o',h'.get? b=some o'
 tups:∀b xs,H b=some (.tup xs)->H' b=some (.tup xs)
 k7:∀b o u,H b=some (.frz o u)->H' b=some (.frz o u)
 jU:∀b ps,H b=some (.tbl ps)->∃more,H' b=some (.tbl<|ps++more)
section
variable{fs fs' ex ex':List Addr}{H H1 H2:Hp}{h h1 h2 h':Heap}{a x e:Addr}{o:HO}
theorem Un.any(u:Un fs ex H H1 h h1)(q:h.get? b=some ob)(n:H b=none)(I:b∉ex):∃sl,h1.get? b=some {ob with slots:=sl}:=by
 by_cases c:b∈fs
 ·exact u.slot b ob q n c I
 ·exact⟨ob.slots,u.keep b ob q n c I⟩
theorem Un.kept(k:∀b u,h.get? b=some u->h'.get? b=some u):Un fs ex H H h h' :=
 ⟨λb ob q _ _ _=>k b ob q,λb ob q _ _ _=>⟨ob.slots,k b ob q⟩,λ_ _ _ n _=>n,λb ob q _=>⟨ob,k b ob q⟩,λ_ _ q=>q,λ_ _ _ q=>q,λ_ ps q=>⟨#[],by rw[q];simp⟩⟩
def Un.refl:Un fs ex H H h h:=Un.kept λ_ _ q=>q
theorem Un.laid(k:∀b u,h.get? b=some u->h'.get? b=some u)(I:h.objs.size<=a)(hn:H a=none):Un fs ex H (upd H a o) h h' where
 keep:=λb u q _ _ _=>k b u q
 slot:=λb u q _ _ _=>⟨u.slots,k b u q⟩
 free:=λb u q n _=>by rw[au<|zaS<|zaF (zaq q) I];exact n
 there:=λb u q _=>⟨u,k b u q⟩
 tups:=λb xs q=>by rw[au<|d7 q hn];exact q
 k7:=λb u xs q=>by rw[au<|d7 q hn];exact q
 jU:=λb ps q=>⟨#[],by rw[au<|d7 q hn,q];simp⟩
theorem Un.write(I:Mut<|H x)(O:e=x\/H e=some (.own x))(k:∀b u,b≠e->h.get? b=some u->h'.get? b=some u)(M:∃u,h'.get? e=some u):Un fs ex H (upd H x o) h h':=by
 have i:∀b,H b=none->b≠x:=λb n z=>by subst z;rw[n]at I;exact I
 have g:∀b,H b=none->b≠e:=λb n z=>by
  subst z;rcases O with r|r
  ·exact i b n r
  ·rw[n]at r;cases r
 have hm:∀b u,H b=some u->¬Mut (some u)->b≠x:=λb u q nm z=>by subst z;rw[q]at I;exact nm I
 refine⟨λb u q n _ _=>k b u (g b n) q,λb u q n _ _=>⟨u.slots,k b u (g b n) q⟩,λb u q n _=>by rw[au<|i b n];exact n,λb u q _=>?_,
  λb xs q=>by rw[au<|hm b _ q λz=>z];exact q,λb u xs q=>by rw[au<|hm b _ q λz=>z];exact q,λb ps q=>⟨#[],by rw[au<|hm b _ q λz=>z,q];simp⟩⟩
 by_cases f:b=e
 ·subst f;exact M
 ·exact⟨u,k b u f q⟩
end
def trk(h:Heap)(H:Hp):List Addr:=(List.range h.objs.size).filter λa=>(H a).isSome
def uY(h:Heap)(H:Hp):Heap:=PySem.W.hideAll h (trk h H)
def CP(h:Heap)(H:Hp):(uY h H).objs.size=h.objs.size:=PySem.W.hideAll_size _ _
theorem Es(e:h.get? b=some o)(n:H b=none):(uY h H).get? b=some o :=
 PySem.W.hideAll_get _ e λhm=>by
  have q:(H b).isSome=true:=(List.mem_filter.mp hm).2;rw[n]at q;simp at q
theorem HI(e:(uY h H).get? b=some o):h.get? b=some o/\H b=none:=by
 have a:h.get? b=some o:=PySem.W.of_hideAll (trk h H) e;refine⟨a,?_⟩;cases q:H b with
 |none=>rfl
 |some x=>
  have hm:b∈trk h H:=List.mem_filter.mpr ⟨List.mem_range.mpr<|zaq a,by simp[q]⟩
  have z:(uY h H).get? b=none:=PySem.W.hideAll_none (trk h H) hm;rw[z]at e;cases e
def HK(g h:Heap)(L:Addr):List (Addr×Obj):=(List.range h.objs.size).filterMap λa=>if a=L\/(g.get? a).isSome=true then none else(h.get? a).map λo=>(a,o)
def T1(g h:Heap)(L d:Addr):List (Addr×Obj):=(HK g h L).filter λp=>decide (p.1≠d)
def uZ:FuncBody->Option Pos
 | .stmts [_,.Return (some (.Call _ _ [⟨_,.Lambda _ _ _ D,_⟩] _)) _]=>some D
 |_=>none
def Et(fd:FuncData):Bool:=(uZ fd.body).isSome
def wY(K:zag)(fd:FuncData):Option (Addr×Addr×Array Value):=match uZ fd.body,fd.code with
 |some D,.ref c=>(match K.lookup c with
   |some ⟨_,_,.fields vs,_⟩=>(match(vs[11]?:Option Value)with
     |some (.ref P)=>some (c,P,#[rawInt D.line,rawInt D.col,.str (fd.qualname++".<locals>.<lambda>") 0])
     |_=>none)
   |_=>none)
 |_,_=>none
def zr(K:zag)(c P:Addr)(ps:Array Value):Bool:=PySem.W.codeHdIn K c P&&(K.lookup P).isNone&&(K.all λp=>match p.2.data with
 | .func fd=>!Et fd||wY K fd==some (c,P,ps)
 |_=>true)
def gW(K:zag):Option (Addr×Addr×Array Value):=match(K.findSome? λp=>match p.2.data with
  | .func fd=>wY K fd
  |_=>none)with
 |some (c,P,ps)=>if zr K c P ps then some (c,P,ps)else none
 |none=>none
structure Mod(K:zag)(mg:Str->Option Value)(base:Heap):Prop where
 kin:K.In base
 glob:base.Ns mainGlobals mg
 blt:∃mb,base.Ns builtinsNs mb/\∀x:Str,x≠"__name__"->mb x=bootBuiltins x
 nolimit:base.NoLimit
 bmain:∃bm ob,mg "__builtins__"=some (.ref bm)/\bm≠builtinsNs/\base.get? bm=some ob/\ob.cls=.type "module"/\ob.dict=some builtinsNs/\ob.data=.plain
structure Cx where
 prog:Program
 w:World
 K:zag
 mg:Str->Option Value
 base:Heap
 A:Around
 N:List Str
 s₀:Shared
 H₀:Hp
 env:Env
 outer:List Env
 stack:List Env
 ex:List Addr
 fn:Str->Bool
 calm:Bool
 pn:List (Addr×Obj)
 xe:Value->Shared->Prop
def frs(l:List Env):List Addr:=l.filterMap (·.frame)
abbrev Cx.fs(X:Cx):List Addr:=frs X.outer
def Vis(sc:Scope)(x:Str):Prop:=sc.names.lookup x=some .local\/sc.names.lookup x=some .cell\/sc.names.lookup x=some .free
def Loc(sc:Scope)(x:Str):Prop:=sc.names.lookup x=some .local\/sc.names.lookup x=some .cell
def Look(env:Env)(h:Heap)(m:Str->Option Value)(x:Str)(u:Value):Prop :=
 (env.kindOf x=some .local/\m x=some u)\/((env.kindOf x=some .cell\/env.kindOf x=some .free)/\∃c,env.cells.lookup x=some c/\h.IsCell c (some u))
structure Cx.Ok(X:Cx):Prop where
 mod:Mod X.K X.mg X.base
 kind:X.env.scope.kind=.function
 glob:X.env.globals=mainGlobals
 blt:X.env.builtins=builtinsNs
 above:X.s₀.heap.objs.size<=X.env.locals
 inj:∀x y c,X.env.cells.lookup x=some c->X.env.cells.lookup y=some c->x=y
 has:∀x,(X.env.kindOf x=some .cell\/X.env.kindOf x=some .free)->∃c,X.env.cells.lookup x=some c
 cab:∀x c,X.fn x=true->X.env.cells.lookup x=some c->X.s₀.heap.objs.size<=c
 hd:X.calm=true->X.A.handled=none
 frames:X.A.frames=some X.stack
 stk:X.stack=X.outer\/(X.stack=X.env::X.outer/\X.env.frame=some X.env.locals)
 exf:∀b∈X.ex,b≠X.env.locals/\∀x c,X.env.cells.lookup x=some c->c≠b
 bs:∀b o,X.base.get? b=some o->X.s₀.heap.get? b=some o/\X.H₀ b=none
 bsz:X.base.objs.size<=X.s₀.heap.objs.size
 zt:∀b o,X.base.get? b=some o->b∉X.ex
 zu:∀b∈X.ex,b∉X.fs
 oP:X.s₀.heap.FunFrames X.base X.outer
 frf:∀b∈X.fs,X.H₀ b=none
 tab:∀c T ps,gW X.K=some (c,T,ps)->∃more,X.H₀ T=some (.tbl<|ps++more)
structure Inv(X:Cx)(V0:List<|Addr×Obj)(σ:List<|Option V)(H:Hp)(s:Shared):Prop where
 ok:X.Ok
 os:s.os=X.s₀.os
 bare:AllBare s.gens
 base:Un X.fs X.ex X.H₀ H X.s₀.heap s.heap
 loc:∃m,s.heap.Ns X.env.locals m/\∀(i:Nat) (x:Str) (v:V),X.N[i]?=some x->σ[i]?=some (some v)->Vis X.env.scope x->∃u,RelV v u/\Look X.env s.heap m x u
 cell:∀x c,X.env.cells.lookup x=some c->∃v,s.heap.IsCell c v
 free:H X.env.locals=none
 ic:∀x c,X.env.cells.lookup x=some c->H c=none
 pin:∀p∈X.pn++V0,s.heap.get? p.1=some p.2/\H p.1=none/\p.1≠X.env.locals/\p.1∉X.fs/\∀v,p.2.data≠.cell v
 hok:HOk X.prog X.w H s.heap
 len : σ.length=X.N.length
section
variable{X:Cx}{V0:List<|Addr×Obj}{σ:List<|Option V}{H H':Hp}{s:Shared}{h':Heap}
theorem Cx.Ok.PV(ok:X.Ok)(e:X.base.get? b=some o):b∉X.fs:=λa=>by
 have:=(ok.oP.mem a).1;rw[e]at this;cases this
theorem Inv.bs(I:Inv X V0 σ H s):∀b o,X.base.get? b=some o->s.heap.get? b=some o/\H b=none:=λb o e=>
 ⟨I.base.keep b o (I.ok.bs b o e).1 (I.ok.bs b o e).2 (I.ok.PV e) (I.ok.zt b o e),I.base.free b o (I.ok.bs b o e).1 (I.ok.bs b o e).2 (I.ok.zt b o e)⟩
theorem Inv.tab(I:Inv X V0 σ H s):∀c T ps,gW X.K=some (c,T,ps)->∃more,H T=some (.tbl<|ps++more):=λc T ps e=>by
 obtain⟨m,h⟩:=I.ok.tab c T ps e;obtain⟨b,a⟩:=I.base.jU T _ h;exact⟨m++b,by rw[a,Array.append_assoc]⟩
def Inv.bk(I:Inv X V0 σ H s):∀b o,X.base.get? b=some o->s.heap.get? b=some o:=λb o e=>(I.bs b o e).1
theorem Inv.mod(I:Inv X V0 σ H s):Mod X.K X.mg X.base:=I.ok.mod
def Inv.kIn(I:Inv X V0 σ H s):X.K.In s.heap:=I.ok.mod.kin.keeps I.bk
theorem Inv.nolimit(I:Inv X V0 σ H s):s.heap.NoLimit:=I.ok.mod.nolimit.keeps I.bk
theorem Inv.lt(I:Inv X V0 σ H s):X.env.locals<s.heap.objs.size:=let⟨_,hn,_⟩:=I.loc;hn.lt
def Inv.sz(I:Inv X V0 σ H s):X.s₀.heap.objs.size<=s.heap.objs.size:=zaX I.ok.above (Nat.le_of_lt I.lt)
theorem Inv.PY(I:Inv X V0 σ H s){a:Addr}(h:s.heap.objs.size<=a):a∉X.fs:=λb=>by
 obtain⟨_,o,ho,_⟩:=I.ok.oP.mem b;exact absurd (zaF (zaq ho)<|zaX I.sz h) (za3 _)
theorem Inv.cne(I:Inv X V0 σ H s):∀x c,X.env.cells.lookup x=some c->c≠X.env.locals:=λx c e z=>by
 obtain⟨v,o,ho,hd⟩:=I.cell x c e;obtain⟨m,⟨o',es,d,b,a,_⟩,_⟩:=I.loc;rw[z,b]at ho;cases ho;rw[a]at hd;cases hd
theorem Inv.oP(I:Inv X V0 σ H s):s.heap.FunFrames X.base X.outer:=by
 have all:∀(l:List Env),(∀b∈frs l,b∈X.fs)->X.s₀.heap.FunFrames X.base l->s.heap.FunFrames X.base l:=by
  intro l
  induction l with
  |nil=>intro _ _;trivial
  |cons env r g=>
   intro hs hl;obtain⟨hk,⟨L,o,d,hn,ho,hd⟩,f⟩:=hl;have a:L∈X.fs:=hs L (by unfold frs;rw[List.filterMap_cons,d];exact zas)
   obtain⟨sl,e⟩:=I.base.slot L o ho (I.ok.frf L a) a λz=>I.ok.zu L z a
   exact⟨hk,⟨L,_,d,hn,e,hd⟩,g (λb c=>hs b (by unfold frs;rw[List.filterMap_cons,d];exact zak _ c)) f⟩
 exact all X.outer (λ_ c=>c) I.ok.oP
theorem Inv.stack(I:Inv X V0 σ H s):s.heap.FunFrames X.base X.stack:=by
 rcases I.ok.stk with e|⟨e,a⟩
 ·rw[e];exact I.oP
 ·rw[e]
  obtain⟨m,hn,_⟩:=I.loc;refine .cons (by rw[I.ok.kind];decide) a hn ?_ I.oP
  exact Heap.get?_none_of_le (zaX I.ok.bsz I.ok.above)
theorem Inv.zw(I:Inv X V0 σ H s):∀b∈frs X.stack,b∈X.env.locals::X.fs:=λb a=>by
 rcases I.ok.stk with e|⟨e,c⟩
 ·rw[e]at a;exact zak _ a
 ·rw[e]at a
  unfold frs at a;rw[List.filterMap_cons,c]at a;exact a
theorem Inv.nA(I:Inv X V0 σ H s):∀b∈frs X.stack,H b=none:=λb a=>by
 rcases zaf (I.zw b a)with e|a
 ·rw[e];exact I.free
 ·obtain⟨_,o,ho,_⟩:=I.ok.oP.mem a
  exact I.base.free b o ho (I.ok.frf b a) λz=>I.ok.zu b z a
theorem Inv.step{ch:List Addr}(I:Inv X V0 σ H s)
  (M:∀b∈ch,(b∈X.ex\/X.s₀.heap.objs.size<=b)/\b≠X.env.locals/\(∀x c,X.env.cells.lookup x=some c->c≠b)/\∀p∈X.pn++V0,p.1≠b)
  (keep:∀b o,b≠X.env.locals->b∉X.fs->b∉ch->s.heap.get? b=some o->H b=none->h'.get? b=some o)
  (slot:∀b o,b≠X.env.locals->b∈X.fs->b∉ch->s.heap.get? b=some o->H b=none->∃sl,h'.get? b=some {o with slots:=sl}) (free:∀b o,b∉ch->s.heap.get? b=some o->H b=none->H' b=none)
  (there:∀b o,b∉ch->s.heap.get? b=some o->∃o',h'.get? b=some o')
  (tups:∀b xs,H b=some (.tup xs)->H' b=some (.tup xs)) (k7:∀b o u,H b=some (.frz o u)->H' b=some (.frz o u)) (jU:∀b ps,H b=some (.tbl ps)->∃more,H' b=some (.tbl<|ps++more))
  (ns:∀m,s.heap.Ns X.env.locals m->h'.Ns X.env.locals m) (hok:HOk X.prog X.w H' h') (O:AllBare g') :
  Inv X V0 σ H' {s with heap:=h',gens:=g',drawn:=d',toks:=t'}:=by
 have A:∀b o,X.s₀.heap.get? b=some o->b≠X.env.locals:=λb o e=>zaS (zaF (zaq e) I.ok.above)
 have j:∀b o,X.s₀.heap.get? b=some o->b∉X.ex->b∉ch:=λb o e a t=>by
  rcases(M b t).1 with z|z
  ·exact a z
  ·exact absurd (zaF (zaq e) z) (za3 _)
 have f:∀x c,X.env.cells.lookup x=some c->∀v,s.heap.IsCell c v->h'.IsCell c v:=λx c e v ⟨o,ho,hd⟩=>by
  have g:c∉ch:=λz=>(M c z).2.2.1 x c e rfl
  by_cases C:c∈X.fs
  ·obtain⟨sl,q⟩:=slot c o (I.cne x c e) C g ho (I.ic x c e)
   exact⟨_,q,hd⟩
  ·exact⟨o,keep c o (I.cne x c e) C g ho<|I.ic x c e,hd⟩
 refine⟨I.ok,I.os,O,⟨λb o e n t a=>?_,λb o e n t a=>?_,λb o e n a=>?_,λb o e a=>?_,λb xs e=>tups b xs<|I.base.tups b xs e,λb o xs e=>k7 b o xs<|I.base.k7 b o xs e,λb ps e=>?_⟩,?_,λx c e=>?_,?_,λx c e=>?_,λp D=>?_,hok,I.len⟩
 ·exact keep b o (A b o e) t (j b o e a) (I.base.keep b o e n t a) (I.base.free b o e n a)
 ·obtain⟨sl,h⟩:=I.base.slot b o e n t a
  obtain⟨B,y⟩:=slot b _ (A b o e) t (j b o e a) h (I.base.free b o e n a);exact⟨B,y⟩
 ·obtain⟨o',h⟩:=I.base.there b o e a
  exact free b o' (j b o e a) h (I.base.free b o e n a)
 ·obtain⟨o',h⟩:=I.base.there b o e a
  exact there b o' (j b o e a) h
 ·obtain⟨F,h⟩:=I.base.jU b ps e
  obtain⟨G,y⟩:=jU b _ h;exact⟨F++G,by rw[y,Array.append_assoc]⟩
 ·obtain⟨m,hn,hl⟩:=I.loc
  refine⟨m,ns m hn,λi x v h y E=>?_⟩
  obtain⟨u,r,l⟩:=hl i x v h y E;refine⟨u,r,?_⟩;rcases l with l|⟨k,c,e,z⟩
  ·exact .inl l
  ·exact .inr ⟨k,c,e,f x c e _ z⟩
 ·obtain⟨v,z⟩:=I.cell x c e
  exact⟨v,f x c e v z⟩
 ·obtain⟨m,⟨o,_,_,ho,_⟩,_⟩:=I.loc
  exact free _ o (λz=>(M _ z).2.1 rfl) ho I.free
 ·obtain⟨v,o,ho,hd⟩:=I.cell x c e
  exact free c o (λz=>(M c z).2.2.1 x c e rfl) ho (I.ic x c e)
 ·obtain⟨e,n,ne,nf,d⟩:=I.pin p D
  have g:p.1∉ch:=λz=>(M p.1 z).2.2.2 p D rfl
  exact⟨keep p.1 p.2 ne nf g e n,free p.1 p.2 g e n,ne,nf,d⟩
theorem Inv.un(I:Inv X V0 σ H s)(u:Un X.fs [] H H' s.heap h')(hok:HOk X.prog X.w H' h'):Inv X V0 σ H' {s with heap:=h',toks:=t'}:=by
 obtain⟨m,⟨o,es,j,ho,r⟩,_⟩:=id I.loc;obtain⟨sl,h⟩:=u.any ho I.free (by simp)
 exact I.step (g':=s.gens) (d':=s.drawn) (ch:=[]) (λ_ z=>nomatch z) (λb o _ g _ e n=>u.keep b o e n g (by simp)) (λb o _ g _ e n=>u.slot b o e n g (by simp)) (λb o _ e n=>u.free b o e n (by simp)) (λb o _ e=>u.there b o e (by simp)) u.tups u.k7 u.jU (λl hm=>by
  obtain⟨o',f,d,a,i⟩:=hm;rw[ho]at a;cases a
  exact⟨_,f,d,h,i⟩) hok I.bare
theorem Inv.call(I:Inv X V0 σ H s)(u:Un (frs X.stack) ch H H' s.heap h')(hok:HOk X.prog X.w H' h')(O:AllBare g')
  (M:∀b∈ch,(b∈X.ex\/X.s₀.heap.objs.size<=b)/\b≠X.env.locals/\(∀x c,X.env.cells.lookup x=some c->c≠b)/\∀p∈X.pn++V0,p.1≠b) :
  Inv X V0 σ H' {s with heap:=h',gens:=g',drawn:=d',toks:=t'}:=by
 obtain⟨m,⟨o,es,t,ho,r⟩,_⟩:=id I.loc;obtain⟨sl,k⟩:=u.any ho I.free λz=>(M _ z).2.1 rfl
 exact I.step (ch:=ch) M (λb o k l d e n=>u.keep b o e n (λz=>(zaf<|I.zw b z).elim k l) d) (λb o _ _ d e n=>u.any e n d) (λb o d e n=>u.free b o e n d) (λb o d e=>u.there b o e d) u.tups u.k7 u.jU (λy hm=>by
  obtain⟨o',j,h,g,q⟩:=hm;rw[ho]at g;cases g
  exact⟨_,j,h,k,q⟩) hok O
theorem Inv.turned(I:Inv X V0 σ H s)(k:∀b o,b≠it->s.heap.get? b=some o->h'.get? b=some o)(hn:H it=none)(M:it≠X.env.locals)
  (O:it∈X.ex\/X.s₀.heap.objs.size<=it) (Y:∀x c,X.env.cells.lookup x=some c->c≠it) (h3:∀p∈X.pn++V0,p.1≠it):Inv X V0 σ H {s with heap:=h',toks:=t'}:=by
 have d:∀b u,H b=some u->b≠it:=λb u e z=>by rw[z,hn]at e;cases e
 refine I.step (g':=s.gens) (d':=s.drawn) (ch:=[it]) (λb g=>?_) (λb o _ _ a e _=>k b o (λz=>a (by simp[z])) e) (λb o _ _ a e _=>⟨o.slots,k b o (λz=>a (by simp[z])) e⟩) (λ_ _ _ _ n=>n)
  (λb o a e=>⟨o,k b o (λz=>a (by simp[z])) e⟩) (λ_ _ e=>e) (λ_ _ _ e=>e) (λb ps e=>⟨#[],by rw[e];simp⟩) (λm hm=>?_) (λb u e=>?_) I.bare
 ·have e:b=it:=by simpa using g
  subst e;exact⟨O,M,Y,h3⟩
 ·obtain⟨o,es,f,ho,r⟩:=hm
  exact⟨o,es,f,k _ o (Ne.symm M) ho,r⟩
 ·refine(I.hok b u e).stay (λc v a q=>k c v ?_ q) (λ_ q=>q) λ_ _ _ q=>q
  rcases a with z|z
  ·rw[z];exact d b u e
  ·exact d c _ z
def Inv.tok(I:Inv X V0 σ H s)(t:Nat):Inv X V0 σ H {s with toks:=t}:=I.un (h':=s.heap) (t':=t) Un.refl I.hok
theorem Inv.kept(I:Inv X V0 σ H s)(k:∀b u,s.heap.get? b=some u->h'.get? b=some u):Inv X V0 σ H {s with heap:=h',toks:=t'}:=I.un (Un.kept k) (I.hok.kept k)
theorem Inv.laid{a:Addr}(I:Inv X V0 σ H s)(k:∀b u,s.heap.get? b=some u->h'.get? b=some u)(M:s.heap.objs.size<=a)(new:bY X.prog X.w (upd H a o) h' a o) :
  Inv X V0 σ (upd H a o) {s with heap:=h',toks:=t'}:=I.un (Un.laid k M<|I.hok.fresh M) (I.hok.laid k M new)
theorem Inv.write(I:Inv X V0 σ H s)(U:Mut<|H x)(O:e=x\/H e=some (.own x))(k:∀b u,b≠e->s.heap.get? b=some u->h'.get? b=some u)(M:∃u,h'.get? e=some u)
  (new:bY X.prog X.w (upd H x o) h' x o):Inv X V0 σ (upd H x o) {s with heap:=h',toks:=Y}:=I.un (Un.write U O k M) (I.hok.write U O k M new)
def Inv.AX(I:Inv X V0 σ H s)(h:∀p∈M,s.heap.get? p.1=some p.2/\H p.1=none/\p.1≠X.env.locals/\p.1∉X.fs/\∀v,p.2.data≠.cell v):Inv X M σ H s :=
 ⟨I.ok,I.os,I.bare,I.base,I.loc,I.cell,I.free,I.ic,λp a=>(zae a).elim (λz=>I.pin p<|zaW _ z)<|h p,I.hok,I.len⟩
theorem wZ{N:List Str}(I:N.Nodup){i j:Nat}(a:N[i]?=some x)(b:N[j]?=some x):i=j:=by
 obtain⟨e,c⟩:=zac a;obtain⟨f,d⟩:=zac b;exact(List.getElem_inj I).mp (c.trans d.symm)
theorem CQ(I:Inv X V0 σ H s)(hN:X.N.Nodup)(hi:X.N[i]?=some x)(O:Loc X.env.scope x)(r:RelV v u)
  (h:∀s',Inv X V0 (σ.set i<|some v) H s'->(∃a,Heap.SameBut a s.heap s'.heap/\(a=X.env.locals\/X.env.cells.lookup x=some a))->Q () s') (hf:X.fn x=true\/X.env.scope.names.lookup x=some .local:=by first|exact .inl rfl|exact .inr rfl|assumption):wpAny M A (storeName X.env x u) Q E s:=by
 obtain⟨m,hn,hl⟩:=id I.loc;have L:(X.env.scope.kind== .class||(X.env.scope.kind== .module&&X.env.locals !=X.env.globals))=false:=by rw[I.ok.kind];rfl
 have C:i<σ.length:=by rw[I.len];exact(zac hi).1
 have cne:=I.cne;have g:∀{a:Addr} {h':Heap},(∃o,s.heap.get? a=some o/\H a=none)->Heap.SameBut a s.heap h'->HOk X.prog X.w H h':=fun{a h'} ha hs b ob e=>by
  obtain⟨_,_,t⟩:=ha;refine(I.hok b ob e).stay (λc w' l q=>(hs.2 c ?_).trans q) (λ_ q=>q) λ_ _ _ q=>q
  rintro rfl
  rcases l with rfl|l
  ·rw[t]at e;cases e
  ·rw[t]at l;cases l
 rcases O with hk|hk
 ·refine wpAny_storeName_local hk hn (λh' S hs=>?_) L
  obtain⟨oL,_,_,T,_⟩:=id hn;refine h _ ⟨I.ok,I.os,I.bare,⟨λb o e n D O=>?_,λb o e n D O=>?_,I.base.free,λb o e O=>?_,I.base.tups,I.base.k7,I.base.jU⟩,⟨_,S,λj y Y f B R=>?_⟩,λy c e=>?_,I.free,I.ic,λp W=>?_,g ⟨oL,T,I.free⟩ hs,by simpa using I.len⟩ ⟨_,hs,.inl rfl⟩
  ·exact(hs.2 b<|zaS<|zaF (zaq e) I.ok.above).trans (I.base.keep b o e n D O)
  ·obtain⟨sl,f⟩:=I.base.slot b o e n D O
   exact⟨sl,(hs.2 b<|zaS<|zaF (zaq e) I.ok.above).trans f⟩
  ·obtain⟨o',f⟩:=I.base.there b o e O
   exact⟨o',(hs.2 b<|zaS<|zaF (zaq e) I.ok.above).trans f⟩
  ·by_cases G:j=i
   ·subst G
    rw[hi]at f;cases f
    rw[zav C]at B;cases B;exact⟨u,r,.inl ⟨hk,by simp⟩⟩
   ·rw[zaA<|Ne.symm G]at B
    obtain⟨U,Z,q⟩:=hl j y Y f B R;refine⟨U,Z,?_⟩;rcases q with⟨k,e⟩|⟨k,c,e,z⟩
    ·refine .inl ⟨k,?_⟩
     have:y≠x:=λe=>G (wZ hN f<|e▸hi)
     simp[this,e]
    ·exact .inr ⟨k,c,e,z.sameBut hs<|cne y c e⟩
  ·obtain⟨w',z⟩:=I.cell y c e
   exact⟨w',z.sameBut hs<|cne y c e⟩
  ·obtain⟨e,n,ne,nf,d⟩:=I.pin p W
   exact⟨(hs.2 p.1 ne).trans e,n,ne,nf,d⟩
 ·have F:X.fn x=true:=by
   rcases hf with z|z
   ·exact z
   ·rw[z]at hk;cases hk
  obtain⟨c,l⟩:=I.ok.has x (.inl hk);obtain⟨w',z⟩:=I.cell x c l;refine wpAny_storeName_cell I.ok.kind hk l z (λh' J hs=>?_)
  obtain⟨oc,P,PZ⟩:=id z;refine h {s with heap:=h'} ⟨I.ok,I.os,I.bare,⟨λb o e n D O=>?_,λb o e n D O=>?_,I.base.free,λb o e O=>?_,I.base.tups,I.base.k7,I.base.jU⟩,⟨m,hn.sameBut hs<|Ne.symm<|cne x c l,λj y Y f B R=>?_⟩,λy c' e=>?_,I.free,I.ic,λp W=>?_,g ⟨oc,P,I.ic x c l⟩ hs,by simpa using I.len⟩ ⟨c,hs,.inr l⟩
  ·exact(hs.2 b<|zaS<|zaF (zaq e)<|I.ok.cab x c F l).trans (I.base.keep b o e n D O)
  ·obtain⟨sl,f⟩:=I.base.slot b o e n D O
   exact⟨sl,(hs.2 b<|zaS<|zaF (zaq e)<|I.ok.cab x c F l).trans f⟩
  ·obtain⟨o',f⟩:=I.base.there b o e O
   exact⟨o',(hs.2 b<|zaS<|zaF (zaq e)<|I.ok.cab x c F l).trans f⟩
  ·by_cases G:j=i
   ·subst G
    rw[hi]at f;cases f
    rw[zav C]at B;cases B;exact⟨u,r,.inr ⟨.inl hk,c,l,J⟩⟩
   ·rw[zaA<|Ne.symm G]at B
    obtain⟨U,Z,q⟩:=hl j y Y f B R;refine⟨U,Z,?_⟩;rcases q with q|⟨k,c',e,z'⟩
    ·exact .inl q
    ·refine .inr ⟨k,c',e,z'.sameBut hs ?_⟩
     rintro rfl
     exact G (wZ hN f<|I.ok.inj _ _ _ e l▸hi)
  ·by_cases K:c'=c
   ·subst K;exact⟨_,J⟩
   ·obtain⟨w2,z2⟩:=I.cell y c' e
    exact⟨w2,z2.sameBut hs K⟩
  ·obtain⟨e,n,ne,nf,d⟩:=I.pin p W
   refine⟨(hs.2 p.1 ?_).trans e,n,ne,nf,d⟩;intro q;rw[q,P]at e;have q':oc=p.2:=zaQ e;exact d w' (by rw[<-q'];exact PZ)
theorem qU(I:Inv X V0 σ H s)(O:X.N.Nodup)(hi:X.N[i]?=some x)(Y:Loc X.env.scope x)(r:RelV v u)
  (h:∀s',Inv X V0 (σ.set i<|some v) H s'->Q () s') (U:X.fn x=true\/X.env.scope.names.lookup x=some .local:=by first|exact .inl rfl|exact .inr rfl|assumption):wpAny M A (storeName X.env x u) Q E s :=
 CQ I O hi Y r (λs' a _=>h s' a) U
theorem Inv.call'(I:Inv X V0 σ H s)(ho:s'.os=s.os)(u:Un (frs X.stack) ch H H' s.heap s'.heap)(hok:HOk X.prog X.w H' s'.heap)(O:AllBare s'.gens)
  (M:∀b∈ch,(b∈X.ex\/X.s₀.heap.objs.size<=b)/\b≠X.env.locals/\(∀x c,X.env.cells.lookup x=some c->c≠b)/\∀p∈X.pn++V0,p.1≠b):Inv X V0 σ H' s':=by
 obtain⟨h',g',d',t',o'⟩:=s';have e:o'=s.os:=ho;subst e;exact I.call (g':=g') (t':=t') (d':=d') u hok O M
end
abbrev XK:=Value->Option Addr->Hp->Prop
abbrev St:=List (Option V)
abbrev VK:=V->Hp->Prop
abbrev TE:=St->Hp->VK->Prop
abbrev TT:=St->Hp->(Bool->Hp->Prop)->Prop
abbrev TA:=St->Hp->(List V->Hp->Prop)->Prop
structure Ends where
 nx:St->Hp->Prop
 rt:VK
 bk:St->Hp->Prop:=λ_ _=>False
 ct:St->Hp->Prop:=λ_ _=>False
abbrev TS:=Ends->St->Hp->Prop
def EP(X:Cx)(V0:List<|Addr×Obj)(σ:St)(Q:VK)(u:Value)(s':Shared):Prop:=∃v H',Inv X V0 σ H' s'/\RelV v u/\Q v H'
def TP(X:Cx)(V0:List<|Addr×Obj)(σ:St)(Q:Bool->Hp->Prop)(b:Bool)(s':Shared):Prop:=∃H',Inv X V0 σ H' s'/\Q b H'
def AP(X:Cx)(V0:List<|Addr×Obj)(σ:St)(Q:List V->Hp->Prop)(us:List Value)(s':Shared):Prop:=∃vs H',Inv X V0 σ H' s'/\Vals vs us/\Q vs H'
def SP(X:Cx)(V0:List<|Addr×Obj)(D:Ends)(f:Flow)(s':Shared):Prop :=
 match f with
 | .next=>∃G H',Inv X V0 G H' s'/\D.nx G H'
 | .brk=>∃G H',Inv X V0 G H' s'/\D.bk G H'
 | .cont=>∃G H',Inv X V0 G H' s'/\D.ct G H'
 | .ret u=>∃v G H',Inv X V0 G H' s'/\RelV v u/\D.rt v H'
def PE(X:Cx)(e:Expr)(t:TE):Prop :=
 ∀(V0:List<|Addr×Obj) (s:Shared) (σ:St) (H:Hp) (Q:VK),Inv X V0 σ H s->t σ H Q->wpAny (model X.prog X.w) X.A (eval e X.env) (EP X V0 σ Q) X.xe s
def PT(X:Cx)(e:Expr)(t:TT):Prop :=
 ∀(V0:List<|Addr×Obj) (s:Shared) (σ:St) (H:Hp) (Q:Bool->Hp->Prop),Inv X V0 σ H s->t σ H Q->wpAny (model X.prog X.w) X.A (isTrue e X.env<|eval e X.env) (TP X V0 σ Q) X.xe s
def PW(X:Cx)(e:Expr)(t:TT):Prop :=
 ∀(D:Sem Value) (V0:List<|Addr×Obj) (s:Shared) (σ:St) (H:Hp) (Q:Bool->Hp->Prop),Inv X V0 σ H s->t σ H Q->wpAny (model X.prog X.w) X.A (isTrue e X.env D) (TP X V0 σ Q) X.xe s
def PW.pt(h:PW X e t):PT X e t:=h _
def PA(X:Cx)(es:List Expr)(t:TA):Prop :=
 ∀(pos:Pos) (V0:List<|Addr×Obj) (s:Shared) (σ:St) (H:Hp) (Q:List V->Hp->Prop),Inv X V0 σ H s->t σ H Q->wpAny (model X.prog X.w) X.A (spliced<|backTo pos<|starEach es X.env) (AP X V0 σ Q) X.xe s
def PS(X:Cx)(st:Stmt)(t:TS):Prop :=
 ∀(V0:List<|Addr×Obj) (s:Shared) (σ:St) (H:Hp) (D:Ends),Inv X V0 σ H s->t D σ H->wpAny (model X.prog X.w) X.A (exec st X.env) (SP X V0 D) X.xe s
def PSs(X:Cx)(st:List Stmt)(t:TS):Prop :=
 ∀(V0:List<|Addr×Obj) (s:Shared) (σ:St) (H:Hp) (D:Ends),Inv X V0 σ H s->t D σ H->wpAny (model X.prog X.w) X.A (execs st X.env) (SP X V0 D) X.xe s
def thn(h:wpAny M A t Q E s)(O:∀a s,Q a s->I a s):wpAny M A t I E s:=za6 h O λ_ _ x=>x
section
variable{X:Cx}
def w6(i:Nat):TE:=fun σ H Q=>∃v,σ[i]?=some (some v)/\Q v H
def tC(v:V):TE:=λ_ H Q=>Q v H
theorem LM{pos:Pos}(O:X.N[i]?=some x)(U:Vis X.env.scope x)(hd:(x==("__debug__":Str))=false:=by decide)(M:(x==("__classdict__":Str))=false:=by decide):PE X (.Name x pos) (w6 i):=by
 intro V0 s σ H Q I h;obtain⟨v,e,h⟩:=h;obtain⟨m,hn,hl⟩:=I.loc;obtain⟨u,r,l⟩:=hl i x v O e U;have b:EP X V0 σ Q u s:=⟨v,H,I,r,h⟩;rcases l with⟨hk,hm⟩|⟨hk,c,d,a⟩
 ·exact wpAny_Name (wpAny_loadName_local I.ok.kind hk hn hm b) hd
 ·rcases hk with hk|hk
  ·exact wpAny_Name (wpAny_loadName_cell I.ok.kind hk d a b) hd
  ·exact wpAny_Name (wpAny_loadName_free I.ok.kind hk d a b M) hd
def aF:PE X (.Constant (.int i) j pos) (tC<|.int i):=λ_ _ _ H _ I h=>wpAny_Constant_int ⟨.int i,H,I.tok _,⟨_,rfl⟩,h⟩
def fu:PE X (.Constant (.bool b) j pos) (tC<|.bl b):=λ_ _ _ H _ I h=>Constant_bool ⟨.bl b,H,I,rfl,h⟩
def oR:PE X (.Constant .none j pos) (tC .non):=λ_ _ _ H _ I h=>Constant_none ⟨.non,H,I,rfl,h⟩
def gu:PE X (.Constant (.str x) j pos) (tC<|.str x):=λ_ _ _ H _ I h=>Calls.Constant_str ⟨.str x,H,I.tok _,⟨_,rfl⟩,h⟩
def Gl(X:Cx)(x:Str):Prop:=X.env.kindOf x=some .globalImplicit
theorem nC{σ:St}{H:Hp}{x:Str}{u:Value}{pos:Pos}{Q:Value->Shared->Prop}(I:Inv X V0 σ H s)(M:Gl X x)(hm:X.mg x=some u)(h:Q u s)
  (hd:(x==("__debug__":Str))=false:=by decide):wpAny (model X.prog X.w) X.A (eval (.Name x pos) X.env) Q E s :=
 Calls.Name_function_global I.ok.kind M (Calls.loadGlobal_global (by rw[I.ok.glob];exact I.mod.glob.keeps I.bk) hm h) hd
theorem qV{E:Value->Shared->Prop}{σ:St}{H:Hp}{x:Str}{u:Value}{pos:Pos}{Q:Value->Shared->Prop}(I:Inv X V0 σ H s)(M:Gl X x)(hm:X.mg x=none)(O:bootBuiltins x=some u)(h:Q u s)
  (hn:x≠"__name__":=by decide) (hd:(x==("__debug__":Str))=false:=by decide):wpAny (model X.prog X.w) X.A (eval (.Name x pos) X.env) Q E s:=by
 obtain⟨mb,a,b⟩:=I.mod.blt;exact Calls.Name_function_global I.ok.kind M (Calls.loadGlobal_builtin (by rw[I.ok.glob];exact I.mod.glob.keeps I.bk) hm (by rw[I.ok.blt];exact a.keeps I.bk) ((b x hn).trans O) h) hd
theorem HL{pos:Pos}(M:Gl X x)(hm:X.mg x=none)(O:bootBuiltins x=some u)(r:RelV v u)(hn:x≠"__name__":=by decide)(hd:(x==("__debug__":Str))=false:=by decide):PE X (.Name x pos) (tC v) :=
 λ_ _ _ H _ I h=>qV I M hm O ⟨v,H,I,r,h⟩ hn hd
variable{a b:Expr}{ta tb:TE}{pos:Pos}
def PC(X:Cx)(op:CmpOp)(a b:Expr)(t:TE):Prop :=
 ∀(V0:List<|Addr×Obj) (s:Shared) (σ:St) (H:Hp) (Q:VK),Inv X V0 σ H s->t σ H Q->
  wpAny (model X.prog X.w) X.A (eval a X.env) (λv D=>wpAny (model X.prog X.w) X.A (eval b X.env) (λu G=>wpAny (model X.prog X.w) X.A (compareOp op v u) (EP X V0 σ Q) X.xe G) X.xe D) X.xe s
def tB(t:TE):TT:=fun σ H Q=>t σ H λx D=>∃c,x=.bl c/\Q c D
theorem LN(h:PC X M a b t)(O:behindInMarks M b=false:=by first|exact U _ (by decide) (by decide)|rfl):PE X (.Compare a [M] [b] pos) t:=λV0 s σ H Q I c=>wpAny_Compare1 (h V0 s σ H Q I c) O
theorem u5(h:PC X O a b t)(M:behindInMarks O b=false:=by first|exact U _ (by decide) (by decide)|rfl):PT X (.Compare a [O] [b] pos) (tB t):=by
 intro V0 s σ H Q I l;refine wpAny_isTrue_Compare1 (thn (h V0 s σ H _ I l) λv s1 M=>thn M λu s2 g=>thn g λc p ⟨x,e,f,o,m⟩=>?_) M
 obtain⟨d,rfl,q⟩:=m;cases o;exact wpAny_truthy_bool ⟨e,f,q⟩
theorem iI(h:PE X e t)(O:∀M,isTrue e X.env M=(do let v<-M;standAt e.pos;holding [v] (truthy v)):=by intro _;rfl):PT X e (tB t):=by
 intro V0 s σ H Q I g;refine isTrue_plain (thn (h V0 s σ H _ I g) λv s1 ⟨x,c,f,m,l⟩=>?_) (O _)
 obtain⟨d,rfl,q⟩:=l;cases m;exact wpAny_truthy_bool ⟨c,f,q⟩
variable{tA tB':TT}{T1:List Expr}
def Oc(t u:TT):TT:=fun σ H Q=>t σ H λc D=>if c=true then u σ D Q else Q false D
def tOr(t u:TT):TT:=fun σ H Q=>t σ H λc D=>if c=true then Q true D else u σ D Q
def LO(t:TT):TT:=fun σ H Q=>t σ H λc D=>Q (!c) D
theorem HM(ha:PT X a tA):PW X (.BoolOp .And [a] pos) tA:=by
 intro d V0 s σ H Q I h;refine isTrue_and (thn (ha V0 s σ H Q I h) λc s1 e=>?_)
 cases c with
 |true=>exact isTrue_and_nil e
 |false=>exact e
theorem mS(ha:PT X a tA):PW X (.BoolOp .Or [a] pos) tA:=by
 intro d V0 s σ H Q I h;refine isTrue_or (thn (ha V0 s σ H Q I h) λc s1 e=>?_)
 cases c with
 |false=>exact isTrue_or_nil e
 |true=>exact e
theorem LP(ha:PT X a tA)(M:PW X (.BoolOp .And (b::T1) pos) tB'):PW X (.BoolOp .And (a::b::T1) pos) (Oc tA tB'):=by
 intro g V0 s σ H Q I h;refine isTrue_and (thn (ha V0 s σ H _ I h) λc s1 ⟨d,e,f⟩=>?_)
 cases c with
 |true=>exact M g V0 s1 σ d Q e f
 |false=>exact⟨d,e,f⟩
theorem mI(ha:PT X a tA)(M:PW X (.BoolOp .Or (b::T1) pos) tB'):PW X (.BoolOp .Or (a::b::T1) pos) (tOr tA tB'):=by
 intro g V0 s σ H Q I h;refine isTrue_or (thn (ha V0 s σ H _ I h) λc s1 ⟨d,e,f⟩=>?_)
 cases c with
 |true=>exact⟨d,e,f⟩
 |false=>exact M g V0 s1 σ d Q e f
theorem mT(ha:PT X a tA):PT X (.UnaryOp .Not a pos) (LO tA):=by
 intro V0 s σ H Q I h;exact isTrue_not (ha V0 s σ H (λc d=>Q (!c) d) I h)
def Ew(ta tb:TE):TE:=fun σ H Q=>ta σ H λx D=>∃c,x=.bl c/\if c=true then tb σ D Q else Q (.bl false) D
def zx(h:PE X a t):PE X (.BoolOp M [a] pos) t:=λV0 s σ H Q I c=>BoolOp_one (h V0 s σ H Q I c)
theorem zy(ha:PE X a ta)(M:PE X (.BoolOp .And (b::T1) pos) tb):PE X (.BoolOp .And (a::b::T1) pos) (Ew ta tb):=by
 intro V0 s σ H Q I h;refine BoolOp_and (thn (ha V0 s σ H _ I h) λv s1 ⟨x,e,f,g,d⟩=>?_)
 obtain⟨c,rfl,d⟩:=d;cases g;refine wpAny_truthy_bool ?_;cases c with
 |true=>exact M V0 s1 σ e Q f d
 |false=>exact⟨.bl false,e,f,rfl,d⟩
end
def SqL(K:zag)(H:Hp)(a:Addr)(xs:List V):Prop :=
 Rd H a (.lst xs)\/
  ∃(o:Obj) (D:Array Value) (n:Nat),K.lookup a=some o/\o.cls=.type "list"/\o.dict=none/\o.data=.seq D n/\D.size<=sizeLine/\Vals xs D.toList
def SqT(K:zag)(H:Hp)(a:Addr)(xs:List V):Prop :=
 Rd H a (.tup xs)\/
  ∃(o:Obj) (D:Array Value) (n:Nat),K.lookup a=some o/\o.cls=.type "tuple"/\o.data=.seq D n/\D.size<=sizeLine/\Vals xs D.toList
def P0:Value->Option V
 | .none=>some .non
 | .bool b=>some (.bl b)
 | .int i _=>some (.int i)
 | .str x _=>some (.str x)
 | .bytes b _=>some (.byt b)
 | .float b _=>some (.flt b)
 | .ref a=>some (.ref a)
 | .type n=>some (.ty n)
 |_=>none
theorem RelV.abs(r:RelV x u):P0 u=some x:=by
 cases x with
 |non=>cases r;rfl
 |bl _=>cases r;rfl
 |int _=>obtain⟨t,rfl⟩:=r;rfl
 |str _=>obtain⟨t,rfl⟩:=r;rfl
 |byt _=>obtain⟨t,rfl⟩:=r;rfl
 |flt _=>obtain⟨t,rfl⟩:=r;rfl
 |ref _=>cases r;rfl
 |ty _=>cases r;rfl
def RelV.inj(r:RelV x u)(q:RelV y u):x=y:=zaQ (r.abs.symm.trans q.abs)
theorem Vals.inj:∀{xs I:List V} {us:List Value},Vals xs us->Vals I us->xs=I
 |_,_,_,.nil,.nil=>rfl
 |_,_,_,.cons r t,.cons a c=>by rw[r.inj a,Vals.inj t c]
section
variable{X:Cx}{V0:List<|Addr×Obj}{σ:St}{H:Hp}{s:Shared}{a:Addr}{xs ys:List V}
def SqL.of{K:zag}(h:H a=some (.lst xs)):SqL K H a xs:=.inl (.inl h)
theorem Inv.list(I:Inv X V0 σ H s)(h:SqL X.K H a xs):∃M:List Value,Vals xs M/\PlainL s.heap a M.toArray/\xs.length<=sizeLine:=by
 rcases h with h|⟨o,M,n,hk,l,hd,hs,w,r⟩
 ·obtain⟨z,M,n,r,e⟩:=h.ok I.hok
  exact⟨M,r,⟨_,n,e,rfl,rfl,rfl⟩,z⟩
 ·refine⟨M.toList,r,⟨o,n,I.kIn a o hk,l,hd,by simpa using hs⟩,?_⟩
  have e:=r.length;simp only[Array.length_toList]at e
  lia
theorem Inv.tuple(I:Inv X V0 σ H s)(h:SqT X.K H a xs):∃M:List Value,Vals xs M/\IsTup s.heap a M.toArray/\xs.length<=sizeLine:=by
 rcases h with h|⟨o,M,n,hk,l,hs,m,r⟩
 ·obtain⟨z,M,r,p⟩:=h.ok I.hok
  exact⟨M,r,p,z⟩
 ·refine⟨M.toList,r,⟨o,I.kIn a o hk,l,n,by simpa using hs⟩,?_⟩
  have e:=r.length;simp only[Array.length_toList]at e
  lia
theorem Inv.Ex(I:Inv X V0 σ H s)(h:SqL X.K H a xs)(h':SqL X.K H a ys):xs=ys:=by
 obtain⟨g,r,⟨o,n,e,_,_,d⟩,_⟩:=I.list h;obtain⟨b,i,⟨o',j,f,_,_,c⟩,_⟩:=I.list h';rw[e]at f;cases f
 rw[d]at c;injection c with d1 _
 have:g=b:=by simpa using congrArg Array.toList d1
 subst this;exact r.inj i
theorem Inv.CS(I:Inv X V0 σ H s)(h:SqT X.K H a xs)(h':SqT X.K H a ys):xs=ys:=by
 obtain⟨g,r,⟨o,e,_,n,d⟩,_⟩:=I.tuple h;obtain⟨b,i,⟨o',f,_,j,c⟩,_⟩:=I.tuple h';rw[e]at f;cases f
 rw[d]at c;injection c with d1 _
 have:g=b:=by simpa using congrArg Array.toList d1
 subst this;exact r.inj i
end
abbrev Cx.wish(X:Cx)(E:Value->Shared->Prop):Cx:={X with xe:=E}
abbrev Cx.nox(X:Cx):Cx:=X.wish λ_ _=>False
theorem Cx.Ok.wish{X:Cx}(ok:X.Ok)(E:Value->Shared->Prop):(X.wish E).Ok :=
 ⟨ok.mod,ok.kind,ok.glob,ok.blt,ok.above,ok.inj,ok.has,ok.cab,ok.hd,ok.frames,ok.stk,ok.exf,ok.bs,ok.bsz,ok.zt,ok.zu,ok.oP,ok.frf,ok.tab⟩
def Cx.Ok.lh{X:Cx}(ok:(X.wish E).Ok):X.Ok :=
 ⟨ok.mod,ok.kind,ok.glob,ok.blt,ok.above,ok.inj,ok.has,ok.cab,ok.hd,ok.frames,ok.stk,ok.exf,ok.bs,ok.bsz,ok.zt,ok.zu,ok.oP,ok.frf,ok.tab⟩
section
variable{X:Cx}{V0:List<|Addr×Obj}{σ:St}{H:Hp}{s:Shared}{E:Value->Shared->Prop}
theorem Inv.wish(I:Inv X V0 σ H s)(E:Value->Shared->Prop):Inv (X.wish E) V0 σ H s:=⟨I.ok.wish E,I.os,I.bare,I.base,I.loc,I.cell,I.free,I.ic,I.pin,I.hok,I.len⟩
theorem Inv.lh(I:Inv (X.wish E) V0 σ H s):Inv X V0 σ H s:=⟨I.ok.lh,I.os,I.bare,I.base,I.loc,I.cell,I.free,I.ic,I.pin,I.hok,I.len⟩
theorem SP.lh(h:SP (X.wish E) V0 D f s'):SP X V0 D f s':=by
 cases f with
 |next=>obtain⟨a,H',I,q⟩:=h;exact⟨a,H',I.lh,q⟩
 |brk=>obtain⟨a,H',I,q⟩:=h;exact⟨a,H',I.lh,q⟩
 |cont=>obtain⟨a,H',I,q⟩:=h;exact⟨a,H',I.lh,q⟩
 |ret u=>obtain⟨v,a,H',I,r,q⟩:=h;exact⟨v,a,H',I.lh,r,q⟩
theorem PSs.nox{st:List Stmt}(h:PSs X.nox st t):PSs X st t:=λV0 s σ H D I a=>
 za6 (h V0 s σ H D (I.wish _) a) (λ_ _ q=>q.lh) λ_ _ z=>False.elim z
end
section
variable{X:Cx}{st:Stmt}{T1:List Stmt}{t u:TS}{e:Expr}{te:TE}{pos:Pos}
def Ey:TS:=λD σ H=>D.nx σ H
def Ez(t u:TS):TS:=λD σ H=>t {D with nx:=u D} σ H
def bF:PSs X [] Ey:=λ_ _ σ H _ I h=>wpAny_execs_nil ⟨σ,H,I,h⟩
theorem af(M:PS X st t)(O:PSs X T1 u):PSs X (st::T1) (Ez t u):=by
 intro V0 s σ H D I h;refine wpAny_execs_cons (thn (M V0 s σ H {D with nx:=u D} I h) λf s1 q=>?_)
 cases f with
 |next=>
  obtain⟨a,H',b,q⟩:=q;exact O V0 s1 a H' D b q
 |ret v=>exact q
 |brk=>exact q
 |cont=>exact q
theorem aC(M:PS X st t):PSs X [st] t:=by
 intro V0 s σ H D I h;refine wpAny_execs_cons (thn (M V0 s σ H D I h) λf s1 q=>?_)
 cases f with
 |next=>exact wpAny_execs_nil q
 |ret v=>exact q
 |brk=>exact q
 |cont=>exact q
theorem Inv.quiet{σ:St}{s:Shared}(I:Inv X V0 σ H s):interactive X.env=false:=by simp[interactive,I.ok.kind]
def w8(te:TE):TS:=λD σ H=>te σ H λ_ G=>D.nx σ G
theorem eL(M:PE X e te)(hs:swapsWith e none pos.line X.env=pure false:=by rfl):PS X (.Expr e pos) (w8 te):=by
 intro V0 s σ H D I h;exact wpAny_Expr_any (thn (M V0 s σ H _ I h) λv s1 ⟨x,a,b,d,c⟩=>⟨σ,a,b,c⟩) I.quiet hs
def HN(te:TE):TS:=λD σ H=>te σ H D.rt
theorem br(M:PE X e te):PS X (.Return (some e) pos) (HN te):=by
 intro V0 s σ H D I h;exact wpAny_Return_some (thn (M V0 s σ H _ I h) λv s1 ⟨x,a,b,d,c⟩=>⟨x,σ,a,b,d,c⟩)
def EA(c:TT)(t u:TS):TS:=λD σ H=>c σ H λb G=>if b=true then t D σ G else u D σ G
theorem cY(O:PT X c tc)(ha:PSs X a t)(M:PSs X b u):PS X (.If c a b pos) (EA tc t u):=by
 intro V0 s σ H D I h;refine wpAny_If (thn (O V0 s σ H _ I h) λd s1 ⟨f,g,l⟩=>?_)
 cases d with
 |true=>exact ha V0 s1 σ f D g l
 |false=>exact M V0 s1 σ f D g l
def zz:TS:=λ_ _ _=>False
def fP:PS X st zz:=λ_ _ _ _ _ _ h=>h.elim
end
abbrev TG:=V->St->Hp->(St->Hp->Prop)->Prop
abbrev TGs:=List V->St->Hp->(St->Hp->Prop)->Prop
def PG(X:Cx)(M:Expr)(t:TG):Prop :=
 ∀(V0:List<|Addr×Obj) (s:Shared) (σ:St) (H:Hp) (v:V) (u:Value) (Q:St->Hp->Prop),Inv X V0 σ H s->RelV v u->t v σ H Q->
  wpAny (model X.prog X.w) X.A (assign M X.env u) (λ_ s'=>∃D H',Inv X V0 D H' s'/\Q D H') X.xe s
def PGs(X:Cx)(ts:List Expr)(t:TGs):Prop :=
 ∀(V0:List<|Addr×Obj) (s:Shared) (σ:St) (H:Hp) (vs:List V) (us:List Value) (Q:St->Hp->Prop),Inv X V0 σ H s->Vals vs us->t vs σ H Q->
  wpAny (model X.prog X.w) X.A (assignInOrder ((assignEach ts X.env).map (·.2)) us) (λ_ s'=>∃D H',Inv X V0 D H' s'/\Q D H') X.xe s
abbrev LQ:=V->V->V->Hp->(Hp->Prop)->Prop
def Od(X:Cx)(t:LQ):Prop :=
 ∀(V0:List<|Addr×Obj) (s:Shared) (σ:St) (H:Hp) (o i v:V) (G D u:Value) (Q:Hp->Prop),Inv X V0 σ H s->RelV o G->RelV i D->RelV v u->t o i v H Q->
  wpAny (model X.prog X.w) X.A (setItem G D u) (λ_ s'=>∃H',Inv X V0 σ H' s'/\Q H') X.xe s
abbrev TIp:=V->V->Hp->VK->Prop
def PIp(X:Cx)(op:Operator)(t:TIp):Prop :=
 ∀(V0:List<|Addr×Obj) (s:Shared) (σ:St) (H:Hp) (x y:V) (v u:Value) (Q:VK),Inv X V0 σ H s->RelV x v->RelV y u->t x y H Q->
  wpAny (model X.prog X.w) X.A (inplaceOp op v u) (EP X V0 σ Q) X.xe s
section
variable{X:Cx}{pos:Pos}
def ll(i:Nat):TG:=λv σ H Q=>Q (σ.set i<|some v) H
theorem u9(M:X.N.Nodup)(hi:X.N[i]?=some x)(Y:Loc X.env.scope x)(O:X.fn x=true\/X.env.scope.names.lookup x=some .local:=by first|exact .inl rfl|exact .inr rfl|assumption):PG X (.Name x pos) (ll i):=by
 intro V0 s σ H v u Q I r h;exact wpAny_assign_Name (qU I M hi Y r (λs' a=>⟨_,H,a,h⟩) O)
def Oe:TGs:=λvs σ H Q=>vs=[]/\Q σ H
def Kw(t:TG)(u:TGs):TGs:=λvs σ H Q=>∃v r,vs=v::r/\t v σ H fun D H'=>u r D H' Q
theorem HP:PGs X [] Oe:=by
 intro V0 s σ H vs us Q I r h;obtain⟨e,h⟩:=h;subst e;cases r;exact assignInOrder_nil ⟨σ,H,I,h⟩
theorem w9(M:PG X e t)(O:PGs X es u)
  (hs:(assignEach (e::es) X.env).map (·.2)=assign e X.env::(assignEach es X.env).map (·.2):=by rfl):PGs X (e::es) (Kw t u):=by
 intro V0 s σ H vs us Q I r h;obtain⟨v,i,d,h⟩:=h;subst d;cases r with
 |cons r g=>
  rw[hs];refine assignInOrder_cons (thn (M V0 s σ H _ _ _ I r h) λ_ s1 ⟨a,b,c,f⟩=>?_)
  exact O V0 s1 a b _ _ Q c g f
def tf(to M:TE)(t:LQ):TG:=λv σ H Q=>to σ H λo D=>M σ D λi G=>t o i v G λJ=>Q σ J
theorem fQ(ho:PE X o to)(hi:PE X i U)(hs:Od X t)
  (ha:∀v,assign (.Subscript o i pos) X.env v=(do
   let M<-holding [v] (eval o X.env)
   let O<-holding [v,M] (eval i X.env)
   standAt pos
   holding [v,M,O] (setItem M O v)
   release [v,M,O] []):=by intro _;rfl):PG X (.Subscript o i pos) (tf to U t):=by
 intro V0 s σ H v u Q I r h;rw[ha];refine zaI (wpAny_holding<|thn (ho V0 s σ H _ I h) λM s1 ⟨x,a,d,m,g⟩=>?_)
 refine zaI (wpAny_holding<|thn (hi V0 s1 σ a _ d g) λO s2 ⟨y,b,e,p,j⟩=>?_)
 refine zaI (wpAny_standAt<|zaI<|wpAny_holding<|thn (hs V0 s2 σ b x y v M O u _ e m p r j) λ_ q ⟨c,f,l⟩=>?_)
 exact wpAny_release ⟨σ,c,f,l⟩
def xa(te:TE)(g:TG):TS:=λD σ H=>te σ H λx G=>g x σ G D.nx
theorem fJ(O:PE X e te)(U:PG X tg g)(hs:swapsWithSole [tg] e pos.line X.env=pure false:=by rfl)(Y:swappedStores [tg] e X.env=pure none:=by rfl)
  (M:(assignEach [tg] X.env).map (·.2)=[assign tg X.env]:=by rfl):PS X (.Assign [tg] e pos) (xa te g):=by
 intro V0 s σ H D I h;refine wpAny_Assign_stores (thn (O V0 s σ H _ I h) λv s1 ⟨x,a,b,d,c⟩=>?_) hs Y
 rw[M];exact thn (U V0 s1 σ a x v _ b d c) λ_ s2 q=>q
theorem LR(O:X.N.Nodup)(hi:X.N[i]?=some x)(hx:Loc X.env.scope x)(U:PE X e te)(hs:swapsWith e (some<|.Name x M) pos.line X.env=pure false:=by rfl)(Y:X.fn x=true\/X.env.scope.names.lookup x=some .local:=by first|exact .inl rfl|exact .inr rfl|assumption) :
  PS X (.Assign [.Name x M] e pos) (xa te<|ll i):=by
 intro V0 s σ H D I h;refine wpAny_Assign_Name (thn (U V0 s σ H _ I h) λv s1 ⟨y,a,b,f,d⟩=>?_) hs
 exact qU b O hi hx f (λs2 c=>⟨_,a,c,d⟩) Y
def Og(i:Nat)(te:TE)(M:TIp):TS:=λD σ H=>∃x,σ[i]?=some (some x)/\te σ H λy G=>M x y G λz J=>D.nx (σ.set i<|some z) J
theorem LS(Y:X.N.Nodup)(hi:X.N[i]?=some x)(M:Loc X.env.scope x)(he:PE X e te)(ho:PIp X O ti)(hf:X.fn x=true\/X.env.scope.names.lookup x=some .local:=by first|exact .inl rfl|exact .inr rfl|assumption) :
  PS X (.AugAssign (.Name x U) O e pos) (Og i te ti):=by
 intro V0 s σ H D I h;obtain⟨v,t,h⟩:=h;obtain⟨m,hn,hl⟩:=I.loc;have f:Vis X.env.scope x:=by rcases M with k|k;exact .inl k;exact .inr (.inl k)
 obtain⟨u,r,l⟩:=hl i x v hi t f;refine wpAny_AugAssign_Name ?_;have go:wpAny (model X.prog X.w) X.A (eval e X.env) (λw b=>wpAny (model X.prog X.w) X.A (inplaceOp O u w) (λr d=>wpAny (model X.prog X.w) X.A (storeName X.env x r) (λ_=>SP X V0 D .next) X.xe d) X.xe b) X.xe s:=by
  refine thn (he V0 s σ H _ I h) λw s1 ⟨y,g,o,F,C⟩=>?_
  refine thn (ho V0 s1 σ g v y u w _ o r F C) λz s2 ⟨K,j,p,G,E⟩=>?_
  exact qU p Y hi M G (λJ q=>⟨_,j,q,E⟩) hf
 rcases l with⟨hk,hm⟩|⟨hk,c,B,a⟩
 ·exact wpAny_loadName_local I.ok.kind hk hn hm go
 ·rcases hk with hk|hk
  ·exact wpAny_loadName_cell I.ok.kind hk B a go
  ·rcases M with k|k
   ·have:X.env.scope.names.lookup x=some .free:=hk
    rw[k]at this;cases this
   ·have:X.env.scope.names.lookup x=some .free:=hk
    rw[k]at this;cases this
def ipI(f:Int->Int->Int):TIp:=λx y H Q=>∃i j,x=.int i/\y=.int j/\Q (.int<|f i j) H
theorem LU:PIp X .Add (ipI λi j=>i+j):=by
 intro V0 s σ H x y v u Q I c d h;obtain⟨i,j,a,b,q⟩:=h;subst a;subst b
 obtain⟨t,rfl⟩:=c;obtain⟨e,rfl⟩:=d;exact iadd_int ⟨.int _,H,I.tok _,⟨_,rfl⟩,q⟩
def zA(c:TT)(M:TS):TS:=λD σ H=>∃W:Nat->St->Hp->Prop,(∃m,W m σ H)/\∀m σ H,W m σ H->
 c σ H λb J=>if b=true then∃N:St->Hp->Prop,(∀G H',N G H'->∃L,L<m/\W L G H')/\M {D with nx:=N,ct:=N,bk:=D.nx} σ J else D.nx σ J
theorem nD(O:PassesOwn (model X.prog X.w) X.A X.env X.xe)(Y:PT X c tc)(U:PSs X M tb):PS X (.While c M [] pos) (zA tc tb):=by
 intro V0 s σ H D I h;obtain⟨W,⟨y,w0⟩,turn⟩:=h;refine wpAny_While (codeAny_whileLoop (λn s'=>∃g H',Inv X V0 g H' s'/\W n g H') ?_ y ⟨σ,H,I,w0⟩)
 rintro n s1 ⟨d,q,x,w1⟩
 refine wpAny_passesOwn O (thn (Y V0 s1 d q _ x<|turn n d q w1) λb s2 ⟨r,t,j⟩=>?_)
 cases b with
 |true=>
  obtain⟨N,u,j⟩:=j;rw[if_pos rfl];refine wpAny_passesOwn O (thn (U V0 s2 d r _ t j) λf B l=>?_)
  cases f with
  |next=>
   obtain⟨a,e,m,n3⟩:=l;obtain⟨o,hm,p⟩:=u a e n3;exact⟨o,hm,a,e,m,p⟩
  |cont=>
   obtain⟨a,e,m,n3⟩:=l;obtain⟨o,hm,p⟩:=u a e n3;exact⟨o,hm,a,e,m,p⟩
  |brk=>exact l
  |ret v=>exact l
 |false=>
  rw[if_neg zam];exact wpAny_execs_nil ⟨d,r,t,j⟩
end
structure It where
 go:Nat->Hp->Prop
 yld:Nat->Hp->V->Hp->Prop
 stop:Nat->Hp->Prop
def jV(X:Cx)(V0:List<|Addr×Obj)(H:Hp)(b:Addr):Prop :=
 H b=none/\b≠X.env.locals/\b∉X.fs/\(b∈X.ex\/X.s₀.heap.objs.size<=b)/\(∀x c,X.env.cells.lookup x=some c->c≠b)/\∀p∈X.pn++V0,p.1≠b
theorem Inv.tj{σ:St}{H H':Hp}{s:Shared}{b:Addr}(I:Inv X V0 σ H s)(M:s.heap.objs.size<=b)(hn:H' b=none):jV X V0 H' b:=by
 refine⟨hn,Nat.ne_of_gt<|zaF I.lt M,I.PY M,.inr<|zaX I.sz M,λx c e z=>?_,λp a z=>?_⟩
 ·obtain⟨v,q⟩:=I.cell x c e
  exact absurd (zaF q.lt (by rw[z];exact M)) (za3 _)
 ·exact absurd (zaF (zaq (I.pin p a).1) (by rw[z];exact M)) (za3 _)
structure Turn(P:Program)(w:World)(K:zag)(tg:Expr)(J:It)(fp:List Addr)(it:Addr)(tn:Nat->Heap->Prop):Prop where
 mem:it∈fp
 obj:∀i h,tn i h->∀b∈fp,∃o,h.get? b=some o/\∀v,o.data≠.cell v
 keep:∀i h h',tn i h->(∀b∈fp,∀o,h.get? b=some o->h'.get? b=some o)->tn i h'
 item:∀(X:Cx),X.prog=P->X.w=w->X.K=K->X.calm=true->∀(i:Nat) (V0:List<|Addr×Obj) (s:Shared) (σ:St) (H:Hp) (E:Value->Shared->Prop),Inv X V0 σ H s->(∀b∈fp,jV X V0 H b)->tn i s.heap->J.go i H->
  wpAny (model P w) X.A (pyNext<|.ref it) (λr s1=>∃u,r=some u/\
   wpAny (model P w) X.A (letOwnedTupleGo tg (.ref it) u) (λ_ s2=>∃x H',Inv X V0 σ H' s2/\RelV x u/\J.yld i H x H'/\tn (i+1) s2.heap/\∀b∈fp,H' b=none) E s1) E s
 done:∀(X:Cx),X.prog=P->X.w=w->X.K=K->X.calm=true->∀(i:Nat) (V0:List<|Addr×Obj) (s:Shared) (σ:St) (H:Hp) (E:Value->Shared->Prop),Inv X V0 σ H s->(∀b∈fp,jV X V0 H b)->tn i s.heap->J.stop i H->
  wpAny (model P w) X.A (pyNext<|.ref it) (λr s1=>r=none/\Inv X V0 σ H s1) E s
 self:∀(A:Around) (i:Nat) (s:Shared) (Q:Value->Shared->Prop) (E:Value->Shared->Prop),tn i s.heap->Q (.ref it) s->wpAny (model P w) A (pyIter<|.ref it) Q E s
abbrev TI:=St->Hp->(It->Hp->Prop)->Prop
def PIE(X:Cx)(V0:List<|Addr×Obj)(σ:St)(tg:Expr)(R:It->Hp->Prop)(M:Value)(s2:Shared):Prop :=
 ∃(it:Addr) (fp:List Addr) (tn:Nat->Heap->Prop) (J:It) (H':Hp),M=.ref it/\Inv X V0 σ H' s2/\Turn X.prog X.w X.K tg J fp it tn/\tn 0 s2.heap/\(∀b∈fp,jV X V0 H' b)/\R J H'
def PI(X:Cx)(tg iter:Expr)(M:TI):Prop :=
 ∀(V0:List<|Addr×Obj) (s:Shared) (σ:St) (H:Hp) (R:It->Hp->Prop),Inv X V0 σ H s->M σ H R->
  wpAny (model X.prog X.w) X.A (eval iter X.env) (λv s1=>wpAny (model X.prog X.w) X.A (pyIter v) (PIE X V0 σ tg R) X.xe s1) X.xe s
theorem xb(ho:s.heap.get? it=some o)(O:o.cls=.type n)(hd:o.data=.fields vs)
  (hn : ["enumerate","zip","dict_itemiterator","dict_reverseitemiterator","odict_iterator","itertools.zip_longest","itertools.pairwise"].contains n=false) (I:Q () s):wpAny M A (letOwnedTupleGo tg (.ref it) u) Q E s:=by
 unfold letOwnedTupleGo;cases tg<;>first
  |exact zaZ I
  |(cases u<;>first
    |exact zaZ I
    | (refine zaI (wpAny_load ho ?_)
       rw[O,hd];show wpAny M A (if(["enumerate","zip","dict_itemiterator","dict_reverseitemiterator","odict_iterator","itertools.zip_longest","itertools.pairwise"].contains n&&vs[0]? ==some (rawInt _))=true then _ else _) Q E s
       rw[if_neg (by intro h;rw[hn,Bool.false_and]at h;cases h)]
       exact zaZ I))
def Itl(K:zag)(a:Addr):It :=
 ⟨λi H=>∃xs x,SqL K H a xs/\xs[i]?=some x,λi H x H'=>H'=H/\∀xs,SqL K H a xs->xs[i]?=some x,λi H=>∃xs,SqL K H a xs/\xs.length<=i⟩
def Itt(K:zag)(a:Addr):It :=
 ⟨λi H=>∃xs x,SqT K H a xs/\xs[i]?=some x,λi H x H'=>H'=H/\∀xs,SqT K H a xs->xs[i]?=some x,λi H=>∃xs,SqT K H a xs/\xs.length<=i⟩
def Itr(lo:Int)(n:Nat):It:=⟨λi _=>i<n,λi H x H'=>H'=H/\x=.int (lo+i),λi _=>n<=i⟩
theorem CT{K:zag}{tg:Expr}(a it:Addr):Turn P w K tg (Itl K a) [it] it (λi h=>h.IsListIter it a i) where
 mem:=by simp
 obj:=λi h st b j=>by
  have e:b=it:=by simpa using j
  subst e;obtain⟨o,e,c,d⟩:=st;exact⟨o,e,λv z=>by rw[d]at z;cases z⟩
 keep:=λi h h' st k=>st.at λo e=>k it (by simp) o e
 item:=by
  walk_at "q8"
  obtain⟨xs,x,n,y⟩:=g;obtain⟨C,A,p,Q⟩:=I.list n;obtain⟨u,J,R⟩:=A.get y;obtain⟨f0,f1,f2,q,r,t⟩:=f it (by simp)
  refine wpAny_pyNext_list_item st p.isList (x:=u) (by simpa using J) λh' m sb=>?_
  have B:Inv X V0 σ H {s with heap:=h'}:=I.turned (t':=s.toks) (λb o j e=>(sb.2 b j).trans e) f0 f1 q r t
  obtain⟨o,e,c,d⟩:=id m;exact⟨u,rfl,xb (s:={s with heap:=h'}) e c d (by decide) ⟨x,H,B,R,⟨rfl,λS N=>by rw[I.Ex N n];exact y⟩,m,λb j=>(f b j).1⟩⟩
 done:=by
  walk_at "q8"
  obtain⟨xs,n,y⟩:=g;obtain⟨C,A,p,Q⟩:=I.list n;obtain⟨f0,f1,f2,q,r,t⟩:=f it (by simp)
  have hl:=A.length;exact wpAny_pyNext_list_end (I.ok.hd l) st p.isList (by simp;lia) λh' D=>⟨rfl,I.turned (t':=s.toks) (λb o j e=>D b o j e) f0 f1 q r t⟩
 self:=λ_ _ _ _ _ st h=>wpAny_pyIter_listiter st h
theorem zB{K:zag}{tg:Expr}(a it:Addr):Turn P w K tg (Itt K a) [it] it (λi h=>h.IsTupleIter it a i) where
 mem:=by simp
 obj:=λi h st b j=>by
  have e:b=it:=by simpa using j
  subst e;obtain⟨o,e,c,d⟩:=st;exact⟨o,e,λv z=>by rw[d]at z;cases z⟩
 keep:=λi h h' st k=>st.at λo e=>k it (by simp) o e
 item:=by
  walk_at "q8"
  obtain⟨xs,x,n,A⟩:=g;obtain⟨q,B,p,Q⟩:=I.tuple n;obtain⟨u,J,R⟩:=B.get A;obtain⟨f0,f1,f2,r,t,y⟩:=f it (by simp)
  refine wpAny_pyNext_tuple_item st (show s.heap.IsTuple a q.toArray from p) (x:=u) (by simpa using J) λh' m sb=>?_
  have C:Inv X V0 σ H {s with heap:=h'}:=I.turned (t':=s.toks) (λb o j e=>(sb.2 b j).trans e) f0 f1 r t y
  obtain⟨o,e,c,d⟩:=id m;exact⟨u,rfl,xb (s:={s with heap:=h'}) e c d (by decide) ⟨x,H,C,R,⟨rfl,λS N=>by rw[I.CS N n];exact A⟩,m,λb j=>(f b j).1⟩⟩
 done:=by
  walk_at "q8"
  obtain⟨xs,n,A⟩:=g;obtain⟨q,B,p,Q⟩:=I.tuple n;obtain⟨f0,f1,f2,r,t,y⟩:=f it (by simp)
  have hl:=B.length;exact wpAny_pyNext_tuple_end (I.ok.hd l) st (show s.heap.IsTuple a q.toArray from p) (by simp;lia) λh' D=>⟨rfl,I.turned (t':=s.toks) (λb o j e=>D b o j e) f0 f1 r t y⟩
 self:=λ_ _ _ _ _ st h=>wpAny_pyIter_tupleiter st h
theorem zC{K:zag}{tg:Expr}(it:Addr)(lo:Int)(n:Nat):Turn P w K tg (Itr lo n) [it] it (λi h=>IsRangeIter h it (lo+(i:Nat)*1) ((n:Int)-(i:Nat)) 1) where
 mem:=by simp
 obj:=λi h st b a=>by
  have e:b=it:=by simpa using a
  subst e;exact⟨_,st,λv z=>by
   have x:Data.fields _=Data.cell v:=z;cases x⟩
 keep:=λi h h' st k=>k it (by simp) _ st
 item:=by
  walk_at "q8"
  obtain⟨f0,f1,f2,d,j,m⟩:=f it (by simp)
  have W:=Walks.range (prog:=X.prog) (w:=X.w) (I.ok.hd l) it lo 1 n;refine W.item i s _ _ g st λv h' tk r c u=>?_
  obtain⟨t,rfl⟩:=r;have p:Inv X V0 σ H {s with heap:=h',toks:=tk}:=I.turned (λb o a e=>u b o (by simpa using a) e) f0 f1 d j m
  refine⟨_,rfl,xb (s:={s with heap:=h',toks:=tk}) (n:="range_iterator") c rfl rfl (by decide) ⟨.int<|lo+i,H,p,⟨t,?_⟩,⟨rfl,rfl⟩,c,λb a=>(f b a).1⟩⟩
  rw[Int.mul_one]
 done:=by
  walk_at "q8"
  obtain⟨f0,f1,f2,d,j,m⟩:=f it (by simp)
  exact wpAny_pyNext_range_end (I.ok.hd l) st (by have:n<=i:=g;lia) λh' q=>⟨rfl,I.turned (t':=s.toks) (λb o a e=>q b o a e) f0 f1 d j m⟩
 self:=λ_ _ _ _ _ st h=>wpAny_pyIter_rangeiter st h
section
variable{X:Cx}{tg:Expr}
def xc(K:zag)(tl:TE):TI:=fun σ H R=>tl σ H λx D=>∃a,x=.ref a/\(∃xs,SqL K D a xs)/\R (Itl K a) D
def HQ(K:zag)(tl:TE):TI:=fun σ H R=>tl σ H λx D=>∃a,x=.ref a/\(∃xs,SqT K D a xs)/\R (Itt K a) D
theorem AY(hl:PE X l tl):PI X tg l (xc X.K tl):=by
 intro V0 s σ H R I h;refine thn (hl V0 s σ H _ I h) λv s1 ⟨x,d,c,j,i⟩=>?_
 obtain⟨a,e,⟨xs,g⟩,q⟩:=i;subst e;cases j;obtain⟨m,t,p,r⟩:=c.list g;refine wpAny_pyIter_list p.isList ?_;refine⟨s1.heap.objs.size,[s1.heap.objs.size],_,_,d,rfl,c.kept (t':=s1.toks) λb o e=>zar _ e,CT a _,⟨_,zaL _ rfl,rfl,rfl⟩,λb f=>?_,q⟩
 have e:b=s1.heap.objs.size:=by simpa using f
 subst e;exact c.tj (zap _) (c.hok.fresh<|zap _)
theorem LV(hl:PE X l tl):PI X tg l (HQ X.K tl):=by
 intro V0 s σ H R I h;refine thn (hl V0 s σ H _ I h) λv s1 ⟨x,d,c,k,j⟩=>?_
 obtain⟨a,e,⟨xs,i⟩,q⟩:=j;subst e;cases k;obtain⟨f,n,p,m⟩:=c.tuple i;refine wpAny_pyIter_tuple (show s1.heap.IsTuple a f.toArray from p) ?_;refine⟨s1.heap.objs.size,[s1.heap.objs.size],_,_,d,rfl,c.kept (t':=s1.toks) λb o e=>zar _ e,zB a _,⟨_,zaL _ rfl,rfl,rfl⟩,λb g=>?_,q⟩
 have e:b=s1.heap.objs.size:=by simpa using g
 subst e;exact c.tj (zap _) (c.hok.fresh<|zap _)
theorem EB{σ:St}{s:Shared}{R:It->Hp->Prop}{E:Value->Shared->Prop}{lo hi:Int}{t u v:Tok}{tk:Nat}(I:Inv X V0 σ H s)(M : -(2^62)<=lo)(O:lo<2^62)(h3 : -(2^62)<=hi)(h4:hi<2^62)
  (q:R (Itr lo (hi-lo).toNat) H):wpAny (model X.prog X.w) X.A (pyIter<|.ref s.heap.objs.size) (PIE X V0 σ tg R) E {s with heap:=s.heap.push {cls:=.type "range",data:=.fields #[.int lo t,.int hi u,.int 1 v]},toks:=tk}:=by
 refine wpAny_pyIter_range (IsRange.new ..) (small_one M O h3 h4) ?_;have a:Inv X V0 σ H {s with heap:=s.heap.push {cls:=.type "range",data:=.fields #[.int lo t,.int hi u,.int 1 v]},toks:=tk}:=I.kept λb o e=>zar _ e
 refine⟨(s.heap.push {cls:=.type "range",data:=.fields #[.int lo t,.int hi u,.int 1 v]}).objs.size,[(s.heap.push {cls:=.type "range",data:=.fields #[.int lo t,.int hi u,.int 1 v]}).objs.size],_,_,H,rfl,
  a.kept (t':=tk) λb o e=>zar _ e,zC _ lo (hi-lo).toNat,?_,λb f=>?_,q⟩
 ·have c:lo+((0:Nat):Int)*1=lo:=by simp
  have d:(((hi-lo).toNat:Nat):Int)-((0:Nat):Int)=Builtin.Range.rangeSize lo hi 1:=by rw[rangeSize_one];split<;>lia
  show IsRangeIter _ _ (lo+((0:Nat):Int)*1) ((((hi-lo).toNat:Nat):Int)-((0:Nat):Int)) 1;rw[c,d];exact zaL _ rfl
 ·have e:b=(s.heap.push {cls:=.type "range",data:=.fields #[.int lo t,.int hi u,.int 1 v]}).objs.size:=by simpa using f
  subst e;exact a.tj (zap _) (a.hok.fresh<|zap _)
def EC(M:TA):TI:=fun σ H R=>M σ H λvs D=>∃j:Int,vs=[.int j]/\-(2^62)<=j/\j<2^62/\R (Itr 0 j.toNat) D
theorem CU(M:Gl X "range")(hm:X.mg "range"=none)(ha:PA X [a] O)(hs:starEach [a] X.env=[(false,eval a X.env)]:=by rfl):PI X tg (.Call (.Name "range" p) [a] [] pos) (EC O):=by
 intro V0 s σ H R I h;refine Call_ (qV I M hm boot_range<|PyProof.Rows.callWith_type1 (thn (ha pos V0 s σ H _ I h) λus s1 ⟨vs,i,c,f,b⟩=>?_) hs rfl)
 obtain⟨j,e,b,d,q⟩:=b;subst e;cases f with
 |cons r g=>
  cases g;obtain⟨t,rfl⟩:=r;exact call_range_1 (EB c (by lia) (by lia) b d (by simpa using q))
def HR(Y:TI)(g:TG)(O:TS):TS:=λD σ H=>Y σ H λJ Z=>∃W:Nat->Nat->St->Hp->Prop,(∃m,W 0 m σ Z)/\∀i m σ H,W i m σ H->
 (J.stop i H/\D.nx σ H)\/(J.go i H/\∃N:St->Hp->Prop,(∀G H',N G H'->∃V,V<m/\W (i+1) V G H')/\∀x H',J.yld i H x H'->g x σ H' fun L M=>O {D with nx:=N,ct:=N,bk:=D.nx} L M)
def jW(fp:List Addr)(h:Heap):List (Addr×Obj):=fp.filterMap λb=>(h.get? b).map λo=>(b,o)
theorem b7(I:b∈fp)(e:h.get? b=some o):(b,o)∈jW fp h:=List.mem_filterMap.mpr ⟨b,I,by rw[e];rfl⟩
theorem oS(I:p∈jW fp h):p.1∈fp/\h.get? p.1=some p.2:=by
 obtain⟨b,c,e⟩:=List.mem_filterMap.mp I;cases q:h.get? b with
 |none=>rw[q]at e;cases e
 |some o=>
  rw[q]at e;have a:(b,o)=p:=zaQ e;subst a;exact⟨c,q⟩
theorem Inv.pinned{σ:St}{s:Shared}{fp:List Addr}(I:Inv X V0 σ H s)(M:∀b∈fp,jV X V0 H b)(ho:∀b∈fp,∃o,s.heap.get? b=some o/\∀v,o.data≠.cell v):Inv X (V0++jW fp s.heap) σ H s :=
 I.AX λp f=>(zae f).elim (λz=>I.pin p<|zan _ z) λz=>by
  obtain⟨c,e⟩:=oS z;obtain⟨f0,f1,f2,_⟩:=M p.1 c;obtain⟨o,a,d⟩:=ho p.1 c;rw[e]at a;cases a
  exact⟨e,f0,f1,f2,d⟩
def Inv.fR{σ:St}{s:Shared}(I:Inv X (V0++pl) σ H s):Inv X V0 σ H s:=I.AX λp a=>I.pin p (zan _<|zaW _ a)
theorem oT(U:PassesOwn (model X.prog X.w) X.A X.env X.xe)(hc:X.calm=true)(hi:PI X tg iter wi)(hg:PG X tg g)(M:PSs X O tb)
  (hs:∀x,foldedSetIterable iter X.env x=pure x:=by intro _;rfl):PS X (.For tg iter O [] pos) (HR wi g tb):=by
 intro V0 s σ H D I h;refine wpAny_For (thn (hi V0 s σ H _ I h) λv s1 h1=>thn h1 λitv s2 h2=>?_) hs
 obtain⟨it,fp,tn,J,H2,e,I2,T,S,f2,W,⟨m0,w0⟩,turn⟩:=h2;subst e;have p:∀{H':Hp},(∀b∈fp,H' b=none)->∀b∈fp,jV X V0 H' b:=λhn b M=>⟨hn b M,(f2 b M).2⟩
 refine codeAny_forLoop_any (λn s'=>∃i q H',Inv X V0 q H' s'/\tn i s'.heap/\(∀b∈fp,H' b=none)/\W i n q H') ?_ m0 ⟨0,σ,H2,I2,S,λb M=>(f2 b M).1,w0⟩
 rintro n s3 ⟨i,t,G,Y,F,C,w3⟩
 rcases turn i n t G w3 with⟨stop,qn⟩|⟨go,N,hN,step⟩
 ·refine wpAny_passesOwn U (thn (T.done X rfl rfl rfl hc i V0 s3 t G X.xe Y (p C) F stop) λr s4 ⟨Q,I4⟩=>?_)
  subst Q;exact wpAny_execs_nil ⟨t,G,I4,qn⟩
 ·refine wpAny_passesOwn U (thn (T.item X rfl rfl rfl hc i V0 s3 t G X.xe Y (p C) F go) λr s4 ⟨u,Q,h4⟩=>?_)
  subst Q;refine wpAny_passesOwn U (thn h4 λ_ s5 ⟨x,Z,I5,r5,y5,B,P⟩=>?_)
  have L:=I5.pinned (p P) (T.obj _ _ B);refine wpAny_passesOwn U (thn (hg _ s5 t Z x u _ L r5<|step x Z y5) λ_ s6 ⟨V,H6,I6,q6⟩=>?_)
  refine wpAny_passesOwn U (thn (M _ s6 V H6 _ I6 q6) λf R y=>?_)
  have again:∀{a:St} {c:Hp},Inv X (V0++jW fp s5.heap) a c R->N a c->∃m,m<n/\∃i q H',Inv X V0 q H' R/\tn i R.heap/\(∀b∈fp,H' b=none)/\W i m q H':=fun{a c} l E=>by
   obtain⟨m',hm,w7⟩:=hN a c E;refine⟨m',hm,i+1,a,c,l.fR,T.keep _ _ _ B λb M o e=>(l.pin (b,o)<|zan _<|zan _<|b7 M e).1,λb M=>?_,w7⟩
   obtain⟨o,e,d⟩:=T.obj _ _ B b M;exact(l.pin (b,o)<|zan _<|zan _<|b7 M e).2.1
  cases f with
  |next=>obtain⟨a,c,l,E⟩:=y;exact again l E
  |cont=>obtain⟨a,c,l,E⟩:=y;exact again l E
  |brk=>obtain⟨a,c,l,y⟩:=y;exact⟨a,c,l.fR,y⟩
  |ret v=>obtain⟨x7,a,c,l,r7,y⟩:=y;exact⟨x7,a,c,l.fR,r7,y⟩
end
abbrev R2:=V->V->Hp->VK->Prop
def OpR(X:Cx)(f:Value->Value->Sem Value)(r:R2):Prop :=
 ∀(V0:List<|Addr×Obj) (s:Shared) (σ:St) (H:Hp) (x y:V) (v u:Value) (Q:VK),Inv X V0 σ H s->RelV x v->RelV y u->r x y H Q->
  wpAny (model X.prog X.w) X.A (f v u) (EP X V0 σ Q) X.xe s
def UnR(X:Cx)(f:Value->Sem Value)(r:V->Hp->VK->Prop):Prop :=
 ∀(V0:List<|Addr×Obj) (s:Shared) (σ:St) (H:Hp) (x:V) (v:Value) (Q:VK),Inv X V0 σ H s->RelV x v->r x H Q->
  wpAny (model X.prog X.w) X.A (f v) (EP X V0 σ Q) X.xe s
def dJ(X:Cx)(f:Value)(r:List V->Hp->VK->Prop):Prop :=
 ∀(V0:List<|Addr×Obj) (s:Shared) (σ:St) (H:Hp) (xs:List V) (us:List Value) (Q:VK),Inv X V0 σ H s->Vals xs us->r xs H Q->
  wpAny (model X.prog X.w) X.A (call f us) (EP X V0 σ Q) X.xe s
def tOp(r:R2)(M O:TE):TE:=fun σ H Q=>M σ H λx D=>O σ D λy G=>r x y G Q
def tUn(r:V->Hp->VK->Prop)(M:TE):TE:=fun σ H Q=>M σ H λx D=>r x D Q
def rI(C:Int->Int->Prop)(g:Int->Int->V):R2:=λx y H Q=>∃i j,x=.int i/\y=.int j/\C i j/\Q (g i j) H
def rI0(g:Int->Int->V):R2:=λx y H Q=>∃i j,x=.int i/\y=.int j/\Q (g i j) H
def rU(g:Int->V):V->Hp->VK->Prop:=λx H Q=>∃i,x=.int i/\Q (g i) H
section
variable{X:Cx}{a b c:Expr}{ta tb tc:TE}{pos:Pos}
theorem LW(ha:PE X a ta)(hb:PE X b tb){σ:St}{H:Hp}{R:V->V->Hp->Prop}(I:Inv X V0 σ H s)
  (h:ta σ H λx Y=>tb σ Y λy M=>R x y M) {Q:Value->Shared->Prop} {f:Value->Value->Sem Value}
  (hf:∀v u s2 x y M,Inv X V0 σ M s2->RelV x v->RelV y u->R x y M->wpAny (model X.prog X.w) X.A (f v u) Q X.xe s2) :
  wpAny (model X.prog X.w) X.A (eval a X.env) (λv O=>wpAny (model X.prog X.w) X.A (eval b X.env) (λu U=>wpAny (model X.prog X.w) X.A (f v u) Q X.xe U) X.xe O) X.xe s:=by
 refine thn (ha V0 s σ H _ I h) λv s1 ⟨x,Y,d,j,g⟩=>?_
 refine thn (hb V0 s1 σ Y _ d g) λu s2 ⟨y,M,e,k,i⟩=>?_
 exact hf v u s2 x y M e j k i
theorem bL(ho:OpR X (binaryOp O) r)(ha:PE X a ta)(M:PE X b tb):PE X (.BinOp a O b pos) (tOp r ta tb):=by
 intro V0 s σ H Q I h;exact wpAny_BinOp (LW ha M I h λv u s2 x y d e f g q=>ho V0 s2 σ d x y v u Q e f g q)
theorem Oh(ho:UnR X (unaryOp M) r)(ha:PE X a ta):PE X (.UnaryOp M a pos) (tUn r ta):=by
 intro V0 s σ H Q I h;exact UnaryOp_ (thn (ha V0 s σ H _ I h) λv s1 ⟨x,d,e,g,f⟩=>ho V0 s1 σ d x v Q e g f)
theorem opI{g:Int->Int->Int}
  (rule:∀(i j:Int) (t u:Tok) (s:Shared) (Q:Value->Shared->Prop) (E:Value->Shared->Prop),C i j->Q (.int (g i j) s.toks) {s with toks:=s.toks+1}->wpAny (model X.prog X.w) X.A (f (.int i t)<|.int j u) Q E s) :
  OpR X f (rI C λi j=>.int<|g i j):=by
 intro V0 s σ H x y v u Q I e k h;obtain⟨i,j,rfl,rfl,d,q⟩:=h;obtain⟨t,rfl⟩:=e;obtain⟨l,rfl⟩:=k;exact rule i j t l s _ _ d ⟨.int<|g i j,H,I.tok _,⟨_,rfl⟩,q⟩
theorem Oi{g:Int->Int->Int}
  (rule:∀(i j:Int) (t u:Tok) (s:Shared) (Q:Value->Shared->Prop) (E:Value->Shared->Prop),Q (.int (g i j) s.toks) {s with toks:=s.toks+1}->wpAny (model X.prog X.w) X.A (f (.int i t)<|.int j u) Q E s) :
  OpR X f (rI0 λi j=>.int<|g i j):=by
 intro V0 s σ H x y v u Q I d e h;obtain⟨i,j,rfl,rfl,q⟩:=h;obtain⟨t,rfl⟩:=d;obtain⟨k,rfl⟩:=e;exact rule i j t k s _ _ ⟨.int<|g i j,H,I.tok _,⟨_,rfl⟩,q⟩
theorem HS{g:Int->Int->Bool}
  (rule:∀(i j:Int) (t u:Tok) (s:Shared) (Q:Value->Shared->Prop) (E:Value->Shared->Prop),Q (.bool<|g i j) s->wpAny (model X.prog X.w) X.A (f (.int i t)<|.int j u) Q E s) :
  OpR X f (rI0 λi j=>.bl<|g i j):=by
 intro V0 s σ H x y v u Q I d e h;obtain⟨i,j,rfl,rfl,q⟩:=h;obtain⟨t,rfl⟩:=d;obtain⟨k,rfl⟩:=e;exact rule i j t k s _ _ ⟨.bl<|g i j,H,I,rfl,q⟩
def LX(i j:Int):Prop:=0<j/\j<1073741824
def LY(i j:Int):Prop:=0<=j/\j<=1000000/\i.natAbs<2^64
def LZ(i j:Int):Prop:=(-(2^64)<i/\i<2^64)\/(-(2^64)<j/\j<2^64)
theorem LZ.ok(h:LZ i j):IntMulOk i j:=by
 rcases h with⟨l,u⟩|⟨l,u⟩
 ·exact .of_left (intBits_le_64 l u)
 ·exact .of_right (intBits_le_64 l u)
def L3:OpR X (binaryOp .Add) (rI0 λi j=>.int<|i+j):=Oi λ_ _ _ _ _ _ _ q=>add_int q
def oU:OpR X (binaryOp .Sub) (rI0 λi j=>.int<|i-j):=Oi λ_ _ _ _ _ _ _ q=>sub_int q
theorem gJ:OpR X (binaryOp .FloorDiv) (rI LX λi j=>.int<|i/j):=opI λi j _ _ _ _ _ d q=>by
 have e:(0:Int)<j:=d.1;have f:j<1073741824:=d.2;exact floordiv_int (by lia) (by rw[Int.fdiv_eq_ediv_of_nonneg i (by lia)];exact q) (.inl<|PyProof.noPylong_small (by lia))
theorem dB:OpR X (binaryOp .Mod) (rI (λ_ j=>0<j) λi j=>.int<|i%j):=opI λi j _ _ _ _ _ d q=>by
 have e:(0:Int)<j:=d;exact mod_int' (by lia) (by rw[Int.fmod_eq_emod_of_nonneg i (by lia)];exact q)
def zD:OpR X (binaryOp .Pow) (rI LY λi j=>.int<|i^j.toNat):=opI λ_ _ _ _ _ _ _ d q=>pow_int_small d.1 d.2.1 d.2.2 q
theorem unI{g:Int->Int}
  (rule:∀(i:Int) (t:Tok) (s:Shared) (Q:Value->Shared->Prop) (E:Value->Shared->Prop),Q (.int (g i) s.toks) {s with toks:=s.toks+1}->wpAny (model X.prog X.w) X.A (f<|.int i t) Q E s) :
  UnR X f (rU λi=>.int<|g i):=by
 intro V0 s σ H x v Q I d h;obtain⟨i,rfl,q⟩:=h;obtain⟨t,rfl⟩:=d;exact rule i t s _ _ ⟨.int<|g i,H,I.tok _,⟨_,rfl⟩,q⟩
def L4:UnR X (unaryOp .USub) (rU λi=>.int<|-i):=unI λ_ _ _ _ _ q=>neg_int q
theorem ED{σ:St}{s:Shared}{Q:VK}{k k':Bool}(I:Inv X V0 σ H s)(q:Q (.bl k) H)(e:k=k'):EP X V0 σ Q (.bool k') s:=by
 subst e;exact⟨.bl k,H,I,rfl,q⟩
def EE:OpR X (compareOp .Lt) (rI0 λi j=>.bl<|decide<|i<j):=HS λ_ _ _ _ _ _ _ q=>lt_int q
def Oj:OpR X (compareOp .LtE) (rI0 λi j=>.bl<|decide<|i<=j):=HS λ_ _ _ _ _ _ _ q=>le_int q
def xf:OpR X (compareOp .Gt) (rI0 λi j=>.bl<|decide<|j<i):=HS λ_ _ _ _ _ _ _ q=>gt_int q
def Ol:OpR X (compareOp .GtE) (rI0 λi j=>.bl<|decide<|j<=i):=HS λ_ _ _ _ _ _ _ q=>ge_int q
theorem zE:OpR X (compareOp .Is) (λx y H Q=>y=.non/\Q (.bl<|decide<|x=.non) H):=by
 intro V0 s σ H x y v u Q I d e h;obtain⟨rfl,q⟩:=h;cases e;refine is_none_gen (ED I q ?_);cases x<;>first
  |(cases d;rfl)
  |(obtain⟨t,rfl⟩:=d;rfl)
theorem HU:OpR X (compareOp .IsNot) (λx y H Q=>y=.non/\Q (.bl<|!decide (x=.non)) H):=by
 intro V0 s σ H x y v u Q I d e h;obtain⟨rfl,q⟩:=h;cases e;refine isnot_none_gen (ED I q ?_);cases x<;>first
  |(cases d;rfl)
  |(obtain⟨t,rfl⟩:=d;rfl)
theorem OpR.or(h:OpR X f r)(h':OpR X f M):OpR X f (λx y H Q=>r x y H Q\/M x y H Q):=by
 intro V0 s σ H x y v u Q I d e q;rcases q with q|q
 ·exact h V0 s σ H x y v u Q I d e q
 ·exact h' V0 s σ H x y v u Q I d e q
theorem cI(b:Expr)(h:I≠.In:=by decide)(M:I≠.NotIn:=by decide):behindInMarks I b=false:=by
 have d:(I==CmpOp.In)=false:=by cases I<;>first|rfl|exact absurd rfl h
 have e:(I==CmpOp.NotIn)=false:=by cases I<;>first|rfl|exact absurd rfl M
 cases b<;>simp[behindInMarks,d,e]
theorem vb(ho:OpR X (compareOp M) r)(ha:PE X a ta)(O:PE X b tb)(hm:behindInMarks M b=false):PE X (.Compare a [M] [b] pos) (tOp r ta tb):=by
 intro V0 s σ H Q I h;exact wpAny_Compare1 (LW ha O I h λv u s2 x y d e f g q=>ho V0 s2 σ d x y v u Q e f g q) hm
def t9(t:TE):TT:=fun σ H Q=>t σ H λx H'=>∃k,x=.bl k/\Q k H'
theorem cA(ho:OpR X (compareOp M) r)(ha:PE X a ta)(O:PE X b tb)(hm:behindInMarks M b=false):PT X (.Compare a [M] [b] pos) (t9<|tOp r ta tb):=by
 intro V0 s σ H Q I h;refine wpAny_isTrue_Compare1 (thn (ha V0 s σ H _ I h) λv s1 ⟨x,d,j,t,o⟩=>thn (O V0 s1 σ d _ j o) λu s2 ⟨y,f,l,w,p⟩=>
  thn (ho V0 s2 σ f x y v u _ l t w p) λc B ⟨z,g,m,A,k,e,q⟩=>?_) hm
 subst e;cases A;exact wpAny_truthy_bool ⟨g,m,q⟩
def EF(r M:R2)(ta tb tc:TE):TE:=fun σ H Q=>ta σ H λx G=>tb σ G λy J=>r x y J λz D=>∃k,z=.bl k/\
 (if k=true then tc σ D λw' L=>M y w' L Q else Q (.bl false) D)
theorem EG(ho:OpR X (compareOp U) r)(O:OpR X (compareOp M) r')(ha:PE X a ta)(Y:PE X b tb)(hc:PE X c tc)
  (hm:lastMarks [U,M] [b,c]=false:=by with_unfolding_all rfl):PE X (.Compare a [U,M] [b,c] pos) (EF r r' ta tb tc):=by
 intro V0 s σ H Q I h;refine Compare_chain (thn (ha V0 s σ H _ I h) λv s1 ⟨x,l,p,C,w⟩=>chain_link (thn (Y V0 s1 σ l _ p w) λu s2 ⟨y,m,q,j,A⟩=>
  thn (ho V0 s2 σ m x y v u _ q C j A) λd F ⟨z,f,g,D,k,e,i⟩=>?_)) hm
 subst e;cases D;refine wpAny_truthy_bool ?_;cases k with
 |false=>exact ite_ff ⟨.bl false,f,g,rfl,i⟩
 |true=>exact ite_tt (chain_last<|thn (hc V0 F σ f _ g i) λw' G ⟨J,o,t,E,B⟩=>O V0 G σ o y J u w' Q t j E B)
theorem oV:(sizeLine:Nat)<2^63:=by rw[sizeLine_eq];decide
theorem zF:OpR X (binaryOp .Add) (λx y H Q=>∃i j,x=.str i/\y=.str j/\i.length+j.length<=sizeLine/\Q (.str<|i++j) H):=by
 intro V0 s σ H x y v u Q I e f h;obtain⟨i,j,rfl,rfl,d,q⟩:=h;obtain⟨t,rfl⟩:=e;obtain⟨g,rfl⟩:=f;exact add_str (λg tk=>⟨.str<|i++j,H,I.tok _,⟨_,rfl⟩,q⟩) d
theorem vals1(r:Vals [x] us):∃u,us=[u]/\RelV x u:=by
 cases r with
 |cons d e=>cases e;exact⟨_,rfl,d⟩
theorem vals2(r:Vals [x,y] us):∃u w',us=[u,w']/\RelV x u/\RelV y w':=by
 cases r with
 |cons d e=>
  cases e with
  |cons f g=>cases g;exact⟨_,_,rfl,d,f⟩
theorem CV:dJ X (.type "int") (λxs H Q=>(∃i,xs=[.int i]/\Q (.int i) H)\/∃k,xs=[.bl k]/\Q (.int<|if k then 1 else 0) H):=by
 intro V0 s σ H xs us Q I r h;rcases h with⟨i,rfl,q⟩|⟨k,rfl,q⟩
 ·obtain⟨u,rfl,t,rfl⟩:=vals1 r
  exact call_int_int ⟨.int i,H,I,⟨_,rfl⟩,q⟩
 ·obtain⟨u,rfl,d⟩:=vals1 r
  cases d;exact call_int_bool ⟨.int<|if k then 1 else 0,H,I.tok _,⟨_,rfl⟩,q⟩
end
structure L5(h:Heap)(x dx C:Addr)(mA:Str->Option Value):Prop where
 obj:h.get? x=some (PySem.W.instObj C dx)
 ns:h.Ns1 dx mA
 ne:dx≠x
theorem CW{h:Heap}(n:h.Ns1 dx mA):∃od,h.get? dx=some od/\∀name,PySem.W.lookIn name od=some (mA name):=by
 obtain⟨o,es,f,ho,hd,hk,_,hm⟩:=n;refine⟨o,ho,λname=>?_⟩
 have e:=hm name;unfold nsFind findBy at e;rw[<-Array.find?_toList]at e;unfold PySem.W.lookIn;rw[hd];dsimp only;split
 ·rename_i y q
  rw[q]at e;exact congrArg some e
 ·rename_i q
  rw[q]at e;have a:es.toList.any (·.refKey)=false:=by
   rw[List.any_eq_false];intro y d;obtain⟨z,t,b⟩:=hk y (Array.mem_toList_iff.mp d);simp[DictEntry.refKey,b]
  have c : ¬es.toList.any (·.refKey)=true:=by rw[a];exact zam
  rw[if_neg c];exact congrArg some e
def L5.look(I:L5 h x dx C mA):∃od,PySem.W.InstAt h x (PySem.W.instObj C dx) C (some od)/\∀name,PySem.W.lookIn name od=some (mA name) :=
 let⟨od,ho,hl⟩:=CW I.ns
 ⟨od,⟨I.obj,rfl,rfl,ho⟩,hl⟩
def P1(f:Str)(v:V):List (Str×V)->List (Str×V)
 | []=>[(f,v)]
 |(g,x)::r=>if g=f then(g,v)::r else(g,x)::P1 f v r
theorem qv.some_of(r:qv (some v) o):∃u,o=some u/\RelV v u:=by
 cases o with
 |none=>exact(show False from r).elim
 |some u=>exact⟨u,rfl,r⟩
section
variable{P:Program}{w:World}{H H':Hp}{h h':Heap}{a C dx:Addr}{fs fs':List<|Str×V}
theorem HV(hok:HOk P w H h)(e:H a=some (.ins C dx fs)):∃mA,L5 h a dx C mA/\(∀f,qv (fs.lookup f)<|mA f)/\PySem.Within mA (fs.map (·.1))/\fs.length<=1000/\H dx=some (.own a):=by
 obtain⟨d,z,ne,ob,mA,n,r,q⟩:=(show bY P w H h a (.ins C dx fs)from hok a _ e);exact⟨mA,⟨ob,n,ne⟩,r,q,z,d⟩
end
structure Cls(K:zag)(C:Addr):Prop where
 pg:PySem.W.plainGet K C Str.empty=true
 hd:PySem.W.hasDictIn K C=true
 po:PySem.W.plainOver K C=true
 sa:PySem.W.findIn K (.ref C) "__setattr__"=some (some<|.builtin "object.__setattr__")
def Cls.get{K:zag}(c:Cls K C)(f:Str):PySem.W.plainGet K C f=true:=c.pg
structure Con(K:zag)(C:Addr)(f:Str)(v:V)(u:Value):Prop where
 at_:PySem.W.findIn K (.ref C) f=some (some u)
 rel:RelV v u
 get:PySem.W.specialIn K u "__get__"=some none
 cp:PySem.W.copiedNames.contains f=false
structure Meth(K:zag)(C:Addr)(m:Str)(f:Addr):Prop where
 at_:PySem.W.findIn K (.ref C) m=some (some<|.ref f)
 fn:PySem.W.isFn K (.ref f)=true
 kp:PySem.W.keepIn K (.ref f)=true
section
variable{X:Cx}{V0:List<|Addr×Obj}{σ:St}{H:Hp}{s:Shared}{A:Around}{E:Value->Shared->Prop}{Q:Value->Shared->Prop}{c:Value}{b:Bool}
inductive oW(K:zag)(H:Hp):V->Value->Prop where
 |non:oW K H .non (.type "NoneType")
 |bl (x:Bool):oW K H (.bl x) (.type "bool")
 |int (i:Int):oW K H (.int i) (.type "int")
 |str (x:Str):oW K H (.str x) (.type "str")
 |flt (x:UInt64):oW K H (.flt x) (.type "float")
 |lst {a:Addr} {xs:List V} (e:H a=some (.lst xs)):oW K H (.ref a) (.type "list")
 |frz {a:Addr} {o:Obj} {xs:List V} (e:H a=some (.frz o (.lst xs))):oW K H (.ref a) (.type "list")
 |tup {a:Addr} {xs:List V} (e:H a=some (.tup xs)):oW K H (.ref a) (.type "tuple")
 |dK {a:Addr} {Z0:List (Key×V)} (e:H a=some (.dK Z0)):oW K H (.ref a) (.type "dict")
 |dT {a:Addr} {Z0:List (List Key×V)} (e:H a=some (.dT Z0)):oW K H (.ref a) (.type "dict")
 |ins {a C dx:Addr} {fs:List (Str×V)} (e:H a=some (.ins C dx fs)) (cl:Cls K C) (ha:PySem.W.findIn K (.ref C) "__class__"=some (some (.builtin "object.__class__")))
   (hn:PySem.W.specialIn K (.builtin "object.__class__") "__get__"=some (some<|.builtin "getset_descriptor.__get__")) (htk:PySem.W.takesIn K (.builtin "object.__class__")=some true)
   (hm:PySem.W.mroIn K C (.type "object")=some true):oW K H (.ref a) (.ref C)
theorem CY(I:Inv X V0 σ H s)(M:RelV x u)(ty:oW X.K H x t)(e:PySem.W.kitOne X.K t c=some b)(h:∀tk,Q (.bool b) {s with toks:=tk}) :
  wpAny (model X.prog X.w) A (call (.builtin "isinstance") [u,c]) Q E s:=by
 cases ty with
 |non=>cases(show u=Value.none from M);exact za4 PySem.W.kitx_none I.kIn True.intro e (λz=>nomatch z) h
 |bl y=>cases(show u=Value.bool y from M);exact za4 PySem.W.kitx_bool I.kIn True.intro e (λz=>nomatch z) h
 |int i=>obtain⟨t,q⟩:=(show∃t,u=Value.int i t from M);cases q;exact za4 PySem.W.kitx_int I.kIn True.intro e (λz=>nomatch z) h
 |str y=>obtain⟨t,q⟩:=(show∃t,u=Value.str y t from M);cases q;exact za4 PySem.W.kitx_str I.kIn True.intro e (λz=>nomatch z) h
 |flt y=>obtain⟨t,q⟩:=(show∃t,u=Value.float y t from M);cases q;exact za4 PySem.W.kitx_float I.kIn True.intro e (λz=>nomatch z) h
 | @lst a xs ea=>
  cases(show u=Value.ref a from M);obtain⟨_,_,n,_,d⟩:=(show bY X.prog X.w H s.heap a (.lst xs)from I.hok a _ ea);exact za4 PySem.W.kitx_list I.kIn ⟨_,d,rfl⟩ e (λz=>nomatch z) h
 | @frz a ob xs ea=>
  cases(show u=Value.ref a from M);obtain⟨_,_,_,n,_,d⟩:=(show bY X.prog X.w H s.heap a (.frz ob<|.lst xs)from I.hok a _ ea);exact za4 PySem.W.kitx_list I.kIn ⟨_,d,rfl⟩ e (λz=>nomatch z) h
 | @tup a xs ea=>
  cases(show u=Value.ref a from M);obtain⟨_,_,_,p⟩:=(show bY X.prog X.w H s.heap a (.tup xs)from I.hok a _ ea);obtain⟨o,d,f,_⟩:=p;exact za4 PySem.W.kitx_tuple I.kIn ⟨o,d,f⟩ e (λz=>nomatch z) h
 | @dK a Z0 ea=>
  cases(show u=Value.ref a from M);obtain⟨_,_,vs,_,p⟩:=(show bY X.prog X.w H s.heap a (.dK Z0)from I.hok a _ ea);obtain⟨o,es,g,d,f,_⟩:=p;exact za4 PySem.W.kitx_dict I.kIn ⟨o,d,f.1⟩ e (λz=>nomatch z) h
 | @dT a Z0 ea=>
  cases(show u=Value.ref a from M);obtain⟨_,_,xs,_,o,es,g,d,f,_⟩:=(show bY X.prog X.w H s.heap a (.dT Z0)from I.hok a _ ea);exact za4 PySem.W.kitx_dict I.kIn ⟨o,d,f.1⟩ e (λz=>nomatch z) h
 | @ins a C dx fs ea cl ha hn htk hm=>
  cases(show u=Value.ref a from M);obtain⟨mA,O,_⟩:=HV I.hok ea;obtain⟨od,J,_⟩:=O.look;exact za4 (PySem.W.kitx_own (cl.get _) cl.hd ha hn htk hm) I.kIn J e (λz=>nomatch z) h
end
structure dR(k:Nat)(A:Around):Prop where
 hd:A.handled=none
 dp:A.depth+3*k+5<recursionLimit
 un:A.units+16*k+200<cLine
theorem dR.mono(r:dR k A)(h:j<=k):dR j A:=⟨r.hd,by have:=r.dp;lia,by have:=r.un;lia⟩
theorem dR.deeper(r:dR (k+1) A)(env:Env):dR k (A.deeper env) :=
 ⟨r.hd,by have:=r.dp;show A.depth+1+3*k+5<_;lia,by have:=r.un;show A.units+3+16*k+200<_;lia⟩
theorem dR.in1(r:dR (k+1) A):dR k A.in1 :=
 ⟨r.hd,by have:=r.dp;show A.depth+3*k+5<_;lia,by have:=r.un;show A.units+1+16*k+200<_;lia⟩
theorem dR.depth(r:dR k A):A.depth<recursionLimit:=by have:=r.dp;lia
theorem dR.units(r:dR k A):A.units+64<cLine:=by have:=r.un;lia
def qW:TA:=λ_ H Q=>Q [] H
def kS(M:TE)(tr:TA):TA:=fun σ H Q=>M σ H λx D=>tr σ D λxs G=>Q (x::xs) G
section
variable{X:Cx}{e:Expr}{es:List Expr}{te:TE}{t:TA}{pos:Pos}
def mU:PA X [] qW:=λ_ _ _ _ H Q I h=>Calls.spliced_nil ⟨[],H,I,.nil,h⟩
theorem ax(ha:PE X e te)(M:PA X es t)(hs:starEach (e::es) X.env=(false,eval e X.env)::starEach es X.env:=by rfl):PA X (e::es) (kS te t):=by
 intro pos V0 s σ H Q I h;rw[hs];show wpAny _ _ (spliced ((false,eval e X.env)::backTo pos (starEach es X.env))) _ _ s;refine Calls.spliced_cons (thn (ha V0 s σ H _ I h) λu s1 ⟨x,a,c,l,f⟩=>?_)
 exact thn (M pos V0 s1 σ a _ c f) λus s2 ⟨xs,b,d,m,g⟩=>⟨x::xs,b,d,.cons l m,g⟩
def HW(t:TA):TE:=fun σ H Q=>t σ H λxs D=>xs.length<=sizeLine/\∀p,D p=none->Q (.ref p) (upd D p<|.tup xs)
def L6(t:TA):TE:=fun σ H Q=>t σ H λxs D=>xs.length<=sizeLine/\∀p,D p=none->Q (.ref p) (upd D p<|.lst xs)
theorem cu(h:PA X es t):PE X (.Tuple es M pos) (HW t):=by
 intro V0 s σ H Q I f;refine wpAny_Tuple_spliced (thn (h pos V0 s σ H _ I f) λus s1 ⟨xs,a,c,r,z,q⟩=>⟨by rw[<-r.length];exact z,?_⟩)
 have d:a s1.heap.objs.size=none:=c.hok.fresh (zap _);refine⟨.ref s1.heap.objs.size,upd a s1.heap.objs.size<|.tup xs,c.laid (t':=s1.toks) (λb u e=>zar _ e) (zap _) ?_,rfl,q _ d⟩
 exact⟨z,us,r,⟨_,zaL _ rfl,rfl,_,rfl⟩⟩
theorem iJ(h:PA X es t):PE X (.List es pos) (L6 t):=by
 intro V0 s σ H Q I f;refine wpAny_List_spliced (thn (h pos V0 s σ H _ I f) λus s1 ⟨xs,a,c,r,z,q⟩=>⟨by rw[<-r.length];exact z,?_⟩)
 have d:a s1.heap.objs.size=none:=c.hok.fresh (zap _);refine⟨.ref s1.heap.objs.size,upd a s1.heap.objs.size<|.lst xs,c.laid (t':=s1.toks) (λb u e=>zar _ e) (zap _) ?_,rfl,q _ d⟩
 exact⟨z,us,0,r,zaL _ rfl⟩
end
abbrev Sp:=List V->Hp->VK->XK->Prop
abbrev CXT:=List Env->Hp->Shared->XK->Value->Shared->Prop
structure HX(P:Program)(w:World)(K:zag)(mg:Str->Option Value)(base:Heap)(A:Around)(outer:List Env)(s:Shared)(H:Hp):Prop where
 frames:A.frames=some outer
 mod:Mod K mg base
 bs:∀b o,base.get? b=some o->s.heap.get? b=some o/\H b=none
 bsz:base.objs.size<=s.heap.objs.size
 oP:s.heap.FunFrames base outer
 frf:∀b∈frs outer,H b=none
 hok:HOk P w H s.heap
 bare:AllBare s.gens
 tab:∀c T ps,gW K=some (c,T,ps)->∃more,H T=some (.tbl<|ps++more)
def CE(outer:List Env)(P:Program)(w:World)(H:Hp)(s:Shared)(Q:VK)(u:Value)(s':Shared):Prop :=
 ∃v H',s'.os=s.os/\AllBare s'.gens/\Un (frs outer) [] H H' s.heap s'.heap/\HOk P w H' s'.heap/\RelV v u/\Q v H'
def CR(CX:CXT)(outer:List Env)(P:Program)(w:World)(H:Hp)(s:Shared)(Q:VK)(E:XK)(r:Result)(s':Shared):Prop :=
 match r with
 | .ok (.ret u)=>CE outer P w H s Q u s'
 | .ok _=>False
 | .error e=>CX outer H s E e s'
structure mD(P:Program)(w:World)(K:zag)(mg:Str->Option Value)(base:Heap)(CX:CXT)(k:Nat)(f:Addr)(fd:FuncData)(ps:List Str)(sp:Sp):Prop where
 len:∀vs H Q E,sp vs H Q E->vs.length=ps.length
 run:∀(A:Around) (outer:List Env) (s:Shared) (H:Hp) (args:Args) (us:List Value) (vs:List V) (Q:VK) (E:XK),dR k A->HX P w K mg base A outer s H->BindsTo s fd args (ps.zip us)->Vals vs us->sp vs H Q E->
  codeAny (model P w) A (.call (.ref f) args) (CR CX outer P w H s Q E) s
def mD.imp{K:zag}{mg:Str->Option Value}{base:Heap}{CX:CXT}{k:Nat}{f:Addr}{fd:FuncData}{ps:List Str}{sp I:Sp}(F:mD P w K mg base CX k f fd ps sp)
  (h:∀vs H Q E,I vs H Q E->sp vs H Q E):mD P w K mg base CX k f fd ps I :=
 ⟨λvs H Q E q=>F.len vs H Q E<|h _ _ _ _ q,λA outer s H args us vs Q E d b a e hs=>F.run A outer s H args us vs Q E d b a e<|h _ _ _ _ hs⟩
section
variable{X:Cx}{V0:List<|Addr×Obj}{σ:St}{H:Hp}{s s':Shared}
def Inv.env0(I:Inv X V0 σ H s):HX X.prog X.w X.K X.mg X.base X.A X.stack s H :=
 ⟨I.ok.frames,I.ok.mod,I.bs,zaX I.ok.bsz I.sz,I.stack,I.nA,I.hok,I.bare,I.tab⟩
theorem Inv.after(I:Inv X V0 σ H s)(h:CE X.stack X.prog X.w H s Q u s'):EP X V0 σ Q u s':=by
 obtain⟨v,H',os,bare,un,hok,r,q⟩:=h;obtain⟨c,g,d,t,a⟩:=s';obtain rfl:a=s.os:=os;exact⟨v,H',I.call (h':=c) (g':=g) (d':=d) (t':=t) (ch:=[]) un hok bare (λb z=>absurd z (by simp)),r,q⟩
end
def i6(sp:Sp)(dvs:List V)(E:XK)(t:TA):TE:=fun σ H Q=>t σ H λvs D=>sp (vs++dvs) D Q E
def Binds(K:zag)(fd:FuncData)(ps:List Str)(ds:List Value):Prop :=
 ∀(s:Shared) (us:List Value),K.In s.heap->(us++ds).length=ps.length->BindsTo s fd ⟨us,[]⟩ (ps.zip<|us++ds)
theorem Binds.all{K:zag}(h:∀us:List Value,us.length=ps.length->bindArgs fd ⟨us,[]⟩=pure (ps.zip us)):Binds K fd ps []:=λs us _ hl=>by
 rw[zaR]at hl⊢;exact .of_eq (h us hl)
def Passes(CX:CXT)(X:Cx)(E:XK):Prop:=∀(V0:List<|Addr×Obj) (σ:St) (H:Hp) (s:Shared) (e:Value) (s':Shared),Inv X V0 σ H s->CX X.stack H s E e s'->X.xe e s'
section
variable{X:Cx}{CX:CXT}{k:Nat}{f C:Addr}{fd:FuncData}{ps:List Str}{sp:Sp}{dvs:List V}{ds:List Value}{E:XK}{x m:Str}{p pos apos:Pos}{e o:Expr}{es:List Expr}{ta:TE}{t:TA}
theorem EH{σ:St}{s:Shared}{Q:VK}{us:List Value}{vs:List V}(F:mD X.prog X.w X.K X.mg X.base CX k f fd ps sp)(O:dR k X.A)(M:Binds X.K fd ps ds)(hd:Vals dvs ds)(U:Passes CX X E)
  (I:Inv X V0 σ H s) (r:Vals vs us) (h:sp (vs++dvs) H Q E):wpAny (model X.prog X.w) X.A (call (.ref f) us) (EP X V0 σ Q) X.xe s:=by
 have b:Vals (vs++dvs) (us++ds):=r.append hd;have hl:(us++ds).length=ps.length:=by rw[<-b.length];exact F.len _ _ _ _ h
 refine wpAny_call (codeAny_mono (F.run X.A X.stack s H ⟨us,[]⟩ (us++ds) (vs++dvs) Q E O I.env0 (M s us I.kIn hl) b h) λr s' a=>?_)
 cases r with
 |error e=>exact U V0 σ H s e s' I a
 |ok c=>
  cases c with
  |ret u=>exact I.after a
  |next=>exact False.elim a
  |brk=>exact False.elim a
  |cont=>exact False.elim a
theorem AZ(F:mD X.prog X.w X.K X.mg X.base CX k f fd ps sp)(hr:dR k X.A)(hg:Gl X x)(hm:X.mg x=some (.ref f))(hk:PySem.W.keepIn X.K (.ref f)=true)(U:Binds X.K fd ps ds)(hd:Vals dvs ds)(hx:Passes CX X E)
  (ha:PA X (e::es) t) (M:(x==("__debug__":Str))=false:=by decide) (Y:starEach (e::es) X.env=(false,eval e X.env)::starEach es X.env:=by rfl) (O:(backTo pos<|starEach es X.env).any (·.1)=false:=by rfl) :
  PE X (.Call (.Name x p) (e::es) [] pos) (i6 sp dvs E t):=by
 intro V0 s σ H Q I h;refine wpAny_Call_Name_kw (nC I hg hm ?_ M);refine PySem.W.callWith_K (h₀:=X.base) I.ok.mod.kin hk (thn (ha pos V0 s σ H _ I h) λus s1 ⟨vs,b,a,r,q⟩=>⟨a.kIn,?_⟩) Y O
 exact EH F hr U hd hx a r q
theorem EI(F:mD X.prog X.w X.K X.mg X.base CX k f fd ps sp)(Y:dR k X.A)(U:Gl X x)(hm:X.mg x=some (.ref f))(hk:PySem.W.keepIn X.K (.ref f)=true)(O:Binds X.K fd ps ds)(hd:Vals dvs ds)(hx:Passes CX X E)
  (M:(x==("__debug__":Str))=false:=by decide):PE X (.Call (.Name x p) [] [] pos) (i6 sp dvs E qW):=by
 intro V0 s σ H Q I h;refine wpAny_Call_Name_kw (nC I U hm ?_ M);exact PySem.W.callWith_K0 I.kIn hk (EH (us:=[]) F Y O hd hx I .nil h)
structure Mk(K:zag)(C f:Addr):Prop where
 makes:PySem.W.makesIn K C=true
 init:PySem.W.findIn K (.ref C) "__init__"=some (some<|.ref f)
 fn:PySem.W.isFn K (.ref f)=true
 kp:PySem.W.keepIn K (.ref C)=true
end
section
variable{X:Cx}{CX:CXT}{k:Nat}{f C:Addr}{fd:FuncData}{ps ks:List Str}{sp:Sp}{E:XK}{x m:Str}{p pos apos kpos:Pos}{e o:Expr}{es:List Expr}{kws:List Keyword}{te ta:TE}{t tk:TA}{nm:Option Str}
structure L7(K:zag)(fd:FuncData)(ps ks:List Str)(g:List Value->List Value->List Value)(gV:List V->List V->List V):Prop where
 to:∀(s:Shared) (us ws:List Value),K.In s.heap->(g us ws).length=ps.length->BindsTo s fd ⟨us,ks.zip ws⟩ (ps.zip<|g us ws)
 rel:∀{vs:List V} {us:List Value} {zs:List V} {ws:List Value},Vals vs us->Vals zs ws->Vals (gV vs zs) (g us ws)
variable{g:List Value->List Value->List Value}{gV:List V->List V->List V}
end
structure bq(N P:List Str)(sc:Scope):Prop where
 kind:sc.kind=.function
 co:sc.isCoroutine=false
 gen:sc.isGenerator=false
 nd:N.Nodup
 pre:N.take P.length=P
 par:∀x∈P,sc.names.lookup x=some .local\/sc.names.lookup x=some .cell
 L8:∀y∈sc.names,y.2≠.free
theorem uc{kindOf:Str->Option NameKind}:∀{binds:List<|Str×Value} {m:Str->Option Value},(∀v,(x,v)∉binds)->bindL kindOf binds m x=m x
 | [],_,_=>rfl
 |(n,v)::r,m,h=>by
  unfold bindL;rw[uc λw a=>h w<|zak _ a]
  split
  ·have:x≠n:=by rintro rfl;exact h v zas
   simp[this]
  ·rfl
theorem ud{kindOf:Str->Option NameKind}:∀{binds:List<|Str×Value} {m:Str->Option Value},(∀v,(x,v)∉binds)->bindC kindOf binds m x=m x
 | [],_,_=>rfl
 |(n,v)::r,m,h=>by
  unfold bindC;rw[ud λw a=>h w<|zak _ a]
  split
  ·rfl
  ·have:x≠n:=by rintro rfl;exact h v zas
   simp[this]
theorem ue{kindOf:Str->Option NameKind}{x:Str}{v:Value}:∀{P:List Str} {vs:List Value} {i:Nat} {m:Str->Option Value},P.Nodup->P[i]?=some x->vs[i]?=some v->kindOf x=some .local->
  bindL kindOf (P.zip vs) m x=some v
 | [],_,_,_,_,h,_,_=>by simp at h
 |_::_,[],_,_,_,_,h,_=>by simp at h
 |p::P,w::vs,0,m,nd,a,b,hk=>by
  simp at a b;subst a;subst b
  show bindL kindOf ((p,w)::P.zip vs) m p=_;unfold bindL;rw[uc λv c=>(List.nodup_cons.mp nd).1 (List.of_mem_zip c).1,if_pos hk]
  simp
 |p::P,w::vs,i+1,m,nd,a,b,hk=>by
  show bindL kindOf ((p,w)::P.zip vs) m x=_;unfold bindL;exact ue (i:=i) (List.nodup_cons.mp nd).2 (by simpa using a) (by simpa using b) hk
theorem uf{kindOf:Str->Option NameKind}{x:Str}{v:Value}:∀{P:List Str} {vs:List Value} {i:Nat} {m:Str->Option Value},P.Nodup->P[i]?=some x->vs[i]?=some v->kindOf x≠some .local->
  bindC kindOf (P.zip vs) m x=some v
 | [],_,_,_,_,h,_,_=>by simp at h
 |_::_,[],_,_,_,_,h,_=>by simp at h
 |p::P,w::vs,0,m,nd,a,b,hk=>by
  simp at a b;subst a;subst b
  show bindC kindOf ((p,w)::P.zip vs) m p=_;unfold bindC;rw[ud λv c=>(List.nodup_cons.mp nd).1 (List.of_mem_zip c).1,if_neg hk]
  simp
 |p::P,w::vs,i+1,m,nd,a,b,hk=>by
  show bindC kindOf ((p,w)::P.zip vs) m x=_;unfold bindC;exact uf (i:=i) (List.nodup_cons.mp nd).2 (by simpa using a) (by simpa using b) hk
def start(N:List Str)(vs:List V):St:=vs.map some++List.replicate (N.length-vs.length) none
def mV(CX:CXT)(P:Program)(w:World)(K:zag)(mg:Str->Option Value)(base:Heap)(N:List Str)(W1:Str)(x0:Scope)(f:Addr)(cd:Value)(A:Around)(outer:List Env)(s:Shared)(H:Hp)(E:XK):Cx where
 prog:=P
 w:=w
 K:=K
 mg:=mg
 base:=base
 A:=A.deeper (envOfC W1 x0 s.heap.objs.size f cd)
 N:=N
 s₀:=s
 H₀:=H
 env:=envOfC W1 x0 s.heap.objs.size f cd
 outer:=outer
 stack:=envOfC W1 x0 s.heap.objs.size f cd::outer
 ex:=[]
 calm:=true
 fn:=λ_=>true
 pn:=[]
 xe:=λe s'=>wpAny (model P w) (A.deeper<|envOfC W1 x0 s.heap.objs.size f cd) (leaving (envOfC W1 x0 s.heap.objs.size f cd) e) (λ_ s''=>CX outer H s E e s'') (λe' s''=>CX outer H s E e' s'') s'
theorem xg{sc:Scope}(h:sc.names.lookup x=some .cell):∃c,(cellsFrom n sc.names []).lookup x=some c:=by
 have q:=PySem.W.cellsFrom_some sc.names n [] (.inl h);exact Option.isSome_iff_exists.mp q
theorem CZ{K:zag}{mg:Str->Option Value}{base:Heap}{N ps:List Str}{W1:Str}{x0:Scope}{f:Addr}{M:Value}{A:Around}{outer:List Env}{s s1:Shared}{H:Hp}{E:XK}{us:List Value}{vs:List V}
  (S:bq N ps x0) (hd:A.handled=none) (I:HX P w K mg base A outer s H) (hl:vs.length=ps.length) (r:Vals vs us)
  (x:InCallC s s.heap.objs.size (bindL (envOfC W1 x0 s.heap.objs.size f M).kindOf (ps.zip us) λ_=>none) (cellsFrom (s.heap.objs.size+1) x0.names []) (bindC (envOfC W1 x0 s.heap.objs.size f M).kindOf (ps.zip us) λ_=>none) s1) :
  Inv (mV CX P w K mg base N W1 x0 f M A outer s H E) [] (start N vs) H s1:=by
 have B:ps.length<=N.length:=by have:=congrArg List.length S.pre;rw[List.length_take]at this;lia
 obtain⟨o,tk,rfl,hk⟩:=x.done;have j:∀b:Addr,b∉(mV CX P w K mg base N W1 x0 f M A outer s H E).ex:=λb z=>absurd (show b∈([]:List Addr)from z) (by simp)
 refine⟨⟨I.mod,S.kind,rfl,rfl,zap _,λy z c o d=>?_,λy g=>?_,λy c _ h=>?_,λ_=>hd,Around.frames_deeper I.frames,.inr ⟨rfl,rfl⟩,λb z=>absurd z<|j b,I.bs,I.bsz,λb _ _=>j b,λb z=>absurd z<|j b,I.oP,I.frf,I.tab⟩,
  rfl,I.bare,Un.kept hk,⟨_,x.toInCall.ns,λi y v o d h3=>?_⟩,λy c h=>⟨_,x.cell y c h⟩,I.hok.fresh<|zap _,λy c h=>?_,λp l=>absurd (show p∈([]:List<|Addr×Obj)from l) (by simp),I.hok.kept hk,?_⟩
 ·exact name_of_addr x.apart (za5 o) (za5 d)
 ·have g:x0.names.lookup y=some .cell\/x0.names.lookup y=some .free:=g
  rcases g with g|g
  ·exact xg g
  ·exact absurd rfl (S.L8 _<|za5 g)
 ·exact Nat.le_of_lt (x.above y c<|za5 h)
 ·have hi:i<vs.length:=by
   unfold start at d
   by_cases hi:i<vs.length
   ·exact hi
   ·rw[zaN (by simpa using hi)]at d
    rw[List.getElem?_replicate]at d;split at d<;>cases d
  have ha:vs[i]?=some v:=by
   unfold start at d;rw[zax (by simpa using hi),zao]at d
   cases e:vs[i]? with
   |none=>rw[e]at d;cases d
   |some a=>rw[e]at d;cases d;rfl
  obtain⟨u,t,C⟩:=r.get ha;have l:ps[i]?=some y:=by
   rw[<-S.pre,List.getElem?_take_of_lt (by lia)];exact o
  have m:ps.Nodup:=by rw[<-S.pre];exact S.nd.sublist (List.take_sublist _ _)
  refine⟨u,C,?_⟩;rcases S.par y (zaj l)with k|k
  ·exact .inl ⟨k,ue m l t k⟩
  ·obtain⟨c,e⟩:=xg (n:=s.heap.objs.size+1) k
   refine .inr ⟨.inl k,c,e,?_⟩;have q:=x.cell y c e;rw[uf m l t (by show x0.names.lookup y≠_;rw[k];decide)]at q
   exact q
 ·exact I.hok.fresh (Nat.le_of_lt<|x.above y c<|za5 h)
 ·unfold start
  show _=N.length;rw[zau,zal,List.length_replicate]
  lia
theorem dY{K:zag}{mg:Str->Option Value}{base:Heap}{k:Nat}{f:Addr}{name W1:Str}{M:Arguments}{O:List Stmt}{x0:Scope}{dV kV doc pm cdv ct oc:Value}{an od:Option Addr}
  {osl:Array<|Option Value} {N ps:List Str} {sp:Sp} (lk:K.lookup f=some ⟨oc,od,.func<|PySem.W.fnOf name W1 M O x0 dV kV doc pm an cdv ct,osl⟩) (Y:PySem.W.codeIn K cdv W1=true) (S:bq N ps x0)
  (len:∀vs H Q E,sp vs H Q E->vs.length=ps.length)
  (U:∀(A:Around) (outer:List Env) (s:Shared) (H:Hp) (vs:List V) (Q:VK) (E:XK),dR k (A.deeper<|envOfC W1 x0 s.heap.objs.size f cdv)->sp vs H Q E->
   ∃t,PSs (mV CX P w K mg base N W1 x0 f cdv A outer s H E) O t/\t {nx:=λ_ H'=>Q .non H',rt:=Q} (start N vs) H) :
  mD P w K mg base CX (k+1) f (PySem.W.fnOf name W1 M O x0 dV kV doc pm an cdv ct) ps sp:=by
 refine⟨len,λA outer s H args us vs Q E B h L r m=>?_⟩
 have hl:=len _ _ _ _ m;have F:K.In s.heap:=h.mod.kin.keeps λb o e=>(h.bs b o e).1
 have C:s.heap.NoLimit:=h.mod.nolimit.keeps λb o e=>(h.bs b o e).1
 have d:∀y∈ps.zip us,x0.names.lookup y.1=some .local\/(x0.names.lookup y.1=some .cell/\((cellsFrom (s.heap.objs.size+1) x0.names []).lookup y.1).isSome=true):=λ⟨n,v⟩ Z=>by
  rcases S.par n (List.of_mem_zip Z).1 with q|q
  ·exact .inl q
  ·exact .inr ⟨q,PySem.W.cellsFrom_some _ _ _<|.inl q⟩
 refine codeAny_call_function B.depth (F _ _ lk) rfl S.co S.gen rfl (PySem.W.codeRec_of F Y) (L _ _ _ _ ?_)
 refine wpAny_newFunctionEnv_cells S.kind d λenv R s1 x=>?_
 subst R;refine⟨C.keeps x.toInCall.keep,codeAny_func ?_⟩
 obtain⟨t,X,T⟩:=U A outer s H vs Q E (B.deeper _) m;have I:Inv (mV CX P w K mg base N W1 x0 f cdv A outer s H E) [] (start N vs) H s1:=CZ S B.hd h hl r x;refine za6 (X [] s1 (start N vs) H _ I T) (λG s' hs=>?_) λe s' hs=>hs
 have l:∀{c:St} {H':Hp} {v:V} {u:Value},Inv (mV CX P w K mg base N W1 x0 f cdv A outer s H E) [] c H' s'->RelV v u->Q v H'->CE outer P w H s Q u s' :=
  fun{c H' v u} J D q=>⟨v,H',J.os,J.bare,J.base,J.hok,D,q⟩
 cases G with
 |ret u=>
  obtain⟨v,c,H',J,D,q⟩:=hs;exact l J D q
 |next=>
  obtain⟨c,H',J,q⟩:=hs;exact l (v:=V.non) (u:=Value.none) J rfl q
 |brk=>
  obtain⟨_,_,_,q⟩:=hs;exact False.elim q
 |cont=>
  obtain⟨_,_,_,q⟩:=hs;exact False.elim q
section
variable{X:Cx}{x:Str}{p pos:Pos}{e:Expr}{es:List Expr}{t:TA}{id T:String}{r:List V->Hp->VK->Prop}
def tCB(r:List V->Hp->VK->Prop)(t:TA):TE:=fun σ H Q=>t σ H λvs D=>r vs D Q
theorem bw(U:dJ X (.builtin id) r)(hg:Gl X x)(hm:X.mg x=none)(hv:bootBuiltins x=some (.builtin id))(ha:PA X (e::es) t)(hn:x≠"__name__":=by decide)(M:(x==("__debug__":Str))=false:=by decide)
  (Y:starEach (e::es) X.env=(false,eval e X.env)::starEach es X.env:=by rfl) (O:(backTo pos<|starEach es X.env).any (·.1)=false:=by rfl):PE X (.Call (.Name x p) (e::es) [] pos) (tCB r t):=by
 intro V0 s σ H Q I h;refine wpAny_Call_Name_kw (qV I hg hm hv ?_ hn M);exact PyProof.Rows.callWith_builtin1 (thn (ha pos V0 s σ H _ I h) λus s1 ⟨vs,a,b,f,d⟩=>U V0 s1 σ a vs us Q b f d) Y O
theorem eM(U:dJ X (.type T) r)(hg:Gl X x)(hm:X.mg x=none)(hv:bootBuiltins x=some (.type T))(ha:PA X (e::es) t)(hn:x≠"__name__":=by decide)(M:(x==("__debug__":Str))=false:=by decide)
  (Y:starEach (e::es) X.env=(false,eval e X.env)::starEach es X.env:=by rfl) (O:(backTo pos<|starEach es X.env).any (·.1)=false:=by rfl):PE X (.Call (.Name x p) (e::es) [] pos) (tCB r t):=by
 intro V0 s σ H Q I h;refine wpAny_Call_Name_kw (qV I hg hm hv ?_ hn M);exact PyProof.Rows.callWith_type1 (thn (ha pos V0 s σ H _ I h) λus s1 ⟨vs,a,b,d,c⟩=>U V0 s1 σ a vs us Q b d c) Y O
end
end L2
namespace HT
open PyProof.Rows
def EJ(A:Around)(s:Shared)(a:Int)(t:Tok)(c:Int)(u:Tok)(prog:Program)(w:World)(E:Value->Shared->Prop)(Q:Value->Shared->Prop)(h:Q (.bool<|decide<|a<c) s) :
  wpAny (model prog w) A (richCompare .Lt (.int a t)<|.int c u) Q E s :=
 (PyProof.Rows.lt_int h:wpAny (model prog w) A (compareOp .Lt (.int a t)<|.int c u) Q E s)
section
open PySem.SeqAt
open PySem.AutoSeq1 (wpAny_loadPart')
open PySem.MeetsSeq PySem.MeetsSeq2 PySem.MeetsSeq3
end
section
variable{prog:Program}{w:World}{A:Around}{E:Value->Shared->Prop}{s:Shared}
theorem HY(ht:IsTup s.heap t vs.toArray)(Y:IsTup s.heap b ws.toArray)(M:vs≠[])
  (O:ws=[]->Q (.ref t) s) (U:ws≠[]->Q (.ref s.heap.objs.size) {s with heap:=s.heap.push {cls:=.type "tuple",data:=.seq (vs++ws).toArray}})
  (I:vs.length+ws.length<=sizeLine):wpAny (model prog w) A (binaryOp .Add (.ref t)<|.ref b) Q E s:=by
 obtain⟨⟨cls,dd,data,sl⟩,ho,j,n,hd⟩:=id ht;obtain⟨⟨i,c,data2,g⟩,a,d,n2,f⟩:=id Y;simp only at j hd d f;subst j hd d f;have e:vs.toArray++ws.toArray=(vs++ws).toArray:=by simp
 by_cases h:ws=[]
 ·exact concat_meets ⟨_,ho,rfl⟩ ⟨_,a,rfl⟩ noFill_tuple_add seq_tuple_add PySem.F.slot_tuple_add PySem.F.entry_tuple_add (PySem.F.args_tuple_add_2 _ _)
   (tuple_addW1 t b vs.toArray ws.toArray n n2 dd c sl g (by simpa using M) (by simp[h])) ⟨ho,a,O h⟩
 ·refine concat_meets ⟨_,ho,rfl⟩ ⟨_,a,rfl⟩ noFill_tuple_add seq_tuple_add PySem.F.slot_tuple_add PySem.F.entry_tuple_add (PySem.F.args_tuple_add_2 _ _)
   (tuple_addW2 t b vs.toArray ws.toArray n n2 dd c sl g (by simpa using M) (by simpa using h) (by rw[zaK,zaK];exact I)) ⟨ho,a,?_⟩
  rw[e];exact U h
def sIx(n d:Nat):Option Int->Nat
 |none=>d
 |some v=>if v<0 then(v+(n:Int)).toNat else min v.toNat n
end
end HT
namespace L2
open PySem.Spec PyProof.Rows
abbrev TO:=St->Hp->(Option Int->Hp->Prop)->Prop
def PO(X:Cx)(e:Option Expr)(t:TO):Prop :=
 ∀(V0:List<|Addr×Obj) (s:Shared) (σ:St) (H:Hp) (Q:Option Int->Hp->Prop),Inv X V0 σ H s->t σ H Q->
  wpAny (model X.prog X.w) X.A (evalPart e X.env) (λu s'=>∃o H',Inv X V0 σ H' s'/\IsPart u o/\Q o H') X.xe s
def A0:TO:=λ_ H Q=>Q none H
def Kx(t:TE):TO:=fun σ H Q=>t σ H λx D=>∃i,x=.int i/\Q (some i) D
theorem intsAre_of:∀{us:List Value},Vals (ns.map V.int) us->IntsAre us ns:=by
 induction ns with
 |nil=>intro us r;rw[List.map_nil]at r;cases r;exact .nil
 |cons n ns a=>
  intro us r;rw[zaz]at r;cases r with
  |cons b c=>
   obtain⟨t,e⟩:=b;subst e;exact .cons n t (a c)
section
variable{X:Cx}{e:Expr}{te:TE}{lo hi:Option Expr}{tl th:TO}{pos p2:Pos}
theorem HZ:PO X none A0:=by
 intro V0 s σ H Q I h;rw[evalPart_none];exact zaZ ⟨none,H,I,.none,h⟩
theorem Ia(h:PE X e te):PO X (some e) (Kx te):=by
 intro V0 s σ H Q I c;rw[evalPart_some];refine thn (h V0 s σ H _ I c) λu s1 ⟨x,a,b,f,d⟩=>?_
 obtain⟨i,rfl,q⟩:=d;obtain⟨t,rfl⟩:=f;exact⟨some i,a,b,.int i t,q⟩
def SlR(X:Cx)(r:V->Option Int->Option Int->Hp->VK->Prop):Prop :=
 ∀(V0:List<|Addr×Obj) (s:Shared) (σ:St) (H:Hp) (x:V) (v D G:Value) (lo hi:Option Int) (sl:Addr) (Q:VK),Inv X V0 σ H s->RelV x v->s.heap.IsSliceOf sl D G .none->IsPart D lo->IsPart G hi->r x lo hi H Q->
  ∃T id,typeLookup (.type T) "__getitem__"=pure (some<|.builtin id)/\s.TypeIs v T/\wpAny (model X.prog X.w) X.A (getItem v<|.ref sl) (EP X V0 σ Q) X.xe s
def tSl(r:V->Option Int->Option Int->Hp->VK->Prop)(te:TE)(tl th:TO):TE:=fun σ H Q=>te σ H λx D=>tl σ D λl G=>th σ G λu J=>r x l u J Q
theorem EK(O:SlR X r)(M:PE X e te)(hl:PO X lo tl)(U:PO X hi th):PE X (.Subscript e (.Slice lo hi none p2) pos) (tSl r te tl th):=by
 intro V0 s σ H Q I h;refine Subscript_ (thn (M V0 s σ H _ I h) λv s1 ⟨x,g,j,G,D⟩=>?_)
 refine wpAny_Slice (thn (hl V0 s1 σ g _ j D) λc s2 ⟨l,i,m,pl,E⟩=>thn (U V0 s2 σ i _ m E) λd a ⟨u,f,o,C,F⟩=>?_)
 rw[evalPart_none];refine zaZ ?_;have p:Inv X V0 σ f {a with heap:=a.heap.push {cls:=.type "slice",data:=.fields #[c,d,.none]}}:=o.kept (t':=a.toks) λb ob q=>zar _ q
 obtain⟨T,id,t,B,y⟩:=O V0 {a with heap:=a.heap.push {cls:=.type "slice",data:=.fields #[c,d,.none]}} σ f x v c d l u a.heap.objs.size Q p G (Heap.IsSliceOf.new ..) pl C F
 show wpAny (model X.prog X.w) X.A (subscriptTail e (.Slice lo hi none p2) v<|.ref a.heap.objs.size) (EP X V0 σ Q) X.xe {a with heap:=a.heap.push {cls:=.type "slice",data:=.fields #[c,d,.none]}}
 exact tail_any (ops:=[.ref a.heap.objs.size,v]) B t y (by with_unfolding_all rfl)
def C0(xs:List V)(lo hi:Option Int):List V:=(xs.drop<|HT.sIx xs.length 0 lo).take (HT.sIx xs.length xs.length hi-HT.sIx xs.length 0 lo)
theorem xh(xs:List V)(lo hi:Option Int):(C0 xs lo hi).length<=xs.length:=by
 unfold C0;rw[List.length_take,List.length_drop]
 lia
def Ky(K:zag):R2:=λx y H Q=>∃a b xs D,x=.ref a/\y=.ref b/\SqT K H a xs/\SqT K H b D/\xs≠[]/\xs.length+D.length<=sizeLine/\
 (D=[]->Q (.ref a) H)/\(D≠[]->∀p,H p=none->Q (.ref p) (upd H p<|.tup<|xs++D))
theorem Vals.vc(r:Vals xs us):us=[]↔xs=[]:=by
 cases r with
 |nil=>simp
 |cons _ _=>simp
theorem Ib:OpR X (binaryOp .Add) (Ky X.K):=by
 intro V0 s σ H x y v u Q I n p h;obtain⟨a,b,xs,r,rfl,rfl,ha,i,j,f,l,m⟩:=h;cases n;cases p;obtain⟨t,d,k,_⟩:=I.tuple ha;obtain⟨g,c,p2,_⟩:=I.tuple i;refine HT.HY k p2 (λz=>j<|d.vc.mp z) (λz=>⟨.ref a,H,I,rfl,l<|c.vc.mp z⟩) (λz=>?_) (by rw[<-d.length,<-c.length];exact f)
 refine⟨.ref s.heap.objs.size,_,I.laid (t':=s.toks) (o:=.tup<|xs++r) (λb ob q=>zar _ q) (zap _) ?_,rfl,m (λw=>z<|c.vc.mpr w) _<|I.hok.fresh<|zap _⟩
 exact⟨by rw[zau];exact f,_,d.append c,IsTup.new _ _⟩
end
def ixN(n:Nat)(i:Int):Option Nat:=if 0<=i then(if i<n then some i.toNat else none)else if-(n:Int)<=i then some (i+n).toNat else none
def atI{α:Type}(xs:List α)(i:Int):Option α:=(ixN xs.length i).bind λj=>xs[j]?
theorem A5(h:ixN n i=some j):seqIndex? i n=some j/\j<n/\-(n:Int)<=i/\i<n:=by
 unfold ixN at h
 by_cases b : 0<=i
 ·rw[if_pos b]at h
  by_cases a:i<n
  ·rw[if_pos a]at h
   have e:i.toNat=j:=zaQ h;exact⟨by rw[seqIndex_of b a,e],by lia,by lia,a⟩
  ·rw[if_neg a]at h;cases h
 ·rw[if_neg b]at h
  by_cases a : -(n:Int)<=i
  ·rw[if_pos a]at h
   have e:(i+n).toNat=j:=zaQ h;exact⟨by rw[seqIndex_neg (by lia) a,e],by lia,a,by lia⟩
  ·rw[if_neg a]at h;cases h
theorem vd(h:atI xs i=some v):∃j,seqIndex? i xs.length=some j/\xs[j]?=some v/\j<xs.length/\-(xs.length:Int)<=i/\i<xs.length:=by
 unfold atI at h;cases e:ixN xs.length i with
 |none=>rw[e]at h;cases h
 |some j=>
  rw[e]at h;obtain⟨a,b,h3,h4⟩:=A5 e;exact⟨j,a,h,b,h3,h4⟩
theorem A6{j:Nat}{v : α}(h:xs[j]?=some v):atI xs (j:Int)=some v:=by
 have a:j<xs.length:=(zac h).1;have e:ixN xs.length (j:Int)=some j:=by
  unfold ixN;rw[if_pos (by lia),if_pos (by lia)];simp
 unfold atI;rw[e];exact h
theorem xi(xs:List α)(v : α):atI (xs++[v]) (-1)=some v:=by
 have hl:(xs++[v]).length=xs.length+1:=by simp
 have e:ixN (xs++[v]).length (-1)=some xs.length:=by
  unfold ixN;rw[hl,if_neg (by decide),if_pos (by lia)]
  congr 1
  lia
 unfold atI;rw[e];show(xs++[v])[xs.length]?=some v;simp
def Ic(b:Expr):Prop:=∀o i,subscripted b false o i=operate [o,i] (getItem o i)
def IxR(X:Cx)(r:R2):Prop :=
 ∀(G D:Expr) (V0:List<|Addr×Obj) (s:Shared) (σ:St) (H:Hp) (x y:V) (v u:Value) (Q:VK),Inv X V0 σ H s->RelV x v->RelV y u->r x y H Q->
  subscripted D false v u=operate [v,u] (getItem v u)->wpAny (model X.prog X.w) X.A (subscriptTail G D v u) (EP X V0 σ Q) X.xe s
def MtR(X:Cx)(id:String)(r:V->List V->Hp->VK->Prop):Prop :=
 ∀(V0:List<|Addr×Obj) (s:Shared) (σ:St) (H:Hp) (x:V) (xs:List V) (v:Value) (us:List Value) (Q:VK),Inv X V0 σ H s->RelV x v->Vals xs us->r x xs H Q->
  wpAny (model X.prog X.w) X.A (call (.builtin id) (v::us)) (EP X V0 σ Q) X.xe s
section
variable{X:Cx}{a b:Expr}{ta tb:TE}{pos:Pos}
theorem IxR.or(h:IxR X r)(h':IxR X M):IxR X (λx y H Q=>r x y H Q\/M x y H Q):=by
 intro e d V0 s σ H x y v u Q I f g q hs;rcases q with q|q
 ·exact h e d V0 s σ H x y v u Q I f g q hs
 ·exact h' e d V0 s σ H x y v u Q I f g q hs
theorem mJ(O:IxR X r)(ha:PE X a ta)(M:PE X b tb)(hs:Ic b):PE X (.Subscript a b pos) (tOp r ta tb):=by
 intro V0 s σ H Q I h;exact Subscript_ (LW ha M I h λv u s2 x y c d e f q=>O a b V0 s2 σ c x y v u Q d e f q<|hs _ _)
def Om(K:zag):R2:=λx y H Q=>∃p xs i v,x=.ref p/\y=.int i/\SqL K H p xs/\atI xs i=some v/\Q v H
def Oo(K:zag):R2:=λx y H Q=>∃p xs i v,x=.ref p/\y=.int i/\SqT K H p xs/\atI xs i=some v/\Q v H
def Oq:R2:=λx y H Q=>∃z i c,x=.str z/\y=.int i/\z.length<=sizeLine/\atI z.cps.toList i=some c/\Q (.str ⟨#[c]⟩) H
theorem Ie:IxR X (Om X.K):=by
 intro k g V0 s σ H x y v u Q I D E h hs;obtain⟨p,xs,i,z,rfl,rfl,C,B,q⟩:=h;cases D;obtain⟨t,rfl⟩:=E;obtain⟨n,r,pl,F⟩:=I.list C;obtain⟨j,d,o,h3,h4,A⟩:=vd B;obtain⟨w,l,f⟩:=r.get o;have hl:=r.length;have hn:=oV;have c:EP X V0 σ Q w s:=⟨z,H,I,f,q⟩
 by_cases m : 0<=i
 ·have e:i.toNat=j:=by
   rw[seqIndex_of m A]at d;exact zaQ d
  exact item_listR pl.isList m (by lia) (by rw[e];simpa using l) c hs
 ·have e:(i+(n.toArray.size:Int)).toNat=j:=by
   rw[seqIndex_neg (by lia) h4]at d
   rw[zaK,<-hl];exact zaQ d
  exact subscriptTail_builtinR (x:=w) pl.isList.typeIs slot_list_getitem.lookup
   (wpAny_getItem_list_neg (Q:=λr s'=>r=w/\EP X V0 σ Q r s') pl.isList (by lia) (by rw[zaK]<;>lia) (by lia) (by rw[e];simpa using l) ⟨rfl,c⟩) hs
theorem L9:IxR X (Oo X.K):=by
 intro f e V0 s σ H x y v u Q I o A h hs;obtain⟨p,xs,i,z,rfl,rfl,n,m,q⟩:=h;cases o;obtain⟨t,rfl⟩:=A;obtain⟨B,r,pl,D⟩:=I.tuple n;obtain⟨j,k,l,h3,h4,C⟩:=vd m;obtain⟨w,g,d⟩:=r.get l;have hl:=r.length;have hn:=oV;have c:EP X V0 σ Q w s:=⟨z,H,I,d,q⟩;exact subscriptTail_builtinR (x:=w) pl.typeIs slot_tuple_getitem.lookup
  (getItem_tuple (j:=j) (Q:=λr s'=>r=w/\EP X V0 σ Q r s') pl (by lia) (by lia) (by rw[zaK,<-hl];exact k) (by simpa using g) ⟨rfl,c⟩) hs
theorem Ma:IxR X Oq:=by
 intro e d V0 s σ H x y v u Q I o p h hs;obtain⟨z,i,c,rfl,rfl,r,n,q⟩:=h;obtain⟨t,rfl⟩:=o;obtain⟨w,rfl⟩:=p;obtain⟨j,f,l,h3,h4,m⟩:=vd n;have hl:z.cps.toList.length=z.length:=by simp[Str.length]
 rw[hl]at f h4 m;have hn:=oV;exact tail_any (typeIs_str s z t) slot_str_getitem.lookup (getItem_str (c:=c) (by
  have g:decide (i< -(2^63:Int))=false:=zaO (by lia)
  have k:decide (i>=2^63)=false:=zaO (by lia)
  rw[g,k,Bool.or_false]) (by rw[f];simpa using l) ⟨.str ⟨#[c]⟩,H,I.tok _,⟨_,rfl⟩,q⟩) hs
def rIx(K:zag):R2:=λx y H Q=>Om K x y H Q\/Oo K x y H Q\/Oq x y H Q
def Mb:IxR X (rIx X.K):=Ie.or (L9.or Ma)
theorem zG(I:List Value)(n j:Nat)(u:Value):Obj.mapSeq (·.setIfInBounds j u) {cls:=.type "list",data:=.seq I.toArray n}={cls:=.type "list",data:=.seq (I.set j u).toArray n}:=by
 simp[Obj.mapSeq]
theorem Inv.lst{σ:St}{s:Shared}{p:Addr}{xs:List V}(I:Inv X V0 σ H s)(h:H p=some (.lst xs)) :
  ∃(M:List Value) (n:Nat),Vals xs M/\s.heap.get? p=some {cls:=.type "list",data:=.seq M.toArray n}/\xs.length<=sizeLine:=by
 obtain⟨z,M,n,r,e⟩:=I.hok p _ h;exact⟨M,n,r,e,z⟩
theorem Inv.Mc{σ:St}{s:Shared}{p:Addr}{xs U:List V}{Y M:List Value}{n O:Nat}{f:Obj->Obj}(I:Inv X V0 σ H s)(h:H p=some (.lst xs))
  (ho:s.heap.get? p=some {cls:=.type "list",data:=.seq Y.toArray n}) (hf:f {cls:=.type "list",data:=.seq Y.toArray n}={cls:=.type "list",data:=.seq M.toArray O}) (r:Vals U M) (hz:U.length<=sizeLine) (t:Nat) :
  Inv X V0 σ (upd H p<|.lst U) {s with heap:=s.heap.update p f,toks:=t}:=by
 have e:(s.heap.update p f).get? p=some {cls:=.type "list",data:=.seq M.toArray O}:=by
  rw[Heap.get?_update_self f ho (by rw[hf]<;>rfl),hf]
 refine I.write (x:=p) (e:=p) (by rw[h];trivial) (.inl rfl) (λb u c q=>(Heap.get?_update_other _ _<|Ne.symm c).trans q) ⟨_,e⟩ ?_
 exact⟨hz,M,O,r,e⟩
def A7:V->V->V->Hp->(Hp->Prop)->Prop:=λo i v H Q=>∃p xs k j,o=.ref p/\i=.int k/\H p=some (.lst xs)/\ixN xs.length k=some j/\Q (upd H p<|.lst<|xs.set j v)
theorem set_list:Od X A7:=by
 intro V0 s σ H o i v B A u Q I ro w x h;obtain⟨p,xs,k,j,rfl,rfl,g,l,q⟩:=h;cases ro;obtain⟨t,rfl⟩:=w;obtain⟨e,n,r,ho,m⟩:=I.lst g;obtain⟨c,y,h3,h4⟩:=A5 l;have hl:=r.length;have hn:=oV;have d:Inv X V0 σ (upd H p<|.lst<|xs.set j v) {s with heap:=s.heap.update p (Obj.mapSeq (·.setIfInBounds j u))} :=
  I.Mc g ho (zG e n j u) (r.set x j) (by rw[zaM];exact m) s.toks
 by_cases f : 0<=k
 ·have hk:k.toNat=j:=by
   rw[seqIndex_of f h4]at c;exact zaQ c
  exact PySem.W.ki_setAt ho f (by lia) (by rw[zaK,<-hl];exact h4) (by rw[hk];exact⟨_,d,q⟩)
 ·have hk:(k+(e.toArray.size:Int)).toNat=j:=by
   rw[seqIndex_neg (by lia) h3]at c
   rw[zaK,<-hl];exact zaQ c
  exact PySem.W.ki_setBack ho (by lia) (by rw[zaK,<-hl];exact h3) (by lia) (by rw[hk];exact⟨_,d,q⟩)
theorem ve(lo hi:Option Int)(n:Nat):(sliceBounds lo hi none n).1=((HT.sIx n 0 lo:Nat):Int)/\(sliceBounds lo hi none n).2.1=((HT.sIx n n hi:Nat):Int)/\(sliceBounds lo hi none n).2.2=1:=by
 refine⟨?_,?_,rfl⟩
 ·cases lo with
  |none=>simp[sliceBounds,HT.sIx]
  |some i=>
   simp only[sliceBounds,HT.sIx,Option.getD_none,show(1:Int)>0 by decide,if_true]
   by_cases h:i<0
   ·simp only[h,if_true]<;>lia
   ·simp only[h,if_false]<;>lia
 ·cases hi with
  |none=>simp[sliceBounds,HT.sIx]
  |some i=>
   simp only[sliceBounds,HT.sIx,Option.getD_none,show(1:Int)>0 by decide,if_true]
   by_cases h:i<0
   ·simp only[h,if_true]<;>lia
   ·simp only[h,if_false]<;>lia
theorem tm(I:List Value)(lo hi:Option Int):slicePick I.toArray lo hi none=((I.drop<|HT.sIx I.length 0 lo).take<|HT.sIx I.length I.length hi-HT.sIx I.length 0 lo).toArray:=by
 obtain⟨c,d,h3⟩:=ve lo hi I.toArray.size;unfold slicePick;rw[c,d,h3];simp only[sliceRange_one,pick_run,List.size_toArray]<;>rfl
def Md(K:zag):V->Option Int->Option Int->Hp->VK->Prop:=λx lo hi H Q=>∃a xs,x=.ref a/\SqL K H a xs/\∀p,H p=none->Q (.ref p) (upd H p<|.lst<|C0 xs lo hi)
theorem Ig:SlR X (Md X.K):=by
 intro V0 s σ H x v k l lo hi sl Q I i hs pl g h;obtain⟨a,xs,rfl,e,q⟩:=h;cases i;obtain⟨j,r,d,f⟩:=I.list e;have c:=r.length;refine⟨"list",_,slot_list_getitem.lookup,d.isList.typeIs,?_⟩;refine wpAny_getItem_list_slice d.isList hs pl g .none (by simp) ?_ (by rw[zaK]<;>lia)
 rw[tm,<-c];refine⟨.ref s.heap.objs.size,_,I.laid (t':=s.toks) (o:=.lst<|C0 xs lo hi) (λb ob q=>zar _ q) (zap _) ?_,rfl,q _<|I.hok.fresh<|zap _⟩
 exact⟨zaX (xh xs lo hi) f,_,0,(r.drop<|HT.sIx xs.length 0 lo).take<|HT.sIx xs.length xs.length hi-HT.sIx xs.length 0 lo,zaL _ rfl⟩
def QB:V->Bool
 | .non=>true
 | .bl _=>true
 | .int _=>true
 | .str _=>true
 |_=>false
def eqV:V->V->Bool
 | .non,.non=>true
 | .bl a,.bl b=>a==b
 | .bl a,.int b=>(if a then 1 else 0)==b
 | .int a,.bl b=>a==(if b then 1 else 0)
 | .int a,.int b=>a==b
 | .str a,.str b=>a==b
 |_,_=>false
def inV(x:V)(xs:List V):Bool:=xs.any λy=>eqV y x
theorem vf:dJ X (.builtin "len") (λxs H Q=>∃p M,xs=[.ref p]/\(SqL X.K H p M\/SqT X.K H p M)/\Q (.int M.length) H):=by
 intro V0 s σ H xs us Q I r h;obtain⟨p,M,rfl,d,q⟩:=h;obtain⟨u,rfl,i⟩:=vals1 r;cases i;have hn:=oV;rcases d with d|d
 ·obtain⟨f,e,pl,g⟩:=I.list d
  have c:=e.length;exact Calls.call_len_list pl.isList (by simp only[List.size_toArray]<;>lia) ⟨.int M.length,H,I.tok _,⟨s.toks+1,by rw[zaK,c]⟩,q⟩
 ·obtain⟨f,e,pl,g⟩:=I.tuple d
  have c:=e.length;exact len_tuple pl (by simp only[List.size_toArray]<;>lia) ⟨.int M.length,H,I.tok _,⟨s.toks+1,by rw[zaK,c]⟩,q⟩
theorem vg:dJ X (.builtin "len") (λxs H Q=>∃z,xs=[.str z]/\z.length<=sizeLine/\Q (.int z.length) H):=by
 intro V0 s σ H xs us Q I r h;obtain⟨z,rfl,c,q⟩:=h;obtain⟨u,rfl,t,rfl⟩:=vals1 r;have hn:=oV;exact len_str (by lia) ⟨.int z.length,H,I.tok _,⟨_,rfl⟩,q⟩
theorem dJ.or(h:dJ X f r)(h':dJ X f M):dJ X f (λxs H Q=>r xs H Q\/M xs H Q):=by
 intro V0 s σ H xs us Q I rs q;rcases q with q|q
 ·exact h V0 s σ H xs us Q I rs q
 ·exact h' V0 s σ H xs us Q I rs q
theorem vh:dJ X (.type "list") (λxs H Q=>∃p M,xs=[.ref p]/\(SqL X.K H p M\/SqT X.K H p M)/\∀l,H l=none->Q (.ref l) (upd H l<|.lst M)):=by
 intro V0 s σ H xs us Q I r h;obtain⟨p,M,rfl,i,q⟩:=h;obtain⟨u,rfl,m⟩:=vals1 r;cases m;have f:∀(c:List Value),Vals M c->M.length<=sizeLine->∀(h':Heap) (c':Nat),(∀b o',s.heap.get? b=some o'->h'.get? b=some o')->
   h'.get? s.heap.objs.size=some {cls:=.type "list",dict:=none,data:=.seq c.toArray c',slots:=#[]}->EP X V0 σ Q (.ref s.heap.objs.size) {s with heap:=h'}:=λc d j h' c' kp e=>
  ⟨.ref s.heap.objs.size,_,I.laid (t':=s.toks) kp (zap _)<|show bY X.prog X.w _ h' _ (.lst M)from⟨j,c,c',d,e⟩,rfl,q _<|I.hok.fresh<|zap _⟩
 rcases i with i|i
 ·obtain⟨c,d,pl,j⟩:=I.list i
  have g:=d.length;obtain⟨o,ho,k,n,hd⟩:=pl.isList;exact call_list_seq p (.inl rfl) ho k hd (λh' c' kp e=>f c d j h' c' kp e) (by simp only[List.size_toArray]<;>lia)
 ·obtain⟨c,d,pl,j⟩:=I.tuple i
  have g:=d.length;obtain⟨o,ho,k,n,hd⟩:=pl;exact call_list_seq p (.inr rfl) ho k hd (λh' c' kp e=>f c d j h' c' kp e) (by simp only[List.size_toArray]<;>lia)
theorem tq:dJ X (.type "tuple") (λxs H Q=>∃p M,xs=[.ref p]/\((SqL X.K H p M/\∀l,H l=none->Q (.ref l) (upd H l<|.tup M))\/(SqT X.K H p M/\Q (.ref p) H))):=by
 intro V0 s σ H xs us Q I r h;obtain⟨p,M,rfl,h⟩:=h;obtain⟨u,rfl,m⟩:=vals1 r;cases m;rcases h with⟨d,q⟩|⟨d,q⟩
 ·obtain⟨c,f,pl,j⟩:=I.list d
  have i:=f.length;refine call_tuple_list pl.isList (λh' kp=>?_) (by simp only[List.size_toArray]<;>lia)
  have g:Inv X V0 σ H {s with heap:=h'}:=I.kept (t':=s.toks) kp
  have k:Inv X V0 σ (upd H h'.objs.size<|.tup M) {s with heap:=h'.push {cls:=.type "tuple",data:=.seq c.toArray}} :=
   g.laid (t':=s.toks) (λb o e=>zar _ e) (zap _) (show bY X.prog X.w _ _ _ (.tup M)from⟨j,c,f,IsTup.new _ _⟩)
  exact⟨.ref h'.objs.size,_,k,rfl,q _<|g.hok.fresh<|zap _⟩
 ·obtain⟨c,f,pl,j⟩:=I.tuple d
  exact call_tuple_same pl ⟨.ref p,H,I,rfl,q⟩
def tyV(K:zag)(T:String)(x:V)(H:Hp):Prop:=match x with
 | .str _=>T="str"
 | .int _=>T="int"
 | .ref p=>(T="list"/\∃xs,SqL K H p xs)\/(T="tuple"/\∃o,K.lookup p=some o/\o.cls=.type "tuple"/\o.dict=none)\/
   (T="dict"/\((∃Z0,H p=some (.dK Z0))\/∃Z0,H p=some (.dT Z0)))\/(T="set"/\∃S n,H p=some (.set S n))
 |_=>False
theorem EL{σ:St}{s:Shared}{T:String}{x:V}{v:Value}(I:Inv X V0 σ H s)(r:RelV x v)(ty:tyV X.K T x H) :
  s.TypeIs v T/\∀a,v=.ref a->∃ob,s.heap.get? a=some ob/\ob.dict=none:=by
 cases x with
 |str z=>
  obtain⟨t,rfl⟩:=r;cases(show T="str"from ty);exact⟨typeIs_str s z t,λ_ e=>nomatch e⟩
 |int i=>
  obtain⟨t,rfl⟩:=r;cases(show T="int"from ty);exact⟨typeIs_int s i t,λ_ e=>nomatch e⟩
 |ref p=>
  cases r;rcases ty with⟨rfl,xs,g⟩|⟨rfl,o,hk,f,hd⟩|⟨rfl,hk⟩|⟨rfl,S,n,hk⟩
  ·obtain⟨h,_,pl,_⟩:=I.list g
   refine⟨pl.isList.typeIs,λa e=>?_⟩
   cases e;obtain⟨o,n,e,c,hd,_⟩:=pl;exact⟨o,e,hd⟩
  ·refine⟨⟨o,I.kIn p o hk,f⟩,λa e=>?_⟩
   cases e;exact⟨o,I.kIn _ o hk,hd⟩
  ·have z:∃o,s.heap.get? p=some o/\o.ExactDict:=by
    rcases hk with⟨Z0,hk⟩|⟨Z0,hk⟩
    ·obtain⟨_,_,_,_,o,_,_,e,ex,_⟩:=I.hok p _ hk
     exact⟨o,e,ex⟩
    ·obtain⟨_,_,_,_,o,_,_,e,ex,_⟩:=I.hok p _ hk
     exact⟨o,e,ex⟩
   obtain⟨o,e,ex⟩:=z;refine⟨⟨o,e,ex.1⟩,λa d=>?_⟩
   cases d;exact⟨o,e,ex.2.1⟩
  ·obtain⟨o,_,_,_,e,ex,_⟩:=I.hok p _ hk
   refine⟨⟨o,e,ex.1⟩,λa d=>?_⟩
   cases d;exact⟨o,e,ex.2.1⟩
 |_=>exact False.elim ty
def Me(K:zag)(T:String)(r:V->List V->Hp->VK->Prop)(to:TE):TE:=fun σ H Q=>to σ H λx D=>tyV K T x D/\r x [] D Q
def tBM(K:zag)(T:String)(r:V->List V->Hp->VK->Prop)(to:TE)(t:TA):TE:=fun σ H Q=>to σ H λx D=>tyV K T x D/\t σ D λxs G=>r x xs G Q
variable{o e:Expr}{es:List Expr}{to:TE}{t:TA}{name:Str}{apos Q2:Pos}{T id:String}{r:V->List V->Hp->VK->Prop}
theorem Mf(Y:PlainAttrs T)(slot:Slot T name id)(U:typeOf (.builtin id)=pure (.type "method_descriptor"))(hm:MtR X id r)(ho:PE X o to)
  (M:attributeBase o name X.env (eval o X.env)=eval o X.env:=by rfl) (O:(apos.endLine==Q2.line)=true:=by rfl):PE X (.Call (.Attribute o name apos) [] [] Q2) (Me X.K T r to):=by
 intro V0 s σ H Q I h;refine wpAny_Call_method0_late M O (thn (ho V0 s σ H _ I h) λv s1 ⟨x,f,c,d,ty,j⟩=>?_)
 obtain⟨g,i⟩:=EL c d ty;exact⟨T,id,Y,slot,U,g,i,Calls.callWith_builtin rfl<|PySem.evalArgs_none<|hm V0 s1 σ f x [] v [] Q c d .nil j⟩
theorem Ot(pa:PlainAttrs T)(slot:Slot T name id)(hty:typeOf (.builtin id)=pure (.type "method_descriptor"))(hm:MtR X id r)(ho:PE X o to)(ha:PA X (e::es) t)
  (O:attributeBase o name X.env (eval o X.env)=eval o X.env:=by rfl)
  (Y:((backTo Q2<|starEach (e::es) X.env).all (λx=>!x.1)&&(backToKw Q2<|keywordEach [] X.env).all (λx=>x.1.isSome)
   &&decide ((e::es).length+([]:List Keyword).length+(if([]:List Keyword).isEmpty then 0 else 1)<30))=true:=by rfl)
  (U:(apos.endLine==Q2.line)=true:=by rfl) (hs:starEach (e::es) X.env=(false,eval e X.env)::starEach es X.env:=by rfl) (M:(backTo Q2<|starEach es X.env).any (·.1)=false:=by rfl) :
  PE X (.Call (.Attribute o name apos) (e::es) [] Q2) (tBM X.K T r to t):=by
 intro V0 s σ H Q I h;refine wpAny_Call_method_late O Y U rfl (thn (ho V0 s σ H _ I h) λv s1 ⟨x,g,c,f,ty,m⟩=>?_)
 obtain⟨k,l⟩:=EL c f ty;refine⟨T,id,pa,slot,hty,k,l,?_⟩;have d:=ha Q2 V0 s1 σ g _ c m;rw[hs]at d⊢;refine Calls.callWith_builtin (by show(false||(backTo Q2<|starEach es X.env).any (·.1))=false;rw[M]<;>rfl) (Calls.evalArgs_plain ?_)
 exact thn d λus s2 ⟨vs,i,j,p,n⟩=>hm V0 s2 σ i x vs v us Q j f p n
end
def MtM(X:Cx)(id:String)(r:V->List V->Hp->VK->Prop):Prop :=
 ∀(V0:List<|Addr×Obj) (s:Shared) (σ:St) (H:Hp) (x:V) (xs:List V) (v:Value) (us:List Value) (Q:VK),Inv X V0 σ H s->RelV x v->Vals xs us->r x xs H Q->
  wpAny (model X.prog X.w) X.A (call (.builtin id) (v::us)) (EP X V0 σ Q) X.xe s
def Vals.one:∀{x:V} {us:List Value},Vals [x] us->∃u,us=[u]/\RelV x u
 |_,_,.cons r .nil=>⟨_,rfl,r⟩
theorem Vals.rep(h:Vals xs us):∀k:Nat,Vals (List.replicate k xs).flatten (List.replicate k us).flatten
 |0=>.nil
 |k+1=>by
  rw[zbc,zbc,List.flatten_cons,List.flatten_cons];exact Vals.append h (Vals.rep h k)
theorem foldl_rep(I:List Value):∀(k:Nat) (M:List Value),
  List.foldl (λO Y=>O++Y) M.toArray (List.replicate k I.toArray)=(M++(List.replicate k I).flatten).toArray
 |0,M=>by simp
 |k+1,M=>by
  have e:M.toArray++I.toArray=(M++I).toArray:=by simp
  have a:(M++I)++(List.replicate k I).flatten=M++(List.replicate (k+1) I).flatten:=by
   rw[zbc,List.flatten_cons,zaD]
  rw[<-a,<-foldl_rep I k (M++I),<-e,zbc,List.foldl_cons]
section
variable{X:Cx}{V0:List<|Addr×Obj}{σ:St}{H:Hp}{s:Shared}{l b:Addr}{xs ys zs:List V}
theorem Inv.P2{M its':List Value}{t':Nat}(I:Inv X V0 σ H s)(O:H l=some (.lst xs))
  (e:s.heap.get? l=some {cls:=.type "list",data:=.seq M.toArray n}) (U:f M.toArray=its'.toArray) (Y:Vals ys its') (hz:ys.length<=sizeLine) :
  Inv X V0 σ (upd H l<|.lst ys) {s with heap:=s.heap.update l<|Obj.mapSeq f,toks:=t'}:=by
 have q:=PySem.IsL.update e f;rw[U]at q;refine I.write (x:=l) (e:=l) (by rw[O];exact trivial) (.inl rfl) (λd u a c=>(Heap.get?_update_other s.heap (Obj.mapSeq f)<|Ne.symm a).trans c) ⟨_,q⟩ ?_
 exact⟨hz,its',_,Y,q⟩
def Inv.Ou(I:Inv X V0 σ H s)(O:Vals ys M)(Y:ys.length<=sizeLine) :
  Inv X V0 σ (upd H s.heap.objs.size<|.lst ys) {s with heap:=s.heap.push {cls:=.type "list",data:=.seq M.toArray},toks:=t'} :=
 I.laid (λ_ _ q=>zar _ q) (zap _) ⟨Y,M,0,O,zaL _ rfl⟩
theorem Inv.fresh(I:Inv X V0 σ H s):H s.heap.objs.size=none:=I.hok.fresh (zap _)
theorem Inv.Ov(I:Inv X V0 σ H s)(O:H l=some (.lst xs)):xs.length<=sizeLine/\∃(M:List Value) (n:Nat),Vals xs M/\xs.length=M.length/\s.heap.get? l=some {cls:=.type "list",data:=.seq M.toArray n}:=by
 obtain⟨z,M,n,r,e⟩:=I.hok l _ O;exact⟨z,M,n,r,r.length,e⟩
theorem EO(h:n<=sizeLine):Builtin.List.listTooLong n=false:=by
 unfold Builtin.List.listTooLong;exact zaO (by lia)
end
section
variable{X:Cx}
def nE:V->List V->Hp->VK->Prop:=λx vs H Q=>∃l xs y,x=.ref l/\vs=[y]/\H l=some (.lst xs)/\xs.length<sizeLine/\Q .non (upd H l<|.lst<|xs++[y])
theorem ma:MtM X "list.append" nE:=by
 intro V0 s σ H x vs v us Q I f d h;obtain⟨l,xs,y,rfl,rfl,b,g,q⟩:=h;cases f;obtain⟨u,rfl,c⟩:=d.one;obtain⟨z,a,n,r,hl,e⟩:=I.Ov b;refine call_meets F.slot_list_append ⟨_,e,rfl⟩ F.entry_list_append (F.args_list_append_2 _ _) (PySem.list_append l a.toArray n u (by rw[zaK];lia)) ⟨e,?_⟩
 refine⟨.non,_,I.P2 (its':=a++[u]) b e (by simp) (r.append<|.cons c .nil) ?_,rfl,q⟩
 rw[zau,za7]
 lia
def Ow:R2:=λx y H Q=>∃l k xs,x=.ref l/\y=.int k/\H l=some (.lst xs)/\-(2^63)<=k/\k<2^63/\xs.length*k.toNat<=sizeLine/\
 ∀p,H p=none->Q (.ref p) (upd H p<|.lst (List.replicate k.toNat xs).flatten)
theorem len_rep{α:Type}(xs:List α)(k:Nat):(List.replicate k xs).flatten.length=k*xs.length:=by
 induction k with
 |zero=>simp
 |succ k a=>rw[zbc,List.flatten_cons,zau,a,Nat.succ_mul,Nat.add_comm]
theorem Mg:OpR X (binaryOp .Mult) Ow:=by
 intro V0 s σ H x y v u Q I C D h;obtain⟨l,k,xs,rfl,rfl,B,w,A,o,q⟩:=h;cases C;obtain⟨t,rfl⟩:=D;obtain⟨z,b,n,r,hl,e⟩:=I.Ov B;have f:b.toArray.size*k.toNat<=sizeLine:=by rw[zaK,<-hl];exact o
 have c : ¬b.toArray.size*k.toNat>(2^63-1)/8:=by
  have:(sizeLine:Nat)<=(2^63-1)/8:=by decide
  lia
 have d : ¬(!Builtin.List.listFitsIndex k)=true:=by
  rw[fitsIndex_both w A];exact zam
 have p : ¬Builtin.List.listTooLong (b.toArray.size*k.toNat)=true:=by
  rw[EO f];exact zam
 have g:List.foldl (λi j=>i++j) #[] (List.replicate (if b.toArray.isEmpty=true then 0 else k.toNat) b.toArray)=(List.replicate k.toNat b).flatten.toArray:=by
  have f0:∀m:Nat,List.foldl (λi j=>i++j) #[] (List.replicate m b.toArray)=(List.replicate m b).flatten.toArray:=λm=>by
   have:=foldl_rep b m [];rw[List.nil_append]at this;exact this
  rw[f0];cases b with
  |nil=>simp
  |cons a E=>rw[if_neg (by simp)]
 refine wpAny_binaryOp_repeat_ref (T:="list") (U:="int") (by decide) ⟨_,e,rfl⟩ (λs'=>typeIs_int s' k t) noFill_list_mul F.fills_int_mul F.slot_int_rmul repeat_list F.slot_int_index.lookup
  (call_meets F.slot_int_rmul (typeIs_int s k t) F.entry_int_rmul (F.args_int_rmul_2 _ _) (int___rmul___int_list k t l b.toArray n)
   ⟨e,rfl,⟨_,e,rfl⟩,call_meets F.slot_list_mul ⟨_,e,rfl⟩ F.entry_list_mul (F.args_list_mul_2 _ _) (AutoListH.list___mul___list_int_3 l b.toArray n k t d c p) ⟨e,?_⟩⟩)
 rw[g];exact⟨.ref _,_,I.Ou (t':=s.toks) (r.rep k.toNat) (by rw[len_rep,Nat.mul_comm];exact o),rfl,q _ I.fresh⟩
end
section
variable{prog:Program}{w:World}{A:Around}{E:Value->Shared->Prop}{s:Shared}
set_option maxRecDepth 100000 in
end
end L2
namespace Att
open PySem.W PySem.Calls PyProof.Rows
theorem qw:∀(ns:List Int) (vs:List Value),WellAll P h vs (ns.map WData.int)->IntsAre vs ns:=by
 intro ns
 induction ns with
 |nil=>
  intro vs w;rw[List.map_nil]at w;cases w;exact .nil
 |cons n ns c=>
  intro vs w;rw[zaz]at w;cases w with
  |cons a b=>
   cases a;exact .cons _ _ (c _ b)
theorem C1{l:OpenLaw}(hn:l.most=some n){h:Heap}{args:List WData}{M:List Value}
  (I:l.row.toRowW.claim.pre args=true) (O:WellAll P h M args) :
  ∃a vs ns,M=[Value.ref a]/\args=[WData.list<|ns.map WData.int]/\h.get? a=some {cls:=.type "list",data:=.seq vs.toArray}/\IntsAre vs ns/\ns.length<=n:=by
 have f:WShape.hasAll [] args [.list .int]=true:=(pre_splitW I).1;have g:l.pre.holds [] {args:=args}=true:=(pre_splitW I).2;obtain⟨d,r,rfl,i,j⟩:=hasAllW_cons f;obtain rfl:=hasAllW_nil j;obtain⟨xs,rfl,h3⟩:=hasW_list i;obtain⟨ns,rfl⟩:=items_int h3;have c:ns.length<=n:=by
  unfold OpenLaw.pre at g;have h4:(WTm.not<|.lt (.lit<|.int (n:Int))<|.len<|.arg 0).holds [] {args:=[.list<|ns.map .int]}=true:=by
   have h4:=(holds_andW g).1;rw[hn]at h4;exact h4
  have e:=condW_of h4 (w_not<|w_lt w_lit<|w_len_list<|w_arg rfl);rw[zal]at e;refine zba λq=>?_
  have k:(n:Int)<((ns.length:Nat):Int):=by lia
  first
   |(rw[zaH k]at e;exact absurd e (by decide))
   |(simp at e;lia)
 cases O with
 |cons w1 m=>
  cases m;cases w1 with
  |list ho b=>exact⟨_,_,ns,rfl,rfl,ho,qw ns _ b,c⟩
theorem C2(l:OpenLaw)(args:List WData):l.row.toRowW.claim.post args (.bool true) args=true :=
 postW_of (r:=l.row.toRowW) (X:=(true==true))
  (show WShape.has [] (.bool true) .bool=true by first|rfl|decide|simp[WShape.has,WShape.arms,WShape.armsAll])
  (show(WTm.eq .res<|.lit<|.bool true).value [] {args:=args,res:=some<|.bool true,after:=args}=some (.bool<|true==true)from w_eq_bool (w_res rfl) w_lit) rfl
end Att
namespace L2
open PySem.Spec PyProof.Rows
theorem ug:∀{vs:List Value} {ns:List Int},IntsAre vs ns->Vals (ns.map V.int) vs
 |_,_,.nil=>.nil
 |_,_,.cons n t h=>.cons ⟨t,rfl⟩ (ug h)
def Only(H:Hp):Prop:=∀b,H b=none\/(∃o xs,H b=some (.frz o<|.lst xs))\/∃ps,H b=some (.tbl ps)
theorem qX{K:zag}(e:gW K=some (c,T,ps)):K.lookup T=none/\PySem.W.codeHdIn K c T=true:=by
 unfold gW at e;split at e
 ·rename_i c' T' b _
  split at e
  ·rename_i a
   cases e;unfold zr at a;simp only[Bool.and_eq_true]at a;exact⟨by simpa using a.1.2,a.1.1⟩
  ·cases e
 ·cases e
theorem lr{I:Type}{o : I}:∀{K:List<|Addr×I},K.lookup a=some o->(a,o)∈K
 | [],e=>by cases e
 |(b,u)::r,e=>by
  rw[za8]at e;split at e
  ·rename_i d
   have c:a=b:=by simpa using d
   subst c;cases e;exact zas
  ·exact zak _ (lr e)
theorem Mh{K:zag}{oc:Value}{od:Option Addr}{fd:FuncData}{osl:Array<|Option Value}{I:Pos}(e:gW K=some (c,T,ps))(lk:K.lookup f=some ⟨oc,od,.func fd,osl⟩)(M:uZ fd.body=some I) :
  fd.code=.ref c/\ps=#[rawInt I.line,rawInt I.col,.str (fd.qualname++".<locals>.<lambda>") 0]:=by
 unfold gW at e;split at e
 ·split at e
  ·rename_i a
   cases e;unfold zr at a;simp only[Bool.and_eq_true]at a;have b:=List.all_eq_true.mp a.2 _ (lr lk);have h:Et fd=true:=by unfold Et;rw[M];rfl
   simp only[h,Bool.not_true,Bool.false_or]at b;have h3:=beq_iff_eq.mp b;unfold wY at h3;rw[M]at h3;split at h3
   ·rename_i i c' d g
    cases d;split at h3
    ·split at h3
     ·cases h3;exact⟨g,rfl⟩
     ·cases h3
    ·cases h3
   ·cases h3
  ·cases e
 ·cases e
theorem ER{K:zag}{ps:Array Value}(e:wY K fd=some (c,T,ps)):∃l k q,ps=#[rawInt l,rawInt k,.str q 0]:=by
 unfold wY at e;split at e
 ·split at e
  ·split at e
   ·cases e;exact⟨_,_,_,rfl⟩
   ·cases e
  ·cases e
 ·cases e
theorem A8{K:zag}(e:gW K=some (c,T,ps)):∃l k q,ps=#[rawInt l,rawInt k,.str q 0]:=by
 unfold gW at e;split at e
 ·rename_i c' T' d b
  split at e
  ·cases e
   obtain⟨p,_,a⟩:=List.exists_of_findSome?_eq_some b;split at a
   ·exact ER a
   ·cases a
  ·cases e
 ·cases e
theorem Ih{K:zag}(e:gW K=some (c,T,ps)):ps[0]?≠some .none:=by
 obtain⟨l,k,q,rfl⟩:=A8 e;intro z;cases z
theorem xj{K:zag}(e:gW K=some (c,T,ps))(more:Array Value):(ps++more)[0]?≠some .none:=by
 obtain⟨l,k,q,rfl⟩:=A8 e;intro z;rw[Array.getElem?_append_left (by simp)]at z
 cases z
theorem ES{K:zag}{mg mb:Str->Option Value}{CX:CXT}{k:Nat}{fa a:Addr}{fd:FuncData}{x:Str}{sp:Sp}{I:Shared}{vs:List Value}{ns:List Int}
  (KX:K.In I.heap) (O:∀c T ps,gW K=some (c,T,ps)->I.heap.get? T=some (PySem.W.tabObj #[])) (hns:I.heap.Ns mainGlobals mg) (M:I.heap.Ns builtinsNs mb) (hbb:∀x:Str,x≠"__name__"->mb x=bootBuiltins x) (Y:I.heap.NoLimit) (hbm:∃bm ob,mg "__builtins__"=some (.ref bm)/\bm≠builtinsNs/\I.heap.get? bm=some ob/\ob.cls=.type "module"/\ob.dict=some builtinsNs/\ob.data=.plain) (hg:I.gens=#[])
  (ha:I.heap.get? a=some {cls:=.type "list",data:=.seq vs.toArray}) (hi:IntsAre vs ns) (hl:ns.length<=sizeLine) (hr:dR k callerA)
  (F:∀base:Heap,K.In base->base.Ns mainGlobals mg->mD P w K mg base CX k fa fd [x] sp) (U:∀(s:Shared) (u:Value),BindsTo s fd ⟨[u],[]⟩ [(x,u)])
  (hsp:∀H:Hp,Only H->SqL K H a (ns.map V.int)->sp [.ref a] H (λv _=>v=.bl true) λ_ _ _=>False)
  (hCX:∀H e s',CX [] H I (λ_ _ _=>False) e s'->False) :
  codeAny (model P w) callerA (.call (.ref fa) ⟨[.ref a],[]⟩) (λr s'=>r=.ok (.ret<|.bool true)/\OldK I.heap s'.heap/\s'.os=I.os/\AllBare s'.gens) I:=by
 have rv:=ug hi;have lenV:=hi.length;have D:∀H:Hp,Only H->SqL K H a (ns.map V.int)->HOk P w H I.heap->(∀b,H b≠none->b=a\/∃c ps,gW K=some (c,b,ps))->(H a≠none->K.lookup a=none)->(∀c T ps,gW K=some (c,T,ps)->H T=some (.tbl ps))->
   codeAny (model P w) callerA (.call (.ref fa) ⟨[.ref a],[]⟩) (λr s'=>r=.ok (.ret<|.bool true)/\OldK I.heap s'.heap/\s'.os=I.os/\AllBare s'.gens) I:=by
  intro H X hS hok B hK L;have vi:∀{b:Addr} {o:Obj},I.heap.get? b=some o->H b=none->(uY I.heap H).get? b=some o:=λe n=>Es e n
  have noA:∀{b:Addr} {o:Obj} {es:Array DictEntry} {A:Nat},I.heap.get? b=some o->o.data=.dict es A->H b=none:=fun{b o es A} e d=>by
   cases q:H b with
   |none=>rfl
   |some u=>
    rcases B b (by rw[q];simp)with f|⟨c,ps,f⟩
    ·subst f
     rw[ha]at e;cases e
     have d':Data.seq vs.toArray _=Data.dict es A:=d;cases d'
    ·rw[O _ _ _ f]at e;cases e
     have d':Data.fields #[]=Data.dict es A:=d;cases d'
  have j:∀{b:Addr} {m:Str->Option Value},I.heap.Ns b m->(uY I.heap H).Ns b m:=fun{b m} ⟨o,es,A,e,d,r⟩=>⟨o,es,A,vi e<|noA e d,d,r⟩
  have J:K.In (uY I.heap H):=λb o e=>vi (KX b o e) (by
   cases q:H b with
   |none=>rfl
   |some u=>
    rcases B b (by rw[q];simp)with f|⟨c,ps,f⟩
    ·subst f
     rw[hK (by rw[q];simp)]at e;cases e
    ·rw[(qX f).1]at e;cases e)
  have hM:Mod K mg (uY I.heap H):=⟨J,j hns,⟨mb,j M,hbb⟩,(let⟨mc,h1,h2⟩:=Y;⟨mc,j h1,h2⟩),by
   obtain⟨bm,ob,b1,b2,C,b4,b5,b6⟩:=hbm;refine⟨bm,ob,b1,b2,vi C ?_,b4,b5,b6⟩;cases q:H bm with
   |none=>rfl
   |some u=>
    rcases B bm (by rw[q];simp)with f|⟨c,ps,f⟩
    ·rw[f,ha]at C;cases C;exact absurd (Value.type.inj b4) (by decide)
    ·rw[O _ _ _ f]at C;cases C;cases b4⟩
  have e0:HX P w K mg (uY I.heap H) callerA [] I H:=⟨rfl,hM,λb o e=>HI e,Nat.le_of_eq<|CP _ _,trivial,λb M=>absurd (show b∈([]:List Addr)from M) (by simp),hok,.of_eq hg,λc T ps e=>⟨#[],by rw[L c T ps e];simp⟩⟩
  refine codeAny_mono ((F _ J<|j hns).run callerA [] I H ⟨[.ref a],[]⟩ [.ref a] [.ref a] _ _ hr e0 (U I<|.ref a) (.cons rfl .nil)<|hsp H X hS) λr s' h=>?_
  cases r with
  |error e=>exact(hCX H e s' h).elim
  |ok fl=>
   cases fl with
   |next=>exact False.elim h
   |brk=>exact False.elim h
   |cont=>exact False.elim h
   |ret u=>
    obtain⟨v,H',os,bare,un,l,r',q⟩:=h;have q':v=.bl true:=q;subst q';obtain rfl:u=Value.bool true:=r';refine⟨rfl,⟨λb o e=>?_,λb o e=>un.there b o e (by simp)⟩,os,bare⟩
    cases q:H b with
    |none=>exact .inl (un.keep b o e q (by intro z;exact absurd (show b∈([]:List Addr)from z) (by simp)) (by simp))
    |some u=>
     rcases X b with z|⟨ob,xs,z⟩|⟨ps,z⟩
     ·rw[q]at z;cases z
     ·have z2:=un.k7 b ob _ z
      obtain⟨E,_⟩:=hok b _ z;obtain⟨G,_⟩:=l b _ z2;rw[e]at E;cases E
      exact .inl G
     ·obtain⟨more,z2⟩:=un.jU b ps z
      obtain⟨Q,i,e0⟩:∃y,I.heap.get? b=some {cls:=.none,data:=.fields y}/\True:=by
       rcases B b (by rw[q];simp)with f|⟨c,t,f⟩
       ·rcases hok b _ z with⟨_,_,_,_,_,_,_,_,ec,eo,ed,_⟩|⟨_,Q,i,_⟩
        ·cases ec;rw[f,ha]at eo;cases eo;cases ed
        ·exact⟨Q,i,trivial⟩
       ·exact⟨_,O _ _ _ f,trivial⟩
      obtain⟨y,G⟩:∃y,s'.heap.get? b=some {cls:=.none,data:=.fields y}:=by
       rcases B b (by rw[q];simp)with f|⟨c,t,f⟩
       ·rw[f,ha]at i;cases i
       ·rcases l b _ z2 with⟨e4,_⟩|⟨_,y,G,_⟩
        ·have e5:=L _ _ _ f
         rw[z]at e5;cases e5
         exact absurd e4 (xj f more)
        ·exact⟨y,G⟩
      rcases B b (by rw[q];simp)with f|⟨c,t,f⟩
      ·rw[f,ha]at i;cases i
      ·have i:=O _ _ _ f
       rw[e]at i;cases i
       exact .inr (.inl ⟨(((PySem.W.codeHd_of_K KX (qX f).2).tab<|O _ _ _ f).isCodeTable),rfl,#[],y,rfl,by rw[G];simp⟩)
 have N:∀c T ps,gW K=some (c,T,ps)->T≠a:=λc T ps e z=>by
  have E:=O c T ps e;rw[z,ha]at E;cases E
 have tabs:∀g:Hp,(∀b,g b≠none->b=a)->∃H:Hp,(∀b,H b=g b\/∃c ps,gW K=some (c,b,ps)/\H b=some (.tbl ps))/\(∀c T ps,gW K=some (c,T,ps)->H T=some (.tbl ps))/\∀b u,g b=some u->H b=some u:=λg S=>by
  cases e:gW K with
  |none=>exact⟨g,λb=>.inl rfl,λc T ps z=>(by cases z),λb u z=>z⟩
  |some x=>
   obtain⟨c,T,ps⟩:=x;refine⟨upd g T<|.tbl ps,λb=>?_,λc' T' t z=>by cases z;exact ay,λb u z=>?_⟩
   ·by_cases M:b=T
    ·exact .inr ⟨c,ps,by rw[M],by rw[M];exact ay⟩
    ·exact .inl (au M)
   ·rw[au λq=>N c T ps e<|q.symm.trans<|S b (by rw[z];simp)];exact z
 have wide:∀g:Hp,(∀b,g b=none\/∃o xs,g b=some (.frz o<|.lst xs))->SqL K g a (ns.map V.int)->HOk P w g I.heap->(∀b,g b≠none->b=a)->(g a≠none->K.lookup a=none)->
   codeAny (model P w) callerA (.call (.ref fa) ⟨[.ref a],[]⟩) (λr s'=>r=.ok (.ret<|.bool true)/\OldK I.heap s'.heap/\s'.os=I.os/\AllBare s'.gens) I:=λg X hS hok S hK=>by
  obtain⟨H,Z,t2,t3⟩:=tabs g S;have p:H a=g a:=by
   rcases Z a with z|⟨c,ps,e,_⟩
   ·exact z
   ·exact absurd rfl (N c a ps e)
  refine D H (λb=>?_) ?_ (λb u z=>?_) (λb z=>?_) (λz=>hK (by rw[<-p];exact z)) t2
  ·rcases Z b with z|⟨c,ps,_,z⟩
   ·rcases X b with q|⟨o,xs,q⟩
    ·exact .inl (z.trans q)
    ·exact .inr (.inl ⟨o,xs,z.trans q⟩)
   ·exact .inr (.inr ⟨ps,z⟩)
  ·rcases hS with(q|⟨o,q⟩)|q
   ·exact .inl (.inl<|p.trans q)
   ·exact .inl (.inr ⟨o,p.trans q⟩)
   ·exact .inr q
  ·rcases Z b with q|⟨c,ps,e,q⟩
   ·rw[z]at q
    exact(hok b u q.symm).stay (λ_ _ _ x=>x) (λb' x=>t3 _ _ x) λb' xs _ x=>t3 _ _ x
   ·rw[z]at q;cases q
    exact .inr ⟨Ih e,#[],O _ _ _ e,.inl rfl⟩
  ·rcases Z b with q|⟨c,ps,e,q⟩
   ·exact .inl (S b (by rw[<-q];exact z))
   ·exact .inr ⟨c,ps,e⟩
 cases hk:K.lookup a with
 |some o=>
  have e:=KX a o hk;rw[ha]at e;cases e;refine wide (λ_=>none) (λ_=>.inl rfl) (.inr ⟨_,vs.toArray,_,hk,rfl,rfl,rfl,by rw[zaK,lenV];exact hl,by simpa using rv⟩) (λb u z=>by have R:(none:Option HO)=some u:=z;cases R) (λb z=>absurd rfl z) λz=>absurd rfl z
 |none=>
  refine wide (λb=>if b=a then some (.frz {cls:=.type "list",data:=.seq vs.toArray}<|.lst<|ns.map V.int)else none) (λb=>?_) (.inl<|.inr ⟨{cls:=.type "list",data:=.seq vs.toArray},if_pos rfl⟩) (λb u z=>?_) (λb z=>?_) λ_=>hk
  ·by_cases M:b=a
   ·exact .inr ⟨_,_,if_pos M⟩
   ·exact .inl (if_neg M)
  ·by_cases M:b=a
   ·have R:=(if_pos M).symm.trans z
    cases R;subst M;exact⟨ha,by rw[zal];exact hl,vs,_,rv,ha⟩
   ·have R:=(if_neg M).symm.trans z
    cases R
  ·by_cases M:b=a
   ·exact M
   ·exact absurd (if_neg M) z
abbrev KOf{K:zag}{h:Heap}(_:K.In h):zag:=K
def gK(s:Stmt):Arguments:=match s with
 | .FunctionDef _ a _ _ _ _ _ _ _ _=>a
 |_=>{posonlyargs:=[],args:=[],vararg:=none,kwonlyargs:=[],kw_defaults:=[],kwarg:=none,defaults:=[]}
def dG(s:Stmt):List Stmt:=match s with
 | .FunctionDef _ _ b _ _ _ _ _ _ _=>b
 |_=>[]
def aL(s:Stmt):Scope:=match s with
 | .FunctionDef _ _ _ _ _ _ sc _ _ _=>sc
 |_=>{kind:=.function,names:=[],isGenerator:=false,isCoroutine:=false}
abbrev CX0:CXT:=λ_ _ _ _ _ _=>False
abbrev E0:XK:=λ_ _ _=>False
def Kz:Passes CX0 X E0:=λ_ _ _ _ _ _ _ h=>h.elim
structure Fun(K:zag)(x W1:Str)(st:Stmt)(f:Addr)(fd:FuncData):Prop where
 ex:∃(oc:Value) (od:Option Addr) (kV doc pm:Value) (an:Option Addr) (cdv ct:Value) (osl:Array<|Option Value),
  fd=PySem.W.fnOf x W1 (gK st) (dG st) (aL st) .none kV doc pm an cdv ct/\K.lookup f=some ⟨oc,od,.func fd,osl⟩/\PySem.W.codeIn K cdv W1=true
 kp:PySem.W.keepIn K (.ref f)=true
section
variable{P:Program}{w:World}{K:zag}{mg:Str->Option Value}{base:Heap}
theorem Fun.ok{st:Stmt}{fd:FuncData}{N ps:List Str}{k:Nat}{sp:Sp}(F:Fun K x W1 st f fd)(S:bq N ps<|aL st)(len:∀vs H Q E,sp vs H Q E->vs.length=ps.length)
  (M:∀(cdv:Value) (A:Around) (outer:List Env) (s:Shared) (H:Hp) (vs:List V) (Q:VK) (E:XK),dR k (A.deeper<|envOfC W1 (aL st) s.heap.objs.size f cdv)->sp vs H Q E->
   ∃t,PSs (mV CX0 P w K mg base N W1 (aL st) f cdv A outer s H E).nox (dG st) t/\t {nx:=λ_ H'=>Q .non H',rt:=Q} (start N vs) H):mD P w K mg base CX0 (k+1) f fd ps sp:=by
 obtain⟨oc,od,kV,doc,pm,an,cdv,ct,osl,rfl,lk,l⟩:=F.ex;refine dY lk l S len λA outer s H vs Q E D u=>?_
 obtain⟨t,h,q⟩:=M cdv A outer s H vs Q E D u;exact⟨t,h.nox,q⟩
theorem Fun.binds{st:Stmt}{fd:FuncData}{ps:List Str}(F:Fun K x W1 st f fd)
  (h:∀(kV doc pm:Value) (an:Option Addr) (cdv ct:Value) (us:List Value),us.length=ps.length->bindArgs (PySem.W.fnOf x W1 (gK st) (dG st) (aL st) .none kV doc pm an cdv ct) ⟨us,[]⟩=pure (ps.zip us)):Binds K fd ps []:=by
 obtain⟨oc,od,kV,doc,pm,an,cdv,ct,osl,rfl,lk,a⟩:=F.ex;exact .all (h kV doc pm an cdv ct)
def Mi{st:Stmt}{oc:Value}{od an:Option Addr}{osl:Array<|Option Value}{kV doc pm cdv ct:Value}(l:K.lookup f=some ⟨oc,od,.func<|PySem.W.fnOf x W1 (gK st) (dG st) (aL st) .none kV doc pm an cdv ct,osl⟩)
  (c:PySem.W.codeIn K cdv W1=true) (k:PySem.W.keepIn K (.ref f)=true):Fun K x W1 st f (PySem.W.fnOf x W1 (gK st) (dG st) (aL st) .none kV doc pm an cdv ct):=⟨⟨oc,od,kV,doc,pm,an,cdv,ct,osl,rfl,l,c⟩,k⟩
end
section
variable{X:Cx}
theorem pv(i:Nat){pos:Pos}(M:X.N[i]?=some x:=by rfl)(O:Vis X.env.scope x:=by first|exact Or.inl rfl|exact Or.inr (Or.inl rfl)|exact Or.inr (Or.inr rfl))(hd:(x==("__debug__":Str))=false:=by decide)
  (I:(x==("__classdict__":Str))=false:=by decide):PE X (.Name x pos) (w6 i):=LM M O hd I
end
theorem P4{A B:Prop}(h:B):if false=true then A else B:=by
 rw[if_neg zam];exact h
theorem P5{A B:Prop}(h:A):if true=true then A else B:=by
 rw[if_pos rfl];exact h
def aH(H H':Hp):Prop:=∀b o,H b=some o->H' b=some o
def aH.refl(H:Hp):aH H H:=λ_ _ h=>h
def aH.trans(a:aH H I)(b:aH I M):aH H M:=λc o h=>b c o (a c o h)
theorem aH.free(e:aH H H')(h:H' l=Option.none):H l=Option.none:=by
 cases q:H l with
 |none=>rfl
 |some o=>
  rw[e l o q]at h;cases h
theorem Inv.track{σ:St}{H:Hp}{s:Shared}{D:Addr}{o:HO}(I:Inv X V0 σ H s)(hn:H D=none)(M:X.s₀.heap.objs.size<=D)(O:D≠X.env.locals)
  (U:∀x c,X.env.cells.lookup x=some c->c≠D) (Y:∀p∈X.pn++V0,p.1≠D) (new:bY X.prog X.w (upd H D o) s.heap D o):Inv X V0 σ (upd H D o) s:=by
 have ne:∀b u,H b=some u->b≠D:=λb u e=>d7 e hn
 refine⟨I.ok,I.os,I.bare,⟨I.base.keep,I.base.slot,λb ob e n g=>?_,I.base.there,λb xs e=>?_,λb ob u e=>?_,λb ps e=>?_⟩,I.loc,I.cell,?_,λx c e=>?_,λp q=>?_,λb u e=>?_,I.len⟩
 ·have:b≠D:=zaS (zaF (zaq e) M)
  rw[au this];exact I.base.free b ob e n g
 ·have z:=I.base.tups b xs e
  rw[au<|ne _ _ z];exact z
 ·have z:=I.base.k7 b ob u e
  rw[au<|ne _ _ z];exact z
 ·obtain⟨more,z⟩:=I.base.jU b ps e
  exact⟨more,by rw[au<|ne _ _ z];exact z⟩
 ·rw[au<|Ne.symm O];exact I.free
 ·rw[au<|U x c e];exact I.ic x c e
 ·obtain⟨d,f,h3⟩:=I.pin p q
  exact⟨d,by rw[au<|Y p q];exact f,h3⟩
 ·by_cases a:b=D
  ·subst a;rw[ay]at e;cases e;exact new
  ·rw[au a]at e
   exact(I.hok b u e).stay (λ_ _ _ q=>q) (λc q=>by rw[au<|ne _ _ q];exact q) λc xs _ q=>by rw[au<|ne _ _ q];exact q
def fM(cells:List<|Str×Addr):List (Str×NameKind)->List (Str×Addr)->List (Str×Addr)
 | [],Z1=>Z1
 |(n,k)::r,Z1=>fM cells r (if(k==NameKind.free)=true then(n,(cells.lookup n).getD 0)::Z1 else Z1)
theorem A9{env:Env}:∀(names:List<|Str×NameKind) (I:List<|Str×Addr),(∀y∈names,y.2=.free->∃c,env.cells.lookup y.1=some c)->
  (forIn names I λ(x:Str×NameKind) (r:List<|Str×Addr)=>(if(x.2==NameKind.free)=true then do
    let c<-cellOf env x.1
    pure (ForInStep.yield ((x.1,c)::r))else pure (ForInStep.yield r):Sem<|ForInStep<|List<|Str×Addr))=pure (fM env.cells names I)
 | [],I,_=>rfl
 |(n,k)::r,I,h=>by
  have f:=λa=>A9 (env:=env) r a λy i=>h y (zak _ i)
  rw[List.forIn_cons]
  by_cases hk:k=.free
  ·subst hk
   obtain⟨c,g⟩:=h (n,.free) zas rfl;have b:env.cells.lookup n=some c:=g;have e:cellOf env n=pure c:=by
    unfold cellOf;rw[b]
   show(if(NameKind.free==NameKind.free)=true then _ else _)>>=_=_
   rw[if_pos (by decide),e]
   simp only[pure_bind];rw[f];simp only[fM,b,Option.getD_some];rfl
  ·have d:(k==NameKind.free)=false:=by simpa using hk
   show(if(k==NameKind.free)=true then _ else _)>>=_=_
   rw[d,if_neg zam];simp only[pure_bind];rw[f];simp only[fM,d,Bool.false_eq_true,if_false]
theorem ET(h:∀y∈x0.names,y.2=.free->∃c,env.cells.lookup y.1=some c):closureFor x0 env=pure (fM env.cells x0.names []):=by
 unfold closureFor;have e:=A9 (env:=env) x0.names [] h;simp only[bind_pure];exact e
theorem Ba:∀(names:List<|Str×NameKind) (I:List<|Str×Addr),(∀y∈names,y.2=.free->∃c,cells.lookup y.1=some c)->(∀y c,I.lookup y=some c->cells.lookup y=some c)->
  ∀y c,(fM cells names I).lookup y=some c->cells.lookup y=some c
 | [],_,_,ha=>ha
 |(n,k)::r,I,h,ha=>by
  refine Ba r _ (λy b=>h y<|zak _ b) λy c e=>?_
  by_cases hk:(k==NameKind.free)=true
  ·rw[if_pos hk]at e
   obtain⟨c',f⟩:=h (n,k) zas (by simpa using hk)
   have a:cells.lookup n=some c':=f;rw[a,Option.getD_some]at e;rw[za8]at e
   by_cases b:(y==n)=true
   ·rw[b]at e
    have:y=n:=by simpa using b
    subst this;rw[a];exact e
   ·have d:(y==n)=false:=by simpa using b
    rw[d]at e;exact ha y c e
  ·rw[if_neg hk]at e
   exact ha y c e
theorem nF:∀(names:List<|Str×NameKind) (I:List<|Str×Addr) (y:Str),((y,NameKind.free)∈names\/∃c,I.lookup y=some c)->∃c,(fM cells names I).lookup y=some c
 | [],I,y,h=>by
  rcases h with h|h
  ·cases h
  ·exact h
 |(n,k)::r,I,y,h=>by
  refine nF r _ y ?_;rcases h with h|⟨c,h⟩
  ·rcases zaf h with e|h
   ·cases e
    refine .inr ⟨(cells.lookup n).getD 0,?_⟩;rw[if_pos (by decide),za8]
    simp
   ·exact .inl h
  ·refine .inr ?_
   split
   ·rw[za8]
    cases y==n with
    |true=>exact⟨_,rfl⟩
    |false=>exact⟨c,h⟩
   ·exact⟨c,h⟩
theorem iK(env : Env) : ∀(names : List<|Str×NameKind) (y : Str),
  (names.map λ(n,k)=>if(k==NameKind.free&&env.scope.kind== .function&&env.kindOf n==some .cell)then(n,NameKind.cell)else(n,k)).lookup y
   =(names.lookup y).map λk=>if(k==NameKind.free&&env.scope.kind== .function&&env.kindOf y==some .cell)=true then NameKind.cell else k
 | [],_=>rfl
 |(n,k)::r,y=>by
  have d :=iK env r y;show List.lookup y ((if(k==NameKind.free&&env.scope.kind== .function&&env.kindOf n==some .cell)=true then(n,NameKind.cell)else(n,k))::_)=_
  by_cases c:(y==n)=true
  ·have:y=n:=by simpa using c
   subst this
   by_cases a:(k==NameKind.free&&env.scope.kind== .function&&env.kindOf y==some .cell)=true
   ·rw[if_pos a];simp only[List.lookup_cons,c,Option.map_some,a,if_true]
   ·rw[if_neg a];simp only[List.lookup_cons,c,Option.map_some,a];simp
  ·have b:(y==n)=false:=by simpa using c
   by_cases a:(k==NameKind.free&&env.scope.kind== .function&&env.kindOf n==some .cell)=true
   ·rw[if_pos a];simp only[List.lookup_cons,b];exact d
   ·rw[if_neg a];simp only[List.lookup_cons,b];exact d
def dS(X:Cx)(x0:Scope)(Y:List Str)(O:Shared)(M:Hp)(C:Addr)(fp:List Addr):Cx :=
 {X with N:=Y,s₀:=O,H₀:=M,env:=compEnvC x0 (fM X.env.cells x0.names []) C X.env,outer:=X.stack,ex:=fp,fn:=λ_=>false,pn:=[],xe:=λ_ _=>False}
def b8(x:Str)(fr:List<|Str×Nat):List Str:=x::fr.map (·.1)
def bg(σ:St)(fr:List<|Str×Nat):St:=fr.map λp=>σ.getD p.2 none
structure Blk(X:Cx)(x0:Scope)(x:Str)(fr:List<|Str×Nat):Prop where
 Mj:(x0.names.all λy=>y.2 != .cell)=true
 kind:x0.kind=.function
 names:(x0.names.all λy=>y.2 != .local||x0.names.lookup y.1==some .local)=true
 here:x0.names.lookup x=some .local
 free:(x0.names.all λy=>y.2 != .free||X.env.scope.names.lookup y.1==some .cell)=true
 seen:(fr.all λp=>x0.names.lookup p.1==some .free&&X.N[p.2]? ==some p.1)=true
 nd:(b8 x fr).Nodup
section
variable{X:Cx}{x0:Scope}{x:Str}{fr:List<|Str×Nat}{V0:List<|Addr×Obj}{σ:St}{H:Hp}{s:Shared}
theorem Blk.cell(B:Blk X x0 x fr):∀y∈x0.names,y.2≠.cell:=λy a=>by
 have:=List.all_eq_true.mp B.Mj y a;simpa using this
theorem Blk.loc(B:Blk X x0 x fr):∀y∈x0.names,y.2=.local->x0.names.lookup y.1=some .local:=λy a e=>by
 have:=List.all_eq_true.mp B.names y a;rw[e]at this;simpa using this
theorem Blk.frees(B:Blk X x0 x fr):∀y∈x0.names,y.2=.free->X.env.kindOf y.1=some .cell:=λy a e=>by
 have:=List.all_eq_true.mp B.free y a;rw[e]at this;have h:X.env.scope.names.lookup y.1=some .cell:=by simpa using this
 exact h
def Blk.clos(B:Blk X x0 x fr)(ok:X.Ok):∀y∈x0.names,y.2=.free->∃c,X.env.cells.lookup y.1=some c:=λy a e=>ok.has y.1 (.inl<|B.frees y a e)
theorem Blk.sub(B:Blk X x0 x fr)(ok:X.Ok):∀y c,(fM X.env.cells x0.names []).lookup y=some c->X.env.cells.lookup y=some c :=
 Ba x0.names [] (B.clos ok) λy c e=>by simp at e
theorem Blk.kinds(B : Blk X x0 x fr)(h : (relabel x0 X.env).names.lookup y=some .cell\/(relabel x0 X.env).names.lookup y=some .free) : (y,NameKind.free)∈x0.names :=by
 have e : (relabel x0 X.env).names.lookup y=_ :=iK X.env x0.names y;rw[e]at h;cases q:x0.names.lookup y with
 |none=>rw[q]at h;simp at h
 |some k=>
  have hm:=za5 q;rw[q]at h;have hk:k=.free:=by
   by_cases hk:k=.free
   ·exact hk
   ·have a:(k==NameKind.free)=false:=by simpa using hk
    have b:k≠.cell:=B.cell _ hm;rw[zaT,a,Bool.false_and,Bool.false_and,if_neg zam]at h;rcases h with h|h
    ·exact absurd (zaQ h) b
    ·exact zaQ h
  subst hk;exact hm
theorem Blk.sees(B : Blk X x0 x fr)(hk : X.env.scope.kind= .function)(h : x0.names.lookup y=some .free) : (relabel x0 X.env).names.lookup y=some .cell :=by
 have e : (relabel x0 X.env).names.lookup y=_ :=iK X.env x0.names y;rw[e,h];have a:X.env.kindOf y=some .cell:=B.frees _ (za5 h) rfl;simp[hk,a]
theorem EU(I:Inv X V0 σ H s)(B:Blk X x0 x fr){C:Addr}{fp:List Addr}{tk:Nat}{o:Option V}(Y:s.heap.objs.size<=C)(M:∀b∈fp,jV X V0 H b)(hlt:∀b∈fp,b<s.heap.objs.size)
  (O:∀b ob,s.heap.get? b=some ob->U.get? b=some ob) (hns:U.Ns C λ_=>none):Inv (dS X x0 (b8 x fr) s H C fp) [] (none::bg σ fr) H {s with heap:=U,toks:=tk}:=by
 have A:∀b,b<s.heap.objs.size->b≠C:=λb f=>zaS (zaF f Y)
 have cl:∀y c,X.env.cells.lookup y=some c->c<s.heap.objs.size:=λy c e=>by
  obtain⟨v,o,ho,_⟩:=I.cell y c e;exact zaq ho
 refine⟨⟨I.ok.mod,B.kind,I.ok.glob,I.ok.blt,Y,λy z c n k=>I.ok.inj y z c (B.sub I.ok _ _ n)<|B.sub I.ok _ _ k,λy J=>nF _ _ _<|.inl<|B.kinds J,λy c h _=>(zam h).elim,I.ok.hd,I.ok.frames,.inl rfl,
  λb f=>⟨A b<|hlt b f,λy c e=>(M b f).2.2.2.2.1 y c (B.sub I.ok _ _ e)⟩,I.bs,zaX I.ok.bsz I.sz,λb ob e f=>?_,λb f hs=>?_,I.stack,I.nA,I.tab⟩,
  rfl,I.bare,Un.kept O,⟨_,hns,λi y v n k h3=>?_⟩,λy c e=>?_,I.hok.fresh Y,λy c e=>I.ic y c<|B.sub I.ok _ _ e,λp G=>?_,I.hok.kept O,?_⟩
 ·rcases(M b f).2.2.2.1 with z|z
  ·exact I.ok.zt b ob e z
  ·have n:b<X.base.objs.size:=zaq e
   have k:=I.ok.bsz;exact absurd (zaF n k) (Nat.not_lt.mpr z)
 ·have z:=I.zw b hs
  rcases zaf z with z|z
  ·exact(M b f).2.1 z
  ·exact(M b f).2.2.1 z
 ·cases i with
  |zero=>simp at k
  |succ i=>
   have a:(fr.map (·.1))[i]?=some y:=by
    have z:(x::fr.map (·.1))[i+1]?=some y:=n
    rw[zat]at z;exact z
   have d:(bg σ fr)[i]?=some (some v):=by simpa using k
   rw[zao]at a;unfold bg at d;rw[zao]at d;cases e:fr[i]? with
   |none=>rw[e]at a;cases a
   |some p=>
    rw[e]at a d;have D:p.1=y:=by simpa using a
    have j : σ.getD p.2 none=some v:=by simpa using d
    have hs:=List.all_eq_true.mp B.seen p (zaj e);rw[Bool.and_eq_true]at hs;have g:x0.names.lookup p.1=some .free:=by simpa using hs.1
    have w:X.N[p.2]?=some p.1:=by simpa using hs.2
    rw[D]at g w;have hk:X.env.kindOf y=some .cell:=B.frees _ (za5 g) rfl;have E : σ[p.2]?=some (some v):=by
     rw[List.getD_eq_getElem?_getD]at j;cases q : σ[p.2]? with
     |none=>rw[q]at j;simp at j
     |some z=>rw[q]at j;simp at j;rw[j]
    obtain⟨m,hn,hl⟩:=I.loc;obtain⟨u,r,l⟩:=hl p.2 y v w E (.inr<|.inl hk);refine⟨u,r,.inr ⟨.inl<|B.sees I.ok.kind g,?_⟩⟩;rcases l with⟨z,_⟩|⟨_,c,F,z⟩
    ·rw[hk]at z;cases z
    ·obtain⟨c',t⟩:=nF (cells:=X.env.cells) x0.names [] y (.inl<|za5 g)
     have:=B.sub I.ok _ _ t;rw[F]at this;cases this;obtain⟨ob,ho,hd⟩:=z;exact⟨c,t,ob,O _ _ ho,hd⟩
 ·obtain⟨v,ob,ho,hd⟩:=I.cell y c (B.sub I.ok _ _ e)
  exact⟨v,ob,O _ _ ho,hd⟩
 ·exact absurd (show p∈([]:List<|Addr×Obj)from G) (by simp)
 ·show _=(b8 x fr).length
  simp[b8,bg]
end
def PIf(X:Cx)(M:List Expr)(t:TT):Prop :=
 ∀(V0:List<|Addr×Obj) (s:Shared) (σ:St) (H:Hp) (Q:Bool->Hp->Prop),Inv X V0 σ H s->t σ H Q->
  wpAny (model X.prog X.w) X.A (forIn M true λc r=>if r=true then do let ok<-isTrue c X.env (eval c X.env);pure (ForInStep.yield ok)else pure (ForInStep.yield r)) (TP X V0 σ Q) X.xe s
def Oy:TT:=λ_ H Q=>Q true H
def nG:PIf X [] Oy:=λ_ _ _ H _ I h=>wpAny_tests_nil ⟨H,I,h⟩
def qD(h:PT X c t):PIf X [c] t:=λV0 s σ H Q I a=>wpAny_tests_one (h V0 s σ H Q I a)
def tLC(fr:List<|Str×Nat)(wi:TI)(tc:TT)(te:TE):TE:=fun σ H Q=>wi σ H λJ Y=>∃W:Nat->Nat->List V->Hp->Prop,(∃m,W 0 m [] Y)/\∀i m Z G,W i m Z G->Z.length<sizeLine/\
 ((J.stop i G/\∀D,G D=none->Q (.ref D) (upd G D<|.lst Z))\/
  (J.go i G/\∀v M,J.yld i G v M->tc (some v::bg σ fr) M λb O=>
   if b=true then te (some v::bg σ fr) O λy H5=>∃L,L<m/\W (i+1) L (Z++[y]) H5 else∃L,L<m/\W (i+1) L Z O))
section
variable{X:Cx}
def Ii(h:wpAny M A t Q (λ_ _=>False) s):wpAny M A t Q E s:=za6 h (λ_ _ x=>x) λ_ _ x=>x.elim
theorem C3(J:Nat->Shared->Prop)
  (turn:∀n s,J n s->wpAny (model prog w) A (pyNext it) (λr M=>match r with
   |none=>R (.ok .next) M
   |some v=>wpAny (model prog w) A (letOwnedTupleGo I it v) (λ_ U=>wpAny (model prog w) A (assign I env v) (λ_ Y=>
     wpAny (model prog w) A (forIn ifs true λc r=>if r=true then do let ok<-isTrue c env (eval c env);pure (ForInStep.yield ok)else pure (ForInStep.yield r)) (λok O=>
      if ok=true then wpAny (model prog w) A (eval elt env) (λy s₅=>
       wpAny (model prog w) A (call (.builtin "list.append") [Z1,y]) (λ_ s₆=>∃m,m<n/\J m s₆) (λ_ _=>False) s₅) (λ_ _=>False) O
      else∃m,m<n/\J m O) (λ_ _=>False) Y) (λ_ _=>False) U) (λ_ _=>False) M) (λ_ _=>False) s)
  (n:Nat) (h:J n s):codeAny (model prog w) A (.compLoop (.ListComp elt [⟨I,iter,ifs,0⟩] x0 pos) 0 it Z1 env) R s:=by
 refine codeAny_loop rfl J (λk s' j=>?_) n h
 show wpAny (model prog w) A ((compTurn (.ListComp elt [⟨I,iter,ifs,0⟩] x0 pos) 0 it Z1 env).onRaise λx=>do noteFrame x env;theTreesLotGoes x) _ _ s'
 refine wpAny_noted ?_;rw[compTurn_list];refine zaI (wpAny_standAt<|zaI<|za6 (turn k s' j) (λr M a=>?_) λ_ _ z=>z.elim)
 cases r with
 |none=>exact zaZ a
 |some v=>
  refine zaI (za6 a (λ_ U d=>zaI<|za6 d (λ_ Y e=>zaI<|za6 e (λok O b=>?_) λ_ _ z=>z.elim) λ_ _ z=>z.elim) λ_ _ z=>z.elim)
  cases ok with
  |false=>exact zaZ ⟨rfl,b⟩
  |true=>
   exact zaI (zaI<|za6 b (λy s₅ f=>zaI<|za6 f (λ_ s₆ g=>zaZ<|zaZ ⟨rfl,g⟩) λ_ _ z=>z.elim) λ_ _ z=>z.elim)
theorem Bb{ifs:List Expr}{x0:Scope}{pos ipos:Pos}{fr:List<|Str×Nat}{wi:TI}{tc:TT}{te:TE}(hc:X.calm=true)(B:Blk X x0 x fr)
  (hi:PI X (.Name x px) iter wi) (ht:∀Y O C fp,PIf (dS X x0 (b8 x fr) Y O C fp) ifs tc) (he:∀Y O C fp,PE (dS X x0 (b8 x fr) Y O C fp) elt te)
  (hs:∀v,foldedSetIterable iter X.env v=pure v) {use:Option<|Value->Sem Unit} {U:Value->Shared->Prop} {V0:List<|Addr×Obj} {s:Shared} {σ:St} {H:Hp} {Q:VK} (I:Inv X V0 σ H s) (h:tLC fr wi tc te σ H Q)
  (hend:∀(s2 s6:Shared) (M H5:Hp) (fp:List Addr) (C:Addr) (ys:List V) (ob:Obj) (o:Option V) (ps:List<|Addr×Obj),Inv X V0 σ M s2->(∀b∈fp,jV X V0 M b)->C=s2.heap.objs.size+1->Inv (dS X x0 (b8 x fr) s2 M C fp) ps (o::bg σ fr) H5 s6->s6.heap.get? s2.heap.objs.size=some ob->(∀s':Shared,Inv X V0 σ H5 s'->s'.heap.get? s2.heap.objs.size=some ob->Inv X V0 σ (upd H5 s2.heap.objs.size<|.lst ys) s')->Q (.ref s2.heap.objs.size) (upd H5 s2.heap.objs.size<|.lst ys)->compPost (model X.prog X.w) X.A X.xe use U (.ref s2.heap.objs.size) C (.ok .next) s6) :
  wpAny (model X.prog X.w) X.A (comprehension (.ListComp elt [⟨.Name x px,iter,ifs,0⟩] x0 pos) x0 X.env ipos (newList []) false (eval iter X.env) use) U X.xe s:=by
 have Z:=ET (x0:=x0) (env:=X.env) (B.clos I.ok);refine wpAny_comprehension_free rfl hs Z B.kind B.loc (thn (hi V0 s σ H _ I h) λv s1 h1=>thn h1 λitv s2 h2=>?_)
 obtain⟨it,fp,tn,J,M,rfl,l,T,st2,f2,W,⟨m0,w0⟩,turn⟩:=h2;refine wpAny_newObj_type (wpAny_newFunctionEnv B.cell (by intro y hy;simp at hy) (λd hns q=>?_) B.kind)
 dsimp only at hns q⊢;generalize hG:s2.heap.push {cls:=.type "list",dict:=none,data:=.seq ([]:List Value).toArray}=G at hns q⊢;have hC:G.objs.size=s2.heap.objs.size+1:=by rw[<-hG,Heap.size_push]
 have S:s2.heap.objs.size≠G.objs.size:=by lia
 have old:∀b ob,s2.heap.get? b=some ob->d.get? b=some ob:=λb ob e=>by
  have a:=zaq e;refine q.extBut b ob (zaS (by rw[hC];exact Nat.lt_succ_of_lt a)) (zar _ ?_)
  rw[<-hG];exact zar _ e
 have hacc:d.get? s2.heap.objs.size=some {cls:=.type "list",data:=.seq ([]:List Value).toArray 0}:=by
  refine q.extBut _ _ S (zar _ ?_);rw[<-hG];exact zaL _ rfl
 have hlt:∀b∈fp,b<s2.heap.objs.size:=λb a=>by
  obtain⟨o,e,_⟩:=T.obj 0 _ st2 b a;exact zaq e
 have I4:=EU (tk:=s2.toks+([]:List<|Str×Value).length) (o:=none) l B (show s2.heap.objs.size<=G.objs.size by lia) f2 hlt old hns
 have tn4:tn 0 d:=T.keep 0 _ _ st2 λb _ o e=>old b o e
 have Dfs:s2.heap.objs.size∉frs X.stack:=λz=>by
  obtain⟨_,o,ho,_⟩:=l.stack.mem z;exact absurd (zaq ho) (za3 _)
 have F:∀y c,X.env.cells.lookup y=some c->c≠s2.heap.objs.size:=λy c e=>by
  obtain⟨v,o,ho,_⟩:=l.cell y c e;exact zaS (zaq ho)
 have DL:s2.heap.objs.size≠X.env.locals:=Nat.ne_of_gt l.lt;have K:s2.heap.objs.size∉fp:=λz=>absurd (hlt _ z) (za3 _)
 have E:∀j:Shared,j={s2 with heap:=d,toks:=s2.toks+([]:List<|Str×Value).length}->
   codeAny (model X.prog X.w) X.A (.compLoop (.ListComp elt [⟨.Name x px,iter,ifs,0⟩] x0 pos) 0 (.ref it) (.ref s2.heap.objs.size)<|compEnvC x0 (fM X.env.cells x0.names []) G.objs.size X.env)
    (compPost (model X.prog X.w) X.A X.xe use U (.ref s2.heap.objs.size) G.objs.size) j:=by
  rintro j rfl
  refine C3
   (λn s'=>∃i o H' ys f k,Inv (dS X x0 (b8 x fr) s2 M G.objs.size fp) [] (o::bg σ fr) H' s'/\tn i s'.heap/\(∀b∈fp,H' b=none)/\H' s2.heap.objs.size=none/\
    s'.heap.get? s2.heap.objs.size=some {cls:=.type "list",data:=.seq (f:List Value).toArray k}/\Vals ys f/\W i n ys H') ?_ m0
   ⟨0,none,M,[],[],0,I4,tn4,λb a=>(f2 b a).1,l.hok.fresh<|zap _,hacc,.nil,w0⟩
  rintro n s5 ⟨i,o,H5,ys,f,k,I5,st5,fr5,D5,m,r5,w5⟩
  have R:∀{H':Hp},(∀b∈fp,H' b=none)->∀b∈fp,jV (dS X x0 (b8 x fr) s2 M G.objs.size fp) [] H' b:=λhn b a=>
   ⟨hn b a,(I5.ok.exf b a).1,I5.ok.zu b a,.inl a,(I5.ok.exf b a).2,λp g=>absurd (show p∈([]:List<|Addr×Obj)from g) (by simp)⟩
  have N:∀{H':Hp},H' s2.heap.objs.size=none->jV (dS X x0 (b8 x fr) s2 M G.objs.size fp) [] H' s2.heap.objs.size:=λhn=>
   ⟨hn,S,Dfs,.inr<|zap _,λy c e=>F y c<|B.sub l.ok _ _ e,λp g=>absurd (show p∈([]:List<|Addr×Obj)from g) (by simp)⟩
  obtain⟨hz,alt⟩:=turn i n ys H5 w5;have hzl:f.length<=sizeLine:=by rw[<-r5.length];exact Nat.le_of_lt hz
  rcases alt with⟨stop,fin⟩|⟨go,step⟩
  ·refine thn (T.done (dS X x0 (b8 x fr) s2 M G.objs.size fp) rfl rfl rfl hc i (jW [s2.heap.objs.size] s5.heap) s5 (o::bg σ fr) H5 _ ?_ (λb a=>?_) st5 stop) λr s6 ⟨hr,I6⟩=>?_
   ·exact(Inv.pinned I5 (fp:=[s2.heap.objs.size]) (λb a=>by rw[zad a];exact N D5) λb a=>by
     rw[zad a];exact⟨_,m,λv z=>by cases z⟩)
   ·obtain⟨f0,f1,P,f3,f4,f5⟩:=R fr5 b a
    refine⟨f0,f1,P,f3,f4,λp g=>?_⟩
    have hp':p∈jW [s2.heap.objs.size] s5.heap:=(zae g).elim (λz=>absurd (show p∈([]:List<|Addr×Obj)from z) (by simp)) id
    have:=(oS hp').1;rw[zad this];exact λe=>K (by rw[e];exact a)
   ·subst hr
    refine hend s2 s6 M H5 fp G.objs.size ys _ o _ l f2 hC I6 (I6.pin (s2.heap.objs.size,{cls:=.type "list",data:=.seq f.toArray k})<|zan _<|b7 (by simp) m).1 (λs' I' hd=>I'.track D5 l.sz DL F (λp g z=>?_) ⟨Nat.le_of_lt hz,f,k,r5,hd⟩) (fin _ D5)
    obtain⟨e,_⟩:=l.pin p g;rw[z]at e;exact absurd (zaq e) (za3 _)
  ·refine Ii (thn (T.item (dS X x0 (b8 x fr) s2 M G.objs.size fp) rfl rfl rfl hc i (jW [s2.heap.objs.size] s5.heap) s5 (o::bg σ fr) H5 _ ?_ (λb a=>?_) st5 go) λr s6 ⟨u,hr,h6⟩=>?_)
   ·exact(Inv.pinned I5 (fp:=[s2.heap.objs.size]) (λb a=>by rw[zad a];exact N D5) λb a=>by
     rw[zad a];exact⟨_,m,λv z=>by cases z⟩)
   ·obtain⟨f0,f1,P,f3,f4,f5⟩:=R fr5 b a
    refine⟨f0,f1,P,f3,f4,λp g=>?_⟩
    have hp':p∈jW [s2.heap.objs.size] s5.heap:=(zae g).elim (λz=>absurd (show p∈([]:List<|Addr×Obj)from z) (by simp)) id
    have:=(oS hp').1;rw[zad this];exact λe=>K (by rw[e];exact a)
   ·subst hr
    refine thn h6 λ_ s7 ⟨v,H7,I7,rv,y7,st7,fr7⟩=>?_
    have p7:=I7.pin (s2.heap.objs.size,{cls:=.type "list",data:=.seq f.toArray k}) (zan _<|b7 (by simp) m)
    have hD7:s7.heap.get? s2.heap.objs.size=some {cls:=.type "list",data:=.seq f.toArray k}:=p7.1;have D7:H7 s2.heap.objs.size=none:=p7.2.1;have I7u:Inv (dS X x0 (b8 x fr) s2 M G.objs.size fp) [] (o::bg σ fr) H7 s7:=Inv.fR (V0:=[]) I7;have I8:=Inv.pinned I7u (fp:=s2.heap.objs.size::fp) (λb a=>by
      rcases zaf a with e|a
      ·rw[e];exact N D7
      ·exact R fr7 b a) λb a=>by
      rcases zaf a with e|a
      ·rw[e];exact⟨_,hD7,λv z=>by cases z⟩
      ·exact T.obj _ _ st7 b a
    have hl : Loc (dS X x0 (b8 x fr) s2 M G.objs.size fp).env.scope x := .inl (lookup_relabel_local B.here);have pk:∀{D:St} {H':Hp} {s':Shared},Inv (dS X x0 (b8 x fr) s2 M G.objs.size fp) ([]++jW (s2.heap.objs.size::fp) s7.heap) D H' s'->
      tn (i+1) s'.heap/\(∀b∈fp,H' b=none)/\H' s2.heap.objs.size=none/\s'.heap.get? s2.heap.objs.size=some {cls:=.type "list",data:=.seq f.toArray k}:=fun{D H' s'} I'=>by
     have pD:=I'.pin (s2.heap.objs.size,{cls:=.type "list",data:=.seq f.toArray k}) (zan _<|zan _<|b7 (by simp) hD7)
     refine⟨T.keep _ _ _ st7 λb a ob e=>(I'.pin (b,ob)<|zan _<|zan _<|b7 (zak _ a) e).1,λb a=>?_,pD.2.1,pD.1⟩
     obtain⟨ob,e,_⟩:=T.obj _ _ st7 b a;exact(I'.pin (b,ob)<|zan _<|zan _<|b7 (zak _ a) e).2.1
    refine Ii (thn (u9 (X :=dS X x0 (b8 x fr) s2 M G.objs.size fp) (i :=0) B.nd rfl hl (.inr<|lookup_relabel_local B.here) _ s7 _ H7 v u (fun D H'=>D=some v :: bg σ fr/\H'=H7) I8 rv ⟨rfl,rfl⟩) λ_ s8 ⟨σ8,H8,I9,e1,e2⟩=> ?_)
    subst e1 e2;refine Ii (thn (ht s2 M G.objs.size fp _ s8 _ H8 _ I9<|step v H8 y7) λok s9 ⟨H9,L,t⟩=>?_)
    cases ok with
    |false=>
     rw[if_neg zam]at t;rw[if_neg zam];obtain⟨m',hm,w'⟩:=t;obtain⟨k1,k2,k3,k4⟩:=pk L;exact⟨m',hm,i+1,some v,H9,ys,f,k,Inv.fR (V0:=[]) L,k1,k2,k3,k4,r5,w'⟩
    |true=>
     rw[if_pos rfl]at t;rw[if_pos rfl];refine Ii (thn (he s2 M G.objs.size fp _ s9 _ H9 _ L t) λy' s10 ⟨y,H10,I11,ry,m',hm,w'⟩=>?_)
     obtain⟨k1,k2,k3,k4⟩:=pk I11;refine append_at k4 (λh' hs' hD'=>?_) (by rw[zaK];exact hzl)
     have I12:Inv (dS X x0 (b8 x fr) s2 M G.objs.size fp) [] (some v::bg σ fr) H10 {s10 with heap:=h'} :=
      (Inv.fR (V0:=[]) I11).turned (t':=s10.toks) (it:=s2.heap.objs.size) (λb ob a e=>(hs'.2 b a).trans e) k3 S (.inr<|zap _) (λz c e=>F z c<|B.sub l.ok _ _ e) λp g=>absurd (show p∈([]:List<|Addr×Obj)from g) (by simp)
     refine⟨m',hm,i+1,some v,H10,ys++[y],f++[y'],k+1,I12,T.keep _ _ _ k1 λb a ob e=>(hs'.2 b λz=>K (by rw[<-z];exact a)).trans e,k2,k3,?_,r5.append<|.cons ry .nil,w'⟩
     rw[hD'];simp
 exact codeAny_compStart_list (E _ rfl) (T.self _ 0 _ _ _ tn4<|E _ rfl)
theorem qY(U:X.calm=true)(B:Blk X x0 x fr)
  (hi:PI X (.Name x px) iter wi) (ht:∀O M C fp,PIf (dS X x0 (b8 x fr) O M C fp) ifs tc) (he:∀O M C fp,PE (dS X x0 (b8 x fr) O M C fp) Y te)
  (hs:∀v,foldedSetIterable iter X.env v=pure v:=by intro _;rfl):PE X (.ListComp Y [⟨.Name x px,iter,ifs,0⟩] x0 pos) (tLC fr wi tc te):=by
 intro V0 s σ H Q I h;rw[eval_ListComp];refine Bb U B hi ht he hs I h λs2 A D i fp C P ob o ps F f2 E j t trk p=>?_
 obtain⟨L,y,_⟩:=j.loc;refine⟨L,y,λh' a=>?_⟩
 have r:s2.heap.get? C=none:=by
  cases e:s2.heap.get? C with
  |none=>rfl
  |some ob=>exact absurd (zaq e) (by rw[E];exact Nat.not_lt.mpr (Nat.le_succ _))
 have f:∀b ob,s2.heap.get? b=some ob->b≠C:=λb ob e z=>by rw[z,r]at e;cases e
 have g:Un (frs X.stack) fp D i s2.heap A.heap:=j.base;have N:Un (frs X.stack) fp D i s2.heap h':=⟨λb ob e n d m=>a.extBut b ob (f b ob e)<|g.keep b ob e n d m,λb ob e n d m=>by
   obtain⟨sl,q⟩:=g.slot b ob e n d m;exact⟨sl,a.extBut b _ (f b ob e) q⟩,g.free,λb ob e m=>by
   obtain⟨o',q⟩:=g.there b ob e m;exact⟨o',a.extBut b _ (f b ob e) q⟩,g.tups,g.k7,g.jU⟩
 have l:i C=none:=j.free;have J:HOk X.prog X.w i h':=λb ob e=>(j.hok b ob e).stay (λc u U q=>a.extBut c u (by
   rintro rfl
   rcases U with rfl|U
   ·rw[l]at e;cases e
   ·rw[l]at U;cases U) q) (λ_ q=>q) λ_ _ _ q=>q
 have G:Inv X V0 σ i {A with heap:=h'}:=F.call' (s':={A with heap:=h'}) (j.os) N J j.bare λb d=>⟨(f2 b d).2.2.2.1,(f2 b d).2.1,(f2 b d).2.2.2.2.1,(f2 b d).2.2.2.2.2⟩
 exact⟨.ref s2.heap.objs.size,upd i s2.heap.objs.size<|.lst P,trk _ G (a.extBut _ _ (by rw[E];exact zaS (Nat.lt_succ_self _)) t),rfl,p⟩
end
def tyN(H:Hp):V->String
 | .non=>"NoneType"
 | .bl _=>"bool"
 | .int _=>"int"
 | .str _=>"str"
 | .ref a=>match H a with
  |some (.lst _)=>"list"
  |some (.tup _)=>"tuple"
  |some (.dK _)=>"dict"
  |some (.frz _ (.lst _))=>"list"
  |_=>"?"
 |_=>"?"
def qZ(T n:String):Bool:=T==n||(T=="bool"&&n=="int")
def cN:List String:=["NoneType","bool","int","str","list","tuple","dict"]
def eN:List String:=["bool","int","str","list","tuple","dict"]
theorem uh(K:zag):∀T∈cN,∀n∈eN,PySem.W.kitOne K (.type T) (.type n)=some (qZ T n):=by
 intro T a n hn;simp only[cN,eN,List.mem_cons,List.not_mem_nil,or_false]at a hn;rcases a with rfl|rfl|rfl|rfl|rfl|rfl|rfl<;>rcases hn with rfl|rfl|rfl|rfl|rfl|rfl<;>kernel_rfl
theorem Ml{K:zag}(h:tyN H x∈cN):oW K H x (.type<|tyN H x):=by
 have no : ¬("?"∈cN):=by decide
 cases x with
 |non=>exact .non
 |bl b=>exact .bl b
 |int i=>exact .int i
 |str z=>exact .str z
 |ref a=>
  unfold tyN at h⊢;dsimp only at h⊢;cases e:H a with
  |none=>rw[e]at h;exact absurd h no
  |some o=>
   rw[e]at h;cases o with
   |lst xs=>exact .lst e
   |tup xs=>exact .tup e
   |dK Z0=>exact .dK e
   |frz ob u=>
    cases u with
    |lst xs=>exact .frz e
    |_=>exact absurd h no
   |_=>exact absurd h no
 |_=>exact absurd h no
def Mm(xs:List V)(H:Hp)(Q:VK):Prop:=∃x n,xs=[x,.ty n]/\tyN H x∈cN/\n∈eN/\Q (.bl<|qZ (tyN H x) n) H
section
variable{X:Cx}
theorem q0:dJ X (.builtin "isinstance") Mm:=by
 intro V0 s σ H xs us Q I r h;obtain⟨x,n,rfl,a,b,q⟩:=h;obtain⟨u,v,rfl,c,d⟩:=vals2 r;cases d;exact CY I c (Ml a) (uh X.K _ a _ b) λtk=>⟨.bl _,H,I.tok tk,rfl,q⟩
theorem Ij(hi:IntsAre I ns)(M:I.toArray=intItems xs):preSum (numAt xs) xs.size=ns.sum:=by
 have a:ns=xs.toList.map (·.1):=by
  rw[<-nums_intItems,<-M];exact hi.numsOf.symm
 rw[preSum_eq,List.take_of_length_le (by simp),a]
def Mn(K:zag)(xs:List V)(H:Hp)(Q:VK):Prop:=∃(p:Addr) (ns:List Int),xs=[.ref p]/\SqL K H p (ns.map V.int)/\Q (.int ns.sum) H
theorem EV(M:X.calm=true):dJ X (.builtin "sum") (Mn X.K):=by
 intro V0 s σ H xs us Q I r h;obtain⟨p,ns,rfl,b,q⟩:=h;obtain⟨u,rfl,d⟩:=vals1 r;cases d;obtain⟨e,c,pl,f⟩:=I.list b;have hi:=intsAre_of c;obtain⟨ws,a⟩:=hi.allInts.items;refine sum_intListG (I.ok.hd M) (show s.heap.IsList p (intItems ws)from a▸pl.isList) λh' tk t' hk=>?_
 rw[Ij hi a];exact⟨.int ns.sum,H,I.kept (t':=tk) hk,⟨t',rfl⟩,q⟩
theorem xk:∀{us:List Value},Vals (bs.map V.bl) us->LSm.BoolsAre us bs:=by
 induction bs with
 |nil=>intro us r;rw[List.map_nil]at r;cases r;exact .nil
 |cons b bs a=>
  intro us r;rw[zaz]at r;cases r with
  |cons c d=>
   cases c;exact .cons b (a d)
def Mo(K:zag)(xs:List V)(H:Hp)(Q:VK):Prop:=∃(p:Addr) (bs:List Bool),xs=[.ref p]/\SqL K H p (bs.map V.bl)/\Q (.bl<|bs.all id) H
theorem EW(M:X.calm=true):dJ X (.builtin "all") (Mo X.K):=by
 intro V0 s σ H xs us Q I r h;obtain⟨p,bs,rfl,j,q⟩:=h;obtain⟨u,rfl,l⟩:=vals1 r;cases l;obtain⟨a,k,pl,o⟩:=I.list j;have f:=xk k;have hl:=pl.isList;have c:p<s.heap.objs.size:=by obtain⟨_,e,_⟩:=hl;exact zaq e
 refine call_all_walk (wpAny_pyIter_list hl ?_);refine⟨s.heap.objs.size,[s.heap.objs.size,p],[s.heap.objs.size],a.toArray.size,_,_,λi=>(bs[i]?).getD true,rfl,Walks.list (A:=X.A.in1) (I.ok.hd M) _ p (zaS c) a.toArray,
  ⟨⟨_,zaL _ rfl,rfl,rfl⟩,hl.push _⟩,λi v s' n m g d=>?_,λh' tk hk=>?_⟩
 ·obtain⟨b,e,rfl⟩:=f.get i v (by simpa using g)
  simp only[e,Option.getD_some]at d;exact wpAny_truthy_bool d
 ·have e:((List.range a.toArray.size).all λi=>(bs[i]?).getD true)=bs.all id:=by
   rw[zaK,f.length];exact LSm.range_all bs
  rw[e];exact⟨.bl<|bs.all id,H,I.kept (t':=tk)<|LSm.kept_iter hk,rfl,q⟩
mutual
inductive gX(K:zag)(H:Hp):V->PyData->Prop
 |non:gX K H .non .none
 |bl (b:Bool):gX K H (.bl b) (.bool b)
 |int (i:Int):gX K H (.int i) (.int i)
 |str (x:Str):gX K H (.str x) (.str x)
 |lst {a:Addr} {xs:List V} {ds:List PyData}:SqL K H a xs->iL K H xs ds->gX K H (.ref a) (.list ds)
 |tup {a:Addr} {xs:List V} {ds:List PyData}:SqT K H a xs->iL K H xs ds->gX K H (.ref a) (.tuple ds)
inductive iL(K:zag)(H:Hp):List V->List PyData->Prop
 |nil:iL K H [] []
 |cons {x:V} {xs:List V} {d:PyData} {ds:List PyData}:gX K H x d->iL K H xs ds->iL K H (x::xs) (d::ds)
end
mutual
theorem gX.reads{σ:St}{H:Hp}(I:Inv X V0 σ H s):∀{x:V} {d:PyData},gX X.K H x d->∀{u:Value},RelV x u->∃M,Reads s.heap u d M
 |_,_,.non,_,r=>by cases r;exact⟨_,.none⟩
 |_,_,.bl b,_,r=>by cases r;exact⟨_,.bool b⟩
 |_,_,.int i,_,r=>by obtain⟨t,rfl⟩:=r;exact⟨_,.int i t⟩
 |_,_,.str z,_,r=>by obtain⟨t,rfl⟩:=r;exact⟨_,.str z t⟩
 |_,_,.lst a hd,_,r=>by
  cases r;obtain⟨g,f,pl,_⟩:=I.list a;obtain⟨M,ha⟩:=iL.reads I hd f;obtain⟨o,n,e,c,_,d⟩:=pl;exact⟨_,.list e c d ha⟩
 |_,_,.tup a hd,_,r=>by
  cases r;obtain⟨g,f,pl,_⟩:=I.tuple a;obtain⟨M,ha⟩:=iL.reads I hd f;obtain⟨o,e,c,n,d⟩:=pl;exact⟨_,.tuple e c d ha⟩
theorem iL.reads{σ:St}{H:Hp}(I:Inv X V0 σ H s):∀{xs:List V} {ds:List PyData},iL X.K H xs ds->∀{us:List Value},Vals xs us->∃M,ReadsAll s.heap us ds M
 |_,_,.nil,_,r=>by cases r;exact⟨_,.nil⟩
 |_,_,.cons h t,_,r=>by
  cases r with
  |cons b c=>
   obtain⟨M,ha⟩:=gX.reads I h b;obtain⟨bs,a⟩:=iL.reads I t c;exact⟨_,.cons ha a⟩
end
def Ik(K:zag):R2:=λx y H Q=>∃D G,gX K H x D/\gX K H y G/\SeqAt.shaped D=true/\SeqAt.shaped G=true/\Q (.bl<|PyData.eqv D G) H
def Il(K:zag):R2:=λx y H Q=>∃D G,gX K H x D/\gX K H y G/\SeqAt.shaped D=true/\SeqAt.shaped G=true/\Q (.bl<|!PyData.eqv D G) H
theorem Mp(M:X.A.units+64<cLine):OpR X (compareOp .Eq) (Ik X.K):=by
 intro V0 s σ H x y v u Q I d e h;obtain⟨g,i,ha,a,sa,sb,q⟩:=h;obtain⟨f,b⟩:=ha.reads I d;obtain⟨bs,c⟩:=a.reads I e;exact eq_dataH b c sa sb M ⟨.bl _,H,I,rfl,q⟩
theorem Mq(M:X.A.units+64<cLine):OpR X (compareOp .NotEq) (Il X.K):=by
 intro V0 s σ H x y v u Q I d e h;obtain⟨g,i,ha,a,sa,sb,q⟩:=h;obtain⟨f,b⟩:=ha.reads I d;obtain⟨bs,c⟩:=a.reads I e;exact ne_dataH b c sa sb M ⟨.bl _,H,I,rfl,q⟩
def Im:OpR X (binaryOp .Mult) (rI IntMulOk λi j=>.int<|i*j):=opI λ_ _ _ _ _ _ _ a q=>mul_int q a
def Mr(K:zag)(xs:List V)(H:Hp)(Q:VK):Prop:=(∃p D,xs=[.ref p]/\(SqL K H p D\/SqT K H p D)/\Q (.int D.length) H)\/(∃z,xs=[.str z]/\z.length<=sizeLine/\Q (.int z.length) H)
def C4:dJ X (.builtin "len") (Mr X.K):=vf.or vg
end
structure Top(K:zag)(mg:Str->Option Value)(x:Str)(st:Stmt):Prop where
 ex:∃(f:Addr) (fd:FuncData),Fun K x x st f fd/\mg x=some (.ref f)
structure Def(P:Program)(w:World)(K:zag)(mg:Str->Option Value)(base:Heap)(CX:CXT)(k:Nat)(x:Str)(ps:List Str)(sp:Sp):Prop where
 ex:∃(f:Addr) (fd:FuncData),mD P w K mg base CX k f fd ps sp/\mg x=some (.ref f)/\PySem.W.keepIn K (.ref f)=true/\Binds K fd ps []
section
variable{P:Program}{w:World}{K:zag}{mg:Str->Option Value}{base:Heap}
def Top.mk'{st:Stmt}{f:Addr}{oc:Value}{od an:Option Addr}{osl:Array<|Option Value}{kV doc pm cdv ct:Value}(X:K.In h)(G:h.Ns mainGlobals mg)(a:PySem.W.nsIn K mainGlobals x=some (some<|.ref f))
  (l:K.lookup f=some ⟨oc,od,.func<|PySem.W.fnOf x x (gK st) (dG st) (aL st) .none kV doc pm an cdv ct,osl⟩) (c:PySem.W.codeIn K cdv x=true) (k:PySem.W.keepIn K (.ref f)=true):Top K mg x st :=
 ⟨⟨f,_,Mi l c k,PySem.W.mg_of X G a⟩⟩
theorem Top.def{st:Stmt}{k:Nat}{sp:Sp}(T:Top K mg x st)(S:bq N ps<|aL st)(len:∀vs H Q E,sp vs H Q E->vs.length=ps.length)
  (M:∀(kV doc pm:Value) (an:Option Addr) (cdv ct:Value) (us:List Value),us.length=ps.length->bindArgs (PySem.W.fnOf x x (gK st) (dG st) (aL st) .none kV doc pm an cdv ct) ⟨us,[]⟩=pure (ps.zip us))
  (I:∀(f:Addr) (cdv:Value) (A:Around) (outer:List Env) (s:Shared) (H:Hp) (vs:List V) (Q:VK) (E:XK),dR k (A.deeper<|envOfC x (aL st) s.heap.objs.size f cdv)->sp vs H Q E->
   ∃t,PSs (mV CX0 P w K mg base N x (aL st) f cdv A outer s H E).nox (dG st) t/\t {nx:=λ_ H'=>Q .non H',rt:=Q} (start N vs) H):Def P w K mg base CX0 (k+1) x ps sp:=by
 obtain⟨f,fd,F,m⟩:=T.ex;exact⟨⟨f,fd,F.ok S len<|I f,m,F.kp,F.binds M⟩⟩
theorem vm{ps:List Str}{sp:Sp}{p pos:Pos}{e:Expr}{es:List Expr}{t:TA}(D:Def X.prog X.w X.K X.mg X.base CX0 k x ps sp)(Y:dR k X.A)(ha:PA X (e::es) t)(U:Gl X x:=by rfl)
  (I:(x==("__debug__":Str))=false:=by decide) (O:starEach (e::es) X.env=(false,eval e X.env)::starEach es X.env:=by rfl) (M:(backTo pos<|starEach es X.env).any (·.1)=false:=by rfl) :
  PE X (.Call (.Name x p) (e::es) [] pos) (i6 sp [] E0 t):=by
 obtain⟨f,fd,F,m,kp,b⟩:=D.ex;exact AZ F Y U m kp b .nil Kz ha I O M
theorem vn{ps:List Str}{sp:Sp}{p pos:Pos}(D:Def X.prog X.w X.K X.mg X.base CX0 k x ps sp)(O:dR k X.A)(M:Gl X x:=by rfl)
  (I:(x==("__debug__":Str))=false:=by decide):PE X (.Call (.Name x p) [] [] pos) (i6 sp [] E0 qW):=by
 obtain⟨f,fd,F,m,kp,b⟩:=D.ex;exact EI F O M m kp b .nil Kz I
end
open PySem.W in
theorem qe:∀(ns:List Int) (n:Int),n∈ns->Builtin.Int.intBits n<=WData.weightAll (ns.map WData.int)
 |m::r,n,h=>by
  rw[zaz];have e:WData.weightAll (WData.int m::r.map WData.int)=WData.weight (.int m)+1+WData.weightAll (r.map WData.int):=by simp only[WData.weightAll]
  rw[e];rcases zaf h with rfl|h
  ·have:Builtin.Int.intBits n=WData.weight (.int n):=by simp only[WData.weight,Builtin.Int.intBits]
   lia
  ·have:=qe r n h
   lia
open PySem.W in
theorem xl{ns:List Int}(h:WData.layableAll [WData.list<|ns.map WData.int]=true):∀n∈ns,Builtin.Int.intBits n<=1048576:=λn hn=>by
 have a:(WData.list<|ns.map WData.int).layable=true:=PySem.W.layableW_arg h _ (by simp)
 have b:=(PySem.W.layableW_iff.mp a).2.2;have h3:WData.weight (.list<|ns.map WData.int)=WData.weightAll (ns.map WData.int):=by simp only[WData.weight]
 have h4:=qe ns n hn;have c:(2:Nat)^20=1048576:=by decide
 lia
open PySem.W PySem.Calls in
theorem Io{l:OpenLaw}{M:List Str}{XP:(Str->Option Value)->Heap->Prop}{YP:World->Heap->Prop}{d:DefRec}
  (hn:l.most=some n) (U:d.params.defaults=[])
  (call:∀(w:World) (s₀ I:Shared) (mg mb:Str->Option Value) (O a:Addr) (vs:List Value) (ns:List Int),
   Ground q M [] XP w s₀ mg mb I.heap->YP w I.heap->mg d.name=some (.ref O)->
   I.heap.get? a=some {cls:=.type "list",data:=.seq vs.toArray}->IntsAre vs ns->ns.length<=n->(∀k∈ns,Builtin.Int.intBits k<=1048576)->I.gens=#[]->
   codeAny (model l.prog w) callerA (.call (.ref O) ⟨[.ref a],[]⟩) (λr s'=>r=.ok (.ret<|.bool true)/\OldK I.heap s'.heap/\s'.os=I.os/\AllBare s'.gens) I) :
  WalkO q M XP YP l.row.toRowW d [] (λf vs=>PySem.call f vs):=by
 intro w s₀ I mg mb G Y O o pm B doc dV kV ho hd u t i v args m p h c A j x;obtain rfl:dV=.none:=Dflts.none t U;obtain⟨a,vs,ns,rfl,rfl,g,b,e⟩:=Att.C1 hn h j;refine enter_call (codeAny_mono (call w s₀ I mg mb O a vs ns G Y i g b e (xl c) v) λr s' y=>?_)
 obtain⟨rfl,s,h3,h4⟩:=y;exact⟨.inl ⟨.bool true,.bool true,[],rfl,λ_=>rfl,.bool true,Att.C2 l _,λ_=>⟨List.Pairwise.nil,λ_ hm=>(nomatch hm)⟩⟩,s,h3,h4⟩
def EX(K:zag):Sp:=λvs H Q _=>∃(a:Addr) (ns:List Int),vs=[.ref a]/\SqL K H a (ns.map V.int)/\ns.length<=63/\(∀k∈ns,Builtin.Int.intBits k<=1048576)/\∀H',Q (.bl true) H'
theorem EY{l:PySem.W.OpenLaw}{I:List Str}{XP:(Str->Option Value)->Heap->Prop}{O:World->Heap->Prop}{d:DefRec}{K:Params->zag}{x:Str}{st:Stmt}
  (hn:l.most=some 63) (M:d.params.defaults=[]) (hr:dR k callerA) (U:∀(w:World) (h:Heap),O w h->(K w.params).In h/\∀c T ps,gW (K w.params)=some (c,T,ps)->h.get? T=some (PySem.W.tabObj #[]))
  (hb:∀(kV doc pm:Value) (an:Option Addr) (cdv ct u:Value),bindArgs (PySem.W.fnOf d.name d.name (gK st) (dG st) (aL st) .none kV doc pm an cdv ct) ⟨[u],[]⟩=pure [(x,u)])
  (F:∀(w:World) (mg:Str->Option Value) (h:Heap),(K w.params).In h->h.Ns mainGlobals mg->Top (K w.params) mg d.name st/\
   ∀(f:Addr) (fd:FuncData),Fun (K w.params) d.name d.name st f fd->∀base:Heap,(K w.params).In base->base.Ns mainGlobals mg->mD l.prog w (K w.params) mg base CX0 k f fd [x] (EX<|K w.params)) :
  PySem.W.WalkO q I XP O l.row.toRowW d [] (λf vs=>PySem.call f vs):=by
 refine Io hn M λw s₀ y mg mb J a vs ns G Y r n j i B E=>?_
 obtain⟨v,o⟩:=U w _ Y;obtain⟨T,A⟩:=F w mg _ v G.T.g;obtain⟨f,fd,t,m⟩:=T.ex;have e:=m.symm.trans r;cases e;have p:∀(s:Shared) (u:Value),BindsTo s fd ⟨[u],[]⟩ [(x,u)]:=by
  obtain⟨oc,od,kV,doc,pm,an,cdv,ct,osl,rfl,lk,D⟩:=t.ex;exact λs u=>.of_eq (hb kV doc pm an cdv ct u)
 exact ES v o G.T.g G.T.b G.T.builtins G.T.nolimit G.T.bmain E n j (zaX i (by decide)) hr (A _ fd t) p (λH L C=>⟨a,ns,rfl,C,i,B,λ_=>rfl⟩) λH e s' h=>h
section
variable{σ:St}{H:Hp}{Q:VK}{K:zag}{fr:List<|Str×Nat}
instance:Inhabited V:=⟨.non⟩
end
theorem jA(h:H p=none):aH H (upd H p o):=λb u e=>by rw[au<|d7 e h];exact e
theorem EZ{pos:Pos}(hm:X.mg x=none)(M:bootBuiltins x=some (.type n))(I:Gl X x:=by rfl)(hn:x≠"__name__":=by decide)(hd:(x==("__debug__":Str))=false:=by decide):PE X (.Name x pos) (tC<|.ty n) :=
 HL I hm M (show RelV (.ty n) (.type n)from rfl) hn hd
section
variable{X:Cx}
theorem xm{Y:List Expr}{x0:Scope}{pos spos:Pos}{fr:List<|Str×Nat}{wi:TI}{tc:TT}{te:TE}{i0:Nat}(hc:X.calm=true)(hN:X.N.Nodup)(hi0:X.N[i0]?=some y)(hx0:Loc X.env.scope y)(B:Blk X x0 x fr)
  (hi:PI X (.Name x px) iter wi) (ht:∀O M C fp,PIf (dS X x0 (b8 x fr) O M C fp) Y tc) (he:∀O M C fp,PE (dS X x0 (b8 x fr) O M C fp) elt te)
  (hsw:swapsWith (.ListComp elt [⟨.Name x px,iter,Y,0⟩] x0 pos) (some<|.Name y py) spos.line X.env=pure true:=by rfl)
  (hf0:X.fn y=true\/X.env.scope.names.lookup y=some .local:=by first|exact .inl rfl|exact .inr rfl|assumption)
  (hs:∀v,foldedSetIterable iter X.env v=pure v:=by intro _;rfl):PS X (.Assign [.Name y py] (.ListComp elt [⟨.Name x px,iter,Y,0⟩] x0 pos) spos) (xa (tLC fr wi tc te)<|ll i0):=by
 intro V0 s σ H Z I h;rw[exec_Assign_Name_used _ _ _ _ hsw];refine zaI (wpAny_standAt<|zaI ?_);show wpAny _ X.A (do let _<-comprehension (.ListComp elt [⟨.Name x px,iter,Y,0⟩] x0 pos) x0 X.env _ (newList []) false (eval iter X.env) (some<|assign (.Name y py) X.env)) _ _ s
 refine zaI (za6 (Bb (use:=some<|assign (.Name y py) X.env) (U:=λ_ s'=>SP X V0 Z .next s') hc B hi ht he hs I h λs2 f H2 c fp C m ob o ps Q f2 W d E trk r=>?_) (λ_ s' hq=>zaZ<|zaZ hq) λ_ _ e=>e)
 obtain⟨m6,G,_⟩:=d.loc;have u6:Un (frs X.stack) fp H2 c s2.heap f.heap:=d.base;have t:c C=none:=d.free;have w:C≠s2.heap.objs.size:=by rw[W];exact Nat.succ_ne_self _
 have I7:Inv X V0 σ c f:=Q.call' (s':=f) (d.os) u6 d.hok d.bare λb a=>⟨(f2 b a).2.2.2.1,(f2 b a).2.1,(f2 b a).2.2.2.2.1,(f2 b a).2.2.2.2.2⟩
 have I8:Inv X V0 σ (upd c s2.heap.objs.size<|.lst m) f:=trk f I7 E;have F:s2.heap.objs.size<C:=by rw[W];exact Nat.lt_succ_self _
 have D:upd c s2.heap.objs.size (.lst m) C=none:=by rw[au w];exact t
 obtain⟨g0,g1,g2,S,T,V⟩:=Q.tj (H':=upd c s2.heap.objs.size<|.lst m) (Nat.le_of_lt F) D;obtain⟨L,q,p,l,R⟩:=id G;have I9:=Inv.pinned I8 (fp:=[C]) (λb a=>by
  rw[zad a];exact⟨g0,g1,g2,S,T,V⟩) λb a=>by
  rw[zad a];refine⟨L,l,λv z=>?_⟩
  have dd:=R;simp[z]at dd
 refine thn (u9 (X:=X) (i:=i0) hN hi0 hx0 hf0 _ f σ _ (.ref s2.heap.objs.size) (.ref s2.heap.objs.size) (fun P H'=>P=σ.set i0 (some<|.ref s2.heap.objs.size)/\H'=upd c s2.heap.objs.size (.lst m)) I9 rfl ⟨rfl,rfl⟩) λ_ s8 ⟨σ8,H8,g,e1,e2⟩=>?_
 subst e1 e2;have u:=(g.pin (C,L)<|zan _<|zan _<|b7 (by simp) l).1
 refine⟨m6,⟨L,q,p,u,R⟩,λh' J=>?_⟩
 exact⟨_,_,(Inv.fR (V0:=V0) g).turned (t':=s8.toks) (it:=C) (λb ob a e=>J.extBut b ob a e) g0 g1 S T V,r⟩
end
section
variable{X:Cx}
theorem E6{σ:St}{H:Hp}{Q:VK}{M:List V}(I:Inv X V0 σ H s)(O:M.length<=sizeLine)(q:∀l,H l=none->Q (.ref l) (upd H l<|.lst M))
  {l:Addr} (hl:s.heap.objs.size<=l) {h':Heap} {k c:Nat} {Z1:Array Value} (kp:∀b o,s.heap.get? b=some o->h'.get? b=some o) (ho:h'.get? l=some {cls:=.type "list",dict:=none,data:=.seq Z1 c,slots:=#[]}) (U:Vals M Z1.toList) :
  EP X V0 σ Q (.ref l) {s with heap:=h',toks:=k} :=
 ⟨.ref l,_,I.laid kp hl (show bY X.prog X.w _ h' _ (.lst M)from⟨O,Z1.toList,c,U,by simpa using ho⟩),rfl,q _<|I.hok.fresh hl⟩
end
section
variable{prog:Program}{w:World}{A:Around}{E:Value->Shared->Prop}{s:Shared}
theorem ui(I:t≠it):∀(n i:Nat) (s:Shared) (Q:List Value->Shared->Prop),s.heap.IsListIter it t i->s.heap.IsList t items->i+n<=items.size->
  (∀h':Heap,h'.IsListIter it t (i+n)->Heap.SameBut it s.heap h'->Q ((items.toList.drop i).take n) {s with heap:=h'})->wpAny (model prog w) A (draw (.ref it) n) Q E s
 |0,i,s,Q,a,_,_,f=>by
  show wpAny _ _ (pure []) Q E s;exact zaZ (by simpa using f s.heap a (Heap.SameBut.refl ..))
 |n+1,i,s,Q,a,h,k,f=>by
  have d:i<items.size:=by lia
  show wpAny _ _ (pyNext (.ref it)>>=_) Q E s;refine zaI (wpAny_pyNext_list_item a h (x:=items[i]) (by simp[d]) λl b e=>?_)
  refine zaI (wpAny_holding<|ui I n (i+1) _ _ b (h.extBut e.extBut I) (by lia) λj c g=>zaZ ?_)
  have hd:items.toList.drop i=items[i]::items.toList.drop (i+1):=by simp[List.drop_eq_getElem_cons,d]
  have:=f j (by rw[show i+(n+1)=i+1+n by lia];exact c) (e.trans g)
  rw[hd,List.take_succ_cons]at this;exact this
theorem qx(O:A.handled=none)(I:s.heap.IsList t items)
  (M:∀h',Heap.ExtBut s.heap.objs.size s.heap h'->Q items.toList {s with heap:=h'}):wpAny (model prog w) A (unpackItems (.ref t) items.size none) Q E s:=by
 have d:t≠s.heap.objs.size:=by obtain⟨o,ho,_⟩:=I;exact zaS (zaq ho)
 unfold unpackItems;refine zaI ?_
 ·unfold notIterableAtAll
  refine zaI (wpAny_specialOf I.typeIs slot_list_iter.lookup ?_);refine zaZ ?_;simp only[Bool.false_eq_true,if_false];refine zaI (wpAny_holding<|wpAny_pyIter_list I ?_);refine zaI (wpAny_holding<|ui d items.size 0 _ _ ⟨_,zaL _ rfl,rfl,rfl⟩ (I.push _) (by lia) λj c f=>?_)
  have a:List.take items.size (List.drop 0 items.toList)=items.toList:=by
   rw[List.drop_zero];exact List.take_of_length_le (by simp)
  rw[a];rw[if_neg (by simp)]
  have h:j.IsList t items:=(I.push _).extBut f.extBut d;refine zaI (wpAny_holding<|wpAny_pyNext_list_end O c h (by simp) λk g=>?_)
  simp only[Option.isSome_none,Bool.false_eq_true,if_false];refine zaZ (M k λb o i e=>g b o i<|f.extBut b o i<|zar _ e)
theorem oX(O:A.handled=none)(U:s.heap.IsList t items)
  (hn:(assignEach I env).length=items.size) (M:(assignEach I env).findIdx? (·.1)=none)
  (h:∀h',Heap.ExtBut s.heap.objs.size s.heap h'->wpAny (model prog w) A (assignInOrder ((assignEach I env).map (·.2)) items.toList) Q E {s with heap:=h'}) :
  wpAny (model prog w) A (assign (.Tuple I Y pos) env<|.ref t) Q E s:=by
 rw[assign_Tuple];refine zaI (wpAny_standAt ?_);unfold unpack;rw[hn,M];exact zaI (wpAny_holding<|qx O U h)
end
variable{X:Cx}
def KC(K:zag)(n:Nat)(t:TGs):TG:=λv σ H Q=>∃a xs,v=.ref a/\(SqT K H a xs\/SqL K H a xs)/\xs.length=n/\t xs σ H Q
theorem Ip{k:Nat}{pos:Pos}{t:TGs}{n:Nat}(O:X.calm=true)(h:PGs X es t)
  (hn:(assignEach es X.env).length=n:=by rfl) (M:(assignEach es X.env).findIdx? (·.1)=none:=by rfl):PG X (.Tuple es k pos) (KC X.K n t):=by
 intro V0 s σ H v u Q I r f;obtain⟨a,xs,m,c,hl,f⟩:=f;subst m;cases r;rcases c with c|c
 ·obtain⟨l,d,i,p⟩:=I.tuple c
  refine assign_Tuple_tuple (I.ok.hd O) i (by simp[hn,<-hl,d.length]) M λh' j=>?_
  have g:Inv X V0 σ H {s with heap:=h'}:=I.kept (t':=s.toks) λb o e=>j b o (zaS<|zaq e) e
  exact h V0 _ σ H xs _ Q g (by simpa using d) f
 ·obtain⟨l,d,i,p⟩:=I.list c
  refine oX (I.ok.hd O) i.isList (by simp[hn,<-hl,d.length]) M λh' j=>?_
  have g:Inv X V0 σ H {s with heap:=h'}:=I.kept (t':=s.toks) λb o e=>j b o (zaS<|zaq e) e
  exact h V0 _ σ H xs _ Q g (by simpa using d) f
end L2
namespace L2
open PySem.Spec PyProof.Rows
structure Bc(P:Program)(w:World)(outer:List Env)(H:Hp)(s:Shared)(E:XK)(ea t:Addr)(cls:Value)(B:Heap)(H':Hp)(s':Shared):Prop where
 os:s'.os=s.os
 bare:AllBare s'.gens
 fly:Heap.FlyingW B outer ea cls (.ref t) s'.heap
 keep:∀b o,s.heap.get? b=some o->H b=none->b∉frs outer->B.get? b=some o
 there:∀b o,s.heap.get? b=some o->b∉frs outer->∃o',B.get? b=some o'
 slot:∀b o,s.heap.get? b=some o->b∈frs outer->H b=none->∃sl,s'.heap.get? b=some {o with slots:=sl}
 free:∀b o,s.heap.get? b=some o->H b=none->H' b=none
 tups:∀b xs,H b=some (.tup xs)->H' b=some (.tup xs)
 k7:∀b o u,H b=some (.frz o u)->H' b=some (.frz o u)
 jU:∀b ps,H b=some (.tbl ps)->∃more,H' b=some (.tbl<|ps++more)
 hok:HOk P w H' B
 wish:E cls none H'
def CXW(P:Program)(w:World):CXT:=λouter H s E e s'=>∃ea t cls B H',e=.ref ea/\Bc P w outer H s E ea t cls B H' s'
def Bd(X:Cx)(cls:Value)(W:Hp->Prop):Prop:=∀(V0:List<|Addr×Obj) (σ:St) (H:Hp) (s:Shared) (e:Addr) (h':Heap) (vs:List Value),Inv X V0 σ H s->Heap.MadeExcOf s.heap h' e cls vs->W H->X.xe (.ref e) {s with heap:=h'}
def E7(W:Hp->Prop)(t:TA):TS:=λ_ σ H=>t σ H λvs D=>vs.length<=100/\W D
theorem Iq{K:zag}{O:List Value}{M:String}(X:K.In I)(q:PySem.W.excIn K C O M=true) :
  ∃bm N nm q bs hdct sn sub ab col dd k0 k1 k2 k3 k5 mN,I.get? C=some (excClassObj nm q C N bs bm hdct sn sub ab col dd k0 k1 k2 k3 k5 M)/\I.Ns N mN/\mN "__init__"=none/\OwnTail I O bm:=by
 unfold PySem.W.excIn at q;split at q
 ·rename_i dd d sl ho
  split at q
  ·rename_i h bm k0 k1 k2 k3 n k5 hm hs
   simp only[Bool.and_eq_true,beq_iff_eq,Bool.not_eq_true']at q;obtain⟨⟨⟨⟨⟨rfl,rfl⟩,a⟩,f⟩,hok⟩,b⟩:=q;obtain⟨nm,bs,mro,ns,g,hd,sn,sub,ab,col,e⟩:=d;dsimp only at hm a hok b;subst hm a;have c:sl=#[k0,k1,k2,k3,some<|.builtin n,k5]:=by
    obtain⟨l⟩:=sl;simp only at hs;rw[hs]
   subst c;exact⟨bm,ns,nm,g,bs,hd,sn,sub,ab,col,dd,k0,k1,k2,k3,k5,_,X _ _ ho,.of_isNs<|PySem.W.isNs_of_in X hok,PySem.W.nsMap_none_of_in X hok b,PySem.W.tail_of_in X f⟩
  ·cases q
 ·cases q
section
variable{X:Cx}
theorem E8{bm:List Value}{np Q2 pos:Pos}{e:Expr}{es:List Expr}{t:TA}{W:Hp->Prop}(hc:X.calm=true)(hg:Gl X x)(hm:X.mg x=some (.ref C))(hq:PySem.W.excIn X.K C bm M=true)
  (FB:ExcBaseFacts Bn M O bm) (hx:Bd X (.ref C) W) (ha:PA X (e::es) t) (U:(x==("__debug__":Str))=false:=by decide)
  (he:starEach (e::es) X.env=(false,eval e X.env)::starEach es X.env:=by rfl) (Y:(backTo Q2<|starEach es X.env).any (·.1)=false:=by rfl) :
  PS X (.Raise (some<|.Call (.Name x np) (e::es) [] Q2) none pos) (E7 W t):=by
 intro V0 s σ H D I h;obtain⟨tl,N,nm,q,bs,hdct,sn,sub,ab,col,dd,k0,k1,k2,k3,k5,mN,m,o,g,T⟩:=Iq I.mod.kin hq;refine wpAny_Raise_call_subT (C:=C) (nm:=nm) (q:=q) (N:=N) (bs:=bs) (bm:=tl) (hdct:=hdct) (sn:=sn) (sub:=sub) (ab:=ab) (col:=col) (dd:=dd) (k0:=k0) (k1:=k1) (k2:=k2) (k3:=k3) (k5:=k5)
  FB (mN:=mN) (T.hasType FB.hasBase) (I.ok.hd hc) (by rw[he];show(false||(backTo Q2<|starEach es X.env).any (·.1))=false;rw[Y];rfl) g (nC I hg hm ⟨rfl,?_⟩ U)
 have i:=ha Q2 V0 s σ H _ I h;rw[he]at i⊢;refine Calls.evalArgs_plain (za6 i (λvs b a=>?_) λ_ _ y=>y)
 obtain⟨us,j,d,p,hl,w1⟩:=a;exact⟨rfl,by rw[<-p.length];exact zaX hl (by simp only[sizeLine];lia),d.bk _ _ m,o.keeps d.bk,T.keeps d.bk,λh' l f=>hx V0 σ j b l h' vs d f w1⟩
theorem tw{K:zag}{mg:Str->Option Value}{base:Heap}{N:List Str}{W1:Str}{x0:Scope}{f:Addr}{M:Value}{A:Around}{outer:List Env}{s₀:Shared}{H₀:Hp}{E:XK}{cls:Value}
  (hk:x0.kind=.function) (hex:(envOfC W1 x0 s₀.heap.objs.size f M).frame=some s₀.heap.objs.size):Bd (mV (CXW P w) P w K mg base N W1 x0 f M A outer s₀ H₀ E) cls (λH'=>E cls none H'):=by
 intro V0 σ H s e h' vs I y D;have g:∀b:Addr,b∉(mV (CXW P w) P w K mg base N W1 x0 f M A outer s₀ H₀ E).ex:=λb z=>absurd (show b∈([]:List Addr)from z) (by simp)
 have i:=I.stack;have m:(mV (CXW P w) P w K mg base N W1 x0 f M A outer s₀ H₀ E).stack=envOfC W1 x0 s₀.heap.objs.size f M::outer:=rfl;rw[m]at i;have p:=I.ok.frames;have l:∀env∈(envOfC W1 x0 s₀.heap.objs.size f M::outer),∀b,env.frame=some b->b∈frs (envOfC W1 x0 s₀.heap.objs.size f M::outer):=λenv h b a=>List.mem_filterMap.mpr ⟨env,h,a⟩
 have r:∀b∈frs (envOfC W1 x0 s₀.heap.objs.size f M::outer),H b=none:=λb a=>I.nA b a
 show wpAny _ _ (leaving _<|.ref e) _ _ _;refine wpAny_leaves_madeW (base:=PySem.W.hideAll s.heap<|frs (envOfC W1 x0 s₀.heap.objs.size f M::outer)) p hex (λb o q=>PySem.W.of_hideAll _ q) (PySem.W.funFrames_hide i l) y λL t G R x3 J=>?_
 have sub:∀b∈frs outer,b∈frs (envOfC W1 x0 s₀.heap.objs.size f M::outer):=λb a=>by
  obtain⟨env,h,j⟩:=List.mem_filterMap.mp a;exact l env (zak _ h) b j
 have out:∀b o,s₀.heap.get? b=some o->b∉frs outer->b∉frs (envOfC W1 x0 s₀.heap.objs.size f M::outer):=λb o q a hm=>by
  obtain⟨env,h,j⟩:=List.mem_filterMap.mp hm;rcases zaf h with rfl|h
  ·rw[hex]at j
   cases j;exact absurd (zaq q) (za3 _)
  ·exact a (List.mem_filterMap.mpr ⟨env,h,j⟩)
 refine⟨e,t,cls,_,H,rfl,⟨I.os,I.bare,G,λb o q n a=>?_,λb o q a=>?_,λb o q a n=>?_,λb o q n=>?_,I.base.tups,I.base.k7,I.base.jU,λb u q=>?_,D⟩⟩
 ·exact PySem.W.hideAll_get _ (I.base.keep b o q n a<|g b) (out b o q a)
 ·obtain⟨o',d⟩:=I.base.there b o q (g b)
  exact⟨o',PySem.W.hideAll_get _ d<|out b o q a⟩
 ·obtain⟨sl,d⟩:=I.base.slot b o q n a (g b)
  obtain⟨_,Q,B,hd⟩:=i.mem (sub b a);rw[d]at B;cases B;obtain⟨x,F⟩:=J b _ (y.keeps b _ d) hd;exact⟨x,F⟩
 ·exact I.base.free b o q n (g b)
 ·refine(I.hok b u q).stay (λc v C d=>PySem.W.hideAll_get _ d λhm=>?_) (λ_ d=>d) λ_ _ _ d=>d
  have hn:=r c hm;rcases C with z|z
  ·rw[z,q]at hn;cases hn
  ·rw[z]at hn;cases hn
theorem bY.is(x:bY P w H h a o):∃u,h.get? a=some u:=by
 induction o with
 |lst xs=>obtain⟨z,l,n,r,e⟩:=x;exact⟨_,e⟩
 |tup xs=>first|(obtain⟨z,l,r,ob,e,c⟩:=x;exact⟨_,e⟩)|(obtain⟨z,l,r,⟨ob,e,c⟩,_⟩:=x;exact⟨_,e⟩)
 |dK Z0=>obtain⟨z,y,vs,r,ob,es,m,e,c⟩:=x;exact⟨_,e⟩
 |dT Z0=>obtain⟨z,y,xs,r,ob,es,m,e,c⟩:=x;exact⟨_,e⟩
 |set S n=>obtain⟨ob,es,m,t,e,c⟩:=x;exact⟨_,e⟩
 |ins C dx fs=>obtain⟨_,_,_,e,_⟩:=x;exact⟨_,e⟩
 |own _=>exact x
 |xd fs=>obtain⟨_,⟨_,_,_,e,_⟩,_⟩:=x;exact⟨_,e⟩
 |rng lo hi=>obtain⟨_,_,_,e⟩:=x;exact⟨_,e⟩
 |frz ob u=>obtain⟨e,_⟩:=x;exact⟨_,e⟩
 |tbl ps=>
  rcases x with⟨_,_,_,_,_,_,_,_,p,e,_⟩|⟨_,_,e,_⟩
  ·cases p;exact⟨_,e⟩
  ·exact⟨_,e⟩
 |met f y=>exact⟨_,x⟩
 |ext φ=>obtain⟨_,e,_⟩:=x;exact e
theorem bY.OA(x:bY P w H h a<|.tup xs):xs.length<=sizeLine/\∃I:List Value,Vals xs I/\IsTup h a I.toArray:=by
 first|exact x|(obtain⟨z,I,r,p,_⟩:=x;exact⟨z,I,r,p⟩)
theorem Bc.inv{σ:St}{s s':Shared}{E:XK}{ea t:Addr}{cls:Value}{B O:Heap}(M:Bc X.prog X.w X.stack H s E ea t cls B H' s')(I:Inv X V0 σ H s)(f2:Heap.FlyingW B X.stack ea cls (.ref t) O)(U:s'.heap.UpToSlots O) :
  Inv X V0 σ H' {s' with heap:=O}:=by
 refine I.call' (ch:=[]) M.os ⟨λb o q n a _=>f2.1 b o<|M.keep b o q n a,λb o q n a _=>?_,λb o q n _=>M.free b o q n,λb o q _=>?_,M.tups,M.k7,M.jU⟩ (M.hok.kept f2.1) M.bare (λb z=>absurd z (by simp))
 ·obtain⟨sl,f⟩:=M.slot b o q a n
  obtain⟨_,u,h,hd⟩:=M.fly.2.2.1.mem a;rw[f]at h;cases h;obtain⟨l,m⟩:=U b _ f hd;exact⟨l,m⟩
 ·by_cases a:b∈frs X.stack
  ·obtain⟨sl,f⟩:=M.slot b o q a (I.nA b a)
   obtain⟨_,u,h,hd⟩:=M.fly.2.2.1.mem a;rw[f]at h;cases h;obtain⟨l,m⟩:=U b _ f hd;exact⟨_,m⟩
  ·obtain⟨o',f⟩:=M.there b o q a
   exact⟨o',f2.1 b o' f⟩
end
def Cx.mkd(X:Cx)(e:Addr):Cx:={X with A:=X.A.mark<|some<|.ref e,calm:=false,xe:=λ_ _=>False}
def Cx.inX(X:Cx)(e:Addr)(M:Obj):Cx:={X with A:=X.A.mark<|some<|.ref e,calm:=false,pn:=(e,M)::X.pn,xe:=λ_ _=>False}
section
variable{X:Cx}{V0:List<|Addr×Obj}{σ:St}{H:Hp}{s:Shared}{e:Addr}{oe:Obj}
theorem Cx.Ok.mkd(ok:X.Ok):(X.mkd e).Ok:=⟨ok.mod,ok.kind,ok.glob,ok.blt,ok.above,ok.inj,ok.has,ok.cab,λh=>absurd (show false=true from h) zam,ok.frames,ok.stk,ok.exf,ok.bs,ok.bsz,ok.zt,ok.zu,ok.oP,ok.frf,ok.tab⟩
theorem Inv.mkd(I:Inv X V0 σ H s):Inv (X.mkd e) V0 σ H s:=⟨I.ok.mkd,I.os,I.bare,I.base,I.loc,I.cell,I.free,I.ic,I.pin,I.hok,I.len⟩
theorem Cx.Ok.inX(ok:X.Ok):(X.inX e oe).Ok:=⟨ok.mod,ok.kind,ok.glob,ok.blt,ok.above,ok.inj,ok.has,ok.cab,λh=>absurd (show false=true from h) zam,ok.frames,ok.stk,ok.exf,ok.bs,ok.bsz,ok.zt,ok.zu,ok.oP,ok.frf,ok.tab⟩
theorem Inv.inX(I:Inv X V0 σ H s)(M:s.heap.get? e=some oe)(O:H e=none)(h3:e≠X.env.locals)(h4:e∉X.fs)(U:∀v,oe.data≠.cell v):Inv (X.inX e oe) V0 σ H s :=
 ⟨I.ok.inX,I.os,I.bare,I.base,I.loc,I.cell,I.free,I.ic,λp a=>by
  rcases zaf (show p∈(e,oe)::(X.pn++V0)from a)with rfl|a
  ·exact⟨M,O,h3,h4,U⟩
  ·exact I.pin p a,I.hok,I.len⟩
def Inv.Ir(ok:X.Ok)(I:Inv (X.inX e oe) V0 σ H s):Inv X V0 σ H s :=
 ⟨ok,I.os,I.bare,I.base,I.loc,I.cell,I.free,I.ic,λp a=>I.pin p (show p∈(e,oe)::(X.pn++V0)from zak _ a),I.hok,I.len⟩
def Ends.drop(D:Ends)(i:Nat):Ends:={nx:=fun σ H=>D.nx (σ.set i none) H,rt:=D.rt,bk:=fun σ H=>D.bk (σ.set i none) H,ct:=fun σ H=>D.ct (σ.set i none) H}
end
end L2
namespace L2
open PySem.Spec PyProof.Rows PySem.W Builtin Builtin.ObjectAttr Builtin.Getset_descriptor
section
variable{prog:Program}{w:World}{A:Around}{E:Value->Shared->Prop}{K:zag}{a D:Addr}{o:Obj}{h:Heap}{g:Array GenState}{d:Drawn}{t:Nat}{os:OsState}
structure OB(K:zag)(D:Addr):Prop where
 ga:findIn K (.ref D) "__getattribute__"=some (some<|.builtin "BaseException.__getattribute__")
 gn:findIn K (.ref D) "__getattr__"=some none
 ca:findIn K (.ref D) "__class__"=some (some<|.builtin "object.__class__")
 sub:subIn K (.ref D) (.type "BaseException")=some true
 mro:mroIn K D (.type "object")=some true
 gs:specialIn K (.builtin "object.__class__") "__get__"=some (some<|.builtin "getset_descriptor.__get__")
 tk:takesIn K (.builtin "object.__class__")=some true
 cls:(clsIn K D).isSome=true
end
end L2
namespace Mir
open L2
class Zc where
 e:Addr
instance (priority:=10) zc0:Zc:=⟨0⟩
variable [Zc]
def cIf{α:Type}(c:Prop)(a b : α) : α:=@ite α c (Classical.propDecidable c) a b
theorem bA(h:c):cIf c a b=a:=by unfold cIf;rw[if_pos h]
theorem Iu(h : ¬c):cIf c a b=b:=by unfold cIf;rw[if_neg h]
def E9:cIf True a b=a:=bA trivial
theorem cO(h:cIf c a none=some x):c/\a=some x:=by
 by_cases b:c
 ·rw[bA b]at h;exact⟨b,h⟩
 ·rw[Iu b]at h;cases h
abbrev D:=PyData
def C5:Key->D->Prop
 | .inl i,c=>c=.int i
 | .inr x,c=>c=.str x
mutual
inductive Rep(H:Hp):V->D->Prop
 |non:Rep H .non .none
 |bl (b:Bool):Rep H (.bl b) (.bool b)
 |int (i:Int):Rep H (.int i) (.int i)
 |str (x:Str):Rep H (.str x) (.str x)
 |lst {a:Addr} {xs:List V} {ds:List D}:Rd H a (.lst xs)->a6 H xs ds->Rep H (.ref a) (.list ds)
 |tup {a:Addr} {xs:List V} {ds:List D}:H a=some (.tup xs)->a6 H xs ds->Rep H (.ref a) (.tuple ds)
 |dct {a:Addr} {Z0:List (Key×V)} {es:List (D×D)}:Rd H a (.dK Z0)->bc H Z0 es->Rep H (.ref a) (.dict es)
inductive a6(H:Hp):List V->List D->Prop
 |nil:a6 H [] []
 |cons {x:V} {xs:List V} {d:D} {ds:List D}:Rep H x d->a6 H xs ds->a6 H (x::xs) (d::ds)
inductive bc(H:Hp):List (Key×V)->List (D×D)->Prop
 |nil:bc H [] []
 |cons {k:Key} {x:V} {Z0:List (Key×V)} {c d:D} {es:List (D×D)}:C5 k c->Rep H x d->bc H Z0 es->bc H ((k,x)::Z0) ((c,d)::es)
end
theorem fB(e:aH H H')(h:Rd H a u):Rd H' a u:=by
 rcases h with h|⟨o,h⟩
 ·exact .inl (e _ _ h)
 ·exact .inr ⟨o,e _ _ h⟩
mutual
theorem Rep.mono(e:aH H H'):∀{v:V} {d:D},Rep H v d->Rep H' v d
 |_,_,.non=>.non
 |_,_,.bl b=>.bl b
 |_,_,.int i=>.int i
 |_,_,.str x=>.str x
 |_,_,.lst h r=>.lst (fB e h) (a6.mono e r)
 |_,_,.tup h r=>.tup (e _ _ h) (a6.mono e r)
 |_,_,.dct h r=>.dct (fB e h) (bc.mono e r)
theorem a6.mono(e:aH H H'):∀{v:List V} {d:List D},a6 H v d->a6 H' v d
 |_,_,.nil=>.nil
 |_,_,.cons a b=>.cons (Rep.mono e a) (a6.mono e b)
theorem bc.mono(e:aH H H'):∀{v:List<|Key×V} {d:List<|D×D},bc H v d->bc H' v d
 |_,_,.nil=>.nil
 |_,_,.cons k a b=>.cons k (Rep.mono e a) (bc.mono e b)
end
theorem a6.length:∀{v:List V} {d:List D},a6 H v d->v.length=d.length
 |_,_,.nil=>rfl
 |_,_,.cons _ b=>by simp[a6.length b]
theorem a6.get:∀{v:List V} {d:List D} (i:Nat),a6 H v d->∀c,d[i]?=some c->∃x,v[i]?=some x/\Rep H x c
 |_,_,_,.nil,c,e=>by simp at e
 |_,_,0,.cons a _,c,e=>by simp at e;subst e;exact⟨_,rfl,a⟩
 |_,_,i+1,.cons _ b,c,e=>by
  obtain⟨x,f,g⟩:=a6.get i b c (by simpa using e)
  exact⟨x,by simpa using f,g⟩
theorem a6.Ms:∀{v:List V} {d:List D} (i:Nat),a6 H v d->∀x,v[i]?=some x->∃c,d[i]?=some c/\Rep H x c
 |_,_,_,.nil,c,e=>by simp at e
 |_,_,0,.cons a _,c,e=>by simp at e;subst e;exact⟨_,rfl,a⟩
 |_,_,i+1,.cons _ b,c,e=>by
  obtain⟨x,f,g⟩:=a6.Ms i b c (by simpa using e)
  exact⟨x,by simpa using f,g⟩
theorem a6.append:∀{v w:List V} {d c:List D},a6 H v d->a6 H w c->a6 H (v++w) (d++c)
 |_,_,_,_,.nil,r=>r
 |_,_,_,_,.cons a b,r=>.cons a (a6.append b r)
theorem a6.take:∀{v:List V} {d:List D} (n:Nat),a6 H v d->a6 H (v.take n) (d.take n)
 |_,_,0,_=>.nil
 |_,_,_+1,.nil=>.nil
 |_,_,n+1,.cons a b=>.cons a (a6.take n b)
theorem a6.drop:∀{v:List V} {d:List D} (n:Nat),a6 H v d->a6 H (v.drop n) (d.drop n)
 |_,_,0,r=>r
 |_,_,_+1,.nil=>.nil
 |_,_,n+1,.cons _ b=>a6.drop n b
theorem a6.set(r:Rep H x c):∀{v:List V} {d:List D} (i:Nat),a6 H v d->a6 H (v.set i x) (d.set i c)
 |_,_,_,.nil=>.nil
 |_,_,0,.cons _ b=>.cons r b
 |_,_,i+1,.cons a b=>.cons a (a6.set r i b)
inductive Sl where
 |no|fz (d:D)|own (d:D)|io (d:D)|ro (d:D)|ex
def Sl.fT:Sl->Bool
 | .own _=>true
 | .io _=>true
 |_=>false
def Sl.isRef:Sl->Bool
 | .own _=>true
 | .io _=>true
 | .ro _=>true
 |_=>false
theorem Sl.vo{s:Sl}(h:s.fT=true):s.isRef=true:=by cases s<;>first|rfl|cases h
abbrev Rho:=List Sl
inductive Kd where
 |fz|new|at(i:Nat)|ro
abbrev RV:=D×Kd
inductive Own(B H:Hp)(p:Addr):D->Prop
 |lst {xs:List V} {ds:List D}:H p=some (.lst xs)->a6 B xs ds->Own B H p (.list ds)
 |dct {Z0:List (Key×V)} {es:List (D×D)}:H p=some (.dK Z0)->bc B Z0 es->Own B H p (.dict es)
theorem Own.there(h:Own B H p d):∃o,H p=some o:=by cases h with
 |lst h _=>exact⟨_,h⟩
 |dct h _=>exact⟨_,h⟩
theorem Own.jX(h:Own B H p d):H p≠none:=by
 obtain⟨o,e⟩:=h.there;rw[e];simp
theorem Own.mono(h:Own B H p d)(e:aH B B')(k:∀o,H p=some o->H' p=some o):Own B' H' p d:=by cases h with
 |lst h r=>exact .lst (k _ h) (r.mono e)
 |dct h r=>exact .dct (k _ h) (r.mono e)
theorem Own.xn(h:Own B H p d)(xs:List V):H p≠some (.tup xs):=by cases h with
 |lst h _=>rw[h];simp
 |dct h _=>rw[h];simp
theorem Own.rep(h:Own B H p d)(e:aH B H):Rep H (.ref p) d:=by cases h with
 |lst h r=>exact .lst (.inl h) (r.mono e)
 |dct h r=>exact .dct (.inl h) (r.mono e)
theorem Own.frozen(h:Own B H p d)(e:aH B B')(k:∀o,H p=some o->B' p=some o):Rep B' (.ref p) d:=by cases h with
 |lst h r=>exact .lst (.inl<|k _ h) (r.mono e)
 |dct h r=>exact .dct (.inl<|k _ h) (r.mono e)
structure Fr where
 B:Hp
 H:Hp
 io:List (Nat×Addr)
 Z:Addr->Prop
def q9(B H:Hp)(σ:St)(i:Nat):Sl->Prop
 | .no=>True
 | .ex=>True
 | .fz d=>∃v,σ[i]?=some (some v)/\Rep B v d
 | .own d=>∃p,σ[i]?=some (some<|.ref p)/\B p=none/\Own B H p d
 | .io d=>∃p,σ[i]?=some (some<|.ref p)/\B p=none/\Own B H p d
 | .ro d=>∃p,σ[i]?=some (some<|.ref p)/\Own B H p d
structure Rel(F:Fr)(B H:Hp)(σ:St)(ρ:Rho):Prop where
 sub:aH B H
 sB:aH F.B B
 sH:∀q o,F.H q=some o->(∀x∈F.io,x.2≠q)->H q=some o
 nB:∀q,F.H q≠none->F.B q=none->B q=none
 len : ρ.length=σ.length
 slot:∀(i:Nat) (s:Sl),ρ[i]?=some s->q9 B H σ i s
 dist:∀(i j:Nat) (s t:Sl) (p:Addr),ρ[i]?=some s->s.fT=true->ρ[j]?=some t->t.isRef=true->σ[i]?=some (some<|.ref p)->σ[j]?=some (some<|.ref p)->i=j
 mW:∀(i:Nat) (d:D) (p:Addr),ρ[i]?=some (.own d)->σ[i]?=some (some<|.ref p)->F.H p=none
 fx:∀x∈F.io,σ[x.1]?=some (some<|.ref x.2)/\∃d,ρ[x.1]?=some (.io d)
 ioN:∀(i:Nat) (d:D),ρ[i]?=some (.io d)->∃p,(i,p)∈F.io
 cL:∀q xs,H q=some (.tup xs)->B q=some (.tup xs)
 exv:∀i:Nat,ρ[i]?=some .ex->σ[i]?=some (some<|.ref Zc.e)
 nz:∀q o u,H q=some (.frz o u)->F.Z q
structure Ext(σ:St)(ρ:Rho)(B H:Hp)(ρ':Rho)(B' H':Hp):Prop where
 sB:aH B B'
 keep:∀q o,H q=some o->(∀(i:Nat) (s:Sl),ρ[i]?=some s->s.fT=true->σ[i]?≠some (some<|.ref q))->H' q=some o/\(B q=none->B' q=none)
 own:∀(i:Nat) (s':Sl),ρ'[i]?=some s'->s'.fT=true->∃s,ρ[i]?=some s/\s.fT=true
 ref:∀(i:Nat) (s':Sl),ρ'[i]?=some s'->s'.isRef=true->∃s,ρ[i]?=some s/\s.isRef=true
 live:∀q,H' q=none->H q=none
theorem Ext.refl(σ:St)(ρ:Rho)(B H:Hp):Ext σ ρ B H ρ B H:=⟨aH.refl _,λ_ _ h _=>⟨h,id⟩,λ_ s h e=>⟨s,h,e⟩,λ_ s h e=>⟨s,h,e⟩,λ_ h=>h⟩
theorem Ext.trans(a:Ext σ ρ B H ρ1 M U)(b:Ext σ ρ1 M U I O Y):Ext σ ρ B H I O Y:=by
 refine⟨a.sB.trans b.sB,λq o h n=>?_,λi s h e=>?_,λi s h e=>?_,λq h=>a.live q<|b.live q h⟩
 ·obtain⟨m,C⟩:=a.keep q o h n
  obtain⟨h3,h4⟩:=b.keep q o m λi s l u=>by
   obtain⟨s',w,A⟩:=a.own i s l u;exact n i s' w A
  exact⟨h3,λz=>h4<|C z⟩
 ·obtain⟨s1,m,l⟩:=b.own i s h e
  exact a.own i s1 m l
 ·obtain⟨s1,m,l⟩:=b.ref i s h e
  exact a.ref i s1 m l
def slD:Sl->D
 | .own d=>d
 | .io d=>d
 | .ro d=>d
 | .fz d=>d
 | .no=>.none
 | .ex=>.none
def Val(F:Fr)(B H:Hp)(σ:St)(ρ:Rho)(v:V)(r:RV):Prop:=match r.2 with
 | .fz=>Rep B v r.1
 | .new=>∃p,v=.ref p/\B p=none/\F.H p=none/\Own B H p r.1/\∀(i:Nat) (s:Sl),ρ[i]?=some s->s.isRef=true->σ[i]?≠some (some<|.ref p)
 | .at i=>∃s,ρ[i]?=some s/\s.fT=true/\slD s=r.1/\σ[i]?=some (some v)
 | .ro=>∃p,v=.ref p/\Own B H p r.1/\∀(i:Nat) (s:Sl),ρ[i]?=some s->s.fT=true->σ[i]?≠some (some<|.ref p)
def View(B H:Hp)(v:V)(d:D):Prop:=Rep B v d\/∃p,v=.ref p/\Own B H p d
theorem View.rep(h:View B H v d)(e:aH B H):Rep H v d:=by
 rcases h with h|⟨p,rfl,h⟩
 ·exact h.mono e
 ·exact h.rep e
theorem View.list{ds:List D}(h:View B H v<|.list ds)(e:aH B H):∃p xs,v=.ref p/\Rd H p (.lst xs)/\a6 B xs ds:=by
 rcases h with h|⟨p,rfl,h⟩
 ·cases h with
  |lst h r=>exact⟨_,_,rfl,fB e h,r⟩
 ·cases h with
  |lst h r=>exact⟨_,_,rfl,.inl h,r⟩
theorem View.tuple{ds:List D}(h:View B H v<|.tuple ds)(e:aH B H):∃p xs,v=.ref p/\H p=some (.tup xs)/\a6 B xs ds:=by
 rcases h with h|⟨p,rfl,h⟩
 ·cases h with
  |tup h r=>exact⟨_,_,rfl,e _ _ h,r⟩
 ·cases h
theorem View.dict{es:List<|D×D}(h:View B H v<|.dict es)(e:aH B H):∃p Z0,v=.ref p/\Rd H p (.dK Z0)/\bc B Z0 es:=by
 rcases h with h|⟨p,rfl,h⟩
 ·cases h with
  |dct h r=>exact⟨_,_,rfl,fB e h,r⟩
 ·cases h with
  |dct h r=>exact⟨_,_,rfl,.inl h,r⟩
theorem View.int(h:View B H v<|.int i):v=.int i:=by
 rcases h with h|⟨p,rfl,h⟩
 ·cases h;rfl
 ·cases h
theorem View.bool(h:View B H v<|.bool b):v=.bl b:=by
 rcases h with h|⟨p,rfl,h⟩
 ·cases h;rfl
 ·cases h
theorem View.str(h:View B H v<|.str x):v=.str x:=by
 rcases h with h|⟨p,rfl,h⟩
 ·cases h;rfl
 ·cases h
theorem View.none(h:View B H v .none):v=.non:=by
 rcases h with h|⟨p,rfl,h⟩
 ·cases h;rfl
 ·cases h
section
variable{F:Fr}{B H B' H':Hp}{σ:St}{ρ ρ':Rho}{v:V}{r:RV}
theorem Rel.ownAt(R:Rel F B H σ ρ){i:Nat}(h : ρ[i]?=some s)(e:s.fT=true):∃p,σ[i]?=some (some<|.ref p)/\B p=Option.none/\Own B H p (slD s):=by
 have:=R.slot i s h;cases s with
 |own d=>exact this
 |io d=>exact this
 |_=>cases e
theorem Val.view(R:Rel F B H σ ρ)(h:Val F B H σ ρ v r):View B H v r.1:=by
 obtain⟨d,k⟩:=r;cases k with
 |fz=>exact .inl h
 |new=>obtain⟨p,rfl,_,_,o,_⟩:=h;exact .inr ⟨p,rfl,o⟩
 | «at» i=>
  obtain⟨s,e,f,h3,h4⟩:=h;obtain⟨p,a,g,c⟩:=R.ownAt e f;rw[h4]at a;cases a;exact .inr ⟨p,rfl,h3▸c⟩
 |ro=>obtain⟨p,rfl,o,_⟩:=h;exact .inr ⟨p,rfl,o⟩
theorem Rel.C6(R:Rel F B H σ ρ)(h:Val F B H σ ρ v (d,.new)):∃B',Rel F B' H σ ρ/\Rep B' v d/\aH B B'/\∀q,v≠.ref q->B' q=B q:=by
 obtain⟨p,rfl,g,j,o,k⟩:=h;obtain⟨ob,f⟩:=o.there;have e:aH B (upd B p ob):=jA g;have ne:∀(i:Nat) (s:Sl) (q:Addr),ρ[i]?=some s->s.isRef=true->σ[i]?=some (some<|.ref q)->q≠p:=λi s q a b h3 z=>k i s a b (z▸h3)
 refine⟨upd B p ob,⟨?_,R.sB.trans e,R.sH,?_,R.len,?_,R.dist,R.mW,R.fx,R.ioN,(λq xs h=>e _ _<|R.cL q xs h),R.exv,R.nz⟩,?_,e,λq c=>au λz=>c<|z▸rfl⟩
 ·intro q u c
  by_cases z:q=p
  ·subst z;rw[ay]at c;cases c;exact f
  ·rw[au z]at c;exact R.sub q u c
 ·intro q a b
  have z:q≠p:=λz=>a (z▸j)
  rw[au z];exact R.nB q a b
 ·intro i s hs
  have q:=R.slot i s hs;cases s with
  |no=>trivial
  |ex=>trivial
  |fz d=>obtain⟨x,a,b⟩:=q;exact⟨x,a,b.mono e⟩
  |own d=>obtain⟨q,a,b,h3⟩:=q;exact⟨q,a,by rw[au<|ne i _ q hs rfl a];exact b,h3.mono e λ_ z=>z⟩
  |io d=>obtain⟨q,a,b,h3⟩:=q;exact⟨q,a,by rw[au<|ne i _ q hs rfl a];exact b,h3.mono e λ_ z=>z⟩
  |ro d=>obtain⟨q,a,h3⟩:=q;exact⟨q,a,h3.mono e λ_ z=>z⟩
 ·exact o.frozen e λu h=>by rw[ay,<-h,f]
theorem get_set(h:(ρ.set i s)[j]?=some t):(j=i/\t=s/\i<ρ.length)\/(j≠i/\ρ[j]?=some t):=by
 by_cases z:j=i
 ·subst z
  have hl:j<ρ.length:=by
   have:=zac h;obtain⟨a,_⟩:=this;simpa using a
  rw[zav hl]at h;exact .inl ⟨rfl,(zaQ h).symm,hl⟩
 ·rw[zaA λe=>z e.symm]at h
  exact .inr ⟨z,h⟩
theorem vp(hs:s≠.ex)(h:(ρ.set i s)[j]?=some .ex) : ρ[j]?=some .ex/\j≠i:=by
 rcases get_set h with⟨_,z,_⟩|⟨a,h⟩
 ·exact absurd z.symm hs
 ·exact⟨h,a⟩
theorem Rel.Fb(R:Rel F B H σ ρ)(hi : ρ[i]?=some (.own d))(I : σ[i]?=some (some v)):∃B',Rel F B' H σ (ρ.set i<|.fz d)/\Rep B' v d/\Ext σ ρ B H (ρ.set i<|.fz d) B' H:=by
 obtain⟨p,f,C,o⟩:=R.slot i _ hi;rw[I]at f;cases f;have D:=R.mW i d p hi I;obtain⟨ob,m⟩:=o.there;have e:aH B (upd B p ob):=jA C;have n:Rep (upd B p ob) (.ref p) d:=o.frozen e λu h=>by rw[ay,<-h,m]
 have ne:∀(j:Nat) (s:Sl) (q:Addr),j≠i->ρ[j]?=some s->s.isRef=true->σ[j]?=some (some<|.ref q)->q≠p:=λj s q l f g h3 z=>l (R.dist i j _ s p hi rfl f g I<|z▸h3).symm
 refine⟨upd B p ob,⟨?_,R.sB.trans e,R.sH,?_,by rw[zaM];exact R.len,?_,?_,?_,?_,?_,(λq xs h=>e _ _<|R.cL q xs h),(λj h=>R.exv j (vp (by simp) h).1),R.nz⟩,n,⟨e,?_,?_,?_,λ_ h=>h⟩⟩
 ·intro q u k
  by_cases z:q=p
  ·subst z;rw[ay]at k;cases k;exact m
  ·rw[au z]at k;exact R.sub q u k
 ·intro q f g
  have z:q≠p:=λz=>f (z▸D)
  rw[au z];exact R.nB q f g
 ·intro j s hs
  rcases get_set hs with⟨rfl,rfl,_⟩|⟨l,hs⟩
  ·exact⟨_,I,n⟩
  ·have q:=R.slot j s hs
   cases s with
   |no=>trivial
   |ex=>trivial
   |fz d=>obtain⟨x,f,g⟩:=q;exact⟨x,f,g.mono e⟩
   |own d=>obtain⟨q,f,g,h3⟩:=q;exact⟨q,f,by rw[au<|ne j _ q l hs rfl f];exact g,h3.mono e λ_ z=>z⟩
   |io d=>obtain⟨q,f,g,h3⟩:=q;exact⟨q,f,by rw[au<|ne j _ q l hs rfl f];exact g,h3.mono e λ_ z=>z⟩
   |ro d=>obtain⟨q,f,h3⟩:=q;exact⟨q,f,h3.mono e λ_ z=>z⟩
 ·intro a b s t q f g h3 h4 w A
  rcases get_set f with⟨rfl,rfl,_⟩|⟨ha,f⟩
  ·cases g
  ·rcases get_set h3 with⟨rfl,rfl,_⟩|⟨G,h3⟩
   ·cases h4
   ·exact R.dist a b s t q f g h3 h4 w A
 ·intro j c q f g
  rcases get_set f with⟨rfl,h,_⟩|⟨_,f⟩
  ·cases h
  ·exact R.mW j c q f g
 ·intro x E
  obtain⟨f,c,g⟩:=R.fx x E;refine⟨f,c,?_⟩
  by_cases z:i=x.1
  ·subst z;rw[hi]at g;cases g
  ·rw[zaA z];exact g
 ·intro j c f
  rcases get_set f with⟨rfl,h,_⟩|⟨_,f⟩
  ·cases h
  ·exact R.ioN j c f
 ·intro q u k hn
  refine⟨k,λz=>?_⟩
  rw[au<|show q≠p from λy=>hn i _ hi rfl (by rw[y];exact I)];exact z
 ·intro j s f g
  rcases get_set f with⟨rfl,rfl,_⟩|⟨_,f⟩
  ·cases g
  ·exact⟨s,f,g⟩
 ·intro j s f g
  rcases get_set f with⟨rfl,rfl,_⟩|⟨_,f⟩
  ·cases g
  ·exact⟨s,f,g⟩
theorem Rel.free(R:Rel F B H σ ρ)(I:H p=none):B p=none/\F.H p=none/\∀(i:Nat) (s:Sl),ρ[i]?=some s->s.isRef=true->σ[i]?≠some (some<|.ref p):=by
 have h:B p=none:=R.sub.free I;have g:∀(i:Nat) (s:Sl),ρ[i]?=some s->s.isRef=true->σ[i]?≠some (some<|.ref p):=λi s e c h3=>by
  have q:=R.slot i s e;cases s with
  |own d=>obtain⟨q,a,_,b⟩:=q;rw[h3]at a;cases a;exact b.jX I
  |io d=>obtain⟨q,a,_,b⟩:=q;rw[h3]at a;cases a;exact b.jX I
  |ro d=>obtain⟨q,a,b⟩:=q;rw[h3]at a;cases a;exact b.jX I
  |no=>cases c
  |ex=>cases c
  |fz d=>cases c
 refine⟨h,?_,g⟩;cases q:F.H p with
 |none=>rfl
 |some u=>
  by_cases z:∃x∈F.io,x.2=p
  ·obtain⟨x,f,rfl⟩:=z
   obtain⟨e,d,c⟩:=R.fx x f;exact absurd e (g _ _ c rfl)
  ·have:=R.sH p u q λx f y=>z ⟨x,f,y⟩
   rw[I]at this;cases this
theorem Rel.grow(R:Rel F B H σ ρ)(eB:aH B B')(eH:aH H H')(sub:aH B' H')(nb:∀q,H q≠none->B q=none->B' q=none)(tB:∀q xs,H' q=some (.tup xs)->B' q=some (.tup xs))(nf:∀q o u,H' q=some (.frz o u)->H q≠none):Rel F B' H' σ ρ:=by
 have lv:∀q,F.H q≠none->H q≠none:=λq h z=>h (R.free z).2.1
 refine⟨sub,R.sB.trans eB,λq u a b=>eH _ _<|R.sH q u a b,λq a b=>nb q (lv q a)<|R.nB q a b,R.len,λi s hs=>?_,R.dist,R.mW,R.fx,R.ioN,tB,R.exv,λq o u h=>by
  cases y:H q with
  |none=>exact absurd y (nf q o u h)
  |some x=>
   have:=eH q x y;rw[h]at this;cases this;exact R.nz q o u y⟩
 have q:=R.slot i s hs;cases s with
 |no=>trivial
 |ex=>trivial
 |fz d=>obtain⟨x,a,b⟩:=q;exact⟨x,a,b.mono eB⟩
 |own d=>obtain⟨q,a,b,h3⟩:=q;exact⟨q,a,nb q h3.jX b,h3.mono eB λ_ z=>eH _ _ z⟩
 |io d=>obtain⟨q,a,b,h3⟩:=q;exact⟨q,a,nb q h3.jX b,h3.mono eB λ_ z=>eH _ _ z⟩
 |ro d=>obtain⟨q,a,h3⟩:=q;exact⟨q,a,h3.mono eB λ_ z=>eH _ _ z⟩
theorem Ext.grow(eB:aH B B')(eH:aH H H')(nb:∀q,H q≠none->B q=none->B' q=none):Ext σ ρ B H ρ B' H' :=
 ⟨eB,λq u h _=>⟨eH _ _ h,λz=>nb q (by rw[h];simp) z⟩,λ_ s h z=>⟨s,h,z⟩,λ_ s h z=>⟨s,h,z⟩,λq h=>eH.free h⟩
theorem Rel.lay(R:Rel F B H σ ρ)(I:H p=none)(no:(∀xs,o≠.tup xs)/\∀a u,o≠.frz a u):Rel F B (upd H p o) σ ρ/\Ext σ ρ B H ρ B (upd H p o):=by
 have e:aH H (upd H p o):=jA I;refine⟨R.grow (aH.refl _) e (R.sub.trans e) (λ_ _ z=>z) (λq xs h=>?_) λq a u h y=>?_,Ext.grow (aH.refl _) e λ_ _ z=>z⟩
 ·by_cases z:q=p
  ·subst z;rw[ay]at h;cases h;exact absurd rfl (no.1 xs)
  ·rw[au z]at h;exact R.cL q xs h
 ·by_cases z:q=p
  ·subst z;rw[ay]at h;cases h;exact no.2 _ _ rfl
  ·rw[au z,y]at h;cases h
theorem Rel.xo(R:Rel F B H σ ρ)(I:H p=none):Rel F (upd B p<|.tup xs) (upd H p<|.tup xs) σ ρ/\Ext σ ρ B H ρ (upd B p<|.tup xs) (upd H p<|.tup xs)/\aH B (upd B p<|.tup xs):=by
 have b:=(R.free I).1;have eH:aH H (upd H p<|.tup xs):=jA I;have eB:aH B (upd B p<|.tup xs):=jA b;have nb:∀q,H q≠none->B q=none->upd B p (.tup xs) q=none:=λq h z=>by rw[au<|show q≠p from λy=>h (by rw[y];exact I)];exact z
 refine⟨R.grow eB eH (λq u h=>?_) nb (λq c h=>?_) λq a u h y=>?_,Ext.grow eB eH nb,eB⟩
 ·by_cases z:q=p
  ·subst z;rw[ay]at h⊢;exact h
  ·rw[au z]at h⊢;exact R.sub q u h
 ·by_cases z:q=p
  ·subst z;rw[ay]at h⊢;exact h
  ·rw[au z]at h⊢;exact R.cL q c h
 ·by_cases z:q=p
  ·subst z;rw[ay]at h;cases h
  ·rw[au z,y]at h;cases h
end
end Mir
namespace Mir
open L2
variable [Zc]
abbrev PM:=Rho->Option (RV×Rho)
def ME(t:TE)(m:PM):Prop :=
 ∀(F:Fr) (B H:Hp) (σ:St) (ρ:Rho) (r:RV) (ρ':Rho) (Q:VK),Rel F B H σ ρ->m ρ=some (r,ρ')->
  (∀v B' H',Ext σ ρ B H ρ' B' H'->Rel F B' H' σ ρ'->Val F B' H' σ ρ' v r->(∀p,r.2=.new->v=.ref p->H p=none)->Q v H')->t σ H Q
def MT(t:TT)(m:Rho->Option (Bool×Rho)):Prop :=
 ∀(F:Fr) (B H:Hp) (σ:St) (ρ:Rho) (b:Bool) (ρ':Rho) (Q:Bool->Hp->Prop),Rel F B H σ ρ->m ρ=some (b,ρ')->
  (∀B' H',Ext σ ρ B H ρ' B' H'->Rel F B' H' σ ρ'->Q b H')->t σ H Q
def Vl(F:Fr)(B H:Hp)(σ:St)(ρ:Rho):List V->List RV->Prop
 | [],[]=>True
 |v::vs,r::rs=>(Val F B H σ ρ v r/\r.2≠.new)/\Vl F B H σ ρ vs rs
 |_,_=>False
def MA(t:TA)(m:Rho->Option (List RV×Rho)):Prop :=
 ∀(F:Fr) (B H:Hp) (σ:St) (ρ:Rho) (rs:List RV) (ρ':Rho) (Q:List V->Hp->Prop),Rel F B H σ ρ->m ρ=some (rs,ρ')->
  (∀vs B' H',Ext σ ρ B H ρ' B' H'->Rel F B' H' σ ρ'->Vl F B' H' σ ρ' vs rs->Q vs H')->t σ H Q
def sv(m:PM):PM:=fun ρ=>match m ρ with
 |some ((d,.new),ρ')=>some ((d,.fz),ρ')
 |x=>x
theorem md(h:sv m ρ=some (r,ρ')):r.2≠.new:=by
 unfold sv at h;split at h
 ·cases h;simp
 ·rename_i a
  intro e;obtain⟨d,k⟩:=r;cases(show k=.new from e);exact a d ρ' h
theorem ME.sv(h:ME t m):ME t (sv m):=by
 intro F B H σ ρ r ρ' Q R e q;unfold Mir.sv at e;split at e
 ·rename_i d s i
  cases e;refine h F B H σ ρ _ _ Q R i λv B' H' E f g N=>?_
  obtain⟨c,R2,p,s2,n⟩:=f.C6 g;refine q v c H' ⟨E.sB.trans s2,λq o a l=>?_,E.own,E.ref,E.live⟩ R2 p (λ_ z=>by cases z)
  obtain⟨h3,h4⟩:=E.keep q o a l;refine⟨h3,λz=>?_⟩
  rw[n q λy=>by
   have:=N q rfl y;rw[a]at this;cases this]
  exact h4 z
 ·exact h F B H σ ρ r ρ' Q R e q
def qy(ρ:Rho)(r:RV):Option RV:=match r.2 with
 | .at i=>match ρ[i]? with
  |some (.own d)=>some (d,.at i)
  |some (.io d)=>some (d,.at i)
  |some (.fz d)=>some (d,.fz)
  |_=>none
 |_=>some r
section
variable{F:Fr}{B H B' H':Hp}{σ:St}{ρ ρ':Rho}{v:V}{r r':RV}
theorem Val.next(E:Ext σ ρ B H ρ' B' H')(M:Rel F B' H' σ ρ')(h:Val F B H σ ρ v r)(I:r.2≠.new)(e:qy ρ' r=some r'):Val F B' H' σ ρ' v r'/\r'.2≠.new:=by
 obtain⟨d,k⟩:=r;cases k with
 |fz=>cases e;exact⟨Rep.mono E.sB h,I⟩
 |new=>exact absurd rfl I
 | «at» i=>
  obtain⟨s,b,f,h3,h4⟩:=h;have a:(match ρ'[i]? with
   |some (.own d)=>some (d,Kd.at i)
   |some (.io d)=>some (d,Kd.at i)
   |some (.fz d)=>some (d,Kd.fz)
   |_=>none)=some r':=e
  cases q : ρ'[i]? with
  |none=>rw[q]at a;cases a
  |some s'=>
   rw[q]at a;cases s' with
   |own c=>cases a;exact⟨⟨_,q,rfl,rfl,h4⟩,by simp⟩
   |io c=>cases a;exact⟨⟨_,q,rfl,rfl,h4⟩,by simp⟩
   |fz c=>
    cases a;obtain⟨x,g,m⟩:=M.slot i _ q;rw[h4]at g;cases g
    exact⟨m,by simp⟩
   |no=>cases a
   |ex=>cases a
   |ro c=>cases a
 |ro=>
  cases e;obtain⟨p,rfl,o,n⟩:=h;obtain⟨ob,t⟩:=o.there;refine⟨⟨p,rfl,o.mono E.sB λu j=>(E.keep p u j n).1,λi s b f=>?_⟩,I⟩
  obtain⟨l,h3,h4⟩:=E.own i s b f;exact n i l h3 h4
end
def mK(B H:Hp)(Q1:D×Bool)(k:VK->Prop):Prop:=match Q1 with
 |(d,false)=>∃v,Rep B v d/\∀Q:VK,Q v H->k Q
 |(.list ds,true)=>∃vs,a6 B vs ds/\∀Q:VK,(∀p,H p=none->Q (.ref p) (upd H p<|.lst vs))->k Q
 |(.tuple ds,true)=>∃vs,a6 B vs ds/\∀Q:VK,(∀p,H p=none->Q (.ref p) (upd H p<|.tup vs))->k Q
 |(.dict es,true)=>∃Z0,bc B Z0 es/\∀Q:VK,(∀p,H p=none->Q (.ref p) (upd H p<|.dK Z0))->k Q
 |_=>False
def mE:D×Bool->RV
 |(d,false)=>(d,.fz)
 |(.tuple ds,true)=>(.tuple ds,.fz)
 |(d,true)=>(d,.new)
theorem ik(R:Rel F B H σ ρ)(h:mK B H Q1 k)
  (q:∀v B' H',Ext σ ρ B H ρ B' H'->Rel F B' H' σ ρ->Val F B' H' σ ρ v (mE Q1)->(∀p,(mE Q1).2=.new->v=.ref p->H p=none)->Q v H'):k Q:=by
 obtain⟨d,b⟩:=Q1;cases b with
 |false=>
  obtain⟨v,c,hk⟩:=h;exact hk Q (q v B H (Ext.refl _ _ _ _) R c λp z=>by cases z)
 |true=>
  cases d with
  |list ds=>
   obtain⟨vs,c,hk⟩:=h;refine hk Q λp a=>?_
   obtain⟨f,E⟩:=R.lay (o:=.lst vs) a ⟨(λ_ z=>by cases z),λ_ _ z=>by cases z⟩
   obtain⟨g,i,j⟩:=R.free a;exact q _ B _ E f ⟨p,rfl,g,i,.lst ay c,j⟩ λq _ z=>by cases z;exact a
  |dict es=>
   obtain⟨Z0,c,hk⟩:=h;refine hk Q λp a=>?_
   obtain⟨f,E⟩:=R.lay (o:=.dK Z0) a ⟨(λ_ z=>by cases z),λ_ _ z=>by cases z⟩
   obtain⟨g,i,j⟩:=R.free a;exact q _ B _ E f ⟨p,rfl,g,i,.dct ay c,j⟩ λq _ z=>by cases z;exact a
  |tuple ds=>
   obtain⟨vs,c,hk⟩:=h;refine hk Q λp a=>?_
   obtain⟨f,E,e⟩:=R.xo (xs:=vs) a;exact q _ _ _ E f (show Rep _ _ _ from .tup ay (c.mono e)) λq z=>by cases z
  |none=>exact h.elim
  |bool _=>exact h.elim
  |int _=>exact h.elim
  |str _=>exact h.elim
def mC(d:D):PM:=fun ρ=>some ((d,.fz),ρ)
theorem Iv(h:∀B,Rep B v d):ME (tC v) (mC d):=by
 intro F B H σ ρ r ρ' Q R e q;cases e;exact q v B H (Ext.refl _ _ _ _) R (h B) λp z=>by cases z
def aN:ME (tC<|.int i) (mC<|.int i):=Iv λ_=>.int i
def rd:ME (tC<|.bl b) (mC<|.bool b):=Iv λ_=>.bl b
def oY:ME (tC .non) (mC .none):=Iv λ_=>.non
def iM:ME (tC<|.str x) (mC<|.str x):=Iv λ_=>.str x
def ai(i:Nat):PM:=fun ρ=>match ρ[i]? with
 |some (.fz d)=>some ((d,.fz),ρ)
 |some (.own d)=>some ((d,.at i),ρ)
 |some (.io d)=>some ((d,.at i),ρ)
 |some (.ro d)=>some ((d,.ro),ρ)
 |_=>none
theorem aa:ME (w6 i) (ai i):=by
 intro F B H σ ρ r ρ' Q R e q;unfold ai at e;cases hs : ρ[i]? with
 |none=>rw[hs]at e;cases e
 |some s=>
  rw[hs]at e;have sl:=R.slot i s hs;cases s with
  |no=>cases e
  |ex=>cases e
  |fz d=>
   cases e;obtain⟨v,a,b⟩:=sl;exact⟨v,a,q v B H (Ext.refl _ _ _ _) R b λp z=>by cases z⟩
  |own d=>
   cases e;obtain⟨p,a,b,h3⟩:=sl;exact⟨_,a,q _ B H (Ext.refl _ _ _ _) R ⟨_,hs,rfl,rfl,a⟩ λp z=>by cases z⟩
  |io d=>
   cases e;obtain⟨p,a,b,h3⟩:=sl;exact⟨_,a,q _ B H (Ext.refl _ _ _ _) R ⟨_,hs,rfl,rfl,a⟩ λp z=>by cases z⟩
  |ro d=>
   cases e;obtain⟨p,a,h3⟩:=sl;refine⟨_,a,q _ B H (Ext.refl _ _ _ _) R ⟨p,rfl,h3,λj s h4 f g=>?_⟩ λp z=>by cases z⟩
   have:=R.dist j i s _ p h4 f hs rfl g a;subst this;rw[hs]at h4;cases h4;cases f
def OpJ(r:R2)(g:D->D->Option (D×Bool)):Prop :=
 ∀(B H:Hp) (x y:V) (c d:D) (Q1:D×Bool),aH B H->View B H x c->View B H y d->g c d=some Q1->mK B H Q1 λQ=>r x y H Q
def mOp(g:D->D->Option (D×Bool))(a b:PM):PM:=fun ρ=>(sv a ρ).bind λx=>(sv b x.2).bind λy=>(qy y.2 x.1).bind λr=>(g r.1 y.1.1).map λQ1=>(mE Q1,y.2)
theorem aD(J:OpJ r g)(ha:ME M a)(I:ME O b):ME (tOp r M O) (mOp g a b):=by
 intro F B H σ ρ r0 ρ' Q R e q
 walk_at "q3"
 obtain⟨Z,V,e⟩:=zaa e;obtain⟨t,X,e⟩:=zab e;cases e
 walk_at "q2"
 refine I.sv F E C σ x.2 y.1 y.2 _ f S λu d m E2 R2 N N2=>?_
 obtain⟨P,n3⟩:=L.next E2 R2 (md G) V;refine ik R2 (J d m v u Z.1 y.1.1 t R2.sub (P.view R2) (N.view R2) X) λw h o l D T s=>?_
 refine q w h o (A.trans<|E2.trans l) D T λp U Y=>?_
 exact A.live p (E2.live p<|s p U Y)
end Mir
namespace Mir
open L2
variable [Zc]
def UnJ(r:V->Hp->VK->Prop)(g:D->Option (D×Bool)):Prop:=∀(B H:Hp) (x:V) (c:D) (Q1:D×Bool),aH B H->View B H x c->g c=some Q1->mK B H Q1 λQ=>r x H Q
def mUn(g:D->Option (D×Bool))(a:PM):PM:=fun ρ=>(sv a ρ).bind λx=>(g x.1.1).map λQ1=>(mE Q1,x.2)
theorem OC(J:UnJ r g)(ha:ME I a):ME (tUn r I) (mUn g a):=by
 walk_at "qa"
 walk_at "q2"
 exact ik f (J E C v x.1.1 l f.sub (L.view f) b) λw c h d j m i=>q w c h (A.trans d) j m λp o s=>A.live p (i p o s)
def asB:RV×Rho->Option (Bool×Rho)
 |((.bool b,_),ρ)=>some (b,ρ)
 |_=>none
theorem Mt(h:asB x=some (b,ρ)):x.1.1=.bool b/\x.2=ρ:=by
 obtain⟨⟨d,k⟩,a⟩:=x;cases d with
 |bool c=>cases h;exact⟨rfl,rfl⟩
 |_=>cases h
def a0(a:PM):Rho->Option (Bool×Rho):=fun ρ=>(sv a ρ).bind asB
theorem bf(ha:ME I a):MT (t9 I) (a0 a):=by
 intro F B H σ ρ b ρ' Q R e q;obtain⟨x,G,e⟩:=zaa e;obtain⟨d,g⟩:=Mt e
 walk_at "q2"
 have:=L.view f;rw[d]at this;rw[g]at A f;exact⟨b,this.bool,q E C A f⟩
def uj(ha:ME I a):MT (tB I) (a0 a):=bf ha
def xp(a b:Rho->Option (Bool×Rho)):Rho->Option (Bool×Rho):=fun ρ=>(a ρ).bind λx=>if x.1=true then b x.2 else some (false,x.2)
def mOr(a b:Rho->Option (Bool×Rho)):Rho->Option (Bool×Rho):=fun ρ=>(a ρ).bind λx=>if x.1=true then some (true,x.2)else b x.2
def zH(a:Rho->Option (Bool×Rho)):Rho->Option (Bool×Rho):=fun ρ=>(a ρ).map λx=>(!x.1,x.2)
section
variable{ta tb:TT}{a b:Rho->Option (Bool×Rho)}
theorem Mu(ha:MT ta a)(I:MT tb b):MT (Oc ta tb) (xp a b):=by
 intro F B H σ ρ c ρ' Q R e q;obtain⟨x,o,e⟩:=zaa e;refine ha F B H σ ρ x.1 x.2 _ R o λd g f i=>?_
 by_cases h:x.1=true
 ·rw[if_pos h]at e⊢
  exact I F d g σ x.2 c ρ' Q i e λj m l R2=>q j m (f.trans l) R2
 ·rw[if_neg h]at e⊢
  cases e;exact q d g f i
theorem qf(ha:MT ta a)(I:MT tb b):MT (tOr ta tb) (mOr a b):=by
 intro F B H σ ρ c ρ' Q R e q;obtain⟨x,o,e⟩:=zaa e;refine ha F B H σ ρ x.1 x.2 _ R o λd g f i=>?_
 by_cases h:x.1=true
 ·rw[if_pos h]at e⊢
  cases e;exact q d g f i
 ·rw[if_neg h]at e⊢
  exact I F d g σ x.2 c ρ' Q i e λj m l R2=>q j m (f.trans l) R2
theorem Fc(ha:MT ta a):MT (LO ta) (zH a):=by
 intro F B H σ ρ c ρ' Q R e q;obtain⟨x,l,e⟩:=zab e;cases e;exact ha F B H σ ρ x.1 x.2 _ R l λd g f h=>q d g f h
end
section
variable{ta tb:TE}{a b:PM}
def xq(a b:PM):PM:=fun ρ=>(a0 a ρ).bind λx=>if x.1=true then b x.2 else some ((.bool false,.fz),x.2)
def P7(a b:PM):PM:=fun ρ=>(a0 a ρ).bind λx=>if x.1=true then some ((.bool true,.fz),x.2)else b x.2
def OD(a:PM):PM:=fun ρ=>(a0 a ρ).map λx=>((.bool !x.1,.fz),x.2)
theorem Iw(ha:ME ta a)(I:ME tb b):ME (Ew ta tb) (xq a b):=by
 intro F B H σ ρ c ρ' Q R e q;obtain⟨x,s,e⟩:=zaa e;refine bf ha F B H σ ρ x.1 x.2 (λc d=>if c=true then tb σ d Q else Q (.bl false) d) R s λg d f i=>?_
 by_cases h:x.1=true
 ·rw[if_pos h]at e⊢
  exact I F g d σ x.2 c ρ' Q i e λv j m l R2 r o=>q v j m (f.trans l) R2 r λp t u=>f.live p (o p t u)
 ·rw[if_neg h]at e⊢
  cases e;exact q _ g d f i (.bl false) λp z=>by cases z
def P8(c:Rho->Option (Bool×Rho))(a b:PM):PM:=fun ρ=>(c ρ).bind λx=>if x.1=true then a x.2 else b x.2
def vq(g g':D->D->Option (D×Bool))(a b c:PM):PM:=fun ρ=>(sv a ρ).bind λx=>(sv b x.2).bind λy=>(qy y.2 x.1).bind λr=>(g r.1 y.1.1).bind λQ1=>match Q1 with
 |(.bool true,false)=>(sv c y.2).bind λz=>(qy z.2 y.1).bind λs=>(g' s.1 z.1.1).map λQ1=>(mE Q1,z.2)
 |(.bool false,false)=>some ((.bool false,.fz),y.2)
 |_=>none
end
def aZ:Rho->Option (List RV×Rho):=fun ρ=>some ([],ρ)
def aB(a:PM)(m:Rho->Option (List RV×Rho)):Rho->Option (List RV×Rho):=fun ρ=>(sv a ρ).bind λx=>(m x.2).bind λy=>(qy y.2 x.1).map λr=>(r::y.1,y.2)
theorem Fd:MA qW aZ:=by
 intro F B H σ ρ rs ρ' Q R e q;cases e;exact q [] B H (Ext.refl _ _ _ _) R trivial
theorem bD(ha:ME M a)(I:MA tr m):MA (kS M tr) (aB a m):=by
 intro F B H σ ρ rs ρ' Q R e q
 walk_at "q3"
 obtain⟨r,g,e⟩:=zab e;cases e
 walk_at "q2"
 refine I F E C σ x.2 y.1 y.2 _ f S λvs b c E2 R2 d=>?_
 exact q (v::vs) b c (A.trans E2) R2 ⟨L.next E2 R2 (md G) g,d⟩
def Iy(B:Hp)(σ:St)(v:V)(r:RV):Prop:=match r.2 with
 | .fz=>Rep B v r.1
 | .at i=>σ[i]?=some (some v)
 |_=>True
def WVl(B:Hp)(σ:St):List V->List RV->Prop
 | [],[]=>True
 |v::vs,r::rs=>Iy B σ v r/\WVl B σ vs rs
 |_,_=>False
theorem Vl.weak:∀{vs:List V} {rs:List RV},Vl F B H σ ρ vs rs->WVl B σ vs rs
 | [],[],_=>trivial
 |v::vs,r::rs,⟨⟨h,n⟩,t⟩=>by
  refine⟨?_,Vl.weak t⟩;obtain⟨d,k⟩:=r;cases k with
  |fz=>exact h
  | «at» i=>obtain⟨_,_,_,_,e⟩:=h;exact e
  |new=>trivial
  |ro=>trivial
theorem WVl.mono(e:aH B B'):∀{vs:List V} {rs:List RV},WVl B σ vs rs->WVl B' σ vs rs
 | [],[],_=>trivial
 |v::vs,r::rs,⟨h,t⟩=>by
  refine⟨?_,WVl.mono e t⟩;obtain⟨d,k⟩:=r;cases k with
  |fz=>exact Rep.mono e h
  | «at» i=>exact h
  |new=>trivial
  |ro=>trivial
def nH(r:RV)(ρ:Rho):Option (D×Rho):=match r.2 with
 | .fz=>some (r.1,ρ)
 | .at i=>match ρ[i]? with
  |some (.own d)=>some (d,ρ.set i<|.fz d)
  |some (.fz d)=>some (d,ρ)
  |_=>none
 |_=>none
def i7:List RV->Rho->Option (List D×Rho)
 | [],ρ=>some ([],ρ)
 |r::rs,ρ=>(nH r ρ).bind λx=>(i7 rs x.2).map λy=>(x.1::y.1,y.2)
section
variable{F:Fr}{B H:Hp}{σ:St}{ρ ρ':Rho}
theorem Rel.frz(R:Rel F B H σ ρ)(w:Iy B σ v r)(e:nH r ρ=some (d,ρ')):∃B',Rel F B' H σ ρ'/\Rep B' v d/\Ext σ ρ B H ρ' B' H:=by
 obtain⟨c,k⟩:=r;cases k with
 |fz=>cases e;exact⟨B,R,w,Ext.refl _ _ _ _⟩
 |new=>cases e
 |ro=>cases e
 | «at» i=>
  have a:(match ρ[i]? with
   |some (.own d)=>some (d,ρ.set i<|.fz d)
   |some (.fz d)=>some (d,ρ)
   |_=>none)=some (d,ρ'):=e
  cases q : ρ[i]? with
  |none=>rw[q]at a;cases a
  |some s=>
   rw[q]at a;cases s with
   |own c=>cases a;exact R.Fb q w
   |fz c=>
    cases a;obtain⟨x,b,f⟩:=R.slot i _ q;have w' : σ[i]?=some (some v):=w;rw[w']at b;cases b
    exact⟨B,R,f,Ext.refl _ _ _ _⟩
   |no=>cases a
   |ex=>cases a
   |io c=>cases a
   |ro c=>cases a
theorem Rel.LD:∀{rs:List RV} {vs:List V} {ds:List D} {B:Hp} {ρ ρ':Rho},Rel F B H σ ρ->WVl B σ vs rs->i7 rs ρ=some (ds,ρ')->∃B',Rel F B' H σ ρ'/\a6 B' vs ds/\Ext σ ρ B H ρ' B' H
 | [],[],ds,B,ρ,ρ',R,_,e=>by cases e;exact⟨B,R,.nil,Ext.refl _ _ _ _⟩
 |r::rs,v::vs,ds,B,ρ,ρ',R,⟨w,ws⟩,e=>by
  obtain⟨x,i,e⟩:=zaa e;obtain⟨y,j,e⟩:=zab e;cases e;obtain⟨m,g,l,b⟩:=R.frz w i;obtain⟨f,R2,a,c⟩:=Rel.LD g (ws.mono b.sB) j;exact⟨f,R2,.cons (l.mono c.sB) a,b.trans c⟩
 | [],_::_,_,_,_,_,_,h,_=>h.elim
 |_::_,[],_,_,_,_,_,h,_=>h.elim
end
def oZ(m:Rho->Option (List RV×Rho)):PM:=fun ρ=>(m ρ).bind λx=>(i7 x.1 x.2).bind λy=>cIf (y.1.length<=sizeLine) (some ((.tuple y.1,.fz),y.2)) none
def xr(m:Rho->Option (List RV×Rho)):PM:=fun ρ=>(m ρ).bind λx=>(i7 x.1 x.2).bind λy=>cIf (y.1.length<=sizeLine) (some ((.list y.1,.new),y.2)) none
theorem jY(h:MA t m):ME (HW t) (oZ m):=by
 intro F B H σ ρ r ρ' Q R e q
 walk_at "q3"
 obtain⟨o,e⟩:=cO e
 ·cases e
  walk_at "q9"
  refine⟨by rw[g.length];exact o,λp f=>?_⟩
  have:=ik (Q1:=(.tuple y.1,true)) (k:=λQ=>∀p,b p=none->Q (.ref p) (upd b p<|.tup vs)) (Q:=Q) R2 ⟨vs,g,λQ h=>h⟩ λv B' H' E c d N=>q v B' H' (a.trans<|A.trans E) c d λp z=>by cases z
  exact this p f
theorem zI(h:MA t m):ME (L6 t) (xr m):=by
 intro F B H σ ρ r ρ' Q R e q
 walk_at "q3"
 obtain⟨o,e⟩:=cO e
 ·cases e
  walk_at "q9"
  refine⟨by rw[g.length];exact o,λp f=>?_⟩
  have:=ik (Q1:=(.list y.1,true)) (k:=λQ=>∀p,b p=none->Q (.ref p) (upd b p<|.lst vs)) (Q:=Q) R2 ⟨vs,g,λQ h=>h⟩ λv B' H' E c d N=>q v B' H' (a.trans<|A.trans E) c d λp s u=>a.live p (N p s u)
  exact this p f
def Views(B H:Hp):List V->List D->Prop
 | [],[]=>True
 |v::vs,d::ds=>View B H v d/\Views B H vs ds
 |_,_=>False
theorem Vl.views(R:Rel F B H σ ρ):∀{vs:List V} {rs:List RV},Vl F B H σ ρ vs rs->Views B H vs (rs.map (·.1))
 | [],[],_=>trivial
 |v::vs,r::rs,⟨⟨h,n⟩,t⟩=>⟨h.view R,Vl.views R t⟩
def kT(r:List V->Hp->VK->Prop)(g:List D->Option (D×Bool)):Prop:=∀(B H:Hp) (vs:List V) (ds:List D) (Q1:D×Bool),aH B H->Views B H vs ds->g ds=some Q1->mK B H Q1 λQ=>r vs H Q
def mCB(g:List D->Option (D×Bool))(m:Rho->Option (List RV×Rho)):PM:=fun ρ=>(m ρ).bind λx=>(g (x.1.map (·.1))).map λQ1=>(mE Q1,x.2)
theorem cU(J:kT r g)(h:MA t m):ME (tCB r t) (mCB g m):=by
 walk_at "qa"
 refine h F B H σ ρ x.1 x.2 _ R G λvs f u d a C=>?_
 exact ik a (J f u vs _ l a.sub (C.views a) b) λw o v s A D y=>q w o v (d.trans s) A D λp E L=>d.live p (y p E L)
def vt:Rho->Option (Option Int×Rho):=fun ρ=>some (none,ρ)
def asI:RV×Rho->Option (Int×Rho)
 |((.int i,_),ρ)=>some (i,ρ)
 |_=>none
theorem Fe(h:asI x=some (b,ρ)):x.1.1=.int b/\x.2=ρ:=by
 obtain⟨⟨d,k⟩,a⟩:=x;cases d with
 |int c=>cases h;exact⟨rfl,rfl⟩
 |_=>cases h
def Fg(a:PM):Rho->Option (Option Int×Rho):=fun ρ=>((sv a ρ).bind asI).map λx=>(some x.1,x.2)
def MO(t:TO)(m:Rho->Option (Option Int×Rho)):Prop :=
 ∀(F:Fr) (B H:Hp) (σ:St) (ρ:Rho) (b:Option Int) (ρ':Rho) (Q:Option Int->Hp->Prop),Rel F B H σ ρ->m ρ=some (b,ρ')->
  (∀B' H',Ext σ ρ B H ρ' B' H'->Rel F B' H' σ ρ'->Q b H')->t σ H Q
theorem Iz:MO A0 vt:=by
 intro F B H σ ρ b ρ' Q R e q;cases e;exact q B H (Ext.refl _ _ _ _) R
theorem IA(ha:ME I a):MO (Kx I) (Fg a):=by
 intro F B H σ ρ b ρ' Q R e q;obtain⟨y,i,e⟩:=zab e;obtain⟨x,j,l⟩:=zaa i;cases e;obtain⟨m,o⟩:=Fe (b:=y.1) (ρ:=y.2) l;refine ha.sv F B H σ ρ x.1 x.2 _ R j λv f g d c h p=>?_
 have:=h.view c;rw[m]at this;rw[o]at d c;exact⟨y.1,this.int,q f g d c⟩
def SlJ(r:V->Option Int->Option Int->Hp->VK->Prop)(g:D->Option Int->Option Int->Option (D×Bool)):Prop :=
 ∀(B H:Hp) (x:V) (c:D) (l u:Option Int) (Q1:D×Bool),aH B H->View B H x c->g c l u=some Q1->mK B H Q1 λQ=>r x l u H Q
def mSl(g:D->Option Int->Option Int->Option (D×Bool))(a:PM)(l u:Rho->Option (Option Int×Rho)):PM:=fun ρ=>(sv a ρ).bind λx=>(l x.2).bind λy=>(u y.2).bind λz=>(qy z.2 x.1).bind λr=>(g r.1 y.1 z.1).map λQ1=>(mE Q1,z.2)
theorem OE(J:SlJ r g)(ha:ME U a)(hl:MO tl l)(M:MO Y u):ME (tSl r U tl Y) (mSl g a l u):=by
 intro F B H σ ρ r0 ρ' Q R e q
 walk_at "q3"
 obtain⟨z,X,e⟩:=zaa e;obtain⟨O,Z,e⟩:=zaa e;obtain⟨N,I,e⟩:=zab e;cases e
 walk_at "q2"
 refine hl F E C σ x.2 y.1 y.2 _ f S λh o c R2=>?_
 refine M F h o σ y.2 z.1 z.2 _ R2 X λi s d b=>?_
 obtain⟨T,n3⟩:=L.next (c.trans d) b (md G) Z;exact ik b (J i s v O.1 y.1 z.1 N b.sub (T.view b) I) λw j t m P V D=>q w j t ((A.trans<|c.trans d).trans m) P V λp z1 z2=>(A.trans<|c.trans d).live p (D p z1 z2)
end Mir
namespace Mir
open L2
variable [Zc]
mutual
def dZ:D->Bool
 | .none=>true
 | .bool _=>true
 | .int _=>true
 | .str _=>true
 | .list _=>false
 | .tuple ds=>a8 ds
 | .dict _=>false
def a8:List D->Bool
 | []=>true
 |d::ds=>dZ d&&a8 ds
end
mutual
theorem Rep.cP(k:∀q xs,B q=some (.tup xs)->B' q=some (.tup xs)):∀{v:V} {d:D},Rep B v d->dZ d=true->Rep B' v d
 |_,_,.non,_=>.non
 |_,_,.bl b,_=>.bl b
 |_,_,.int i,_=>.int i
 |_,_,.str x,_=>.str x
 |_,_,.lst _ _,h=>by simp[dZ]at h
 |_,_,.dct _ _,h=>by simp[dZ]at h
 |_,_,.tup h r,e=>.tup (k _ _ h) (a6.cP k r (by simpa[dZ]using e))
theorem a6.cP(k:∀q xs,B q=some (.tup xs)->B' q=some (.tup xs)):∀{v:List V} {d:List D},a6 B v d->a8 d=true->a6 B' v d
 |_,_,.nil,_=>.nil
 |_,_,.cons a b,e=>by
  simp only[a8,Bool.and_eq_true]at e;exact .cons (Rep.cP k a e.1) (a6.cP k b e.2)
end
theorem bc.cP(k:∀q xs,B q=some (.tup xs)->B' q=some (.tup xs)):∀{v:List<|Key×V} {d:List<|D×D},bc B v d->a8 (d.map (·.2))=true->bc B' v d
 |_,_,.nil,_=>.nil
 |_,_,.cons c a b,e=>by
  simp only[List.map_cons,a8,Bool.and_eq_true]at e;exact .cons c (Rep.cP k a e.1) (bc.cP k b e.2)
def dk(d:D)(o:Bool):Bool:=match o,d with
 |true,.list ds=>a8 ds
 |true,.dict es=>a8 (es.map (·.2))
 |true,_=>false
 |false,d=>dZ d
structure Post(B H:Hp)(v:V)(B' H':Hp)(d:D)(o:Bool):Prop where
 eH:aH H H'
 eB:aH B B'
 sub:aH B' H'
 nb:∀q,H q≠none->B q=none->B' q=none
 tB:∀q xs,H' q=some (.tup xs)->B' q=some (.tup xs)
 nz:∀q o u,H' q=some (.frz o u)->H q≠none
 val:if o=true then∃p,v=.ref p/\H p=none/\B' p=none/\Own B' H' p d else Rep B' v d
def spM(f:List D->Option (D×Bool)):Sp:=λvs H Q _=>∃B ds d o,aH B H/\(∀q xs,H q=some (.tup xs)->B q=some (.tup xs))/\a6 B vs ds/\f ds=some (d,o)/\∀v B' H',Post B H v B' H' d o->Q v H'
def kO(d:D)(o:Bool):RV:=(d,if o=true then .new else .fz)
def cM(f:List D->Option (D×Bool))(m:Rho->Option (List RV×Rho)):PM:=fun ρ=>(m ρ).bind λx=>(f (x.1.map (·.1))).bind λw=>
 if dk w.1 w.2=true then some (kO w.1 w.2,x.2)else(i7 x.1 x.2).map λy=>(kO w.1 w.2,y.2)
theorem Views.reps(e:aH B H):∀{vs:List V} {ds:List D},Views B H vs ds->a6 H vs ds
 | [],[],_=>.nil
 |v::vs,d::ds,⟨h,t⟩=>.cons (h.rep e) (Views.reps e t)
theorem xu:∀{rs:List RV} {ρ ρ':Rho} {ds:List D},(∀r∈rs,∀i,r.2=.at i->∃s,ρ[i]?=some s/\slD s=r.1)->i7 rs ρ=some (ds,ρ')->ds=rs.map (·.1)
 | [],_,_,_,_,e=>by cases e;rfl
 |r::rs,ρ,ρ',ds,h,e=>by
  obtain⟨x,f,e⟩:=zaa e;obtain⟨y,n,e⟩:=zab e;cases e;have m:x.1=r.1/\∀(i:Nat) (s:Sl),ρ[i]?=some s->∃s',x.2[i]?=some s'/\slD s'=slD s:=by
   obtain⟨d,k⟩:=r;cases k with
   |fz=>cases f;exact⟨rfl,λi s h=>⟨s,h,rfl⟩⟩
   |new=>cases f
   |ro=>cases f
   | «at» i=>
    obtain⟨s,b,g⟩:=h (d,.at i) (by simp) i rfl
    have a:(match ρ[i]? with
     |some (.own d)=>some (d,ρ.set i<|.fz d)
     |some (.fz d)=>some (d,ρ)
     |_=>none)=some x:=f
    rw[b]at a;cases s with
    |own c=>
     cases a;refine⟨g,λj t l=>?_⟩
     by_cases z:j=i
     ·subst z
      rw[b]at l;cases l
      obtain⟨hl,_⟩:=zac b;exact⟨.fz c,by rw[zav hl],rfl⟩
     ·exact⟨t,by rw[zaA λe=>z e.symm];exact l,rfl⟩
    |fz c=>cases a;exact⟨g,λi s h=>⟨s,h,rfl⟩⟩
    |no=>cases a
    |ex=>cases a
    |io c=>cases a
    |ro c=>cases a
  rw[zaz,m.1,xu (ρ:=x.2) (λr o i hi=>?_) n]
  obtain⟨s,b,g⟩:=h r (zak _ o) i hi;obtain⟨s',h3,h4⟩:=m.2 i s b;exact⟨s',h3,h4.trans g⟩
theorem Vl.at:∀{vs:List V} {rs:List RV},Vl F B H σ ρ vs rs->∀r∈rs,∀i,r.2=.at i->∃s,ρ[i]?=some s/\slD s=r.1
 | [],[],_,E,D,i,hi=>by cases D
 |v::vs,r::rs,⟨⟨h,_⟩,t⟩,E,D,i,hi=>by
  rcases zaf D with rfl|D
  ·obtain⟨d,k⟩:=E
   cases(show k=.at i from hi);obtain⟨s,G,_,J,_⟩:=h;exact⟨s,G,J⟩
  ·exact Vl.at t E D i hi
theorem df(h:MA t m):ME (i6 (spM f) [] E t) (cM f m):=by
 intro F B H σ ρ Z ρ' Q R e q;obtain⟨x,W,e⟩:=zaa e;obtain⟨w,S,e⟩:=zaa e;refine h F B H σ ρ x.1 x.2 _ R W λvs u b l g D=>?_
 rw[zaR]
 by_cases C:dk w.1 w.2=true
 ·rw[if_pos C]at e
  cases e;refine⟨b,_,w.1,w.2,aH.refl _,λ_ _ z=>z,(D.views g).reps g.sub,S,λv B' H' P=>?_⟩
  let a:Hp:=λq=>if b q=none then B' q else u q
  have c:∀q,b q≠none->a q=u q:=λq z=>if_neg z
  have new:∀q,b q=none->a q=B' q:=λq z=>if_pos z
  have eB:aH u a:=λq o z=>by rw[c q (by rw[g.sub q o z];simp)];exact z
  have sub:aH a H':=λq o z=>by
   by_cases y:b q=none
   ·rw[new q y]at z;exact P.sub q o z
   ·rw[c q y]at z;exact P.eH q o (g.sub q o z)
  have nb:∀q,b q≠none->u q=none->a q=none:=λq y z=>by rw[c q y];exact z
  have tB:∀q xs,H' q=some (.tup xs)->a q=some (.tup xs):=λq xs z=>by
   cases y:b q with
   |none=>rw[new q y];exact P.tB q xs z
   |some o=>
    have:=P.eH q o y;rw[z]at this;cases this;rw[c q (by rw[y];simp)];exact g.cL q xs y
  have J:∀q xs,B' q=some (.tup xs)->a q=some (.tup xs):=λq xs z=>tB q xs (P.sub q _ z)
  have R2:=g.grow eB P.eH sub nb tB P.nz;have A:Ext σ x.2 u b x.2 a H':=Ext.grow eB P.eH nb;obtain⟨d,o⟩:=w;cases o with
  |false=>
   have pv:Rep B' v d:=P.val;exact q v a H' (l.trans A) R2 (show Rep a v d from pv.cP J C) λp z=>by cases z
  |true=>
   obtain⟨p,rfl,s,G,h3⟩:∃p,v=.ref p/\b p=none/\B' p=none/\Own B' H' p d:=P.val;have fr:=g.free s;refine q _ a H' (l.trans A) R2 ⟨p,rfl,by rw[new p s];exact G,fr.2.1,?_,fr.2.2⟩ λX _ z=>by cases z;exact l.live p s
   cases h3 with
   |lst h r=>exact .lst h (r.cP J C)
   |dct h r=>exact .dct h (r.cP J C)
 ·rw[if_neg C]at e
  obtain⟨y,T,e⟩:=zab e;cases e;obtain⟨a,R2,V,A⟩:=Rel.LD g D.weak T;have hd:=xu D.at T;rw[hd]at V;refine⟨a,_,w.1,w.2,R2.sub,R2.cL,V,S,λv B' H' P=>?_⟩
  have N:=R2.grow P.eB P.eH P.sub P.nb P.tB P.nz;have L:Ext σ y.2 a b y.2 B' H':=Ext.grow P.eB P.eH P.nb;obtain⟨d,o⟩:=w;cases o with
  |false=>
   have pv:Rep B' v d:=P.val;exact q v B' H' (l.trans<|A.trans L) N pv λp z=>by cases z
  |true=>
   obtain⟨p,rfl,s,G,h3⟩:∃p,v=.ref p/\b p=none/\B' p=none/\Own B' H' p d:=P.val;have fr:=R2.free s;exact q _ B' H' (l.trans<|A.trans L) N ⟨p,rfl,G,fr.2.1,h3,fr.2.2⟩ λX _ z=>by cases z;exact l.live p s
def xw(B H:Hp)(x:V)(H':Hp)(d:D):Prop:=(H'=H/\Rep B x d)\/∃p xs G,d=.tuple G/\x=.ref p/\H p=none/\H'=upd H p (.tup xs)/\a6 B xs G
def tD(G B:Hp)(J:It)(ds:List D):Prop:=∀H,aH G H->J.stop ds.length H/\∀(i:Nat) (d:D),ds[i]?=some d->J.go i H/\∀x H',J.yld i H x H'->xw B H x H' d
def MI(t:TI)(m:Rho->Option (List D×Rho)):Prop :=
 ∀(F:Fr) (B H:Hp) (σ:St) (ρ:Rho) (ds:List D) (ρ':Rho) (Q:It->Hp->Prop),Rel F B H σ ρ->m ρ=some (ds,ρ')->
  (∀J B' H',Ext σ ρ B H ρ' B' H'->Rel F B' H' σ ρ'->tD H' B' J ds->Q J H')->t σ H Q
def MF(t:TI)(m:Rho->Option (List D×Rho)):Prop :=
 ∀(F:Fr) (B H:Hp) (σ:St) (ρ:Rho) (ds:List D) (ρ':Rho) (Q:It->Hp->Prop),Rel F B H σ ρ->m ρ=some (ds,ρ')->
  (∀J B' H',Ext σ ρ B H ρ' B' H'->Rel F B' H' σ ρ'->tD B' B' J ds->Q J H')->t σ H Q
def i8(h:Rd H p<|.lst xs):SqL K H p xs:=.inl h
theorem Fh(h:Rd G p<|.lst xs)(r:a6 B xs ds):tD G B (Itl K p) ds:=λH s=>by
 have h':SqL K H p xs:=i8 (fB s h);refine⟨⟨xs,h',by rw[r.length];exact zap _⟩,λi d hd=>?_⟩
 obtain⟨x,a,e⟩:=r.get i d hd;refine⟨⟨xs,x,h',a⟩,λy H' b=>.inl ⟨b.1,?_⟩⟩
 have:=b.2 xs h';rw[a]at this;cases this;exact e
theorem Fi(h:G p=some (.tup xs))(r:a6 B xs ds):tD G B (Itt K p) ds:=λH s=>by
 have h':SqT K H p xs:=.inl (.inl<|s _ _ h);refine⟨⟨xs,h',by rw[r.length];exact zap _⟩,λi d hd=>?_⟩
 obtain⟨x,a,c⟩:=r.get i d hd;refine⟨⟨xs,x,h',a⟩,λy H' b=>.inl ⟨b.1,?_⟩⟩
 have:=b.2 xs h';rw[a]at this;cases this;exact c
def asL:D->Option (List D)
 | .list ds=>some ds
 |_=>none
def asT:D->Option (List D)
 | .tuple ds=>some ds
 |_=>none
theorem Mv(h:asL d=some ds):d=.list ds:=by cases d<;>first|cases h;rfl|cases h
theorem Fj(h:asT d=some ds):d=.tuple ds:=by cases d<;>first|cases h;rfl|cases h
def vx(a:PM):Rho->Option (List D×Rho):=fun ρ=>(sv a ρ).bind λx=>(asL x.1.1).map λds=>(ds,x.2)
def C7(a:PM):Rho->Option (List D×Rho):=fun ρ=>(sv a ρ).bind λx=>(asT x.1.1).map λds=>(ds,x.2)
def P9(a:PM):Rho->Option (List D×Rho):=fun ρ=>(sv a ρ).bind λx=>(nH x.1 x.2).bind λy=>(asL y.1).map λds=>(ds,y.2)
section
variable{K:zag}{ta:TE}{a:PM}
theorem vy(ha:ME ta a):MI (xc K ta) (vx a):=by
 intro F B H σ ρ ds ρ' Q R e q;obtain⟨x,G,e⟩:=zaa e;obtain⟨c,d,e⟩:=zab e;cases e
 walk_at "q2"
 have w:=L.view f;rw[Mv d]at w;obtain⟨p,xs,rfl,b,g⟩:=w.list f.sub;exact⟨p,rfl,⟨xs,i8 b⟩,q _ E C A f<|Fh b g⟩
theorem Mw(ha:ME ta a):MI (HQ K ta) (C7 a):=by
 intro F B H σ ρ ds ρ' Q R e q;obtain⟨x,G,e⟩:=zaa e;obtain⟨c,d,e⟩:=zab e;cases e
 walk_at "q2"
 have w:=L.view f;rw[Fj d]at w;obtain⟨p,xs,rfl,b,g⟩:=w.tuple f.sub;exact⟨p,rfl,⟨xs,.inl<|.inl b⟩,q _ E C A f<|Fi b g⟩
theorem My(ha:ME ta a):MF (HQ K ta) (C7 a):=by
 intro F B H σ ρ ds ρ' Q R e q;obtain⟨x,G,e⟩:=zaa e;obtain⟨c,d,e⟩:=zab e;cases e
 walk_at "q2"
 have w:=L.view f;rw[Fj d]at w;obtain⟨p,xs,rfl,b,g⟩:=w.tuple f.sub;exact⟨p,rfl,⟨xs,.inl<|.inl b⟩,q _ E C A f<|Fi (f.cL _ _ b) g⟩
end
def xx(lo:Int)(n:Nat):List D:=(List.range n).map λ(k:Nat)=>PyData.int (lo+(k:Int))
theorem Mz:tD G B (Itr lo n) (xx lo n):=λH _=>by
 refine⟨by simp[xx,Itr],λi d hd=>?_⟩
 rw[xx,zao]at hd;obtain⟨k,b,c⟩:=zab hd;have hk:=zac b;obtain⟨hl,hk⟩:=hk;rw[List.getElem_range]at hk;rw[List.length_range]at hl;subst hk;refine⟨hl,λx H' a=>.inl ⟨a.1,?_⟩⟩
 rw[a.2,<-c];exact .int _
def rg1:List RV×Rho->Option (List D×Rho)
 |([(.int j,_)],ρ)=>cIf (-(2^62)<=j/\j<2^62) (some (xx 0 j.toNat,ρ)) none
 |_=>none
def rg2:List RV×Rho->Option (List D×Rho)
 |([(.int i,_),(.int j,_)],ρ)=>cIf (-(2^62)<=i/\i<2^62/\-(2^62)<=j/\j<2^62) (some (xx i (j-i).toNat,ρ)) none
 |_=>none
def zJ(m:Rho->Option (List RV×Rho)):Rho->Option (List D×Rho):=fun ρ=>(m ρ).bind rg1
def Qa(m:Rho->Option (List RV×Rho)):Rho->Option (List D×Rho):=fun ρ=>(m ρ).bind rg2
section
variable{ta:TA}{m:Rho->Option (List RV×Rho)}
theorem Fl(h:MA ta m)(F:Fr)(B H:Hp)(σ:St)(ρ:Rho)(ds:List D)(ρ':Rho)(Q:It->Hp->Prop)(R:Rel F B H σ ρ)(e:zJ m ρ=some (ds,ρ'))
  (q:∀J B' H',Ext σ ρ B H ρ' B' H'->Rel F B' H' σ ρ'->(∀G,tD G B' J ds)->Q J H'):EC ta σ H Q:=by
 obtain⟨x,l,e⟩:=zaa e;refine h F B H σ ρ x.1 x.2 _ R l λvs d g f b i=>?_
 obtain⟨rs,o⟩:=x;unfold rg1 at e;split at e
 ·rename_i j k p a
  cases a;obtain⟨c,e⟩:=cO e
  ·cases e
   match vs,i with
   | [v],⟨⟨n,_⟩,_⟩=>
    have:v=.int j:=(n.view b).int;subst this;exact⟨j,rfl,c.1,c.2,q _ d g f b λG=>Mz⟩
 ·cases e
def IB(h:MA ta m):MF (EC ta) (zJ m):=λF B H σ ρ ds ρ' Q R e q=>Fl h F B H σ ρ ds ρ' Q R e λJ B' H' E a I=>q J B' H' E a (I _)
end
end Mir
namespace Mir
open L2
variable [Zc]
def bQ(ρ:Rho)(i:Nat):Sl:=match ρ[i]? with
 |some (.own d)=>.ro d
 |some (.io d)=>.ro d
 |some .ex=>.no
 |some s=>s
 |none=>.no
def asF:RV->Option D
 |(d,.fz)=>some d
 |_=>none
theorem MB(h:asF r=some d):r=(d,.fz):=by
 obtain⟨c,k⟩:=r;cases k with
 |fz=>cases h;rfl
 |_=>cases h
def gY(c:Rho->Option (Bool×Rho))(e:PM)(ρn:Rho):List D->Option (List D)
 | []=>some []
 |d::ds=>(c (.fz d::ρn)).bind λb=>if b.1=true then(sv e (.fz d::ρn)).bind λy=>(asF y.1).bind λz=>(gY c e ρn ds).map (z::·)else gY c e ρn ds
def mLC(fr:List<|Str×Nat)(it:Rho->Option (List D×Rho))(c:Rho->Option (Bool×Rho))(e:PM):PM:=fun ρ=>(it ρ).bind λx=>(gY c e (fr.map λp=>bQ x.2 p.2) x.1).bind λG=>cIf (G.length<sizeLine) (some ((.list G,.new),x.2)) none
def mF:Rho->Option (Bool×Rho):=fun ρ=>some (true,ρ)
theorem rf:MT Oy mF:=by
 intro F B H σ ρ b ρ' Q R e q;cases e;exact q B H (Ext.refl _ _ _ _) R
def F0(H:Hp):Fr:=⟨λ_=>none,λ_=>none,[],λq=>H q≠none⟩
theorem C8:bQ ρ i≠.ex:=by
 unfold bQ;cases h : ρ[i]? with
 |none=>simp
 |some s=>cases s<;>simp
theorem rg:(bQ ρ i).fT=false:=by
 unfold bQ;cases h : ρ[i]? with
 |none=>rfl
 |some s=>cases s<;>rfl
theorem Rel.inner(R:Rel F B H σ ρ)(fr:List<|Str×Nat)(h:Rep B v d):Rel (F0 H) B H (some v::bg σ fr) (.fz d::fr.map λp=>bQ ρ p.2):=by
 have r:∀(i:Nat) (s:Sl),(Sl.fz d::fr.map λp=>bQ ρ p.2)[i]?=some s->s.fT=true->False:=λi s a b=>by
  cases i with
  |zero=>cases a;cases b
  |succ i=>
   have f:(fr.map λp=>bQ ρ p.2)[i]?=some s:=by simpa using a
   rw[zao]at f;obtain⟨p,_,e⟩:=zab f;rw[<-e,rg]at b;cases b
 have n:∀i:Nat,(Sl.fz d::fr.map λp=>bQ ρ p.2)[i]?=some Sl.ex->False:=λi a=>by
  cases i with
  |zero=>cases a
  |succ i=>
   have f:(fr.map λp=>bQ ρ p.2)[i]?=some Sl.ex:=by simpa using a
   rw[zao]at f;obtain⟨p,_,e⟩:=zab f;exact absurd e C8
 refine⟨R.sub,(λ_ _ z=>by cases z),(λ_ _ z=>by cases z),λ_ z _=>absurd rfl z,by simp[bg],λi s hs=>?_,λi j s t p a b=>(r i s a b).elim,λi d p a=>(r i _ a rfl).elim,(λx m=>by cases m),λi d a=>(r i _ a rfl).elim,R.cL,(λi a=>(n i a).elim),λq o u h z=>by rw[z]at h;cases h⟩
 cases i with
 |zero=>cases hs;exact⟨v,rfl,h⟩
 |succ i=>
  have l:(fr.map λp=>bQ ρ p.2)[i]?=some s:=by simpa using hs
  rw[zao]at l;obtain⟨p,y,e⟩:=zab l;have g:∀x,σ[p.2]?=some (some x)->(some v::bg σ fr)[i+1]?=some (some x):=λx m=>by
   rw[zat];unfold bg;rw[zao,y,zaT,List.getD_eq_getElem?_getD,m];rfl
  unfold bQ at e;cases q : ρ[p.2]? with
  |none=>rw[q]at e;subst e;trivial
  |some w=>
   rw[q]at e;have sl:=R.slot p.2 w q;cases w with
   |no=>subst e;trivial
   |ex=>subst e;trivial
   |fz c=>subst e;obtain⟨x,a,b⟩:=sl;exact⟨x,g _ a,b⟩
   |own c=>subst e;obtain⟨x,a,_,b⟩:=sl;exact⟨x,g _ a,b⟩
   |io c=>subst e;obtain⟨x,a,_,b⟩:=sl;exact⟨x,g _ a,b⟩
   |ro c=>subst e;obtain⟨x,a,b⟩:=sl;exact⟨x,g _ a,b⟩
theorem me(I:∀(i:Nat) (s:Sl),ρ[i]?=some s->s.fT=true->False)(E:Ext σ ρ B H ρ' B' H'):aH H H'/\∀q,H q≠none->B q=none->B' q=none:=by
 have k:∀q o,H q=some o->H' q=some o/\(B q=none->B' q=none):=λq o h=>E.keep q o h λi s a b=>(I i s a b).elim
 refine⟨λq o h=>(k q o h).1,λq h z=>?_⟩
 cases e:H q with
 |none=>exact absurd e h
 |some o=>exact(k q o e).2 z
theorem jZ{fr:List<|Str×Nat}(i:Nat)(s:Sl)(M:(Sl.fz d::fr.map λp=>bQ ρ p.2)[i]?=some s)(I:s.fT=true):False:=by
 cases i with
 |zero=>cases M;cases I
 |succ i=>
  have a:(fr.map λp=>bQ ρ p.2)[i]?=some s:=by simpa using M
  rw[zao]at a;obtain⟨p,_,e⟩:=zab a;rw[<-e,rg]at I;cases I
theorem Be{c:Rho->Option (Bool×Rho)}{e:PM}(hc:MT tc c)(he:ME te e){F:Fr}{B1 Y:Hp}{σ:St}{I:Rho}{J:It}{ds out:List D}{Q:VK}(R1:Rel F B1 Y σ I)(I1:tD Y B1 J ds)(e2:gY c e (fr.map λp=>bQ I p.2) ds=some out)(hz:out.length<sizeLine)
  (q:∀v B' H',Ext σ I B1 Y I B' H'->Rel F B' H' σ I->Val F B' H' σ I v (.list out,.new)->(∀p,Kd.new=Kd.new->v=.ref p->Y p=none)->Q v H') :
  ∃W:Nat->Nat->List V->Hp->Prop,(∃m,W 0 m [] Y)/\∀i m O M,W i m O M->O.length<sizeLine/\
 ((J.stop i M/\∀D,M D=none->Q (.ref D) (upd M D<|.lst O))\/
  (J.go i M/\∀v U,J.yld i M v U->tc (some v::bg σ fr) U λb H4=>
   if b=true then te (some v::bg σ fr) H4 λy H5=>∃m',m'<m/\W (i+1) m' (O++[y]) H5 else∃m',m'<m/\W (i+1) m' O H4)):=by
 refine⟨λi m O M=>m=ds.length-i/\i<=ds.length/\∃d done T1,aH B1 d/\aH Y M/\(∀q,Y q≠none->B1 q=none->d q=none)/\Rel F d M σ I/\a6 d O done/\gY c e (fr.map λp=>bQ I p.2) (ds.drop i)=some T1/\done++T1=out,
  ⟨ds.length,rfl,Nat.zero_le _,B1,[],out,aH.refl _,aH.refl _,λ_ _ z=>z,R1,.nil,e2,rfl⟩,?_⟩
 rintro i m O M ⟨rfl,hil,d,done,T1,eB,eH,nb,R2,T,l,a⟩
 have hlen:O.length<=out.length:=by rw[<-a,zau,T.length];lia
 refine⟨by lia,?_⟩
 by_cases n:i<ds.length
 ·refine .inr ?_
  obtain⟨go,yl⟩:=(I1 M eH).2 i ds[i] (zaC n);refine⟨go,λv U hy=>?_⟩
  rw[zbb n]at l;obtain⟨b,c1,r⟩:=zaa (show(c (.fz ds[i]::fr.map λp=>bQ I p.2)).bind _=some T1 from l)
  have had:∃B,aH d B/\aH M U/\(∀q,M q≠none->d q=none->B q=none)/\Rel F B U σ I/\Rep B v ds[i]:=by
   rcases yl v U hy with⟨rfl,C⟩|⟨p,xs,cs,h1,rfl,h3,rfl,h5⟩
   ·exact⟨d,aH.refl _,aH.refl _,λ_ _ z=>z,R2,C.mono eB⟩
   ·obtain⟨S,E3,e3⟩:=R2.xo (xs:=xs) h3
    refine⟨_,e3,jA h3,λq h z=>?_,S,?_⟩
    ·rw[au<|show q≠p from λy=>h (by rw[y];exact h3)];exact z
    ·rw[h1];exact .tup ay (h5.mono<|eB.trans e3)
  obtain⟨B,f,g,nb3,S,rv⟩:=had;have Ri:=S.inner fr rv;refine hc (F0 U) B U _ _ b.1 b.2 _ Ri c1 λP H4 s X=>?_
  obtain⟨j,H⟩:=me jZ s;have x:Rel F P H4 σ I:=S.grow s.sB j X.sub H X.cL X.nz;have L:∀q,Y q≠none->B1 q=none->P q=none:=λq h z=>by
   have C:M q≠none:=λy=>h (eH.free y)
   have h3:U q≠none:=λy=>C (g.free y)
   exact H q h3 (nb3 q C<|nb q h z)
  cases hb:b.1 with
  |false=>
   rw[hb,if_neg zam]at r;rw[if_neg zam];exact⟨ds.length-(i+1),by lia,rfl,n,P,done,T1,eB.trans<|f.trans s.sB,eH.trans<|g.trans j,L,x,T.mono<|f.trans s.sB,r,a⟩
  |true=>
   rw[hb,if_pos rfl]at r;rw[if_pos rfl];obtain⟨y,c3,r⟩:=zaa r;obtain⟨z,c4,r⟩:=zaa r;obtain⟨A,c5,c6⟩:=zab r;subst c6;have Ri4:=x.inner fr (rv.mono s.sB);refine he.sv (F0 H4) P H4 _ _ y.1 y.2 _ Ri4 c3 λu B5 H5 R Z V5 N5=>?_
   obtain⟨G,K⟩:=me jZ R;have R5o:Rel F B5 H5 σ I:=x.grow R.sB G Z.sub K Z.cL Z.nz;rw[MB c4]at V5;refine⟨ds.length-(i+1),by lia,rfl,n,B5,done++[z],A,eB.trans<|f.trans<|s.sB.trans R.sB,eH.trans<|g.trans<|j.trans G,λq h w=>?_,R5o,(T.mono<|f.trans<|s.sB.trans R.sB).append<|.cons V5 .nil,c5,by rw[zaD];exact a⟩
   have C:M q≠none:=λy=>h (eH.free y)
   have h3:U q≠none:=λy=>C (g.free y)
   have h4:H4 q≠none:=λy=>h3 (j.free y)
   exact K q h4 (L q h w)
 ·have hi':i=ds.length:=by lia
  subst hi';refine .inl ⟨(I1 M eH).1,λp hp=>?_⟩
  rw[List.drop_length]at l;cases l;rw[zaR]at a;subst a;have E2:Ext σ I B1 Y I d M:=Ext.grow eB eH nb;have:=ik (Q1:=(.list done,true)) (k:=λQ=>∀p,M p=none->Q (.ref p) (upd M p<|.lst O)) (Q:=Q) R2 ⟨O,T,λQ h=>h⟩ λv B' H' E R' V' N=>q v B' H' (E2.trans E) R' V' λp z1 z2=>E2.live p (N p z1 z2)
  exact this p hp
theorem xA(hi:MI U it)(I:MT tc c)(M:ME O e):ME (tLC fr U tc O) (mLC fr it c e):=by
 intro F B H σ ρ u ρ' Q R a q;obtain⟨x,i,a⟩:=zaa a;obtain⟨out,j,a⟩:=zaa a;obtain⟨l,a⟩:=cO a;cases a;refine hi F B H σ ρ x.1 x.2 _ R i λJ s t b g d=>?_
 obtain⟨ds,r⟩:=x;exact Be I M g d j l λv B' H' E f h N=>q v B' H' (b.trans E) f h λp m o=>b.live p (N p m o)
end Mir
namespace Mir
open L2
variable [Zc]
def Sl.put:Sl->D->Sl
 | .own _,d=>.own d
 | .io _,d=>.io d
 |s,_=>s
section
variable{F:Fr}{B H:Hp}{σ:St}{ρ ρ':Rho}{v:V}
theorem q9.at(e : M[i]?=σ[i]?)(h:q9 B H σ i s):q9 B H M i s:=by
 unfold q9 at h⊢;rw[e];exact h
theorem Rel.write(R:Rel F B H σ ρ)(hi : ρ[i]?=some s)(hs:s.fT=true)(I : σ[i]?=some (some<|.ref p))(no:(∀xs,o≠.tup xs)/\∀a u,o≠.frz a u)(M:Own B (upd H p o) p d) :
  Rel F B (upd H p o) σ (ρ.set i<|s.put d)/\Ext σ ρ B H (ρ.set i<|s.put d) B (upd H p o):=by
 obtain⟨L,w,E,o0⟩:=R.ownAt hi hs;rw[I]at w;cases w;have hl:i<ρ.length:=(zac hi).1;have W:(s.put d).fT=true/\slD (s.put d)=d:=by cases s<;>first|exact⟨rfl,rfl⟩|cases hs
 have ne:∀(j:Nat) (t:Sl) (q:Addr),j≠i->ρ[j]?=some t->t.isRef=true->σ[j]?=some (some<|.ref q)->q≠p:=λj t q C f l h3 z=>C (R.dist i j s t p hi hs f l I<|z▸h3).symm
 have m:∀(j:Nat) (t:Sl),(ρ.set i<|s.put d)[j]?=some t->∃r,ρ[j]?=some r/\t.fT=r.fT/\t.isRef=r.isRef/\(∀c,t=.own c->∃y,r=.own y)/\∀c,t=.io c->∃y,r=.io y:=λj t h=>by
  rcases get_set h with⟨rfl,rfl,_⟩|⟨_,h⟩
  ·refine⟨s,hi,?_⟩
   cases s with
   |own c=>exact⟨rfl,rfl,λ_ _=>⟨_,rfl⟩,λ_ z=>by cases z⟩
   |io c=>exact⟨rfl,rfl,(λ_ z=>by cases z),λ_ _=>⟨_,rfl⟩⟩
   |_=>cases hs
  ·exact⟨t,h,rfl,rfl,λc z=>⟨c,z⟩,λc z=>⟨c,z⟩⟩
 have T:F.H p=none\/∃x∈F.io,x.2=p:=by
  cases s with
  |own c=>exact .inl (R.mW i c p hi I)
  |io c=>
   obtain⟨L,K⟩:=R.ioN i c hi;obtain⟨f,_⟩:=R.fx _ K;have g : σ[i]?=some (some<|.ref L):=f;rw[I]at g;cases g;exact .inr ⟨_,K,rfl⟩
  |_=>cases hs
 have N:s.put d≠.ex:=by
  cases s with
  |own c=>simp[Sl.put]
  |io c=>simp[Sl.put]
  |_=>cases hs
 refine⟨⟨?_,R.sB,?_,R.nB,by rw[zaM];exact R.len,?_,?_,?_,?_,?_,?_,(λj h=>R.exv j (vp N h).1),λq a u h=>by
  by_cases z:q=p
  ·subst z;rw[ay]at h;cases h;exact absurd rfl (no.2 _ _)
  ·rw[au z]at h;exact R.nz q a u h⟩,⟨aH.refl _,?_,?_,?_,?_⟩⟩
 ·intro q u G
  rw[au<|show q≠p from λz=>by rw[z,E]at G;cases G];exact R.sub q u G
 ·intro q u f l
  have z:q≠p:=λz=>by
   rcases T with h|⟨x,J,h⟩
   ·rw[z,h]at f;cases f
   ·exact l x J (h.trans z.symm)
  rw[au z];exact R.sH q u f l
 ·intro j t A
  rcases get_set A with⟨rfl,rfl,_⟩|⟨C,A⟩
  ·cases s with
   |own c=>exact⟨p,I,E,M⟩
   |io c=>exact⟨p,I,E,M⟩
   |_=>cases hs
  ·have q:=R.slot j t A
   have k:∀q,q≠p->∀u,H q=some u->upd H p o q=some u:=λq z u h=>by rw[au z];exact h
   cases t with
   |no=>trivial
   |ex=>trivial
   |fz c=>exact q
   |own c=>obtain⟨q,f,l,h3⟩:=q;exact⟨q,f,l,h3.mono (aH.refl _)<|k q<|ne j _ q C A rfl f⟩
   |io c=>obtain⟨q,f,l,h3⟩:=q;exact⟨q,f,l,h3.mono (aH.refl _)<|k q<|ne j _ q C A rfl f⟩
   |ro c=>obtain⟨q,f,h3⟩:=q;exact⟨q,f,h3.mono (aH.refl _)<|k q<|ne j _ q C A rfl f⟩
 ·intro a b t u q f l h3 h4 Q S
  obtain⟨r,g,w,_,_,_⟩:=m a t f;obtain⟨u0,D,_,P,_,_⟩:=m b u h3;exact R.dist a b r u0 q g (w▸l) D (P▸h4) Q S
 ·intro j c q f l
  obtain⟨r,g,_,_,w,_⟩:=m j _ f;obtain⟨y,rfl⟩:=w c rfl;exact R.mW j y q g l
 ·intro x J
  obtain⟨f,c,l⟩:=R.fx x J;refine⟨f,?_⟩
  by_cases z:i=x.1
  ·subst z
   rw[hi]at l;cases l;exact⟨d,by rw[zav hl];rfl⟩
  ·exact⟨c,by rw[zaA z];exact l⟩
 ·intro j c f
  obtain⟨r,g,_,_,_,w⟩:=m j _ f;obtain⟨y,rfl⟩:=w c rfl;exact R.ioN j y g
 ·intro q xs h
  by_cases z:q=p
  ·subst z;rw[ay]at h;cases h;exact absurd rfl (no.1 xs)
  ·rw[au z]at h;exact R.cL q xs h
 ·intro q u h n
  refine⟨?_,id⟩;rw[au<|show q≠p from λz=>n i s hi hs (by rw[z];exact I)];exact h
 ·intro j t f l
  obtain⟨r,g,w,_,_,_⟩:=m j t f;exact⟨r,g,w▸l⟩
 ·intro j t f l
  obtain⟨r,g,_,w,_,_⟩:=m j t f;exact⟨r,g,w▸l⟩
 ·intro q h
  by_cases z:q=p
  ·subst z;rw[ay]at h;cases h
  ·rw[au z]at h;exact h
end
def tF:Option Sl->Option (List D)
 |some (.own (.list ds))=>some ds
 |some (.io (.list ds))=>some ds
 |_=>none
theorem Bf(h:tF s=some ds):∃t,s=some t/\t.fT=true/\slD t=.list ds:=by
 unfold tF at h;split at h
 ·cases h;exact⟨_,rfl,rfl,rfl⟩
 ·cases h;exact⟨_,rfl,rfl,rfl⟩
 ·cases h
def putAt(ρ:Rho)(i:Nat)(d:D):Rho:=match ρ[i]? with
 |some s=>ρ.set i (s.put d)
 |none=>ρ
def OF(r:V->List V->Hp->VK->Prop)(f:List D->List D->Option (List D×D)):Prop :=
 ∀(B H:Hp) (p:Addr) (xs:List V) (ds:List D) (vs:List V) (J:List D) (w:List D×D),H p=some (.lst xs)->a6 B xs ds->aH B H->a6 B vs J->f ds J=some w->
  ∃G v,a6 B G w.1/\Rep B v w.2/\∀Q:VK,Q v (upd H p<|.lst G)->r (.ref p) vs H Q
def Fn(i:Nat)(f:List D->List D->Option (List D×D))(m:Rho->Option (List RV×Rho)):PM:=fun ρ=>(tF ρ[i]?).bind λ_=>(m ρ).bind λx=>(i7 x.1 x.2).bind λy=>(tF y.2[i]?).bind λds=>(f ds y.1).map λw=>((w.2,.fz),putAt y.2 i<|.list w.1)
theorem Own.list{ds:List D}(h:Own B H p<|.list ds):∃xs,H p=some (.lst xs)/\a6 B xs ds:=by
 cases h with
 |lst h r=>exact⟨_,h,r⟩
theorem MC(J:OF r f)(h:MA t m):ME (tBM K "list" r (w6 i) t) (Fn i f m):=by
 intro F B H σ ρ r0 ρ' Q R e q;obtain⟨M,O,e⟩:=zaa e
 walk_at "q3"
 obtain⟨ds,U,e⟩:=zaa e;obtain⟨w,Y,e⟩:=zab e;cases e;obtain⟨s0,E,C,v⟩:=Bf O;obtain⟨p,L,hB,V⟩:=R.ownAt E C;rw[v]at V;obtain⟨T,D,_⟩:=V.list;refine⟨_,L,.inl ⟨rfl,T,SqL.of D⟩,?_⟩
 walk_at "q9"
 obtain⟨s,hs,ho,hd⟩:=Bf U;obtain⟨p',c,hB',j⟩:=R2.ownAt hs ho;rw[L]at c;cases c;rw[hd]at j;obtain⟨xs,hp,rx⟩:=j.list;obtain⟨P,u,N,ru,hr⟩:=J l b p xs ds vs y.1 w hp rx R2.sub g Y;obtain⟨Z,W⟩:=R2.write (o:=.lst P) (d:=.list w.1) hs ho L ⟨(λ_ z=>by cases z),λ_ _ z=>by cases z⟩ (.lst ay N)
 have ep:putAt y.2 i (.list w.1)=y.2.set i (s.put<|.list w.1):=by unfold putAt;rw[hs]
 rw[ep]at q;exact hr Q (q u l _ (a.trans<|A.trans W) Z ru λp z=>by cases z)
def OG(i:Nat)(f:List D->List D->Option (List D×D)):PM:=fun ρ=>(tF ρ[i]?).bind λds=>(f ds []).map λw=>((w.2,.fz),putAt ρ i<|.list w.1)
end Mir
namespace Mir
open L2
variable [Zc]
inductive Out where
 |nx (ρ:Rho)|rt (r:RV) (ρ:Rho)|bk (ρ:Rho)|ct (ρ:Rho)
abbrev SM:=Rho->Option Out
def lu(F:Fr)(D:Ends):Out->Prop
 | .nx ρ=>∀B H σ,Rel F B H σ ρ->D.nx σ H
 | .rt r ρ=>∀v B H σ,Rel F B H σ ρ->Val F B H σ ρ v r->D.rt v H
 | .bk ρ=>∀B H σ,Rel F B H σ ρ->D.bk σ H
 | .ct ρ=>∀B H σ,Rel F B H σ ρ->D.ct σ H
def MS(t:TS)(m:SM):Prop:=∀(F:Fr) (B H:Hp) (σ:St) (ρ:Rho) (o:Out) (D:Ends),Rel F B H σ ρ->m ρ=some o->lu F D o->t D σ H
def fv(a b:SM):SM:=fun ρ=>(a ρ).bind λo=>match o with
 | .nx ρ'=>b ρ'
 |o=>some o
theorem cQ(ha:MS t a)(I:MS u b):MS (Ez t u) (fv a b):=by
 walk_at "q6"
 refine ha F B H σ ρ x _ R f ?_;cases x with
 |nx ρ'=>exact λB' H' c d=>I F B' H' c ρ' o D d e q
 |rt r ρ'=>cases e;exact q
 |bk ρ'=>cases e;exact q
 |ct ρ'=>cases e;exact q
def jB:SM:=fun ρ=>some (.nx ρ)
theorem fU:MS Ey jB:=by
 intro F B H σ ρ o D R e q;cases e;exact q B H σ R
def j4:SM:=λ_=>none
theorem gZ:MS zz j4:=by
 intro F B H σ ρ o D R e q;cases e
def jm(a:PM):SM:=fun ρ=>(a ρ).map λx=>.rt x.1 x.2
theorem d8(ha:ME t a):MS (HN t) (jm a):=by
 intro F B H σ ρ o D R e q;obtain⟨x,d,e⟩:=zab e;cases e;exact ha F B H σ ρ x.1 x.2 _ R d λv B' H' E b c N=>q v B' H' σ b c
def OH:SM:=fun ρ=>some (.rt (.none,.fz) ρ)
def kU(a:PM):SM:=fun ρ=>(a ρ).map λx=>.nx x.2
theorem Bg(ha:ME t a):MS (w8 t) (kU a):=by
 intro F B H σ ρ o D R e q;obtain⟨x,c,e⟩:=zab e;cases e;exact ha F B H σ ρ x.1 x.2 _ R c λv B' H' E b d N=>q B' H' σ b
def mG(c:Rho->Option (Bool×Rho))(a b:SM):SM:=fun ρ=>(c ρ).bind λx=>if x.1=true then a x.2 else b x.2
theorem mL(M:MT tc c)(ha:MS t a)(I:MS u b):MS (EA tc t u) (mG c a b):=by
 walk_at "q6"
 refine M F B H σ ρ x.1 x.2 _ R f λB' H' E d=>?_
 by_cases h:x.1=true
 ·rw[if_pos h]at e⊢;exact ha F B' H' σ x.2 o D d e q
 ·rw[if_neg h]at e⊢;exact I F B' H' σ x.2 o D d e q
def ie(ρ:Rho)(i:Nat)(s:Sl):Option Rho:=match ρ[i]? with
 |none=>none
 |some (.io _)=>none
 |some _=>some (ρ.set i s)
theorem xB(h:ie ρ i s=some ρ') : ρ'=ρ.set i s/\∃I,ρ[i]?=some I/\∀d,I≠.io d:=by
 unfold ie at h;cases q : ρ[i]? with
 |none=>rw[q]at h;cases h
 |some I=>
  rw[q]at h;cases I with
  |io d=>cases h
  |no=>cases h;exact⟨rfl,_,rfl,λ_ z=>by cases z⟩
  |ex=>cases h;exact⟨rfl,_,rfl,λ_ z=>by cases z⟩
  |fz _=>cases h;exact⟨rfl,_,rfl,λ_ z=>by cases z⟩
  |own _=>cases h;exact⟨rfl,_,rfl,λ_ z=>by cases z⟩
  |ro _=>cases h;exact⟨rfl,_,rfl,λ_ z=>by cases z⟩
section
variable{F:Fr}{B H:Hp}{σ:St}{ρ ρ':Rho}{v:V}
theorem Rel.nI(R:Rel F B H σ ρ)(I:Rep B v d)(h:ie ρ i (.fz d)=some ρ'):Rel F B H (σ.set i<|some v) ρ':=by
 obtain⟨rfl,A,o,n⟩:=xB h;have hl:i<ρ.length:=(zac o).1;have m:i<σ.length:=R.len▸hl;have l:∀j,j≠i->(σ.set i<|some v)[j]?=σ[j]?:=λj k=>zaA λe=>k e.symm
 refine⟨R.sub,R.sB,R.sH,R.nB,by rw[zaM,zaM];exact R.len,?_,?_,?_,?_,?_,R.cL,(λj h=>by obtain⟨f,g⟩:=vp (by simp) h;rw[l j g];exact R.exv j f),R.nz⟩
 ·intro j s hs
  rcases get_set hs with⟨rfl,rfl,_⟩|⟨k,hs⟩
  ·exact⟨v,zav m,I⟩
  ·exact(R.slot j s hs).at (l j k)
 ·intro a b s t p f g h3 h4 q u
  rcases get_set f with⟨rfl,rfl,_⟩|⟨ha,f⟩
  ·cases g
  ·rcases get_set h3 with⟨rfl,rfl,_⟩|⟨w,h3⟩
   ·cases h4
   ·rw[l a ha]at q;rw[l b w]at u;exact R.dist a b s t p f g h3 h4 q u
 ·intro j c p f g
  rcases get_set f with⟨rfl,e,_⟩|⟨k,f⟩
  ·cases e
  ·rw[l j k]at g;exact R.mW j c p f g
 ·intro x y
  obtain⟨f,c,g⟩:=R.fx x y;have z:x.1≠i:=λz=>by rw[z,o]at g;cases g;exact n _ rfl
  exact⟨by rw[l _ z];exact f,c,by rw[zaA λe=>z e.symm];exact g⟩
 ·intro j c f
  rcases get_set f with⟨rfl,e,_⟩|⟨k,f⟩
  ·cases e
  ·exact R.ioN j c f
theorem Rel.C9(R:Rel F B H σ ρ)(I:Val F B H σ ρ v (d,.new))(h:ie ρ i (.own d)=some ρ'):Rel F B H (σ.set i<|some v) ρ':=by
 obtain⟨rfl,L,C,A⟩:=xB h;obtain⟨p,rfl,E,G,K,D⟩:=I;have hl:i<ρ.length:=(zac C).1;have y:i<σ.length:=R.len▸hl;have k:∀j,j≠i->(σ.set i<|some<|.ref p)[j]?=σ[j]?:=λj n=>zaA λe=>n e.symm
 have u:(σ.set i<|some<|.ref p)[i]?=some (some<|.ref p):=zav y;refine⟨R.sub,R.sB,R.sH,R.nB,by rw[zaM,zaM];exact R.len,?_,?_,?_,?_,?_,R.cL,(λj h=>by obtain⟨f,g⟩:=vp (by simp) h;rw[k j g];exact R.exv j f),R.nz⟩
 ·intro j s hs
  rcases get_set hs with⟨rfl,rfl,_⟩|⟨n,hs⟩
  ·exact⟨p,u,E,K⟩
  ·exact(R.slot j s hs).at (k j n)
 ·intro a b s t q f g h3 h4 l m
  rcases get_set f with⟨rfl,rfl,_⟩|⟨ha,o⟩
  ·rcases get_set h3 with⟨rfl,rfl,_⟩|⟨w,h3⟩
   ·rfl
   ·rw[u]at l
    cases l;rw[k b w]at m;exact absurd m (D b t h3 h4)
  ·rcases get_set h3 with⟨rfl,rfl,_⟩|⟨w,h3⟩
   ·rw[u]at m
    cases m;rw[k a ha]at l;exact absurd l (D a s o<|Sl.vo g)
   ·rw[k a ha]at l;rw[k b w]at m;exact R.dist a b s t q o g h3 h4 l m
 ·intro j c q f g
  rcases get_set f with⟨rfl,e,_⟩|⟨n,f⟩
  ·rw[u]at g;cases g;exact G
  ·rw[k j n]at g;exact R.mW j c q f g
 ·intro x J
  obtain⟨f,c,g⟩:=R.fx x J;have z:x.1≠i:=λz=>by rw[z,C]at g;cases g;exact A _ rfl
  exact⟨by rw[k _ z];exact f,c,by rw[zaA λe=>z e.symm];exact g⟩
 ·intro j c f
  rcases get_set f with⟨rfl,e,_⟩|⟨n,f⟩
  ·cases e
  ·exact R.ioN j c f
end
def sto(i:Nat)(x:RV×Rho):Option Rho:=match x.1.2 with
 | .fz=>ie x.2 i (.fz x.1.1)
 | .new=>ie x.2 i (.own x.1.1)
 | .at j=>if j=i then some x.2 else(nH x.1 x.2).bind λy=>ie y.2 i (.fz y.1)
 | .ro=>none
def fV(i:Nat)(a:PM):SM:=fun ρ=>(a ρ).bind λx=>(sto i x).map .nx
theorem dH(ha:ME t a):MS (xa t<|ll i) (fV i a):=by
 walk_at "q6"
 obtain⟨w,p,e⟩:=zab e;cases e;refine ha F B H σ ρ x.1 x.2 _ R f λv l g J m u N=>?_
 show D.nx (σ.set i<|some v) g;obtain⟨⟨d,k⟩,h⟩:=x;cases k with
 |fz=>exact q l g _ (m.nI u p)
 |new=>exact q l g _ (m.C9 u p)
 |ro=>cases p
 | «at» j=>
  have b:(if j=i then some h else(nH (d,.at j) h).bind λy=>ie y.2 i<|.fz y.1)=some w:=p
  obtain⟨s,P,Q,h3,h4⟩:=u;have c : σ[j]?=some (some v):=h4
  by_cases z:j=i
  ·rw[if_pos z]at b
   cases b;subst z;have : σ.set j (some v)=σ:=by
    apply List.ext_getElem?;intro k
    by_cases hk:k=j
    ·subst hk
     obtain⟨hl,_⟩:=zac c;rw[zav hl,c]
    ·rw[zaA λe=>hk e.symm]
   rw[this];exact q l g _ m
  ·rw[if_neg z]at b
   obtain⟨y,C,E⟩:=zaa b;obtain⟨A,R2,G,L⟩:=m.frz (v:=v) (r:=(d,.at j)) (show Iy l σ v (d,.at j)from c) C;exact q A g _ (R2.nI G E)
def IC(i:Nat)(f:Int->Int->Int)(a:PM):SM:=fun ρ=>match ρ[i]? with
 |some (.fz (.int x))=>((sv a ρ).bind asI).bind λy=>(ie y.2 i<|.fz<|.int<|f x y.1).map .nx
 |_=>none
theorem MH(ha:ME t a):MS (Og i t<|ipI f) (IC i f a):=by
 intro F B H σ ρ o D R e q;unfold IC at e;split at e
 ·rename_i x A
  obtain⟨y,l,e⟩:=zaa e;obtain⟨z,m,p⟩:=zaa l;obtain⟨C,r,e⟩:=zab e;cases e;obtain⟨w,s,u⟩:=R.slot i _ A;cases u;refine⟨_,s,?_⟩;refine ha.sv F B H σ ρ z.1 z.2 _ R m λv g h E c j G=>?_
  obtain⟨g1,g2⟩:=Fe (b:=y.1) (ρ:=y.2) p;have d:=j.view c;rw[g1]at d;rw[g2]at c;exact⟨x,y.1,rfl,d.int,q g h _<|c.nI (.int _) r⟩
 ·cases e
def MG(g:TG)(mg:D->Rho->Option Rho):Prop:=∀(F:Fr) (B H:Hp) (σ:St) (ρ:Rho) (v:V) (d:D) (ρ':Rho) (Q:St->Hp->Prop),Rel F B H σ ρ->Rep B v d->mg d ρ=some ρ'->(∀B' H' G,Rel F B' H' G ρ'->aH B B'->Q G H')->g v σ H Q
def mgN(i:Nat):D->Rho->Option Rho:=λd ρ=>ie ρ i (.fz d)
def ID:MG (ll i) (mgN i):=λF B H σ ρ v d ρ' Q R a e q=>q B H _ (R.nI a e) (aH.refl _)
def MJ:List D->Rho->Option Rho:=λds ρ=>match ds with
 | []=>some ρ
 |_=>none
def IF(g:D->Rho->Option Rho)(gs:List D->Rho->Option Rho):List D->Rho->Option Rho:=λds ρ=>match ds with
 |d::ds=>(g d ρ).bind fun ρ1=>gs ds ρ1
 |_=>none
def mgT(n:Nat)(M:List D->Rho->Option Rho):D->Rho->Option Rho:=λd ρ=>(asT d).bind λds=>if ds.length=n then M ds ρ else none
def OI(a:PM)(g:D->Rho->Option Rho):SM:=fun ρ=>(sv a ρ).bind λx=>(nH x.1 x.2).bind λy=>(g y.1 y.2).map .nx
def OJ(i:Nat)(a:PM):D->Rho->Option Rho:=λd ρ=>(tF ρ[i]?).bind λ_=>((sv a ρ).bind asI).bind λy=>(tF y.2[i]?).bind λds=>(ixN ds.length y.1).map λj=>putAt y.2 i (.list<|ds.set j d)
def fW(c:Rho->Option (Bool×Rho))(b:SM):Nat->SM
 |0=>λ_=>none
 |n+1=>fun ρ=>(c ρ).bind λx=>if x.1=true then(b x.2).bind λo=>match o with
   | .nx ρ'=>fW c b n ρ'
   | .ct ρ'=>fW c b n ρ'
   | .bk ρ'=>some (.nx ρ')
   | .rt r ρ'=>some (.rt r ρ')
  else some (.nx x.2)
theorem xD(M:MT tc c)(I:MS O b):MS (zA tc O) (fW c b n):=by
 intro F B H σ ρ o D R e q;refine⟨λm σ H=>∃B ρ,Rel F B H σ ρ/\fW c b m ρ=some o,⟨n,B,ρ,R,e⟩,?_⟩
 rintro m d v ⟨u,f,y,t⟩
 cases m with
 |zero=>cases t
 |succ m=>
  obtain⟨x,A,g⟩:=zaa (show(c f).bind _=some o from t);refine M F u v d f x.1 x.2 _ y A λp s E R2=>?_
  by_cases h:x.1=true
  ·rw[if_pos h]at g⊢
   obtain⟨w,C,j⟩:=zaa g;refine⟨fun a H'=>∃B' ρ',Rel F B' H' a ρ'/\fW c b m ρ'=some o,fun a H' h'=>⟨m,Nat.lt_succ_self _,h'⟩,?_⟩
   refine I F p s d x.2 w _ R2 C ?_;cases w with
   |nx ρ'=>exact λB' H' a l=>⟨B',ρ',l,j⟩
   |ct ρ'=>exact λB' H' a l=>⟨B',ρ',l,j⟩
   |bk ρ'=>cases j;exact q
   |rt r ρ'=>cases j;exact q
  ·rw[if_neg h]at g⊢
   cases g;exact q p s d R2
def forL(g:D->Rho->Option Rho)(b:SM):List D->SM
 | []=>fun ρ=>some (.nx ρ)
 |d::ds=>fun ρ=>(g d ρ).bind fun ρ1=>(b ρ1).bind λo=>match o with
   | .nx ρ'=>forL g b ds ρ'
   | .ct ρ'=>forL g b ds ρ'
   | .bk ρ'=>some (.nx ρ')
   | .rt r ρ'=>some (.rt r ρ')
def Qc(it:Rho->Option (List D×Rho))(g:D->Rho->Option Rho)(b:SM):SM:=fun ρ=>(it ρ).bind λx=>forL g b x.1 x.2
section
variable{F:Fr}{B B1 H H1:Hp}{σ σ1:St}{ρ ρ1:Rho}
def Rel.up(I:Rel F B1 H1 σ1 ρ1)(R:Rel ⟨B1,F.H,F.io,F.Z⟩ B H σ ρ):Rel F B H σ ρ :=
 ⟨R.sub,I.sB.trans R.sB,R.sH,λq h z=>R.nB q h<|I.nB q h z,R.len,R.slot,R.dist,R.mW,R.fx,R.ioN,R.cL,R.exv,R.nz⟩
def Rel.down(I:Rel F B1 H1 σ1 ρ1):Rel ⟨B1,F.H,F.io,F.Z⟩ B1 H1 σ1 ρ1 :=
 ⟨I.sub,aH.refl _,I.sH,λq h z=>z,I.len,I.slot,I.dist,I.mW,I.fx,I.ioN,I.cL,I.exv,I.nz⟩
end
theorem lu.down{M:Rho}(I:Rel F O Y U M){D:Ends}{o:Out}(h:lu F D o):lu ⟨O,F.H,F.io,F.Z⟩ D o:=by
 cases o with
 |nx ρ=>exact λB H σ R=>h B H σ (I.up R)
 |bk ρ=>exact λB H σ R=>h B H σ (I.up R)
 |ct ρ=>exact λB H σ R=>h B H σ (I.up R)
 |rt r ρ=>exact λv B H σ R V=>h v B H σ (I.up R) V
def Fo:Out->Option (D×Bool)
 | .rt (d,.fz) _=>some (d,false)
 | .rt (d,.new) _=>some (d,true)
 | .rt (_,.at i) ρ=>match ρ[i]? with
  |some (.own d)=>some (d,true)
  |_=>none
 | .nx _=>some (.none,false)
 |_=>none
def fnM(n k:Nat)(b:SM)(ds:List D):Option (D×Bool):=if ds.length=n then(b<|ds.map .fz++List.replicate k .no).bind Fo else none
theorem zK(sub:aH B H)(tB:∀q xs,H q=some (.tup xs)->B q=some (.tup xs))(I:a6 B vs ds)(hl:ds.length=n)(M:N.length=n+k):Rel ⟨B,H,[],λq=>H q≠none⟩ B H (L2.start N vs) (ds.map .fz++List.replicate k .no):=by
 have d:vs.length=n:=I.length.trans hl;have e:∀(i:Nat) (s:Sl),(ds.map Sl.fz++List.replicate k .no)[i]?=some s->s.isRef=true->False:=λi s a b=>by
  have:=zaj a;rcases zae this with h|h
  ·obtain⟨c,_,rfl⟩:=List.mem_map.mp h;cases b
  ·rw[zaG h]at b;cases b
 have f:∀i:Nat,(ds.map Sl.fz++List.replicate k .no)[i]?=some Sl.ex->False:=λi a=>by
  have:=zaj a;rcases zae this with h|h
  ·obtain⟨c,_,z⟩:=List.mem_map.mp h;cases z
  ·have:=zaG h;cases this
 refine⟨sub,aH.refl _,λ_ _ z _=>z,λ_ _ z=>z,?_,λi s hs=>?_,λi j s t p a b=>(e i s a<|Sl.vo b).elim,λi c p a=>(e i _ a rfl).elim,(λx g=>by cases g),λi c a=>(e i _ a rfl).elim,tB,(λi a=>(f i a).elim),λq o u h z=>by rw[z]at h;cases h⟩
 ·simp[L2.start,hl,d,M]
 ·by_cases hi:i<n
  ·rw[zax (by simpa[hl]using hi),zao]at hs
   obtain⟨c,a,rfl⟩:=zab hs;obtain⟨x,b,h3⟩:=I.get i c a;refine⟨x,?_,h3⟩;unfold L2.start;rw[zax (by simpa[d]using hi),zao,b]
   rfl
  ·rw[zaN (by simpa[hl]using zba hi)]at hs
   have:=zaG (zaj hs);subst this;trivial
theorem Fp(I:Fo w=some (d,o))(q:∀v B' H',Post B H v B' H' d o->Q v H'):lu ⟨B,H,[],λq=>H q≠none⟩ {nx:=λ_ H'=>Q .non H',rt:=Q} w:=by
 have post:∀{B' H':Hp} {b:St} {ρ':Rho},Rel ⟨B,H,[],λq=>H q≠none⟩ B' H' b ρ'->aH H H'/\aH B B'/\aH B' H'/\(∀q,H q≠none->B q=none->B' q=none)/\(∀q xs,H' q=some (.tup xs)->B' q=some (.tup xs))/\∀q o u,H' q=some (.frz o u)->H q≠none:=λa=>
  ⟨λq u z=>a.sH q u z (λx A=>by cases A),a.sB,a.sub,a.nB,a.cL,a.nz⟩
 cases w with
 |nx ρ'=>
  cases I;intro B' H' b a;obtain⟨h,p2,j,k,l,m⟩:=post a;exact q _ B' H' ⟨h,p2,j,k,l,m,.non⟩
 |bk ρ'=>cases I
 |ct ρ'=>cases I
 |rt r ρ'=>
  intro v B' H' b a n;obtain⟨h,p2,j,k,l,m⟩:=post a;obtain⟨c,C⟩:=r;cases C with
  |fz=>cases I;exact q v B' H' ⟨h,p2,j,k,l,m,n⟩
  |new=>
   cases I;obtain⟨p,rfl,f,t,h3,_⟩:=n;exact q _ B' H' ⟨h,p2,j,k,l,m,⟨p,rfl,t,f,h3⟩⟩
  |ro=>cases I
  | «at» i=>
   obtain⟨s,f,t,h3,h4⟩:=n;have e:(match ρ'[i]? with
    |some (.own d)=>some (d,true)
    |_=>none)=some (d,o):=I
   rw[f]at e;cases s with
   |own c'=>
    cases e;obtain⟨p,g1,g2,y⟩:=a.slot i _ f;have g : b[i]?=some (some v):=h4;rw[g]at g1;cases g1;exact q _ B' H' ⟨h,p2,j,k,l,m,⟨p,rfl,a.mW i _ p f g,g2,y⟩⟩
   |_=>cases e
theorem fX(M:MS t b)(I:N.length=n+k)(h:spM (fnM n k b) vs H Q E):t {nx:=λ_ H'=>Q .non H',rt:=Q} (L2.start N vs) H:=by
 obtain⟨B,ds,d,o,sub,tB,f,e,q⟩:=h;unfold fnM at e;split at e
 case isFalse=>cases e
 rename_i hl
 obtain⟨w,a,c⟩:=zaa e;exact M _ B H _ _ w _ (zK sub tB f hl I) a (Fp c q)
theorem d3(h:spM (fnM n k b) vs H Q E):vs.length=n:=by
 obtain⟨B,ds,d,o,sub,tB,a,e,q⟩:=h;unfold fnM at e;split at e
 ·rename_i hl;exact a.length.trans hl
 ·cases e
end Mir
namespace Mir
open L2 PySem.Spec PyProof.Rows
variable [Zc]
section
variable{X:Cx}
def KD:R2:=λx y H Q=>∃l b xs zs,x=.ref l/\y=.ref b/\Rd H l (.lst xs)/\Rd H b (.lst zs)/\xs.length+zs.length<=sizeLine/\∀p,H p=none->Q (.ref p) (upd H p<|.lst<|xs++zs)
theorem IG:OpR X (binaryOp .Add) KD:=by
 intro V0 s σ H x y v u Q I k m h;obtain⟨l,b,xs,zs,rfl,rfl,i,g,o,q⟩:=h;cases k;cases m;obtain⟨z,c,n,r,e⟩:=i.ok I.hok;obtain⟨p,a,n2,d,f⟩:=g.ok I.hok;have hl:=r.length;have j:=d.length;refine PySem.P.add_list e f ?_ (by rw[zaK,zaK];lia)
 have ea:c.toArray++a.toArray=(c++a).toArray:=by simp
 rw[ea];exact⟨.ref _,_,I.Ou (t':=s.toks) (r.append d) (by rw[zau];lia),rfl,q _ I.fresh⟩
def rj(K:zag):R2:=λx y H Q=>rI0 (λi j=>.int<|i+j) x y H Q\/KD x y H Q\/(∃i j,x=.str i/\y=.str j/\i.length+j.length<=sizeLine/\Q (.str<|i++j) H)\/Ky K x y H Q
def Bh:OpR X (binaryOp .Add) (rj X.K):=L3.or (IG.or<|zF.or Ib)
end
def fC(h:∀Q:VK,Q (.int i) H->k Q):mK B H (.int i,false) k:=⟨_,.int i,h⟩
def fY(h:∀Q:VK,Q (.bl i) H->k Q):mK B H (.bool i,false) k:=⟨_,.bl i,h⟩
def IH(h:∀Q:VK,Q (.str i) H->k Q):mK B H (.str i,false) k:=⟨_,.str i,h⟩
def dU:D->D->Option (D×Bool)
 | .int i,.int j=>some (.int<|i+j,false)
 | .list a,.list b=>cIf (a.length+b.length<=sizeLine) (some (.list<|a++b,true)) none
 | .str a,.str b=>cIf (a.length+b.length<=sizeLine) (some (.str<|a++b,false)) none
 | .tuple (c::a),.tuple b=>cIf ((c::a).length+b.length<=sizeLine/\b≠[]) (some (.tuple<|(c::a)++b,true)) none
 |_,_=>none
theorem d9{K:zag}:OpJ (rj K) dU:=by
 intro B H x y c d w s h l e;unfold dU at e;split at e
 ·cases e
  have m:=h.int;have o:=l.int;subst m o
  exact fC λQ q=>.inl ⟨_,_,rfl,rfl,q⟩
 ·obtain⟨f,e⟩:=cO e
  ·cases e
   obtain⟨p,xs,rfl,t,a⟩:=h.list s;obtain⟨p2,g,rfl,u,b⟩:=l.list s;exact⟨xs++g,a.append b,λQ q=>.inr<|.inl ⟨_,_,_,_,rfl,rfl,t,u,by rw[a.length,b.length];exact f,q⟩⟩
 ·obtain⟨f,e⟩:=cO e
  ·cases e
   have m:=h.str;have o:=l.str;subst m o
   exact IH λQ q=>.inr (.inr<|.inl ⟨_,_,rfl,rfl,f,q⟩)
 ·obtain⟨f,e⟩:=cO e
  ·cases e
   obtain⟨p,xs,rfl,t,a⟩:=h.tuple s;obtain⟨p2,g,rfl,u,b⟩:=l.tuple s;have r:xs≠[]:=by intro z;subst z;cases a
   have v:g≠[]:=by intro z;subst z;cases b;exact f.2 rfl
   refine⟨xs++g,a.append b,λQ q=>.inr<|.inr<|.inr ⟨_,_,xs,g,rfl,rfl,.inl<|.inl t,.inl<|.inl u,?_⟩⟩
   exact⟨r,by rw[a.length,b.length];exact f.1,λz=>absurd z v,λ_=>q⟩
 ·cases e
def gI(C:Int->Int->Prop)(f:Int->Int->Int):D->D->Option (D×Bool)
 | .int i,.int j=>cIf (C i j) (some (.int<|f i j,false)) none
 |_,_=>none
theorem J_I:OpJ (rI C λi j=>.int<|f i j) (gI C f):=by
 intro B H x y c d m s h l e;unfold gI at e;split at e
 ·obtain⟨g,e⟩:=cO e
  ·cases e
   have a:=h.int;have b:=l.int;subst a b
   exact fC λQ q=>⟨_,_,rfl,rfl,g,q⟩
 ·cases e
def gI0(f:Int->Int->Int):D->D->Option (D×Bool)
 | .int i,.int j=>some (.int<|f i j,false)
 |_,_=>none
theorem Dc:OpJ (rI0 λi j=>.int<|f i j) (gI0 f):=by
 intro B H x y c d l s g h e;unfold gI0 at e;split at e
 ·cases e
  have a:=g.int;have b:=h.int;subst a b
  exact fC λQ q=>⟨_,_,rfl,rfl,q⟩
 ·cases e
def gB0(f:Int->Int->Bool):D->D->Option (D×Bool)
 | .int i,.int j=>some (.bool<|f i j,false)
 |_,_=>none
theorem tG:OpJ (rI0 λi j=>.bl<|f i j) (gB0 f):=by
 intro B H x y c d l s g h e;unfold gB0 at e;split at e
 ·cases e
  have a:=g.int;have b:=h.int;subst a b
  exact fY λQ q=>⟨_,_,rfl,rfl,q⟩
 ·cases e
abbrev tf:=gI0 λi j=>i-j
abbrev gLt:=gB0 λi j=>decide (i<j)
abbrev gLe:=gB0 λi j=>decide (i<=j)
abbrev gGt:=gB0 λi j=>decide (j<i)
abbrev gGe:=gB0 λi j=>decide (j<=i)
abbrev j5:=gI LX λi j=>i/j
abbrev d6:=gI (λ_ j=>0<j) λi j=>i%j
abbrev De:=gI LY λi j=>i^j.toNat
section
variable{X:Cx}
def Bi:R2:=λx y H Q=>rI IntMulOk (λi j=>.int<|i*j) x y H Q\/Ow x y H Q
def nJ:OpR X (binaryOp .Mult) Bi:=Im.or Mg
end
def tH:D->D->Option (D×Bool)
 | .int i,.int j=>cIf (IntMulOk i j) (some (.int<|i*j,false)) none
 |_,_=>none
theorem xE:OpJ Bi tH:=by
 intro B H x y c d i s g h e;unfold tH at e;split at e
 ·obtain⟨f,e⟩:=cO e
  ·cases e
   have a:=g.int;have b:=h.int;subst a b
   exact fC λQ q=>.inl ⟨_,_,rfl,rfl,f,q⟩
 ·cases e
mutual
theorem Rep.data{K:zag}:∀{v:V} {d:D},Rep H v d->d.canLay0=true->gX K H v d
 |_,_,.non,_=>.non
 |_,_,.bl b,_=>.bl b
 |_,_,.int i,_=>.int i
 |_,_,.str x,_=>.str x
 |_,_,.lst h r,e=>.lst (i8 h) (a6.data r (by simpa[PyData.canLay0]using e))
 |_,_,.tup h r,e=>.tup (.inl<|.inl h) (a6.data r (by simpa[PyData.canLay0]using e))
 |_,_,.dct _ _,e=>by simp[PyData.canLay0]at e
theorem a6.data{K:zag}:∀{v:List V} {d:List D},a6 H v d->PyData.canLayAll0 d=true->iL K H v d
 |_,_,.nil,_=>.nil
 |_,_,.cons a b,e=>by
  simp only[PyData.canLayAll0,Bool.and_eq_true]at e;exact .cons (Rep.data a e.1) (a6.data b e.2)
end
def gEq:D->D->Option (D×Bool):=λc d=>if SeqAt.shaped c=true/\SeqAt.shaped d=true then some (.bool<|PyData.eqv c d,false)else none
def gNe:D->D->Option (D×Bool):=λc d=>if SeqAt.shaped c=true/\SeqAt.shaped d=true then some (.bool<|!PyData.eqv c d,false)else none
theorem qz{K:zag}:OpJ (Ik K) gEq:=by
 intro B H x y c d f s a b e;unfold gEq at e;split at e
 ·rename_i h
  cases e;exact fY λQ q=>⟨_,_,(a.rep s).data<|SeqAt.canLay_of_shaped h.1,(b.rep s).data<|SeqAt.canLay_of_shaped h.2,h.1,h.2,q⟩
 ·cases e
theorem zL{K:zag}:OpJ (Il K) gNe:=by
 intro B H x y c d f s a b e;unfold gNe at e;split at e
 ·rename_i h
  cases e;exact fY λQ q=>⟨_,_,(a.rep s).data<|SeqAt.canLay_of_shaped h.1,(b.rep s).data<|SeqAt.canLay_of_shaped h.2,h.1,h.2,q⟩
 ·cases e
def isNone:D->Bool
 | .none=>true
 |_=>false
theorem Rep.isNone(h:Rep H v d):decide (v=.non)=Mir.isNone d:=by cases h<;>rfl
def gIs:D->D->Option (D×Bool)
 |c,.none=>some (.bool<|isNone c,false)
 |_,_=>none
def o7:D->D->Option (D×Bool)
 |c,.none=>some (.bool<|!isNone c,false)
 |_,_=>none
theorem ML:OpJ (λx y H Q=>y=.non/\Q (.bl<|decide<|x=.non) H) gIs:=by
 intro B H x y c d f s a b e;unfold gIs at e;split at e
 ·cases e
  exact fY λQ q=>⟨b.none,by rw[(a.rep s).isNone];exact q⟩
 ·cases e
theorem II:OpJ (λx y H Q=>y=.non/\Q (.bl<|!decide (x=.non)) H) o7:=by
 intro B H x y c d f s a b e;unfold o7 at e;split at e
 ·cases e
  exact fY λQ q=>⟨b.none,by rw[(a.rep s).isNone];exact q⟩
 ·cases e
def Dg:D->Option (D×Bool)
 | .int i=>some (.int<|-i,false)
 |_=>none
theorem OL:UnJ (rU λi=>.int<|-i) Dg:=by
 intro B H x c d s b e;unfold Dg at e;split at e
 ·cases e
  have a:=b.int;subst a
  exact fC λQ q=>⟨_,rfl,q⟩
 ·cases e
def gIx:D->D->Option (D×Bool)
 | .list ds,.int i=>(atI ds i).map λd=>(d,false)
 | .tuple ds,.int i=>(atI ds i).map λd=>(d,false)
 |_,_=>none
theorem a6.atI(r:a6 H vs ds)(h:L2.atI ds i=some d):∃v,L2.atI vs i=some v/\Rep H v d:=by
 unfold L2.atI at h⊢;rw[r.length];obtain⟨j,a,b⟩:=zaa h;obtain⟨v,h3,h4⟩:=r.get j d b;exact⟨v,by rw[a];exact h3,h4⟩
theorem IJ{K:zag}:OpJ (rIx K) gIx:=by
 intro B H x y c d j s h i e;unfold gIx at e;split at e
 ·obtain⟨w,f,a⟩:=zab e
  cases a;obtain⟨p,xs,rfl,g,b⟩:=h.list s;have a:=i.int;subst a
  obtain⟨v,h3,h4⟩:=b.atI f;exact⟨v,h4,λQ q=>.inl ⟨_,_,_,_,rfl,rfl,i8 g,h3,q⟩⟩
 ·obtain⟨w,f,a⟩:=zab e
  cases a;obtain⟨p,xs,rfl,g,b⟩:=h.tuple s;have a:=i.int;subst a
  obtain⟨v,h3,h4⟩:=b.atI f;exact⟨v,h4,λQ q=>.inr<|.inl ⟨_,_,_,_,rfl,rfl,.inl<|.inl g,h3,q⟩⟩
 ·cases e
def cutD(ds:List D)(lo hi:Option Int):List D:=(ds.drop<|HT.sIx ds.length 0 lo).take (HT.sIx ds.length ds.length hi-HT.sIx ds.length 0 lo)
theorem a6.cut(r:a6 H vs ds)(lo hi:Option Int):a6 H (C0 vs lo hi) (cutD ds lo hi):=by
 unfold C0 cutD;rw[r.length];exact(r.drop _).take _
def gSl:D->Option Int->Option Int->Option (D×Bool)
 | .list ds,lo,hi=>some (.list<|cutD ds lo hi,true)
 |_,_,_=>none
theorem Qe{K:zag}:SlJ (Md K) gSl:=by
 intro B H x c l u f s b e;unfold gSl at e;split at e
 ·cases e
  obtain⟨p,xs,rfl,d,a⟩:=b.list s;exact⟨_,a.cut _ _,λQ q=>⟨_,_,rfl,i8 d,q⟩⟩
 ·cases e
def gv:List D->Option (D×Bool)
 | [.list ds]=>some (.int ds.length,false)
 | [.tuple ds]=>some (.int ds.length,false)
 | [.str x]=>cIf (x.length<=sizeLine) (some (.int x.length,false)) none
 |_=>none
theorem iH(h:Views B H vs [d]):∃v,vs=[v]/\View B H v d:=by
 match vs,h with
 | [v],⟨h,_⟩=>exact⟨v,rfl,h⟩
theorem i9{K:zag}:kT (Mr K) gv:=by
 intro B H vs ds g s h e;unfold gv at e;split at e
 ·cases e
  walk_at "qd"
  exact fC λQ q=>.inl ⟨_,_,rfl,.inl<|i8 d,by rw[a.length];exact q⟩
 ·cases e
  obtain⟨v,rfl,b⟩:=iH h;obtain⟨p,xs,rfl,d,a⟩:=b.tuple s;exact fC λQ q=>.inl ⟨_,_,rfl,.inr<|.inl<|.inl d,by rw[a.length];exact q⟩
 ·obtain⟨f,e⟩:=cO e
  ·cases e
   obtain⟨v,rfl,b⟩:=iH h;have:=b.str;subst this
   exact fC λQ q=>.inr ⟨_,rfl,f,q⟩
 ·cases e
def Qf:List D->Option (D×Bool)
 | [.int i,.int j]=>some (.int<|if j>i then j else i,false)
 |_=>none
def Qg:List D->Option (D×Bool)
 | [.int i,.int j]=>some (.int<|if j<i then j else i,false)
 |_=>none
def Qh:List D->Option (D×Bool)
 | [.int i]=>some (.int<|if i<0 then-i else i,false)
 |_=>none
def Fq:List D->Option (D×Bool)
 | [.int i]=>some (.int i,false)
 | [.bool b]=>some (.int<|if b then 1 else 0,false)
 |_=>none
theorem OM:kT (λxs H Q=>(∃i,xs=[.int i]/\Q (.int i) H)\/∃k,xs=[.bl k]/\Q (.int<|if k then 1 else 0) H) Fq:=by
 intro B H vs ds b s h e;unfold Fq at e;split at e
 ·cases e
  obtain⟨v,rfl,a⟩:=iH h;have:=a.int;subst this
  exact fC λQ q=>.inl ⟨_,rfl,q⟩
 ·cases e
  obtain⟨v,rfl,a⟩:=iH h;have:=a.bool;subst this
  exact fC λQ q=>.inr ⟨_,rfl,q⟩
 ·cases e
def intsOf:List D->Option (List Int)
 | []=>some []
 | .int i::ds=>(intsOf ds).map (i::·)
 |_=>none
def boolsOf:List D->Option (List Bool)
 | []=>some []
 | .bool i::ds=>(boolsOf ds).map (i::·)
 |_=>none
theorem a6.ints:∀{vs:List V} {ds:List D} {ns:List Int},a6 H vs ds->intsOf ds=some ns->vs=ns.map V.int
 |_,_,_,.nil,e=>by cases e;rfl
 |_,_,_,.cons (d:=d) a b,e=>by
  cases d with
  |int i=>
   obtain⟨g,c,f⟩:=zab (show(intsOf _).map _=some _ from e);cases f;cases a;rw[zaz,a6.ints b c]
  |_=>cases e
theorem a6.bools:∀{vs:List V} {ds:List D} {ns:List Bool},a6 H vs ds->boolsOf ds=some ns->vs=ns.map V.bl
 |_,_,_,.nil,e=>by cases e;rfl
 |_,_,_,.cons (d:=d) a b,e=>by
  cases d with
  |bool i=>
   obtain⟨g,c,f⟩:=zab (show(boolsOf _).map _=some _ from e);cases f;cases a;rw[zaz,a6.bools b c]
  |_=>cases e
def Dh:List D->Option (D×Bool)
 | [.list ds]=>(intsOf ds).map λns=>(.int ns.sum,false)
 |_=>none
def IK:List D->Option (D×Bool)
 | [.list ds]=>(boolsOf ds).map λns=>(.bool<|ns.all id,false)
 |_=>none
theorem ON{K:zag}:kT (Mn K) Dh:=by
 intro B H vs ds g s h e;unfold Dh at e;split at e
 ·obtain⟨ns,c,f⟩:=zab e
  cases f
  walk_at "qd"
  have:=a.ints c;subst this
  exact fC λQ q=>⟨_,_,rfl,i8 d,q⟩
 ·cases e
theorem KG{K:zag}:kT (Mo K) IK:=by
 intro B H vs ds g s h e;unfold IK at e;split at e
 ·obtain⟨ns,c,f⟩:=zab e
  cases f
  walk_at "qd"
  have:=a.bools c;subst this
  exact fY λQ q=>⟨_,_,rfl,i8 d,q⟩
 ·cases e
def Fs:List D->Option (D×Bool)
 | [.list ds]=>some (.list ds,true)
 | [.tuple ds]=>some (.list ds,true)
 |_=>none
theorem MM{K:zag}:kT (λxs H Q=>∃p I,xs=[.ref p]/\(SqL K H p I\/SqT K H p I)/\∀l,H l=none->Q (.ref l) (upd H l<|.lst I)) Fs:=by
 intro B H vs ds c s h e;unfold Fs at e;split at e
 ·cases e
  walk_at "qd"
  exact⟨xs,a,λQ q=>⟨_,_,rfl,.inl<|i8 d,q⟩⟩
 ·cases e
  obtain⟨v,rfl,b⟩:=iH h;obtain⟨p,xs,rfl,d,a⟩:=b.tuple s;exact⟨xs,a,λQ q=>⟨_,_,rfl,.inr<|.inl<|.inl d,q⟩⟩
 ·cases e
def tyD:D->String
 | .none=>"NoneType"
 | .bool _=>"bool"
 | .int _=>"int"
 | .str _=>"str"
 | .list _=>"list"
 | .tuple _=>"tuple"
 | .dict _=>"?"
theorem Rep.ty(h:Rep H v d)(hd:tyD d≠"?"):tyN H v=tyD d:=by
 cases h with
 |non=>rfl
 |bl _=>rfl
 |int _=>rfl
 |str _=>rfl
 |lst h _=>
  rcases h with h|⟨o,h⟩
  ·unfold tyN;simp only[h];rfl
  ·unfold tyN;simp only[h];rfl
 |tup h _=>unfold tyN;simp only[h];rfl
 |dct _ _=>exact absurd rfl hd
def mX(n:String):D->Option (D×Bool):=λd=>if tyD d≠"?"/\n∈eN then some (.bool<|qZ (tyD d) n,false)else none
def Di(n:String)(a:PM):PM:=mUn (mX n) a
theorem Ft(ha:ME I a):ME (tCB Mm<|kS I<|kS (tC<|.ty n) qW) (Di n a):=by
 walk_at "qa"
 walk_at "q2"
 unfold mX at b;split at b
 ·rename_i hd
  cases b;have g:=(L.view f).rep f.sub;have d:=g.ty hd.1;have hk:tyD x.1.1∈cN:=by
   have c:=hd.1
   revert c
   cases x.1.1 with
   |none=>intro _;show "NoneType"∈cN;decide
   |bool _=>intro _;show "bool"∈cN;decide
   |int _=>intro _;show "int"∈cN;decide
   |str _=>intro _;show "str"∈cN;decide
   |list _=>intro _;show "list"∈cN;decide
   |tuple _=>intro _;show "tuple"∈cN;decide
   |dict _=>intro c;exact absurd rfl c
  exact⟨v,n,rfl,by rw[d];exact hk,hd.2,by rw[d];exact q _ E C A f (.bl _) λp z=>by cases z⟩
 ·cases b
def QC:D->Bool
 | .none=>true
 | .bool _=>true
 | .int _=>true
 | .str _=>true
 |_=>false
def nK:List D->List D->Option (List D×D):=λds G=>match G with
 | [d]=>cIf (ds.length<sizeLine) (some (ds++[d],.none)) none
 |_=>none
theorem Fu:OF nE nK:=by
 intro B H p xs ds vs h w d c s g e;unfold nK at e;split at e
 ·obtain⟨f,e⟩:=cO e
  ·cases e
   cases g with
   |cons a b=>
    cases b;exact⟨_,_,c.append<|.cons a .nil,.non,λQ q=>⟨_,_,_,rfl,rfl,d,by rw[c.length];exact f,q⟩⟩
 ·cases e
def Qi:List D->List D->Option (List D×D):=λds G=>match G with
 | []=>(ds[ds.length-1]?).map λd=>(ds.dropLast,d)
 |_=>none
def MP:List D->List D->Option (List D×D):=λds G=>match G with
 | []=>some ([],.none)
 |_=>none
end Mir
namespace Mir
open L2 PySem.Spec PyProof.Rows
variable [Zc]
section
variable{X:Cx}{K:zag}
def IL(h:X.K=K):OpR X (binaryOp .Add) (rj K):=h▸Bh
def vz(h:X.K=K)(I:X.A.units+64<cLine):OpR X (compareOp .Eq) (Ik K):=h▸Mp I
def MQ(h:X.K=K)(I:X.A.units+64<cLine):OpR X (compareOp .NotEq) (Il K):=h▸Mq I
def gL(h:X.K=K):IxR X (rIx K):=h▸Mb
def Fv(h:X.K=K):SlR X (Md K):=h▸Ig
def cF(h:X.K=K):dJ X (.builtin "len") (Mr K):=h▸C4
def Dk(h:X.K=K)(I:X.calm=true):dJ X (.builtin "sum") (Mn K):=h▸EV I
def um(h:X.K=K)(I:X.calm=true):dJ X (.builtin "all") (Mo K):=h▸EW I
def zM(h:X.K=K):dJ X (.type "list") (λxs H Q=>∃p I,xs=[.ref p]/\(SqL K H p I\/SqT K H p I)/\∀l,H l=none->Q (.ref l) (upd H l<|.lst I)):=h▸vh
variable{tg l o e:Expr}{es:List Expr}{tl to:TE}{t:TA}{name:Str}{apos Q2:Pos}{T id:String}{r:V->List V->Hp->VK->Prop}
def jC(h:X.K=K)(hl:PE X l tl):PI X tg l (xc K tl):=h▸AY hl
def Bj(h:X.K=K)(hl:PE X l tl):PI X tg l (HQ K tl):=h▸LV hl
theorem IM(h:X.K=K)(U:PlainAttrs T)(slot:Slot T name id)(O:typeOf (.builtin id)=pure (.type "method_descriptor"))(hm:MtR X id r)(ho:PE X o to)
  (I:attributeBase o name X.env (eval o X.env)=eval o X.env:=by rfl) (M:(apos.endLine==Q2.line)=true:=by rfl):PE X (.Call (.Attribute o name apos) [] [] Q2) (Me K T r to):=h▸Mf U slot O hm ho I M
theorem j6(h:X.K=K)(pa:PlainAttrs T)(slot:Slot T name id)(Y:typeOf (.builtin id)=pure (.type "method_descriptor"))(hm:MtR X id r)(ho:PE X o to)(ha:PA X (e::es) t)
  (M:attributeBase o name X.env (eval o X.env)=eval o X.env:=by rfl)
  (U:((backTo Q2<|starEach (e::es) X.env).all (λx=>!x.1)&&(backToKw Q2<|keywordEach [] X.env).all (λx=>x.1.isSome)
   &&decide ((e::es).length+([]:List Keyword).length+(if([]:List Keyword).isEmpty then 0 else 1)<30))=true:=by rfl)
  (O:(apos.endLine==Q2.line)=true:=by rfl) (hs:starEach (e::es) X.env=(false,eval e X.env)::starEach es X.env:=by rfl) (I:(backTo Q2<|starEach es X.env).any (·.1)=false:=by rfl) :
  PE X (.Call (.Attribute o name apos) (e::es) [] Q2) (tBM K T r to t):=h▸Ot pa slot Y hm ho ha M U O hs I
end
theorem Fw(J:OpJ r g)(M:OpJ r' g')(ha:ME ta a)(hb:ME tb b)(hc:ME tc c)(hr:∀x y H Q I,(∀v H,Q v H->I v H)->r x y H Q->r x y H I) :
  ME (EF r r' ta tb tc) (vq g g' a b c):=by
 intro F B H σ ρ r0 ρ' Q R e q
 walk_at "q3"
 obtain⟨s1,e3,e⟩:=zaa e;obtain⟨Z,e4,e⟩:=zaa e
 walk_at "q2"
 refine hb.sv F E C σ x.2 y.1 y.2 _ f S λu j l E2 R2 s N2=>?_
 obtain⟨U,n3⟩:=L.next E2 R2 (md G) e3;have o:=J j l v u s1.1 y.1.1 Z R2.sub (U.view R2) (s.view R2) e4;split at e
 ·rename_i m
  obtain⟨w,d,hk⟩:=o;cases d;refine hk _ ⟨true,rfl,?_⟩;obtain⟨z,e5,e⟩:=zaa e;obtain⟨s2,e6,e⟩:=zaa e;obtain⟨i,e7,e⟩:=zab e;cases e;refine P5 ?_;refine hc.sv F j l σ y.2 z.1 z.2 _ R2 e5 λt D T E3 h Y N4=>?_
  obtain⟨V5,n5⟩:=s.next E3 h (md S) e6;exact ik h (M D T u t s2.1 z.1.1 i h.sub (V5.view h) (Y.view h) e7) λw N V P O V6 X=>q w N V ((A.trans<|E2.trans E3).trans P) O V6 λp z1 z2=>(A.trans<|E2.trans E3).live p (X p z1 z2)
 ·rename_i m
  obtain⟨w,d,hk⟩:=o;cases d;cases e;exact hk _ ⟨false,rfl,P4<|q _ j l (A.trans E2) R2 (.bl false) λp z=>by cases z⟩
 ·cases e
def qE(K:zag):Bool:=K.all λp=>match p.2.cls with
 | .type n=>n !="list"
 |_=>true
theorem lr{α:Type}:∀{l:List<|Addr×α} {a:Addr} {o : α},l.lookup a=some o->(a,o)∈l
 |(b,c)::l,a,o,h=>by
  rw[za8]at h
  by_cases z:a=b
  ·subst z
   rw[beq_self_eq_true]at h;cases h;exact zas
  ·rw[beq_eq_false_iff_ne.mpr z]at h
   exact zak _ (lr h)
theorem OO{K:zag}(h:qE K=true){xs:List V}(s:SqL K H a xs):Rd H a (.lst xs):=by
 rcases s with s|⟨o,c,n,hk,b,_⟩
 ·exact s
 ·have:=List.all_eq_true.mp h _ (lr hk)
  dsimp only at this;rw[b]at this;simp at this
theorem uo:∀ns:List Int,a6 H (ns.map V.int) (ns.map PyData.int)
 | []=>.nil
 |n::ns=>.cons (.int n) (uo ns)
theorem MR{K:zag}(h:qE K=true)(T:∀ns:List Int,ns.length<=63->(∀k∈ns,Builtin.Int.intBits k<=1048576)->f [.list<|ns.map .int]=some (.bool true,false))
  (vs:List V) (H:Hp) (Q:VK) (E:XK) (s:EX K vs H Q E):spM f vs H Q E:=by
 obtain⟨a,ns,rfl,b,hl,c,q⟩:=s;refine⟨H,_,_,_,aH.refl _,λ_ _ z=>z,.cons (.lst (OO h b)<|uo ns) .nil,T ns hl c,λv B' H' P=>?_⟩
 have pv:Rep B' v (.bool true):=P.val;cases pv;exact q _
end Mir
namespace Mir
open L2
variable [Zc]
abbrev dI(l:List Int):D:=.list (l.map .int)
theorem OP(i j:Int):(i==j)=decide (i=j):=by by_cases h:i=j<;>simp[h]
theorem Bm(i j:Int):gEq (.int i) (.int j)=some (.bool<|decide<|i=j,false):=by
 unfold gEq;rw[if_pos ⟨rfl,rfl⟩];simp only[PyData.eqv,OP]
theorem qF(i j:Int):gNe (.int i) (.int j)=some (.bool<|!decide (i=j),false):=by
 unfold gNe;rw[if_pos ⟨rfl,rfl⟩];simp only[PyData.eqv,OP]
theorem Fy(i j:Bool):gEq (.bool i) (.bool j)=some (.bool<|i==j,false):=by
 unfold gEq;rw[if_pos ⟨rfl,rfl⟩];simp only[PyData.eqv]
theorem Fz(i j:Bool):gNe (.bool i) (.bool j)=some (.bool<|!(i==j),false):=by
 unfold gNe;rw[if_pos ⟨rfl,rfl⟩];simp only[PyData.eqv]
theorem qg:∀l:List Int,PyData.canLayAll0 (l.map .int)=true
 | []=>rfl
 |_::l=>by simp only[List.map_cons,PyData.canLayAll0,PyData.canLay0,qg l,Bool.and_self]
theorem zN(l:List Int):(dI l).depth<=2:=by
 have h:∀l:List Int,PyData.depthAll (l.map .int)<=1:=by
  intro l
  induction l with
  |nil=>simp[PyData.depthAll]
  |cons a l b=>simp only[List.map_cons,PyData.depthAll,PyData.depth];lia
 have:=h l;simp only[dI,PyData.depth]
 lia
theorem shaped_ints(l:List Int):SeqAt.shaped (dI l)=true:=by
 unfold SeqAt.shaped;have h:=zN l;rw[zaH (by lia),Bool.and_true]
 simp only[dI,PyData.canLay0,qg]
theorem qh:∀a b:List Int,PyData.eqvAll (a.map .int) (b.map .int)=decide (a=b)
 | [],[]=>by simp[PyData.eqvAll]
 | [],_::_=>by simp[PyData.eqvAll]
 |_::_,[]=>by simp[PyData.eqvAll]
 |x::a,y::b=>by
  simp only[List.map_cons,PyData.eqvAll,PyData.eqv,qh a b]
  by_cases h:x=y<;>by_cases g:a=b<;>simp[h,g]
theorem xF(a b:List Int):PyData.eqv (dI a) (dI b)=decide (a=b):=by simp only[dI,PyData.eqv,qh]
theorem FA(a b:List Int):gEq (dI a) (dI b)=some (.bool<|decide<|a=b,false):=by
 unfold gEq;rw[if_pos ⟨shaped_ints a,shaped_ints b⟩,xF]
theorem FC(a b:List Int):gNe (dI a) (dI b)=some (.bool<|!decide (a=b),false):=by
 unfold gNe;rw[if_pos ⟨shaped_ints a,shaped_ints b⟩,xF]
theorem xG(i:Int):mX "int" (.int i)=some (.bool true,false):=by simp[mX,tyD,eN,qZ]
theorem j7(i:Int):mX "bool" (.int i)=some (.bool false,false):=by simp[mX,tyD,eN,qZ]
theorem tJ(i:List D):mX "list" (.list i)=some (.bool true,false):=by simp[mX,tyD,eN,qZ]
theorem qA(i:List D):mX "tuple" (.tuple i)=some (.bool true,false):=by simp[mX,tyD,eN,qZ]
theorem A6(xs:List α)(i:Nat):atI xs (i:Int)=xs[i]?:=by
 unfold atI ixN;rw[if_pos (by lia)]
 split
 ·simp
 ·rename_i h
  rw[Option.bind_none,List.getElem?_eq_none (by lia)]
theorem xi(xs:List α):atI xs (-1)=xs.getLast?:=by
 unfold atI ixN;rw[if_neg (by lia)]
 cases xs with
 |nil=>simp
 |cons a l=>
  rw[if_pos (by simp only[List.length_cons];lia),zai,List.getLast?_eq_getElem?]
  congr 1
  simp only[List.length_cons];lia
theorem IQ(f : α->I)(xs:List α)(i:Int):atI (xs.map f) i=(atI xs i).map f:=by
 simp only[atI,List.length_map,List.getElem?_map];cases ixN xs.length i with
 |none=>rfl
 |some j=>simp only[Option.bind_some]
theorem xH(M:c ρ=some (true,ρ1))(O:b ρ1=some (.nx I))(h3:fW c b n I=o):fW c b (n+1) ρ=o:=by
 unfold fW;simp only[M,O,Option.bind_some,if_true,h3]
theorem o8(I:c ρ=some (false,ρ1)):fW c b (n+1) ρ=some (.nx ρ1):=by
 unfold fW;simp only[I,Option.bind_some,Bool.false_eq_true,if_false]
def Dl(i:Int):dk (.int i) false=true:=rfl
def zO(i:Bool):dk (.bool i) false=true:=rfl
def Dm(i:Str):dk (.str i) false=true:=rfl
def zP:dk .none false=true:=rfl
def zQ(l:List D):dk (.list l) false=false:=rfl
theorem Dn(l:List D):dk (.tuple l) false=a8 l:=by simp only[dk,dZ]
def Dp(l:List D):dk (.list l) true=a8 l:=rfl
theorem rl:a8 []=true:=by simp only[a8]
theorem rn(i:Int)(l:List D):a8 (.int i::l)=a8 l:=by simp only[a8,dZ,Bool.true_and]
theorem xI(i:Bool)(l:List D):a8 (.bool i::l)=a8 l:=by simp only[a8,dZ,Bool.true_and]
theorem xJ(i l:List D):a8 (.list i::l)=false:=by simp only[a8,dZ,Bool.false_and]
theorem qi:∀l:List Int,a8 (l.map .int)=true
 | []=>rl
 |i::l=>by rw[zaz,rn,qi l]
def MU(d:D):mE (d,false)=(d,.fz):=rfl
def MV(l:List D):mE (.list l,true)=(.list l,.new):=rfl
def MW(l:List D):mE (.tuple l,true)=(.tuple l,.fz):=rfl
def Qj(d:D):kO d false=(d,.fz):=rfl
def Qk(d:D):kO d true=(d,.new):=rfl
theorem b9(I:a ρ=some (.nx ρ1))(M:b ρ1=o):fv a b ρ=o:=by
 unfold fv;simp only[I,Option.bind_some,M]
theorem vA(I:a ρ=some (.rt r ρ1)):fv a b ρ=some (.rt r ρ1):=by
 unfold fv;simp only[I,Option.bind_some]
theorem dY(I:ds.length=n)(M:b (ds.map .fz++List.replicate k .no)=some o)(O:Fo o=some w):fnM n k b ds=some w:=by
 unfold fnM;rw[if_pos I,M,zai,O]
theorem cC(M:m ρ=some (rs,I))(O:f (rs.map (·.1))=some (d,o))(h3:dk d o=true):cM f m ρ=some (kO d o,I):=by
 unfold cM;rw[M,zai];dsimp only;rw[O,zai,if_pos h3]
theorem ee(h:a ρ=some (r,ρ1)):jm a ρ=some (.rt r ρ1):=by
 unfold jm;rw[h,zaT]
theorem MX{m:Rho->Option (List RV×Rho)}{k:Kd}(M:m ρ=some ([(.int j,k)],I))(O : -(2^62)<=j/\j<2^62):zJ m ρ=some (xx 0 j.toNat,I):=by
 unfold zJ;rw[M,zai];show cIf _ _ _=_;rw[bA O]
end Mir
namespace Mir
open L2
variable [Zc]
def SF(s:Sl):Prop:=s=.no\/∃d,s=.fz d
theorem qG(h:k<n):ixN n (k:Int)=some k:=by
 unfold ixN;rw[if_pos (by lia),if_pos (by lia),Int.toNat_natCast]
theorem rq(h:n<=100000):n<=sizeLine:=zaX h (by decide)
theorem uq(h:n<=100000):n<sizeLine:=Nat.lt_of_le_of_lt h (by decide)
end Mir
namespace Mir
open L2 PySem.Spec PyProof.Rows
variable [Zc]
end Mir
namespace Mir
open L2
variable [Zc]
def inD(x:D)(ds:List D):Bool:=ds.any λd=>PyData.eqv d x
end Mir
namespace Mir
open L2
variable [Zc]
section
variable{a b:PM}{ρ ρ1 ρ2 ρ3:Rho}{x y d:D}{r:RV}{Q1:D×Bool}
theorem mY(h:a ρ=some ((d,.new),ρ1)):sv a ρ=some ((d,.fz),ρ1):=by unfold sv;rw[h]
theorem ar(h:a ρ=some ((d,.fz),ρ1)):sv a ρ=some ((d,.fz),ρ1):=by unfold sv;rw[h]
theorem xK(h:a ρ=some ((d,.at i),ρ1)):sv a ρ=some ((d,.at i),ρ1):=by unfold sv;rw[h]
theorem bE(I:sv a ρ=some ((x,.fz),ρ1))(M:sv b ρ1=some (r,ρ2))(h3:g x r.1=some Q1):mOp g a b ρ=some (mE Q1,ρ2):=by
 unfold mOp;rw[I,zai];dsimp only;rw[M,zai];dsimp only[qy,Option.bind_some];rw[h3,zaT]
theorem OQ(I:sv a ρ=some ((x,.at i),ρ1))(M:sv b ρ1=some (r,ρ2))(h4 : ρ2[i]?=some (.own y))(h3:g y r.1=some Q1):mOp g a b ρ=some (mE Q1,ρ2):=by
 unfold mOp;rw[I,zai];dsimp only;rw[M,zai];dsimp only[qy];rw[h4];dsimp only[Option.bind_some];rw[h3,zaT]
theorem aK{rs:List RV}(I:sv a ρ=some ((x,.fz),ρ1))(M:m ρ1=some (rs,ρ2)):aB a m ρ=some ((x,.fz)::rs,ρ2):=by
 unfold aB;rw[I,zai];dsimp only;rw[M,zai];rfl
theorem IS{rs:List RV}(I:sv a ρ=some ((x,.at i),ρ1))(M:m ρ1=some (rs,ρ2))(h4 : ρ2[i]?=some (.own y)):aB a m ρ=some ((y,.at i)::rs,ρ2):=by
 unfold aB;rw[I,zai];dsimp only;rw[M,zai];dsimp only[qy];rw[h4];rfl
def a9:aZ ρ=some ([],ρ):=rfl
theorem aA(h : ρ[i]?=some (.fz d)):ai i ρ=some ((d,.fz),ρ):=by unfold ai;rw[h]
theorem qH(h : ρ[i]?=some (.own d)):ai i ρ=some ((d,.at i),ρ):=by unfold ai;rw[h]
theorem eg(I:m ρ=some (rs,ρ1))(M:g (rs.map (·.1))=some Q1):mCB g m ρ=some (mE Q1,ρ1):=by
 unfold mCB;rw[I,zai];dsimp only;rw[M,zaT]
theorem fZ(I:a ρ=some ((d,.fz),ρ1))(M:ie ρ1 i (.fz d)=some ρ2):fV i a ρ=some (.nx ρ2):=by
 unfold fV;rw[I,zai];dsimp only[sto];rw[M,zaT]
theorem qI(I:a ρ=some ((d,.new),ρ1))(M:ie ρ1 i (.own d)=some ρ2):fV i a ρ=some (.nx ρ2):=by
 unfold fV;rw[I,zai];dsimp only[sto];rw[M,zaT]
theorem FD(I:c ρ=some (true,ρ1))(M:s ρ1=o):mG c s t ρ=o:=by
 unfold mG;rw[I,zai];dsimp only;rw[if_pos rfl,M]
theorem rA(I:c ρ=some (false,ρ1))(M:t ρ1=o):mG c s t ρ=o:=by
 unfold mG;rw[I,zai];dsimp only;rw[if_neg zam,M]
theorem test_ev{k:Kd}(h:a ρ=some ((.bool v,.fz),ρ1)):a0 a ρ=some (v,ρ1):=by
 unfold a0;rw[ar h];rfl
theorem FE(h:c ρ=some (v,ρ1)):zH c ρ=some (!v,ρ1):=by unfold zH;rw[h];rfl
theorem OR(h:c ρ=some (true,ρ1))(I:e ρ1=o):xp c e ρ=o:=by unfold xp;rw[h];simpa using I
theorem OS(h:c ρ=some (false,ρ1)):xp c e ρ=some (false,ρ1):=by unfold xp;rw[h];rfl
theorem MY(h:c ρ=some (true,ρ1)):mOr c e ρ=some (true,ρ1):=by unfold mOr;rw[h];rfl
theorem rB(h:c ρ=some (false,ρ1))(I:e ρ1=o):mOr c e ρ=o:=by unfold mOr;rw[h];simpa using I
theorem o9(a b:List D)(h:a.length+b.length<=100000):dU (.list a) (.list b)=some (.list<|a++b,true):=by
 show cIf _ _ _=_;rw[bA<|rq h]
theorem zR(I:m ρ=some (rs,ρ1))(M:i7 rs ρ1=some (ds,ρ2))(h3:ds.length<=100000):xr m ρ=some ((.list ds,.new),ρ2):=by
 unfold xr;rw[I,zai];dsimp only;rw[M,zai];dsimp only;rw[bA<|rq h3]
theorem j8(I:m ρ=some (rs,ρ1))(M:i7 rs ρ1=some (ds,ρ2))(h3:ds.length<=100000):oZ m ρ=some ((.tuple ds,.fz),ρ2):=by
 unfold oZ;rw[I,zai];dsimp only;rw[M,zai];dsimp only;rw[bA<|rq h3]
theorem xM(M:it ρ=some (ds,ρ1))(O:gY c e (fr.map λp=>bQ ρ1 p.2) ds=some I)(h3:I.length<=100000) :
  mLC fr it c e ρ=some ((.list I,.new),ρ1):=by
 unfold mLC;rw[M,zai];dsimp only;rw[O,zai,bA<|uq h3]
theorem zS{d:List D}(I:sv a ρ=some ((.list d,k),ρ1)):vx a ρ=some (d,ρ1):=by
 unfold vx;rw[I];rfl
theorem IT(h:a ρ=some (r,ρ1)):kU a ρ=some (.nx ρ1):=by unfold kU;rw[h];rfl
end
theorem iA{ρn:Rho}{α:Type}{f : α->D}{g : α->D}:∀l:List α,(∀x∈l,∃ρ,sv e (.fz (f x)::ρn)=some ((g x,.fz),ρ))->gY mF e ρn (l.map f)=some (l.map g)
 | [],_=>rfl
 |x::l,h=>by
  obtain⟨ρ,m⟩:=h x zas;have n:=iA l λy p=>h y (zak _ p)
  rw[zaz,zaz];unfold gY;simp only[mF,m,n,asF,Option.bind_some,Option.map_some,if_true]
theorem FG(n:Nat):xx 0 n=(List.range n).map λk:Nat=>PyData.int (k:Int):=by
 unfold xx
 congr 1
 funext k
 rw[Int.zero_add]
def Bo(h:(-(2^64)<i/\i<2^64)\/(-(2^64)<j/\j<2^64)):IntMulOk i j:=LZ.ok h
def IE(m:PM)(ρ:Rho)(v:Int):Prop:=m ρ=some ((.int v,.fz),ρ)
def BE(m:PM)(ρ:Rho)(v:Bool):Prop:=m ρ=some ((.bool v,.fz),ρ)
section
variable{a b:PM}{ρ:Rho}{i j:Int}{u v:Bool}
def Dq(I:IE a ρ i)(M:IE b ρ j)(h3:g (.int i) (.int j)=some (.int k,false)):IE (mOp g a b) ρ k:=bE (ar I) (ar M) h3
def Dr(I:IE a ρ i)(M:IE b ρ j)(h3:g (.int i) (.int j)=some (.bool k,false)):BE (mOp g a b) ρ k:=bE (ar I) (ar M) h3
def bV:IE (mC<|.int i) ρ i:=rfl
def cw(h : ρ[k]?=some (.fz<|.int i)):IE (ai k) ρ i:=aA h
def ph(I:IE a ρ i)(M:IE b ρ j):IE (mOp dU a b) ρ (i+j):=Dq I M rfl
def pj(I:IE a ρ i)(M:IE b ρ j):IE (mOp tf a b) ρ (i-j):=Dq I M rfl
theorem FH(h:C i j):gI C f (.int i) (.int j)=some (.int<|f i j,false):=by show cIf _ _ _=_;rw[bA h]
theorem rC(I:IE a ρ i)(M:IE b ρ j)(h:IntMulOk i j):IE (mOp tH a b) ρ (i*j):=Dq I M (by show cIf _ _ _=_;rw[bA h])
def pq(I:IE a ρ i)(M:IE b ρ j)(h:LX i j):IE (mOp j5 a b) ρ (i/j):=Dq I M (FH h)
def hU(I:IE a ρ i)(M:IE b ρ j)(h : 0<j):IE (mOp d6 a b) ρ (i%j):=Dq I M (FH (C:=λ_ j=>0<j) h)
def FI(I:IE a ρ i)(M:IE b ρ j)(h:LY i j):IE (mOp De a b) ρ (i^j.toNat):=Dq I M (FH h)
theorem MZ(I:IE a ρ i):IE (mUn Dg a) ρ (-i):=by unfold IE mUn;rw[ar I];rfl
def ur(I:IE a ρ i)(M:IE b ρ j):BE (mOp gEq a b) ρ (decide<|i=j):=Dr I M (Bm i j)
def KH(I:IE a ρ i)(M:IE b ρ j):BE (mOp gNe a b) ρ (!decide (i=j)):=Dr I M (qF i j)
def qj(I:IE a ρ i)(M:IE b ρ j):BE (mOp gLt a b) ρ (decide<|i<j):=Dr I M rfl
def FJ(I:IE a ρ i)(M:IE b ρ j):BE (mOp gLe a b) ρ (decide<|i<=j):=Dr I M rfl
def Bp(I:IE a ρ i)(M:IE b ρ j):BE (mOp gGt a b) ρ (decide<|j<i):=Dr I M rfl
def OT(I:IE a ρ i)(M:IE b ρ j):BE (mOp gGe a b) ρ (decide<|j<=i):=Dr I M rfl
def BE.t(h:BE a ρ v):a0 a ρ=some (v,ρ):=test_ev (k:=.fz) h
def IE.is(h:IE a ρ i)(e:i=j):IE a ρ j:=e▸h
def qJ(I:m ρ=some (rs,ρ))(M:f (rs.map (·.1))=some (.int i,false)):IE (cM f m) ρ i:=cC I M rfl
def IU(I:m ρ=some (rs,ρ))(M:f (rs.map (·.1))=some (.bool v,false)):BE (cM f m) ρ v:=cC I M rfl
theorem M3(I:BE a ρ u)(M:u=true->BE b ρ v)(h3:u=false->v=false):BE (xq a b) ρ v:=by
 unfold BE xq;rw[I.t];cases u with
 |true=>exact M rfl
 |false=>rw[h3 rfl];rfl
def Ql(h:IE a ρ i)(I:ie ρ k (.fz<|.int i)=some ρ'):fV k a ρ=some (.nx ρ'):=fZ h I
def iN(h:BE a ρ u)(e:u=v):a0 a ρ=some (v,ρ):=e▸h.t
def xN{rs:List RV}(h:IE a ρ i)(I:m ρ=some (rs,ρ)):aB a m ρ=some ((.int i,.fz)::rs,ρ):=aK (ar h) I
def tEq(I:IE a ρ i)(M:IE b ρ j)(h:i=j):a0 (mOp gEq a b) ρ=some (true,ρ):=iN (ur I M) (zaH h)
def tNe(I:IE a ρ i)(M:IE b ρ j)(h:i≠j):a0 (mOp gEq a b) ρ=some (false,ρ):=iN (ur I M) (zaO h)
end
theorem FK(M:sv a ρ=some ((d,k),I))(O:mX n d=some (.bool v,false)):Di n a ρ=some ((.bool v,.fz),I):=by
 unfold Di mUn;rw[M,zai];dsimp only;rw[O];rfl
theorem Ds(M:g d ρ=some ρ1)(O:b ρ1=some (.nx I))(h3:forL g b ds I=o):forL g b (d::ds) ρ=o:=by
 show((g d ρ).bind _)=_;rw[M,zai,O];exact h3
theorem rD:∀l:List Int,intsOf (l.map .int)=some l
 | []=>rfl
 |x::l=>by rw[zaz];unfold intsOf;rw[rD l];rfl
theorem Dt(l:List Int):Dh [.list<|l.map .int]=some (.int l.sum,false):=by
 show(intsOf _).map _=_;rw[rD];rfl
end Mir
namespace Mir
open L2
variable [Zc]
def asS:D->Option (List D)
 | .list ds=>some ds
 | .tuple ds=>some ds
 |_=>none
def mgU(n:Nat)(M:List D->Rho->Option Rho):D->Rho->Option Rho:=λd ρ=>(asS d).bind λds=>if ds.length=n then M ds ρ else none
end Mir
namespace L2
open PySem.Spec PyProof.Rows
variable{X:Cx}
end L2
namespace Mir
open L2
variable [Zc]
end Mir
namespace Mir
open L2
inductive zT where
 |ok (o:Out)|er (c:Str) (ρ:Rho)
abbrev EM:=Rho->Option zT
section
variable [Zc]
def M4(F:Fr)(D:Ends)(W:Str->Hp->Prop):zT->Prop
 | .ok o=>lu F D o
 | .er c ρ=>∀B H σ,Rel F B H σ ρ->W c H
def MSE(W:Str->Hp->Prop)(t:TS)(m:EM):Prop:=∀(F:Fr) (B H:Hp) (σ:St) (ρ:Rho) (o:zT) (D:Ends),Rel F B H σ ρ->m ρ=some o->M4 F D W o->t D σ H
def xO(m:SM):EM:=fun ρ=>(m ρ).map .ok
theorem nL(h:MS t m):MSE W t (xO m):=by
 intro F B H σ ρ o D R e q;obtain⟨x,a,e⟩:=zab e;cases e;exact h F B H σ ρ x D R a q
def Du(a b:EM):EM:=fun ρ=>(a ρ).bind λo=>match o with
 | .ok (.nx ρ')=>b ρ'
 |o=>some o
theorem vB(ha:MSE W t a)(I:MSE W u b):MSE W (Ez t u) (Du a b):=by
 walk_at "q6"
 refine ha F B H σ ρ x _ R f ?_;cases x with
 |er c d=>cases e;exact q
 |ok x=>
  cases x with
  |nx d=>exact λh i g j=>I F h i g d o D j e q
  |rt r d=>cases e;exact q
  |bk d=>cases e;exact q
  |ct d=>cases e;exact q
def eIf(c:Rho->Option (Bool×Rho))(a b:EM):EM:=fun ρ=>(c ρ).bind λx=>if x.1=true then a x.2 else b x.2
theorem M5(M:MT tc c)(ha:MSE W t a)(I:MSE W u b):MSE W (EA tc t u) (eIf c a b):=by
 walk_at "q6"
 refine M F B H σ ρ x.1 x.2 _ R f λB' H' E d=>?_
 by_cases h:x.1=true
 ·rw[if_pos h]at e⊢;exact ha F B' H' σ x.2 o D d e q
 ·rw[if_neg h]at e⊢;exact I F B' H' σ x.2 o D d e q
def FL(c:Str)(m:Rho->Option (List RV×Rho)):EM:=fun ρ=>(m ρ).bind λx=>if x.1.length<=100 then some (.er c x.2)else none
theorem FO:∀{vs:List V} {rs:List RV},Vl F B H σ ρ vs rs->vs.length=rs.length
 | [],[],_=>rfl
 |_::_,_::_,⟨_,t⟩=>by rw[zaw,zaw,FO t]
theorem Dv(h:MA t m)(M:∀H,W c H->I H):MSE W (E7 I t) (FL c m):=by
 walk_at "q6"
 split at e
 ·rename_i i
  cases e;refine h F B H σ ρ x.1 x.2 _ R f λvs a b j d g=>⟨by rw[FO g];exact i,M _<|q a b σ d⟩
 ·cases e
def fnX(n k:Nat)(b:EM)(ds:List D):Option ((D×Bool) ⊕ Str):=if ds.length=n then(b<|ds.map .fz++List.replicate k .no).bind λo=>match o with
 | .ok o=>(Fo o).map .inl
 | .er c _=>some (.inr c)
 else none
def spX(cl:Str->Value)(f:List D->Option ((D×Bool) ⊕ Str)):Sp:=λvs H Q E=>∃B ds w,aH B H/\(∀q xs,H q=some (.tup xs)->B q=some (.tup xs))/\a6 B vs ds/\f ds=some w/\
 match w with
 | .inl (d,o)=>∀v B' H',Post B H v B' H' d o->Q v H'
 | .inr c=>∀B' H',Post B H .non B' H' .none false->E (cl c) none H'
theorem Bq(M:MSE (λc H=>E (cl c) none H) t b)(I:N.length=n+k)(h:spX cl (fnX n k b) vs H Q E):t {nx:=λ_ H'=>Q .non H',rt:=Q} (L2.start N vs) H:=by
 obtain⟨B,ds,w0,sub,tB,l,e,q⟩:=h;unfold fnX at e;split at e
 case isFalse=>cases e
 rename_i hl
 obtain⟨w,g,f⟩:=zaa e;refine M _ B H _ _ w _ (zK sub tB l hl I) g ?_;cases w with
 |er c ρ'=>
  cases f;intro B' H' m a;exact q B' H' ⟨λq u z=>a.sH q u z (λx j=>by cases j),a.sB,a.sub,a.nB,a.cL,a.nz,.non⟩
 |ok w=>
 replace f:=zab f
 obtain⟨⟨d,o⟩,f,i⟩:=f;subst i;exact Fp f q
theorem Br(h:spX cl (fnX n k b) vs H Q E):vs.length=n:=by
 obtain⟨B,ds,w,sub,tB,a,e,q⟩:=h;unfold fnX at e;split at e
 ·rename_i hl;exact a.length.trans hl
 ·cases e
end
end Mir
namespace L2
open PySem.Spec PyProof.Rows
theorem Top.OU{K:zag}{mg:Str->Option Value}{base:Heap}{x:Str}{st:Stmt}{N ps:List Str}{k:Nat}{sp:Sp}(T:Top K mg x st)(S:bq N ps<|aL st)(len:∀vs H Q E,sp vs H Q E->vs.length=ps.length)
  (M:∀(kV doc pm:Value) (an:Option Addr) (cdv ct:Value) (us:List Value),us.length=ps.length->bindArgs (PySem.W.fnOf x x (gK st) (dG st) (aL st) .none kV doc pm an cdv ct) ⟨us,[]⟩=pure (ps.zip us))
  (I:∀(f:Addr) (cdv:Value) (A:Around) (outer:List Env) (s:Shared) (H:Hp) (vs:List V) (Q:VK) (E:XK),dR k (A.deeper<|envOfC x (aL st) s.heap.objs.size f cdv)->sp vs H Q E->
   ∃t,PSs (mV (CXW P w) P w K mg base N x (aL st) f cdv A outer s H E) (dG st) t/\t {nx:=λ_ H'=>Q .non H',rt:=Q} (start N vs) H):Def P w K mg base (CXW P w) (k+1) x ps sp:=by
 obtain⟨f,fd,F,m⟩:=T.ex;refine⟨⟨f,fd,?_,m,F.kp,F.binds M⟩⟩;obtain⟨oc,od,kV,doc,pm,an,cdv,ct,osl,rfl,lk,a⟩:=F.ex;exact dY lk a S len λA outer s H vs Q E d b=>I f cdv A outer s H vs Q E d b
def clM(mg:Str->Option Value)(c:Str):Value:=(mg c).getD .none
theorem zU(h:mg c=some v):clM mg c=v:=by unfold clM;rw[h];rfl
def okX(K:zag)(C:Addr)(cls:Value):Prop:=∃D,cls=.ref D/\OB K D/\PySem.W.exmOne K cls (.ref C)=some true
end L2
namespace Mir
open L2
variable [Zc]
end Mir
namespace Mir
open L2
section
variable [Zc]
def LF(B:Hp):Prop:=∀q o,B q=some o->∃xs,o=.tup xs
structure FrP(F:Fr):Prop where
 lf:LF F.B
 io:F.io=[]
 zh:∀q,F.Z q->F.H q≠none
def MSP(t:TS)(m:SM):Prop:=∀(F:Fr) (B H:Hp) (σ:St) (ρ:Rho) (o:Out) (D:Ends),FrP F->Rel F B H σ ρ->m ρ=some o->lu F D o->t D σ H
def tups(H:Hp):Hp:=λq=>match H q with
 |some (.tup xs)=>some (.tup xs)
 |_=>none
theorem nM{j:Nat}{x : α}(h:xs[j]?=some x):L2.atI xs (j:Int)=some x:=by
 rw[Mir.A6];exact h
structure QD(B H:Hp)(p:Addr)(v:V)(B' H':Hp)(d:D)(o:Bool)(d1:D):Prop where
 eH:∀q u,q≠p->H q=some u->H' q=some u
 eB:aH B B'
 sub:aH B' H'
 nb:∀q,H q≠none->B q=none->B' q=none
 tB:∀q xs,H' q=some (.tup xs)->B' q=some (.tup xs)
 nz:∀q o u,H' q=some (.frz o u)->H q≠none
 own:Own B' H' p d1
 val:if o=true then∃p,v=.ref p/\H p=none/\B' p=none/\Own B' H' p d else Rep B' v d
def ownAt(ρ:Rho)(i:Nat):Option Sl:=match ρ[i]? with
 |some s=>if s.fT=true then some s else none
 |none=>none
theorem zV(h : ρ[i]?=some (.io d)):ai i ρ=some ((d,.at i),ρ):=by unfold ai;rw[h]
def Two(M B' H':Hp)(v:V)(c:D×D):Prop:=∃a p q,v=.ref a/\H' a=some (.tup [.ref p,.ref q])/\p≠q/\M p=none/\M q=none/\B' p=none/\B' q=none/\Own B' H' p c.1/\Own B' H' q c.2
structure OV(B H:Hp)(v:V)(B' H':Hp)(c:D×D):Prop where
 eH:aH H H'
 eB:aH B B'
 sub:aH B' H'
 nb:∀q,H q≠none->B q=none->B' q=none
 tB:∀q xs,H' q=some (.tup xs)->B' q=some (.tup xs)
 nz:∀q o u,H' q=some (.frz o u)->H q≠none
 val:Two H B' H' v c
def spD(f:List D->Option (D×D)):Sp:=λvs H Q _=>∃B ds c,aH B H/\(∀q xs,H q=some (.tup xs)->B q=some (.tup xs))/\a6 B vs ds/\f ds=some c/\∀v B' H',OV B H v B' H' c->Q v H'
def OkD(F:Fr)(E:Ends)(c:D×D):Prop:=∀v B' H' G ρ',Rel F B' H' G ρ'->Two F.H B' H' v c->E.rt v H'
def MD(t:TS)(m:Rho->Option (D×D)):Prop:=∀(F:Fr) (B H:Hp) (σ:St) (ρ:Rho) (c:D×D) (E:Ends),Rel F B H σ ρ->m ρ=some c->OkD F E c->t E σ H
def nN(a:SM)(b:Rho->Option (D×D)):Rho->Option (D×D):=fun ρ=>(a ρ).bind λo=>match o with
 | .nx ρ'=>b ρ'
 |_=>none
theorem pz(ha:MS t a)(I:MD u b):MD (Ez t u) (nN a b):=by
 intro F B H σ ρ c E R e q;obtain⟨x,g,e⟩:=zaa e;cases x with
 |nx ρ'=>exact ha F B H σ ρ _ {E with nx:=u E} R g λB' H' d f=>I F B' H' d ρ' c E f e q
 |rt r ρ'=>cases e
 |bk ρ'=>cases e
 |ct ρ'=>cases e
def fnD(n k:Nat)(b:Rho->Option (D×D))(ds:List D):Option (D×D):=if ds.length=n then b (ds.map .fz++List.replicate k .no)else none
theorem Bu(M:MD t b)(I:N.length=n+k)(h:spD (fnD n k b) vs H Q E):t {nx:=λ_ H'=>Q .non H',rt:=Q} (L2.start N vs) H:=by
 obtain⟨B,ds,c,sub,tB,f,e,q⟩:=h;unfold fnD at e;split at e
 case isFalse=>cases e
 rename_i hl
 refine M _ B H _ _ c _ (zK sub tB f hl I) e λv B' H' g ρ' a T=>?_
 exact q v B' H' ⟨λq u z=>a.sH q u z (λx d=>by cases d),a.sB,a.sub,a.nB,a.cL,a.nz,T⟩
theorem Bv(h:spD (fnD n k b) vs H Q E):vs.length=n:=by
 obtain⟨B,ds,c,sub,tB,a,e,q⟩:=h;unfold fnD at e;split at e
 ·rename_i hl;exact a.length.trans hl
 ·cases e
end
end Mir
namespace L2
open PySem.Spec PyProof.Rows
section
variable{prog:Program}{w:World}{A:Around}{E:Value->Shared->Prop}{s:Shared}
def QE(l:Addr)(it:Addr)(items:Array Value)(n:Nat)(h:Heap):Prop:=h.IsTupleIter it l n/\h.IsTuple l items
end
def IV(x y:Str)(fr:List<|Str×Nat):List Str:=x::y::fr.map (·.1)
structure QM(X:Cx)(x0:Scope)(x y:Str)(fr:List<|Str×Nat):Prop where
 b:Blk X x0 x fr
 OW:x0.names.lookup y=some .local
 nd2:(IV x y fr).Nodup
abbrev XE:=St->Value->Hp->Prop
abbrev TX:=XE->TS
abbrev TEX:=XE->TE
def XP(X:Cx)(V0:List<|Addr×Obj)(E:XE)(M:Value)(s':Shared):Prop :=
 ∃(ea t:Addr) (cls:Value) (B:Heap) (H':Hp) (s1:Shared) (G:Hp) (D:St),M=.ref ea/\Inv X V0 D G s1/\Bc X.prog X.w X.stack G s1 (λcls _ H'=>E D cls H') ea t cls B H' s'
def PX(X:Cx)(st:Stmt)(t:TX):Prop :=
 ∀(V0:List<|Addr×Obj) (s:Shared) (σ:St) (H:Hp) (D:Ends) (E:XE),Inv X V0 σ H s->t E D σ H->wpAny (model X.prog X.w) X.A (exec st X.env) (SP X V0 D) (XP X V0 E) s
def PXs(X:Cx)(st:List Stmt)(t:TX):Prop :=
 ∀(V0:List<|Addr×Obj) (s:Shared) (σ:St) (H:Hp) (D:Ends) (E:XE),Inv X V0 σ H s->t E D σ H->wpAny (model X.prog X.w) X.A (execs st X.env) (SP X V0 D) (XP X V0 E) s
def PEX(X:Cx)(e:Expr)(t:TEX):Prop :=
 ∀(V0:List<|Addr×Obj) (s:Shared) (σ:St) (H:Hp) (Q:VK) (E:XE),Inv X V0 σ H s->t E σ H Q->wpAny (model X.prog X.w) X.A (eval e X.env) (EP X V0 σ Q) (XP X V0 E) s
def OX(c:TT)(t u:TX):TX:=λE=>EA c (t E) (u E)
def vC(sp:Sp)(t:TA):TEX:=λE σ H Q=>t σ H λvs D=>sp vs D Q (λcls _ G=>E σ cls G)
def FP(te:TEX):TX:=λE=>w8 (te E)
section
variable{X:Cx}{st:Stmt}{T1:List Stmt}{t:TX}{u:TX}{pos:Pos}
theorem vD(M:PX X st t):PXs X [st] t:=by
 intro V0 s σ H D E I h;refine wpAny_execs_cons (thn (M V0 s σ H D E I h) λf s1 q=>?_)
 cases f with
 |next=>exact wpAny_execs_nil q
 |ret v=>exact q
 |brk=>exact q
 |cont=>exact q
theorem OY(M:X.xe=λ_ _=>False)(U:PT X c tc)(ha:PXs X a t)(O:PXs X b u):PX X (.If c a b pos) (OX tc t u):=by
 intro V0 s σ H D E I h;refine wpAny_If (za6 (U V0 s σ H _ I h) (λd s1 ⟨e,f,g⟩=>?_) λ_ _ z=>by rw[M]at z;exact z.elim)
 cases d with
 |true=>exact ha V0 s1 σ e D E f g
 |false=>exact O V0 s1 σ e D E f g
theorem Bw(M:PEX X e O)(hs:swapsWith e none pos.line X.env=pure false:=by rfl):PX X (.Expr e pos) (FP O):=by
 intro V0 s σ H D E I h;exact wpAny_Expr_any (thn (M V0 s σ H _ E I h) λv s1 ⟨x,a,b,d,c⟩=>⟨σ,a,b,c⟩) I.quiet hs
theorem Bx{x:Str}{p M:Pos}{a:Expr}{es:List Expr}{t:TA}(Y:X.xe=λ_ _=>False)(Df:Def X.prog X.w X.K X.mg X.base (CXW X.prog X.w) k x ps sp)(hr:dR k X.A)(ha:PA X (a::es) t)(hg:Gl X x:=by rfl)
  (O:(x==("__debug__":Str))=false:=by decide) (he:starEach (a::es) X.env=(false,eval a X.env)::starEach es X.env:=by rfl) (U:(backTo M<|starEach es X.env).any (·.1)=false:=by rfl) :
  PEX X (.Call (.Name x p) (a::es) [] M) (vC sp t):=by
 intro V0 s σ H Q E I h;obtain⟨f,fd,F,hm,hk,l⟩:=Df.ex;refine wpAny_Call_Name_kw (nC I hg hm ?_ O);refine PySem.W.callWith_K (h₀:=X.base) I.ok.mod.kin hk (za6 (ha M V0 s σ H _ I h) (λus s1 ⟨vs,i,b,r,q⟩=>⟨b.kIn,?_⟩) λ_ _ z=>by rw[Y]at z;exact z.elim) he U
 have hl:us.length=ps.length:=by rw[<-r.length];exact F.len _ _ _ _ q
 have c:=l s1 us b.kIn (by rw[zaR];exact hl)
 rw[zaR]at c;refine wpAny_call (codeAny_mono (F.run X.A X.stack s1 i ⟨us,[]⟩ us vs _ _ hr b.env0 c r q) λr s' d=>?_)
 cases r with
 |ok g=>
  cases g with
  |ret u=>
   obtain⟨v,e,j,o,m⟩:=b.after d;exact⟨v,e,j,o,m⟩
  |next=>exact False.elim d
  |brk=>exact False.elim d
  |cont=>exact False.elim d
 |error C=>
  obtain⟨ea,y,cls,B,e,rfl,g⟩:=d;exact⟨ea,y,cls,B,e,s1,i,σ,rfl,b,g⟩
end
def KI(M:TX)(ok:Value->Prop)(O:Value->Addr->TS):TS:=λD σ H=>M (fun G cls J=>ok cls/\∀e:Addr,J e=none->O cls e D G J) D σ H
section
variable{X:Cx}
theorem IW{K:zag}{np pos hpos:Pos}{U:List Stmt}{tb:TX}{th:Value->Addr->TS}{Y:Stmt}{M:List Stmt}(hK:X.K=K)(hb:PXs X U tb)
  (O:X.stack=X.env::X.outer) (hfr:X.env.frame=some X.env.locals) (hgC:Gl X xC) (hmC:X.mg xC=some (.ref C)) (hS:∀(cls:Value) (e:Addr) (oe:Obj),oe.cls=cls->L2.okX K C cls->PSs (X.inX e oe) (Y::M) (th cls e))
  (hdC:(xC==("__debug__":Str))=false:=by decide):PS X (.Try U [.ExceptHandler (some<|.Name xC np) none (Y::M) hpos] [] [] pos) (KI tb (L2.okX K C) th):=by
 subst hK;intro V0 s σ H D I h;refine wpAny_Try_except ?_;refine za6 (hb V0 s σ H D _ I h) (λf s1 q=>?_) λev s' hq=>?_
 ·cases f with
  |next=>exact wpAny_execs_nil q
  |ret v=>exact q
  |brk=>exact q
  |cont=>exact q
 ·obtain⟨ea,t',cls,B,i,s1,H1,c,rfl,Z,j⟩:=hq
  obtain⟨t,R⟩:=j.wish;have fly:=j.fly;rw[O]at fly;refine wpAny_looks_onW (by rw[I.ok.frames,O]) hfr fly λh4 OZ S=>?_
  refine wpAny_landsW OZ λJ F T=>?_
  have sm:s'.heap.UpToSlots J:=S.trans T;have I5:Inv X V0 c i {s' with heap:=J}:=j.inv Z (by rw[O];exact F) sm
  have A:=I5.mkd (e:=ea);refine wpAny_handleBy_cons (codeAny_handlers_test<|nC A hgC hmC ?_ hdC) (by intro q;cases q)
  have LT:PySem.W.Looks (model X.prog X.w) J (typeOf<|.ref ea) cls:=by
   obtain⟨ob,Q,m⟩:=F.there;exact m▸(PySem.W.Looks.ld Q).andThen .now
  have hex:PySem.W.exmOne X.K cls (.ref C)=some true:=by obtain⟨_,_,_,z⟩:=id t;exact z
  refine(PySem.W.exm_one I5.kIn LT hex) _ _ _ _ (λ_ _ z=>z) ?_
  refine codeAny_handlers_suite ?_;refine lands_againW F λh6 y V=>?_
  have I6:Inv X V0 c i {s' with heap:=h6}:=j.inv Z (by rw[O];exact y) (sm.trans V)
  obtain⟨oe,ws,o,p,d,_⟩:=y.first;have l:i ea=none:=by
   cases z:i ea with
   |none=>rfl
   |some u=>
    obtain⟨o',x⟩:=(j.hok ea u z).is;rw[y.2.1]at x;cases x
  have r:ea∉frs (X.env::X.outer):=λP=>by
   obtain⟨_,o',x,hd⟩:=y.2.2.1.mem P;rw[o]at x;cases x;exact hd ws d
  have E:Inv (X.inX ea oe) V0 c i {s' with heap:=h6}:=I6.inX o l (λz=>r<|List.mem_filterMap.mpr ⟨X.env,zas,by rw[hfr,z]⟩) (λz=>r (by
   obtain⟨env,L,N⟩:=List.mem_filterMap.mp z;exact List.mem_filterMap.mpr ⟨env,zak _ L,N⟩)) (λv z=>by rw[d]at z;cases z)
  refine za6 (hS cls ea oe p t V0 _ c i D E<|R ea l) (λG s8 b=>?_) (λ_ _ z=>z.elim)
  cases G with
  |next=>
   obtain⟨a,g,I8,b⟩:=b;exact⟨a,g,I8.Ir I.ok,b⟩
  |brk=>
   obtain⟨a,g,I8,b⟩:=b;exact⟨a,g,I8.Ir I.ok,b⟩
  |cont=>
   obtain⟨a,g,I8,b⟩:=b;exact⟨a,g,I8.Ir I.ok,b⟩
  |ret u=>
   obtain⟨v8,a,g,I8,r8,b⟩:=b;exact⟨v8,a,g,I8.Ir I.ok,r8,b⟩
end
end L2
namespace Mir
open L2
section
variable [Zc]
abbrev XM:=Rho->Option ((RV×Rho) ⊕ (Str×Rho))
def M7(cl:Str->Value)(F:Fr)(D:Ends)(E:XE):zT->Prop
 | .ok o=>lu F D o
 | .er c ρ=>∀B H σ,Rel F B H σ ρ->E σ (cl c) H
def MSX(cl:Str->Value)(t:TX)(m:EM):Prop:=∀(F:Fr) (B H:Hp) (σ:St) (ρ:Rho) (o:zT) (D:Ends) (E:XE),Rel F B H σ ρ->m ρ=some o->M7 cl F D E o->t E D σ H
variable{cl:Str->Value}
theorem M8(M:MT tc c)(ha:MSX cl t a)(I:MSX cl u b):MSX cl (OX tc t u) (eIf c a b):=by
 intro F B H σ ρ o D E R e q;obtain⟨x,f,e⟩:=zaa e;refine M F B H σ ρ x.1 x.2 _ R f λB' H' g d=>?_
 by_cases h:x.1=true
 ·rw[if_pos h]at e⊢;exact ha F B' H' σ x.2 o D E d e q
 ·rw[if_neg h]at e⊢;exact I F B' H' σ x.2 o D E d e q
def mOk(m:XM):PM:=fun ρ=>match m ρ with
 |some (.inl x)=>some x
 |_=>none
theorem M9(h:mOk m ρ=some x):m ρ=some (.inl x):=by
 unfold mOk at h;split at h
 ·rename_i y e;cases h;exact e
 ·cases h
structure MEX(cl:Str->Value)(t:TEX)(m:XM):Prop where
 ok:∀E,ME (t E) (mOk m)
 er:∀(F:Fr) (B H:Hp) (σ:St) (ρ:Rho) (c:Str) (ρ':Rho) (Q:VK) (E:XE),Rel F B H σ ρ->m ρ=some (.inr (c,ρ'))->(∀B' H',Rel F B' H' σ ρ'->E σ (cl c) H')->t E σ H Q
def gx(f:List D->Option ((D×Bool) ⊕ Str))(m:Rho->Option (List RV×Rho)):XM:=fun ρ=>(m ρ).bind λx=>(i7 x.1 x.2).bind λy=>(f y.1).map λw=>match w with
 | .inl (d,o)=>.inl (kO d o,y.2)
 | .inr c=>.inr (c,y.2)
theorem uu(h:gx f m ρ=some z):∃x y w,m ρ=some x/\i7 x.1 x.2=some y/\f y.1=some w/\z=(match w with
 | .inl (d,o)=>.inl (kO d o,y.2)
 | .inr c=>.inr (c,y.2)):=by
 obtain⟨x,a,h⟩:=zaa h;obtain⟨y,b,h⟩:=zaa h;obtain⟨w,e,h⟩:=zab h;exact⟨x,y,w,a,b,e,h.symm⟩
theorem rE(h:MA t m):MEX cl (vC (spX cl f) t) (gx f m):=by
 refine⟨λE=>?_,?_⟩
 ·intro F B H σ ρ r ρ' Q R e q
  obtain⟨x,y,w,G,S,j,i⟩:=uu (M9 e);cases w with
  |inr c=>cases i
  |inl w=>
   obtain⟨d,o⟩:=w;cases i
   walk_at "q9"
   refine⟨l,y.1,_,R2.sub,R2.cL,g,j,λv B' H' P=>?_⟩
   have u:=R2.grow P.eB P.eH P.sub P.nb P.tB P.nz;have s:Ext σ y.2 l b y.2 B' H':=Ext.grow P.eB P.eH P.nb;cases o with
   |false=>
    have pv:Rep B' v d:=P.val;exact q v B' H' (a.trans<|A.trans s) u pv λp z=>by cases z
   |true=>
    obtain⟨p,rfl,C,D,h3⟩:∃p,v=.ref p/\b p=none/\B' p=none/\Own B' H' p d:=P.val;have fr:=R2.free C;exact q _ B' H' (a.trans<|A.trans s) u ⟨p,rfl,D,fr.2.1,h3,fr.2.2⟩ λJ _ z=>by cases z;exact a.live p C
 ·intro F B H σ ρ c ρ' Q E R e q
  obtain⟨x,y,w,G,S,j,i⟩:=uu e;cases w with
  |inl w=>obtain⟨d,o⟩:=w;cases i
  |inr c'=>
   cases i
   walk_at "q9"
   refine⟨l,y.1,_,R2.sub,R2.cL,g,j,λB' H' P=>?_⟩
   exact q B' H' (R2.grow P.eB P.eH P.sub P.nb P.tB P.nz)
def eX(k:PM->SM)(m:XM):EM:=fun ρ=>(m ρ).bind λo=>match o with
 | .inl _=>(k (mOk m) ρ).map .ok
 | .inr x=>some (.er x.1 x.2)
theorem KJ{T:TE->TS}{m:XM}(I:∀(te:TE) D σ H,(∀Q,te σ H Q)->T te D σ H)(hk:∀t m,ME t m->MS (T t) (k m))(h:MEX cl te m):MSX cl (λE=>T<|te E) (eX k m):=by
 intro F B H σ ρ o D E R e q;obtain⟨x,b,e⟩:=zaa e;cases x with
 |inl x=>
  obtain⟨y,c,e⟩:=zab e;cases e;exact hk _ _ (h.ok E) F B H σ ρ y D R c q
 |inr x=>
  cases e;exact I _ D σ H λQ=>h.er F B H σ ρ x.1 x.2 Q E R b λB' H' a=>q B' H' σ a
def xP(h:MEX cl I m):MSX cl (FP I) (eX kU m):=KJ (T:=w8) (λI D σ H q=>q _) (λt m h=>Bg h) h
def By(b:EM)(M:Str->Option SM):SM:=fun ρ=>(b ρ).bind λo=>match o with
 | .ok o=>some o
 | .er c ρ1=>(M c).bind λs=>s ρ1
theorem IY(h:MSX cl M b)(hok:∀c s,I c=some s->ok (cl c))(hs:∀c s,I c=some s->∀e:Addr,MS (O (cl c) e) s):MS (KI M ok O) (By b I):=by
 walk_at "q6"
 refine h F B H σ ρ x D _ R f ?_;cases x with
 |ok o'=>cases e;exact q
 |er c a=>
  obtain⟨s,g,m⟩:=zaa e;exact λi j d l=>⟨hok c s g,λea _=>hs c s g ea F i j d a o D l m q⟩
end
section
variable [Zc]
structure QF(B H:Hp)(p p2:Addr)(v:V)(B' H':Hp)(d:D)(o:Bool)(d1 d2:D):Prop where
 eH:∀q u,q≠p->q≠p2->H q=some u->H' q=some u
 eB:aH B B'
 sub:aH B' H'
 nb:∀q,H q≠none->B q=none->B' q=none
 tB:∀q xs,H' q=some (.tup xs)->B' q=some (.tup xs)
 nz:∀q o u,H' q=some (.frz o u)->H q≠none
 own:Own B' H' p d1
 QN:Own B' H' p2 d2
 val:if o=true then∃p,v=.ref p/\H p=none/\B' p=none/\Own B' H' p d else Rep B' v d
end
end Mir
namespace L2
open PySem.Spec PyProof.Rows
theorem O0{K:zag}{mg:Str->Option Value}{base:Heap}{N:List Str}{W1:Str}{x0:Scope}{f:Addr}{M:Value}{A:Around}{outer:List Env}{s₀:Shared}{H₀:Hp}{E:XK}
  (hex:(envOfC W1 x0 s₀.heap.objs.size f M).frame=some s₀.heap.objs.size):Passes (CXW P w) (mV (CXW P w) P w K mg base N W1 x0 f M A outer s₀ H₀ E) E:=by
 intro V0 σ H s e s' I h;obtain⟨ea,t,cls,B,H',rfl,d⟩:=h;have a:∀b:Addr,b∉(mV (CXW P w) P w K mg base N W1 x0 f M A outer s₀ H₀ E).ex:=λb z=>absurd (show b∈([]:List Addr)from z) (by simp)
 have fly:Heap.FlyingW B (envOfC W1 x0 s₀.heap.objs.size f M::outer) ea cls (.ref t) s'.heap:=d.fly;have m:∀env∈(envOfC W1 x0 s₀.heap.objs.size f M::outer),∀b,env.frame=some b->b∈frs (envOfC W1 x0 s₀.heap.objs.size f M::outer):=λenv g b c=>List.mem_filterMap.mpr ⟨env,g,c⟩
 have sub:∀b∈frs outer,b∈frs (envOfC W1 x0 s₀.heap.objs.size f M::outer):=λb c=>by
  obtain⟨env,g,i⟩:=List.mem_filterMap.mp c;exact m env (zak _ g) b i
 have out:∀b o,s₀.heap.get? b=some o->b∉frs outer->b∉frs (envOfC W1 x0 s₀.heap.objs.size f M::outer):=λb o q c hm=>by
  obtain⟨env,g,i⟩:=List.mem_filterMap.mp hm;rcases zaf g with rfl|g
  ·rw[hex]at i
   cases i;exact absurd (zaq q) (za3 _)
  ·exact c (List.mem_filterMap.mpr ⟨env,g,i⟩)
 show wpAny _ _ (leaving _<|.ref ea) _ _ _;refine wpAny_leaves_onW I.ok.frames hex fly λL l F=>?_
 refine⟨ea,t,cls,B,H',rfl,⟨d.os.trans I.os,d.bare,l,λb o q n c=>?_,λb o q c=>?_,λb o q c n=>?_,λb o q n=>?_,λb xs q=>d.tups b xs<|I.base.tups b xs q,λb o u q=>d.k7 b o u<|I.base.k7 b o u q,λb ps q=>?_,d.hok,d.wish⟩⟩
 ·exact d.keep b o (I.base.keep b o q n c<|a b) (I.base.free b o q n<|a b) (out b o q c)
 ·obtain⟨o',j⟩:=I.base.there b o q (a b)
  exact d.there b o' j (out b o q c)
 ·obtain⟨sl,j⟩:=I.base.slot b o q n c (a b)
  obtain⟨D,r⟩:=d.slot b _ j (sub b c) (I.base.free b o q n<|a b);obtain⟨_,Q,v,hd⟩:=fly.2.2.1.mem (sub b c);rw[r]at v;cases v;obtain⟨p,C⟩:=F b _ r hd;exact⟨p,C⟩
 ·obtain⟨o',j⟩:=I.base.there b o q (a b)
  exact d.free b o' j (I.base.free b o q n<|a b)
 ·obtain⟨x,G⟩:=I.base.jU b ps q
  obtain⟨y,J⟩:=d.jU b _ G;exact⟨x++y,by rw[J];simp⟩
theorem IZ{ps:List Str}{sp:Sp}{p pos:Pos}{e:Expr}{es:List Expr}{t:TA}{E:XK}(D:Def X.prog X.w X.K X.mg X.base (CXW X.prog X.w) k x ps sp)(Y:dR k X.A)(hx:Passes (CXW X.prog X.w) X E)(ha:PA X (e::es) t)(U:Gl X x:=by rfl)
  (I:(x==("__debug__":Str))=false:=by decide) (O:starEach (e::es) X.env=(false,eval e X.env)::starEach es X.env:=by rfl) (M:(backTo pos<|starEach es X.env).any (·.1)=false:=by rfl) :
  PE X (.Call (.Name x p) (e::es) [] pos) (i6 sp [] E t):=by
 obtain⟨f,fd,F,m,kp,b⟩:=D.ex;exact AZ F Y U m kp b .nil hx ha I O M
end L2
namespace Mir
open L2
section
variable [Zc]
theorem O1{T:TE->TS}{k:PM->SM}{f:List D->Option ((D×Bool) ⊕ Str)}{t:TA}{m:Rho->Option (List RV×Rho)}(I:∀(te:TE) D σ H,(∀Q,te σ H Q)->T te D σ H)(hk:∀t m,ME t m->MS (T t) (k m))(h:MA t m) :
  MSE (λc H=>E (cl c) none H) (T<|i6 (spX cl f) [] E t) (eX k<|gx f m):=by
 have j:i6 (spX cl f) [] E t=vC (spX cl f) t (λ_ cls H=>E cls none H):=by
  funext σ H Q
  show t σ H (λvs a=>spX cl f (vs++[]) a Q E)=t σ H (λvs a=>spX cl f vs a Q λcls _ g=>E cls none g)
  congr 1
  funext vs a
  rw[zaR];rfl
 rw[j];intro F B H σ ρ o D R e q;refine KJ (cl:=cl) (T:=T) (te:=vC (spX cl f) t) I hk (rE h) F B H σ ρ o D _ R e ?_;cases o with
 |ok o=>exact q
 |er c l=>exact λd a b i=>q d a b i
def FQ(h:MA t m):MSE (λc H=>E (cl c) none H) (xa (i6 (spX cl f) [] E t)<|ll i) (eX (fV i)<|gx f m):=O1 (T:=λa=>xa a<|ll i) (λa D σ H q=>q _) (λt m h=>dH h) h
end
end Mir
namespace L2
open PySem.Spec PyProof.Rows PySem.W
def excAt(e:Addr)(cls:Value):Heap->Prop:=λh=>∃D,h.get? e=some D/\D.cls=cls
end L2
namespace Mir
open L2
end Mir
namespace L2
def Qm(e:Addr)(cls:Value)(dx:Addr):Heap->Prop:=λh=>∃D vs,h.get? e=some D/\D.cls=cls/\D.dict=some dx/\D.data=.fields vs
end L2
namespace Mir
open L2
class Zl where
 cl:Str->Value
instance (priority:=10) zl0:Zl:=⟨λ_=>.none⟩
section
variable [Zc] [Zl]
inductive SV where
 |pl (d:D)|lc (k:Nat)|tp (xs:List SV)
inductive Cl where
 |dat (d:D)|obj (C:Addr) (fs:List (Str×SV))|lst (xs:List SV)|dct (es:List (Key×SV))|exc (c:Str) (n:Option Int)
structure SS where
 S:List (Option Cl)
 t:List (Option SV)
mutual
inductive cZ(A:List Addr)(B:Hp):V->SV->Prop
 |pl {v:V} {d:D}:Rep B v d->cZ A B v (.pl d)
 |lc {k:Nat} {a:Addr}:A[k]?=some a->cZ A B (.ref a) (.lc k)
 |tp {t:Addr} {vs:List V} {xs:List SV}:B t=some (.tup vs)->bM A B vs xs->cZ A B (.ref t) (.tp xs)
inductive bM(A:List Addr)(B:Hp):List V->List SV->Prop
 |nil:bM A B [] []
 |cons {v:V} {x:SV} {vs:List V} {xs:List SV}:cZ A B v x->bM A B vs xs->bM A B (v::vs) (x::xs)
end
def Gro(A A':List Addr):Prop:=∀(k:Nat) (a:Addr),A[k]?=some a->A'[k]?=some a
def Gro.refl(A:List Addr):Gro A A:=λ_ _ h=>h
def Gro.trans(a:Gro A I)(b:Gro I M):Gro A M:=λk x h=>b k x (a k x h)
theorem Gro.app(A N:List Addr):Gro A (A++N):=λk a h=>by rw[zax (zac h).1];exact h
mutual
theorem cZ.mono(g:Gro A A')(e:aH B B'):∀{v:V} {x:SV},cZ A B v x->cZ A' B' v x
 |_,_,.pl r=>.pl (r.mono e)
 |_,_,.lc h=>.lc (g _ _ h)
 |_,_,.tp h r=>.tp (e _ _ h) (bM.mono g e r)
theorem bM.mono(g:Gro A A')(e:aH B B'):∀{v:List V} {x:List SV},bM A B v x->bM A' B' v x
 |_,_,.nil=>.nil
 |_,_,.cons a b=>.cons (cZ.mono g e a) (bM.mono g e b)
end
theorem bM.length:∀{v:List V} {x:List SV},bM A B v x->v.length=x.length
 |_,_,.nil=>rfl
 |_,_,.cons _ b=>by rw[zaw,zaw,bM.length b]
theorem bM.get:∀{v:List V} {x:List SV} (i:Nat),bM A B v x->∀c,x[i]?=some c->∃y,v[i]?=some y/\cZ A B y c
 |_,_,i,.nil,c,h=>by simp at h
 |_,_,0,.cons a _,c,h=>by simp at h;subst h;exact⟨_,rfl,a⟩
 |_,_,i+1,.cons _ b,c,h=>by
  rw[zat]at h;rw[zat];exact bM.get i b c h
inductive kW(A:List Addr)(B:Hp):List (Str×V)->List (Str×SV)->Prop
 |nil:kW A B [] []
 |cons {f:Str} {v:V} {x:SV} {gs:List (Str×V)} {fs:List (Str×SV)}:cZ A B v x->kW A B gs fs->kW A B ((f,v)::gs) ((f,x)::fs)
theorem kW.mono(g:Gro A A')(e:aH B B'):∀{v:List<|Str×V} {x:List<|Str×SV},kW A B v x->kW A' B' v x
 |_,_,.nil=>.nil
 |_,_,.cons a b=>.cons (a.mono g e) (kW.mono g e b)
inductive kX(A:List Addr)(B:Hp):List (Key×V)->List (Key×SV)->Prop
 |nil:kX A B [] []
 |cons {f:Key} {v:V} {x:SV} {gs:List (Key×V)} {fs:List (Key×SV)}:cZ A B v x->kX A B gs fs->kX A B ((f,v)::gs) ((f,x)::fs)
theorem kX.mono(g:Gro A A')(e:aH B B'):∀{v:List<|Key×V} {x:List<|Key×SV},kX A B v x->kX A' B' v x
 |_,_,.nil=>.nil
 |_,_,.cons a b=>.cons (a.mono g e) (kX.mono g e b)
def O2(f:Str)(x:SV):List (Str×SV)->List (Str×SV)
 | []=>[(f,x)]
 |(k,y)::r=>if k=f then(k,x)::r else(k,y)::O2 f x r
def Mx:HO->Prop
 | .lst _=>True
 | .dK _=>True
 | .ins _ _ _=>True
 | .ext _=>True
 |_=>False
def MxF(o:HO):Prop:=Mx o\/∃ob φ,o=.frz ob (.ext φ)
def I0(H:Hp)(a:Addr)(φ:Heap->Prop):Prop:=H a=some (.ext φ)\/∃o,H a=some (.frz o<|.ext φ)
def I0.mono(h:I0 H a φ)(k:∀o,H a=some o->H' a=some o):I0 H' a φ:=h.elim (λh=>.inl<|k _ h) λ⟨o,h⟩=>.inr ⟨o,k _ h⟩
theorem Ja : ¬MxF (.own x):=λz=>by rcases z with z|⟨_,_,z⟩;exact z;cases z
theorem Na : ¬MxF (.xd fs):=λz=>by rcases z with z|⟨_,_,z⟩;exact z;cases z
inductive eu(A:List Addr)(B H:Hp)(a:Addr):Cl->Prop
 |dat {d:D}:Own B H a d->eu A B H a (.dat d)
 |obj {C dx:Addr} {gs:List (Str×V)} {fs:List (Str×SV)}:H a=some (.ins C dx gs)->H dx=some (.own a)->kW A B gs fs->eu A B H a (.obj C fs)
 |lst {vs:List V} {xs:List SV}:H a=some (.lst vs)->bM A B vs xs->eu A B H a (.lst xs)
 |dct {Z0:List (Key×V)} {es:List (Key×SV)}:H a=some (.dK Z0)->kX A B Z0 es->eu A B H a (.dct es)
 |exc {c:Str} {n:Option Int} {φ:Heap->Prop}:I0 H a φ->(∀h,φ h->excAt a (Zl.cl c) h)->(∀k,n=some k->∃dx,(∀h,φ h->Qm a (Zl.cl c) dx h)/\H dx=some (.xd [("by",.int k)]))->eu A B H a (.exc c n)
theorem eu.mono(h:eu A B H a c)(g:Gro A A')(e:aH B B')(k:∀o,H a=some o->H' a=some o)(I:∀q o,H q=some o->¬MxF o->H' q=some o):eu A' B' H' a c:=by
 cases h with
 |dat h=>exact .dat (h.mono e k)
 |obj b f h3=>exact .obj (k _ b) (I _ _ f Ja) (h3.mono g e)
 |lst b f=>exact .lst (k _ b) (f.mono g e)
 |dct b f=>exact .dct (k _ b) (f.mono g e)
 |exc b f h3=>exact .exc (b.mono k) f λn e=>(let⟨dx,i,p2⟩:=h3 n e;⟨dx,i,I _ _ p2 Na⟩)
structure StO(A:List Addr)(B H:Hp)(S:List<|Option Cl):Prop where
 len:A.length=S.length
 nd:A.Nodup
 dis:∀a∈A,B a=none
 mx:∀a∈A,∃o,H a=some o/\MxF o
 cell:∀(k:Nat) (c:Cl) (a:Addr),S[k]?=some (some c)->A[k]?=some a->eu A B H a c
structure FrN where
 B:Hp
 H:Hp
 io:List Addr
 Z:Addr->Prop
structure a7(G:FrN)(A:List Addr)(B H:Hp)(σ:St)(s:SS):Prop where
 sub:aH B H
 sB:aH G.B B
 cL:∀q xs,H q=some (.tup xs)->B q=some (.tup xs)
 kept:∀q o,G.H q=some o->q∉G.io->H q=some o
 nB:∀q,G.H q≠none->G.B q=none->B q=none
 pre:Gro G.io A
 fresh:∀a∈A,a∈G.io\/G.H a=none
 st:StO A B H s.S
 len:s.t.length=σ.length
 slot:∀(i:Nat) (x:SV),s.t[i]?=some (some x)->∃v,σ[i]?=some (some v)/\cZ A B v x
 nz:∀q o u,H q=some (.frz o u)->G.Z q
section
variable{G:FrN}{A A':List Addr}{B H B' H':Hp}{σ:St}{s:SS}
theorem StO.mono(O:StO A B H s.S)(eB:aH B B')(eH:aH H H')(nb:∀q,H q≠none->B q=none->B' q=none):StO A B' H' s.S where
 len:=O.len
 nd:=O.nd
 dis:=λa ha=>by obtain⟨o,h,_⟩:=O.mx a ha;exact nb a (by rw[h];simp) (O.dis a ha)
 mx:=λa ha=>by obtain⟨o,h,m⟩:=O.mx a ha;exact⟨o,eH _ _ h,m⟩
 cell:=λk c a b e=>(O.cell k c a b e).mono (Gro.refl _) eB (λo h=>eH _ _ h) λq o h _=>eH _ _ h
theorem a7.grow(R:a7 G A B H σ s)(eB:aH B B')(eH:aH H H')(sub:aH B' H')(nb:∀q,H q≠none->B q=none->B' q=none)(tB:∀q xs,H' q=some (.tup xs)->B' q=some (.tup xs))(nz:∀q o u,H' q=some (.frz o u)->G.Z q):a7 G A B' H' σ s where
 sub:=sub
 sB:=R.sB.trans eB
 cL:=tB
 kept:=λq o h n=>eH _ _ (R.kept q o h n)
 nB:=λq h z=>by
  have e:=R.nB q h z
  by_cases b:H q=none
  ·by_cases hi:q∈G.io
   ·obtain⟨k,hk⟩:=List.mem_iff_getElem?.mp hi
    obtain⟨o,a,_⟩:=R.st.mx q (zaj<|R.pre k q hk);rw[b]at a;cases a
   ·cases h3:G.H q with
    |none=>exact absurd h3 h
    |some o=>rw[R.kept q o h3 hi]at b;cases b
  ·exact nb q b e
 pre:=R.pre
 fresh:=R.fresh
 st:=R.st.mono eB eH nb
 len:=R.len
 slot:=λi x h=>by obtain⟨v,d,a⟩:=R.slot i x h;exact⟨v,d,a.mono (Gro.refl _) eB⟩
 nz:=nz
theorem a7.pA(R:a7 G A B H σ s)(h:H p=none):G.H p=none/\p∉A/\B p=none:=by
 have b:p∉A:=λz=>by obtain⟨o,a,_⟩:=R.st.mx p z;rw[h]at a;cases a
 refine⟨?_,b,?_⟩
 ·cases h3:G.H p with
  |none=>rfl
  |some o=>
   have:p∉G.io:=λz=>by
    obtain⟨k,hk⟩:=List.mem_iff_getElem?.mp z;exact b (zaj<|R.pre k p hk)
   rw[R.kept p o h3 this]at h;cases h
 ·cases h3:B p with
  |none=>rfl
  |some o=>rw[R.sub p o h3]at h;cases h
theorem a7.write(R:a7 G A B H σ s)(hk:A[k]?=some a)(I:Mx o)(ok:eu A B (upd H a o) a c):a7 G A B (upd H a o) σ ⟨s.S.set k<|some c,s.t⟩:=by
 have ha:a∈A:=zaj hk;have p:=R.st.dis a ha;obtain⟨o0,l,v⟩:=R.st.mx a ha;have kl:=(zac hk).1;refine⟨λq u h=>?_,R.sB,λq xs h=>?_,λq u h n=>?_,R.nB,R.pre,R.fresh,⟨?_,R.st.nd,R.st.dis,λb r=>?_,λj d b m i=>?_⟩,R.len,R.slot,λq u w h=>?_⟩
 ·rw[au λz=>by rw[z,p]at h;cases h];exact R.sub q u h
 ·by_cases z:q=a
  ·subst z;rw[ay]at h;cases h;cases I
  ·rw[au z]at h;exact R.cL q xs h
 ·have z:q≠a:=λz=>by
   subst z;rcases R.fresh q ha with g|g
   ·exact n g
   ·rw[g]at h;cases h
  rw[au z];exact R.kept q u h n
 ·show A.length=(s.S.set k<|some c).length
  rw[zaM];exact R.st.len
 ·by_cases z:b=a
  ·subst z;exact⟨o,ay,.inl I⟩
  ·rw[au z];exact R.st.mx b r
 ·have f:(s.S.set k<|some c)[j]?=some (some d):=m
  by_cases z:j=k
  ·subst z
   rw[hk]at i;cases i
   rw[zav (by rw[<-R.st.len];exact kl)]at f
   cases f;exact ok
  ·rw[zaA λe=>z e.symm]at f
   have nb:b≠a:=λe=>by
    subst e;exact z ((List.getElem?_inj (zac i).1 R.st.nd).mp<|i.trans hk.symm)
   refine(R.st.cell j d b f i).mono (Gro.refl _) (aH.refl _) (λu h=>by rw[au nb];exact h) λq o h hm=>?_
   rw[au λe=>by subst e;rw[l]at h;cases h;exact hm v];exact h
 ·by_cases z:q=a
  ·subst z;rw[ay]at h;cases h;cases I
  ·rw[au z]at h;exact R.nz q u w h
theorem a7.take(R:a7 G A B H σ s)(O:G.H p=none)(I:p∉A)(M:B p=none)(U:H p=some o)(Y:Mx o)(ok:eu (A++[p]) B H p c):a7 G (A++[p]) B H σ ⟨s.S++[some c],s.t⟩:=by
 refine⟨R.sub,R.sB,R.cL,R.kept,R.nB,R.pre.trans<|Gro.app _ _,λb f=>?_,⟨?_,?_,λb f=>?_,λb f=>?_,λj d b g e=>?_⟩,R.len,λi x h=>?_,R.nz⟩
 ·rcases zae f with h|h
  ·exact R.fresh b h
  ·simp only[List.mem_singleton]at h;subst h;exact .inr O
 ·show(A++[p]).length=(s.S++[some c]).length
  rw[zau,zau,R.st.len];rfl
 ·rw[List.nodup_append]
  refine⟨R.st.nd,by simp,λx m y k=>?_⟩
  simp only[List.mem_singleton]at k;subst k
  exact λz=>I (z▸m)
 ·rcases zae f with h|h
  ·exact R.st.dis b h
  ·simp only[List.mem_singleton]at h;subst h;exact M
 ·rcases zae f with h|h
  ·exact R.st.mx b h
  ·simp only[List.mem_singleton]at h;subst h;exact⟨o,U,.inl Y⟩
 ·have a:(s.S++[some c])[j]?=some (some d):=g
  by_cases z:j<s.S.length
  ·rw[zax z]at a
   rw[zax (by rw[R.st.len];exact z)]at e
   exact(R.st.cell j d b a e).mono (Gro.app _ _) (aH.refl _) (λ_ h=>h) λ_ _ h _=>h
  ·rw[zaN<|zba z]at a
   rw[zaN (by rw[R.st.len];exact zba z),R.st.len]at e
   cases l:j-s.S.length with
   |zero=>
    rw[l]at a e;simp at a e;subst a e;exact ok
   |succ n=>rw[l]at a;simp at a
 ·obtain⟨v,g,e⟩:=R.slot i x h
  exact⟨v,g,e.mono (Gro.app _ _)<|aH.refl _⟩
theorem a7.xo(R:a7 G A B H σ s)(I:H p=none):a7 G A (upd B p<|.tup xs) (upd H p<|.tup xs) σ s/\aH B (upd B p<|.tup xs):=by
 obtain⟨_,_,a⟩:=R.pA I;have eB:aH B (upd B p<|.tup xs):=λq u h=>by rw[au λz=>by rw[z,a]at h;cases h];exact h
 refine⟨R.grow eB (λq u h=>by rw[au λz=>by rw[z,I]at h;cases h];exact h) (λq u h=>?_) (λq h z=>?_) (λq b h=>?_) λq u w h=>?_,eB⟩
 ·by_cases z:q=p
  ·subst z;rw[ay]at h⊢;exact h
  ·rw[au z]at h⊢;exact R.sub q u h
 ·rw[au λe=>by rw[e]at h;exact h I];exact z
 ·by_cases z:q=p
  ·subst z;rw[ay]at h⊢;exact h
  ·rw[au z]at h⊢;exact R.cL q b h
 ·by_cases z:q=p
  ·subst z;rw[ay]at h;cases h
  ·rw[au z]at h;exact R.nz q u w h
theorem a7.set(R:a7 G A B H σ s)(h:i<s.t.length)(I:cZ A B v x):a7 G A B H (σ.set i<|some v) ⟨s.S,s.t.set i<|some x⟩:=by
 refine⟨R.sub,R.sB,R.cL,R.kept,R.nB,R.pre,R.fresh,R.st,?_,λj y c=>?_,R.nz⟩
 ·show(s.t.set i<|some x).length=_
  rw[zaM,zaM];exact R.len
 ·have a:(s.t.set i<|some x)[j]?=some (some y):=c
  by_cases z:j=i
  ·subst z
   rw[zav h]at a;cases a;exact⟨v,zav<|R.len▸h,I⟩
  ·rw[zaA λe=>z e.symm]at a
   rw[zaA λe=>z e.symm]
   exact R.slot j y a
mutual
def blV(n:Nat):SV->Bool
 | .pl _=>true
 | .lc k=>decide (k<n)
 | .tp xs=>iO n xs
def iO(n:Nat):List SV->Bool
 | []=>true
 |x::xs=>blV n x&&iO n xs
end
theorem xQ(h:A[k]?=some a)(hk:k<n):(A.take n)[k]?=some a:=by rw[List.getElem?_take,if_pos hk];exact h
mutual
theorem cZ.take(n:Nat):∀{v:V} {x:SV},cZ A B v x->blV n x=true->cZ (A.take n) B v x
 |_,_,.pl r,_=>.pl r
 |_,_,.lc h,e=>.lc (xQ h (by simpa[blV]using e))
 |_,_,.tp h r,e=>.tp h (bM.take n r (by simpa[blV]using e))
theorem bM.take(n:Nat):∀{v:List V} {x:List SV},bM A B v x->iO n x=true->bM (A.take n) B v x
 |_,_,.nil,_=>.nil
 |_,_,.cons a b,e=>by
  simp only[iO,Bool.and_eq_true]at e;exact .cons (cZ.take n a e.1) (bM.take n b e.2)
end
def zW{α:Type}(n:Nat):List (α×SV)->Bool
 | []=>true
 |x::xs=>blV n x.2&&zW n xs
theorem kW.take(n:Nat):∀{v:List<|Str×V} {x:List<|Str×SV},kW A B v x->zW n x=true->kW (A.take n) B v x
 |_,_,.nil,_=>.nil
 |_,_,.cons a b,e=>by
  simp only[zW,Bool.and_eq_true]at e;exact .cons (a.take n e.1) (kW.take n b e.2)
theorem kX.take(n:Nat):∀{v:List<|Key×V} {x:List<|Key×SV},kX A B v x->zW n x=true->kX (A.take n) B v x
 |_,_,.nil,_=>.nil
 |_,_,.cons a b,e=>by
  simp only[zW,Bool.and_eq_true]at e;exact .cons (a.take n e.1) (kX.take n b e.2)
def blC(n:Nat):Cl->Bool
 | .dat _=>true
 | .obj _ fs=>zW n fs
 | .lst xs=>iO n xs
 | .dct es=>zW n es
 | .exc _ _=>true
theorem eu.take(n:Nat)(h:eu A B H a c)(e:blC n c=true):eu (A.take n) B H a c:=by
 cases h with
 |dat h=>exact .dat h
 |obj b d h3=>exact .obj b d (h3.take n e)
 |lst b d=>exact .lst b (d.take n e)
 |dct b d=>exact .dct b (d.take n e)
 |exc b d h3=>exact .exc b d h3
def gcC(n:Nat)(c:Option Cl):Option Cl:=match c with
 |some c=>if blC n c=true then some c else none
 |none=>none
def gcV(n:Nat)(x:Option SV):Option SV:=match x with
 |some x=>if blV n x=true then some x else none
 |none=>none
def gcS(n:Nat)(S:List<|Option Cl):List (Option Cl):=(S.take n).map (gcC n)
def gcT(n:Nat)(t:List<|Option SV):List (Option SV):=t.map (gcV n)
def gc(n:Nat)(s:SS):SS:=⟨gcS n s.S,gcT n s.t⟩
theorem Nb(h:gcC n c=some d):c=some d/\blC n d=true:=by
 cases c with
 |none=>cases h
 |some c=>
  simp only[gcC]at h;split at h
  ·rename_i e;cases h;exact⟨rfl,e⟩
  ·cases h
theorem Nc(h:gcV n c=some d):c=some d/\blV n d=true:=by
 cases c with
 |none=>cases h
 |some c=>
  simp only[gcV]at h;split at h
  ·rename_i e;cases h;exact⟨rfl,e⟩
  ·cases h
theorem StO.gc(O:StO A B H S)(n:Nat):StO (A.take n) B H (gcS n S):=by
 refine⟨?_,O.nd.sublist<|List.take_sublist _ _,λa ha=>O.dis a<|List.mem_of_mem_take ha,λa ha=>O.mx a<|List.mem_of_mem_take ha,λk c a f e=>?_⟩
 ·unfold gcS;rw[zal,List.length_take,List.length_take,O.len]
 ·unfold gcS at f
  rw[zao]at f;obtain⟨c',h3,h4⟩:=zab f;obtain⟨rfl,h⟩:=Nb h4;rw[List.getElem?_take]at h3 e;split at e
  ·rename_i hk
   rw[if_pos hk]at h3;exact(O.cell k c a h3 e).take n h
  ·cases e
theorem a7.gc(R:a7 G A B H σ s)(hn:G.io.length<=n):a7 G (A.take n) B H σ (gc n s):=by
 refine⟨R.sub,R.sB,R.cL,R.kept,R.nB,λk a h=>?_,λa ha=>R.fresh a<|List.mem_of_mem_take ha,R.st.gc n,?_,λi x h=>?_,R.nz⟩
 ·exact xQ (R.pre k a h) (zaF (zac h).1 hn)
 ·show(gcT n s.t).length=_
  unfold gcT;rw[zal];exact R.len
 ·have h':(gcT n s.t)[i]?=some (some x):=h
  unfold gcT at h';rw[zao]at h';obtain⟨c',h3,h4⟩:=zab h';obtain⟨rfl,e⟩:=Nc h4;obtain⟨v,f,l⟩:=R.slot i x h3;exact⟨v,f,l.take n e⟩
def xR(n:Nat)(S:List<|Option Cl):Bool:=(S.take n).all λc=>match c with
 |some c=>blC n c
 |none=>true
def O3(n:Nat)(t:List<|Option SV)(i:Nat):Bool:=match t[i]? with
 |some (some x)=>blV n x
 |_=>true
def gcE(n:Nat)(kp:List Nat)(s:SS):SS:=if(xR n s.S&&kp.all (O3 n s.t))=true then gc n s else s
theorem a7.gcE(R:a7 G A B H σ s)(hn:G.io.length<=n):∃A',a7 G A' B H σ (gcE n kp s):=by
 unfold Mir.gcE;split
 ·exact⟨_,R.gc hn⟩
 ·exact⟨_,R⟩
theorem Gro.len(g:Gro A A'):A.length<=A'.length:=by
 cases h:A.length with
 |zero=>lia
 |succ k=>
  have hk:k<A.length:=by lia
  have:=g k A[k] (zaC hk);exact(zac this).1
end
mutual
def rdV(S:List<|Option Cl):SV->Option D
 | .pl d=>some d
 | .lc k=>match S[k]? with
  |some (some (.dat d))=>some d
  |_=>none
 | .tp xs=>(gq S xs).map .tuple
def gq(S:List<|Option Cl):List SV->Option (List D)
 | []=>some []
 |x::xs=>(rdV S x).bind λd=>(gq S xs).map λds=>d::ds
end
section
variable{G:FrN}{A:List Addr}{B H:Hp}{σ:St}{s:SS}
mutual
theorem j9(O:StO A B H s.S)(sub:aH B H):∀{v:V} {x:SV} {d:D},cZ A B v x->rdV s.S x=some d->Rep H v d
 |_,_,d,.pl r,e=>by
  simp only[rdV]at e;cases e;exact r.mono sub
 |_,_,d,.lc (k:=k) h,e=>by
  simp only[rdV]at e;split at e
  ·rename_i c b
   cases e;cases O.cell k _ _ b h with
   |dat o=>exact o.rep sub
  ·cases e
 |_,_,d,.tp h r,e=>by
  simp only[rdV]at e;obtain⟨ds,a,rfl⟩:=zab e;exact .tup (sub _ _ h) (jD O sub r a)
theorem jD(O:StO A B H s.S)(sub:aH B H):∀{v:List V} {x:List SV} {d:List D},bM A B v x->gq s.S x=some d->a6 H v d
 |_,_,d,.nil,e=>by
  simp only[gq]at e;cases e;exact .nil
 |_,_,d,.cons a b,e=>by
  simp only[gq]at e;obtain⟨c,f,e⟩:=zaa e;obtain⟨ds,g,rfl⟩:=zab e;exact .cons (j9 O sub a f) (jD O sub b g)
end
def Dw(S:List<|Option Cl):Option SV->Sl
 |none=>.no
 |some x=>match rdV S x with
  |some d=>.fz d
  |none=>.no
def vw(s:SS):Rho:=s.t.map (Dw s.S)
def slC:Option SV->Sl
 |some (.pl d)=>.fz d
 |_=>.no
def vwC(s:SS):Rho:=s.t.map slC
theorem uw(S:List<|Option Cl)(y:Option SV):Dw S y=.no\/∃d x,Dw S y=.fz d/\y=some x/\rdV S x=some d:=by
 cases y with
 |none=>exact .inl rfl
 |some x=>
  cases h:rdV S x with
  |none=>exact .inl (by simp only[Dw,h])
  |some d=>exact .inr ⟨d,x,by simp only[Dw,h],rfl,h⟩
theorem FT(y:Option SV):slC y=.no\/∃d,slC y=.fz d/\y=some (.pl d):=by
 cases y with
 |none=>exact .inl rfl
 |some x=>cases x with
  |pl d=>exact .inr ⟨d,rfl,rfl⟩
  |lc _=>exact .inl rfl
  |tp _=>exact .inl rfl
theorem zX{i:Nat}(h:(vw s)[i]?=some x):x=.no\/∃d y,x=.fz d/\s.t[i]?=some (some y)/\rdV s.S y=some d:=by
 unfold vw at h;rw[zao]at h;obtain⟨y,b,rfl⟩:=zab h;rcases uw s.S y with e|⟨d,z,e,rfl,a⟩
 ·exact .inl e
 ·exact .inr ⟨d,z,e,b,a⟩
theorem vE{i:Nat}(h:(vwC s)[i]?=some x):x=.no\/∃d,x=.fz d/\s.t[i]?=some (some<|.pl d):=by
 unfold vwC at h;rw[zao]at h;obtain⟨y,a,rfl⟩:=zab h;rcases FT y with e|⟨d,e,rfl⟩
 ·exact .inl e
 ·exact .inr ⟨d,e,a⟩
theorem a7.opn(R:a7 G A B H σ s):Rel ⟨H,H,[],G.Z⟩ H H σ (vw s):=by
 have nk:∀(i:Nat) (x:Sl),(vw s)[i]?=some x->x.isRef=true->False:=λi x h e=>by
  rcases zX h with rfl|⟨d,y,rfl,_⟩<;>cases e
 refine⟨aH.refl _,aH.refl _,λ_ _ h _=>h,λ_ h z=>absurd z h,?_,λi x h=>?_,λi j x t p a b=>(nk i x a<|Sl.vo b).elim,λi d p h=>(nk i _ h rfl).elim,(λx f=>by cases f),λi d h=>(nk i _ h rfl).elim,λ_ _ h=>h,λi h=>?_,R.nz⟩
 ·unfold vw;rw[zal];exact R.len
 ·rcases zX h with rfl|⟨d,y,rfl,a,b⟩
  ·trivial
  ·obtain⟨v,h3,h4⟩:=R.slot i y a
   exact⟨v,h3,j9 R.st R.sub h4 b⟩
 ·rcases zX h with z|⟨d,y,z,_⟩<;>cases z
theorem a7.cls(R:a7 G A B H σ s):Rel ⟨B,H,[],G.Z⟩ B H σ (vwC s):=by
 have nk:∀(i:Nat) (x:Sl),(vwC s)[i]?=some x->x.isRef=true->False:=λi x h e=>by
  rcases vE h with rfl|⟨d,rfl,_⟩<;>cases e
 refine⟨R.sub,aH.refl _,λ_ _ h _=>h,λ_ _ z=>z,?_,λi x h=>?_,λi j x t p a b=>(nk i x a<|Sl.vo b).elim,λi d p h=>(nk i _ h rfl).elim,(λx c=>by cases c),λi d h=>(nk i _ h rfl).elim,R.cL,λi h=>?_,R.nz⟩
 ·unfold vwC;rw[zal];exact R.len
 ·rcases vE h with rfl|⟨d,rfl,a⟩
  ·trivial
  ·obtain⟨v,h3,h4⟩:=R.slot i _ a
   cases h4 with
   |pl r=>exact⟨v,h3,r⟩
 ·rcases vE h with z|⟨d,z,_⟩<;>cases z
def tbu(B H:Hp):Hp:=λq=>match B q with
 |some o=>some o
 |none=>match H q with
  |some (.tup xs)=>some (.tup xs)
  |_=>none
theorem iP:aH B (tbu B H):=λq o h=>by unfold tbu;rw[h]
theorem ke(sub:aH B H)(h:H q=some (.tup xs)):tbu B H q=some (.tup xs):=by
 unfold tbu;cases a:B q with
 |none=>rw[h]
 |some o=>
  have:=sub q o a;rw[h]at this;exact this.symm
theorem jn(h:tbu B H q=some o):B q=some o\/(B q=none/\∃xs,o=.tup xs/\H q=some (.tup xs)):=by
 unfold tbu at h;cases a:B q with
 |some o'=>rw[a]at h;exact .inl h
 |none=>
  rw[a]at h;refine .inr ⟨rfl,?_⟩;dsimp only at h;split at h
  ·rename_i xs b;cases h;exact⟨xs,rfl,b⟩
  ·cases h
theorem a7.back(R:a7 G A B H σ s)(M:Rel ⟨H,H,[],G.Z⟩ O I σ ρ):a7 G A (tbu B I) I σ s/\aH B (tbu B I)/\aH H I/\∀q xs,O q=some (.tup xs)->tbu B I q=some (.tup xs):=by
 have eH:aH H I:=λq o h=>M.sH q o h λx d=>by cases d
 have a:aH B I:=R.sub.trans eH;refine⟨R.grow iP eH (λq o h=>?_) (λq h z=>?_) (λq xs h=>ke a h) M.nz,iP,eH,λq xs h=>ke a<|M.sub _ _ h⟩
 ·rcases jn h with h|⟨_,xs,rfl,h'⟩
  ·exact a q o h
  ·exact h'
 ·cases b:tbu B I q with
  |none=>rfl
  |some o=>
   rcases jn b with h3|⟨_,xs,rfl,h3⟩
   ·rw[z]at h3;cases h3
   ·cases h4:H q with
    |none=>exact absurd h4 h
    |some u=>
     have:=eH q u h4;rw[h3]at this;cases this;rw[R.cL q xs h4]at z;cases z
theorem a7.O4(R:a7 G A B H σ s)(I:Rel ⟨B,H,[],G.Z⟩ O M σ ρ):a7 G A O M σ s/\aH B O/\aH H M:=by
 have eH:aH H M:=λq o h=>I.sH q o h λx a=>by cases a
 exact⟨R.grow I.sB eH I.sub (λq h z=>I.nB q h z) I.cL I.nz,I.sB,eH⟩
end
theorem Own.cP(k:∀q xs,B q=some (.tup xs)->B' q=some (.tup xs))(h:Own B H p d)(e:dk d true=true):Own B' H p d:=by
 cases h with
 |lst h r=>exact .lst h (r.cP k e)
 |dct h r=>exact .dct h (r.cP k e)
theorem Own.mx(h:Own B H p d):∃o,H p=some o/\Mx o:=by
 cases h with
 |lst h r=>exact⟨_,h,trivial⟩
 |dct h r=>exact⟨_,h,trivial⟩
structure Xc where
 c:Str
 by_:Option Int
inductive RR(α:Type) where
 |ok (v : α) (s:SS)|er (x:Xc) (s:SS)
abbrev MN(α:Type):=SS->Option (RR α)
abbrev EN:=MN SV
def bN{α M:Type}(m:MN α)(k : α->MN M):MN M:=λs=>match m s with
 |some (.ok v s')=>k v s'
 |some (.er x s')=>some (.er x s')
 |none=>none
abbrev WX:=Xc->St->Hp->Prop
abbrev RL(M α:Type):=List Addr->Hp->M->α->Prop
def ROk{α M:Type}(G:FrN)(A:List Addr)(B:Hp)(σ:St)(W:WX)(O:RL M α)(Q : M->Hp->Prop):RR α->Prop
 | .ok v s'=>∀x A' B' H',Gro A A'->aH B B'->a7 G A' B' H' σ s'->O A' B' x v->Q x H'
 | .er y s'=>∀A' B' H',a7 G A' B' H' σ s'->W y σ H'
def NM{α M:Type}(W:WX)(O:RL M α)(t:St->Hp->(M->Hp->Prop)->Prop)(m:MN α):Prop :=
 ∀(G:FrN) (A:List Addr) (B H:Hp) (σ:St) (s:SS) (r:RR α) (Q : M->Hp->Prop),a7 G A B H σ s->m s=some r->ROk G A B σ W O Q r->t σ H Q
abbrev NE(W:WX)(t:TE)(m:EN):Prop:=NM W cZ t m
abbrev NT(W:WX)(t:TT)(m:MN Bool):Prop:=NM W (λ_ _ (b c:Bool)=>b=c) t m
abbrev NA(W:WX)(t:TA)(m:MN<|List SV):Prop:=NM W bM t m
section
variable{W:WX}{G:FrN}{A:List Addr}{B H:Hp}{σ:St}{s:SS}
theorem ROk.up(q:ROk G A B σ W O Q r)(g:Gro A I)(e:aH B M):ROk G I M σ W O Q r:=by
 cases r with
 |ok v s'=>exact λx A' B' H' b a=>q x A' B' H' (g.trans b) (e.trans a)
 |er y s'=>exact q
theorem iG(h:NM W M t m)(R:a7 G A B H σ s)(e:bN m k s=some r)(q:ROk G A B σ W I Q r)
  (c:∀x v A' B' H' s',Gro A A'->aH B B'->a7 G A' B' H' σ s'->M A' B' x v->k v s'=some r->ROk G A' B' σ W I Q r->C x H'):t σ H C:=by
 unfold bN at e;split at e
 ·rename_i v s' a
  exact h G A B H σ s _ C R a λx A' B' H' g eB b V=>c x v A' B' H' s' g eB b V e (q.up g eB)
 ·rename_i y s' a
  cases e;exact h G A B H σ s _ C R a q
 ·cases e
end
def rdC(S:List<|Option Cl):SV->Option D
 | .pl d=>some d
 | .lc k=>match S[k]? with
  |some (some (.dat d))=>some d
  |_=>none
 | .tp _=>none
def xS(S:List<|Option Cl):List SV->Option (List D)
 | []=>some []
 |x::xs=>(rdC S x).bind λd=>(xS S xs).map λds=>d::ds
section
variable{W:WX}{G:FrN}{A:List Addr}{B H:Hp}{σ:St}{s:SS}
theorem rF(O:StO A B H S)(h:cZ A B v x)(e:rdC S x=some d):View B H v d:=by
 cases h with
 |pl r=>cases e;exact .inl r
 |lc h=>
  simp only[rdC]at e;split at e
  ·rename_i b a
   cases e;cases O.cell _ _ _ a h with
   |dat o=>exact .inr ⟨_,rfl,o⟩
  ·cases e
 |tp _ _=>cases e
theorem rG(O:StO A B H S):∀{vs:List V} {xs:List SV} {ds:List D},bM A B vs xs->xS S xs=some ds->Views B H vs ds
 |_,_,ds,.nil,e=>by
  simp only[xS]at e;cases e;trivial
 |_,_,ds,.cons a b,e=>by
  simp only[xS]at e;obtain⟨c,d,e⟩:=zaa e;obtain⟨g,f,rfl⟩:=zab e;exact⟨rF O a d,rG O b f⟩
theorem xT:∀{vs:List V} {ds:List D},a6 H vs ds->Views H H vs ds
 |_,_,.nil=>trivial
 |_,_,.cons a b=>⟨.inl a,xT b⟩
def newD(d:D)(s:SS):RR SV:=.ok (.lc s.S.length) ⟨s.S++[some<|.dat d],s.t⟩
theorem nP{Q:VK}(R:a7 G A B H σ s)(M:H p=none)(I:Mx o)(ok:∀H',H' p=some o->Own B H' p d)(q:ROk G A B σ W cZ Q<|newD d s):Q (.ref p) (upd H p o):=by
 obtain⟨g1,g2,b⟩:=R.pA M;have eH:aH H (upd H p o):=λq u h=>by rw[au λz=>by rw[z,M]at h;cases h];exact h
 have R2:a7 G A B (upd H p o) σ s:=R.grow (aH.refl _) eH (R.sub.trans eH) (λ_ _ z=>z) (λq xs h=>by
  by_cases z:q=p
  ·subst z;rw[ay]at h;cases h;cases I
  ·rw[au z]at h;exact R.cL q xs h) λq u w h=>by
  by_cases z:q=p
  ·subst z;rw[ay]at h;cases h;cases I
  ·rw[au z]at h;exact R.nz q u w h
 have a:=R2.take (c:=.dat d) g1 g2 b ay I (.dat<|ok _ ay);exact q _ _ _ _ (Gro.app _ _) (aH.refl _) a (.lc (by rw[<-R.st.len];exact List.getElem?_concat_length))
theorem Bz{Q:VK}(R:a7 G A B H σ s)(I:H p=none)(M:a6 B vs ds)(q:ROk G A B σ W cZ Q<|.ok (.pl<|.tuple ds) s):Q (.ref p) (upd H p<|.tup vs):=by
 obtain⟨R2,eB⟩:=R.xo (xs:=vs) I;exact q _ A _ _ (Gro.refl _) eB R2 (.pl<|.tup ay<|M.mono eB)
def Jb(w:D×Bool)(s:SS):Option (RR SV):=match w with
 |(d,false)=>some (.ok (.pl d) s)
 |(.tuple ds,true)=>some (.ok (.pl<|.tuple ds) s)
 |(d,true)=>some (newD d s)
theorem xU{Q:VK}(R:a7 G A B H σ s)(h:mK B H w k)(e:Jb w s=some r)(q:ROk G A B σ W cZ Q r):k Q:=by
 obtain⟨d,b⟩:=w;cases b with
 |false=>
  cases e;obtain⟨v,a,hk⟩:=h;exact hk Q (q v A B H (Gro.refl _) (aH.refl _) R<|.pl a)
 |true=>
  cases d with
  |list ds=>
   cases e;obtain⟨vs,a,hk⟩:=h;exact hk Q λp c=>nP R c trivial (λH' h'=>.lst h' a) q
  |dict es=>
   cases e;obtain⟨Z0,a,hk⟩:=h;exact hk Q λp c=>nP R c trivial (λH' h'=>.dct h' a) q
  |tuple ds=>
   cases e;obtain⟨vs,a,hk⟩:=h;exact hk Q λp c=>Bz R c a q
  |none=>exact h.elim
  |bool _=>exact h.elim
  |int _=>exact h.elim
  |str _=>exact h.elim
def rH(w:D×Bool)(s:SS):Option (RR SV):=match w with
 |(d,false)=>if dZ d=true then some (.ok (.pl d) s)else none
 |(.tuple ds,true)=>if a8 ds=true then some (.ok (.pl<|.tuple ds) s)else none
 |(d,true)=>if dk d true=true then some (newD d s)else none
theorem xV{Q:VK}(R:a7 G A B H σ s)(h:mK H H w k)(e:rH w s=some r)(q:ROk G A B σ W cZ Q r):k Q:=by
 obtain⟨d,b⟩:=w;cases b with
 |false=>
  simp only[rH]at e;split at e
  ·rename_i c
   cases e;obtain⟨v,f,hk⟩:=h;exact hk Q (q v A B H (Gro.refl _) (aH.refl _) R<|.pl<|f.cP R.cL c)
  ·cases e
 |true=>
  cases d with
  |list ds=>
   simp only[rH]at e;split at e
   ·rename_i a
    cases e;obtain⟨vs,f,hk⟩:=h;exact hk Q λp c=>nP R c trivial (λH' h'=>.lst h'<|f.cP R.cL a) q
   ·cases e
  |dict es=>
   simp only[rH]at e;split at e
   ·rename_i a
    cases e;obtain⟨Z0,f,hk⟩:=h;exact hk Q λp c=>nP R c trivial (λH' h'=>.dct h'<|f.cP R.cL a) q
   ·cases e
  |tuple ds=>
   simp only[rH]at e;split at e
   ·rename_i a
    cases e;obtain⟨vs,f,hk⟩:=h;exact hk Q λp c=>Bz R c (f.cP R.cL a) q
   ·cases e
  |none=>exact h.elim
  |bool _=>exact h.elim
  |int _=>exact h.elim
  |str _=>exact h.elim
end
section
variable{W:WX}
def nO(m:PM):EN:=λs=>(m<|vw s).bind λx=>match x.1 with
 |(d,.fz)=>if dZ d=true then some (.ok (.pl d) s)else none
 |(d,.new)=>if dk d true=true then some (newD d s)else none
 |_=>none
theorem cW(h:ME t m):NE W t (nO m):=by
 intro G A B H σ s r Q R e q;obtain⟨x,F,e⟩:=zaa e;refine h _ H H σ (vw s) x.1 x.2 _ R.opn F λv C b T D u V=>?_
 obtain⟨R2,eB,eH,w⟩:=R.back D;obtain⟨⟨d,k⟩,S⟩:=x;cases k with
 |fz=>
  dsimp only at e;split at e
  ·rename_i l
   cases e;have f:Rep C v d:=u;exact q v A _ b (Gro.refl _) eB R2 (.pl<|f.cP w l)
  ·cases e
 |new=>
  dsimp only at e;split at e
  ·rename_i l
   cases e;obtain⟨p,rfl,X,N,y,_⟩:=u;have i:H p=none:=N;obtain⟨g1,g2,J⟩:=R.pA i;have a:=y.cP w l;obtain⟨o,ho,P⟩:=a.mx;have g:tbu B b p=none:=by
    cases L:tbu B b p with
    |none=>rfl
    |some o'=>
     rcases jn L with h3|⟨_,xs,rfl,h3⟩
     ·rw[J]at h3;cases h3
     ·exact absurd h3 (y.xn xs)
   have E:=R2.take (c:=.dat d) g1 g2 g ho P (.dat a);refine q _ _ _ b (Gro.app _ _) eB E (.lc ?_);rw[<-R.st.len];exact List.getElem?_concat_length
  ·cases e
 |ro=>cases e
 | «at» j=>cases e
def nTo(m:Rho->Option (Bool×Rho)):MN Bool:=λs=>(m<|vw s).map λx=>.ok x.1 s
theorem mZ(h:MT t m):NT W t (nTo m):=by
 intro G A B H σ s r Q R e q;obtain⟨x,c,e⟩:=zab e;cases e;refine h _ H H σ (vw s) x.1 x.2 _ R.opn c λd a f b=>?_
 obtain⟨R2,eB,eH,g⟩:=R.back b;exact q _ A _ a (Gro.refl _) eB R2 rfl
def aE(i:Nat):EN:=λs=>match s.t[i]? with
 |some (some x)=>some (.ok x s)
 |_=>none
theorem aj:NE W (w6 i) (aE i):=by
 intro G A B H σ s r Q R e q;unfold aE at e;split at e
 ·rename_i x c
  cases e;obtain⟨v,a,b⟩:=R.slot i _ c;exact⟨v,a,q v A B H (Gro.refl _) (aH.refl _) R b⟩
 ·cases e
def nLit(d:D):EN:=λs=>some (.ok (.pl d) s)
theorem eC(h:∀B,Rep B v d):NE W (tC v) (nLit d):=by
 intro G A B H σ s r Q R e q;cases e;exact q v A B H (Gro.refl _) (aH.refl _) R (.pl<|h B)
def nOp(g:D->D->Option (D×Bool))(a b:EN):EN:=bN a λx=>bN b λy s=>match rdC s.S x,rdC s.S y with
 |some c,some d=>(g c d).bind λw=>Jb w s
 |_,_=>(rdV s.S x).bind λc=>(rdV s.S y).bind λd=>(g c d).bind λw=>rH w s
theorem ja(J:OpJ r g)(ha:NE W I a)(O:NE W M b):NE W (tOp r I M) (nOp g a b):=by
 walk_at "q4"
 refine iG (t:=M) O i f j λy u U V o s2 g2 D R2 S h T=>?_
 have m:=l.mono g2 D;split at h
 ·rename_i c d E F
  obtain⟨w,p,C⟩:=zaa h;exact xU R2 (J V o x y c d w R2.sub (rF R2.st m E) (rF R2.st S F) p) C T
 ·obtain⟨c,E,h⟩:=zaa h
  obtain⟨d,F,h⟩:=zaa h;obtain⟨w,p,C⟩:=zaa h;exact xV R2 (J o o x y c d w (aH.refl _) (.inl<|j9 R2.st R2.sub m E) (.inl<|j9 R2.st R2.sub S F) p) C T
def fj(a:EN):MN Bool:=bN a λx s=>match x with
 | .pl (.bool b)=>some (.ok b s)
 |_=>none
theorem mf(ha:NE W I a):NT W (t9 I) (fj a):=by
 walk_at "q4"
 split at f
 ·cases f
  cases l with
  |pl r=>cases r;exact⟨_,rfl,j _ L N P (Gro.refl _) (aH.refl _) i rfl⟩
 ·cases f
def xW(ha:NE W I a):NT W (tB I) (fj a):=mf ha
def okB(b:Bool):MN Bool:=λs=>some (.ok b s)
theorem BA(R:a7 G A B H σ s)(e:okB b s=some r)(q:ROk G A B σ W (λ_ _ (b c:Bool)=>b=c) Q r):Q b H:=by
 cases e;exact q b A B H (Gro.refl _) (aH.refl _) R rfl
def okD(d:D):EN:=λs=>some (.ok (.pl d) s)
theorem Jc{σ:St}{s:SS}{d:D}{v:V}{r:RR SV}{Q:VK}(R:a7 G A B H σ s)(e:okD d s=some r)(I:Rep B v d)(q:ROk G A B σ W cZ Q r):Q v H:=by
 cases e;exact q v A B H (Gro.refl _) (aH.refl _) R (.pl I)
def nOr(a b:MN Bool):MN Bool:=bN a λx=>if x=true then okB true else b
theorem KL(ha:NT W I a)(M:NT W O b):NT W (tOr I O) (nOr a b):=by
 walk_at "q4"
 subst l
 by_cases h:x=true
 ·rw[if_pos h]at f⊢;exact BA i f j
 ·rw[if_neg h]at f⊢;exact M G L N P σ s1 Z Q i f j
def pC(a:MN Bool):MN Bool:=bN a λx=>okB (!x)
theorem rJ(ha:NT W I a):NT W (LO I) (pC a):=by
 walk_at "q4"
 subst l;exact BA i f j
def xX(a b:EN):EN:=bN (fj a) λx=>if x=true then b else okD (.bool false)
theorem BB(ha:NE W I a)(O:NE W M b):NE W (Ew I M) (xX a b):=by
 intro G A B H σ s p Q R e q;refine iG (t:=t9 I) (C:=λc d=>if c=true then M σ d Q else Q (.bl false) d) (mf ha) R e q λx v j l d s1 g1 o g m f i=>?_
 subst m
 by_cases h:x=true
 ·rw[if_pos h]at f⊢;exact O G j l d σ s1 p Q g f i
 ·rw[if_neg h]at f⊢;exact Jc g f (.bl false) i
def ixV(S:List<|Option Cl)(x:SV)(i:Int):Option SV:=match x with
 | .tp xs=>L2.atI xs i
 | .pl (.tuple ds)=>(L2.atI ds i).map .pl
 | .pl (.list ds)=>(L2.atI ds i).map .pl
 | .lc k=>match S[k]? with
  |some (some (.dat (.list ds)))=>(L2.atI ds i).map .pl
  |some (some (.lst xs))=>L2.atI xs i
  |_=>none
 |_=>none
theorem nQ{P : α->M->Prop}{I:List M}(hl:xs.length=I.length)(h:∀(n:Nat) (y : M),I[n]?=some y->∃x,xs[n]?=some x/\P x y){i:Int}{y : M}(e:L2.atI I i=some y):∃x,L2.atI xs i=some x/\P x y:=by
 unfold L2.atI at e⊢;rw[hl];obtain⟨j,a,b⟩:=zaa e;obtain⟨x,c,d⟩:=h j y b;exact⟨x,by rw[a,zai];exact c,d⟩
theorem Nd(R:a7 G A B H σ s)(I:cZ A B v x)(e:ixV s.S x i=some y):∃u,cZ A B u y/\∀Q:VK,Q u H->rIx K v (.int i) H Q:=by
 have lst:∀{a:Addr} {xs:List V} {u:V},H a=some (.lst xs)\/Rd H a (.lst xs)->L2.atI xs i=some u->∀Q:VK,Q u H->rIx K (.ref a) (.int i) H Q:=λh b Q q=>
  .inl ⟨_,_,_,_,rfl,rfl,.inl<|h.elim .inl id,b,q⟩
 cases x with
 |tp xs=>
  cases I with
  |tp l rs=>
   obtain⟨u,b,f⟩:=nQ rs.length (λn y g=>rs.get n y g) e
   exact⟨u,f,λQ q=>.inr<|.inl ⟨_,_,_,_,rfl,rfl,.inl<|.inl<|R.sub _ _ l,b,q⟩⟩
 |pl d=>
  cases d with
  |tuple ds=>
   obtain⟨c,j,rfl⟩:=zab e;cases I with
   |pl o=>
    cases o with
    |tup l rs=>
     obtain⟨u,b,f⟩:=nQ rs.length (λn y g=>rs.get n y g) j
     exact⟨u,.pl f,λQ q=>.inr<|.inl ⟨_,_,_,_,rfl,rfl,.inl<|.inl<|R.sub _ _ l,b,q⟩⟩
  |list ds=>
   obtain⟨c,j,rfl⟩:=zab e;cases I with
   |pl o=>
    cases o with
    |lst l rs=>
     obtain⟨u,b,f⟩:=nQ rs.length (λn y g=>rs.get n y g) j
     exact⟨u,.pl f,lst (.inr<|fB R.sub l) b⟩
  |_=>cases e
 |lc k=>
  simp only[ixV]at e;cases I with
  |lc p=>
   split at e
   ·rename_i ds hk
    obtain⟨c,j,rfl⟩:=zab e;cases R.st.cell k _ _ hk p with
    |dat r=>
     obtain⟨xs,m,rs⟩:=r.list;obtain⟨u,b,f⟩:=nQ rs.length (λn y g=>rs.get n y g) j
     exact⟨u,.pl f,lst (.inl m) b⟩
   ·rename_i xs hk
    cases R.st.cell k _ _ hk p with
    |lst m rs=>
     obtain⟨u,b,f⟩:=nQ rs.length (λn y g=>rs.get n y g) e
     exact⟨u,f,lst (.inl m) b⟩
   ·cases e
def nIx(a b:EN):EN:=bN a λx=>bN b λy s=>match y with
 | .pl (.int i)=>(ixV s.S x i).map λz=>.ok z s
 |_=>none
theorem ux(ha:NE W I a)(O:NE W M b):NE W (tOp (rIx K) I M) (nIx a b):=by
 walk_at "q4"
 refine iG (t:=M) O i f j λy u g h m s2 g2 d R2 o c E=>?_
 split at c
 ·obtain⟨z,p,r⟩:=zab c
  cases r;cases o with
  |pl F=>
   cases F;obtain⟨w,C,D⟩:=Nd (K:=K) R2 (l.mono g2 d) p;exact D Q (E w g h m (Gro.refl _) (aH.refl _) R2 C)
 ·cases c
def aQ:MN (List SV):=λs=>some (.ok [] s)
theorem aM:NA W qW aQ:=by
 intro G A B H σ s rs Q R e q;cases e;exact q [] A B H (Gro.refl _) (aH.refl _) R .nil
def ao(a:EN)(m:MN<|List SV):MN (List SV):=bN a λx=>bN m λxs s=>some (.ok (x::xs) s)
theorem ak(ha:NE W I a)(M:NA W tr m):NA W (kS I tr) (ao a m):=by
 walk_at "q4"
 refine iG (t:=tr) M i f j λy u c d g s2 g2 b R2 h o p=>?_
 cases o;exact p _ c d g (Gro.refl _) (aH.refl _) R2 (.cons (l.mono g2 b) h)
def jE:List SV->Option (List D)
 | []=>some []
 | .pl d::xs=>(jE xs).map λds=>d::ds
 |_=>none
theorem mh:∀{vs:List V} {xs:List SV} {ds:List D},bM A B vs xs->jE xs=some ds->a6 B vs ds
 |_,_,ds,.nil,e=>by
  simp only[jE]at e;cases e;exact .nil
 |_,_,ds,.cons (x:=x) a b,e=>by
  cases x with
  |pl d=>
   simp only[jE]at e;obtain⟨f,g,rfl⟩:=zab e;cases a with
   |pl r=>exact .cons r (mh b g)
  |lc k=>simp[jE]at e
  |tp k=>simp[jE]at e
def mkT(xs:List SV):SV:=match jE xs with
 |some ds=>.pl (.tuple ds)
 |none=>.tp xs
theorem Jd(h:B t=some (.tup vs))(r:bM A B vs xs):cZ A B (.ref t) (mkT xs):=by
 unfold mkT;split
 ·rename_i ds e;exact .pl (.tup h<|mh r e)
 ·exact .tp h r
def iQ(m:MN<|List SV):EN:=bN m λxs s=>cIf (xs.length<=sizeLine) (some<|.ok (mkT xs) s) none
theorem eD(h:NA W t m):NE W (HW t) (iQ m):=by
 walk_at "q5"
 obtain⟨d,i⟩:=cO i;cases i;refine⟨by rw[y.length];exact d,λp c=>?_⟩
 obtain⟨R2,a⟩:=b.xo (xs:=vs) c;exact l _ C _ _ (Gro.refl _) a R2 (Jd ay<|y.mono (Gro.refl _) a)
def mkL(xs:List SV):Cl:=match jE xs with
 |some ds=>.dat (.list ds)
 |none=>.lst xs
def zY(c:Cl)(s:SS):RR SV:=.ok (.lc s.S.length) ⟨s.S++[some c],s.t⟩
theorem FU{σ:St}{s:SS}{c:Cl}{p:Addr}{o:HO}{Q:VK}(R:a7 G A B H σ s)(M:H p=none)(I:Mx o)(ok:∀H',H' p=some o->eu (A++[p]) B H' p c)(q:ROk G A B σ W cZ Q<|zY c s):Q (.ref p) (upd H p o):=by
 obtain⟨g1,g2,b⟩:=R.pA M;have eH:aH H (upd H p o):=λq u h=>by rw[au λz=>by rw[z,M]at h;cases h];exact h
 have R2:a7 G A B (upd H p o) σ s:=R.grow (aH.refl _) eH (R.sub.trans eH) (λ_ _ z=>z) (λq xs h=>by
  by_cases z:q=p
  ·subst z;rw[ay]at h;cases h;cases I
  ·rw[au z]at h;exact R.cL q xs h) λq u w h=>by
  by_cases z:q=p
  ·subst z;rw[ay]at h;cases h;cases I
  ·rw[au z]at h;exact R.nz q u w h
 have a:=R2.take (c:=c) g1 g2 b ay I (ok _ ay);exact q _ _ _ _ (Gro.app _ _) (aH.refl _) a (.lc (by rw[<-R.st.len];exact List.getElem?_concat_length))
def pE(m:MN<|List SV):EN:=bN m λxs s=>cIf (xs.length<=sizeLine) (some<|zY (mkL xs) s) none
theorem lx(h:NA W t m):NE W (L6 t) (pE m):=by
 walk_at "q5"
 obtain⟨c,i⟩:=cO i;cases i;refine⟨by rw[y.length];exact c,λp a=>FU b a trivial (λH' h'=>?_) l⟩
 unfold mkL;split
 ·rename_i ds ea;exact .dat (.lst h'<|mh y ea)
 ·exact .lst h' (y.mono (Gro.app _ _)<|aH.refl _)
def nCB(g:List D->Option (D×Bool))(m:MN<|List SV):EN:=bN m λxs s=>match xS s.S xs with
 |some ds=>(g ds).bind λw=>Jb w s
 |none=>(gq s.S xs).bind λds=>(g ds).bind λw=>rH w s
theorem FV(J:kT r g)(h:NA W t m):NE W (tCB r t) (nCB g m):=by
 walk_at "q5"
 split at i
 ·rename_i ds d
  obtain⟨w,a,c⟩:=zaa i;exact xU b (J j D vs ds w b.sub (rG b.st y d) a) c l
 ·obtain⟨ds,d,i⟩:=zaa i
  obtain⟨w,a,c⟩:=zaa i;exact xV b (J D D vs ds w (aH.refl _) (xT<|jD b.st b.sub y d) a) c l
structure xY(A:List Addr)(B H:Hp)(A':List Addr)(B' H':Hp)(S':List<|Option Cl)(v:V)(r:SV):Prop where
 gro:Gro A A'
 eB:aH B B'
 sub:aH B' H'
 tB:∀q xs,H' q=some (.tup xs)->B' q=some (.tup xs)
 kept:∀q o,H q=some o->q∉A->H' q=some o
 nb:∀q,H q≠none->B q=none->B' q=none
 fresh:∀a∈A',a∈A\/H a=none
 st:StO A' B' H' S'
 nz:∀q o u,H' q=some (.frz o u)->∃o0 u0,H q=some (.frz o0 u0)
 val:cZ A' B' v r
inductive FR where
 |ok (r:SV) (S:List (Option Cl))|er (x:Xc) (S:List (Option Cl))
abbrev FN:=List (Option Cl)->List SV->Option FR
def spS(f:FN):Sp:=λvs H Q E=>∃A B S xs w,aH B H/\(∀q xs,H q=some (.tup xs)->B q=some (.tup xs))/\StO A B H S/\bM A B vs xs/\f S xs=some w/\
 match w with
 | .ok r S'=>∀v A' B' H',xY A B H A' B' H' S' v r->Q v H'
 | .er x S'=>∀A' B' H',xY A B H A' B' H' S' .non (.pl .none)->E (Zl.cl x.c) none H'
def spQ(f:FN):Sp:=λvs H Q _=>spS f vs H Q E0
theorem a7.post(R:a7 G A B H σ s)(P:xY A B H A' B' H' S' v r):a7 G A' B' H' σ ⟨S',s.t⟩:=by
 refine⟨P.sub,R.sB.trans P.eB,P.tB,λq o h n=>?_,λq h z=>?_,R.pre.trans P.gro,λa ha=>?_,P.st,R.len,λi x h=>?_,λq o u h=>?_⟩
 ·refine P.kept q o (R.kept q o h n) λd=>?_
  rcases R.fresh q d with b|b
  ·exact n b
  ·rw[b]at h;cases h
 ·refine P.nb q (λd=>?_) (R.nB q h z)
  have:=(R.pA d).1;exact h this
 ·rcases P.fresh a ha with h|h
  ·exact R.fresh a h
  ·exact .inr (R.pA h).1
 ·obtain⟨w,b,f⟩:=R.slot i x h
  exact⟨w,b,f.mono P.gro P.eB⟩
 ·obtain⟨o0,u0,e⟩:=P.nz q o u h
  exact R.nz q o0 u0 e
def frR(w:FR)(t:List<|Option SV):RR SV:=match w with
 | .ok r S=>.ok r ⟨S,t⟩
 | .er x S=>.er x ⟨S,t⟩
def dA(f:FN)(m:MN<|List SV):EN:=bN m λxs s=>(f s.S xs).map λw=>frR w s.t
theorem FW{B H:Hp}{σ:St}{s:SS}{vs:List V}{xs:List SV}{I:RR SV}{Q:VK}{E:XK}(R:a7 G A B H σ s)(V:bM A B vs xs)(e:((f s.S xs).map λw=>frR w s.t)=some I)(q:ROk G A B σ W cZ Q I)
  (M:∀x H',W x σ H'->E (Zl.cl x.c) none H'):spS f vs H Q E:=by
 obtain⟨w,b,a⟩:=zab e;refine⟨A,B,s.S,xs,w,R.sub,R.cL,R.st,V,b,?_⟩;cases w with
 |ok r S'=>
  cases a;exact λv A' B' H' P=>q v A' B' H' P.gro P.eB (R.post P) P.val
 |er x S'=>
  cases a;exact λA' B' H' P=>M x H' (q A' B' H'<|R.post P)
theorem Je(I:∀x σ H',W x σ H'->E (Zl.cl x.c) none H')(h:NA W t m):NE W (i6 (spS f) [] E t) (dA f m):=by
 walk_at "q5"
 rw[zaR];exact FW b y i l λx H'=>I x σ H'
def W0:WX:=λ_ _ _=>False
def bP(h:NA W0 t m):NE W0 (i6 (spQ f) [] E0 t) (dA f m):=Je (λ_ _ _ z=>z.elim) h
def fk(f:List D->Option (D×Bool))(m:MN<|List SV):EN:=bN m λxs s=>match jE xs with
 |some ds=>(f ds).bind λw=>Jb w s
 |none=>(gq s.S xs).bind λds=>(f ds).bind λw=>rH w s
theorem qB(R:a7 G A B H σ s)(P:Post B H v B' H' d o):a7 G A B' H' σ s :=
 R.grow P.eB P.eH P.sub (λq h z=>P.nb q h z) P.tB λq u w h=>by
  have b:=P.nz q u w h;cases a:H q with
  |none=>exact absurd a b
  |some e=>
   have:=P.eH q e a;rw[h]at this;cases this;exact R.nz q u w a
theorem iR(h:NA W t m):NE W (i6 (spM f) [] E t) (fk f m):=by
 walk_at "q5"
 rw[zaR];split at i
 ·rename_i ds T
  obtain⟨w,S,a⟩:=zaa i;obtain⟨d,o⟩:=w;refine⟨j,ds,d,o,b.sub,b.cL,mh y T,S,λv B' H' P=>?_⟩
  have R2:=qB b P;have pv:=P.val;cases o with
  |false=>
   cases a;exact l v C B' H' (Gro.refl _) P.eB R2 (.pl pv)
  |true=>
   obtain⟨p,rfl,hn,U,F⟩:=pv;have key:∀J,J=newD d s1->ROk G C j σ W cZ Q J->Q (.ref p) H':=λJ er M=>by
    subst er;obtain⟨g1,g2,O⟩:=b.pA hn;obtain⟨ob,ho,X⟩:=F.mx;have N:=R2.take (c:=.dat d) g1 g2 U ho X (.dat F);exact M _ _ B' H' (Gro.app _ _) P.eB N (.lc (by rw[<-b.st.len];exact List.getElem?_concat_length))
   cases F with
   |lst _ _=>cases a;exact key _ rfl l
   |dct _ _=>cases a;exact key _ rfl l
 ·obtain⟨ds,T,i⟩:=zaa i
  obtain⟨w,S,a⟩:=zaa i;obtain⟨d,o⟩:=w;refine⟨D,ds,d,o,aH.refl _,λ_ _ z=>z,jD b.st b.sub y T,S,λv B' H' P=>?_⟩
  have eH:aH D H':=P.eH;have Z:aH j H':=b.sub.trans eH;have R2:a7 G C (tbu j H') H' σ s1:=b.grow iP eH (λq u h=>by
    rcases jn h with h|⟨_,xs,rfl,h'⟩
    ·exact Z q u h
    ·exact h') (λq h z=>by
    cases g:tbu j H' q with
    |none=>rfl
    |some u=>
     rcases jn g with h3|⟨_,xs,rfl,h3⟩
     ·rw[z]at h3;cases h3
     ·cases h4:D q with
      |none=>exact absurd h4 h
      |some u4=>
       have:=eH q u4 h4;rw[h3]at this;cases this;rw[b.cL q xs h4]at z;cases z) (λq xs h=>ke Z h) λq u w h=>by
    have hq:=P.nz q u w h;cases g:D q with
    |none=>exact absurd g hq
    |some o2=>
     have:=P.eH q o2 g;rw[h]at this;cases this;exact b.nz q u w g
  have Y:∀q xs,B' q=some (.tup xs)->tbu j H' q=some (.tup xs):=λq xs h=>ke Z (P.sub _ _ h)
  have pv:=P.val;cases o with
  |false=>
   simp only[rH]at a;split at a
   ·rename_i x
    cases a;have I:Rep B' v d:=pv;exact l v C _ H' (Gro.refl _) iP R2 (.pl<|I.cP Y x)
   ·cases a
  |true=>
   obtain⟨p,rfl,hn,U,F⟩:=pv;have key:dk d true=true->∀J,J=newD d s1->ROk G C j σ W cZ Q J->Q (.ref p) H':=λx J er M=>by
    subst er;obtain⟨g1,g2,O⟩:=b.pA hn;have L:=F.cP Y x;obtain⟨ob,ho,X⟩:=L.mx;have V:tbu j H' p=none:=by
     cases g:tbu j H' p with
     |none=>rfl
     |some o'=>
      rcases jn g with h3|⟨_,xs,rfl,h3⟩
      ·rw[O]at h3;cases h3
      ·exact absurd h3 (F.xn xs)
    have N:=R2.take (c:=.dat d) g1 g2 V ho X (.dat L);exact M _ _ _ H' (Gro.app _ _) iP N (.lc (by rw[<-b.st.len];exact List.getElem?_concat_length))
   cases F with
   |lst h r=>
    simp only[rH]at a;split at a
    ·rename_i x;cases a;exact key x _ rfl l
    ·cases a
   |dct h r=>
    simp only[rH]at a;split at a
    ·rename_i x;cases a;exact key x _ rfl l
    ·cases a
end
inductive gy where
 |nx (s:SS)|rt (r:SV) (s:SS)|bk (s:SS)|ct (s:SS)|er (x:Xc) (s:SS)
abbrev SN:=SS->Option gy
def NOk(G:FrN)(W:WX)(D:Ends):gy->Prop
 | .nx s=>∀A B H σ,a7 G A B H σ s->D.nx σ H
 | .rt r s=>∀v A B H σ,a7 G A B H σ s->cZ A B v r->D.rt v H
 | .bk s=>∀A B H σ,a7 G A B H σ s->D.bk σ H
 | .ct s=>∀A B H σ,a7 G A B H σ s->D.ct σ H
 | .er x s=>∀A B H σ,a7 G A B H σ s->W x σ H
def NS(W:WX)(t:TS)(m:SN):Prop:=∀(G:FrN) (A:List Addr) (B H:Hp) (σ:St) (s:SS) (o:gy) (D:Ends),a7 G A B H σ s->m s=some o->NOk G W D o->t D σ H
def bS{α:Type}(m:MN α)(k : α->SN):SN:=λs=>match m s with
 |some (.ok v s')=>k v s'
 |some (.er x s')=>some (.er x s')
 |none=>none
section
variable{W:WX}
theorem pF{m:MN α}{k : α->SN}{G:FrN}{A:List Addr}{B H:Hp}{σ:St}{s:SS}{o:gy}{D:Ends}{C : M->Hp->Prop}(h:NM W I t m)(R:a7 G A B H σ s)(e:bS m k s=some o)(q:NOk G W D o)
  (c:∀x v A' B' H' s',a7 G A' B' H' σ s'->I A' B' x v->k v s'=some o->C x H'):t σ H C:=by
 unfold bS at e;split at e
 ·rename_i v s' b
  exact h G A B H σ s _ C R b λx A' B' H' g eB a V=>c x v A' B' H' s' a V e
 ·rename_i y s' b
  cases e;exact h G A B H σ s _ C R b λA' B' H' a=>q A' B' H' σ a
 ·cases e
def aY(a b:SN):SN:=λs=>match a s with
 |some (.nx s')=>b s'
 |o=>o
theorem aJ(ha:NS W t a)(I:NS W u b):NS W (Ez t u) (aY a b):=by
 intro G A B H σ s o D R e q;unfold aY at e;split at e
 ·rename_i s' f
  exact ha G A B H σ s _ _ R f λA' B' H' c d=>I G A' B' H' c s' o D d e q
 ·rename_i o' hn
  refine ha G A B H σ s o _ R e ?_;cases o with
  |nx s'=>exact absurd e (hn s')
  |rt r s'=>exact q
  |bk s'=>exact q
  |ct s'=>exact q
  |er x s'=>exact q
def dE:SN:=λs=>some (.nx s)
theorem dh:NS W Ey dE:=by
 intro G A B H σ s o D R e q;cases e;exact q A B H σ R
def zZ:SN:=λ_=>none
theorem FX:NS W zz zZ:=by
 intro G A B H σ s o D R e q;cases e
def eP(a:EN):SN:=bS a λx s=>some (.rt x s)
theorem cD(ha:NE W t a):NS W (HN t) (eP a):=by
 intro G A B H σ s o D R e q;refine pF (t:=t) ha R e q λx v A' B' H' s' b c d=>?_
 cases d;exact q x A' B' H' σ b c
def g6(a:EN):SN:=bS a λ_ s=>some (.nx s)
theorem fD(ha:NE W t a):NS W (w8 t) (g6 a):=by
 intro G A B H σ s o D R e q;refine pF (t:=t) ha R e q λx v A' B' H' s' b d c=>?_
 cases c;exact q A' B' H' σ b
def fw(c:MN Bool)(a b:SN):SN:=bS c λx=>if x=true then a else b
theorem fN(M:NT W tc c)(ha:NS W t a)(I:NS W u b):NS W (EA tc t u) (fw c a b):=by
 intro G A B H σ s o D R e q;refine pF (t:=tc) M R e q λx v A' B' H' s' f g d=>?_
 subst g
 by_cases h:x=true
 ·rw[if_pos h]at d⊢;exact ha G A' B' H' σ s' o D f d q
 ·rw[if_neg h]at d⊢;exact I G A' B' H' σ s' o D f d q
def NG(W:WX)(g:TG)(mg:SV->SN):Prop:=∀(G:FrN) (A:List Addr) (B H:Hp) (σ:St) (s:SS) (v:V) (x:SV) (o:gy) (D:Ends),a7 G A B H σ s->cZ A B v x->mg x s=some o->NOk G W D o->g v σ H D.nx
def ngN(i:Nat):SV->SN:=λx s=>if i<s.t.length then some (.nx ⟨s.S,s.t.set i<|some x⟩)else none
theorem aU:NG W (ll i) (ngN i):=λG A B H σ s v x o D R a e q=>by
 unfold ngN at e;split at e
 ·rename_i h;cases e;exact q A B H _ (R.set h a)
 ·cases e
def NGs(g:TGs)(mg:List SV->SS->Option SS):Prop:=∀(G:FrN) (A:List Addr) (B H:Hp) (σ:St) (s:SS) (vs:List V) (xs:List SV) (s':SS) (Q:St->Hp->Prop),a7 G A B H σ s->bM A B vs xs->mg xs s=some s'->(∀D,a7 G A B H D s'->Q D H)->g vs σ H Q
def z6:List SV->SS->Option SS:=λxs s=>match xs with
 | []=>some s
 |_=>none
def kg(i:Nat)(gs:List SV->SS->Option SS):List SV->SS->Option SS:=λxs s=>match xs with
 |x::xs=>if i<s.t.length then gs xs ⟨s.S,s.t.set i<|some x⟩else none
 |_=>none
theorem Jf:NGs Oe z6:=λG A B H σ s vs xs s' Q R a e q=>by
 cases a with
 |nil=>cases e;exact⟨rfl,q σ R⟩
 |cons _ _=>cases e
theorem xZ(hs:NGs gs I):NGs (Kw (ll i) gs) (kg i I):=λG A B H σ s vs xs s' Q R b e q=>by
 cases b with
 |nil=>cases e
 |cons r rs=>
  simp only[kg]at e;split at e
  ·rename_i h
   exact⟨_,_,rfl,hs G A B H _ _ _ _ s' Q (R.set h r) rs e fun a R2=>q a R2⟩
  ·cases e
theorem a6.plV:∀{vs:List V} {ds:List D},a6 B vs ds->bM A B vs (ds.map .pl)
 |_,_,.nil=>.nil
 |_,_,.cons a b=>.cons (.pl a) (a6.plV b)
def m3(S:List<|Option Cl):SV->Option (List SV)
 | .tp xs=>some xs
 | .pl (.tuple ds)=>some (ds.map .pl)
 | .pl (.list ds)=>some (ds.map .pl)
 | .lc k=>match S[k]? with
  |some (some (.dat (.list ds)))=>some (ds.map .pl)
  |some (some (.lst xs))=>some xs
  |_=>none
 |_=>none
theorem FY(R:a7 G A B H σ s)(h:cZ A B v x)(e:m3 s.S x=some xs):∃t vs,v=.ref t/\(SqT K H t vs\/SqL K H t vs)/\bM A B vs xs:=by
 cases x with
 |lc k=>
  simp only[m3]at e;cases h with
  |lc f=>
   split at e
   ·rename_i ds hk
    cases e;cases R.st.cell k _ _ hk f with
    |dat i=>
     obtain⟨g,c,rs⟩:=i.list;exact⟨_,_,rfl,.inr<|SqL.of c,rs.plV⟩
   ·rename_i g hk
    cases e;cases R.st.cell k _ _ hk f with
    |lst c rs=>exact⟨_,_,rfl,.inr<|SqL.of c,rs⟩
   ·cases e
 |tp g=>cases e;cases h with|tp a b=>exact⟨_,_,rfl,.inl<|.inl<|.inl<|R.sub _ _ a,b⟩
 |pl d=>
  cases d with
  |tuple ds=>cases e;cases h with|pl r=>cases r with|tup a b=>exact⟨_,_,rfl,.inl<|.inl<|.inl<|R.sub _ _ a,b.plV⟩
  |list ds=>cases e;cases h with|pl r=>cases r with|lst a b=>exact⟨_,_,rfl,.inr<|.inl<|fB R.sub a,b.plV⟩
  |_=>cases e
def ngT(n:Nat)(M:List SV->SS->Option SS):SV->SN:=λx s=>(m3 s.S x).bind λxs=>if xs.length=n then(M xs s).map .nx else none
theorem Jg(h:NGs gs I):NG W (KC K n gs) (ngT n I):=λG A B H σ s v x o D R j e q=>by
 obtain⟨xs,d,e⟩:=zaa e;obtain⟨t,vs,rfl,i,b⟩:=FY (K:=K) R j d;split at e
 ·rename_i hn
  obtain⟨s2,f,g⟩:=zab e;cases g;exact⟨_,_,rfl,i,by rw[b.length];exact hn,h G A B H σ s _ _ s2 _ R b f fun a c=>q A B H a c⟩
 ·cases e
def bG(a:EN)(g:SV->SN):SN:=bS a g
theorem aX(ha:NE W t a)(I:NG W tg g):NS W (xa t tg) (bG a g):=by
 intro G A B H σ s o D R e q;exact pF (t:=t) ha R e q λx v A' B' H' s' b c d=>I G A' B' H' σ s' x v o D b c d q
def FZ(S:List<|Option Cl)(x:SV)(i:Int)(y:SV):Option (List<|Option Cl):=match x with
 | .lc k=>match S[k]? with
  |some (some (.dat (.list ds)))=>(L2.ixN ds.length i).map λj=>match y with
   | .pl d=>S.set k (some<|.dat<|.list<|ds.set j d)
   |y=>S.set k (some<|.lst<|(ds.map .pl).set j y)
  |some (some (.lst xs))=>(L2.ixN xs.length i).map λj=>S.set k (some<|.lst<|xs.set j y)
  |_=>none
 |_=>none
theorem bM.set(r:cZ A B x c):∀{v:List V} {d:List SV} (i:Nat),bM A B v d->bM A B (v.set i x) (d.set i c)
 |_,_,_,.nil=>.nil
 |_,_,0,.cons _ b=>.cons r b
 |_,_,i+1,.cons a b=>.cons a (bM.set r i b)
theorem Jh(R:a7 G A B H σ s)(I:cZ A B v x)(U:cZ A B u y)(e:FZ s.S x i y=some S'):∃H',a7 G A B H' σ ⟨S',s.t⟩/\∀Q:Hp->Prop,Q H'->A7 v (.int i) u H Q:=by
 cases x with
 |pl d=>cases e
 |tp d=>cases e
 |lc k=>
  simp only[FZ]at e;cases I with
  |lc b=>
   split at e
   ·rename_i ds hk
    obtain⟨j,f,a⟩:=zab e;cases R.st.cell k _ _ hk b with
    |dat h=>
     obtain⟨xs,g,rs⟩:=h.list;have go:∀c,eu A B (upd H _<|.lst<|xs.set j u) _ c->S'=s.S.set k (some c)->∃H',a7 G A B H' σ ⟨S',s.t⟩/\∀Q:Hp->Prop,Q H'->A7 _ (.int i) u H Q:=λc ok es=>by
      subst es;exact⟨_,R.write (o:=.lst<|xs.set j u) b trivial ok,λQ q=>⟨_,xs,i,j,rfl,rfl,g,by rw[rs.length];exact f,q⟩⟩
     cases y with
     |pl d=>cases U with|pl r=>exact go _ (.dat<|.lst ay<|rs.set r j) a.symm
     |lc k'=>exact go _ (.lst ay<|rs.plV.set U j) a.symm
     |tp l=>exact go _ (.lst ay<|rs.plV.set U j) a.symm
   ·rename_i l hk
    obtain⟨j,f,a⟩:=zab e;subst a;cases R.st.cell k _ _ hk b with
    |lst g rs=>exact⟨_,R.write (o:=.lst (_:List V)) b trivial<|.lst ay<|rs.set U j,λQ q=>⟨_,_,i,j,rfl,rfl,g,by rw[rs.length];exact f,q⟩⟩
   ·cases e
def fO(a b:EN):SV->SN:=λy=>bS a λx=>bS b λi s=>match i with
 | .pl (.int i)=>(FZ s.S x i y).map λS'=>.nx ⟨S',s.t⟩
 |_=>none
theorem f6(ha:NE W to a)(I:NE W M b):NG W (L2.tf to M A7) (fO a b):=λG A B H σ s v y o D R J e q=>by
 unfold fO bS at e;split at e
 ·rename_i x s1 E
  dsimp only at e;refine ha G A B H σ s _ _ R E λS h i j g1 g l t=>?_
  split at e
  ·rename_i Q s2 f
   try dsimp only at e
   refine I G h i j σ s1 _ _ l f λP m p N g2 d R2 u=>?_
   split at e
   ·obtain⟨S',w,C⟩:=zab e
    cases C;cases u with
    |pl r=>
     cases r;obtain⟨H',c,F⟩:=Jh R2 (t.mono g2 d) (J.mono (g1.trans g2)<|g.trans d) w;exact F _ (q m p H' σ c)
   ·cases e
  ·rename_i L s2 f
   cases e;exact I G h i j σ s1 _ _ l f λA' B' H' c=>q A' B' H' σ c
  ·cases e
 ·rename_i L s2 f
  cases e;exact ha G A B H σ s _ _ R f λA' B' H' c=>q A' B' H' σ c
 ·cases e
def f7(kp:List Nat)(c:MN Bool)(b:SN):Nat->SN
 |0=>λ_=>none
 |n+1=>bS c λx s=>if x=true then(match b s with
   |some (.nx s')=>f7 kp c b n (gcE s.S.length kp s')
   |some (.ct s')=>f7 kp c b n (gcE s.S.length kp s')
   |some (.bk s')=>some (.nx s')
   |some (.rt r s')=>some (.rt r s')
   |some (.er x s')=>some (.er x s')
   |none=>none)
  else some (.nx s)
theorem KN(R:a7 G A B H σ s):G.io.length<=s.S.length:=by rw[<-R.st.len];exact R.pre.len
theorem x9(M:NT W tc c)(I:NS W O b):NS W (zA tc O) (f7 kp c b n):=by
 intro G A B H σ s o D R e q;refine⟨λm σ H=>∃A B s,a7 G A B H σ s/\f7 kp c b m s=some o,⟨n,A,B,s,R,e⟩,?_⟩
 rintro m a L ⟨F,J,s1,C,y⟩
 cases m with
 |zero=>cases y
 |succ m=>
  refine pF (t:=tc) M C y q λx v i j l s2 R2 E d=>?_
  subst E
  by_cases h:x=true
  ·rw[if_pos h]at d⊢
   refine⟨fun g H'=>∃A' B' s',a7 G A' B' H' g s'/\f7 kp c b m s'=some o,fun g H' h'=>⟨m,Nat.lt_succ_self _,h'⟩,?_⟩
   split at d
   ·rename_i s' f;exact I G i j l a s2 _ _ R2 f λA' B' H' g u=>(let⟨p,w⟩:=u.gcE (KN R2);⟨p,B',_,w,d⟩)
   ·rename_i s' f;exact I G i j l a s2 _ _ R2 f λA' B' H' g u=>(let⟨p,w⟩:=u.gcE (KN R2);⟨p,B',_,w,d⟩)
   ·rename_i s' f;cases d;exact I G i j l a s2 _ _ R2 f q
   ·rename_i r s' f;cases d;exact I G i j l a s2 _ _ R2 f q
   ·rename_i r s' f;cases d;exact I G i j l a s2 _ _ R2 f q
   ·cases d
  ·rw[if_neg h]at d⊢
   cases d;exact q i j l a R2
def f9(n:Nat)(kp:List Nat)(ok:SS->Prop)(g:SV->SN)(b:SN):List SV->SN
 | []=>λs=>cIf (ok s) (some<|.nx s) none
 |d::ds=>λs=>cIf (ok s) (match g d s with
   |some (.nx s1)=>(match b s1 with
    |some (.nx s')=>f9 n kp ok g b ds (gcE n kp s')
    |some (.ct s')=>f9 n kp ok g b ds (gcE n kp s')
    |some (.bk s')=>some (.nx s')
    |some (.rt r s')=>some (.rt r s')
    |some (.er x s')=>some (.er x s')
    |none=>none)
   |_=>none) none
theorem a7.down(I:a7 G M O U Y s1)(R:a7 ⟨O,U,M,G.Z⟩ A B H σ s):a7 G A B H σ s:=by
 refine⟨R.sub,I.sB.trans R.sB,R.cL,λq o h n=>R.kept q o (I.kept q o h n) λc=>?_,λq h z=>R.nB q (λc=>h (I.pA c).1)<|I.nB q h z,I.pre.trans R.pre,λa ha=>?_,R.st,R.len,R.slot,R.nz⟩
 ·rcases I.fresh q c with b|b
  ·exact n b
  ·rw[b]at h;cases h
 ·rcases R.fresh a ha with h|h
  ·exact I.fresh a h
  ·exact .inr (I.pA h).1
def a7.up(I:a7 G O U Y M s1):a7 ⟨U,Y,O,G.Z⟩ O U Y M s1 :=
 ⟨I.sub,aH.refl _,I.cL,λ_ _ h _=>h,λ_ _ z=>z,Gro.refl _,λ_ h=>.inl h,I.st,I.len,I.slot,I.nz⟩
theorem NOk.up{M:St}{s1:SS}(I:a7 G O U Y M s1){D:Ends}{o:gy}(h:NOk G W D o):NOk ⟨U,Y,O,G.Z⟩ W D o:=by
 cases o with
 |nx s=>exact λA B H σ R=>h A B H σ (I.down R)
 |bk s=>exact λA B H σ R=>h A B H σ (I.down R)
 |ct s=>exact λA B H σ R=>h A B H σ (I.down R)
 |rt r s=>exact λv A B H σ R V=>h v A B H σ (I.down R) V
 |er x s=>exact λA B H σ R=>h A B H σ (I.down R)
def Nf(A:List Addr)(B H:Hp)(x:V)(H':Hp)(y:SV):Prop:=(H'=H/\cZ A B x y)\/∃p xs D,y=.pl (.tuple D)/\x=.ref p/\H p=none/\H'=upd H p (.tup xs)/\a6 B xs D
theorem vF{g:SV->SN}{b:SN}{ok:SS->Prop}{G:FrN}{J:It}{ds:List SV}{U:List Addr}{Y H1:Hp}{σ1:St}{s1:SS}{W0:Ends}{o:gy}
  (hg:NG W tg g) (hb:NS W tb b) (R1:a7 G U Y H1 σ1 s1) (e:f9 s1.S.length kp ok g b ds s1=some o) (q:NOk G W W0 o)
  (I:∀A B H σ s,a7 ⟨Y,H1,U,G.Z⟩ A B H σ s->ok s->J.stop ds.length H/\∀(i:Nat) (d:SV),ds[i]?=some d->J.go i H/\∀x H',J.yld i H x H'->Nf A B H x H' d) :
  ∃W:Nat->Nat->St->Hp->Prop,(∃m,W 0 m σ1 H1)/\∀i m σ H,W i m σ H->
   (J.stop i H/\W0.nx σ H)\/(J.go i H/\∃N:St->Hp->Prop,(∀M H',N M H'->∃m',m'<m/\W (i+1) m' M H')/\∀x H',J.yld i H x H'->tg x σ H' fun O H2=>tb {W0 with nx:=N,ct:=N,bk:=W0.nx} O H2):=by
 have F:=q.up R1;have C:(FrN.mk Y H1 U G.Z).io.length<=s1.S.length:=Nat.le_of_eq R1.st.len;refine⟨λi m σ H=>m=ds.length-i/\i<=ds.length/\∃A B s,a7 ⟨Y,H1,U,G.Z⟩ A B H σ s/\f9 s1.S.length kp ok g b (ds.drop i) s=some o,⟨ds.length,rfl,Nat.zero_le _,U,Y,s1,R1.up,e⟩,?_⟩
 rintro i m O H2 ⟨rfl,hil,k,D,s2,R2,a⟩
 by_cases j:i<ds.length
 ·refine .inr ?_
  rw[zbb j]at a;obtain⟨hok,a⟩:=cO (show cIf (ok s2) _ none=some o from a);obtain⟨go,yl⟩:=(I k D H2 O s2 R2 hok).2 i ds[i] (zaC j);refine⟨go,fun M H'=>∃A' B' s',a7 ⟨Y,H1,U,G.Z⟩ A' B' H' M s'/\f9 s1.S.length kp ok g b (ds.drop<|i+1) s'=some o,fun M H' h'=>⟨ds.length-(i+1),by lia,rfl,j,h'⟩,λy L hy=>?_⟩
  have R:∃E,a7 ⟨Y,H1,U,G.Z⟩ k E L O s2/\cZ k E y ds[i]:=by
   rcases yl y L hy with⟨rfl,X⟩|⟨p,xs,cs,V,rfl,h3,rfl,h5⟩
   ·exact⟨D,R2,X⟩
   ·obtain⟨h,Q⟩:=R2.xo (xs:=xs) h3
    exact⟨_,h,by rw[V];exact .pl (.tup ay<|h5.mono Q)⟩
  obtain⟨E,h,rp⟩:=R;split at a
  ·rename_i l Q
   refine hg _ k E L O s2 y ds[i] (.nx l) ⟨fun O H2=>tb {W0 with nx:=fun M H'=>∃A' B' s',a7 ⟨Y,H1,U,G.Z⟩ A' B' H' M s'/\f9 s1.S.length kp ok g b (ds.drop<|i+1) s'=some o,ct:=fun M H'=>∃A' B' s',a7 ⟨Y,H1,U,G.Z⟩ A' B' H' M s'/\f9 s1.S.length kp ok g b (ds.drop<|i+1) s'=some o,bk:=W0.nx} O H2,W0.rt,W0.bk,W0.ct⟩ h rp Q λn u v c w=>?_
   split at a
   ·rename_i s' f;exact hb _ n u v c l _ _ w f λA' B' H' M P=>(let⟨K,h⟩:=P.gcE C;⟨K,B',_,h,a⟩)
   ·rename_i s' f;exact hb _ n u v c l _ _ w f λA' B' H' M P=>(let⟨K,h⟩:=P.gcE C;⟨K,B',_,h,a⟩)
   ·rename_i s' f;cases a;exact hb _ n u v c l _ _ w f F
   ·rename_i r s' f;cases a;exact hb _ n u v c l _ _ w f F
   ·rename_i r s' f;cases a;exact hb _ n u v c l _ _ w f F
   ·cases a
  ·cases a
 ·have T:i=ds.length:=by lia
  subst T;rw[List.drop_length]at a;obtain⟨hok,a⟩:=cO (show cIf (ok s2) _ none=some o from a);cases a;exact .inl ⟨(I k D H2 O s2 R2 hok).1,F k D H2 O R2⟩
theorem Ji(h:xw B H x H' d):Nf A B H x H' (.pl d):=by
 rcases h with⟨a,b⟩|⟨p,xs,c,a,b,h3,h4,e⟩
 ·exact .inl ⟨a,.pl b⟩
 ·exact .inr ⟨p,xs,c,by rw[a],b,h3,h4,e⟩
theorem xw.mono(h:xw B H x H' d)(e:aH B B'):xw B' H x H' d:=by
 rcases h with⟨a,b⟩|⟨p,xs,f,a,b,h3,h4,g⟩
 ·exact .inl ⟨a,b.mono e⟩
 ·exact .inr ⟨p,xs,f,a,b,h3,h4,g.mono e⟩
theorem z7{ds:List D}{i:Nat}(h:(ds.map SV.pl)[i]?=some x):∃d,ds[i]?=some d/\x=.pl d:=by
 rw[zao]at h;obtain⟨d,a,b⟩:=zab h;exact⟨d,a,b.symm⟩
def F1(kp:List Nat)(it:Rho->Option (List D×Rho))(g:SV->SN)(b:SN):SN:=λs=>(it<|vwC s).bind λx=>f9 s.S.length kp (λ_=>True) g b (x.1.map .pl) s
theorem F2(hi:MF U it)(M:NG W tg g)(I:NS W O b):NS W (HR U tg O) (F1 kp it g b):=by
 intro G A B H σ s o D R e q;obtain⟨x,p,e⟩:=zaa e;refine hi _ B H σ (vwC s) x.1 x.2 _ R.cls p λJ u w v m l=>?_
 obtain⟨R2,eB,eH⟩:=R.O4 m;refine vF M I R2 e q λA' B' H' t s' f _=>?_
 have a:=l H' (f.sB.trans f.sub);rw[zal];refine⟨a.1,λi d hd=>?_⟩
 obtain⟨c,h,rfl⟩:=z7 hd;exact⟨(a.2 i c h).1,λy j r=>Ji<|((a.2 i c h).2 y j r).mono f.sB⟩
def stays(k:SV)(xs:List SV)(s:SS):Prop:=m3 s.S k=some xs
def uy(kp:List Nat)(a:EN)(g:SV->SN)(b:SN):SN:=bS a λy s=>match y with
 | .lc k=>(m3 s.S<|.lc k).bind λxs=>f9 s.S.length kp (stays (.lc k) xs) g b xs s
 | .pl (.list ds)=>f9 s.S.length kp (λ_=>True) g b (ds.map .pl) s
 |_=>none
theorem BC(h:SqL K H p xs)(r:bM A B xs I):(Itl K p).stop I.length H/\∀(i:Nat) (d:SV),I[i]?=some d->(Itl K p).go i H/\∀x H',(Itl K p).yld i H x H'->Nf A B H x H' d:=by
 refine⟨⟨xs,h,by rw[r.length];exact zap _⟩,λi d hd=>?_⟩
 obtain⟨u,a,c⟩:=r.get i d hd;refine⟨⟨xs,u,h,a⟩,λx H' b=>.inl ⟨b.1,?_⟩⟩
 have:=b.2 xs h;rw[a]at this;cases this;exact c
theorem vG(ha:NE W O a)(M:NG W tg g)(I:NS W U b):NS W (HR (xc K O) tg U) (uy kp a g b):=by
 intro G A B H σ s o D R e q;refine pF (t:=O) ha R e q λx v P Q T s1 j y l=>?_
 split at l
 ·rename_i k
  obtain⟨xs,E,F⟩:=zaa l;cases y with
  | @lc _ p C=>
   have lst:∀{A':List Addr} {B' H':Hp} {d:St} {s':SS} {w:FrN},a7 w A' B' H' d s'->A'[k]?=some p->m3 s'.S (.lc k)=some xs->∃vs,H' p=some (.lst vs)/\bM A' B' vs xs:=fun{A' B' H' d s' w} c i h=>by
    simp only[m3]at h;split at h
    ·rename_i ds hk
     cases h;cases c.st.cell k _ _ hk i with
     |dat J=>
      obtain⟨N,f,rs⟩:=J.list;exact⟨_,f,rs.plV⟩
    ·rename_i N hk
     cases h;cases c.st.cell k _ _ hk i with
     |lst f rs=>exact⟨_,f,rs⟩
    ·cases h
   obtain⟨vs,f,rs⟩:=lst j C E;refine⟨_,rfl,⟨vs,SqL.of f⟩,?_⟩;refine vF M I j F q λA' B' H' d s' c hok=>?_
   obtain⟨L,m,u⟩:=lst c (c.pre k _ C) hok;exact BC (SqL.of m) u
 ·rename_i ds
  cases y with
  |pl r=>
   cases r with
   |lst f rs=>
    refine⟨_,rfl,⟨_,.inl<|fB j.sub f⟩,?_⟩;refine vF M I j l q λA' B' H' d s' c hok=>?_
    exact BC (.inl<|fB (c.sB.trans c.sub) f) (rs.mono c.sB).plV
 ·cases l
def BD(S:List<|Option Cl)(k:Nat):Bool:=match S[k]? with
 |some (some (.dat (.list _)))=>true
 |some (some (.lst _))=>true
 |_=>false
theorem F3(R:a7 G A B H σ s)(I:A[k]?=some a)(e:BD s.S k=true):tyV K "list" (.ref a) H:=by
 unfold BD at e;split at e
 ·rename_i ds hk
  cases R.st.cell k _ _ hk I with
  |dat c=>obtain⟨xs,b,_⟩:=c.list;exact .inl ⟨rfl,xs,SqL.of b⟩
 ·rename_i ds hk
  cases R.st.cell k _ _ hk I with
  |lst b _=>exact .inl ⟨rfl,_,SqL.of b⟩
 ·cases e
def F5(a:EN)(m:MN<|List SV)(u:Nat->List SV->SS->Option (RR SV)):EN:=bN a λx s=>match x with
 | .lc k=>if BD s.S k=true then bN m (λxs s2=>u k xs s2) s else none
 |_=>none
theorem Jj(ha:NE W I a)(h:NA W t m)
  (O:∀(G:FrN) (A:List Addr) (B H:Hp) (σ:St) (s:SS) (p:Addr) (k:Nat) (vs:List V) (xs:List SV) (M:RR SV) (Q:VK),a7 G A B H σ s->A[k]?=some p->bM A B vs xs->u k xs s=some M->ROk G A B σ W cZ Q M->r (.ref p) vs H Q):NE W (tBM K "list" r I t) (F5 a m u):=by
 walk_at "qc"
 ·rename_i k
  split at b
  ·rename_i hl
   cases l with
   |lc c=>
    refine⟨F3 f c hl,?_⟩;refine iG (t:=t) h f b w λvs xs d g i s2 g2 o R2 j n y=>?_
    exact O G d g i σ s2 _ k vs xs M Q R2 (g2 _ _ c) j n y
  ·cases b
 ·cases b
def Jk(k:Nat)(xs:List SV)(s:SS):Option (RR SV):=match xs,s.S[k]? with
 | [.pl d],some (some (.dat (.list ds)))=>cIf (ds.length<sizeLine) (some<|.ok (.pl .none) ⟨s.S.set k<|some<|.dat<|.list<|ds++[d],s.t⟩) none
 | [x],some (some (.dat (.list ds)))=>cIf (ds.length<sizeLine) (some<|.ok (.pl .none) ⟨s.S.set k<|some<|.lst<|ds.map .pl++[x],s.t⟩) none
 | [x],some (some (.lst D))=>cIf (D.length<sizeLine) (some<|.ok (.pl .none) ⟨s.S.set k<|some<|.lst<|D++[x],s.t⟩) none
 |_,_=>none
theorem bM.append:∀{v w:List V} {d c:List SV},bM A B v d->bM A B w c->bM A B (v++w) (d++c)
 |_,_,_,_,.nil,r=>r
 |_,_,_,_,.cons a b,r=>.cons a (bM.append b r)
theorem Jl(G:FrN)(A:List Addr)(B H:Hp)(σ:St)(s:SS)(p:Addr)(k:Nat)(vs:List V)(xs:List SV)(O:RR SV)(Q:VK)(R:a7 G A B H σ s)(I:A[k]?=some p)(M:bM A B vs xs)(e:Jk k xs s=some O)(q:ROk G A B σ W cZ Q O):nE (.ref p) vs H Q:=by
 have go:∀{x:SV} {y:V} {f:List V} {c:Cl},vs=[y]->H p=some (.lst f)->f.length<sizeLine->eu A B (upd H p<|.lst<|f++[y]) p c->O=.ok (.pl .none) ⟨s.S.set k<|some c,s.t⟩->nE (.ref p) vs H Q:=fun{x y f c} j l h3 ok er=>by
  subst er j;exact⟨p,f,y,rfl,rfl,l,h3,q .non A B _ (Gro.refl _) (aH.refl _) (R.write (o:=.lst<|f++[y]) I trivial ok)<|.pl .non⟩
 unfold Jk at e;split at e
 ·rename_i d ds hk
  obtain⟨h,e⟩:=cO e;cases e;cases M with
  |cons a b=>
   cases b;cases a with
   |pl r=>
    cases R.st.cell k _ _ hk I with
    |dat i=>
     obtain⟨f,g,rs⟩:=i.list;exact go (x:=.pl d) rfl g (by rw[rs.length];exact h) (.dat<|.lst ay<|rs.append<|.cons r .nil) rfl
 ·rename_i x ds _ hk
  obtain⟨h,e⟩:=cO e;cases e;cases M with
  |cons a b=>
   cases b;cases R.st.cell k _ _ hk I with
   |dat i=>
    obtain⟨f,g,rs⟩:=i.list;exact go (x:=x) rfl g (by rw[rs.length];exact h) (.lst ay<|rs.plV.append<|.cons a .nil) rfl
 ·rename_i x f hk
  obtain⟨h,e⟩:=cO e;cases e;cases M with
  |cons a b=>
   cases b;cases R.st.cell k _ _ hk I with
   |lst g rs=>exact go (x:=x) rfl g (by rw[rs.length];exact h) (.lst ay<|rs.append<|.cons a .nil) rfl
 ·cases e
def Dx(a:EN)(m:MN<|List SV):EN:=F5 a m Jk
def z8(ha:NE W I a)(h:NA W t m):NE W (tBM K "list" nE I t) (Dx a m):=Jj ha h Jl
end
def fS(n:Nat)(S:List<|Option Cl):List (Option Cl):=if xR n S=true then gcS n S else S
def retS(n:Nat):gy->Option FR
 | .rt r s=>if blV n r=true then some (.ok r<|fS n s.S)else some (.ok r s.S)
 | .nx s=>some (.ok (.pl .none)<|fS n s.S)
 | .er x s=>some (.er x<|fS n s.S)
 |_=>none
def fnS(n k:Nat)(b:SN):FN:=λS xs=>if xs.length=n then(b ⟨S,xs.map some++List.replicate k none⟩).bind (retS S.length)else none
theorem uz(sub:aH B H)(tB:∀q xs,H q=some (.tup xs)->B q=some (.tup xs))(O:StO A B H S)(I:bM A B vs xs)(hl:xs.length=n)(M:N.length=n+k) :
  a7 ⟨B,H,A,λq=>∃o u,H q=some (.frz o u)⟩ A B H (L2.start N vs) ⟨S,xs.map some++List.replicate k none⟩:=by
 have a:vs.length=n:=I.length.trans hl;refine⟨sub,aH.refl _,tB,λ_ _ h _=>h,λ_ _ z=>z,Gro.refl _,λ_ h=>.inl h,O,?_,λi x h=>?_,λq o u h=>⟨o,u,h⟩⟩
 ·simp[L2.start,hl,a,M]
 ·have h':(xs.map some++List.replicate k none)[i]?=some (some x):=h
  by_cases hi:i<n
  ·rw[zax (by simpa[hl]using hi),zao]at h'
   obtain⟨c,b,d⟩:=zab h';cases d;obtain⟨y,h3,h4⟩:=I.get i _ b;refine⟨y,?_,h4⟩;unfold L2.start;rw[zax (by simpa[a]using hi),zao,h3]
   rfl
  ·rw[zaN (by simpa[hl]using zba hi)]at h'
   have:=zaG (zaj h');cases this
def post_of(I:a7 ⟨B,H,A,λq=>∃o u,H q=some (.frz o u)⟩ A' B' H' O s')(M:cZ A' B' v r):xY A B H A' B' H' s'.S v r:=⟨I.pre,I.sB,I.sub,I.cL,I.kept,I.nB,I.fresh,I.st,I.nz,M⟩
theorem rK(hn:A.length<=n)(M:a7 ⟨B,H,A,λq=>∃o u,H q=some (.frz o u)⟩ A' B' H' Y s')(O:cZ A' B' v r)(U:blV n r=true):∃I,xY A B H I B' H' (fS n s'.S) v r:=by
 unfold fS;split
 ·exact⟨_,post_of (M.gc hn)<|O.take _ U⟩
 ·exact⟨_,post_of M O⟩
theorem Jm(M:NS (λx _ H=>E (Zl.cl x.c) none H) t b)(I:N.length=n+k)(h:spS (fnS n k b) vs H Q E):t {nx:=λ_ H'=>Q .non H',rt:=Q} (L2.start N vs) H:=by
 obtain⟨A,B,S,xs,w0,sub,tB,O,m,e,q⟩:=h;unfold fnS at e;split at e
 case isFalse=>cases e
 rename_i hl
 obtain⟨w,l,a⟩:=zaa e;have R:=uz (k:=k) sub tB O m hl I;refine M _ A B H _ _ w _ R l ?_;have hn:A.length<=S.length:=Nat.le_of_eq O.len;cases w with
 |nx s'=>cases a;exact λA' B' H' f d=>(let⟨g,p⟩:=rK hn d (.pl .non) rfl;q _ g B' H' p)
 |bk s'=>cases a
 |ct s'=>cases a
 |er x s'=>cases a;exact λA' B' H' f d=>(let⟨g,p⟩:=rK hn d (.pl .non) rfl;q g B' H' p)
 |rt o s'=>
  simp only[retS]at a;split at a
  ·rename_i j
   cases a;exact λv A' B' H' f d i=>(let⟨g,p⟩:=rK hn d i j;q v g B' H' p)
  ·cases a
   exact λv A' B' H' f d i=>q v A' B' H' (post_of d i)
def eQ(M:NS W0 t b)(I:N.length=n+k)(h:spQ (fnS n k b) vs H Q E):t {nx:=λ_ H'=>Q .non H',rt:=Q} (L2.start N vs) H:=Jm (E:=E0) M I h
theorem Jn(h:spS (fnS n k b) vs H Q E):vs.length=n:=by
 obtain⟨A,B,S,xs,w,sub,tB,O,a,e,q⟩:=h;unfold fnS at e;split at e
 ·rename_i hl;exact a.length.trans hl
 ·cases e
def eR(h:spQ (fnS n k b) vs H Q E):vs.length=n:=Jn (E:=E0) h
def O5:gy->Option (D×Bool)
 | .rt (.pl d) _=>some (d,false)
 | .rt (.lc k) s=>match s.S[k]? with
  |some (some (.dat d))=>some (d,true)
  |_=>none
 | .nx _=>some (.none,false)
 |_=>none
def fnO(n k:Nat)(b:SN)(ds:List D):Option (D×Bool):=if ds.length=n then(b ⟨[],ds.map (λd=>some<|.pl d)++List.replicate k none⟩).bind O5 else none
theorem Jo(M:NS W0 t b)(I:N.length=n+k)(h:spM (fnO n k b) vs H Q E):t {nx:=λ_ H'=>Q .non H',rt:=Q} (L2.start N vs) H:=by
 obtain⟨B,ds,d,o,sub,tB,P,e,q⟩:=h;unfold fnO at e;split at e
 case isFalse=>cases e
 rename_i hl
 obtain⟨w,G,g⟩:=zaa e;have O:StO [] B H ([]:List<|Option Cl):=⟨rfl,List.nodup_nil,(λa h=>by cases h),(λa h=>by cases h),λk c a h=>by simp at h⟩
 have R:=uz (k:=k) (xs:=ds.map .pl) sub tB O (a6.plV P) (by simpa using hl) I
 rw[List.map_map]at R;refine M _ [] B H _ _ w _ R G ?_;have post:∀{A':List Addr} {B' H':Hp} {l:St} {s':SS},a7 ⟨B,H,[],λq=>∃o u,H q=some (.frz o u)⟩ A' B' H' l s'->aH H H'/\aH B B'/\aH B' H'/\(∀q,H q≠none->B q=none->B' q=none)/\(∀q xs,H' q=some (.tup xs)->B' q=some (.tup xs))/\∀q o u,H' q=some (.frz o u)->H q≠none:=λf=>
  ⟨λq u z=>f.kept q u z (by simp),f.sB,f.sub,f.nB,f.cL,λq o u z=>(let⟨_,_,y⟩:=f.nz q o u z;by rw[y];simp)⟩
 cases w with
 |nx s'=>
  cases g;intro A' B' H' l f;obtain⟨m,p2,p,s,A,C⟩:=post f;exact q _ B' H' ⟨m,p2,p,s,A,C,.non⟩
 |bk s'=>cases g
 |ct s'=>cases g
 |er x s'=>cases g
 |rt r s'=>
  intro v A' B' H' l f D;obtain⟨m,p2,p,s,A,C⟩:=post f;cases r with
  |pl c=>
   cases g;cases D with
   |pl T=>exact q v B' H' ⟨m,p2,p,s,A,C,T⟩
  |tp xs=>cases g
  |lc j=>
   have i:(match s'.S[j]? with
    |some (some (.dat d))=>some (d,true)
    |_=>none)=some (d,o):=g
   split at i
   ·rename_i V J
    cases i;obtain⟨a,rfl,F⟩:∃a,v=.ref a/\A'[j]?=some a:=by cases D with|lc h=>exact⟨_,rfl,h⟩
    ·have ha:=zaj F
     cases f.st.cell j _ _ J F with
     |dat L=>
      have hn:H a=none:=by
       rcases f.fresh a ha with z|z
       ·cases z
       ·exact z
      exact q _ B' H' ⟨m,p2,p,s,A,C,⟨_,rfl,hn,f.st.dis _ ha,L⟩⟩
   ·cases i
theorem Jp(h:spM (fnO n k b) vs H Q E):vs.length=n:=by
 obtain⟨B,ds,d,o,sub,tB,a,e,q⟩:=h;unfold fnO at e;split at e
 ·rename_i hl;exact a.length.trans hl
 ·cases e
end
end Mir
namespace L2
open PySem.Spec PyProof.Rows
section
variable{κ:Type} [DecidableEq κ]
def k8(Z0:List<|κ×V)(k : κ):Option V:=(Z0.find? λD=>decide<|D.1=k).map (·.2)
def putK(Z0:List<|κ×V)(k : κ)(v:V):List (κ×V) :=
 if(Z0.any λD=>decide<|D.1=k)=true then Z0.map (λD=>if D.1=k then(D.1,v)else D)else Z0++[(k,v)]
def qk(Z0:List<|κ×V)(k : κ):List (κ×V):=Z0.filter λD=>decide (D.1≠k)
theorem ly{k : κ}(e:p.1=k):k8 (p::r) k=some p.2:=by simp[k8,List.find?_cons,e]
theorem lz{k : κ}(e : ¬p.1=k):k8 (p::r) k=k8 r k:=by simp[k8,List.find?_cons,e]
theorem ya(k : κ):∀Z0:List (κ×V),(Z0.any λI=>decide<|I.1=k)=(k8 Z0 k).isSome
 | []=>rfl
 |p::r=>by
  rw[List.any_cons]
  by_cases e:p.1=k
  ·simp only[ly e,decide_eq_true e,Bool.true_or,Option.isSome_some]
  ·rw[lz e,zaO e,Bool.false_or];exact ya k r
theorem ql(Z0:List<|κ×V)(k : κ)(v:V):(putK Z0 k v).length<=Z0.length+1:=by
 unfold putK;split
 ·rw[zal];lia
 ·rw[zau,zaw,List.length_nil];lia
theorem qv.jF(r:qv o u):o.isSome=u.isSome:=by
 cases o with
 |none=>cases u with
  |none=>rfl
  |some _=>exact(show False from r).elim
 |some _=>cases u with
  |none=>exact(show False from r).elim
  |some _=>rfl
theorem KV.val(r:KV Z0 vs)(k : κ):qv (k8 Z0 k) (valueAt vs k):=by
 unfold KV at r
 induction r with
 |nil=>exact True.intro
 | @cons p q ps d h t i=>
  obtain⟨f,g⟩:=h
  by_cases e:p.1=k
  ·have a:q.1=k:=f.symm.trans e
   have b:valueAt (q::d) k=some q.2:=by simp[valueAt,List.find?_cons,a]
   rw[ly e,b];exact g
  ·have a : ¬q.1=k:=λz=>e (f.trans z)
   have b:valueAt (q::d) k=valueAt d k:=by simp[valueAt,List.find?_cons,a]
   rw[lz e,b];exact i
theorem KV.any(r:KV Z0 vs)(k : κ):(Z0.any λI=>decide<|I.1=k)=vs.any λI=>decide (I.1=k):=by
 unfold KV at r
 induction r with
 |nil=>rfl
 |cons h t a=>rw[List.any_cons,List.any_cons,a,h.1]
theorem KV.repl(r:KV Z0 vs)(k : κ)(M:RelV y u) :
  KV (Z0.map λI=>if I.1=k then(I.1,y)else I) (vs.map λI=>if I.1=k then(I.1,u)else I):=by
 unfold KV at r⊢
 induction r with
 |nil=>exact .nil
 | @cons p q ps d h t c=>
  rw[zaz,zaz];refine .cons ?_ c;obtain⟨a,b⟩:=h
  by_cases e:p.1=k
  ·rw[if_pos e,if_pos<|a.symm.trans e];exact⟨a,M⟩
  ·rw[if_neg e,if_neg λz=>e<|a.trans z];exact⟨a,b⟩
theorem KV.put(r:KV Z0 vs)(k : κ)(I:RelV y u):KV (putK Z0 k y) (stored vs k u):=by
 unfold putK stored;rw[r.any k]
 by_cases e:(vs.any λa=>decide<|a.1=k)=true
 ·rw[if_pos e,if_pos e];exact r.repl k I
 ·rw[if_neg e,if_neg e];exact Paired.snoc r ⟨rfl,I⟩
theorem KV.drop(r:KV Z0 vs)(k : κ):KV (qk Z0 k) (without vs k):=by
 unfold KV at r⊢;unfold qk without
 induction r with
 |nil=>exact .nil
 | @cons p q ps j h t f=>
  obtain⟨d,i⟩:=h;rw[List.filter_cons,List.filter_cons]
  by_cases e:p.1=k
  ·have a : ¬decide (p.1≠k)=true:=by simp[e]
   have b : ¬decide (q.1≠k)=true:=by simp[d.symm.trans e]
   rw[if_neg a,if_neg b];exact f
  ·have g : ¬q.1=k:=λz=>e (d.trans z)
   have a:decide (p.1≠k)=true:=by simp[e]
   have b:decide (q.1≠k)=true:=by simp[g]
   rw[if_pos a,if_pos b];exact .cons ⟨d,i⟩ f
theorem KV.length{vs:List<|κ×Value}(r:KV Z0 vs):Z0.length=vs.length:=Paired.length r
def F6(Z0:List<|κ×V)(k : κ):(qk Z0 k).length<=Z0.length:=zaY _ _
end
theorem uA(r:RelV (kV k) u):(bX P w).is k u=true:=by
 cases k with
 |inl i=>obtain⟨t,e⟩:=(show∃t,u=Value.int i t from r);subst e;exact wV P w i t
 |inr x=>obtain⟨t,e⟩:=(show∃t,u=Value.str x t from r);subst e;exact wW P w x t
theorem uB:∀{ks:List Key} {us:List Value},Vals (ks.map kV) us->ItemsAre (bX P w) ks us
 | [],_,r=>by rw[List.map_nil]at r;cases r;exact .nil
 |k::ks,_,r=>by
  rw[zaz]at r;cases r with
  |cons h t=>exact .cons (uA h) (uB t)
abbrev KT(H:Hp):List (List Key×V)->List (List Key×Addr×Value)->Prop:=Paired λp q=>p.1=q.1/\H q.2.1=some (.tup<|p.1.map kV)/\RelV p.2 q.2.2
theorem KT.val(r:KT H Z0 xs)(k:List Key):qv (k8 Z0 k) ((atKey xs k).map (·.2)):=by
 induction r with
 |nil=>exact True.intro
 | @cons p q ps d h t i=>
  obtain⟨f,_,g⟩:=h
  by_cases e:p.1=k
  ·have a:q.1=k:=f.symm.trans e
   have b:atKey (q::d) k=some q.2:=by simp[atKey,List.find?_cons,a]
   rw[ly e,b];exact g
  ·have a : ¬q.1=k:=λz=>e (f.trans z)
   have b:atKey (q::d) k=atKey d k:=by simp[atKey,List.find?_cons,a]
   rw[lz e,b];exact i
theorem KT.repl(r:KT H Z0 xs)(k:List Key)(M:RelV y u) :
  KT H (Z0.map λI=>if I.1=k then(I.1,y)else I) (xs.map<|putAt k u):=by
 induction r with
 |nil=>exact .nil
 | @cons p q ps d h t c=>
  rw[zaz,zaz];refine .cons ?_ c;obtain⟨a,b,h3⟩:=h;unfold putAt
  by_cases e:p.1=k
  ·rw[if_pos e,if_pos<|a.symm.trans e];exact⟨a,b,M⟩
  ·rw[if_neg e,if_neg λz=>e<|a.trans z];exact⟨a,b,h3⟩
theorem KT.put(r:KT H Z0 xs)(k:List Key)(M:H b=some (.tup<|k.map kV))(I:RelV y u) :
  KT H (putK Z0 k y) (storedH xs k b u):=by
 have e:(Z0.any λa=>decide<|a.1=k)=(atKey xs k).isSome:=by
  rw[ya,(r.val k).jF,Option.isSome_map]
 unfold putK storedH;rw[e]
 by_cases q:(atKey xs k).isSome=true
 ·rw[if_pos q,if_pos q];exact r.repl k I
 ·rw[if_neg q,if_neg q];exact Paired.snoc r ⟨rfl,M,I⟩
def KT.keeps(r:KT H Z0 xs)(M:∀b I,H b=some (.tup I)->H' b=some (.tup I)):KT H' Z0 xs :=
 Paired.LL r λ_ _ z=>⟨z.1,M _ _ z.2.1,z.2.2⟩
section
variable{P:Program}{w:World}{H:Hp}{h:Heap}{a:Addr}
def KO(ok:HOk P w H h)(e:Rd H a u):bY P w H h a u:=e.ok ok
def nR(ok:HOk P w H h)(e:Rd H a<|.dK Z0):Z0.length<=sizeLine/\(a==sysModules)=false/\∃vs,KV Z0 vs/\h.DictOf (bX P w) a vs :=
 show bY P w H h a (.dK Z0)from KO ok e
def yb(ok:HOk P w H h)(e:H a=some (.dK Z0)):Z0.length<=sizeLine/\(a==sysModules)=false/\∃vs,KV Z0 vs/\h.DictOf (bX P w) a vs:=nR ok (.inl e)
theorem rM(ok:HOk P w H h)(e:H a=some (.tup<|ks.map kV)):(tupleKind<|bX P w).is h ks a:=by
 obtain⟨_,b,r,o,c,d,n,h3⟩:=bY.OA (P:=P) (w:=w) (H:=H) (ok a _ e);exact⟨o,b.toArray,n,c,d,h3,by simpa using uB r⟩
theorem yc(ok:HOk P w H h)(e:Rd H a<|.dT Z0):Z0.length<=sizeLine/\(a==sysModules)=false/\
  ∃xs,KT H Z0 xs/\h.DictOfH (tupleKind<|bX P w) a xs:=by
 obtain⟨z,y,xs,r,o,es,d,f,g,h3,h4,i⟩:=(show bY P w H h a (.dT Z0)from KO ok e);refine⟨z,y,xs,r,o,es,d,f,g,h3,h4,λx b=>?_,i⟩
 have all:∀{l:List<|List Key×V} {m:List<|List Key×Addr×Value},KT H l m->∀x∈m,(tupleKind<|bX P w).is h x.1 x.2.1:=by
  intro l m q
  induction q with
  |nil=>intro x b;exact nomatch b
  | @cons p q ps k c t j=>
   intro x b;rcases zaf b with e|b
   ·subst e
    exact rM ok (by rw[<-c.1];exact c.2.1)
   ·exact j x b
 exact all r x b
def O6(ok:HOk P w H h)(e:H a=some (.dT Z0)):Z0.length<=sizeLine/\(a==sysModules)=false/\
  ∃xs,KT H Z0 xs/\h.DictOfH (tupleKind<|bX P w) a xs:=yc ok (.inl e)
end
def tK(H:Hp)(a:Addr)(y:V)(r:Option V):Prop :=
 (∃Z0 k,Rd H a (.dK Z0)/\y=kV k/\r=k8 Z0 k)\/∃Z0 k b,Rd H a (.dT Z0)/\y=.ref b/\H b=some (.tup<|k.map kV)/\r=k8 Z0 k
def O7(H:Hp)(a:Addr)(y v:V)(H':Hp):Prop :=
 (∃Z0 k,H a=some (.dK Z0)/\y=kV k/\Z0.length<sizeLine/\H'=upd H a (.dK<|putK Z0 k v))\/
 ∃Z0 k b,H a=some (.dT Z0)/\y=.ref b/\H b=some (.tup<|k.map kV)/\Z0.length<sizeLine/\H'=upd H a (.dT<|putK Z0 k v)
section
variable{X:Cx}{V0:List<|Addr×Obj}{σ:St}{H:Hp}{s:Shared}{a:Addr}{y v:V}{u r:Value}{o:Option V}{A:Around}{E:Value->Shared->Prop}
theorem Inv.big(I:Inv X V0 σ H s):sysModules<s.heap.objs.size:=by
 have h:mainGlobals<s.heap.objs.size:=(I.mod.glob.keeps I.bk).lt;exact Nat.lt_trans (by decide) h
theorem Dy(O:A.units+1<cLine)(I:Inv X V0 σ H s)(g:tK H a y<|some v)(M:RelV y u)(h:∀w' s',Inv X V0 σ H s'->RelV v w'->Q w' s') :
  wpAny (model X.prog X.w) A (getItem (.ref a) u) Q E s:=by
 rcases g with⟨Z0,k,e,d,l⟩|⟨Z0,k,b,e,d,j,l⟩
 ·subst d
  obtain⟨z,hd,vs,rel,dd⟩:=nR I.hok e;obtain⟨w',i,c⟩:=qv.some_of (v:=v) (o:=valueAt vs k) (by rw[l];exact rel.val k)
  exact wpAny_getItem_of (uA M) dd.mapOf i (h w' _ (I.tok _) c)
 ·subst d
  cases(show u=Value.ref b from M);obtain⟨z,hd,xs,rel,dd⟩:=yc I.hok e;obtain⟨w',i,c⟩:=qv.some_of (v:=v) (o:=(atKey xs k).map (·.2)) (by rw[l];exact rel.val k)
  obtain⟨p,m,f⟩:=zab i;refine wpAny_getItem_heap (tupleKind_room_in1 O) (rM I.hok j) dd m ?_;rw[f];exact h w' _ (I.tok _) c
theorem Qn(O:A.units+1<cLine)(I:Inv X V0 σ H s)(g:tK H a y o)(M:RelV y u)(h:∀s',Inv X V0 σ H s'->Q (.bool o.isSome) s') :
  wpAny (model X.prog X.w) A (compareOp .In u<|.ref a) Q E s:=by
 rcases g with⟨Z0,k,e,c,l⟩|⟨Z0,k,b,e,c,d,l⟩
 ·subst c
  obtain⟨z,hd,vs,rel,dd⟩:=nR I.hok e;refine wpAny_in_of (uA M) hd dd.mapOf ?_;rw[<-(rel.val k).jF,<-l];exact h _ (I.tok _)
 ·subst c
  cases(show u=Value.ref b from M);obtain⟨z,hd,xs,rel,dd⟩:=yc I.hok e;refine wpAny_in_heap (tupleKind_room_in1 O) (rM I.hok d) hd dd ?_;have q:=(rel.val k).jF;rw[Option.isSome_map]at q;rw[<-q,<-l];exact h _ (I.tok _)
theorem Jq(O:A.units+1<cLine)(I:Inv X V0 σ H s)(g:tK H a y o)(M:RelV y u)(h:∀s',Inv X V0 σ H s'->Q (.bool<|!o.isSome) s') :
  wpAny (model X.prog X.w) A (compareOp .NotIn u<|.ref a) Q E s:=by
 rcases g with⟨Z0,k,e,c,l⟩|⟨Z0,k,b,e,c,d,l⟩
 ·subst c
  obtain⟨z,hd,vs,rel,dd⟩:=nR I.hok e;refine wpAny_notIn_of (uA M) hd dd.mapOf ?_;rw[<-(rel.val k).jF,<-l];exact h _ (I.tok _)
 ·subst c
  cases(show u=Value.ref b from M);obtain⟨z,hd,xs,rel,dd⟩:=yc I.hok e;refine wpAny_notIn_heap (tupleKind_room_in1 O) (rM I.hok d) hd dd ?_;have q:=(rel.val k).jF;rw[Option.isSome_map]at q;rw[<-q,<-l];exact h _ (I.tok _)
def nS(I:Inv X V0 σ H s)(O:Mut<|H a)(hs:Heap.SameBut a s.heap h')(M:∃q,h'.get? a=some q)(new:bY X.prog X.w (upd H a ob) h' a ob) :
  Inv X V0 σ (upd H a ob) {s with heap:=h',toks:=U} :=
 I.write (x:=a) (e:=a) O (.inl rfl) (λb q c z=>(hs.2 b c).trans z) M new
def rN(z:Z0.length<=sizeLine)(hd:(a==sysModules)=false)(rel:KV Z0 vs)(dd:h'.DictOf (bX P w) a vs) :
  bY P w H' h' a (.dK Z0):=⟨z,hd,vs,rel,dd⟩
theorem Dz(U:A.units+1<cLine)(I:Inv X V0 σ H s)(g:O7 H a y v H')(O:RelV y u)(M:RelV v r)(h:∀s',Inv X V0 σ H' s'->Q () s') :
  wpAny (model X.prog X.w) A (setItem (.ref a) u r) Q E s:=by
 rcases g with⟨Z0,k,e,i,l,eH⟩|⟨Z0,k,b,e,i,m,l,eH⟩
 ·subst i eH
  obtain⟨z,hd,vs,rel,dd⟩:=yb I.hok e;have j:vs.length<=sizeLine:=by rw[<-rel.length];exact z
  have hl:(putK Z0 k v).length<=sizeLine:=by have:=ql Z0 k v;lia
  refine wpAny_setItem_pairs (hsz:=j) (uA O) dd λh' d hs=>h _ ?_
  have B:∃q,h'.get? a=some q:=let⟨q,_,_,f,_⟩:=d;⟨q,f⟩
  exact nS I (by rw[e];exact True.intro) hs B (rN hl hd (rel.put k M) d)
 ·subst i eH
  cases(show u=Value.ref b from O);obtain⟨z,hd,xs,rel,dd⟩:=O6 I.hok e;have j:xs.length<=sizeLine:=by rw[<-Paired.length rel];exact z
  have hl:(putK Z0 k v).length<=sizeLine:=by have:=ql Z0 k v;lia
  refine wpAny_setItem_heap (hsz:=j) (tupleKind_room_in1 U) (rM I.hok m) dd λh' d hs=>h _ ?_
  obtain⟨q,es,p,f,t,h3,h4,_,x⟩:=d;refine nS I (by rw[e];exact True.intro) hs ⟨q,f⟩ ⟨hl,hd,_,(rel.put k m M).keeps λc C n=>?_,q,es,p,f,t,h3,h4,x⟩
  rw[au<|Ob n e λz=>nomatch z]
  exact n
end
section
variable{X:Cx}{V0:List<|Addr×Obj}{σ:St}{H:Hp}{s:Shared}{a:Addr}{Z0:List<|Key×V}{k:Key}{u:Value}{A:Around}{E:Value->Shared->Prop}
theorem O8(I:Inv X V0 σ H s)(e:H a=some (.dK Z0))(M:RelV (kV k) u)(l:k8 Z0 k=some v)(hm:more=[]\/∃x,more=[x])
  (h:∀w' s',Inv X V0 σ (upd H a<|.dK<|qk Z0 k) s'->RelV v w'->Q w' s'):wpAny (model X.prog X.w) A (call (.builtin "dict.pop") (.ref a::u::more)) Q E s:=by
 obtain⟨z,hd,vs,rel,dd⟩:=yb I.hok e;obtain⟨w',j,c⟩:=qv.some_of (v:=v) (o:=valueAt vs k) (by rw[<-l];exact rel.val k)
 have f:(keyPart u).isSome=true:=by
  cases k with
  |inl i=>obtain⟨t,q⟩:=(show∃t,u=Value.int i t from M);subst q;rfl
  |inr x=>obtain⟨t,q⟩:=(show∃t,u=Value.str x t from M);subst q;rfl
 have ha:argsOk "dict.pop" ⟨.ref a::u::more,[]⟩:=by
  rcases hm with q|⟨x,q⟩
  ·subst q;exact PySem.F.args_dict_pop_2 _ _
  ·subst q;exact PySem.F.args_dict_pop_3 _ _ _
 refine call_meetsIn PySem.F.slot_dict_pop dd.typeIs PySem.F.entry_dict_pop ha (meets_dict_pop_there (bX X.prog X.w) a (uA M) more hm f)
  ⟨vs,w',dd,by rw[<-rel.length];exact z,j,λh' b hs=>h w' _ ?_ c⟩
 have d:∃q,h'.get? a=some q:=let⟨q,_,_,g,_⟩:=b;⟨q,g⟩
 exact nS I (by rw[e];exact True.intro) hs d (rN (zaX (F6 Z0 k) z) hd (rel.drop k) b)
theorem O9(I:Inv X V0 σ H s)(e:Rd H a<|.dK Z0)(h:∀t s',Inv X V0 σ H s'->Q (.int Z0.length t) s'):wpAny (model X.prog X.w) A (call (.builtin "len") [.ref a]) Q E s:=by
 obtain⟨z,hd,vs,rel,dd⟩:=nR I.hok e;refine call_len_dict hd dd (by rw[<-rel.length];rw[sizeLine_eq]at z;lia) ?_
 rw[<-rel.length];exact h _ _ (I.tok _)
end
def Ng(i:Expr):Prop:=∀G D,subscripted i false G D=operate [G,D] (getItem G D)
theorem Jr{E:Value->Shared->Prop}{s:Shared}{env:Env}{M I:Expr}{pos:Pos}{T id:String}{Q:Value->Shared->Prop}
  (hl:typeLookup (.type T) "__getitem__"=pure (some<|.builtin id)) (hs:Ng I)
  (h:wpAny (model prog w) A (eval M env) (λo U=>wpAny (model prog w) A (eval I env) (λi O=>O.TypeIs o T/\wpAny (model prog w) A (getItem o i) Q E O) E U) E s) :
  wpAny (model prog w) A (eval (.Subscript M I pos) env) Q E s:=by
 refine Subscript_ (za6 h (λo U d=>za6 d (λi O a=>?_) λ_ _ x=>x) λ_ _ x=>x)
 obtain⟨f,a⟩:=a;unfold subscriptTail;refine zaI ?_;rw[getitemInPython_of_ne f.not_modules];refine zaI (wpAny_specialOf f hl ?_);have c:wpAny (model prog w) A (subscripted I false o i) (λr b=>wpAny (model prog w) A (letTemporaryGo M o r>>=λ_=>pure r) Q E b) E O:=by
  rw[hs o i];exact wpAny_operating (za6 a (λr b e=>zaI<|wpAny_letTemporaryGo<|zaZ e) λ_ _ x=>x)
 first
  |exact zaZ (zaI c)
  |exact zaI (zaZ (zaI c))
  |exact zaI c
theorem ye{σ:St}{H:Hp}{s:Shared}{a:Addr}{y:V}{o:Option V}(I:Inv X V0 σ H s)(g:tK H a y o):s.TypeIs (.ref a) "dict":=by
 rcases g with⟨Z0,k,e,_,_⟩|⟨Z0,k,b,e,_,_,_⟩
 ·obtain⟨_,_,vs,_,dd⟩:=nR I.hok e
  exact dd.typeIs
 ·obtain⟨_,_,xs,_,dd⟩:=yc I.hok e
  exact dd.typeIs
def KP(td ty:TE):TE:=fun σ H Q=>td σ H λx G=>ty σ G λy D=>∃a v,x=.ref a/\tK D a y (some v)/\Q v D
def Qo(ty td:TE):TE:=fun σ H Q=>ty σ H λy G=>td σ G λx D=>∃a o,x=.ref a/\tK D a y o/\Q (.bl o.isSome) D
def Js(ty td:TE):TE:=fun σ H Q=>ty σ H λy G=>td σ G λx D=>∃a o,x=.ref a/\tK D a y o/\Q (.bl<|!o.isSome) D
def F7(td ty M:TE):TS:=λD σ H=>M σ H λv J=>td σ J λx L=>ty σ L λy V=>∃a G,x=.ref a/\O7 V a y v G/\D.nx σ G
section
variable{X:Cx}{o i e value:Expr}{pos pos' tpos:Pos}{td ty tv:TE}
theorem Jt(M:X.A.units+1<cLine)(ho:PE X o td)(hi:PE X i ty)(hs:Ng i):PE X (.Subscript o i pos) (KP td ty):=by
 intro V0 s σ H Q I h;refine Jr PySem.F.slot_dict_getitem.lookup hs (thn (ho V0 s σ H _ I h) λu s1 ⟨x,d,j,n,l⟩=>thn (hi V0 s1 σ d _ j l) λq s2 ⟨y,f,c,p,a,v,ex,g,m⟩=>?_)
 subst ex;obtain rfl:u=Value.ref a:=n;exact⟨ye c g,Dy M c g p λw' r k b=>⟨v,f,k,b,m⟩⟩
theorem vH(M:X.A.units+1<cLine)(hi:PE X i ty)(ho:PE X o td):PC X .In i o (Qo ty td):=by
 intro V0 s σ H Q I h;refine thn (hi V0 s σ H _ I h) λv s1 ⟨y,b,d,t,p⟩=>thn (ho V0 s1 σ b _ d p) λu s2 ⟨x,c,f,r,a,m,ex,g,q⟩=>?_
 subst ex;obtain rfl:u=Value.ref a:=r;exact Qn M f g t λw l=>⟨.bl m.isSome,c,l,rfl,q⟩
theorem DA(M:X.A.units+1<cLine)(hi:PE X i ty)(ho:PE X o td):PC X .NotIn i o (Js ty td):=by
 intro V0 s σ H Q I h;refine thn (hi V0 s σ H _ I h) λt s1 ⟨y,b,d,r,m⟩=>thn (ho V0 s1 σ b _ d m) λu s2 ⟨x,c,f,q,a,l,ex,g,p⟩=>?_
 subst ex;obtain rfl:u=Value.ref a:=q;exact Jq M f g r λv j=>⟨.bl<|!l.isSome,c,j,rfl,p⟩
theorem fE(M:X.A.units+1<cLine)(ho:PE X o td)(hi:PE X i ty)(O:PE X value tv)(hs:swapsWith value (some<|.Subscript o i pos') pos.line X.env=pure false) :
  PS X (.Assign [.Subscript o i pos'] value pos) (F7 td ty tv):=by
 intro V0 s σ H D I h;refine wpAny_Assign_Subscript (thn (O V0 s σ H _ I h) λr s1 ⟨v,b,f,B,q⟩=>thn (ho V0 s1 σ b _ f q) λu s2 ⟨x,c,l,C,t⟩=>thn (hi V0 s2 σ c _ l t) λG J ⟨y,F,m,E,a,d,ex,g,w⟩=>?_) hs
 subst ex;obtain rfl:u=Value.ref a:=C;exact Dz M m g E B λL p=>⟨σ,d,p,w⟩
end
def F8(h:Heap)(I:sysModules<h.objs.size):bY P w H (h.push {cls:=.type "dict",data:=.dict #[]}) h.objs.size (.dK []) :=
 ⟨Nat.zero_le _,beq_eq_false_iff_ne.mpr<|Ne.symm<|zaS I,[],.nil,Heap.DictOf.new h⟩
def F9:TE:=λ_ H Q=>∀p,H p=none->Q (.ref p) (upd H p<|.dK [])
section
variable{X:Cx}{pos:Pos}
def g7:PE X (.Dict [] [] pos) F9:=λV0 s σ H Q I h=>
 wpAny_Dict_empty ⟨.ref s.heap.objs.size,_,I.laid (a:=s.heap.objs.size) (o:=.dK []) (t':=s.toks) (λ_ _ q=>zar _ q) (zap _)<|F8 s.heap I.big,rfl,h _<|I.hok.fresh<|zap _⟩
end
structure M1(X:Cx)(o:Expr)(m:Str)(apos:Pos)(e:Expr)(Q2:Pos):Prop where
 base:attributeBase o m X.env (eval o X.env)=eval o X.env
 few:((backTo Q2<|starEach [e] X.env).all (λx=>!x.1)&&(backToKw Q2<|keywordEach [] X.env).all (λx=>x.1.isSome)
  &&decide (([e]:List Expr).length+([]:List Keyword).length+(if([]:List Keyword).isEmpty then 0 else 1)<30))=true
 line:(apos.endLine==Q2.line)=true
 trees:backTo Q2 (starEach [e] X.env)=[(false,eval e X.env)]
structure M2(X:Cx)(o:Expr)(m:Str)(apos:Pos)(e f:Expr)(Q2:Pos):Prop where
 base:attributeBase o m X.env (eval o X.env)=eval o X.env
 few:((backTo Q2<|starEach [e,f] X.env).all (λx=>!x.1)&&(backToKw Q2<|keywordEach [] X.env).all (λx=>x.1.isSome)
  &&decide (([e,f]:List Expr).length+([]:List Keyword).length+(if([]:List Keyword).isEmpty then 0 else 1)<30))=true
 line:(apos.endLine==Q2.line)=true
 trees:backTo Q2 (starEach [e,f] X.env)=[(false,eval e X.env),(false,eval f X.env)]
section
variable{X:Cx}{V0:List<|Addr×Obj}{σ:St}{H:Hp}{s:Shared}{a:Addr}{Z0:List<|Key×V}{A:Around}{E:Value->Shared->Prop}
theorem Ga(I:Inv X V0 σ H s)(e:Rd H a<|.dK Z0)(h:∀p s',H p=none->Inv X V0 σ (upd H p<|.dK Z0) s'->Q (.ref p) s'):wpAny (model X.prog X.w) A (call (.type "dict") [.ref a]) Q E s:=by
 obtain⟨z,hd,vs,rel,dd⟩:=nR I.hok e;refine kt_call_dict hd dd (by rw[<-rel.length];exact z) λh' c hs=>?_
 refine h _ _ (I.hok.fresh<|zap _) (I.laid (a:=s.heap.objs.size) (o:=.dK Z0) (t':=s.toks) (λb q d=>?_) (zap _)<|rN z (beq_eq_false_iff_ne.mpr<|Ne.symm<|zaS I.big) rel c)
 exact(hs.2 b<|zaS<|zaq d).trans (zar _ d)
end
end L2
namespace Mir
open L2
variable [Zc]
def lA:PM:=fun ρ=>some ((.dict [],.new),ρ)
theorem jb:ME F9 lA:=by
 intro F B H σ ρ r ρ' Q R e q;cases e;exact ik (Q1:=(.dict [],true)) (k:=λQ=>∀p,H p=none->Q (.ref p) (upd H p<|.dK [])) (Q:=Q) R ⟨[],.nil,λQ h=>h⟩ λv B' H' E a b N=>q v B' H' E a b N
def Gb:Option Sl->Option (List<|D×D)
 |some (.own (.dict es))=>some es
 |some (.io (.dict es))=>some es
 |_=>none
theorem BF(h:Gb s=some es):∃t,s=some t/\t.fT=true/\slD t=.dict es:=by
 unfold Gb at h;split at h
 ·cases h;exact⟨_,rfl,rfl,rfl⟩
 ·cases h;exact⟨_,rfl,rfl,rfl⟩
 ·cases h
theorem Own.dict{es:List<|D×D}(h:Own B H p<|.dict es):∃Z0,H p=some (.dK Z0)/\bc B Z0 es:=by
 cases h with
 |dct h r=>exact⟨_,h,r⟩
theorem bc.snoc(hk:C5 k c)(I:Rep B x d):∀{Z0:List<|Key×V} {es:List<|D×D},bc B Z0 es->bc B (Z0++[(k,x)]) (es++[(c,d)])
 |_,_,.nil=>.cons hk I .nil
 |_,_,.cons a b r=>.cons a b (bc.snoc hk I r)
theorem bc.length:∀{Z0:List<|Key×V} {es:List<|D×D},bc B Z0 es->Z0.length=es.length
 |_,_,.nil=>rfl
 |_,_,.cons _ _ r=>by rw[zaw,zaw,bc.length r]
def Pa:List (D×D)->Option (List Int)
 | []=>some []
 |(_,.int i)::r=>(Pa r).map (i::·)
 |_=>none
end Mir
namespace L2
open PySem.Spec PyProof.Rows
section
variable{X:Cx}
def KQ:List V->Hp->VK->Prop:=λxs H Q=>∃a Z0,xs=[V.ref a]/\Rd H a (.dK Z0)/\Q (.int Z0.length) H
theorem gz:dJ X (.builtin "len") KQ:=by
 intro V0 s σ H xs us Q I r h;obtain⟨a,Z0,rfl,ha,q⟩:=h;cases r with
 |cons c r=>
  cases r;obtain rfl:=c;exact O9 I ha λt s' b=>⟨.int Z0.length,H,b,⟨t,rfl⟩,q⟩
def Gd:List V->Hp->VK->Prop:=λxs H Q=>∃a Z0,xs=[V.ref a]/\Rd H a (.dK Z0)/\∀p,H p=none->Q (.ref p) (upd H p<|.dK Z0)
theorem gA:dJ X (.type "dict") Gd:=by
 intro V0 s σ H xs us Q I r h;obtain⟨a,Z0,rfl,ha,q⟩:=h;cases r with
 |cons d r=>
  cases r;obtain rfl:=d;exact Ga I ha λp s' c b=>⟨.ref p,_,b,rfl,q p c⟩
theorem KR(h:(bX P w).is k u=true):RelV (kV k) u:=by
 rw[zq]at h;rcases cS h with⟨i,t,rfl,rfl⟩|⟨x,t,rfl,rfl⟩
 ·exact⟨t,rfl⟩
 ·exact⟨t,rfl⟩
theorem DB(us:List Value)(r:KV Z0 vs)(hl:us.length=vs.length)(I:∀(j:Nat) (v:Value),us[j]?=some v->∃k x,vs[j]?=some (k,x)/\(bX P w).is k v=true):Vals (Z0.map λq=>kV q.1) us:=by
 induction r generalizing us with
 |nil=>
  cases us with
  |nil=>exact .nil
  |cons u us=>cases hl
 | @cons a b l1 l2 h t i=>
  cases us with
  |nil=>cases hl
  |cons u us=>
   obtain⟨k,x,c,d⟩:=I 0 u rfl;have f:b=(k,x):=by simpa using c
   subst f;have g:a.1=k:=h.1;refine .cons ?_ (i us (by simpa using hl) λj v e=>I (j+1) v (by simpa using e))
   show RelV (kV a.1) u;rw[g];exact KR d
end
end L2
namespace Mir
open L2
variable [Zc]
def keyOf:D->Option Key
 | .int i=>some (.inl i)
 | .str x=>some (.inr x)
 |_=>none
theorem C5.of(h:C5 k c):keyOf c=some k:=by
 cases k with
 |inl i=>obtain rfl:=(show c=.int i from h);rfl
 |inr x=>obtain rfl:=(show c=.str x from h);rfl
theorem BG(h:keyOf c=some k):C5 k c:=by
 unfold keyOf at h;split at h
 ·cases h;exact rfl
 ·cases h;exact rfl
 ·cases h
def d4:List (D×D)->Key->Option D
 | [],_=>none
 |(c,d)::r,k=>if keyOf c=some k then some d else d4 r k
theorem jG{B:Hp}{k:Key}:∀{Z0:List<|Key×V} {es:List<|D×D},bc B Z0 es->(∀d,d4 es k=some d->∃u,k8 Z0 k=some u/\Rep B u d)/\(d4 es k=none->k8 Z0 k=none)
 |_,_,.nil=>⟨λd h=>(by cases h),λ_=>rfl⟩
 |_,_,.cons (k:=k') (x:=x) (c:=c) (d:=d) (Z0:=Z0) (es:=es) hk b r=>by
  have f:=jG (k:=k) r
  by_cases e:k'=k
  ·subst e
   have hl:d4 ((c,d)::es) k'=some d:=if_pos hk.of;refine⟨λg h=>?_,λh=>?_⟩
   ·rw[hl]at h;cases h
    exact⟨x,ly rfl,b⟩
   ·rw[hl]at h;cases h
  ·have a:k8 ((k',x)::Z0) k=k8 Z0 k:=lz e
   have hl:d4 ((c,d)::es) k=d4 es k:=if_neg λz=>e (by rw[hk.of]at z;exact zaQ z)
   rw[a,hl];exact f
theorem View.key(h:View B H y d)(e:keyOf d=some k):y=kV k:=by
 unfold keyOf at e;split at e
 ·cases e
  rcases h with h|⟨p,_,h⟩
  ·cases h;rfl
  ·cases h
 ·cases e
  rcases h with h|⟨p,_,h⟩
  ·cases h;rfl
  ·cases h
 ·cases e
def Pb:R2:=λx y H Q=>∃a v,x=.ref a/\tK H a y (some v)/\Q v H
def Qp:R2:=λy x H Q=>∃a o,x=.ref a/\tK H a y o/\Q (.bl o.isSome) H
def Ju:R2:=λy x H Q=>∃a o,x=.ref a/\tK H a y o/\Q (.bl<|!o.isSome) H
def dW:D->D->Option (D×Bool)
 | .dict es,c=>(keyOf c).bind λk=>(d4 es k).map λd=>(d,false)
 |_,_=>none
theorem dM:OpJ Pb dW:=by
 intro B H x y c d o s g h e;unfold dW at e;split at e
 ·obtain⟨k,b,e⟩:=zaa e
  obtain⟨v,f,e⟩:=zab e;cases e;obtain rfl:=h.key b;obtain⟨a,Z0,rfl,l,m⟩:=g.dict s;obtain⟨u,h3,h4⟩:=(jG m).1 v f;exact⟨u,h4,λQ q=>⟨a,u,rfl,.inl ⟨Z0,k,l,rfl,h3.symm⟩,q⟩⟩
 ·cases e
def vI:D->D->Option (D×Bool)
 |c,.dict es=>(keyOf c).map λk=>(.bool (d4 es k).isSome,false)
 |_,_=>none
def nU:D->D->Option (D×Bool)
 |c,.dict es=>(keyOf c).map λk=>(.bool<|!(d4 es k).isSome,false)
 |_,_=>none
theorem vJ(r:bc B Z0 es):(k8 Z0 k).isSome=(d4 es k).isSome:=by
 cases h:d4 es k with
 |none=>rw[(jG r).2 h];rfl
 |some d=>obtain⟨u,a,_⟩:=(jG r).1 d h;rw[a];rfl
theorem BH:OpJ Qp vI:=by
 intro B H y x c d m s g f e;unfold vI at e;split at e
 ·obtain⟨k,b,e⟩:=zab e
  cases e;obtain rfl:=g.key b;obtain⟨a,Z0,rfl,h,l⟩:=f.dict s;exact⟨.bl _,.bl _,λQ q=>⟨a,_,rfl,.inl ⟨Z0,k,h,rfl,rfl⟩,by rw[vJ l];exact q⟩⟩
 ·cases e
theorem Ge:OpJ Ju nU:=by
 intro B H y x c d j s g f e;unfold nU at e;split at e
 ·obtain⟨k,b,e⟩:=zab e
  cases e;obtain rfl:=g.key b;obtain⟨a,Z0,rfl,h,i⟩:=f.dict s;exact⟨.bl _,.bl _,λQ q=>⟨a,_,rfl,.inl ⟨Z0,k,h,rfl,rfl⟩,by rw[vJ i];exact q⟩⟩
 ·cases e
def ig:List D->Option (D×Bool)
 | [.dict es]=>some (.int es.length,false)
 |_=>none
theorem m4:kT KQ ig:=by
 intro B H vs ds f s h e;unfold ig at e;split at e
 ·cases e
  obtain⟨v,rfl,b⟩:=iH h;obtain⟨a,Z0,rfl,c,d⟩:=b.dict s;exact fC λQ q=>⟨a,Z0,rfl,c,by rw[d.length];exact q⟩
 ·cases e
def kh:List D->Option (D×Bool)
 | [.dict es]=>some (.dict es,true)
 |_=>none
theorem mi:kT Gd kh:=by
 intro B H vs ds f s h e;unfold kh at e;split at e
 ·cases e
  obtain⟨v,rfl,b⟩:=iH h;obtain⟨a,Z0,rfl,c,d⟩:=b.dict s;exact⟨Z0,d,λQ q=>⟨a,Z0,rfl,c,q⟩⟩
 ·cases e
theorem rO:∀{Z0:List<|Key×V} {es:List<|D×D},bc B Z0 es->a6 B (Z0.map λq=>kV q.1) (es.map (·.1))
 |_,_,.nil=>.nil
 |_,_,.cons (k:=k) (c:=c) hk a r=>by
  refine .cons ?_ (rO r);cases k with
  |inl i=>obtain rfl:=(show c=.int i from hk);exact .int i
  |inr x=>obtain rfl:=(show c=.str x from hk);exact .str x
def putD(es:List<|D×D)(c d:D)(k:Key):List (D×D):=if(d4 es k).isSome then es.map λp=>if keyOf p.1=some k then(p.1,d)else p else es++[(c,d)]
theorem BI(k:Key):∀Z0:List (Key×V),(Z0.any λI=>decide<|I.1=k)=(k8 Z0 k).isSome
 | []=>rfl
 |p::l=>by
  rw[List.any_cons,BI k l]
  by_cases h:p.1=k
  ·rw[ly h,zaH h];rfl
  ·rw[lz h,zaO h];rfl
theorem bc.map(I:Rep B v d):∀{Z0:List<|Key×V} {es:List<|D×D},bc B Z0 es->bc B (Z0.map λp=>if p.1=k then(p.1,v)else p) (es.map λp=>if keyOf p.1=some k then(p.1,d)else p)
 |_,_,.nil=>.nil
 |_,_,.cons (k:=k') C E t=>by
  rw[zaz,zaz]
  by_cases e:k'=k
  ·subst e
   rw[if_pos rfl,if_pos C.of];exact .cons C I (bc.map I t)
  ·rw[if_neg e,if_neg λz=>e (by rw[C.of]at z;exact zaQ z)]
   exact .cons C E (bc.map I t)
theorem bc.put(hk:C5 k c)(I:Rep B v d)(r:bc B Z0 es):bc B (putK Z0 k v) (putD es c d k):=by
 unfold putK putD;rw[BI,vJ r];split
 ·exact bc.map I r
 ·exact bc.snoc hk I r
def yf(i:Nat)(a b:PM):SM:=fun ρ=>(sv a ρ).bind λx=>(nH x.1 x.2).bind λy=>(Gb y.2[i]?).bind λ_=>(sv b y.2).bind λz=>(keyOf z.1.1).bind λk=>(Gb z.2[i]?).bind λes=>cIf (es.length<100000) (some<|.nx<|Mir.putAt z.2 i<|.dict<|putD es z.1.1 y.1 k) none
theorem BJ(ha:ME tv a)(U:ME ty b):MS (F7 (w6 i) ty tv) (yf i a b):=by
 intro F B H σ ρ o D R e q
 walk_at "q3"
 obtain⟨M,V,e⟩:=zaa e;obtain⟨z,X,e⟩:=zaa e;obtain⟨k,t,e⟩:=zaa e;obtain⟨es,Z,e⟩:=zaa e;obtain⟨hz,e⟩:=cO e;cases e
 walk_at "q2"
 have w:Iy E σ v x.1:=(Vl.weak (F:=F) (H:=C) (ρ:=x.2) (vs:=[v]) (rs:=[x.1]) ⟨⟨L,md G⟩,trivial⟩).1;obtain⟨K,R2,rp,E2⟩:=f.frz w S;obtain⟨s0,m,l,Y⟩:=BF V;obtain⟨p,r,hB,ow⟩:=R2.ownAt m l;refine⟨_,r,?_⟩;refine U.sv F K C σ y.2 z.1 z.2 _ R2 X λu N H3 P h T N3=>?_
 obtain rfl:=(T.view h).key t;obtain⟨s,hs,ho,hd⟩:=BF Z;obtain⟨p',c,O,g⟩:=h.ownAt hs ho;rw[r]at c;cases c;rw[hd]at g;obtain⟨Z0,hp,J⟩:=g.dict;obtain⟨Q,E4⟩:=h.write (o:=.dK<|putK Z0 k v) (d:=.dict<|putD es z.1.1 y.1 k) hs ho r ⟨(λ_ z=>by cases z),λ_ _ z=>by cases z⟩ (.dct ay<|bc.put (BG t) (rp.mono P.sB) J)
 have I:Mir.putAt z.2 i (.dict<|putD es z.1.1 y.1 k)=z.2.set i (s.put<|.dict<|putD es z.1.1 y.1 k):=by unfold Mir.putAt;rw[hs]
 rw[I]at q;exact⟨p,_,rfl,.inl ⟨Z0,k,hp,rfl,by rw[J.length,sizeLine_eq];lia,rfl⟩,q N _ σ Q⟩
end Mir
namespace L2
open PySem.Spec PyProof.Rows
section
variable{X:Cx}{V0:List<|Addr×Obj}{σ:St}{H:Hp}{s:Shared}{a:Addr}{Z0:List<|Key×V}
theorem Inv.view(I:Inv X V0 σ H s)(e:H a=some u)(nt:∀xs,u≠.tup xs)(no:∀x,u≠.own x)(nz:∀o v,X.H₀ a≠some (.frz o v))(nb:∀ps,u≠.tbl ps)(new:bY X.prog X.w (upd H a M) s.heap a M):Inv X V0 σ (upd H a M) s:=by
 have f:∀b,H b=none->b≠a:=λb z y=>by rw[y,e]at z;cases z
 refine⟨I.ok,I.os,I.bare,⟨I.base.keep,I.base.slot,λb o q n B=>?_,I.base.there,λb xs q=>?_,λb o v q=>?_,λb ps q=>?_⟩,I.loc,I.cell,?_,λx c t=>?_,λp A=>?_,λb v q=>?_,I.len⟩
 ·have:=I.base.free b o q n B
  rw[au<|f b this];exact this
 ·have z:=I.base.tups b xs q
  rw[au λy=>by rw[y,e]at z;exact nt xs (zaQ z)];exact z
 ·have z:=I.base.k7 b o v q
  rw[au λy=>nz o v (by rw[<-y];exact q)];exact z
 ·obtain⟨m,z⟩:=I.base.jU b ps q
  exact⟨m,by rw[au λy=>by rw[y,e]at z;exact nb _ (zaQ z)];exact z⟩
 ·rw[au<|f _ I.free];exact I.free
 ·have z:=I.ic x c t
  rw[au<|f _ z];exact z
 ·obtain⟨h,g,i,j,k⟩:=I.pin p A
  exact⟨h,by rw[au<|f _ g];exact g,i,j,k⟩
 ·by_cases z:b=a
  ·subst z
   rw[ay]at q;cases q;exact new
  ·rw[au z]at q
   refine(I.hok b v q).stay (λ_ _ _ r=>r) (λc r=>?_) λc xs hk r=>?_
   ·rw[au λy=>by rw[y,e]at r;exact no b (zaQ r)];exact r
   ·rw[au (λy=>by
     rw[y,e]at r;cases xs with
     |tup l=>exact nt l (zaQ r)
     |tbl l=>exact nb l (zaQ r)
     |_=>exact hk)];exact r
theorem Inv.Gf(I:Inv X V0 σ H s)(e:H a=some (.dK Z0)):∀o v,X.H₀ a≠some (.frz o v):=λo v z=>by
 have:=I.base.k7 a o v z;rw[e]at this;cases this
theorem Inv.Pc(I:Inv X V0 σ H s)(e:H a=some (.dK Z0)):∃o,Inv X V0 σ (upd H a<|.frz o<|.dK Z0) s:=by
 obtain⟨z,hd,vs,rel,dd⟩:=yb I.hok e;obtain⟨o,es,b,ho,r⟩:=id dd;exact⟨o,I.view e (λ_ z=>by cases z) (λ_ z=>by cases z) (I.Gf e) (λ_ z=>by cases z) ⟨ho,z,hd,vs,rel,dd⟩⟩
theorem Inv.rP(I:Inv X V0 σ H s)(e:H a=some (.frz o<|.dK Z0))(nz:∀o v,X.H₀ a≠some (.frz o v)):Inv X V0 σ (upd H a<|.dK Z0) s:=by
 obtain⟨_,z,hd,vs,rel,dd⟩:=I.hok a _ e;exact I.view e (λ_ z=>by cases z) (λ_ z=>by cases z) nz (λ_ z=>by cases z) ⟨z,hd,vs,rel,dd⟩
def Pd(a:Addr)(o:Obj)(Z0:List<|Key×V)(D:Ends):Ends where
 nx:=fun σ H=>H a=some (.frz o<|.dK Z0)/\D.nx σ (upd H a<|.dK Z0)
 rt:=λv H=>H a=some (.frz o<|.dK Z0)/\D.rt v (upd H a<|.dK Z0)
 bk:=fun σ H=>H a=some (.frz o<|.dK Z0)/\D.bk σ (upd H a<|.dK Z0)
 ct:=fun σ H=>H a=some (.frz o<|.dK Z0)/\D.ct σ (upd H a<|.dK Z0)
def KS(t:TS):TS:=λD σ H=>∃a Z0,H a=some (.dK Z0)/\∀o,t (Pd a o Z0 D) σ (upd H a<|.frz o<|.dK Z0)
theorem Nh{st:Stmt}(h:PS X st t):PS X st (KS t):=by
 intro V0 s σ H D I i;obtain⟨a,Z0,e,q⟩:=i;obtain⟨o,g⟩:=I.Pc e;have nz:=I.Gf e;refine za6 (h V0 s σ _ _ g<|q o) (λf s1 z=>?_) λ_ _ z=>z
 cases f with
 |next=>obtain⟨b,H',c,d,z⟩:=z;exact⟨b,_,c.rP d nz,z⟩
 |brk=>obtain⟨b,H',c,d,z⟩:=z;exact⟨b,_,c.rP d nz,z⟩
 |cont=>obtain⟨b,H',c,d,z⟩:=z;exact⟨b,_,c.rP d nz,z⟩
 |ret u=>obtain⟨v,b,H',c,r,d,z⟩:=z;exact⟨v,b,_,c.rP d nz,r,z⟩
def KU(t:TE):TE:=fun σ H Q=>∃a Z0,H a=some (.dK Z0)/\∀o,t σ (upd H a<|.frz o<|.dK Z0) λv H'=>H' a=some (.frz o<|.dK Z0)/\Q v (upd H' a<|.dK Z0)
theorem Ni(h:PE X ex t):PE X ex (KU t):=by
 intro V0 s σ H Q I f;obtain⟨a,Z0,e,q⟩:=f;obtain⟨o,c⟩:=I.Pc e;have nz:=I.Gf e;refine za6 (h V0 s σ _ _ c<|q o) (λu s1 z=>?_) λ_ _ z=>z
 obtain⟨v,H',b,r,d,z⟩:=z;exact⟨v,_,b.rP d nz,r,z⟩
def ItD(a:Addr)(o:Obj)(Z0:List<|Key×V):It where
 go:=λi H=>H a=some (.frz o<|.dK Z0)/\i<Z0.length
 yld:=λi H x H'=>H'=H/\∃k v,Z0[i]?=some (k,v)/\x=kV k
 stop:=λi H=>H a=some (.frz o<|.dK Z0)/\Z0.length<=i
theorem Pe(r:KV Z0 vs)(i:Nat)(h:vs[i]?=some (k,x)):∃v,Z0[i]?=some (k,v):=by
 induction r generalizing i with
 |nil=>simp at h
 |cons b t c=>
  cases i with
  |zero=>
   rename_i p q l d
   have e:q=(k,x):=by simpa using h
   subst e;exact⟨p.2,by show some p=_;exact congrArg some (Prod.ext b.1 rfl)⟩
  |succ i=>simpa using c i (by simpa using h)
theorem DC{K:zag}{tg:Expr}{a it:Addr}{o:Obj}{Z0:List<|Key×V}{vs:List<|Key×Value}{U:Nat}{M:Heap}(rel:KV Z0 vs)(ho:M.get? a=some o)(O:M.DictAt (bX P w) a vs U) :
  Turn P w K tg (ItD a o Z0) [it] it (λi h=>h.IsKeyIter it a i vs.length U) where
 mem:=by simp
 obj:=λi h st b j=>by
  have e:b=it:=by simpa using j
  subst e;obtain⟨o,e,c,d⟩:=st;exact⟨o,e,λv z=>by rw[d]at z;cases z⟩
 keep:=λi h h' st k=>st.at λo e=>k it (by simp) o e
 item:=by
  walk_at "q8"
  obtain⟨y,hi⟩:=g;obtain⟨g,_⟩:=I.hok a _ y;have hd:s.heap.DictAt (bX X.prog X.w) a vs U:=O.at' λo' e=>by rw[ho]at e;cases e;exact g
  obtain⟨f0,f1,f2,r,t,u⟩:=f it (by simp)
  have hl:=rel.length;obtain⟨⟨k,x⟩,B⟩:∃p,vs[i]?=some p:=⟨vs[i]'(by lia),by simp⟩
  refine wpAny_pyNext_dict_item st hd B λkey h' m n sb=>?_
  have C:Inv X V0 σ H {s with heap:=h'}:=I.turned (t':=s.toks) (λb o j e=>(sb.2 b j).trans e) f0 f1 r t u
  obtain⟨N,e,c,d⟩:=id n;obtain⟨v,J⟩:=Pe rel i B;exact⟨key,rfl,xb (s:={s with heap:=h'}) e c d (by decide) ⟨kV k,H,C,KR m,⟨rfl,k,v,J,rfl⟩,n,λb j=>(f b j).1⟩⟩
 done:=by
  walk_at "q8"
  obtain⟨y,hi⟩:=g;obtain⟨g,_⟩:=I.hok a _ y;have hd:s.heap.DictAt (bX X.prog X.w) a vs U:=O.at' λo' e=>by rw[ho]at e;cases e;exact g
  obtain⟨f0,f1,f2,r,t,u⟩:=f it (by simp)
  have hl:=rel.length;exact wpAny_pyNext_dict_end (I.ok.hd l) st hd (by simp;lia) λh' D=>⟨rfl,I.turned (t':=s.toks) (λb o j e=>D b o j e) f0 f1 r t u⟩
 self:=λA i s Q E st q=>wpAny_pyIter_keyiter st q
def Nj(tl:TE):TI:=fun σ H R=>tl σ H λx D=>∃a o Z0,x=.ref a/\D a=some (.frz o<|.dK Z0)/\R (ItD a o Z0) D
theorem qK(hl:PE X l tl):PI X tg l (Nj tl):=by
 intro V0 s σ H R I h;refine thn (hl V0 s σ H _ I h) λv s1 ⟨x,f,d,r,p⟩=>?_
 obtain⟨a,o,Z0,e,g,q⟩:=p;subst e;cases r;obtain⟨ho,z,hd,vs,rel,dd⟩:=d.hok a _ g;obtain⟨t,c⟩:=dd.dictAt;refine wpAny_pyIter_dict hd c ?_;refine⟨s1.heap.objs.size,[s1.heap.objs.size],_,_,f,rfl,d.kept (t':=s1.toks) λb o e=>zar _ e,DC rel ho c,⟨_,zaL _ rfl,rfl,rfl⟩,λb m=>?_,q⟩
 have e:b=s1.heap.objs.size:=by simpa using m
 subst e;exact d.tj (zap _) (d.hok.fresh<|zap _)
end
end L2
namespace Mir
open L2
variable [Zc]
mutual
theorem Rep.map(M:∀p xs,Rd B p (.lst xs)->Rd B' p (.lst xs))(O:∀p xs,B p=some (.tup xs)->B' p=some (.tup xs))(I:∀p Z0,Rd B p (.dK Z0)->Rd B' p (.dK Z0)):∀{v:V} {d:D},Rep B v d->Rep B' v d
 |_,_,.non=>.non
 |_,_,.bl b=>.bl b
 |_,_,.int i=>.int i
 |_,_,.str x=>.str x
 |_,_,.lst h r=>.lst (M _ _ h) (a6.map M O I r)
 |_,_,.tup h r=>.tup (O _ _ h) (a6.map M O I r)
 |_,_,.dct h r=>.dct (I _ _ h) (bc.map' M O I r)
theorem a6.map(M:∀p xs,Rd B p (.lst xs)->Rd B' p (.lst xs))(O:∀p xs,B p=some (.tup xs)->B' p=some (.tup xs))(I:∀p Z0,Rd B p (.dK Z0)->Rd B' p (.dK Z0)):∀{vs:List V} {ds:List D},a6 B vs ds->a6 B' vs ds
 |_,_,.nil=>.nil
 |_,_,.cons h r=>.cons (Rep.map M O I h) (a6.map M O I r)
theorem bc.map'(M:∀p xs,Rd B p (.lst xs)->Rd B' p (.lst xs))(O:∀p xs,B p=some (.tup xs)->B' p=some (.tup xs))(I:∀p Z0,Rd B p (.dK Z0)->Rd B' p (.dK Z0)):∀{Z0:List<|Key×V} {es:List<|D×D},bc B Z0 es->bc B' Z0 es
 |_,_,.nil=>.nil
 |_,_,.cons hk h r=>.cons hk (Rep.map M O I h) (bc.map' M O I r)
end
section
variable{B:Hp}{a:Addr}{o:Obj}{Z0:List<|Key×V}
theorem rQ(I:B a=some (.dK Z0)):∀p xs,Rd B p (.lst xs)->Rd (upd B a<|.frz o<|.dK Z0) p (.lst xs):=λp xs h=>by
 by_cases z:p=a
 ·subst z
  rcases h with h|⟨o',h⟩<;>(rw[I]at h;cases h)
 walk_at "qb"
theorem rR(I:B a=some (.dK Z0)):∀p xs,B p=some (.tup xs)->upd B a (.frz o<|.dK Z0) p=some (.tup xs):=λp xs h=>by
 rw[au λz=>by rw[z,I]at h;cases h];exact h
theorem rT(M:B a=some (.dK Z0)):∀p I,Rd B p (.dK I)->Rd (upd B a<|.frz o<|.dK Z0) p (.dK I):=λp xs h=>by
 by_cases z:p=a
 ·subst z
  rcases h with h|⟨o',h⟩
  ·rw[M]at h;cases h
   exact .inr ⟨o,ay⟩
  ·rw[M]at h;cases h
 walk_at "qb"
theorem pG(I:B a=some (.frz o<|.dK Z0)):∀p xs,Rd B p (.lst xs)->Rd (upd B a<|.dK Z0) p (.lst xs):=λp xs h=>by
 by_cases z:p=a
 ·subst z
  rcases h with h|⟨o',h⟩<;>(rw[I]at h;cases h)
 walk_at "qb"
theorem pH(I:B a=some (.frz o<|.dK Z0)):∀p xs,B p=some (.tup xs)->upd B a (.dK Z0) p=some (.tup xs):=λp xs h=>by
 rw[au λz=>by rw[z,I]at h;cases h];exact h
theorem pI(M:B a=some (.frz o<|.dK Z0)):∀p I,Rd B p (.dK I)->Rd (upd B a<|.dK Z0) p (.dK I):=λp xs h=>by
 by_cases z:p=a
 ·subst z
  rcases h with h|⟨o',h⟩
  ·rw[M]at h;cases h
  ·rw[M]at h;cases h
   exact .inl ay
 walk_at "qb"
end
def pJ(ρ:Rho):Bool:=ρ.all λs=>match s with
 | .ro _=>false
 |_=>true
theorem BK(h:pJ ρ=true){i:Nat}(z : ρ[i]?=some (.ro d)):False:=by
 have:=(List.all_eq_true.mp h) _ (zaj z);cases this
def Fr.hide(F:Fr)(a:Addr)(u:HO):Fr:=⟨λq=>if q=a then(F.B a).map λ_=>u else F.B q,λq=>if q=a then(F.H a).map λ_=>u else F.H q,F.io,λq=>F.Z q\/q=a⟩
section
variable{F:Fr}{B H:Hp}{σ:St}{ρ:Rho}{a:Addr}{o:Obj}{Z0:List<|Key×V}
theorem Own.ne(I:B p=none)(M:B a=some u):p≠a:=λz=>by rw[z,M]at I;cases I
theorem Rel.hide(R:Rel F B H σ ρ)(I:B a=some (.dK Z0))(nr:pJ ρ=true):Rel (F.hide a<|.frz o<|.dK Z0) (upd B a<|.frz o<|.dK Z0) (upd H a<|.frz o<|.dK Z0) σ ρ:=by
 have own:∀{p:Addr} {d:D},B p=none->Own B H p d->Own (upd B a<|.frz o<|.dK Z0) (upd H a<|.frz o<|.dK Z0) p d:=fun{p d} f h=>by
  have z:=Own.ne f I;cases h with
  |lst h r=>exact .lst (by rw[au z];exact h) (a6.map (rQ I) (rR I) (rT I) r)
  |dct h r=>exact .dct (by rw[au z];exact h) (bc.map' (rQ I) (rR I) (rT I) r)
 refine⟨λq u h=>?_,λq u h=>?_,λq u h n=>?_,λq c b=>?_,R.len,λi s hs=>?_,R.dist,λi d p c b=>?_,R.fx,R.ioN,λq xs h=>?_,R.exv,λq o' u h=>?_⟩
 ·by_cases z:q=a
  ·subst z;rw[ay]at h⊢;exact h
  ·rw[au z]at h⊢;exact R.sub q u h
 ·by_cases z:q=a
  ·subst z
   have e:(∃x,F.B q=some x)/\HO.frz o (HO.dK Z0)=u:=by simpa[Fr.hide]using h
   rw[ay,e.2]
  ·rw[au z];exact R.sB q u (by simpa[Fr.hide,z]using h)
 ·by_cases z:q=a
  ·subst z
   have e:(∃x,F.H q=some x)/\HO.frz o (HO.dK Z0)=u:=by simpa[Fr.hide]using h
   rw[ay,e.2]
  ·rw[au z];exact R.sH q u (by simpa[Fr.hide,z]using h) n
 ·by_cases z:q=a
  ·subst z
   have g1:F.H q≠none:=λy=>c (by simp[Fr.hide,y])
   have g2:F.B q=none:=by simpa[Fr.hide]using b
   have:=R.nB q g1 g2;rw[I]at this;cases this
  ·rw[au z];exact R.nB q (by simpa[Fr.hide,z]using c) (by simpa[Fr.hide,z]using b)
 ·have:=R.slot i s hs
  cases s with
  |no=>trivial
  |ex=>trivial
  |fz d=>obtain⟨v,c,b⟩:=this;exact⟨v,c,Rep.map (rQ I) (rR I) (rT I) b⟩
  |own d=>obtain⟨p,c,b,h3⟩:=this;exact⟨p,c,by rw[au<|Own.ne b I];exact b,own b h3⟩
  |io d=>obtain⟨p,c,b,h3⟩:=this;exact⟨p,c,by rw[au<|Own.ne b I];exact b,own b h3⟩
  |ro d=>exact(BK nr hs).elim
 ·have h3:=R.mW i d p c b
  obtain⟨g,g1,g2,_⟩:=R.slot i _ c;rw[b]at g1;cases g1
  have z:=Own.ne g2 I;show(if p=a then _ else F.H p)=none
  rw[if_neg z];exact h3
 ·have z:q≠a:=λz=>by rw[z,ay]at h;cases h
  rw[au z]at h⊢;exact R.cL q xs h
 ·by_cases z:q=a
  ·exact .inr z
  ·rw[au z]at h;exact .inl (R.nz q o' u h)
theorem Rel.show(O:∃B0 H0 σ0 Y,Rel F B0 H0 σ0 Y/\B0 a=some (.dK Z0))(R:Rel (F.hide a<|.frz o<|.dK Z0) B H σ ρ)(M:B a=some (.frz o<|.dK Z0))(nr:pJ ρ=true):Rel F (upd B a<|.dK Z0) (upd H a<|.dK Z0) σ ρ:=by
 obtain⟨B0,H0,σ0,Y,O,J⟩:=O;have own:∀{p:Addr} {d:D},B p=none->Own B H p d->Own (upd B a<|.dK Z0) (upd H a<|.dK Z0) p d:=fun{p d} K h=>by
  have z:=Own.ne K M;cases h with
  |lst h r=>exact .lst (by rw[au z];exact h) (a6.map (pG M) (pH M) (pI M) r)
  |dct h r=>exact .dct (by rw[au z];exact h) (bc.map' (pG M) (pH M) (pI M) r)
 refine⟨λq u h=>?_,λq u h=>?_,λq u h n=>?_,λq G E=>?_,R.len,λi s hs=>?_,R.dist,λi d p G E=>?_,R.fx,R.ioN,λq xs h=>?_,R.exv,λq o' u h=>?_⟩
 ·by_cases z:q=a
  ·subst z;rw[ay]at h⊢;exact h
  ·rw[au z]at h⊢;exact R.sub q u h
 ·by_cases z:q=a
  ·subst z
   have:=O.sB q u h;rw[J]at this;rw[ay];exact this
  ·rw[au z];exact R.sB q u (by simpa[Fr.hide,z]using h)
 ·by_cases z:q=a
  ·subst z
   have:=O.sH q u h n;rw[O.sub q _ J]at this;rw[ay];exact this
  ·rw[au z];exact R.sH q u (by simpa[Fr.hide,z]using h) n
 ·by_cases z:q=a
  ·subst z
   have:=O.nB q G E;rw[J]at this;cases this
  ·rw[au z];exact R.nB q (by simpa[Fr.hide,z]using G) (by simpa[Fr.hide,z]using E)
 ·have:=R.slot i s hs
  cases s with
  |no=>trivial
  |ex=>trivial
  |fz d=>obtain⟨v,G,E⟩:=this;exact⟨v,G,Rep.map (pG M) (pH M) (pI M) E⟩
  |own d=>obtain⟨p,G,E,h3⟩:=this;exact⟨p,G,by rw[au<|Own.ne E M];exact E,own E h3⟩
  |io d=>obtain⟨p,G,E,h3⟩:=this;exact⟨p,G,by rw[au<|Own.ne E M];exact E,own E h3⟩
  |ro d=>exact(BK nr hs).elim
 ·have h3:=R.mW i d p G E
  obtain⟨L,g1,g2,_⟩:=R.slot i _ G;rw[E]at g1;cases g1
  have z:=Own.ne g2 M;have:(if p=a then(F.H a).map λ_=>HO.frz o (.dK Z0)else F.H p)=none:=h3
  rw[if_neg z]at this;exact this
 ·have z:q≠a:=λz=>by rw[z,ay]at h;cases h
  rw[au z]at h⊢;exact R.cL q xs h
 ·have z:q≠a:=λz=>by rw[z,ay]at h;cases h
  rw[au z]at h;rcases R.nz q o' u h with w|w
  ·exact w
  ·exact absurd w z
end
theorem vK(h:G a=some (.frz o<|.dK Z0))(r:bc B Z0 es):tD G B (ItD a o Z0) (es.map (·.1)):=λH s=>by
 have h':=s _ _ h;have hl:=r.length;refine⟨⟨h',by rw[zal];lia⟩,λi d hd=>?_⟩
 have hi:i<es.length:=by have:=(zac hd).1;rwa[zal]at this
 refine⟨⟨h',by lia⟩,λx H' f=>?_⟩
 obtain⟨rfl,k,v,hk,rfl⟩:=f;refine .inl ⟨rfl,?_⟩;have g:=rO r;obtain⟨w,b,c⟩:=g.get i d hd;have e:(Z0.map λq=>kV q.1)[i]?=some (kV k):=by rw[zao,hk];rfl
 rw[e]at b;cases b;exact c
theorem Gg{b:SM}(hg:MG tg g)(hb:MS tb b){F:Fr}{O H1:Hp}{σ:St}{U:Rho}{J:It}{ds:List D}{o:Out}{D:Ends}(R1:Rel F O H1 σ U)(I1:tD O O J ds)(e:forL g b ds U=some o)(q:lu F D o) :
  ∃W:Nat->Nat->St->Hp->Prop,(∃m,W 0 m σ H1)/\∀i m σ H,W i m σ H->(J.stop i H/\D.nx σ H)\/(J.go i H/\∃N:St->Hp->Prop,(∀I H',N I H'->∃m',m'<m/\W (i+1) m' I H')/\∀x H',J.yld i H x H'->tg x σ H' fun M Y=>tb {D with nx:=N,ct:=N,bk:=D.nx} M Y):=by
 have v:=q.down R1;refine⟨λi m σ H=>m=ds.length-i/\i<=ds.length/\∃B ρ,Rel ⟨O,F.H,F.io,F.Z⟩ B H σ ρ/\forL g b (ds.drop i) ρ=some o,⟨ds.length,rfl,Nat.zero_le _,O,U,R1.down,e⟩,?_⟩
 rintro i m M Y ⟨rfl,T,C,c,R2,h⟩
 have sH:aH O Y:=R2.sB.trans R2.sub
 by_cases a:i<ds.length
 ·refine .inr ?_
  obtain⟨go,yl⟩:=(I1 Y sH).2 i ds[i] (zaC a);rw[zbb a]at h;obtain⟨d,s,L⟩:=zaa (show(g ds[i] c).bind _=some o from h);obtain⟨w,P,j⟩:=zaa L;refine⟨go,fun I H'=>∃B' ρ',Rel ⟨O,F.H,F.io,F.Z⟩ B' H' I ρ'/\forL g b (ds.drop<|i+1) ρ'=some o,fun I H' h'=>⟨ds.length-(i+1),by lia,rfl,a,h'⟩,λy k V=>?_⟩
  have t:∃f,Rel ⟨O,F.H,F.io,F.Z⟩ f k M c/\Rep f y ds[i]:=by
   rcases yl y k V with⟨rfl,R⟩|⟨p,xs,cs,Q,rfl,h3,rfl,S⟩
   ·exact⟨C,R2,R.mono R2.sB⟩
   ·obtain⟨n,E3,s⟩:=R2.xo (xs:=xs) h3
    exact⟨_,n,by rw[Q];exact .tup ay (S.mono<|R2.sB.trans s)⟩
  obtain⟨f,n,X⟩:=t;refine hg _ f k M c y ds[i] d _ n X s λE G A K _=>?_
  refine hb _ E G A d w _ K P ?_;cases w with
  |nx ρ'=>exact λB' H' I l=>⟨B',ρ',l,j⟩
  |ct ρ'=>exact λB' H' I l=>⟨B',ρ',l,j⟩
  |bk ρ'=>cases j;exact v
  |rt r ρ'=>cases j;exact v
 ·have u:i=ds.length:=by lia
  subst u;rw[List.drop_length]at h;cases h;exact .inl ⟨(I1 Y sH).1,v C Y M R2⟩
def Nk:Out->Rho
 | .nx ρ=>ρ
 | .rt _ ρ=>ρ
 | .bk ρ=>ρ
 | .ct ρ=>ρ
def uC:RV->Option (List<|D×D)
 |(.dict es,.fz)=>some es
 |_=>none
theorem yg(h:uC r=some es):r=(.dict es,.fz):=by
 unfold uC at h;split at h
 ·cases h;rfl
 ·cases h
def BL(dv:PM)(g:D->Rho->Option Rho)(b:SM):SM:=fun ρ=>(dv ρ).bind λx=>(uC x.1).bind λes=>if pJ ρ=true then(forL g b (es.map (·.1)) x.2).bind λo=>if pJ (Nk o)=true then some o else none else none
def Calm(tl:TE)(dv:PM):Prop:=∀(F:Fr) (B H:Hp) (σ:St) (ρ:Rho) (r:RV) (ρ':Rho),Rel F B H σ ρ->dv ρ=some (r,ρ')->ρ'=ρ/\∃v,Rep B v r.1/\(∀Q:VK,Q v H->tl σ H Q)/\∀a o Z0,B a=some (.dK Z0)->∀Q:VK,Q v (upd H a<|.frz o<|.dK Z0)->tl σ (upd H a<|.frz o<|.dK Z0) Q
def lB(i:Nat):PM:=fun ρ=>match ρ[i]? with
 |some (.fz d)=>some ((d,.fz),ρ)
 |_=>none
theorem nV:Calm (w6 i) (lB i):=by
 intro F B H σ ρ r ρ' R e;unfold lB at e;split at e
 ·rename_i d h
  cases e;obtain⟨v,b,c⟩:=R.slot i _ h;exact⟨rfl,v,c,λQ q=>⟨v,b,q⟩,λa o Z0 _ Q q=>⟨v,b,q⟩⟩
 ·cases e
def DD(dv:PM)(j:Nat):PM:=fun ρ=>(dv ρ).bind λx=>match x.1.1 with
 | .tuple ds=>(ds[j]?).map λd=>((d,.fz),x.2)
 |_=>none
theorem BN{j:Nat}(h:Calm tl dv):Calm (tOp (rIx K) tl<|tC<|.int (j:Int)) (DD dv j):=by
 intro F B H σ ρ r ρ' R e;obtain⟨x,g,e⟩:=zaa e;obtain⟨⟨c,k⟩,y⟩:=x;cases c with
 |tuple ds=>
  obtain⟨d,l,e⟩:=zab (show(ds[j]?).map _=some (r,ρ')from e);cases e;obtain⟨rfl,v,u,m,s⟩:=h F B H σ ρ _ _ R g;refine⟨rfl,?_⟩;cases u with
  | @tup p xs _ f t=>
   obtain⟨w,g1,g2⟩:=t.get j d l;have b:atI xs (j:Int)=some w:=by
    have hl:j<xs.length:=(zac g1).1;unfold atI;have:ixN xs.length (j:Int)=some j:=qG hl;rw[this];exact g1
   refine⟨w,g2,λQ q=>m _<|.inr<|.inl ⟨p,xs,(j:Int),w,rfl,rfl,.inl<|.inl<|R.sub _ _ f,b,q⟩,λa o Z0 ha Q q=>s a o Z0 ha _<|.inr<|.inl ⟨p,xs,(j:Int),w,rfl,rfl,.inl<|.inl ?_,b,q⟩⟩
   rw[au λz=>by rw[z,ha]at f;cases f]
   exact R.sub _ _ f
 |_=>cases e
theorem Own.show(M:B a=some (.frz o<|.dK Z0))(z:p≠a)(h:Own B H p d):Own (upd B a<|.dK Z0) (upd H a<|.dK Z0) p d:=by
 cases h with
 |lst h r=>exact .lst (by rw[au z];exact h) (a6.map (pG M) (pH M) (pI M) r)
 |dct h r=>exact .dct (by rw[au z];exact h) (bc.map' (pG M) (pH M) (pI M) r)
theorem yh(I:B a=some (.frz o<|.dK Z0))(M:H a=some (.frz o<|.dK Z0))(V:Val (F.hide a<|.frz o<|.dK Z0) B H σ ρ v r):Val F (upd B a<|.dK Z0) (upd H a<|.dK Z0) σ ρ v r:=by
 obtain⟨c,k⟩:=r;cases k with
 |fz=>exact Rep.map (pG I) (pH I) (pI I) V
 |new=>
  obtain⟨p,rfl,b,d,h3,h4⟩:=V;have z:=Own.ne b I;refine⟨p,rfl,by rw[au z];exact b,?_,Own.show I z h3,h4⟩
  have:(if p=a then(F.H a).map λ_=>HO.frz o (.dK Z0)else F.H p)=none:=d
  rw[if_neg z]at this;exact this
 | «at» i=>exact V
 |ro=>
  obtain⟨p,rfl,b,d⟩:=V;have z:p≠a:=λz=>by
   subst z;cases b with
   |lst h _=>rw[M]at h;cases h
   |dct h _=>rw[M]at h;cases h
  exact⟨p,rfl,Own.show I z b,d⟩
theorem Gh{U:Rho}{a:Addr}{ob:Obj}{Z0:List<|Key×V}(I:Rel F M H0 Y U)(O:M a=some (.dK Z0)){o:Out}{D:Ends}(nr:pJ (Nk o)=true)(q:lu F D o):lu ⟨upd M a<|.frz ob<|.dK Z0,(F.hide a<|.frz ob<|.dK Z0).H,F.io,(F.hide a<|.frz ob<|.dK Z0).Z⟩ (Pd a ob Z0 D) o:=by
 have up:∀{B H σ ρ},Rel ⟨upd M a<|.frz ob<|.dK Z0,(F.hide a<|.frz ob<|.dK Z0).H,F.io,(F.hide a<|.frz ob<|.dK Z0).Z⟩ B H σ ρ->Rel (F.hide a<|.frz ob<|.dK Z0) B H σ ρ/\B a=some (.frz ob<|.dK Z0):=fun{B H σ ρ} R=>by
  refine⟨⟨R.sub,λq u h=>R.sB q u ?_,R.sH,λq h z=>R.nB q h ?_,R.len,R.slot,R.dist,R.mW,R.fx,R.ioN,R.cL,R.exv,R.nz⟩,R.sB a _ ay⟩
  ·show upd M a _ q=some u
   by_cases w:q=a
   ·subst w
    have e:(∃x,F.B q=some x)/\HO.frz ob (HO.dK Z0)=u:=by simpa[Fr.hide]using h
    rw[ay,e.2]
   ·rw[au w];exact I.sB q u (by simpa[Fr.hide,w]using h)
  ·show upd M a _ q=none
   by_cases w:q=a
   ·subst w
    have g1:F.H q≠none:=λy=>h (by simp[Fr.hide,y])
    have g2:F.B q=none:=by simpa[Fr.hide]using z
    have:=I.nB q g1 g2;rw[O]at this;cases this
   ·rw[au w];exact I.nB q (by simpa[Fr.hide,w]using h) (by simpa[Fr.hide,w]using z)
 cases o with
 |nx ρ=>exact λB H σ R=>⟨R.sub a _ (up R).2,q _ _ _<|Rel.show ⟨_,_,_,_,I,O⟩ (up R).1 (up R).2 nr⟩
 |bk ρ=>exact λB H σ R=>⟨R.sub a _ (up R).2,q _ _ _<|Rel.show ⟨_,_,_,_,I,O⟩ (up R).1 (up R).2 nr⟩
 |ct ρ=>exact λB H σ R=>⟨R.sub a _ (up R).2,q _ _ _<|Rel.show ⟨_,_,_,_,I,O⟩ (up R).1 (up R).2 nr⟩
 |rt r ρ=>exact λv B H σ R V=>⟨R.sub a _ (up R).2,q _ _ _ _ (Rel.show ⟨_,_,_,_,I,O⟩ (up R).1 (up R).2 nr)<|yh (up R).2 (R.sub a _ (up R).2) V⟩
def Gi(t:TS):TS:=λD σ H=>KS t D σ H\/t D σ H
theorem _root_.L2.BO{X:Cx}{st:Stmt}{t:TS}(h:PS X st t):PS X st (Gi t):=by
 intro V0 s σ H D I a;rcases a with a|a
 ·exact Nh h V0 s σ H D I a
 ·exact h V0 s σ H D I a
theorem Jw(O:Calm tl dv)(M:MG tg g)(I:MS U b):MS (Gi<|HR (Nj tl) tg U) (BL dv g b):=by
 walk_at "q6"
 obtain⟨es,p,e⟩:=zaa e;split at e
 rotate_left
 ·cases e
 rename_i nr
 obtain⟨o',h,e⟩:=zaa e;split at e
 rotate_left
 ·cases e
 rename_i c
 cases e;obtain⟨r,d⟩:=x;obtain⟨rfl,v,u,s,t⟩:=O F B H σ ρ r d R f;obtain rfl:=yg p;cases u with
 | @dct a Z0 _ hd l=>
  rcases hd with hd|⟨ob,hd⟩
  ·refine .inl ⟨a,Z0,R.sub a _ hd,λob=>?_⟩
   have m:=R.hide (o:=ob) hd nr;refine t a ob Z0 hd _ ⟨a,ob,Z0,rfl,ay,?_⟩;exact Gg M I m.down (vK ay<|bc.map' (rQ hd) (rR hd) (rT hd) l) h (Gh R hd c q)
  ·exact .inr (s _ ⟨a,ob,Z0,rfl,R.sub a _ hd,Gg M I R (vK hd l) h q⟩)
end Mir
namespace Mir
open L2
variable [Zc]
def tL(fr:List<|Str×Nat)(dv:PM)(c:Rho->Option (Bool×Rho))(e:PM):PM:=fun ρ=>(dv ρ).bind λx=>(uC x.1).bind λes=>if pJ ρ=true then(gY c e (fr.map λp=>bQ ρ p.2) (es.map (·.1))).bind λout=>cIf (out.length<sizeLine) (some ((.list out,.new),ρ)) none else none
def Gj(t:TE):TE:=fun σ H Q=>KU t σ H Q\/t σ H Q
theorem _root_.L2.BP{X:Cx}{ex:Expr}{t:TE}(h:PE X ex t):PE X ex (Gj t):=by
 intro V0 s σ H Q I a;rcases a with a|a
 ·exact Ni h V0 s σ H Q I a
 ·exact h V0 s σ H Q I a
theorem z9(hd:Calm tl dv)(I:MT tc c)(M:ME O e):ME (Gj<|tLC fr (Nj tl) tc O) (tL fr dv c e):=by
 intro F B H σ ρ T ρ' Q R d q;obtain⟨x,E,d⟩:=zaa d;obtain⟨es,G,d⟩:=zaa d;split at d
 rotate_left
 ·cases d
 rename_i nr
 obtain⟨out,m,d⟩:=zaa d;obtain⟨s,d⟩:=cO d;cases d;obtain⟨r,l⟩:=x;obtain⟨_,v,P,J,L⟩:=hd F B H σ ρ r l R E;obtain rfl:=yg G;cases P with
 | @dct a Z0 _ b t=>
  rcases b with b|⟨ob,b⟩
  ·refine .inl ⟨a,Z0,R.sub a _ b,λob=>?_⟩
   have C:=R.hide (o:=ob) b nr;refine L a ob Z0 b _ ⟨a,ob,Z0,rfl,ay,?_⟩;refine Be (Q:=λv H'=>H' a=some (.frz ob<|.dK Z0)/\Q v (upd H' a<|.dK Z0)) I M C (vK ay<|bc.map' (rQ b) (rR b) (rT b) t) m s λw B' H' g RR D A=>?_
   have f:B' a=some (.frz ob<|.dK Z0):=g.sB a _ ay;have i:=RR.sub a _ f;refine⟨i,q w _ _ ?_ (Rel.show ⟨_,_,_,_,R,b⟩ RR f nr) (yh f i D) λp V S=>?_⟩
   ·refine⟨λp u h=>?_,λp u h n=>?_,g.own,g.ref,λp h=>?_⟩
    ·by_cases z:p=a
     ·subst z;rw[ay,<-b];exact h
     ·rw[au z];exact g.sB p u (by rw[au z];exact h)
    ·by_cases z:p=a
     ·subst z
      rw[R.sub p _ b]at h;exact⟨by rw[ay];exact h,λy=>by rw[b]at y;cases y⟩
     ·obtain⟨k1,N⟩:=g.keep p u (by rw[au z];exact h) n
      exact⟨by rw[au z];exact k1,λy=>by rw[au z];exact N (by rw[au z];exact y)⟩
    ·have z:p≠a:=λz=>by rw[z,ay]at h;cases h
     rw[au z]at h;have:=g.live p h;rw[au z]at this;exact this
   ·have:=A p rfl S
    have z:p≠a:=λz=>by rw[z,ay]at this;cases this
    rw[au z]at this;exact this
  ·exact .inr (J _ ⟨a,ob,Z0,rfl,R.sub a _ b,Be I M R (vK (R.sub a _ b) t) m s q⟩)
end Mir
namespace L2
open PySem.Spec PyProof.Rows
section
variable{X:Cx}{K:zag}
def KW(K:zag):List V->Hp->VK->Prop:=λxs H Q=>∃p D,xs=[V.ref p]/\((SqL K H p D/\∀l,H l=none->Q (.ref l) (upd H l<|.tup D))\/(SqT K H p D/\Q (.ref p) H))
def yi(h:X.K=K):dJ X (.type "tuple") (KW K):=h▸tq
end
end L2
namespace Mir
open L2
variable [Zc]
def mO:List D->Option (List Str)
 | []=>some []
 | .str z::r=>(mO r).map (z::·)
 |_=>none
theorem yj:∀{xs:List V} {ds:List D} {zs:List Str},a6 B xs ds->mO ds=some zs->xs=zs.map V.str
 |_,_,_,.nil,h=>by cases h;rfl
 |_,_,zs,.cons (d:=d) c r,h=>by
  cases d with
  |str z=>
   obtain⟨e,a,b⟩:=zab (show(mO _).map (z::·)=some zs from h)
   subst b;cases c;rw[zaz,yj r a]
  |_=>cases h
def Aa:List D->Option (D×Bool)
 | [.list ds]=>some (.tuple ds,true)
 | [.tuple ds]=>some (.tuple ds,false)
 |_=>none
theorem Jx:kT (KW K) Aa:=by
 intro B H vs ds g s h e;unfold Aa at e;split at e
 ·cases e
  walk_at "qd"
  exact⟨xs,a,λQ q=>⟨p,xs,rfl,.inl ⟨i8 d,q⟩⟩⟩
 ·cases e
  obtain⟨v,rfl,b⟩:=iH h;rcases b with b|⟨p,rfl,b⟩
  ·cases b with
   | @tup p xs _ c f=>exact⟨.ref p,.tup c f,λQ q=>⟨p,xs,rfl,.inr ⟨.inl<|.inl<|s _ _ c,q⟩⟩⟩
  ·cases b
 ·cases e
def vL:D->D->Option (D×Bool)
 | .str z,.int i=>cIf (z.length<=sizeLine) ((atI z.cps.toList i).map λc=>(.str ⟨#[c]⟩,false)) none
 |c,d=>gIx c d
theorem KY:OpJ (rIx K) vL:=by
 intro B H x y c d f s a b e;unfold vL at e;split at e
 ·obtain⟨i,e⟩:=cO e
  obtain⟨w,g,h⟩:=zab e;cases h;rcases a with a|⟨p,_,a⟩
  ·cases a
   rcases b with b|⟨p,_,b⟩
   ·cases b
    exact⟨.str ⟨#[w]⟩,.str _,λQ q=>.inr<|.inr ⟨_,_,w,rfl,rfl,i,g,q⟩⟩
   ·cases b
  ·cases a
 ·exact IJ B H x y _ _ f s a b e
end Mir
namespace L2
open PySem.Spec PyProof.Rows
end L2
namespace Mir
open L2
variable [Zc]
end Mir
set_option maxHeartbeats 1000000
namespace L2
open PySem.Spec PyProof.Rows
def aR(a:Int)(x:Str)(c:Int)(y:Str):Bool:=if a=c then(if x=y then false else decide (x.cps.toList<y.cps.toList))else decide (a<c)
def Gk(A:Around)(s:Shared)(x:Str)(t:Tok)(y:Str)(u:Tok)(prog:Program)(w:World)(E:Value->Shared->Prop)(Q:Value->Shared->Prop)(h:Q (.bool<|decide<|x.cps.toList<y.cps.toList) s) :
  wpAny (model prog w) A (richCompare .Lt (.str x t)<|.str y u) Q E s :=
 (PyProof.Rows.lt_str h:wpAny (model prog w) A (compareOp .Lt (.str x t)<|.str y u) Q E s)
section
open PySem.SeqAt
open PySem.AutoSeq1 (wpAny_loadPart')
open PySem.MeetsSeq PySem.MeetsSeq2 PySem.MeetsSeq3
theorem yk(l b:Addr)(n n2:Nat)(dd O:Option Addr)(sl U:Array<|Option Value)(a c:Int)(x y:Str)(t M u I:Tok) :
  Meets (Builtin.«tuple.__lt__» ⟨[.ref l,.ref b],[]⟩)
   (λ_ R s=>s.heap.get? l=some {cls:=.type "tuple",dict:=dd,data:=.seq #[.int a t,.str x u] n,slots:=sl}/\s.heap.get? b=some {cls:=.type "tuple",dict:=O,data:=.seq #[.int c M,.str y I] n2,slots:=U}/\
    R (.ok<|.ret<|.bool<|aR a x c y) s) :=
 .of_wp λprog w A R s h=>by
  have rI:=@HT.EJ;have D:=@Gk;obtain⟨r,g,d,tk,os⟩:=s;obtain⟨hl,C,h⟩:=h;have f2:=AutoSeq1.sub_tuple_tuple;unfold aR at h
  wp_walk using wpAny_loadPart' hl,wpAny_loadPart' C,wpAny_forIn_list _ (λT1 b s'=>b.1=none/\s'=⟨r,g,d,tk,os⟩/\
   ((T1=[(.int a t,.int c M),(.str x u,.str y I)])\/(T1=[(.str x u,.str y I)]/\a=c)\/(T1=[]/\a=c/\x=y))) _
  case turn=>
   rintro⟨p,q⟩ T1 b s' ⟨i,rfl,f⟩
   rcases f with f|⟨f,o⟩|⟨f,_,_⟩
   ·cases f
    refine zaI ((EqAt.int_int a t c M) prog w _ _ ?_);cases k:(a==c)with
    |true=>
     have e:a=c:=by simpa using k
     wp_walk
     exact⟨rfl,rfl,.inr<|.inl ⟨rfl,e⟩⟩
    |false=>
     have e:a≠c:=by simpa using k
     have j:=rI A.in1 ⟨r,g,d,tk,os⟩ a t c M prog w
     first|rw[if_neg e]at h|rw[if_neg (Ne.symm e)]at h
     wp_walk using j
     exact⟨_,rfl,by simpa using h⟩
   ·cases f
    refine zaI ((EqAt.str_str x u y I) prog w _ _ ?_);cases m:(x==y)with
    |true=>
     have e:x=y:=by simpa using m
     wp_walk
     exact⟨rfl,rfl,.inr<|.inr ⟨rfl,o,e⟩⟩
    |false=>
     have e:x≠y:=by simpa using m
     have j:=D A.in1 ⟨r,g,d,tk,os⟩ x u y I prog w
     first|rw[if_pos o,if_neg e]at h|rw[if_pos o.symm,if_neg (Ne.symm e)]at h
     wp_walk using j
     exact⟨_,rfl,by simpa using h⟩
   ·cases f
  case fin=>
   rintro⟨b1,b2⟩ s' ⟨i,rfl,f⟩
   simp only at i;subst i;rcases f with f|⟨f,_⟩|⟨_,v,B⟩
   ·cases f
   ·cases f
   ·rw[v,B,if_pos rfl,if_pos rfl]at h
    wp_walk
    exact⟨_,rfl,by simpa[Builtin.Tuple.tupleCompareSizes]using h⟩
  case h=>exact⟨rfl,rfl,.inl rfl⟩
end
section
variable{prog:Program}{w:World}{A:Around}{E:Value->Shared->Prop}{s:Shared}
theorem ym(hl:IsTup s.heap l #[.int a t,.str x u])(I:IsTup s.heap b #[.int c O,.str y U])(M:A.units<cLine)(h:Q (.bool<|aR a x c y) s) :
  wpAny (model prog w) A (compareOp .Lt (.ref l)<|.ref b) Q E s:=by
 obtain⟨⟨cls,dd,data,sl⟩,ho,k,n,hd⟩:=id hl;obtain⟨⟨j,g,data2,i⟩,f,d,n2,e⟩:=id I;simp only at k hd d e;subst k hd d e;exact richCompare_meets_room (op:=.Lt) ⟨_,ho,rfl⟩ ⟨_,f,rfl⟩ PySem.F.slot_tuple_lt PySem.F.entry_tuple_lt (PySem.F.args_tuple_lt_2 _ _) (yk l b n n2 dd g sl i a c x y t O u U)
  ⟨ho,f,show Value.bool (aR a x c y)≠Value.notImplemented/\Q (.bool<|aR a x c y) s from⟨(λx=>nomatch x),h⟩⟩ M
end
section
variable{X:Cx}{K:zag}
def Gm(K:zag):R2:=λx y H Q=>∃a b i z j v,x=.ref a/\y=.ref b/\SqT K H a [.int i,.str z]/\SqT K H b [.int j,.str v]/\Q (.bl<|aR i z j v) H
theorem Nl(h:X.K=K)(M:X.A.units<cLine):OpR X (compareOp .Lt) (Gm K):=by
 subst h;intro V0 s σ H x y v u Q I o p h;obtain⟨a,b,i,z,j,w,rfl,rfl,ha,l,q⟩:=h;cases o;cases p;obtain⟨r,c,m,_⟩:=I.tuple ha;obtain⟨e,d,p2,_⟩:=I.tuple l;cases c with
 |cons f c=>
  cases c with
  |cons g c=>
   cases c;cases d with
   |cons f1 d=>
    cases d with
    |cons f2 d=>
     cases d;obtain⟨t,rfl⟩:=f;obtain⟨B,rfl⟩:=g;obtain⟨C,rfl⟩:=f1;obtain⟨D,rfl⟩:=f2;exact ym m p2 M ⟨.bl _,H,I,rfl,q⟩
end
end L2
namespace Mir
open L2
variable [Zc]
def Gn:D->D->Option (D×Bool)
 | .tuple [.int i,.str z],.tuple [.int j,.str w]=>some (.bool<|aR i z j w,false)
 |_,_=>none
theorem Pf:OpJ (Gm K) Gn:=by
 intro B H x y c d o s j l e;unfold Gn at e;split at e
 ·cases e
  obtain⟨p,xs,rfl,h,a⟩:=j.tuple s;obtain⟨q,r,rfl,i,b⟩:=l.tuple s;cases a with
  |cons f a=>
   cases a with
   |cons g a=>
    cases a;cases b with
    |cons b1 b=>
     cases b with
     |cons b2 b=>
      cases b;cases f;cases g;cases b1;cases b2
      exact⟨.bl _,.bl _,λQ m=>⟨p,q,_,_,_,_,rfl,rfl,.inl<|.inl h,.inl<|.inl i,m⟩⟩
 ·cases e
end Mir
set_option maxHeartbeats 1000000
namespace L2
open PySem.Spec PyProof.Rows
def Gq(A:Around)(s:Shared)(a:Int)(t:Tok)(c:Int)(u:Tok)(prog:Program)(w:World)(E:Value->Shared->Prop)(Q:Value->Shared->Prop)(h:Q (.bool<|decide<|c<a) s) :
  wpAny (model prog w) A (richCompare .Gt (.int a t)<|.int c u) Q E s :=
 (PyProof.Rows.gt_int h:wpAny (model prog w) A (compareOp .Gt (.int a t)<|.int c u) Q E s)
def Gr(A:Around)(s:Shared)(x:Str)(t:Tok)(y:Str)(u:Tok)(prog:Program)(w:World)(E:Value->Shared->Prop)(Q:Value->Shared->Prop)(h:Q (.bool<|decide<|y.cps.toList<x.cps.toList) s) :
  wpAny (model prog w) A (richCompare .Gt (.str x t)<|.str y u) Q E s :=
 (PySem.P.gt_str h:wpAny (model prog w) A (compareOp .Gt (.str x t)<|.str y u) Q E s)
section
open PySem.SeqAt
open PySem.AutoSeq1 (wpAny_loadPart')
open PySem.MeetsSeq PySem.MeetsSeq2 PySem.MeetsSeq3
theorem yn(l b:Addr)(n n2:Nat)(dd O:Option Addr)(sl U:Array<|Option Value)(a c:Int)(x y:Str)(t M u I:Tok) :
  Meets (Builtin.«tuple.__gt__» ⟨[.ref l,.ref b],[]⟩)
   (λ_ R s=>s.heap.get? l=some {cls:=.type "tuple",dict:=dd,data:=.seq #[.int a t,.str x u] n,slots:=sl}/\s.heap.get? b=some {cls:=.type "tuple",dict:=O,data:=.seq #[.int c M,.str y I] n2,slots:=U}/\
    R (.ok<|.ret<|.bool<|aR c y a x) s) :=
 .of_wp λprog w A R s h=>by
  have rI:=@Gq;have D:=@Gr;obtain⟨r,g,d,tk,os⟩:=s;obtain⟨hl,C,h⟩:=h;have f2:=AutoSeq1.sub_tuple_tuple;unfold aR at h
  wp_walk using wpAny_loadPart' hl,wpAny_loadPart' C,wpAny_forIn_list _ (λT1 b s'=>b.1=none/\s'=⟨r,g,d,tk,os⟩/\
   ((T1=[(.int a t,.int c M),(.str x u,.str y I)])\/(T1=[(.str x u,.str y I)]/\a=c)\/(T1=[]/\a=c/\x=y))) _
  case turn=>
   rintro⟨p,q⟩ T1 b s' ⟨i,rfl,f⟩
   rcases f with f|⟨f,o⟩|⟨f,_,_⟩
   ·cases f
    refine zaI ((EqAt.int_int a t c M) prog w _ _ ?_);cases k:(a==c)with
    |true=>
     have e:a=c:=by simpa using k
     wp_walk
     exact⟨rfl,rfl,.inr<|.inl ⟨rfl,e⟩⟩
    |false=>
     have e:a≠c:=by simpa using k
     have j:=rI A.in1 ⟨r,g,d,tk,os⟩ a t c M prog w
     first|rw[if_neg e]at h|rw[if_neg (Ne.symm e)]at h
     wp_walk using j
     exact⟨_,rfl,by simpa using h⟩
   ·cases f
    refine zaI ((EqAt.str_str x u y I) prog w _ _ ?_);cases m:(x==y)with
    |true=>
     have e:x=y:=by simpa using m
     wp_walk
     exact⟨rfl,rfl,.inr<|.inr ⟨rfl,o,e⟩⟩
    |false=>
     have e:x≠y:=by simpa using m
     have j:=D A.in1 ⟨r,g,d,tk,os⟩ x u y I prog w
     first|rw[if_pos o,if_neg e]at h|rw[if_pos o.symm,if_neg (Ne.symm e)]at h
     wp_walk using j
     exact⟨_,rfl,by simpa using h⟩
   ·cases f
  case fin=>
   rintro⟨b1,b2⟩ s' ⟨i,rfl,f⟩
   simp only at i;subst i;rcases f with f|⟨f,_⟩|⟨_,v,B⟩
   ·cases f
   ·cases f
   ·rw[v,B,if_pos rfl,if_pos rfl]at h
    wp_walk
    exact⟨_,rfl,by simpa[Builtin.Tuple.tupleCompareSizes]using h⟩
  case h=>exact⟨rfl,rfl,.inl rfl⟩
end
section
variable{prog:Program}{w:World}{A:Around}{E:Value->Shared->Prop}{s:Shared}
theorem Gs(hl:IsTup s.heap l #[.int a t,.str x u])(I:IsTup s.heap b #[.int c O,.str y U])(M:A.units<cLine)(h:Q (.bool<|aR c y a x) s) :
  wpAny (model prog w) A (compareOp .Gt (.ref l)<|.ref b) Q E s:=by
 obtain⟨⟨cls,dd,data,sl⟩,ho,k,n,hd⟩:=id hl;obtain⟨⟨j,g,data2,i⟩,f,d,n2,e⟩:=id I;simp only at k hd d e;subst k hd d e;exact richCompare_meets_room (op:=.Gt) ⟨_,ho,rfl⟩ ⟨_,f,rfl⟩ PySem.F.slot_tuple_gt PySem.F.entry_tuple_gt (PySem.F.args_tuple_gt_2 _ _) (yn l b n n2 dd g sl i a c x y t O u U)
  ⟨ho,f,show Value.bool (aR c y a x)≠Value.notImplemented/\Q (.bool<|aR c y a x) s from⟨(λx=>nomatch x),h⟩⟩ M
end
section
variable{X:Cx}{K:zag}
def Pg(K:zag):R2:=λx y H Q=>∃a b i z j v,x=.ref a/\y=.ref b/\SqT K H a [.int i,.str z]/\SqT K H b [.int j,.str v]/\Q (.bl<|aR j v i z) H
theorem Nm(h:X.K=K)(M:X.A.units<cLine):OpR X (compareOp .Gt) (Pg K):=by
 subst h;intro V0 s σ H x y v u Q I o p h;obtain⟨a,b,i,z,j,w,rfl,rfl,ha,l,q⟩:=h;cases o;cases p;obtain⟨r,c,m,_⟩:=I.tuple ha;obtain⟨e,d,p2,_⟩:=I.tuple l;cases c with
 |cons f c=>
  cases c with
  |cons g c=>
   cases c;cases d with
   |cons f1 d=>
    cases d with
    |cons f2 d=>
     cases d;obtain⟨t,rfl⟩:=f;obtain⟨B,rfl⟩:=g;obtain⟨C,rfl⟩:=f1;obtain⟨D,rfl⟩:=f2;exact Gs m p2 M ⟨.bl _,H,I,rfl,q⟩
end
end L2
namespace Mir
open L2
variable [Zc]
def Jy:D->D->Option (D×Bool)
 | .tuple [.int i,.str z],.tuple [.int j,.str w]=>some (.bool<|aR j w i z,false)
 |_,_=>none
theorem Ph:OpJ (Pg K) Jy:=by
 intro B H x y c d o s j l e;unfold Jy at e;split at e
 ·cases e
  obtain⟨p,xs,rfl,h,a⟩:=j.tuple s;obtain⟨q,r,rfl,i,b⟩:=l.tuple s;cases a with
  |cons f a=>
   cases a with
   |cons g a=>
    cases a;cases b with
    |cons b1 b=>
     cases b with
     |cons b2 b=>
      cases b;cases f;cases g;cases b1;cases b2
      exact⟨.bl _,.bl _,λQ m=>⟨p,q,_,_,_,_,rfl,rfl,.inl<|.inl h,.inl<|.inl i,m⟩⟩
 ·cases e
end Mir
namespace L2
open PySem.Spec PyProof.Rows
section
variable{X:Cx}
def BQ:V->List V->Hp->VK->Prop:=λx xs H Q=>∃a Z0,x=.ref a/\xs=[]/\H a=some (.dK Z0)/\Q .non (upd H a<|.dK [])
theorem DE:MtR X "dict.clear" BQ:=by
 intro V0 s σ H x xs v us Q I i g h;obtain⟨a,Z0,rfl,rfl,e,c⟩:=h;cases i;cases g;obtain⟨z,hd,vs,rel,dd⟩:=yb I.hok e;refine call_meetsIn PySem.F.slot_dict_clear dd.typeIs PySem.F.entry_dict_clear (PySem.F.args_dict_clear_1 _) (meets_dict_clear (bX X.prog X.w) a) ⟨vs,dd,by rw[<-rel.length];exact z,λh' b hs=>?_⟩
 have d:∃q,h'.get? a=some q:=let⟨q,_,_,f,_⟩:=b;⟨q,f⟩
 exact⟨.non,_,nS I (by rw[e];exact True.intro) hs d<|rN (Nat.zero_le _) hd .nil b,rfl,c⟩
end
end L2
namespace Mir
open L2
section
variable [Zc] [Zl]{W:WX}
def BR(a:EN):EN:=bN a λx s=>match x with
 | .lc k=>match s.S[k]? with
  |some (some (.dat (.dict _)))=>some (.ok (.pl .none) ⟨s.S.set k<|some<|.dat<|.dict [],s.t⟩)
  |_=>none
 |_=>none
theorem Jz(ha:NE W I a):NE W (Me K "dict" BQ I) (BR a):=by
 walk_at "qc"
 ·rename_i k
  split at b
  ·rename_i es hk
   cases b;cases l with
   |lc d=>
    cases f.st.cell k _ _ hk d with
    |dat h=>
     obtain⟨Z0,g,i⟩:=h.dict;refine⟨.inr<|.inr<|.inl ⟨rfl,.inl ⟨Z0,g⟩⟩,_,Z0,rfl,rfl,g,?_⟩;exact w .non F L _ (Gro.refl _) (aH.refl _) (f.write (o:=.dK []) (c:=.dat<|.dict []) d trivial<|.dat<|.dct ay .nil) (.pl .non)
  ·cases b
 ·cases b
theorem vM{m:MN α}{k : α->SN}{G:FrN}{A:List Addr}{B H:Hp}{σ:St}{s:SS}{o:gy}{D:Ends}{C : M->Hp->Prop}(h:NM W I t m)(R:a7 G A B H σ s)(e:bS m k s=some o)(q:NOk G W D o)
  (c:∀x v A' B' H' s',Gro A A'->aH B B'->a7 G A' B' H' σ s'->I A' B' x v->k v s'=some o->C x H'):t σ H C:=by
 unfold bS at e;split at e
 ·rename_i v s' b
  exact h G A B H σ s _ C R b λx A' B' H' g eB a V=>c x v A' B' H' s' g eB a V e
 ·rename_i y s' b
  cases e;exact h G A B H σ s _ C R b λA' B' H' a=>q A' B' H' σ a
 ·cases e
def Gu(x y k:SV)(s:SS):Option gy:=match x,y,k with
 | .lc j,.pl G,.pl D=>(keyOf D).bind λkey=>match s.S[j]? with
  |some (some (.dat (.dict es)))=>cIf (es.length<100000) (some<|.nx ⟨s.S.set j<|some<|.dat<|.dict<|putD es D G key,s.t⟩) none
  |_=>none
 |_,_,_=>none
def gr(d k v:EN):SN:=bS v λy=>bS d λx=>bS k λz=>Gu x y z
theorem gM(hd:NE W td d)(hk:NE W ty k)(M:NE W I v):NS W (F7 td ty I) (gr d k v):=by
 intro G A B H σ s o D R e q;refine vM (t:=I) M R e q λy yv A1 B1 H1 s1 g1 S C F N=>?_
 refine vM (t:=td) hd C N q λx xv A2 B2 H2 s2 g2 h R2 J P=>?_
 refine vM (t:=ty) hk R2 P q λz zv r u w s3 T a i L b=>?_
 unfold Gu at b;split at b
 ·rename_i j yd Z
  obtain⟨key,l,g⟩:=zaa b;split at g
  ·rename_i es V
   obtain⟨hz,Q⟩:=cO g;cases Q;have f:=J.mono T a;cases F with
   |pl U=>
    cases L with
    |pl Y=>
     cases f with
     |lc m=>
      cases i.st.cell j _ _ V m with
      |dat O=>
       obtain⟨Z0,X,p⟩:=O.dict;obtain rfl:z=kV key:=View.key (H:=w) (.inl Y) l;have E:=i.write (o:=.dK<|putK Z0 key y) (c:=.dat<|.dict<|putD es Z yd key) m trivial (.dat<|.dct ay<|bc.put (BG l) (U.mono<|h.trans a) p);exact⟨_,_,rfl,.inl ⟨Z0,key,X,rfl,by rw[p.length,sizeLine_eq];lia,rfl⟩,q r u _ σ E⟩
  ·cases g
 ·cases b
def pK(f:List D->Option (D×D))(m:MN<|List SV):EN:=bN m λxs s=>(gq s.S xs).bind λds=>(f ds).bind λc=>if(dk c.1 true&&dk c.2 true)=true then some (.ok (.tp [.lc s.S.length,.lc<|s.S.length+1]) ⟨s.S++[some<|.dat c.1]++[some<|.dat c.2],s.t⟩)else none
theorem a7.opened{B H B' H':Hp}{σ:St}{s:SS}(R:a7 G A B H σ s)(eH:aH H H')(nz:∀q o u,H' q=some (.frz o u)->H q≠none):a7 G A (tbu B H') H' σ s:=by
 have b:aH B H':=R.sub.trans eH;refine R.grow iP eH (λq u h=>?_) (λq h z=>?_) (λq xs h=>ke b h) λq u w h=>?_
 ·rcases jn h with h|⟨_,xs,rfl,h'⟩
  ·exact b q u h
  ·exact h'
 ·cases a:tbu B H' q with
  |none=>rfl
  |some u=>
   rcases jn a with h3|⟨_,xs,rfl,h3⟩
   ·rw[z]at h3;cases h3
   ·cases h4:H q with
    |none=>exact absurd h4 h
    |some f=>
     have:=eH q f h4;rw[h3]at this;cases this;rw[R.cL q xs h4]at z;cases z
 ·have d:=nz q u w h
  cases a:H q with
  |none=>exact absurd a d
  |some e=>
   have:=eH q e a;rw[h]at this;cases this;exact R.nz q u w a
theorem yo(h:B p=none)(n:∀xs,H p≠some (.tup xs)):tbu B H p=none:=by
 cases a:tbu B H p with
 |none=>rfl
 |some o'=>
  rcases jn a with h3|⟨_,xs,rfl,h3⟩
  ·rw[h]at h3;cases h3
  ·exact absurd h3 (n xs)
theorem yp(h:NA W t m):NE W (i6 (spD f) [] E t) (pK f m):=by
 walk_at "q5"
 rw[zaR];obtain⟨ds,h1,i⟩:=zaa i;obtain⟨c,h2,i⟩:=zaa i;split at i
 case isFalse=>cases i
 rename_i S
 rw[Bool.and_eq_true]at S;cases i;refine⟨D,ds,c,aH.refl _,λ_ _ z=>z,jD b.st b.sub y h1,h2,λv B' H' P=>?_⟩
 obtain⟨a,p,r,rfl,ha,V,T,X,hBp,hBr,O,or⟩:=P.val;have R2:=b.opened (B':=B') P.eH P.nz;have U:aH j H':=b.sub.trans P.eH;have M:∀q xs,B' q=some (.tup xs)->tbu j H' q=some (.tup xs):=λq xs h=>ke U (P.sub _ _ h)
 have d:=O.cP M S.1;have g:=or.cP M S.2;obtain⟨o1,L,Z⟩:=d.mx;obtain⟨o2,N,I⟩:=g.mx;obtain⟨o,u,w⟩:=b.pA T;obtain⟨x,F,J⟩:=b.pA X;have Y:=R2.take (c:=.dat c.1) o u (yo w<|O.xn) L Z (.dat d);have R4:=Y.take (c:=.dat c.2) x (λz=>by
  rcases zae z with z|z
  ·exact F z
  ·exact V (zad z).symm) (yo J<|or.xn) N I (.dat g)
 refine l _ _ _ H' ((Gro.app _ _).trans<|Gro.app _ _) iP R4 (.tp (ke U ha)<|.cons (.lc ?_)<|.cons (.lc ?_) .nil)
 ·rw[<-b.st.len]
  exact Gro.app _ _ _ _ List.getElem?_concat_length
 ·rw[<-b.st.len]
  have:(C++[p]).length=C.length+1:=by simp
  rw[<-this];exact List.getElem?_concat_length
end
end Mir
namespace L2
open PySem.Spec PyProof.Rows
section
variable{X:Cx}
def KZ:V->List V->Hp->VK->Prop:=λx xs H Q=>∃a Z0 k v,x=.ref a/\xs=[kV k]/\H a=some (.dK Z0)/\k8 Z0 k=some v/\Q v (upd H a<|.dK<|qk Z0 k)
theorem qL:MtR X "dict.pop" KZ:=by
 intro V0 s σ H x xs v us Q I g b h;obtain⟨a,Z0,k,y,rfl,rfl,e,l,q⟩:=h;cases g;cases b with
 |cons f b=>
  cases b;exact O8 I e f l (.inl rfl) λw' s' d c=>⟨y,_,d,c,q⟩
end
end L2
namespace Mir
open L2
section
variable [Zc] [Zl]{W:WX}
def mP(es:List<|D×D)(k:Key):List (D×D):=es.filter λp=>decide (keyOf p.1≠some k)
theorem bc.drop{B:Hp}{k:Key}:∀{Z0:List<|Key×V} {es:List<|D×D},bc B Z0 es->bc B (qk Z0 k) (mP es k)
 |_,_,.nil=>.nil
 |_,_,.cons (k:=k') (c:=c') hk b r=>by
  have a:=bc.drop (k:=k) r;unfold qk mP at a⊢;rw[List.filter_cons,List.filter_cons];have e:(decide<|keyOf c'≠some k)=decide (k'≠k):=by
   rw[hk.of];simp
  dsimp only;rw[e];split
  ·exact .cons hk b a
  ·exact a
def yq(k:Nat)(xs:List SV)(s:SS):Option (RR SV):=match xs with
 | [.pl D]=>(keyOf D).bind λkey=>match s.S[k]? with
  |some (some (.dat (.dict es)))=>(d4 es key).map λd=>.ok (.pl d) ⟨s.S.set k<|some<|.dat<|.dict<|mP es key,s.t⟩
  |_=>none
 |_=>none
def qm(S:List<|Option Cl)(k:Nat):Bool:=match S[k]? with
 |some (some (.dat (.dict _)))=>true
 |_=>false
def lC(a:EN)(m:MN<|List SV):EN:=bN a λx s=>match x with
 | .lc k=>if qm s.S k=true then bN m (λxs s2=>yq k xs s2) s else none
 |_=>none
theorem qM(ha:NE W I a)(h:NA W t m):NE W (tBM K "dict" KZ I t) (lC a m):=by
 walk_at "qc"
 ·rename_i k
  split at b
  ·rename_i hl
   cases l with
   |lc p=>
    refine⟨?_,?_⟩
    ·unfold qm at hl
     split at hl
     ·rename_i es hk
      cases f.st.cell k _ _ hk p with
      |dat y=>obtain⟨Z0,r,_⟩:=y.dict;exact .inr (.inr<|.inl ⟨rfl,.inl ⟨Z0,r⟩⟩)
     ·cases hl
    ·refine iG (t:=t) h f b w λvs xs D E J s2 g2 V R2 i g U=>?_
     unfold yq at g;split at g
     ·rename_i kd
      obtain⟨key,P,j⟩:=zaa g;split at j
      ·rename_i es hk
       obtain⟨d,S,T⟩:=zab j;cases T;cases i with
       |cons va i=>
        cases i;cases va with
        |pl rz=>
         cases R2.st.cell k _ _ hk (g2 _ _ p)with
         |dat y=>
          obtain⟨Z0,r,C⟩:=y.dict;obtain⟨u,O,Y⟩:=(jG (k:=key) C).1 d S;have Z:=View.key (H:=J) (.inl rz) P;subst Z;have N:=R2.write (o:=.dK<|qk Z0 key) (c:=.dat<|.dict<|mP es key) (g2 _ _ p) trivial (.dat<|.dct ay<|bc.drop C);exact⟨_,Z0,key,u,rfl,rfl,r,O,U u D E _ (Gro.refl _) (aH.refl _) N<|.pl Y⟩
      ·cases j
     ·cases g
  ·cases b
 ·cases b
end
end Mir
namespace L2
def K4(xs:List V)(H:Hp)(Q:VK):Prop:=Mm xs H Q\/∃a o Z0 n,xs=[.ref a,.ty n]/\(H a=some (.dK Z0)\/H a=some (.frz o<|.dK Z0))/\n∈eN/\Q (.bl<|qZ "dict" n) H
theorem DF:dJ X (.builtin "isinstance") K4:=by
 intro V0 s σ H xs us Q I r h;rcases h with h|⟨a,o,Z0,n,rfl,hd,e,q⟩
 ·exact q0 V0 s σ H xs us Q I r h
 ·obtain⟨u,v,rfl,f,g⟩:=vals2 r
  cases g;have b:∀{vs} {h:Heap},h=s.heap->h.DictOf (bX X.prog X.w) a vs->wpAny (model X.prog X.w) X.A (call (.builtin "isinstance") [u,.type n]) (EP X V0 σ Q) X.xe s:=fun{vs h} c p=>by
   subst c;cases(show u=Value.ref a from f);obtain⟨o,es,i,d,h3,_⟩:=p;exact za4 PySem.W.kitx_dict I.kIn ⟨o,d,h3.1⟩ (uh X.K "dict" (by decide) n e) (λz=>nomatch z) λtk=>⟨.bl _,H,I.tok tk,rfl,q⟩
  rcases hd with hd|hd
  ·obtain⟨_,_,vs,_,p⟩:=(show bY X.prog X.w H s.heap a (.dK Z0)from I.hok a _ hd)
   exact b rfl p
  ·obtain⟨_,_,_,vs,_,p⟩:=(show bY X.prog X.w H s.heap a (.frz o<|.dK Z0)from I.hok a _ hd)
   exact b rfl p
end L2
namespace Mir
open L2
section
variable [Zc]
def Gv(n:String):D->Option (D×Bool)
 | .dict _=>if n∈eN then some (.bool<|qZ "dict" n,false)else none
 |d=>mX n d
def yr(n:String)(a:PM):PM:=mUn (Gv n) a
theorem JA(ha:ME I a):ME (tCB K4<|kS I<|kS (tC<|.ty n) qW) (yr n a):=by
 walk_at "qa"
 by_cases hd:∃es,x.1.1=.dict es
 ·obtain⟨es,hd⟩:=hd
  walk_at "q2"
  rw[hd]at b;have c:(if n∈eN then some ((PyData.bool<|qZ "dict" n,false):D×Bool)else none)=some l:=b
  by_cases hn:n∈eN
  ·rw[if_pos hn]at c
   cases c;have i:=(L.view f).rep f.sub;rw[hd]at i;cases i with
   |dct h _=>
    rcases h with h|⟨o,h⟩
    ·exact .inr ⟨_,⟨.none,none,.plain,#[]⟩,_,n,rfl,.inl h,hn,q _ E C A f (.bl _) λp z=>by cases z⟩
    ·exact .inr ⟨_,o,_,n,rfl,.inr h,hn,q _ E C A f (.bl _) λp z=>by cases z⟩
  ·rw[if_neg hn]at c;cases c
 ·have g:mX n x.1.1=some l:=by
   revert b hd
   cases x.1.1 with
   |dict es=>intro _ hd;exact absurd ⟨es,rfl⟩ hd
   |_=>intro b _;exact b
  refine ha.sv F B H σ ρ x.1 x.2 _ R G λv E C A f L W=>.inl ?_
  unfold mX at g;split at g
  ·rename_i d
   cases g;have i:=(L.view f).rep f.sub;have m:=i.ty d.1;have hk:tyD x.1.1∈cN:=by
    have j:=d.1
    revert j
    cases x.1.1 with
    |none=>intro _;show "NoneType"∈cN;decide
    |bool _=>intro _;show "bool"∈cN;decide
    |int _=>intro _;show "int"∈cN;decide
    |str _=>intro _;show "str"∈cN;decide
    |list _=>intro _;show "list"∈cN;decide
    |tuple _=>intro _;show "tuple"∈cN;decide
    |dict _=>intro j;exact absurd rfl j
   exact⟨v,n,rfl,by rw[m];exact hk,d.2,by rw[m];exact q _ E C A f (.bl _) λp z=>by cases z⟩
  ·cases g
end
end Mir
namespace L2
theorem hv1(h:a+b<c)(I : 1<=b:=by decide):a+1<c:=by lia
end L2
namespace Mir
open L2
end Mir
namespace L2
open PySem.Spec PyProof.Rows PySem.W
abbrev Ab(X:Cx)(W1:Str)(x0:Scope)(L f:Addr)(cd:Value):Env:=envX W1 x0 L f cd (fM X.env.cells x0.names [])
def uD(X:Cx)(A:Around)(W1:Str)(x0:Scope)(N':List Str)(s₂:Shared)(H₂:Hp)(f:Addr)(cd:Value):Cx where
 prog:=X.prog
 w:=X.w
 K:=X.K
 mg:=X.mg
 base:=X.base
 A:=A.deeper (Ab X W1 x0 s₂.heap.objs.size f cd)
 N:=N'
 s₀:=s₂
 H₀:=H₂
 env:=Ab X W1 x0 s₂.heap.objs.size f cd
 outer:=X.stack
 stack:=Ab X W1 x0 s₂.heap.objs.size f cd::X.stack
 ex:=[]
 calm:=true
 fn:=λ_=>false
 pn:=[]
 xe:=λ_ _=>False
section
variable{X:Cx}{x0:Scope}{x:Str}{fr:List<|Str×Nat}{V0:List<|Addr×Obj}{σ:St}{H:Hp}{s:Shared}
theorem Blk.kinds'(B:Blk X x0 x fr)(h:x0.names.lookup y=some .cell\/x0.names.lookup y=some .free):(y,NameKind.free)∈x0.names:=by
 rcases h with h|h
 ·exact absurd rfl (B.cell _<|za5 h)
 ·exact za5 h
theorem JB(I:Inv X V0 σ H s)(B:Blk X x0 x fr)(Y:A.frames=some X.stack)(hd:A.handled=none)(rv:RelV v u)
  (M:∀b ob,s.heap.get? b=some ob->O.get? b=some ob) (U:O.Ns s.heap.objs.size λy=>[(x,u)].reverse.lookup y) :
  Inv (uD X A W1 x0 (b8 x fr) s H f cd) [] (some v::bg σ fr) H {s with heap:=O,toks:=tk}:=by
 have J:=I.env0;have j:∀b:Addr,b∉([]:List Addr):=λb=>by simp
 refine⟨⟨I.ok.mod,B.kind,rfl,rfl,zap _,λy z c w n=>I.ok.inj y z c (B.sub I.ok _ _ w)<|B.sub I.ok _ _ n,λy G=>nF _ _ _<|.inl<|B.kinds' G,λy c h _=>(zam h).elim,λ_=>hd,Around.frames_deeper Y,.inr ⟨rfl,rfl⟩,
  λb z=>absurd z<|j b,I.bs,zaX I.ok.bsz I.sz,λb _ _=>j b,λb z=>absurd z<|j b,I.stack,I.nA,I.tab⟩,
  rfl,I.bare,Un.kept M,⟨_,U,λi y w' w n h3=>?_⟩,λy c e=>?_,I.hok.fresh<|zap _,λy c e=>I.ic y c<|B.sub I.ok _ _ e,λp F=>absurd (show p∈([]:List<|Addr×Obj)from F) (by simp),I.hok.kept M,?_⟩
 ·cases i with
  |zero=>
   simp only[List.getElem?_cons_zero,Option.some.injEq]at n;subst n;have C:x=y:=by simpa[b8,uD]using w
   subst C;exact⟨u,rv,.inl ⟨B.here,by simp⟩⟩
  |succ i=>
   have a:(fr.map (·.1))[i]?=some y:=by
    have z:(x::fr.map (·.1))[i+1]?=some y:=w
    rw[zat]at z;exact z
   have d:(bg σ fr)[i]?=some (some w'):=by simpa using n
   rw[zao]at a;unfold bg at d;rw[zao]at d;cases e:fr[i]? with
   |none=>rw[e]at a;cases a
   |some p=>
    rw[e]at a d;have C:p.1=y:=by simpa using a
    have k : σ.getD p.2 none=some w':=by simpa using d
    have hs:=List.all_eq_true.mp B.seen p (zaj e);rw[Bool.and_eq_true]at hs;have g:x0.names.lookup p.1=some .free:=by simpa using hs.1
    have t:X.N[p.2]?=some p.1:=by simpa using hs.2
    rw[C]at g t;have hk:X.env.kindOf y=some .cell:=B.frees _ (za5 g) rfl;have D : σ[p.2]?=some (some w'):=by
     rw[List.getD_eq_getElem?_getD]at k;cases q : σ[p.2]? with
     |none=>rw[q]at k;simp at k
     |some z=>rw[q]at k;simp at k;rw[k]
    obtain⟨m,hn,hl⟩:=I.loc;obtain⟨u,r,l⟩:=hl p.2 y w' t D (.inr<|.inl hk);refine⟨u,r,.inr ⟨.inr g,?_⟩⟩;rcases l with⟨z,_⟩|⟨_,c,E,z⟩
    ·rw[hk]at z;cases z
    ·obtain⟨c',o⟩:=nF (cells:=X.env.cells) x0.names [] y (.inl<|za5 g)
     have:=B.sub I.ok _ _ o;rw[E]at this;cases this;obtain⟨ob,ho,hd⟩:=z;exact⟨c,o,ob,M _ _ ho,hd⟩
 ·obtain⟨v,ob,ho,hd⟩:=I.cell y c (B.sub I.ok _ _ e)
  exact⟨v,ob,M _ _ ho,hd⟩
 ·show _=(b8 x fr).length
  simp[b8,bg]
theorem Gw(I:Inv X V0 σ H s)(B:Blk X x0 x fr)(hco:x0.isCoroutine=false)(hgen:x0.isGenerator=false)
  (hA:A.frames=some X.stack) (hr:dR (k+1) A) (ho:s.heap.get? f=some (kla_obj name W1 M O x0 (fM X.env.cells x0.names []) pm c' ctv)) (hcd:s.heap.CodeRec (.ref c') W1)
  (U:bindArgs (kla_fn name W1 M O x0 (fM X.env.cells x0.names []) pm (.ref c') ctv) ⟨[u],[]⟩=pure [(x,u)]) (rv:RelV v u)
  (he:∀s₂ Y,PE (uD X A W1 x0 (b8 x fr) s₂ Y f<|.ref c') O te) (q:te (some v::bg σ fr) H Q) :
  codeAny (model X.prog X.w) A (.call (.ref f) ⟨[u],[]⟩) (λr s'=>match r with| .ok (.ret u')=>∃v' H',Inv X V0 σ H' s'/\RelV v' u'/\(∀b ps,H b=some (.tbl ps)->∃more,H' b=some (.tbl<|ps++more))/\Q v' H'|_=>False) s:=by
 refine kla_callFunE hr.depth ho rfl hco hgen rfl hcd ?_;rw[U];refine zaZ (wpAny_newFunctionEnv B.cell (λy o=>?_) (λi j c=>⟨?_,?_⟩) B.kind)
 ·have e:y=(x,u):=by simpa using o
  rw[e];exact B.here
 ·exact(I.nolimit).fresh _ c
 ·have l:∀b ob,s.heap.get? b=some ob->i.get? b=some ob:=λb ob e=>c.extBut b ob (zaS<|zaq e) (zar _ e)
  have J:=JB (tk:=s.toks+1) (f:=f) (cd:=.ref c') (W1:=W1) I B hA hr.hd rv l j;refine kla_codeExpr (za6 (he s H [] _ _ H Q J q) (λu' s' h=>?_) λ_ _ z=>z.elim)
  obtain⟨v',H',a,C,p⟩:=h;obtain⟨n,g,d,t,m⟩:=s';obtain rfl:m=s.os:=a.os;exact⟨v',H',I.call (h':=n) (g':=g) (d':=d) (t':=t) (ch:=[]) a.base a.hok a.bare (λb z=>absurd z (by simp)),C,a.base.jU,p⟩
theorem Gx(I:Inv X V0 σ H s)(B:Blk X x0 x fr)
  (hl:gW X.K=some (c,T,ps)) (hp:ps=#[rawInt pos.line,rawInt pos.col,.str W1 t]) (hcode:X.env.code=.ref c)
  (h:∀f c' H' pm U s',Inv X V0 σ H' s'->aH H H'->(∀b,H b=none->H' b=none\/∃m,H' b=some (.tbl m))->s'.heap.get? f=some (kla_obj name W1 O Y x0 (fM X.env.cells x0.names []) pm c' U)->jV X V0 H' f->
   (∃more,H' c'=some (.tbl<|#[.none,.str W1 t]++more))->Q (.ref f) s') :
  wpAny M A (makeFunction name W1 O (.expr Y) x0 X.env [] [] [] pos fl) Q E s:=by
 obtain⟨more,p⟩:=I.tab c T ps hl;have y:=ET (x0:=x0) (env:=X.env) (B.clos I.ok);have hg:s.heap.Ns mainGlobals X.mg:=I.ok.mod.glob.keeps I.bk;have C:CodeHd s.heap c T:=codeHd_of_K I.kIn (qX hl).2;have nT:∀b o,X.base.get? b=some o->b≠T:=λb o e z=>by
  have:=(I.bs b o e).2;rw[z,p]at this;cases this
 have Z:mainGlobals≠T:=by
  obtain⟨o,es,S,e,_⟩:=I.ok.mod.glob;exact nT _ _ e
 have hb:s.heap.BuiltinsAt X.mg T:=by
  obtain⟨bm,ob,b1,b2,L,b4,b5,P⟩:=I.ok.mod.bmain;refine⟨bm,ob,b1,b2,λz=>?_,nT _ _ L,I.bk _ _ L,b4,b5,P⟩
  obtain⟨o,es,S,e,d,_⟩:=I.ok.mod.glob;rw[z,e]at L;cases L;rw[d]at P;cases P
 subst hp;have g2:(#[rawInt pos.line,rawInt pos.col,Value.str W1 t]++more)[2]?=some (.str W1 t):=by rw[Array.getElem?_append_left (by simp)];rfl
 have d0:(#[rawInt pos.line,rawInt pos.col,Value.str W1 t]++more).getD 0 .none=rawInt pos.line:=by rw[Array.getD_eq_getD_getElem?,Array.getElem?_append_left (by simp)];rfl
 have d1:(#[rawInt pos.line,rawInt pos.col,Value.str W1 t]++more).getD 1 .none=rawInt pos.col:=by rw[Array.getD_eq_getD_getElem?,Array.getElem?_append_left (by simp)];rfl
 rcases I.hok T _ p with⟨R,_⟩|⟨R,qs,hq,hc⟩
 ·exact absurd R (xj hl more)
 rcases hc with rfl|⟨c',q,t',m',rfl,e2,e3⟩
 ·refine kla_makeFunction (mg:=X.mg) y I.ok.glob hg hcode C hq trivial rfl Z hb λc' U h' tk hx j k D G=>?_
  have V:H c'=none:=I.hok.fresh j;have g:∀b o,b≠T->s.heap.get? b=some o->(h'.push<|kla_obj name W1 O Y x0 (fM X.env.cells x0.names []) ((X.mg "__name__").getD .none) c' U).get? b=some o:=λb o a e=>zar _ (hx b o a e)
  have tn:∀b,H b=none->b≠T:=λb e z=>by rw[z,p]at e;cases e
  have l:∀b o,H b=some o->b≠c':=λb o e=>d7 e V
  have J:Inv X V0 σ (upd H c'<|.tbl #[.none,.str W1 t]) {s with heap:=h'.push<|kla_obj name W1 O Y x0 (fM X.env.cells x0.names []) ((X.mg "__name__").getD .none) c' U,toks:=tk}:=by
   refine I.step (g':=s.gens) (d':=s.drawn) (ch:=[]) (λ_ z=>nomatch z) (λb o _ _ _ e n=>g b o (tn b n) e) (λb o _ _ _ e n=>⟨o.slots,g b o (tn b n) e⟩) (λb o _ e n=>?_) (λb o _ e=>?_) (λb xs e=>?_) (λb o u e=>?_) (λb ps' e=>⟨#[],?_⟩) (λm hm=>?_) (λb u e=>?_) I.bare
   ·rw[au<|zaS<|zaF (zaq e) j];exact n
   ·by_cases a:b=T
    ·exact⟨_,by rw[a];exact zar _ G⟩
    ·exact⟨o,g b o a e⟩
   ·rw[au<|l _ _ e];exact e
   ·rw[au<|l _ _ e];exact e
   ·rw[au<|l _ _ e,e];simp
   ·obtain⟨o,es,S,ho,r⟩:=hm
    exact⟨o,es,S,g _ o (tn _ I.free) ho,r⟩
   ·by_cases w:b=c'
    ·subst w
     rw[ay]at e;cases e;obtain⟨c2,oc,vs,tk2,ec,eo,ed⟩:=D;cases ec;exact .inl ⟨rfl,W1,t,rfl,b,oc,vs,tk2,rfl,zar _ eo,ed⟩
    ·rw[au w]at e
     by_cases v:b=T
     ·subst v
      rw[p]at e;cases e;refine .inr ⟨R,_,zar _ G,.inr ⟨c',W1,t,#[],?_,g2,?_⟩⟩
      ·rw[d0,d1];rfl
      ·rw[ay];rfl
     ·refine(I.hok b u e).stay (λN u' a q=>g N u' ?_ q) (λN q=>by rw[au<|l _ _ q];exact q) λN v' _ q=>by rw[au<|l _ _ q];exact q
      rintro rfl
      rcases a with z|z
      ·exact v z.symm
      ·rw[p]at z;cases z
  have W:(upd H c'<|.tbl #[.none,.str W1 t]) h'.objs.size=none:=by
   rw[au<|Nat.ne_of_gt k];exact I.hok.fresh (zaX j<|Nat.le_of_lt k)
  refine h h'.objs.size c' _ _ U _ J (λb o e=>by rw[au<|l _ _ e];exact e) (λb e=>?_) (zaL _ rfl) (I.tj (zaX j<|Nat.le_of_lt k) W) ⟨#[],by rw[ay];rfl⟩
  by_cases z:b=c'
  ·exact .inr ⟨_,by rw[z];exact ay⟩
  ·exact .inl (by rw[au z];exact e)
 ·rw[g2]at e2
  cases e2;rw[d0,d1]at hq;refine kla_makeFunctionHit (mg:=X.mg) (cv:=.ref c') y I.ok.glob hg hcode C hq trivial (by simp[codeAmong,rawInt]) hb λU h' tk hk F=>?_
  have J:Inv X V0 σ H {s with heap:=h'.push<|kla_obj name W1 O Y x0 (fM X.env.cells x0.names []) ((X.mg "__name__").getD .none) c' U,toks:=tk}:=I.kept λb o e=>zar _ (hk b o e)
  exact h h'.objs.size c' H _ U _ J (aH.refl _) (λb e=>.inl e) (zaL _ rfl) (I.tj F<|I.hok.fresh F) ⟨m',e3⟩
end
def K5(K:zag)(fr:List<|Str×Nat)(tl te:TE):TE:=fun σ H Q=>tl σ H λx J=>∃a xs Z,x=.ref a/\SqL K J a xs/\xs[0]?=some Z/\
 ∀D,aH J D->(∀b,J b=none->D b=none\/∃m,D b=some (.tbl m))->te (some Z::bg σ fr) D λk0 O=>∃W:Nat->V->V->Hp->Prop,W 1 Z k0 O/\
  ∀i b L G,W i b L G->SqL K G a xs/\(xs.length<=i->Q b G)/\∀v,xs[i]?=some v->te (some v::bg σ fr) G λk Y=>Gm K k L Y λr M=>∃c,r=.bl c/\if c=true then W (i+1) v k M else W (i+1) b L M
section
variable{X:Cx}{x0:Scope}{x:Str}{fr:List<|Str×Nat}{V0:List<|Addr×Obj}{σ:St}{H:Hp}{s:Shared}
theorem code_at(I:Inv X V0 σ H s)(h:H c=some (.tbl<|#[.none,.str q t]++more)):s.heap.CodeRec (.ref c) q:=by
 have a:(#[Value.none,.str q t]++more)[0]?=some .none:=by rw[Array.getElem?_append_left (by simp)];rfl
 have b:(#[Value.none,.str q t]++more)[1]?=some (.str q t):=by rw[Array.getElem?_append_left (by simp)];rfl
 rcases I.hok c _ h with⟨_,d,e,z,r⟩|⟨z,_⟩
 ·rw[b]at z;cases z;exact r
 ·exact absurd a z
def uE(hl:IsTup s.heap l #[.int a t,.str x u])(I:IsTup s.heap b #[.int c O,.str y U])(M:A.units<cLine)(h:Q (.bool<|aR a x c y) s) :
  wpAny (model prog w) A (richCompare .Lt (.ref l)<|.ref b) Q E s:=ym hl I M h
theorem yt(I:Inv X V0 σ H s)(B:Blk X x0 x fr)(hco:x0.isCoroutine=false)(hgen:x0.isGenerator=false)
  (hr:dR (k+2) X.A) (ho:s.heap.get? f=some (kla_obj name W1 U Y x0 (fM X.env.cells x0.names []) pm c' ctv)) (hc:H c'=some (.tbl<|#[.none,.str W1 t]++more))
  (hbind:∀(pm ctv:Value) (c':Addr) (cl:List<|Str×Addr) (u:Value),bindArgs (kla_fn name W1 U Y x0 cl pm (.ref c') ctv) ⟨[u],[]⟩=pure [(x,u)]) (rv:RelV v u)
  (he:∀O M f c',PE (uD X X.A.in1 W1 x0 (b8 x fr) O M f<|.ref c') Y te) (q:te (some v::bg σ fr) H Q)
  (h:∀u' s' v' H',Inv X V0 σ H' s'->RelV v' u'->(∃more,H' c'=some (.tbl<|#[.none,.str W1 t]++more))->Q v' H'->P u' s') :
  wpAny (model X.prog X.w) X.A.in1 (call (.ref f) [u]) P E s:=by
 refine wpAny_call (codeAny_mono (Gw I B hco hgen I.ok.frames hr.in1 ho (code_at I hc) (hbind _ _ _ _ _) rv (λO M=>he O M f c') q) λr s' a=>?_)
 cases r with
 |error e=>exact a.elim
 |ok b=>
  cases b with
  |next=>exact a.elim
  |brk=>exact a.elim
  |cont=>exact a.elim
  |ret u'=>
   obtain⟨v',H',J,g,j,d⟩:=a;obtain⟨c,z⟩:=j _ _ hc;exact h u' s' v' H' J g ⟨more++c,by rw[z,Array.append_assoc]⟩ d
structure K6(X:Cx)(V0:List<|Addr×Obj)(σ:St)(a it S f c':Addr)(fo:Obj)(W1:Str)(t:Tok)(i:Nat)(H:Hp)(s:Shared):Prop where
 inv:Inv X V0 σ H s
 fi:jV X V0 H it
 fs:jV X V0 H S
 ff:jV X V0 H f
 n1:it≠S
 n2:it≠f
 n3:S≠f
 li:s.heap.IsListIter it a i
 lf:s.heap.get? f=some fo
 nf:∀v,fo.data≠.cell v
 lc:∃more,H c'=some (.tbl<|#[.none,.str W1 t]++more)
def jV.to(h:jV X V0 H b)(e:H' b=none):jV X V0 H' b:=⟨e,h.2⟩
theorem Gy{I:Arguments}{M:Expr}{pm U:Value}{a it S f c':Addr}{te:TE}{xs:List V}{Q:VK}{W:Nat->V->V->Hp->Prop}{R:Result->Shared->Prop}(B:Blk X x0 x fr)(hco:x0.isCoroutine=false)(hgen:x0.isGenerator=false)
  (hr:dR (k+2) X.A) (hbind:∀(pm U:Value) (c':Addr) (cl:List<|Str×Addr) (u:Value),bindArgs (kla_fn name W1 I M x0 cl pm (.ref c') U) ⟨[u],[]⟩=pure [(x,u)])
  (he:∀s₂ H₂ f c',PE (uD X X.A.in1 W1 x0 (b8 x fr) s₂ H₂ f<|.ref c') M te)
  (turn:∀i b O H4,W i b O H4->SqL X.K H4 a xs/\(xs.length<=i->Q b H4)/\∀v,xs[i]?=some v->te (some v::bg σ fr) H4 λk H5=>Gm X.K k O H5 λr H6=>∃c,r=.bl c/\if c=true then W (i+1) v k H6 else W (i+1) b O H6)
  (hR:∀u s',EP X V0 σ Q u s'->R (.ok<|.ret u) s') :
  ∀(n i:Nat) (H:Hp) (s:Shared) (b O:V) (Y uk:Value) (cn:Nat),xs.length-i=n->K6 X V0 σ a it S f c' (kla_obj name W1 I M x0 (fM X.env.cells x0.names []) pm c' U) W1 t i H s->
   s.heap.get? S=some (seqObj "list" #[Y,uk] cn)->RelV b Y->RelV O uk->W i b O H->codeAny (model X.prog X.w) X.A (.builtin "min.loop" ⟨[.ref it,.ref f,.ref S],[]⟩) R s:=by
 have d:(toString "min"++toString ".loop":String)="min.loop":=by decide
 intro n
 induction n with
 |zero=>
  intro i H s b O Y uk cn hn L C rb rk w;obtain⟨sq,fin,_⟩:=turn i b O H w;obtain⟨X1,rv,p,m⟩:=L.inv.list sq;have hl:=rv.length
  walk_at "q7"
  show wpAny _ X.A.in1 (seqItems? (.ref S)>>=_) _ _ s;refine zaI (wpAny_seqItems C rfl ?_);show wpAny _ X.A.in1 (tryCatch (pyNext<|.ref it) _>>=_) _ _ s;refine zaI (wpAny_tryCatch<|wpAny_pyNext_list_end (show X.A.in1.handled=none from hr.hd) L.li p.isList (by simp;lia) λh' eb=>?_)
  obtain⟨f0,f1,f2,f3,f4,f5⟩:=L.fi;obtain⟨g0,g1,g2,g3,g4,g5⟩:=L.fs;have I1:Inv X V0 σ H {s with heap:=h'}:=L.inv.turned (t':=s.toks) (λb o j e=>eb b o j e) f0 f1 f3 f4 f5
  have hS':h'.get? S=some (seqObj "list" #[Y,uk] cn):=eb S _ (Ne.symm L.n1) C;have s1:=Heap.SameBut.update h' S (Obj.mapSeq λ_=>(#[]:Array Value))
  show wpAny _ X.A.in1 (updateSeq S (λ_=>#[])>>=_) _ _ _
  refine zaI ?_;refine wpAny_updateSeq hS' rfl (zaI<|wpAny_letGo<|zaZ ?_);refine hR Y _ ⟨b,H,?_,rb,fin (by lia)⟩
  exact I1.turned (t':=s.toks) (λb o j e=>(s1.2 b j).trans e) g0 g1 g3 g4 g5
 |succ n ih=>
  intro i H s b O Y uk cn hn L C rb rk w;obtain⟨sq,_,step⟩:=turn i b O H w;obtain⟨X1,rv,p,m⟩:=L.inv.list sq;have hl:=rv.length;have hi:i<xs.length:=by lia
  have G:xs[i]?=some xs[i]:=zaC hi;obtain⟨u,hu,ru⟩:=rv.get G
  walk_at "q7"
  show wpAny _ X.A.in1 (seqItems? (.ref S)>>=_) _ _ s;refine zaI (wpAny_seqItems C rfl ?_);show wpAny _ X.A.in1 (tryCatch (pyNext<|.ref it) _>>=_) _ _ s;refine zaI (wpAny_tryCatch<|wpAny_pyNext_list_item L.li p.isList (x:=u) (by simpa using hu) λh' st' sb=>?_)
  obtain⟨f0,f1,f2,f3,f4,f5⟩:=L.fi;obtain⟨g0,g1,g2,g3,g4,g5⟩:=L.fs;have I1:Inv X V0 σ H {s with heap:=h'}:=L.inv.turned (t':=s.toks) (λb o j e=>(sb.2 b j).trans e) f0 f1 f3 f4 f5
  have D:h'.get? S=some (seqObj "list" #[Y,uk] cn):=(sb.2 S<|Ne.symm L.n1).trans C;have l:=(sb.2 f<|Ne.symm L.n2).trans L.lf;obtain⟨oi,ei,ci,di⟩:=id st';have IP:=Inv.pinned I1 (fp:=[it,S,f]) (λz m=>by
    simp only[List.mem_cons,List.not_mem_nil,or_false]at m;rcases m with rfl|rfl|rfl
    ·exact L.fi
    ·exact L.fs
    ·exact L.ff) λz m=>by
    simp only[List.mem_cons,List.not_mem_nil,or_false]at m;rcases m with rfl|rfl|rfl
    ·exact⟨oi,ei,λv z=>by rw[di]at z;cases z⟩
    ·exact⟨_,D,λv z=>by cases z⟩
    ·exact⟨_,l,L.nf⟩
  obtain⟨more,hcm⟩:=L.lc;show wpAny _ X.A.in1 (tryCatch (holding [u]<|call (.ref f) [u]) _>>=_) _ _ _;refine zaI (wpAny_tryCatch<|wpAny_holding ?_);refine yt IP B hco hgen hr l hcm hbind ru he (step _ G) λuk' s2 vk' y J rk' N q2=>?_
  have pi:=J.pin (it,oi) (zan _<|zan _<|b7 (by simp) ei)
  have P:=J.pin (S,_) (zan _<|zan _<|b7 (by simp) D)
  have pf:=J.pin (f,_) (zan _<|zan _<|b7 (by simp) l)
  have J2:Inv X V0 σ y s2:=Inv.fR (V0:=V0) J;obtain⟨g,pb,i1,z1,i2,z2,e1,e2,t1,t2,cc,ec,q⟩:=q2;subst e1 e2;cases ec;obtain rfl:uk'=Value.ref g:=rk';obtain rfl:uk=Value.ref pb:=rk;obtain⟨is1,T,p1,_⟩:=J2.tuple t1;obtain⟨is2,Z,p2,_⟩:=J2.tuple t2;cases T with
  |cons a1 T=>
   cases T with
   |cons a2 T=>
    cases T;cases Z with
    |cons b1 Z=>
     cases Z with
     |cons b2 Z=>
      cases Z;obtain⟨k1,rfl⟩:=a1;obtain⟨k2,rfl⟩:=a2;obtain⟨k3,rfl⟩:=b1;obtain⟨k4,rfl⟩:=b2;show wpAny _ X.A.in1 (tryCatch (holding [u,.ref g]<|richCompare .Lt (.ref g) (.ref pb)>>=_) _>>=_) _ _ _;refine zaI (wpAny_tryCatch<|wpAny_holding<|zaI<|uE p1 p2 (by have:=hr.un;show X.A.units+1<cLine;lia) ?_)
      refine zaI (wpAny_holding<|wpAny_truthy_bool ?_);refine zaI (wpAny_letGo<|zaZ ?_);have h:K6 X V0 σ a it S f c' (kla_obj name W1 I M x0 (fM X.env.cells x0.names []) pm c' U) W1 t (i+1) y s2 :=
       ⟨J2,L.fi.to pi.2.1,L.fs.to P.2.1,L.ff.to pf.2.1,L.n1,L.n2,L.n3,⟨oi,pi.1,ci,di⟩,pf.1,L.nf,N⟩
      by_cases E:aR i1 z1 i2 z2=true
      ·rw[E]at q⊢
       rw[if_pos rfl]at q⊢;have s1:=Heap.SameBut.update s2.heap S (Obj.mapSeq λ_=>#[u,.ref g])
       obtain⟨c2,hc2⟩:∃c2,(s2.heap.update S<|Obj.mapSeq λ_=>#[u,.ref g]).get? S=some (seqObj "list" #[u,.ref g] c2):=⟨_,get?_update_seq P.1 λ_=>#[u,.ref g]⟩
       refine zaI ?_;refine wpAny_updateSeq P.1 rfl (zaI<|wpAny_letGo ?_);rw[d];have I3:Inv X V0 σ y {s2 with heap:=s2.heap.update S<|Obj.mapSeq λ_=>#[u,.ref g]}:=J2.turned (t':=s2.toks) (λb o j e=>(s1.2 b j).trans e) P.2.1 g1 g3 g4 g5
       refine zaZ ⟨plainId_quiet PySem.F.plain_min_loop _,ih (i+1) y _ xs[i] (.ref g) u (.ref g) c2 (by lia) ⟨I3,h.fi,h.fs,h.ff,L.n1,L.n2,L.n3,⟨oi,(s1.2 it L.n1).trans pi.1,ci,di⟩,(s1.2 f<|Ne.symm L.n3).trans pf.1,L.nf,N⟩ hc2 ru rfl q⟩
      ·have hb2:aR i1 z1 i2 z2=false:=by simpa using E
       rw[hb2]at q⊢;rw[if_neg zam]at q⊢;refine zaI (wpAny_letGo ?_);rw[d];exact zaZ ⟨plainId_quiet PySem.F.plain_min_loop _,ih (i+1) y _ b (.ref pb) Y (.ref pb) cn (by lia) h P.1 rb rfl q⟩
end
def K7(X:Cx)(pos:Pos):Prop:=∃c T ps t,gW X.K=some (c,T,ps)/\ps=#[rawInt pos.line,rawInt pos.col,.str (X.env.qual++"<lambda>") t]/\X.env.code=.ref c
section
variable{X:Cx}{x0:Scope}{x:Str}{fr:List<|Str×Nat}
theorem JC{O:Expr}{Pj p pos kpos:Pos}{tl te:TE}(B:Blk X x0 x fr)(hL:K7 X Pj)(hr:dR (k+2) X.A)(hg:Gl X "min")(hm:X.mg "min"=none)(hl:PE X e tl)
  (he:∀s₂ H₂ f c',PE (uD X X.A.in1 (X.env.qual++"<lambda>") x0 (b8 x fr) s₂ H₂ f<|.ref c') O te)
  (U:∀(pm ctv:Value) (c':Addr) (cl:List<|Str×Addr) (u:Value),bindArgs (kla_fn "<lambda>" (X.env.qual++"<lambda>") M O x0 cl pm (.ref c') ctv) ⟨[u],[]⟩=pure [(x,u)])
  (hco:x0.isCoroutine=false:=by rfl) (Y:x0.isGenerator=false:=by rfl) (hdef:defaultsOf M X.env=([],[]):=by rfl)
  (hst:backTo pos (starEach [e] X.env)=(false,eval e X.env)::backTo pos (starEach [] X.env):=by rfl) (hpl:(backTo pos<|starEach [e] X.env).any (·.1)=false:=by rfl) (hst2:starEach [e] X.env=(false,eval e X.env)::starEach [] X.env:=by rfl) :
  PE X (.Call (.Name "min" p) [e] [⟨some "key",.Lambda M O x0 Pj,kpos⟩] pos) (K5 X.K fr tl te):=by
 have ha:PA X [e] (kS tl qW):=ax hl mU hst2;intro V0 s σ H Q I h;obtain⟨c,T,ps,t,Qq,hps,D⟩:=hL;have j:(toString "min"++toString ".loop":String)="min.loop":=by decide
 refine wpAny_Call_Name_kw (qV I hg hm PyProof.Rows.boot_min ?_ (by decide) (by decide))
 refine callWith_kw (thn (ha pos V0 s σ H (λvs y=>∃v,vs=[v]/\(λx y=>∃a xs v0,x=.ref a/\SqL X.K y a xs/\xs[0]?=some v0/\
  ∀g,aH y g->(∀b,y b=none->g b=none\/∃m,g b=some (.tbl m))->te (some v0::bg σ fr) g λk0 H3=>∃W:Nat->V->V->Hp->Prop,W 1 v0 k0 H3/\
  ∀i b kb H4,W i b kb H4->SqL X.K H4 a xs/\(xs.length<=i->Q b H4)/\∀v,xs[i]?=some v->te (some v::bg σ fr) H4 λk R=>Gm X.K k kb R λr H6=>∃c,r=.bl c/\if c=true then W (i+1) v k H6 else W (i+1) b kb H6) v y) I ?_) λus s1 ⟨vs,y,I1,r1,v,ev,q1⟩=>?_) hst hpl rfl rfl
 ·show tl σ H _
  have h':tl σ H _:=h;refine Eq.mp (congrArg (tl σ H) ?_) h';funext x y
  exact propext ⟨λz=>⟨x,rfl,z⟩,λ⟨v,ev,z⟩=>by cases ev;exact z⟩
 subst ev;obtain⟨a,xs,v0,rfl,sq,h0,q⟩:=q1;obtain⟨ua,rfl,ra⟩:∃ua,us=[ua]/\RelV (.ref a) ua:=by
  cases r1 with
  |cons ra rr=>
   cases rr;exact⟨_,rfl,ra⟩
 obtain rfl:ua=Value.ref a:=ra;refine kws_cons (kla_eval hdef<|Gx I1 B Qq hps D λf c' g pm ctv s2 J sm nn ho ff hc=>kws_nil ?_)
 have sq2:SqL X.K g a xs:=by
  rcases sq with(z|⟨o,z⟩)|z
  ·exact .inl (.inl<|sm _ _ z)
  ·exact .inl (.inr ⟨o,sm _ _ z⟩)
  ·exact .inr z
 obtain⟨X1,rv,p1,N⟩:=J.list sq2;have hln:=rv.length;have hxl : 0<xs.length:=(zac h0).1;obtain⟨u0,hu0,ru0⟩:=rv.get h0;show wpAny (model X.prog X.w) X.A (call (.builtin "min") [.ref a] [(Str.ofString "key",.ref f)]) _ _ s2;refine kmk_tree PySem.F.kind_min PySem.F.plain_min PySem.F.entry_min (kmk_min_key _ _) ?_;show wpAny _ X.A.in1 (Builtin.Builtins.bindParams "min" ["key","default"] 0 ⟨[],[(Str.ofString "key",.ref f)]⟩>>=_) _ _ s2;refine zaI (wpAny_of_eq (show Builtin.Builtins.bindParams "min" ["key","default"] 0 ⟨[],[(Str.ofString "key",.ref f)]⟩=pure [some<|.ref f,none]from rfl) ?_);refine zaI (zaZ ?_);refine zaI (wpAny_pyIter_list p1.isList ?_);refine zaI (wpAny_newList ?_ (Nat.zero_le _));rw[j];refine zaZ ⟨plainId_quiet PySem.F.plain_min_loop _,?_⟩;generalize C:s2.heap.push {cls:=.type "list_iterator",data:=.fields #[.ref a,.int 0 0]}=d;have hS:d.objs.size=s2.heap.objs.size+1:=by rw[<-C,Heap.size_push]
 have old:∀b o,s2.heap.get? b=some o->(d.push<|seqObj "list" #[] 0).get? b=some o:=λb o e=>zar _ (by rw[<-C];exact zar _ e)
 have gI:(d.push<|seqObj "list" #[] 0).get? s2.heap.objs.size=some {cls:=.type "list_iterator",data:=.fields #[.ref a,.int 0 0]}:=zar _ (by rw[<-C];exact zaL _ rfl)
 have gS:(d.push<|seqObj "list" #[] 0).get? d.objs.size=some (seqObj "list" #[] 0):=zaL _ rfl;have I3:Inv X V0 σ g {s2 with heap:=d.push<|seqObj "list" #[] 0}:=J.kept (t':=s2.toks) old
 have fi:jV X V0 g s2.heap.objs.size:=J.tj (zap _) (J.hok.fresh<|zap _);have fs:jV X V0 g d.objs.size:=J.tj (by lia) (J.hok.fresh (by lia))
 have Z:f<s2.heap.objs.size:=zaq ho;have n1:s2.heap.objs.size≠d.objs.size:=by lia
 have n2:s2.heap.objs.size≠f:=Nat.ne_of_gt Z;have n3:d.objs.size≠f:=by rw[hS];exact Nat.ne_of_gt (Nat.lt_succ_of_lt Z)
 obtain⟨g0,g1,g2,g3,g4,g5⟩:=fs
 walk_at "q7"
 show wpAny _ X.A.in1 (seqItems? (.ref _)>>=_) _ _ _;refine zaI (wpAny_seqItems gS rfl ?_);show wpAny _ X.A.in1 (tryCatch (pyNext<|.ref s2.heap.objs.size) _>>=_) _ _ _;obtain⟨QO,rv3,p3,_⟩:=I3.list sq2;obtain⟨l,hu3,ru3⟩:=rv3.get h0;refine zaI (wpAny_tryCatch<|wpAny_pyNext_list_item (it:=s2.heap.objs.size) (i:=0) ⟨_,gI,rfl,rfl⟩ p3.isList (x:=l) (by simpa using hu3) λh' st' sb=>?_)
 have I4:Inv X V0 σ g {s2 with heap:=h'}:=I3.turned (t':=s2.toks) (λb o hb e=>(sb.2 b hb).trans e) fi.1 fi.2.1 fi.2.2.2.1 fi.2.2.2.2.1 fi.2.2.2.2.2
 have S:h'.get? d.objs.size=some (seqObj "list" #[] 0):=(sb.2 _<|Ne.symm n1).trans gS;have E:=(sb.2 f<|Ne.symm n2).trans (old _ _ ho);obtain⟨oi,ei,ci,di⟩:=id st';have IP:=Inv.pinned I4 (fp:=[s2.heap.objs.size,d.objs.size,f]) (λz N=>by
   simp only[List.mem_cons,List.not_mem_nil,or_false]at N;rcases N with rfl|rfl|rfl
   ·exact fi
   ·exact⟨g0,g1,g2,g3,g4,g5⟩
   ·exact ff) λz N=>by
   simp only[List.mem_cons,List.not_mem_nil,or_false]at N;rcases N with rfl|rfl|rfl
   ·exact⟨oi,ei,λv z=>by rw[di]at z;cases z⟩
   ·exact⟨_,S,λv z=>by cases z⟩
   ·exact⟨_,E,λv z=>by cases z⟩
 obtain⟨more,hcm⟩:=hc;show wpAny _ X.A.in1 (tryCatch (holding [l]<|call (.ref f) [l]) _>>=_) _ _ _;refine zaI (wpAny_tryCatch<|wpAny_holding ?_);refine yt IP B hco Y hr E hcm U ru3 he (q g sm nn) λL P vk R J5 rk lc5 q5=>?_
 obtain⟨W,w0,turn⟩:=q5;have pi:=J5.pin (s2.heap.objs.size,oi) (zan _<|zan _<|b7 (by simp) ei)
 have pS:=J5.pin (d.objs.size,_) (zan _<|zan _<|b7 (by simp) S)
 have pf:=J5.pin (f,_) (zan _<|zan _<|b7 (by simp) E)
 have J6:Inv X V0 σ R P:=Inv.fR (V0:=V0) J5;have G:=Heap.SameBut.update P.heap d.objs.size (Obj.mapSeq λ_=>#[l,L])
 obtain⟨c2,hc2⟩:∃c2,(P.heap.update d.objs.size<|Obj.mapSeq λ_=>#[l,L]).get? d.objs.size=some (seqObj "list" #[l,L] c2):=⟨_,get?_update_seq pS.1 λ_=>#[l,L]⟩
 show wpAny _ X.A.in1 (updateSeq d.objs.size (λ_=>#[l,L])>>=_) _ _ _
 refine zaI ?_;refine wpAny_updateSeq pS.1 rfl ?_;rw[j];have I7:Inv X V0 σ R {P with heap:=P.heap.update d.objs.size<|Obj.mapSeq λ_=>#[l,L]}:=J6.turned (t':=P.toks) (λb o hb e=>(G.2 b hb).trans e) pS.2.1 g1 g3 g4 g5
 refine zaZ ⟨plainId_quiet PySem.F.plain_min_loop _,Gy B hco Y hr U he turn (λu s' z=>z) _ 1 R _ v0 vk l L c2 rfl
  ⟨I7,fi.to pi.2.1,⟨pS.2.1,g1,g2,g3,g4,g5⟩,ff.to pf.2.1,n1,n2,n3,⟨oi,(G.2 _ n1).trans pi.1,ci,di⟩,(G.2 f<|Ne.symm n3).trans pf.1,(λv z=>by cases z),lc5⟩ hc2 ru3 rk w0⟩
end
section
variable{P:Program}{w:World}{K:zag}{mg:Str->Option Value}{base:Heap}
theorem Top.Qr{st:Stmt}{k:Nat}{sp:Sp}{O:Pos}(U:(gW K).isSome=true)(M:uZ (.stmts<|dG st)=some O)(hq:((x++".<locals>.":Str)++"<lambda>":Str)=x++".<locals>.<lambda>")(T:Top K mg x st)(S:bq N ps<|aL st)(len:∀vs H Q E,sp vs H Q E->vs.length=ps.length)
  (Y:∀(kV doc pm:Value) (an:Option Addr) (cdv ct:Value) (us:List Value),us.length=ps.length->bindArgs (PySem.W.fnOf x x (gK st) (dG st) (aL st) .none kV doc pm an cdv ct) ⟨us,[]⟩=pure (ps.zip us))
  (I:∀(f:Addr) (cdv:Value) (A:Around) (outer:List Env) (s:Shared) (H:Hp) (vs:List V) (Q:VK) (E:XK),K7 (mV CX0 P w K mg base N x (aL st) f cdv A outer s H E).nox O->dR k (A.deeper<|envOfC x (aL st) s.heap.objs.size f cdv)->sp vs H Q E->
   ∃t,PSs (mV CX0 P w K mg base N x (aL st) f cdv A outer s H E).nox (dG st) t/\t {nx:=λ_ H'=>Q .non H',rt:=Q} (start N vs) H):Def P w K mg base CX0 (k+1) x ps sp:=by
 obtain⟨f,fd,F,m⟩:=T.ex;refine⟨⟨f,fd,?_,m,F.kp,F.binds Y⟩⟩;obtain⟨oc,od,kV,doc,pm,an,cdv,ct,osl,rfl,lk,a⟩:=F.ex;refine dY lk a S len λA outer s H vs Q E i b=>?_
 obtain⟨⟨c,T',d⟩,hl⟩:=Option.isSome_iff_exists.mp U;obtain⟨e,g⟩:=Mh hl lk M;obtain⟨t,h,q⟩:=I f cdv A outer s H vs Q E ⟨c,T',d,0,hl,by rw[g];show _=#[_,_,Value.str (x++".<locals>."++"<lambda>") 0];rw[hq],e⟩ i b
 exact⟨t,h.nox,q⟩
end
def btK(ks:Nat->Int×Str)(i j:Nat):Bool:=aR (ks i).1 (ks i).2 (ks j).1 (ks j).2
section
variable{prog:Program}{w:World}{A:Around}{R:Result->Shared->Prop}
theorem DG(hh:A.handled=none)(hu:A.units+1<cLine){l it S:Addr}{vs:List Value}{I:Heap}{s0:Shared}(ks:Nat->Int×Str)(hl:I.IsList l vs.toArray)(hi:I.objs.size<=it)(hS:I.objs.size<=S)(n1:it≠S)
  (U:∀i v,vs[i]?=some v->∃p t u,v=.ref p/\IsTup I p #[.int (ks i).1 t,.str (ks i).2 u])
  (Y:∀v h' tk,vs[argBest (btK ks)<|vs.length-1]?=some v->(∀b o,I.get? b=some o->h'.get? b=some o)->R (.ok<|.ret v) {s0 with heap:=h',toks:=tk}) :
  ∀(n j:Nat) (h:Heap) (tk:Nat) (M:Value) (O:Nat),vs.length-(j+1)=n->j+1<=vs.length->(∀b o,I.get? b=some o->h.get? b=some o)->h.IsListIter it l (j+1)->h.get? S=some (seqObj "list" #[M,M] O)->
   vs[argBest (btK ks) j]?=some M->codeAny (model prog w) A (.builtin "min.loop" ⟨[.ref it,.none,.ref S],[]⟩) R {s0 with heap:=h,toks:=tk}:=by
 have d:(toString "min"++toString ".loop":String)="min.loop":=by decide
 have s:∀b o,I.get? b=some o->b≠it:=λb o e=>zaS (zaF (zaq e) hi)
 have y:∀b o,I.get? b=some o->b≠S:=λb o e=>zaS (zaF (zaq e) hS)
 have lst:∀h:Heap,(∀b o,I.get? b=some o->h.get? b=some o)->h.IsList l vs.toArray:=λh k=>by
  obtain⟨o,e,r⟩:=hl;exact⟨o,k _ _ e,r⟩
 intro n
 induction n with
 |zero=>
  intro j h tk M O hn W kp li c C
  walk_at "q7"
  show wpAny _ A.in1 (seqItems? (.ref S)>>=_) _ _ _;refine zaI (wpAny_seqItems c rfl ?_);show wpAny _ A.in1 (tryCatch (pyNext<|.ref it) _>>=_) _ _ _;refine zaI (wpAny_tryCatch<|wpAny_pyNext_list_end (show A.in1.handled=none from hh) li (lst h kp) (by simp;lia) λh' K=>?_)
  have E:h'.get? S=some (seqObj "list" #[M,M] O):=K S _ (Ne.symm n1) c;have s1:=Heap.SameBut.update h' S (Obj.mapSeq λ_=>(#[]:Array Value))
  show wpAny _ A.in1 (updateSeq S (λ_=>#[])>>=_) _ _ _
  refine zaI ?_;refine wpAny_updateSeq E rfl (zaI<|wpAny_letGo<|zaZ ?_);refine Y M _ _ (by rw[show vs.length-1=j by lia];exact C) λb o e=>(s1.2 b<|y b o e).trans (K b o (s b o e)<|kp b o e)
 |succ n N=>
  intro j h tk M O hn W kp li c C;have f:j+1<vs.length:=by lia
  walk_at "q7"
  show wpAny _ A.in1 (seqItems? (.ref S)>>=_) _ _ _;refine zaI (wpAny_seqItems c rfl ?_);show wpAny _ A.in1 (tryCatch (pyNext<|.ref it) _>>=_) _ _ _;refine zaI (wpAny_tryCatch<|wpAny_pyNext_list_item li (lst h kp) (x:=vs[j+1]) (by simp) λh' B sb=>?_)
  have q:∀b o,I.get? b=some o->h'.get? b=some o:=λb o e=>(sb.2 b<|s b o e).trans (kp b o e)
  have g:h'.get? S=some (seqObj "list" #[M,M] O):=(sb.2 S<|Ne.symm n1).trans c;obtain⟨a,t1,u1,J,Z⟩:=U (j+1) _ (zaC f);obtain⟨p2,t2,u2,T,q2⟩:=U _ _ C;subst T;have up:∀{p:Addr} {xs:Array Value},IsTup I p xs->IsTup h' p xs:=fun{p xs} ⟨o,e,r⟩=>⟨o,q _ _ e,r⟩
  have G:vs[j+1]?=some (.ref a):=by rw[zaC f,J]
  rw[J];show wpAny _ A.in1 (tryCatch (holding [.ref a,.ref a]<|richCompare .Lt (.ref a) (.ref p2)>>=_) _>>=_) _ _ _;refine zaI (wpAny_tryCatch<|wpAny_holding<|zaI<|uE (up Z) (up q2) hu ?_);refine zaI (wpAny_holding<|wpAny_truthy_bool ?_);refine zaI (wpAny_letGo<|zaZ ?_);cases L:aR (ks<|j+1).1 (ks<|j+1).2 (ks<|argBest (btK ks) j).1 (ks<|argBest (btK ks) j).2 with
  |true=>
   simp only[if_true];have m:btK ks (j+1) (argBest (btK ks) j)=true:=L;have s1:=Heap.SameBut.update h' S (Obj.mapSeq λ_=>#[Value.ref a,.ref a])
   obtain⟨D,H⟩:∃D,(h'.update S<|Obj.mapSeq λ_=>#[Value.ref a,.ref a]).get? S=some (seqObj "list" #[Value.ref a,.ref a] D):=⟨_,get?_update_seq g λ_=>#[Value.ref a,.ref a]⟩
   refine zaI ?_;refine wpAny_updateSeq g rfl (zaI<|wpAny_letGo ?_);rw[d];obtain⟨X,V,P,Q⟩:=id B;exact zaZ ⟨plainId_quiet PySem.F.plain_min_loop _,N (j+1) _ _ (.ref a) D (by lia) f (λb o e=>(s1.2 b<|y b o e).trans<|q b o e) ⟨X,(s1.2 it n1).trans V,P,Q⟩ H (by simp only[argBest,m,if_true];exact G)⟩
  |false=>
   simp only[Bool.false_eq_true,if_false];have m:btK ks (j+1) (argBest (btK ks) j)=false:=L;refine zaI (wpAny_letGo ?_);rw[d];exact zaZ ⟨plainId_quiet PySem.F.plain_min_loop _,N (j+1) _ _ (.ref p2) O (by lia) f q B g (by simp only[argBest,m,Bool.false_eq_true,if_false];exact C)⟩
end
section
variable{X:Cx}{K:zag}
def K8(K:zag):List V->Hp->VK->Prop:=λvs H Q=>∃(a:Addr) (xs:List V) (ks:Nat->Int×Str) (v:V),vs=[.ref a]/\SqL K H a xs/\(∀(i:Nat) (x:V),xs[i]?=some x->∃p,x=.ref p/\SqT K H p [.int (ks i).1,.str (ks i).2])/\
 xs[argBest (btK ks)<|xs.length-1]?=some v/\Q v H
theorem DH(h:X.K=K)(hc:X.calm=true)(hu:X.A.units+1<cLine):dJ X (.builtin "min") (K8 K):=by
 subst h;intro V0 s σ H vs us Q I r h;obtain⟨a,xs,ks,v,rfl,sq,ht,V,q⟩:=h;obtain⟨u,rfl,ra⟩:=vals1 r;obtain rfl:u=Value.ref a:=ra;obtain⟨c,P,p,hz⟩:=I.list sq;have y:=P.length;have f:(toString "min"++toString ".loop":String)="min.loop":=by decide
 have hb0 : 0<xs.length:=Nat.lt_of_le_of_lt (Nat.zero_le _) (zac V).1;have tup:∀i v,c[i]?=some v->∃p t u,v=.ref p/\IsTup s.heap p #[.int (ks i).1 t,.str (ks i).2 u]:=λi v hi=>by
  have B:i<xs.length:=by rw[y];exact(zac hi).1
  obtain⟨u',g,j⟩:=P.get (zaC B);rw[hi]at g;cases g
  obtain⟨pp,e,hs⟩:=ht i _ (zaC B);rw[e]at j;obtain rfl:v=Value.ref pp:=j;obtain⟨is,E,p1,_⟩:=I.tuple hs;cases E with
  |cons W E=>
   cases E with
   |cons Z E=>
    cases E;obtain⟨k1,rfl⟩:=W;obtain⟨k2,rfl⟩:=Z;exact⟨pp,k1,k2,rfl,p1⟩
 refine call_function_tree PySem.F.kind_min PySem.F.plain_min PySem.F.entry_min (PySem.F.args_min1 _) ?_
 show wpAny _ X.A.in1 (Builtin.Builtins.bindParams "min" ["key","default"] 0 ⟨[],[]⟩>>=_) _ _ s;refine zaI (wpAny_of_eq (show Builtin.Builtins.bindParams "min" ["key","default"] 0 ⟨[],[]⟩=pure [none,none]from rfl) ?_);refine zaI (zaZ ?_);refine zaI (wpAny_pyIter_list p.isList ?_);refine zaI (wpAny_newList ?_ (Nat.zero_le _));rw[f];refine zaZ ⟨plainId_quiet PySem.F.plain_min_loop _,?_⟩;generalize l:s.heap.push {cls:=.type "list_iterator",data:=.fields #[.ref a,.int 0 0]}=d;have Y:d.objs.size=s.heap.objs.size+1:=by rw[<-l,Heap.size_push]
 have D:∀b o,s.heap.get? b=some o->(d.push<|seqObj "list" #[] 0).get? b=some o:=λb o e=>zar _ (by rw[<-l];exact zar _ e)
 have gI:(d.push<|seqObj "list" #[] 0).get? s.heap.objs.size=some {cls:=.type "list_iterator",data:=.fields #[.ref a,.int 0 0]}:=zar _ (by rw[<-l];exact zaL _ rfl)
 have S:(d.push<|seqObj "list" #[] 0).get? d.objs.size=some (seqObj "list" #[] 0):=zaL _ rfl;have n1:s.heap.objs.size≠d.objs.size:=by lia
 walk_at "q7"
 show wpAny _ X.A.in1 (seqItems? (.ref _)>>=_) _ _ _;refine zaI (wpAny_seqItems S rfl ?_);show wpAny _ X.A.in1 (tryCatch (pyNext<|.ref s.heap.objs.size) _>>=_) _ _ _;have w : 0<c.length:=by lia
 have pl:(d.push<|seqObj "list" #[] 0).IsList a c.toArray:=by
  obtain⟨o,e,r⟩:=p.isList;exact⟨o,D _ _ e,r⟩
 refine zaI (wpAny_tryCatch<|wpAny_pyNext_list_item (it:=s.heap.objs.size) (i:=0) ⟨_,gI,rfl,rfl⟩ pl (x:=c[0]) (by simp) λh' R sb=>?_)
 have m:h'.get? d.objs.size=some (seqObj "list" #[] 0):=(sb.2 _<|Ne.symm n1).trans S;have G:=Heap.SameBut.update h' d.objs.size (Obj.mapSeq λ_=>#[c[0],c[0]])
 obtain⟨J,L⟩:∃J,(h'.update d.objs.size<|Obj.mapSeq λ_=>#[c[0],c[0]]).get? d.objs.size=some (seqObj "list" #[c[0],c[0]] J):=⟨_,get?_update_seq m λ_=>#[c[0],c[0]]⟩
 show wpAny _ X.A.in1 (updateSeq d.objs.size (λ_=>#[c[0],c[0]])>>=_) _ _ _
 refine zaI ?_;refine wpAny_updateSeq m rfl ?_;rw[f];obtain⟨oi,U,M,O⟩:=id R;have kp:∀b o,s.heap.get? b=some o->(h'.update d.objs.size<|Obj.mapSeq λ_=>#[c[0],c[0]]).get? b=some o:=λb o e=>by
  have T:=zaq e;exact(G.2 b<|zaS (by rw[Y];exact Nat.lt_succ_of_lt T)).trans ((sb.2 b<|zaS T).trans<|D b o e)
 refine zaZ ⟨plainId_quiet PySem.F.plain_min_loop _,DG (s0:=s) (I.ok.hd hc) hu ks p.isList (zap _) (by lia) n1 tup (λv' h2 tk2 C N=>?_) _ 0 _ _ c[0] J rfl w kp ⟨oi,(G.2 _ n1).trans U,M,O⟩ L<|zaC w⟩
 rw[<-y]at C;obtain⟨u',g,j⟩:=P.get V;rw[C]at g;cases g;exact⟨v,H,I.kept N,j,q⟩
end
end L2
namespace Mir
open L2
section
variable [Zc]
def yu(e:PM)(ρn:Rho):List D->Option (List<|D×Int×Str)
 | []=>some []
 |d::ds=>(sv e (.fz d::ρn)).bind λy=>match y.1 with
  |(.tuple [.int i,.str z],.fz)=>(yu e ρn ds).map ((d,i,z)::·)
  |_=>none
def mQ:D×Int×Str->List (D×Int×Str)->D×Int×Str
 |b,[]=>b
 |b,c::r=>mQ (if aR c.2.1 c.2.2 b.2.1 b.2.2=true then c else b) r
def Gz(fr:List<|Str×Nat)(l e:PM):PM:=fun ρ=>(l ρ).bind λx=>match x.1 with
 |(.list ds,.fz)=>(yu e (fr.map λp=>bQ x.2 p.2) ds).bind λks=>match ks with
  |b::r=>some (((mQ b r).1,.fz),x.2)
  | []=>none
 |_=>none
theorem uF(h:yu e I (d::ds)=some ks) :
  ∃y i z r,sv e (.fz d::I)=some y/\y.1=(.tuple [.int i,.str z],.fz)/\yu e I ds=some r/\ks=(d,i,z)::r:=by
 obtain⟨y,b,a⟩:=zaa (show(sv e (.fz d::I)).bind _=some ks from h);split at a
 ·rename_i i z c
  obtain⟨r,h3,h4⟩:=zab a;exact⟨y,i,z,r,b,c,h3,h4.symm⟩
 ·cases a
theorem rV(h:Rep B v<|.tuple [.int i,.str z]):∃p,v=.ref p/\B p=some (.tup [.int i,.str z]):=by
 cases h with
 |tup h r=>
  cases r with
  |cons a r=>
   cases r with
   |cons b r=>
    cases r;cases a;cases b;exact⟨_,rfl,h⟩
theorem Rel.tabs(R:Rel F B H σ ρ)(M:aH H I)(O:∀b,H b=none->I b=none\/∃m,I b=some (.tbl m)):Rel F B I σ ρ:=by
 have back:∀q o,I q=some o->(∀m,o≠.tbl m)->H q=some o:=λq o h n=>by
  cases e:H q with
  |some u=>rw[M q u e]at h;exact h
  |none=>
   rcases O q e with z|⟨m,z⟩
   ·rw[z]at h;cases h
   ·rw[z]at h;cases h;exact absurd rfl (n m)
 exact R.grow (aH.refl _) M (R.sub.trans M) (λq _ z=>z) (λq xs h=>R.cL q xs<|back q _ h λm z=>by cases z) λq o u h z=>by rw[back q _ h λm z=>by cases z]at z;cases z
theorem JD(hl:ME tl l)(he:ME te e):ME (K5 K fr tl te) (Gz fr l e):=by
 intro F B H σ ρ r0 ρ' Q R m q;obtain⟨x,e1,m⟩:=zaa m;obtain⟨r1,d⟩:=x;split at m
 case h_2=>cases m
 rename_i ds hx
 obtain rfl:r1=(.list ds,.fz):=hx;obtain⟨ks,N,m⟩:=zaa m;split at m
 case h_2=>cases m
 rename_i b0 M
 cases m;refine hl F B H σ ρ _ d _ R e1 λv s J E1 R1 V1 N1=>?_
 have V1':Rep s v (.list ds):=V1;cases V1' with
 |lst S o=>
 rename_i a xs
 match ds,o,N with
 | [],_,N=>cases N
 |d0::ds,.cons (x:=v0) (xs:=xs) D o,N=>
 obtain⟨y,T,Z,r,k1,k2,k3,k4⟩:=uF N;obtain⟨rfl,rfl⟩:b0=(d0,T,Z)/\M=r:=by cases k4;exact⟨rfl,rfl⟩
 refine⟨a,v0::xs,v0,rfl,i8<|fB R1.sub S,rfl,λH2 sm nn=>?_⟩
 have R2:Rel F s H2 σ d:=R1.tabs sm nn;have Ri:=R2.inner fr D;refine he.sv (F0 H2) s H2 _ _ y.1 y.2 _ Ri k1 λu I H3 O R3 V3 N3=>?_
 obtain⟨P,W⟩:=me jZ O;have R3o:Rel F I H3 σ d:=R2.grow O.sB P R3.sub W R3.cL R3.nz;rw[k2]at V3;have V3':Rep I u (.tuple [.int T,.str Z]):=V3;have nbA:∀q,J q≠none->s q=none->I q=none:=λq h z=>W q (λy=>h<|sm.free y) z
 refine⟨λi b kb w=>1<=i/\i<=(d0::ds).length/\∃f g T1,aH s f/\aH J w/\(∀q,J q≠none->s q=none->f q=none)/\Rel F f w σ d/\Rep f b g.1/\Rep f kb (.tuple [.int g.2.1,.str g.2.2])/\
   yu e (fr.map λp=>bQ d p.2) ((d0::ds).drop i)=some T1/\mQ g T1=mQ (d0,T,Z) M,
  ⟨zap _,by simp,I,(d0,T,Z),M,O.sB,sm.trans P,nbA,R3o,D.mono O.sB,V3',k3,rfl⟩,?_⟩
 rintro i b kb w ⟨h1,hil,f,g,T1,eB,eH,nb,U,rb,rk,hk,E⟩
 refine⟨i8<|fB U.sub<|fB eB S,λhle=>?_,λv hv=>?_⟩
 ·have hi:i=(d0::ds).length:=by
   have:=o.length;simp only[List.length_cons]at hle hil⊢
   lia
  rw[hi,List.drop_length]at hk;cases hk;have E4:Ext σ d s J d f w:=Ext.grow eB eH nb;refine q b f w (E1.trans E4) U ?_ (λp z=>by cases z)
  show Rep f b (mQ (d0,T,Z) M).1;rw[<-E];exact rb
 ·obtain⟨c,hc,rc⟩:=(a6.cons D o).Ms i v hv
  have C:i<(d0::ds).length:=(zac hc).1;rw[zbb C]at hk;have hce:(d0::ds)[i]=c:=(zac hc).2;rw[hce]at hk;obtain⟨y',i',z',r',k1',k2',V,k4'⟩:=uF hk;subst k4';have Ri':=U.inner fr (rc.mono eB);refine he.sv (F0 w) f w _ _ y'.1 y'.2 _ Ri' k1' λu' G H5 t R5 V5 N5=>?_
  obtain⟨A,X⟩:=me jZ t;have j:Rel F G H5 σ d:=U.grow t.sB A R5.sub X R5.cL R5.nz;rw[k2']at V5;have L:Rep G u' (.tuple [.int i',.str z']):=V5;obtain⟨pu,rfl,hpu⟩:=rV L;obtain⟨pk,rfl,hpk⟩:=rV (rk.mono t.sB);have Pk:∀q,J q≠none->s q=none->G q=none:=λq h z=>X q (λy=>h<|eH.free y) (nb q h z)
  refine⟨pu,pk,i',z',g.2.1,g.2.2,rfl,rfl,.inl<|.inl<|j.sub _ _ hpu,.inl<|.inl<|j.sub _ _ hpk,_,rfl,?_⟩;simp only[mQ]at E
  by_cases Y:aR i' z' g.2.1 g.2.2=true
  ·rw[if_pos Y]
   rw[if_pos Y]at E;exact⟨by lia,C,G,(c,i',z'),r',eB.trans t.sB,eH.trans A,Pk,j,(rc.mono eB).mono t.sB,L,V,E⟩
  ·rw[if_neg Y]
   rw[if_neg Y]at E;exact⟨by lia,C,G,g,r',eB.trans t.sB,eH.trans A,Pk,j,rb.mono t.sB,rk.mono t.sB,V,E⟩
end
end Mir
namespace L2
def dR.lam(r:dR k A)(h:j+2<=k)(env:Env):dR j (A.in1.deeper env):=(dR.in1 (k:=j+1)<|r.mono h).deeper env
theorem JE{I:List Addr}{h:Heap}(e:((gW K).all λx=>I.contains x.2.1)=true)(t:∀T∈I,h.get? T=some (PySem.W.tabObj #[])):∀c T ps,gW K=some (c,T,ps)->h.get? T=some (PySem.W.tabObj #[]):=λc T ps z=>by
 rw[z]at e;exact t T (by simpa using e)
end L2
namespace Mir
open L2
section
variable [Zc]
def pairD:D->Option (Int×Str)
 | .tuple [.int i,.str z]=>some (i,z)
 |_=>none
def pkD(ds:List D)(i:Nat):Int×Str:=((ds[i]?).bind pairD).getD (0,"")
def uG:List D->Option (D×Bool)
 | [.list ds]=>if(ds.all λd=>(pairD d).isSome)=true then(ds[argBest (btK<|pkD ds)<|ds.length-1]?).map λd=>(d,false)else none
 |_=>none
theorem GA(h:pairD d=some p):d=.tuple [.int p.1,.str p.2]:=by
 unfold pairD at h;split at h
 ·cases h;rfl
 ·cases h
theorem Nn:kT (K8 K) uG:=by
 intro B H vs ds G s h e;unfold uG at e;split at e
 ·rename_i l
  split at e
  ·rename_i b
   obtain⟨d,t,u⟩:=zab e;cases u;obtain⟨v,rfl,C⟩:=iH h;obtain⟨p,xs,rfl,A,g⟩:=C.list s;obtain⟨x,m,F⟩:=g.get _ d t;rw[<-g.length]at m;refine⟨x,F,λQ q=>⟨p,xs,pkD l,x,rfl,i8 A,λi y D=>?_,m,q⟩⟩
   obtain⟨c,j,o⟩:=g.Ms i y D;have w:=List.all_eq_true.mp b c (zaj j);obtain⟨E,f⟩:=Option.isSome_iff_exists.mp w;have r:pkD l i=E:=by unfold pkD;rw[j];show(pairD c).getD _=_;rw[f];rfl
   rw[GA f]at o;obtain⟨a,rfl,ha⟩:=rV o;exact⟨a,rfl,by rw[r];exact .inl (.inl<|s _ _ ha)⟩
  ·cases e
 ·cases e
end
end Mir
namespace L2
open PySem.Spec PyProof.Rows
def Its(x:Str):It:=⟨λi _=>i<x.cps.size,λi H v H'=>H'=H/\∃c,x.cps[i]?=some c/\v=.str ⟨#[c]⟩,λi _=>x.cps.size<=i⟩
theorem DI{K:zag}{tg:Expr}{it:Addr}{x:Str}{t:Tok}{T:String}(M:∀A:Around,A.handled=none->Walks P w A it [it] [it] x.cps.size (SignAt x) λi h=>h.IsStrIter it T x t i)
  (U : ["enumerate","zip","dict_itemiterator","dict_reverseitemiterator","odict_iterator","itertools.zip_longest","itertools.pairwise"].contains T=false)
  (O:∀(A:Around) (i:Nat) (s:Shared) (Q:Value->Shared->Prop) (E:Value->Shared->Prop),s.heap.IsStrIter it T x t i->Q (.ref it) s->wpAny (model P w) A (pyIter<|.ref it) Q E s) :
  Turn P w K tg (Its x) [it] it (λi h=>i<=x.cps.size/\h.IsStrIter it T x t i) where
 mem:=by simp
 obj:=λi h st b a=>by
  have e:b=it:=by simpa using a
  subst e;obtain⟨_,o,e,c,d⟩:=st;exact⟨o,e,λv z=>by rw[d]at z;cases z⟩
 keep:=λi h h' st k=>by
  obtain⟨hi,o,e,c,d⟩:=st;exact⟨hi,o,k it (by simp) o e,c,d⟩
 item:=by
  walk_at "q8"
  obtain⟨f0,f1,f2,m,n,p⟩:=f it (by simp)
  refine(M X.A<|I.ok.hd l).item i s _ _ g st.2 λv h' tk D j r=>?_
  obtain⟨c,u,q,rfl⟩:=D;have y:Inv X V0 σ H {s with heap:=h',toks:=tk}:=I.turned (λb o a e=>r b o (by simpa using a) e) f0 f1 m n p
  obtain⟨o,e,B,C⟩:=id j;exact⟨_,rfl,xb (s:={s with heap:=h',toks:=tk}) e B C U ⟨.str ⟨#[c]⟩,H,y,⟨u,rfl⟩,⟨rfl,c,q,rfl⟩,⟨g,j⟩,λb a=>(f b a).1⟩⟩
 done:=by
  walk_at "q8"
  obtain⟨f0,f1,f2,m,n,p⟩:=f it (by simp)
  have hi:i=x.cps.size:=Nat.le_antisymm st.1 g;subst hi;exact(M X.A<|I.ok.hd l).done s _ _ st.2 λh' tk r=>⟨rfl,I.turned (λb o a e=>r b o (by simpa using a) e) f0 f1 m n p⟩
 self:=λA i s Q E st h=>O A i s Q E st.2 h
section
variable{X:Cx}{tg:Expr}
def Pl(te:TE):TI:=fun σ H R=>te σ H λv D=>∃x,v=.str x/\R (Its x) D
theorem Np(hl:PE X l tl):PI X tg l (Pl tl):=by
 intro V0 s σ H R I h;refine thn (hl V0 s σ H _ I h) λv s1 ⟨y,g,c,B,u⟩=>?_
 obtain⟨x,rfl,q⟩:=u;obtain⟨t,rfl⟩:=B;have a:∀(o:Obj) (T:String),(∀A:Around,A.handled=none->Walks X.prog X.w A s1.heap.objs.size [s1.heap.objs.size] [s1.heap.objs.size] x.cps.size (SignAt x) λi h=>h.IsStrIter s1.heap.objs.size T x t i)->
   ["enumerate","zip","dict_itemiterator","dict_reverseitemiterator","odict_iterator","itertools.zip_longest","itertools.pairwise"].contains T=false->
   (∀(A:Around) (i:Nat) (s:Shared) (Q:Value->Shared->Prop) (E:Value->Shared->Prop),s.heap.IsStrIter s1.heap.objs.size T x t i->Q (.ref s1.heap.objs.size) s->wpAny (model X.prog X.w) A (pyIter<|.ref s1.heap.objs.size) Q E s)->
   (s1.heap.push o).IsStrIter s1.heap.objs.size T x t 0->PIE X V0 σ tg R (.ref s1.heap.objs.size) {s1 with heap:=s1.heap.push o}:=λo T p m j st=>
  ⟨s1.heap.objs.size,[s1.heap.objs.size],_,_,g,rfl,c.kept (t':=s1.toks) λb o e=>zar _ e,DI p m j,⟨Nat.zero_le _,st⟩,λb r=>by
   have e:b=s1.heap.objs.size:=by simpa using r
   subst e;exact c.tj (zap _) (c.hok.fresh<|zap _),q⟩
 cases ha:x.cps.all (· <128)
 ·exact wpAny_pyIter_wide ha (a _ _ (λA' d=>Walks.strWide d _ x t) (by decide) (λ_ _ _ _ _ st f=>wpAny_pyIter_striter_wide st f) ⟨_,zaL _ rfl,rfl,rfl⟩)
 ·exact wpAny_pyIter_ascii ha (a _ _ (λA' d=>Walks.strAscii d _ x t) (by decide) (λ_ _ _ _ _ st f=>wpAny_pyIter_striter_ascii st f) ⟨_,zaL _ rfl,rfl,rfl⟩)
def leS(x y:Str):Bool:=!decide (y.cps.toList<x.cps.toList)
def JF:R2:=λa b H Q=>∃x y,a=.str x/\b=.str y/\Q (.bl<|leS x y) H
theorem GB:OpR X (compareOp .LtE) JF:=by
 intro V0 s σ H x y v u Q I c d h;obtain⟨a,b,rfl,rfl,q⟩:=h;obtain⟨e,rfl⟩:=c;obtain⟨f,rfl⟩:=d;exact PySem.P.le_str ⟨.bl<|leS a b,H,I,rfl,q⟩
end
end L2
namespace Mir
open L2
section
variable [Zc]
def pL(x:Str):List D:=x.cps.toList.map λc=>.str ⟨#[c]⟩
def Nq(a:PM):Rho->Option (List D×Rho):=fun ρ=>(sv a ρ).bind λx=>match x.1.1 with
 | .str z=>some (pL z,x.2)
 |_=>none
theorem Nr:tD G B (Its x) (pL x):=λH _=>by
 refine⟨by simp[pL,Its],λi d hd=>?_⟩
 unfold pL at hd;rw[zao]at hd;obtain⟨c,a,e⟩:=zab hd;rw[Array.getElem?_toList]at a;refine⟨(Array.getElem?_eq_some_iff.mp a).1,λv H' b=>.inl ⟨b.1,?_⟩⟩
 obtain⟨_,c',h3,h4⟩:=b;rw[a]at h3;cases h3;rw[h4,<-e];exact .str _
theorem Nt(ha:ME I a):MI (Pl I) (Nq a):=by
 intro F B H σ ρ ds ρ' Q R e q;obtain⟨x,G,e⟩:=zaa e;split at e
 ·rename_i z b
  cases e
  walk_at "q2"
  have w:=L.view f;rw[b]at w;exact⟨z,w.str,q _ E C A f Nr⟩
 ·cases e
def yw:D->D->Option (D×Bool)
 | .str x,.str y=>some (.bool<|leS x y,false)
 |_,_=>none
theorem K9:OpJ JF yw:=by
 intro B H x y c d f s a b e;unfold yw at e;split at e
 ·cases e
  have:=a.str;subst this
  have:=b.str;subst this
  exact fY λQ q=>⟨_,_,rfl,rfl,q⟩
 ·cases e
theorem DJ(h:JF x y H Q)(k:∀v H',Q v H'->I v H'):JF x y H I:=by
 obtain⟨a,b,c,d,q⟩:=h;exact⟨a,b,c,d,k _ _ q⟩
end
end Mir
namespace L2
open PySem.Spec PyProof.Rows
end L2
namespace Mir
open L2
section
variable [Zc]
def pM(m:PM)(j:Nat):Rho->Option (D×D):=fun ρ=>(m ρ).bind λx=>match x.1,x.2[j]? with
 |(c,.new),some (.own d)=>some (c,d)
 |_,_=>none
theorem BU(h:ME I m):MD (HN<|HW<|kS I<|kS (w6 j) qW) (pM m j):=by
 intro F B H σ ρ c E R e q;obtain⟨x,K,e⟩:=zaa e;obtain⟨r,b⟩:=x;split at e
 case h_2=>cases e
 rename_i J d1 N f
 cases e;obtain rfl:=(show r=(J,.new)from N);refine h F B H σ ρ _ b _ R K λv Q T S d C _=>?_
 obtain⟨p,rfl,G,L,u,P⟩:=C;obtain⟨s,l,D,t⟩:=d.slot j _ f;have g:p≠s:=λz=>P j _ f rfl (z▸l)
 refine⟨_,l,(by simp only[List.length_cons,List.length_nil,sizeLine];lia),λa ha=>?_⟩
 obtain⟨A,_,eB⟩:=d.xo (xs:=[.ref p,.ref s]) ha;have w:p≠a:=λz=>u.jX (z▸ha)
 have y:s≠a:=λz=>t.jX (z▸ha)
 refine q _ _ _ σ b A ⟨a,p,s,rfl,ay,g,L,d.mW j _ s f l,by rw[au w];exact G,by rw[au y];exact D,u.mono eB λo h=>by rw[au w];exact h,t.mono eB λo h=>by rw[au y];exact h⟩
end
end Mir
namespace L2
open PySem.Spec PyProof.Rows
def DK(Z0 more:List<|Key×V):List (Key×V):=more.foldl (λZ1 D=>putK Z1 D.1 D.2) Z0
theorem KV.mrg:∀{more:List<|Key×V} {I:List<|Key×Value} {Z0:List<|Key×V} {vs:List<|Key×Value},KV Z0 vs->KV more I->KV (DK Z0 more) (merged vs I)
 | [],[],_,_,r,_=>r
 |p::more,q::I,Z0,vs,r,h=>by
  cases h with
  |cons a b=>
   have e:KV (putK Z0 p.1 p.2) (stored vs q.1 q.2):=by
    rw[<-a.1];exact r.put p.1 a.2
   exact(KV.mrg e b:KV (DK (putK Z0 p.1 p.2) more)<|merged (stored vs q.1 q.2) I)
section
variable{X:Cx}
def La:V->List V->Hp->VK->Prop:=λx xs H Q=>∃a b Z0 more,x=.ref a/\xs=[.ref b]/\a≠b/\H a=some (.dK Z0)/\Rd H b (.dK more)/\Z0.length+more.length<=sizeLine/\Q .non (upd H a<|.dK<|DK Z0 more)
theorem JG:MtR X "dict.update" La:=by
 intro V0 s σ H x xs v us Q I u g h;obtain⟨a,b,Z0,more,rfl,rfl,ne,e,m,z,o⟩:=h;cases u;cases g with
 |cons t g=>
  cases g;cases t;obtain⟨y,hd,vs,rel,dd⟩:=yb I.hok e;obtain⟨A,f,j,i,d⟩:=nR I.hok m;have l1:=rel.length;have l2:=i.length;refine call_meetsIn PySem.F.slot_dict_update dd.typeIs PySem.F.entry_dict_update (PySem.F.args_dict_update_2 _ _) (meets_dict_update (bX X.prog X.w) a b ne f) ⟨vs,j,dd,d,by lia,λh' c _ hs=>?_⟩
  have p:∃q,h'.get? a=some q:=let⟨q,_,_,r,_⟩:=c;⟨q,r⟩
  have l:=KV.mrg rel i;refine⟨.non,_,nS I (by rw[e];exact True.intro) hs p<|rN ?_ hd l c,rfl,o⟩
  have:=merged_length_le vs j;rw[l.length];lia
end
end L2
namespace Mir
open L2
section
variable [Zc] [Zl]{W:WX}
def DM(es:List<|D×D):List (D×D)->Option (List<|D×D)
 | []=>some es
 |p::more=>(keyOf p.1).bind λk=>DM (putD es p.1 p.2 k) more
theorem bc.mrg:∀{more:List<|Key×V} {I:List<|D×D} {Z0:List<|Key×V} {es out:List<|D×D},bc B Z0 es->bc B more I->DM es I=some out->bc B (DK Z0 more) out
 |_,_,_,_,_,r,.nil,e=>by cases e;exact r
 |_,_,_,_,_,r,.cons (k:=k) hk d t,e=>by
  obtain⟨k',a,b⟩:=zaa e;have:k'=k:=by have:=hk.of;rw[this]at a;exact(zaQ a).symm
  subst this;exact(show bc B (DK (putK _ _ _) _) _ from bc.mrg (bc.put hk d r) t b)
def GC(k:Nat)(xs:List SV)(s:SS):Option (RR SV):=match xs with
 | [.lc j]=>if j=k then none else match s.S[k]?,s.S[j]? with
  |some (some (.dat (.dict es))),some (some (.dat (.dict D)))=>if es.length+D.length<=100000 then(DM es D).map λout=>.ok (.pl .none) ⟨s.S.set k<|some<|.dat<|.dict out,s.t⟩else none
  |_,_=>none
 |_=>none
def BV(a:EN)(m:MN<|List SV):EN:=bN a λx s=>match x with
 | .lc k=>if qm s.S k=true then bN m (λxs s2=>GC k xs s2) s else none
 |_=>none
theorem JH(ha:NE W I a)(h:NA W t m):NE W (tBM K "dict" La I t) (BV a m):=by
 walk_at "qc"
 ·rename_i k
  split at b
  ·rename_i hl
   cases l with
   |lc p=>
    refine⟨?_,?_⟩
    ·unfold qm at hl
     split at hl
     ·rename_i es hk
      cases f.st.cell k _ _ hk p with
      |dat C=>obtain⟨Z0,u,_⟩:=C.dict;exact .inr (.inr<|.inl ⟨rfl,.inl ⟨Z0,u⟩⟩)
     ·cases hl
    ·refine iG (t:=t) h f b w λvs xs J N Y s2 g2 V R2 r d O=>?_
     unfold GC at d;split at d
     ·rename_i j
      split at d
      ·cases d
      ·rename_i ne
       split at d
       ·rename_i es ms hk Z
        split at d
        ·rename_i hz
         obtain⟨out,S,T⟩:=zab d;cases T;cases r with
         |cons U r=>
          cases r;cases U with
          |lc g=>
           cases R2.st.cell k _ _ hk (g2 _ _ p)with
           |dat C=>
            cases R2.st.cell j _ _ Z g with
            |dat D=>
             obtain⟨Z0,u,E⟩:=C.dict;obtain⟨more,y,i⟩:=D.dict;have P:=R2.write (o:=.dK<|DK Z0 more) (c:=.dat<|.dict out) (g2 _ _ p) trivial (.dat<|.dct ay<|bc.mrg E i S);refine⟨_,_,Z0,more,rfl,rfl,?_,u,.inl y,?_,O .non J N _ (Gro.refl _) (aH.refl _) P<|.pl .non⟩
             ·intro z
              exact ne ((List.getElem?_inj (zac g).1 R2.st.nd).mp<|g.trans (by rw[<-z];exact(g2 _ _ p).symm))
             ·rw[E.length,i.length,sizeLine_eq];lia
        ·cases d
       ·cases d
     ·cases d
  ·cases b
 ·cases b
def lenV(S:List<|Option Cl):SV->Option Nat
 | .lc k=>match S[k]? with
  |some (some (.lst xs))=>some xs.length
  |some (some (.dat (.list ds)))=>some ds.length
  |_=>none
 |_=>none
end
end Mir
namespace L2
open PySem.Spec
end L2
namespace Mir
open L2
end Mir
namespace L2
open PySem.Spec PyProof.Rows
def JI(x y x3:Str)(fr:List<|Str×Nat):List Str:=x::y::x3::fr.map (·.1)
structure QP(X:Cx)(x0:Scope)(x y x3:Str)(fr:List<|Str×Nat):Prop where
 b:Blk X x0 x fr
 OW:x0.names.lookup y=some .local
 QG:x0.names.lookup x3=some .local
 nd3:(JI x y x3 fr).Nodup
structure QQ(P:Program)(w:World)(K:zag)(mg:Str->Option Value)(base:Heap)(CX:CXT)(k:Nat)(C:Addr)(m:Str)(ps:List Str)(dvs:List V)(sp:Sp):Prop where
 ex:∃(f:Addr) (fd:FuncData) (ds:List Value),mD P w K mg base CX k f fd ps sp/\Cls K C/\Meth K C m f/\Binds K fd ps ds/\Vals dvs ds
structure QH(P:Program)(w:World)(K:zag)(mg:Str->Option Value)(base:Heap)(CX:CXT)(k:Nat)(C:Addr)(m:Str)(ps ks:List Str)(gV:List V->List V->List V)(sp:Sp):Prop where
 ex:∃(f:Addr) (fd:FuncData) (g:List Value->List Value->List Value),mD P w K mg base CX k f fd ps sp/\Cls K C/\Meth K C m f/\L7 K fd ps ks g gV
structure QR(P:Program)(w:World)(K:zag)(mg:Str->Option Value)(base:Heap)(CX:CXT)(k:Nat)(x:Str)(C:Addr)(ps:List Str)(sp:Sp):Prop where
 ex:∃(f:Addr) (fd:FuncData),mD P w K mg base CX k f fd ps sp/\mg x=some (.ref C)/\Mk K C f/\Binds K fd ps []
structure Mem(K:zag)(x W1:Str)(st:Stmt)(f:Addr)(fd:FuncData)(dv:List V):Prop where
 ex:∃(oc:Value) (od:Option Addr) (dV kV doc pm:Value) (an:Option Addr) (cdv ct:Value) (osl:Array<|Option Value),
  fd=PySem.W.fnOf x W1 (gK st) (dG st) (aL st) dV kV doc pm an cdv ct/\K.lookup f=some ⟨oc,od,.func fd,osl⟩/\PySem.W.codeIn K cdv W1=true/\
  ((dv=[]/\dV=.none)\/dv≠[]/\∃T o items n,dV=.ref T/\K.lookup T=some o/\o.data=.seq items n/\Vals dv items.toList)
end L2
namespace Mir
open L2
section
variable [Zc] [Zl]{W:WX}
def rdE(S:List<|Option Cl):SV->Option D
 | .lc k=>match S[k]? with
  |some (some (.lst xs))=>(gq S xs).map .list
  |some (some (.dat d))=>some d
  |_=>none
 |x=>rdV S x
def JJ(S:List<|Option Cl):List SV->Option (List D)
 | []=>some []
 |x::xs=>(rdE S x).bind λd=>(JJ S xs).map λds=>d::ds
theorem JK{s:SS}(O:StO A B H s.S)(sub:aH B H){v:V}{x:SV}{d:D}(h:cZ A B v x)(e:rdE s.S x=some d):Rep H v d:=by
 cases h with
 |lc a=>
  rename_i k _
  simp only[rdE]at e;split at e
  ·rename_i xs hk
   obtain⟨ds,b,rfl⟩:=zab e;cases O.cell k _ _ hk a with
   |lst g rs=>exact .lst (.inl g) (jD O sub rs b)
  ·rename_i i hk
   cases e;exact j9 O sub (.lc a) (by simp only[rdV,hk])
  ·cases e
 |pl r=>exact j9 O sub (.pl r) e
 |tp c f=>exact j9 O sub (.tp c f) e
theorem yx{s:SS}(O:StO A B H s.S)(sub:aH B H):∀{vs:List V} {xs:List SV} {ds:List D},bM A B vs xs->JJ s.S xs=some ds->a6 H vs ds
 |_,_,_,.nil,e=>by cases e;exact .nil
 |_,_,_,.cons a b,e=>by
  obtain⟨d,c,e⟩:=zaa e;obtain⟨ds,f,rfl⟩:=zab e;exact .cons (JK O sub a c) (yx O sub b f)
def GD(S:List<|Option Cl):SV->Option (List D)
 | .lc k=>match S[k]? with
  |some (some (.lst xs))=>JJ S xs
  |_=>none
 |_=>none
theorem GF{s:SS}(O:StO A B H s.S)(sub:aH B H){v:V}{x:SV}{ds:List D}(h:cZ A B v x)(e:GD s.S x=some ds):∃p vs,v=.ref p/\Rd H p (.lst vs)/\a6 H vs ds:=by
 unfold GD at e;split at e
 ·rename_i k
  cases h with
  |lc a=>
   split at e
   ·rename_i xs hk
    cases O.cell k _ _ hk a with
    |lst b rs=>exact⟨_,_,rfl,.inl b,yx O sub rs e⟩
   ·cases e
 ·cases e
def DN(fr:List<|Str×Nat)(a:EN)(c:Rho->Option (Bool×Rho))(e:PM):EN:=bN a λx s=>(GD s.S x).bind λds=>(gY c e (fr.map λp=>bQ (vw s) p.2) ds).bind λD=>cIf (D.length<sizeLine) (if a8 D=true then some (newD (.list D) s)else none) none
theorem Nu(ha:NE W I a)(M:MT tc c)(O:ME U e):NE W (tLC fr (xc K I) tc U) (DN fr a c e):=by
 intro G A B H σ s r0 Q R D q;refine iG (t:=I) ha R D q λx v Z i m s1 g1 J d C b X=>?_
 obtain⟨ds,E,b⟩:=zaa b;obtain⟨l,F,b⟩:=zaa b;obtain⟨S,b⟩:=cO b;split at b
 case isFalse=>cases b
 rename_i P
 cases b;obtain⟨p,vs,rfl,hl,rs⟩:=GF d.st d.sub C E;refine⟨_,rfl,⟨_,i8 hl⟩,?_⟩;refine Be M O d.opn (Fh hl rs) F S λu B' H' Y r y _=>?_
 obtain⟨R2,eB,eH,T⟩:=d.back r;obtain⟨p,rfl,hB,N,j,_⟩:=y;have h:m p=none:=N;obtain⟨n1,n2,n3⟩:=d.pA h;have f:=j.cP T (show dk (.list l) true=true from P);obtain⟨o,ho,V⟩:=f.mx;have g:tbu i H' p=none:=by
  cases L:tbu i H' p with
  |none=>rfl
  |some o'=>
   rcases jn L with h3|⟨_,xs,rfl,h3⟩
   ·rw[n3]at h3;cases h3
   ·exact absurd h3 (j.xn xs)
 have w:=R2.take (c:=.dat<|.list l) n1 n2 g ho V (.dat f);exact X _ _ _ H' (Gro.app _ _) eB w (.lc (by rw[<-d.st.len];exact List.getElem?_concat_length))
end
variable [Zc]
end Mir
namespace L2
open PySem.W PySem.Calls PySem.Spec PyProof.Rows
open PySem.AutoSeq1 (wpAny_loadPart')
theorem tuple_addW0(l b:Addr)(items I:Array Value)(n n2:Nat)(dd M:Option Addr)(sl O:Array<|Option Value)(U:items.isEmpty=true) :
  Meets (Builtin.«tuple.__add__» ⟨[.ref l,.ref b],[]⟩) (λ_ R s=>s.heap.get? l=some {cls:=.type "tuple",dict:=dd,data:=.seq items n,slots:=sl}/\s.heap.get? b=some {cls:=.type "tuple",dict:=M,data:=.seq I n2,slots:=O}/\R (.ok<|.ret<|Value.ref b) s) :=
 .of_wp λprog w A R s h=>by
  obtain⟨c,g,d,tk,os⟩:=s;obtain⟨hl,a,h⟩:=h
  have f2:=PySem.AutoSeq1.sub_tuple_tuple
  wp_walk using wpAny_loadPart' hl,wpAny_loadPart' a
  exact⟨_,rfl,h⟩
section
variable{prog:Program}{w:World}{A:Around}{E:Value->Shared->Prop}{s:Shared}
theorem GG{ws:List Value}(O:IsTup s.heap t ([]:List Value).toArray)(M:IsTup s.heap b ws.toArray)(I:Q (.ref b) s):wpAny (model prog w) A (binaryOp .Add (.ref t)<|.ref b) Q E s:=by
 obtain⟨⟨cls,dd,data,sl⟩,ho,h,n,hd⟩:=id O;obtain⟨⟨g,e,data2,f⟩,d,a,n2,c⟩:=id M;simp only at h hd a c;subst h hd a c;exact concat_meets ⟨_,ho,rfl⟩ ⟨_,d,rfl⟩ noFill_tuple_add seq_tuple_add PySem.F.slot_tuple_add PySem.F.entry_tuple_add (PySem.F.args_tuple_add_2 _ _)
   (tuple_addW0 t b _ ws.toArray n n2 dd e sl f rfl) ⟨ho,d,I⟩
end
def Lb(K:zag):R2:=λx y H Q=>∃a b D,x=.ref a/\y=.ref b/\SqT K H a []/\SqT K H b D/\Q (.ref b) H
section
variable{X:Cx}
theorem JL:OpR X (binaryOp .Add) (Lb X.K):=by
 intro V0 s σ H x y v u Q I g i h;obtain⟨a,b,l,rfl,rfl,ha,d,q⟩:=h;cases g;cases i;obtain⟨j,f,e,_⟩:=I.tuple ha;obtain⟨c,k,p2,_⟩:=I.tuple d;cases f;exact GG e p2 ⟨.ref b,H,I,rfl,q⟩
def GH(K:zag):R2:=λx y H Q=>Mir.rj K x y H Q\/Lb K x y H Q
def GI{K:zag}(h:X.K=K):OpR X (binaryOp .Add) (GH K):=h▸Mir.Bh.or JL
end
end L2
namespace Mir
open L2
variable [Zc]
def yy:D->D->Option (D×Bool)
 | .tuple [],.tuple b=>some (.tuple b,false)
 |x,y=>dU x y
theorem Nv:OpJ (GH K) yy:=by
 intro B H x y c d j s l m e;unfold yy at e;split at e
 ·rename_i b
  cases e;obtain⟨p,xs,rfl,u,i⟩:=l.tuple s;cases i;have g:Rep B y (.tuple b):=by
   rcases m with h|⟨p,rfl,h⟩
   ·exact h
   ·cases h
  refine⟨y,g,λQ q=>.inr ?_⟩
  cases g with
  |tup h r=>
   exact⟨_,_,_,rfl,rfl,.inl<|.inl u,.inl<|.inl<|s _ _ h,q⟩
 ·have:=d9 (K:=K) B H x y c d j s l m e
  obtain⟨t,o⟩:=j;cases o with
  |false=>obtain⟨v,a,f⟩:=this;exact⟨v,a,λQ q=>.inl<|f Q q⟩
  |true=>
   cases t with
   |list ds=>obtain⟨v,a,f⟩:=this;exact⟨v,a,λQ q=>.inl<|f Q q⟩
   |tuple ds=>obtain⟨v,a,f⟩:=this;exact⟨v,a,λQ q=>.inl<|f Q q⟩
   |dict ds=>obtain⟨v,a,f⟩:=this;exact⟨v,a,λQ q=>.inl<|f Q q⟩
   |_=>exact this
theorem DO(a b:List D)(h:a.length+b.length<=100000)(I:b≠[]):∃o,yy (.tuple a) (.tuple b)=some (.tuple<|a++b,o):=by
 cases a with
 |nil=>exact⟨false,rfl⟩
 |cons c a=>exact⟨true,by show cIf _ _ _=_;rw[bA ⟨rq h,I⟩]⟩
end Mir
namespace Mir
open L2
section
variable [Zc]
def Ag(N:List Nat)(σ M:St):Prop:=M.length=σ.length/\∀n,n∉N->M[n]?=σ[n]?
def Qs(N:List Nat)(M:St)(F:Fr)(D:Ends):Out->Prop
 | .nx ρ=>∀B H σ,Rel F B H σ ρ->Ag N M σ->D.nx σ H
 | .rt r ρ=>∀v B H σ,Rel F B H σ ρ->Val F B H σ ρ v r->D.rt v H
 | .bk ρ=>∀B H σ,Rel F B H σ ρ->Ag N M σ->D.bk σ H
 | .ct ρ=>∀B H σ,Rel F B H σ ρ->Ag N M σ->D.ct σ H
variable{N:List Nat}
structure QS(F:Fr)(B H:Hp)(σ:St)(ρ:Rho)(i:Nat)(ps:List Addr)(b:Nat):Prop where
 here:∃a,σ[i]?=some (some<|.ref a)/\H a=some (.tup<|ps.map .ref)
 lst:∀p∈ps,∃xs,H p=some (.lst xs)/\xs.length<=b
 out:∀p∈ps,B p=none/\F.H p=none
 free:∀p∈ps,∀(n:Nat) (s:Sl),ρ[n]?=some s->s.isRef=true->σ[n]?≠some (some<|.ref p)
structure Sv(N:List Nat)(i:Nat)(F:Fr)(Bs:Hp)(σs:St)(ρs:Rho)(ps:List Addr)(b:Nat)(B:Hp)(σ:St):Prop where
 slot:∀(n:Nat) (d:D),n≠i->ρs[n]?=some (.fz d)->∃v,σs[n]?=some (some v)/\Rep Bs v d
 sBs:aH F.B Bs
 nBs:∀q,F.H q≠none->F.B q=none->Bs q=none
 sB:aH Bs B
 ag:Ag N σs σ
 ni:i∉N
 here:∃a,σs[i]?=some (some<|.ref a)/\B a=some (.tup<|ps.map .ref)
 out:∀p∈ps,Bs p=none/\F.H p=none
 lst:∀p∈ps,∃xs,B p=some (.lst xs)/\xs.length<=b
 len : ρs.length=σs.length
 io:F.io=[]
end
def Ac:D->Bool
 | .list _=>false
 | .tuple _=>false
 |_=>true
mutual
inductive Nw(G B:Hp):V->D->Prop
 |lst {p:Addr} {xs:List V} {ds:List D}:G p=none->B p=some (.lst xs)->xs.length=ds.length->Nw G B (.ref p) (.list ds)
 |tup {a:Addr} {xs:List V} {ds:List D}:B a=some (.tup xs)->Nws G B xs ds->Nw G B (.ref a) (.tuple ds)
 |oth {v:V} {d:D}:Ac d=true->Nw G B v d
inductive Nws(G B:Hp):List V->List D->Prop
 |nil:Nws G B [] []
 |cons {v:V} {vs:List V} {d:D} {ds:List D}:Nw G B v d->Nws G B vs ds->Nws G B (v::vs) (d::ds)
end
mutual
theorem Nw.mono(e:aH B B'):∀{v:V} {d:D},Nw G B v d->Nw G B' v d
 |_,_,.lst a b c=>.lst a (e _ _ b) c
 |_,_,.tup a b=>.tup (e _ _ a) (Nws.mono e b)
 |_,_,.oth a=>.oth a
theorem Nws.mono(e:aH B B'):∀{v:List V} {d:List D},Nws G B v d->Nws G B' v d
 |_,_,.nil=>.nil
 |_,_,.cons a b=>.cons (Nw.mono e a) (Nws.mono e b)
end
mutual
theorem Nw.pure:∀{v:V} {d:D},Rep B v d->dZ d=true->Nw G B v d
 |_,_,.non,_=>.oth rfl
 |_,_,.bl b,_=>.oth rfl
 |_,_,.int i,_=>.oth rfl
 |_,_,.str x,_=>.oth rfl
 |_,_,.lst _ _,h=>by simp[dZ]at h
 |_,_,.dct _ _,h=>by simp[dZ]at h
 |_,_,.tup h r,e=>.tup h (Nws.pure r (by simpa[dZ]using e))
theorem Nws.pure:∀{v:List V} {d:List D},a6 B v d->a8 d=true->Nws G B v d
 |_,_,.nil,_=>.nil
 |_,_,.cons a b,e=>by
  simp only[a8,Bool.and_eq_true]at e;exact .cons (Nw.pure a e.1) (Nws.pure b e.2)
end
section
variable [Zc]
def MEW(t:TE)(m:PM):Prop:=∀(F:Fr) (B H:Hp) (σ:St) (ρ:Rho) (r:RV) (ρ':Rho) (Q:VK),Rel F B H σ ρ->m ρ=some (r,ρ')->
  (∀v B' H',Ext σ ρ B H ρ' B' H'->Rel F B' H' σ ρ'->Val F B' H' σ ρ' v r->(∀p,r.2=.new->v=.ref p->H p=none)->(r.2=.fz->Nw F.H B' v r.1)->Q v H')->t σ H Q
def NwL(G B:Hp):List V->List RV->Prop
 | [],[]=>True
 |v::vs,r::rs=>(r.2=.fz->Nw G B v r.1)/\NwL G B vs rs
 |_,_=>False
def nr(m:SM):SM:=fun ρ=>(m ρ).bind λo=>match o with
 | .rt _ _=>none
 |o=>some o
end
mutual
inductive NwB(G Bs B:Hp)(b:Nat):V->D->Prop
 |lst {p:Addr} {xs:List V} {ds:List D}:G p=none->Bs p=none->B p=some (.lst xs)->xs.length<=b->NwB G Bs B b (.ref p) (.list ds)
 |tup {a:Addr} {xs:List V} {ds:List D}:B a=some (.tup xs)->nW G Bs B b xs ds->NwB G Bs B b (.ref a) (.tuple ds)
 |oth {v:V} {d:D}:Ac d=true->NwB G Bs B b v d
inductive nW(G Bs B:Hp)(b:Nat):List V->List D->Prop
 |nil:nW G Bs B b [] []
 |cons {v:V} {vs:List V} {d:D} {ds:List D}:NwB G Bs B b v d->nW G Bs B b vs ds->nW G Bs B b (v::vs) (d::ds)
end
mutual
theorem NwB.mono(e:aH B B'):∀{v:V} {d:D},NwB G Bs B b v d->NwB G Bs B' b v d
 |_,_,.lst a b c d=>.lst a b (e _ _ c) d
 |_,_,.tup a b=>.tup (e _ _ a) (nW.mono e b)
 |_,_,.oth a=>.oth a
theorem nW.mono(e:aH B B'):∀{v:List V} {d:List D},nW G Bs B b v d->nW G Bs B' b v d
 |_,_,.nil=>.nil
 |_,_,.cons a b=>.cons (NwB.mono e a) (nW.mono e b)
end
mutual
def vN:D->Bool
 | .list ds=>decide (ds.length<=90000)
 | .tuple ds=>qN ds
 | .none=>true
 | .bool _=>true
 | .int _=>true
 | .str _=>true
 | .dict _=>true
def qN:List D->Bool
 | []=>true
 |d::ds=>vN d&&qN ds
end
mutual
theorem NwB.of(k:∀p,G p=none->I p=none/\Bs p=none):∀{v:V} {d:D},Nw G B v d->vN d=true->NwB I Bs B 90000 v d
 |_,_,.lst a b c,h=>.lst (k _ a).1 (k _ a).2 b (by rw[c];simpa[vN]using h)
 |_,_,.tup a b,h=>.tup a (nW.of k b (by simpa[vN]using h))
 |_,_,.oth a,_=>.oth a
theorem nW.of(k:∀p,G p=none->I p=none/\Bs p=none):∀{v:List V} {d:List D},Nws G B v d->qN d=true->nW I Bs B 90000 v d
 |_,_,.nil,_=>.nil
 |_,_,.cons a b,h=>by
  simp only[qN,Bool.and_eq_true]at h;exact .cons (NwB.of k a h.1) (nW.of k b h.2)
end
mutual
inductive Dd(G B H:Hp)(b:Nat):V->D->Prop
 |lst {p:Addr} {xs:List V} {ds:List D}:G p=none->B p=none->H p=some (.lst xs)->xs.length<=b->Dd G B H b (.ref p) (.list ds)
 |tup {a:Addr} {xs:List V} {ds:List D}:H a=some (.tup xs)->Dds G B H b xs ds->Dd G B H b (.ref a) (.tuple ds)
 |oth {v:V} {d:D}:Ac d=true->Dd G B H b v d
inductive Dds(G B H:Hp)(b:Nat):List V->List D->Prop
 |nil:Dds G B H b [] []
 |cons {v:V} {vs:List V} {d:D} {ds:List D}:Dd G B H b v d->Dds G B H b vs ds->Dds G B H b (v::vs) (d::ds)
end
mutual
theorem Dd.of(s:aH B H)(k:∀p xs,B p=some (.lst xs)->Bs p=none->I p=none):∀{v:V} {d:D},NwB G Bs B b v d->Dd G I H b v d
 |_,_,.lst a b c d=>.lst a (k _ _ c b) (s _ _ c) d
 |_,_,.tup a b=>.tup (s _ _ a) (Dds.of s k b)
 |_,_,.oth a=>.oth a
theorem Dds.of(s:aH B H)(k:∀p xs,B p=some (.lst xs)->Bs p=none->I p=none):∀{v:List V} {d:List D},nW G Bs B b v d->Dds G I H b v d
 |_,_,.nil=>.nil
 |_,_,.cons a b=>.cons (Dd.of s k a) (Dds.of s k b)
end
mutual
theorem Dd.JM(M:∃xs,H p=some (.lst xs))(I:b<=b2)(O:U.length<=b2):∀{v:V} {d:D},Dd G B H b v d->Dd G B (upd H p<|.lst U) b2 v d
 |_,_,.lst (p:=q) c e h3 h4=>by
  by_cases z:q=p
  ·subst z;exact .lst c e ay O
  ·exact .lst c e (by rw[au z];exact h3) (zaX h4 I)
 |_,_,.tup (a:=q) c e=>by
  refine .tup ?_ (Dds.JM M I O e);rw[au (λz=>by obtain⟨xs,f⟩:=M;rw[z,f]at c;cases c)];exact c
 |_,_,.oth a=>.oth a
theorem Dds.JM(M:∃xs,H p=some (.lst xs))(I:b<=b2)(O:U.length<=b2):∀{v:List V} {d:List D},Dds G B H b v d->Dds G B (upd H p<|.lst U) b2 v d
 |_,_,.nil=>.nil
 |_,_,.cons a c=>.cons (Dd.JM M I O a) (Dds.JM M I O c)
end
section
variable [Zc]
structure Sg(N:List Nat)(i:Nat)(F:Fr)(Bs:Hp)(σs:St)(ρs:Rho)(v:V)(d:D)(b:Nat)(B:Hp)(σ:St):Prop where
 slot:∀(n:Nat) (d:D),n≠i->ρs[n]?=some (.fz d)->∃v,σs[n]?=some (some v)/\Rep Bs v d
 sBs:aH F.B Bs
 nBs:∀q,F.H q≠none->F.B q=none->Bs q=none
 sB:aH Bs B
 ag:Ag N σs σ
 ni:i∉N
 here : σs[i]?=some (some v)
 nw:NwB F.H Bs B b v d
 len : ρs.length=σs.length
 io:F.io=[]
variable{N:List Nat}
end
end Mir
namespace L2
open PySem.Spec PyProof.Rows
end L2
namespace Mir
open L2
end Mir
namespace L2
open PySem.W PySem.Calls PySem.Spec PyProof.Rows
open PySem.AutoSeq1 (wpAny_loadPart')
section
variable{prog:Program}{w:World}{A:Around}{s:Shared}
def EqP(prog:Program)(w:World)(A:Around)(s:Shared)(y x:Value):Prop:=∀(E:Value->Shared->Prop) (Q:Bool->Shared->Prop),Q true s->wpAny (model prog w) A (eqBool y x) Q E s
theorem qo:(forIn ([0:n]:Std.Legacy.Range) c f:Sem I)=forIn (List.range' 0 n) c f:=by
 rw[Std.Legacy.Range.forIn_eq_forIn_range'];have a:([0:n]:Std.Legacy.Range).size=n:=by simp[Std.Legacy.Range.size]
 show forIn (List.range' 0 ([0:n]:Std.Legacy.Range).size 1) c f=_;rw[a]
variable{K:Type} [DecidableEq K]{knd:PySem.KeyKind prog w K}
theorem pairs_at(h:Pairs knd es Z0):∀(i:Nat) (e:DictEntry),es[i]?=some e->∃I,Z0[i]?=some I/\knd.is I.1 e.key=true/\e.val=I.2:=by
 induction h with
 |nil=>intro i e h;simp at h
 | @cons a I es Z0 c d _ f=>
  intro i e h;cases i with
  |zero=>cases(show some a=some e by simpa using h);exact⟨I,rfl,c,d⟩
  |succ i=>simpa using f i e (by simpa using h)
theorem vO{I:Type}:∀{Z0:List<|K×I} {x:Nat} {u:K×I} {k:K},(Z0.map (·.1)).Nodup->Z0[x]?=some u->u.1=k->Z0.findIdx? (λM=>decide<|M.1=k)=some x
 | [],_,_,_,_,h,_=>by simp at h
 |a::Z0,0,u,k,_,h,e=>by
  have:a=u:=by simpa using h
  rw[List.findIdx?_cons,this,e];simp
 |a::Z0,x+1,u,k,hn,h,e=>by
  have c:=List.nodup_cons.mp (show(a.1::Z0.map (·.1)).Nodup from hn)
  have h':Z0[x]?=some u:=by simpa using h
  have ne : ¬a.1=k:=λz=>c.1 (by rw[z,<-e];exact List.mem_map_of_mem (zaj h'))
  rw[List.findIdx?_cons,zaO ne,vO c.2 h' e];rfl
theorem GJ(hl:s.heap.DictOf knd l Z0)(hb:s.heap.DictOf knd b I)(O:(l==sysModules)=false)(M:(b==sysModules)=false)(hk:Z0.map (·.1)=I.map (·.1))
  (he:∀(j:Nat) (v u:K×Value),Z0[j]?=some v->I[j]?=some u->EqP prog w A s v.2 u.2):wpAny (model prog w) A (Builtin.«dict.__eq__» ⟨[.ref l,.ref b],[]⟩) (λU s'=>U=.done (.ret<|.bool true)/\s'=s) E s:=by
 obtain⟨o,es,ep,ho,hx,hd,H,W,hn⟩:=hl;obtain⟨o2,g,ep2,a,P,f,Z,m,J⟩:=hb;have r:Z0.length=I.length:=by simpa using congrArg List.length hk
 have Y:es.size=Z0.length:=by rw[<-W.length];simp
 have e2:g.size=I.length:=by rw[<-m.length];simp
 have C:s.TypeIs (.ref l) "dict":=⟨o,ho,hx.1⟩;have D:s.TypeIs (.ref b) "dict":=⟨o2,a,P.1⟩;show wpAny _ _ (Builtin.Dict.dictSlotArgs "__eq__" ⟨[.ref l,.ref b],[]⟩>>=_) _ _ _
 walk_at "q1"
 rw[if_neg (by rw[Y,e2,r];simp)]
 refine zaI (wpAny_dictEpoch ho hd ?_);refine zaI ?_;rw[qo];refine wpAny_forIn_list _ (λT1 c s'=>s'=s/\c=(none,())/\∃i,T1=List.range' i (es.size-i)/\i<=es.size) _ ?_ ?_ _ _ ⟨rfl,rfl,0,by simp,Nat.zero_le _⟩
 ·rintro x T1 c s' ⟨rfl,rfl,i,B,hi⟩
  have hi2:i<es.size:=by
   rcases Nat.lt_or_ge i es.size with h|h
   ·exact h
   ·rw[show es.size-i=0 by lia]at B;cases B
  rw[show es.size-i=(es.size-(i+1))+1 by lia,List.range'_succ]at B
  injection B with N L
  subst N;refine zaI (wpAny_dictEntries ho hd ?_);rw[Array.getElem?_eq_getElem hi2];dsimp only;obtain⟨n,p,y,ev⟩:=pairs_at W x es[x] (by rw[Array.getElem?_toList];exact Array.getElem?_eq_getElem hi2)
  obtain⟨k',R,eh⟩:=H es[x] (Array.getElem_mem hi2);have ek:k'=n.1:=knd.inj _ _ _ R y;have t:x<g.size:=by lia
  obtain⟨S,k,is3,G⟩:=pairs_at m x g[x] (by rw[Array.getElem?_toList];exact Array.getElem?_eq_getElem t)
  have F:S.1=n.1:=by
   have V:(Z0.map (·.1))[x]?=some n.1:=by rw[zao,p];rfl
   have h2:(I.map (·.1))[x]?=some S.1:=by rw[zao,k];rfl
   rw[hk,h2]at V;exact zaQ V
  have hf:g.findIdx? (λe=>knd.is n.1 e.key)=some x:=by
   have h:=(m.findIdx n.1).trans (vO J k F);rw[<-h];obtain⟨l⟩:=g;simp
  refine zaI (wpAny_holding ?_);rw[eh,ek];refine zaI (wpAny_dictFind_of y a f Z ?_);rw[hf];dsimp only;refine zaI (wpAny_dictEntries a f ?_);rw[Array.getElem?_eq_getElem t];dsimp only;refine wpAny_holding ?_;rw[ev,G];refine he x n S p k _ _ ?_;rw[if_neg (by simp)]
  refine zaI (wpAny_dictEpoch ho hd ?_);rw[if_neg (by simp)]
  exact zaZ ⟨rfl,rfl,x+1,by rw[L],hi2⟩
 ·rintro c s' ⟨rfl,rfl,_⟩
  exact zaZ (zaZ ⟨rfl,rfl⟩)
theorem GL(hu:A.units<cLine)(hl:s.heap.DictOf knd l Z0)(U:s.heap.DictOf knd b I)(O:(l==sysModules)=false)(M:(b==sysModules)=false)(hk:Z0.map (·.1)=I.map (·.1))
  (Y:∀(j:Nat) (v u:K×Value),Z0[j]?=some v->I[j]?=some u->EqP prog w A.in1 s v.2 u.2) (q:Q (.bool true) s):wpAny (model prog w) A (richCompare .Eq (.ref l)<|.ref b) Q E s:=by
 obtain⟨o,es,m,ho,d,_⟩:=id hl;obtain⟨k,g,f,a,c,_⟩:=id U;refine wpAny_richCompare_same_room (op:=.Eq) (T:="dict") ⟨o,ho,d.1⟩ ⟨k,a,c.1⟩ PySem.F.slot_dict_eq ?_ hu;refine wpAny_call_entry PySem.F.slot_dict_eq ⟨o,ho,d.1⟩ PySem.F.entry_dict_eq ?_ (PySem.F.args_dict_eq_2 _ _);refine za6 (GJ hl U O M hk Y) (λi s' h=>?_) λ_ _ e=>e
 obtain⟨rfl,rfl⟩:=h;exact⟨_,rfl,⟨(λx=>nomatch x),q⟩⟩
end
def Lc(K:zag)(H:Hp)(x y:V):Prop:=∃d,gX K H x d/\gX K H y d/\SeqAt.shaped d=true
def QI(K:zag)(H:Hp)(x y:V):Prop:=Lc K H x y\/∃(p q:Addr) (Z0 D:List<|Key×V),x=.ref p/\y=.ref q/\Rd H p (.dK Z0)/\Rd H q (.dK D)/\Z0.map (·.1)=D.map (·.1)/\∀(j:Nat) (a b:Key×V),Z0[j]?=some a->D[j]?=some b->Lc K H a.2 b.2
end L2
namespace Mir
open L2
variable [Zc]
end Mir
namespace L2
open PySem.W PySem.Calls PySem.Spec PyProof.Rows
section
variable{prog:Program}{w:World}{A:Around}{s:Shared}{K:Type} [DecidableEq K]{knd:PySem.KeyKind prog w K}
theorem GN(hl:s.heap.DictOf knd l Z0)(Y:s.heap.DictOf knd b [])(O:(l==sysModules)=false)(M:(b==sysModules)=false)(U:Z0≠[]):wpAny (model prog w) A (Builtin.«dict.__eq__» ⟨[.ref l,.ref b],[]⟩) (λI s'=>I=.done (.ret<|.bool false)/\s'=s) E s:=by
 obtain⟨o,es,x,ho,t,hd,n,r,hn⟩:=hl;obtain⟨u,c,m,a,g,f,v,e,p⟩:=Y;have j:es.size=Z0.length:=by rw[<-r.length];simp
 have k:c.size=0:=by have:=e.length;simpa using this
 have C:s.TypeIs (.ref l) "dict":=⟨o,ho,t.1⟩;have D:s.TypeIs (.ref b) "dict":=⟨u,a,g.1⟩;have i : 0<Z0.length:=List.length_pos_iff.mpr U;show wpAny _ _ (Builtin.Dict.dictSlotArgs "__eq__" ⟨[.ref l,.ref b],[]⟩>>=_) _ _ _
 walk_at "q1"
 rw[if_pos (by rw[j,k];simp;lia)]
 exact zaI (wpAny_rule<|zaZ<|zaZ ⟨rfl,rfl⟩)
theorem GO(U:A.units<cLine)(hl:s.heap.DictOf knd l Z0)(O:s.heap.DictOf knd b [])(M:(l==sysModules)=false)(I:(b==sysModules)=false)(q:Q (.bool Z0.isEmpty) s):wpAny (model prog w) A (richCompare .Eq (.ref l)<|.ref b) Q E s:=by
 obtain⟨o,es,m,ho,d,_⟩:=id hl;obtain⟨k,g,f,a,c,_⟩:=id O;cases Z0 with
 |nil=>exact GL U hl O M I rfl (λj v u h=>by simp at h) q
 |cons n Z0=>
  refine wpAny_richCompare_same_room (op:=.Eq) (T:="dict") ⟨o,ho,d.1⟩ ⟨k,a,c.1⟩ PySem.F.slot_dict_eq ?_ U;refine wpAny_call_entry PySem.F.slot_dict_eq ⟨o,ho,d.1⟩ PySem.F.entry_dict_eq ?_ (PySem.F.args_dict_eq_2 _ _);refine za6 (GN hl O M I (by simp)) (λi s' h=>?_) λ_ _ e=>e
  obtain⟨rfl,rfl⟩:=h;exact⟨_,rfl,⟨(λx=>nomatch x),q⟩⟩
end
def Ld:R2:=λx y H Q=>∃(p q:Addr) (Z0:List<|Key×V),x=.ref p/\y=.ref q/\Rd H p (.dK Z0)/\Rd H q (.dK [])/\Q (.bl Z0.isEmpty) H
theorem vP(M:X.A.units<cLine):OpR X (compareOp .Eq) Ld:=by
 intro V0 s σ H x y v u Q I g i h;obtain⟨p,q,Z0,rfl,rfl,a,b,c⟩:=h;cases g;cases i;obtain⟨_,j,vs,d,d1⟩:=(show bY X.prog X.w H s.heap p (.dK Z0)from a.ok I.hok);obtain⟨_,l,ws,f,d2⟩:=(show bY X.prog X.w H s.heap q (.dK [])from b.ok I.hok);cases f;have e:vs.isEmpty=Z0.isEmpty:=by cases d<;>rfl
 exact GO M d1 d2 j l ⟨.bl Z0.isEmpty,H,I,by rw[e];rfl,c⟩
end L2
namespace Mir
open L2
variable [Zc]
def rW:D->D->Option (D×Bool)
 | .dict es,.dict []=>some (.bool es.isEmpty,false)
 |_,_=>none
theorem Ad:OpJ Ld rW:=by
 intro B H x y c d i s a b e;unfold rW at e;split at e
 ·cases e
  have a:=a.rep s;have b:=b.rep s;cases a with
  |dct g k1=>
   cases b with
   |dct h f=>
    cases f;refine fY λQ q=>⟨_,_,_,rfl,rfl,g,h,?_⟩
    cases k1<;>exact q
 ·cases e
end Mir
namespace L2
open PySem.W PySem.Calls PySem.Spec PyProof.Rows
section
variable{prog:Program}{w:World}{A:Around}{s:Shared}{K:Type} [DecidableEq K]{knd:PySem.KeyKind prog w K}
theorem GP(hl:s.heap.DictOf knd l Z0)(hb:s.heap.DictOf knd b U)(O:(l==sysModules)=false)(M:(b==sysModules)=false)(Y:Z0.length=U.length)
  (he:∀I∈Z0,∃(y:Nat) (u:Value),U[y]?=some (I.1,u)/\EqP prog w A s I.2 u):wpAny (model prog w) A (Builtin.«dict.__ne__» ⟨[.ref l,.ref b],[]⟩) (λfin s'=>fin=.done (.ret<|.bool false)/\s'=s) E s:=by
 obtain⟨o,es,ep,ho,hx,hd,t,N,hn⟩:=hl;obtain⟨o2,g,ep2,a,H,f,R,k,B⟩:=hb;have V:es.size=Z0.length:=by rw[<-N.length];simp
 have L:g.size=U.length:=by rw[<-k.length];simp
 have C:s.TypeIs (.ref l) "dict":=⟨o,ho,hx.1⟩;have D:s.TypeIs (.ref b) "dict":=⟨o2,a,H.1⟩;show wpAny _ _ (Builtin.Dict.dictSlotArgs "__ne__" ⟨[.ref l,.ref b],[]⟩>>=_) _ _ _
 walk_at "q1"
 rw[if_neg (by rw[V,L,Y];simp)]
 refine zaI (wpAny_dictEpoch ho hd ?_);refine zaI ?_;rw[qo];refine wpAny_forIn_list _ (λT1 c s'=>s'=s/\c=(none,())/\∃i,T1=List.range' i (es.size-i)/\i<=es.size) _ ?_ ?_ _ _ ⟨rfl,rfl,0,by simp,Nat.zero_le _⟩
 ·rintro x T1 c s' ⟨rfl,rfl,i,n,hi⟩
  have hi2:i<es.size:=by
   rcases Nat.lt_or_ge i es.size with h|h
   ·exact h
   ·rw[show es.size-i=0 by lia]at n;cases n
  rw[show es.size-i=(es.size-(i+1))+1 by lia,List.range'_succ]at n
  injection n with G F
  subst G;refine zaI (wpAny_dictEntries ho hd ?_);rw[Array.getElem?_eq_getElem hi2];dsimp only;obtain⟨I,v,m,ev⟩:=pairs_at N x es[x] (by rw[Array.getElem?_toList];exact Array.getElem?_eq_getElem hi2)
  obtain⟨k',J,W⟩:=t es[x] (Array.getElem_mem hi2);have Z:k'=I.1:=knd.inj _ _ _ J m;obtain⟨y,u,j,r⟩:=he I (zaj v);have P:y<g.size:=by rw[L];exact(zac j).1
  obtain⟨kw,S,is3,p⟩:=pairs_at k y g[y] (by rw[Array.getElem?_toList];exact Array.getElem?_eq_getElem P)
  obtain rfl:(I.1,u)=kw:=zaQ (j.symm.trans S);have hf:g.findIdx? (λe=>knd.is I.1 e.key)=some y:=by
   have h:=(k.findIdx I.1).trans (vO B j rfl);rw[<-h];obtain⟨l⟩:=g;simp
  refine zaI (wpAny_holding ?_);rw[W,Z];refine zaI (wpAny_dictFind_of m a f R ?_);rw[hf];dsimp only;refine zaI (wpAny_dictEntries a f ?_);rw[Array.getElem?_eq_getElem P];dsimp only;refine wpAny_holding ?_;rw[ev,p];refine r _ _ ?_;rw[if_neg (by simp)]
  refine zaI (wpAny_dictEpoch ho hd ?_);rw[if_neg (by simp)]
  exact zaZ ⟨rfl,rfl,x+1,by rw[F],hi2⟩
 ·rintro c s' ⟨rfl,rfl,_⟩
  exact zaZ (zaZ ⟨rfl,rfl⟩)
end
end L2
namespace Mir
open L2
variable [Zc]
end Mir
namespace L2
open PySem.W PySem.Calls PySem.Spec PyProof.Rows
section
variable{prog:Program}{w:World}{A:Around}{s:Shared}{K:Type} [DecidableEq K]{knd:PySem.KeyKind prog w K}
theorem GQ(hl:s.heap.DictOf knd l Z0)(Y:s.heap.DictOf knd b [])(O:(l==sysModules)=false)(M:(b==sysModules)=false)(U:Z0≠[]):wpAny (model prog w) A (Builtin.«dict.__ne__» ⟨[.ref l,.ref b],[]⟩) (λI s'=>I=.done (.ret<|.bool true)/\s'=s) E s:=by
 obtain⟨o,es,x,ho,t,hd,n,r,hn⟩:=hl;obtain⟨u,c,m,a,g,f,v,e,p⟩:=Y;have j:es.size=Z0.length:=by rw[<-r.length];simp
 have k:c.size=0:=by have:=e.length;simpa using this
 have C:s.TypeIs (.ref l) "dict":=⟨o,ho,t.1⟩;have D:s.TypeIs (.ref b) "dict":=⟨u,a,g.1⟩;have i : 0<Z0.length:=List.length_pos_iff.mpr U;show wpAny _ _ (Builtin.Dict.dictSlotArgs "__ne__" ⟨[.ref l,.ref b],[]⟩>>=_) _ _ _
 walk_at "q1"
 rw[if_pos (by rw[j,k];simp;lia)]
 exact zaI (wpAny_rule<|zaZ<|zaZ ⟨rfl,rfl⟩)
end
def Le:R2:=λx y H Q=>∃(p q:Addr) (Z0:List<|Key×V),x=.ref p/\y=.ref q/\Rd H p (.dK Z0)/\Rd H q (.dK [])/\Q (.bl<|!Z0.isEmpty) H
theorem JN(M:X.A.units<cLine):OpR X (compareOp .NotEq) Le:=by
 intro V0 s σ H x y v u Q I J L h;obtain⟨p,q,Z0,rfl,rfl,t,B,g⟩:=h;cases J;cases L;obtain⟨_,j,vs,E,d1⟩:=(show bY X.prog X.w H s.heap p (.dK Z0)from t.ok I.hok);obtain⟨_,l,ws,G,d2⟩:=(show bY X.prog X.w H s.heap q (.dK [])from B.ok I.hok);cases G;show wpAny _ _ (richCompare .NotEq (.ref p)<|.ref q) _ _ _;obtain⟨o,es,N,ho,i,_⟩:=id d1;obtain⟨D,r,m,d,f,_⟩:=id d2;refine wpAny_richCompare_same_room (op:=.NotEq) (T:="dict") ⟨o,ho,i.1⟩ ⟨D,d,f.1⟩ PySem.F.slot_dict_ne ?_ M;refine wpAny_call_entry PySem.F.slot_dict_ne ⟨o,ho,i.1⟩ PySem.F.entry_dict_ne ?_ (PySem.F.args_dict_ne_2 _ _);cases E with
 |nil=>
  refine za6 (GP (A:=X.A.in1) d1 d2 j l rfl λb C=>by cases C) (λc s' h=>?_) λ_ _ e=>e
  obtain⟨rfl,rfl⟩:=h;exact⟨_,rfl,(λx=>nomatch x),.bl false,H,I,rfl,g⟩
 |cons a b=>
  refine za6 (GQ (A:=X.A.in1) d1 d2 j l (by simp)) (λc s' h=>?_) λ_ _ e=>e
  obtain⟨rfl,rfl⟩:=h;exact⟨_,rfl,(λx=>nomatch x),.bl true,H,I,rfl,g⟩
end L2
namespace Mir
open L2
variable [Zc]
def GR:D->D->Option (D×Bool)
 | .dict es,.dict []=>some (.bool<|!es.isEmpty,false)
 |_,_=>none
theorem Nx:OpJ Le GR:=by
 intro B H x y c d i s a b e;unfold GR at e;split at e
 ·cases e
  have a:=a.rep s;have b:=b.rep s;cases a with
  |dct g k1=>
   cases b with
   |dct h f=>
    cases f;refine fY λQ q=>⟨_,_,_,rfl,rfl,g,h,?_⟩
    cases k1<;>exact q
 ·cases e
end Mir
namespace L2
open PySem.W PySem.Calls PySem.Spec PyProof.Rows
section
variable{α β:Type}
def Pn(n:Nat)(R : α->Prop):KasT α->Prop
 | .ret a=>R a
 | .ask i j k=>i<n/\j<n/\∀b,Pn n R (k b)
end
def PmA(n:Nat)(p:Array Nat):Prop:=p.Perm (List.range n).toArray
def Ny(h:Heap)(v:Value)(p:Int×Int):Prop:=∃a o n t u,v=.ref a/\h.get? a=some o/\o.cls=.type "tuple"/\o.data=.seq #[.int p.1 t,.int p.2 u] n
inductive vQ(h:Heap):List Value->List (Int×Int)->Prop
 |nil:vQ h [] []
 |cons {v p vs ps}:Ny h v p->vQ h vs ps->vQ h (v::vs) (p::ps)
def Pp(H:Hp)(y:V)(p:Int×Int):Prop:=∃a,y=.ref a/\H a=some (.tup [.int p.1,.int p.2])
inductive Ae(H:Hp):List V->List (Int×Int)->Prop
 |nil:Ae H [] []
 |cons {v p vs ps}:Pp H v p->Ae H vs ps->Ae H (v::vs) (p::ps)
end L2
namespace Mir
open L2
section
variable [Zc]
def pD(p:Int×Int):D:=.tuple [.int p.1,.int p.2]
end
end Mir
namespace L2
open PySem.W PySem.Calls PySem.Spec PyProof.Rows
structure CC where
 κ:SortKind
 N:Nat
 lt:Nat->Nat->Bool
abbrev Gt:=Nat->Keyed
def Ask(C:CC)(g:Gt)(prog:Program)(w:World)(A:Around)(s:Shared):Prop:=∀x y,x<C.N->y<C.N->∀Q:Bool->Shared->Prop,Q (C.lt x y) s->wpAny (model prog w) A (keyLt' C.κ (g x).1 (g y).1) Q (λ_ _=>False) s
def wpF(C:CC){α:Type}(m:Gt->StateT SortSt Sem α)(Q:(Gt->α)->(Gt->SortSt)->Prop)(st:Gt->SortSt):Prop:=∃r D,Q r D/\∀g prog w A (E:Value->Shared->Prop) s,Ask C g prog w A s->∀G : α->SortSt->Prop,G (r g) (D g)->wpS (model prog w) A E s (m g) G (st g)
section
variable{C:CC}{α β:Type}{st:Gt->SortSt}
def bW(h:Q a st):wpF C (λg=>pure<|a g) Q st:=⟨a,st,h,λ_ _ _ _ _ _ _ _ q=>wpS_pure q⟩
theorem aq{f:Gt->α->StateT SortSt Sem β}(h:wpF C m (λa M=>wpF C (λg=>f g<|a g) Q M) st):wpF C (λg=>m g>>=f g) Q st:=by
 obtain⟨r,M,⟨o,b,q,k⟩,k1⟩:=h;exact⟨o,b,q,λg p w A E s a d e=>wpS_bind<|k1 g p w A E s a _<|k g p w A E s a d e⟩
theorem c7(h:wpF C m Q st)(U:∀a M,Q a M->O a M):wpF C m O st:=by
 obtain⟨r,M,q,k⟩:=h;exact⟨r,M,U _ _ q,k⟩
def gN(h:Q st st):wpF C (λ_=>(get:StateT SortSt Sem SortSt)) Q st:=⟨st,st,h,λ_ _ _ _ _ _ _ _ q=>wpS_get q⟩
def eE{f:Gt->SortSt->SortSt}(h:Q (λ_=>⟨⟩) λg=>f g<|st g):wpF C (λg=>(modify (f g):StateT SortSt Sem PUnit)) Q st:=⟨_,_,h,λ_ _ _ _ _ _ _ _ q=>wpS_modify q⟩
def jH(h:Q (λ_=>()) st):wpF C (λ_=>(liftM (rule x):StateT SortSt Sem Unit)) Q st:=⟨_,st,h,λ_ _ _ _ _ _ _ _ q=>wpS_lift<|wpAny_rule ⟨rfl,q⟩⟩
theorem bJ{I:Array Nat}(hi:I[i]?=some x)(h:Q (λg=>g x) st):wpF C (λg=>elem' (I.map g) i) Q st:=⟨_,st,h,λg _ _ _ _ _ _ _ q=>by
 show wpS _ _ _ _ (elem' (I.map g) i) _ _;rw[elem'_eq,Array.getElem?_map,hi];exact wpS_pure q⟩
theorem rX(hk:∀g,kindOf (st g)=C.κ)(I:x<C.N)(M:y<C.N)(h:Q (λ_=>some<|C.lt x y) st):wpF C (λg=>lt' (g x)<|g y) Q st:=⟨_,st,h,λg p w A E s a e q=>by
 show wpS _ _ _ _ (lt' (g x)<|g y) _ _;rw[lt'_eq];refine wpS_bind (wpS_get ?_);rw[hk];refine wpS_bind (wpS_lift<|wpAny_attempt<|za6 (a x y I M (λb s'=>s'=s/\b=C.lt x y) ⟨rfl,rfl⟩) (λb s' d=>?_) λ_ _ f=>f.elim)
 obtain⟨rfl,rfl⟩:=d;exact⟨rfl,wpS_pure q⟩⟩
theorem aP [Decidable c](M:c->wpF C m Q st)(O : ¬c->wpF C n Q st):wpF C (λg=>if c then m g else n g) Q st:=by
 by_cases e:c
 ·simp only[if_pos e];exact M e
 ·simp only[if_neg e];exact O e
def Trn(Q I:(Gt->β)->(Gt->SortSt)->Prop)(r:Gt->ForInStep β)(st:Gt->SortSt):Prop:=(∃c,r=(λg=>.done<|c g)/\Q c st)\/∃c,r=(λg=>.yield<|c g)/\I c st
theorem yz(f:Gt->Nat->β->StateT SortSt Sem (ForInStep β))(I:List Nat->(Gt->β)->(Gt->SortSt)->Prop)(Q:(Gt->β)->(Gt->SortSt)->Prop)
  (M:∀x T1 b st,I (x::T1) b st->wpF C (λg=>f g x<|b g) (Trn Q<|I T1) st)
  (O:∀b st,I [] b st->Q b st):∀(l:List Nat) (b:Gt->β) (st:Gt->SortSt),I l b st->wpF C (λg=>forIn l (b g)<|f g) Q st
 | [],b,st,h=>by simp only[List.forIn_nil];exact bW (O _ _ h)
 |x::T1,b,st,h=>by
  simp only[List.forIn_cons];refine aq (c7 (M x T1 b st h) λr a h'=>?_)
  rcases h' with⟨c,rfl,h'⟩|⟨c,rfl,h'⟩
  ·exact bW h'
  ·exact yz f I Q M O T1 c a h'
theorem fF{f:Gt->Nat->β->StateT SortSt Sem (ForInStep β)}(I:Nat->(Gt->β)->(Gt->SortSt)->Prop)
  (M:∀i c st,a<=i->i<b->I i c st->wpF C (λg=>f g i<|c g) (Trn Q<|I<|i+1) st)
  (O:∀c st,I (max a b) c st->Q c st) {c:Gt->β} (h:I a c st):wpF C (λg=>forIn [a:b] (c g)<|f g) Q st:=by
 simp only[Std.Legacy.Range.forIn_eq_forIn_range'];have o:([a:b]:Std.Legacy.Range).size=b-a:=by simp[Std.Legacy.Range.size]
 show wpF C (λg=>forIn (List.range' a ([a:b]:Std.Legacy.Range).size 1) (c g)<|f g) Q st
 rw[o];refine yz f (λl c st=>∃i,a<=i/\i<=max a b/\l=List.range' i (max a b-i) 1/\I i c st) Q ?_ ?_ _ c st ⟨a,zap _,by lia,by congr 1;lia,h⟩
 ·rintro x T1 c st ⟨i,d,m,hl,j⟩
  obtain⟨n,hn⟩:∃n,max a b-i=n+1:=⟨max a b-i-1,by
   rcases Nat.lt_or_ge i (max a b)with h'|h'
   ·lia
   ·rw[show max a b-i=0 by lia]at hl;simp at hl⟩
  rw[hn,List.range'_succ]at hl;obtain⟨rfl,rfl⟩:=List.cons.inj hl;refine c7 (M x c st d (by lia) j) λr p h'=>?_
  rcases h' with h'|⟨c',e,h'⟩
  ·exact .inl h'
  ·exact .inr ⟨c',e,x+1,by lia,by lia,by congr 1;lia,h'⟩
 ·rintro c st ⟨i,d,m,hl,j⟩
  have:i=max a b:=by
   rcases Nat.lt_or_ge i (max a b)with h'|h'
   ·obtain⟨n,hn⟩:∃n,max a b-i=n+1:=⟨max a b-i-1,by lia⟩
    rw[hn,List.range'_succ]at hl;simp at hl
   ·lia
  subst this;exact O _ _ j
def dC{Q I:(Gt->β)->(Gt->SortSt)->Prop}(h:Q c st):wpF C (λg=>pure<|.done<|c g) (Trn Q I) st:=bW (.inl ⟨c,rfl,h⟩)
def cq{Q I:(Gt->β)->(Gt->SortSt)->Prop}(h:I c st):wpF C (λg=>pure<|.yield<|c g) (Trn Q I) st:=bW (.inr ⟨c,rfl,h⟩)
end
def jc:Bool->Keyed->Array Keyed->Nat->Nat->Nat->StateT SortSt Sem (Option Nat):=sortPriv%PySem.Builtin.gallop
def mj(left:Bool)(key:Keyed)(M:Array Keyed)(base:Nat)(i:Nat):StateT SortSt Sem (Option Bool):=do
 let x<-elem' M (base+i)
 if left then lt' x key else return (<-lt' key x).map (!·)
def Af(left:Bool)(key:Keyed)(U1:Array Keyed)(base n I:Nat):jc left key U1 base n I=(do
 let mut M:=0
 let mut U:=1
 let mut lo:=0
 let mut hi:=0
 let some right<-mj left key U1 base I|return none
 if right then
  let O:=n-I
  for _ in [0:n] do
   if U>=O then break
   let some more<-mj left key U1 base (I+U)|return none
   if !more then break
   M:=U
   U:=2*U+1
  lo:=I+M+1
  hi:=I+min U O
 else
  let O:=I+1
  for _ in [0:n] do
   if U>=O then break
   let some Y<-mj left key U1 base (I-U)|return none
   if Y then break
   M:=U
   U:=2*U+1
  lo:=I+1-min U O
  hi:=I-M
 for _ in [0:n] do
  if lo>=hi then break
  let m:=lo+(hi-lo)/2
  let some more<-mj left key U1 base m|return none
  if more then lo:=m+1 else hi:=m
 return some hi):=rfl
section
variable{C:CC}{st:Gt->SortSt}
theorem ki(hk:∀g,kindOf (st g)=C.κ){I:Array Nat}{base i x:Nat}(hi:I[base+i]?=some x)(M:x<C.N)(O:key<C.N){Q:(Gt->Option Bool)->(Gt->SortSt)->Prop}(h:∀b,Q (λ_=>some b) st):wpF C (λg=>mj left (g key) (I.map g) base i) Q st:=by
 refine aq (bJ hi ?_);cases left with
 |true=>exact rX hk M O (h _)
 |false=>exact aq (rX hk O M<|bW<|h _)
theorem gB(hk:∀g,kindOf (st g)=C.κ){M:Array Nat}{base n I:Nat}(sa:∀x∈M,x<C.N)(Y:base+n<=M.size)(O:key<C.N)(U:I<n)
  {Q:(Gt->Option Nat)->(Gt->SortSt)->Prop} (h:∀k,k<=n->Q (λ_=>some k) st):wpF C (λg=>jc left (g key) (M.map g) base n I) Q st:=by
 have o:∀i,i<n->∃x,M[base+i]?=some x/\x<C.N:=λi hi=>⟨M[base+i],Array.getElem?_eq_getElem (by lia),sa _<|Array.getElem_mem _⟩
 have p:∀lo hi:Nat,hi<=n->wpF C (λg=>do
   let mut lo:=lo
   let mut hi:=hi
   for _ in [0:n] do
    if lo>=hi then break
    let m:=lo+(hi-lo)/2
    let some more<-mj left (g key) (M.map g) base m|return none
    if more then lo:=m+1 else hi:=m
   return some hi) Q st:=λlo hi r=>by
  refine aq (c7 (Q:=λ(c:Gt->Option (Option Nat)×Nat×Nat) a=>a=st/\∃l u,c=(λ_=>(none,l,u))/\u<=n) (fF (λ_ (c:Gt->Option (Option Nat)×Nat×Nat) a=>a=st/\∃l u,c=(λ_=>(none,l,u))/\u<=n) ?_ (λ_ _ z=>z) ⟨rfl,lo,hi,rfl,r⟩) ?_)
  ·rintro i _ _ _ q ⟨rfl,l,u,rfl,g2⟩
   dsimp only;refine aP (λ_=>dC ⟨rfl,l,u,rfl,g2⟩) λe=>?_
   obtain⟨x,d,f⟩:=o (l+(u-l)/2) (by lia)
   refine aq (ki hk d f O λb=>?_)
   cases b with
   |true=>exact cq ⟨rfl,_,u,rfl,g2⟩
   |false=>exact cq ⟨rfl,l,_,rfl,by lia⟩
  ·rintro _ _ ⟨rfl,l,u,rfl,g2⟩
   exact bW (h u g2)
 simp only[Af];obtain⟨x,d,f⟩:=o I U;refine aq (ki hk d f O λb=>?_)
 cases b
 all_goals
  refine aq (c7 (Q:=λ(c:Gt->Option (Option Nat)×Nat×Nat) a=>a=st/\∃l u,c=(λ_=>(none,l,u))) (fF (λ_ (c:Gt->Option (Option Nat)×Nat×Nat) a=>a=st/\∃l u,c=(λ_=>(none,l,u))) ?_ (λ_ _ z=>z) ⟨rfl,0,1,rfl⟩) ?_)
  ·rintro i _ _ _ q ⟨rfl,l,u,rfl⟩
   dsimp only;refine aP (λ_=>dC ⟨rfl,l,u,rfl⟩) λe=>?_
   first
    |obtain⟨x,d,f⟩:=o (I-u) (by lia)
     refine aq (ki hk d f O λb=>?_)
    |obtain⟨x,d,f⟩:=o (I+u) (by lia)
     refine aq (ki hk d f O λb=>?_)
   cases b<;>first|exact cq ⟨rfl,_,_,rfl⟩|exact dC ⟨rfl,_,_,rfl⟩
  ·rintro _ _ ⟨rfl,l,u,rfl⟩
   exact p _ _ (by lia)
end
def gO:Nat->StateT SortSt Sem Unit:=sortPriv%PySem.Builtin.setMinGallop
def nX:Array Keyed->Array Keyed->StateT SortSt Sem (Array Keyed):=sortPriv%PySem.Builtin.mergeLo
abbrev AK:=Array Keyed
def T4:Bool->Type->Type
 |true,D=>Option AK×AK×Nat×Nat×D
 |false,D=>Option AK×Nat×Nat×AK×D
def pk:(h:Bool)->{M:Type}->Option AK->AK->Nat->Nat->M->T4 h M
 |true,_,r,O,i,j,x=>(r,O,i,j,x)
 |false,_,r,O,i,j,x=>(r,i,j,O,x)
def un:(h:Bool)->{M:Type}->T4 h M->Option AK×AK×Nat×Nat×M
 |true,_,s=>s
 |false,_,s=>(s.1,s.2.2.2.1,s.2.1,s.2.2.1,s.2.2.2.2)
abbrev F4(h:Bool)(M:Type):=ForInStep (T4 h M)
section
variable(a b:AK)(k l:Nat)
abbrev loD(O:AK)(i j:Nat):AK:=O++a.extract i k++b.extract j l
abbrev loL(O:AK)(i j:Nat):AK:=O++b.extract j l++a.extract i k
def loC(mg u v i:Nat)(O:AK)(j:Nat):StateT SortSt Sem (F4 true<|Nat×Nat×Nat):=do
 let x<-elem' a i
 if i+1+1==k then pure (.done<|pk true (some<|loL a b k l (O.push x) (i+1) j) (O.push x) (i+1) j (mg,u,v))
 else if decide (u<7)&&decide (v<7)then pure (.done<|pk true none (O.push x) (i+1) j (mg,u,v))else pure (.yield<|pk true none (O.push x) (i+1) j (mg,u,v))
def loB(mg u v:Nat)(O:AK)(i j:Nat):StateT SortSt Sem (F4 true<|Nat×Nat×Nat):=do
 let y<-elem' b j
 if j+1==l then pure (.done<|pk true (some<|loD a b k l (O.push y) i<|j+1) (O.push y) i (j+1) (mg,u,v))else
 match<-jc true (<-elem' a i) b (j+1) (l-(j+1)) 0 with
 |some v=>if v>0 then(if j+1+v==l then pure (.done<|pk true (some<|loD a b k l (O.push y++b.extract (j+1) (j+1+v)) i<|j+1+v) (O.push y++b.extract (j+1) (j+1+v)) i (j+1+v) (mg,u,v))else loC a b k l mg u v i (O.push y++b.extract (j+1) (j+1+v)) (j+1+v))else loC a b k l mg u v i (O.push y) (j+1)
 |_=>pure (.done<|pk true (some<|loD a b k l (O.push y) i<|j+1) (O.push y) i (j+1) (mg,u,v))
def loA(O:AK)(i j u v mg:Nat):StateT SortSt Sem (F4 true<|Nat×Nat×Nat):=do
 gO mg
 match<-jc false (<-elem' b j) a i (k-i) 0 with
 |some u=>if u>0 then(if i+u+1==k then pure (.done<|pk true (some<|loL a b k l (O++a.extract i (i+u)) (i+u) j) (O++a.extract i (i+u)) (i+u) j (mg,u,v))else if i+u==k then pure (.done<|pk true (some<|loD a b k l (O++a.extract i (i+u)) (i+u) j) (O++a.extract i (i+u)) (i+u) j (mg,u,v))else loB a b k l mg u v (O++a.extract i (i+u)) (i+u) j)else loB a b k l mg u v O i j
 |_=>pure (.done<|pk true (some<|loD a b k l O i j) O i j (mg,u,v))
def lo3(O:AK)(i j mg u v:Nat):StateT SortSt Sem (F4 true<|Nat×Nat×Nat):=if mg>1 then loA a b k l O i j u v (mg-1)else loA a b k l O i j u v mg
def lo2(mg:Nat)(O:AK)(i j u v:Nat):StateT SortSt Sem (F4 true<|Nat×Nat):=do
 match<-lt' (<-elem' b j) (<-elem' a i)with
 |some w=>(if w then elem' b j>>=λy=>if j+1==l then pure (.done<|pk true (some<|loD a b k l (O.push y) i<|j+1) (O.push y) i (j+1) (0,v+1))else if v+1>=mg then pure (.done<|pk true none (O.push y) i (j+1) (0,v+1))else pure (.yield<|pk true none (O.push y) i (j+1) (0,v+1))else elem' a i>>=λx=>if i+1+1==k then pure (.done<|pk true (some<|loL a b k l (O.push x) (i+1) j) (O.push x) (i+1) j (u+1,0))else if u+1>=mg then pure (.done<|pk true none (O.push x) (i+1) j (u+1,0))else pure (.yield<|pk true none (O.push x) (i+1) j (u+1,0)))
 |_=>pure (.done<|pk true (some<|loD a b k l O i j) O i j (u,v))
end
section
variable(h:Bool)(n:Nat)(f2:Nat->AK->Nat->Nat->Nat->Nat->StateT SortSt Sem (F4 h<|Nat×Nat))(f3:AK->Nat->Nat->Nat->Nat->Nat->StateT SortSt Sem (F4 h<|Nat×Nat×Nat))(O:AK)(i j:Nat)
def mg1(mg:Nat):StateT SortSt Sem (F4 h Nat):=do
 let s<-forIn [0:n] (pk h none O i j (0,0)) λ_ r=>f2 mg (un h r).2.1 (un h r).2.2.1 (un h r).2.2.2.1 (un h r).2.2.2.2.1 (un h r).2.2.2.2.2
 match(un h s).1 with
 |some x=>pure (.done<|pk h (some x) (un h s).2.1 (un h s).2.2.1 (un h s).2.2.2.1 mg)
 |none=>
  rule "list.sort.gallop"
  let t<-forIn [0:n] (pk h none (un h s).2.1 (un h s).2.2.1 (un h s).2.2.2.1 (mg+1,(un h s).2.2.2.2.1,(un h s).2.2.2.2.2)) λ_ r=>f3 (un h r).2.1 (un h r).2.2.1 (un h r).2.2.2.1 (un h r).2.2.2.2.1 (un h r).2.2.2.2.2.1 (un h r).2.2.2.2.2.2
  match(un h t).1 with
  |some x=>pure (.done<|pk h (some x) (un h t).2.1 (un h t).2.2.1 (un h t).2.2.2.1 (un h t).2.2.2.2.1)
  |none=>
   gO ((un h t).2.2.2.2.1+1)
   pure (.yield<|pk h none (un h t).2.1 (un h t).2.2.1 (un h t).2.2.2.1 ((un h t).2.2.2.2.1+1))
def mg0:StateT SortSt Sem AK:=do
 let r<-forIn [0:n] (pk h none O i j<|gallopOf<|<-get) λ_ r=>mg1 h n f2 f3 (un h r).2.1 (un h r).2.2.1 (un h r).2.2.2.1 (un h r).2.2.2.2
 match(un h r).1 with
 |some x=>pure x
 |none=>unsupported "internal:list.sort.merge-bound"
end
theorem yA{a b:AK}(ha:a.size=k)(I:b.size=l):nX a b=(do
 rule "list.sort.merge-lo"
 let y<-elem' b 0
 if 1==l then pure (loD a b k l #[y] 0 1)else if 0+1==k then pure (loL a b k l #[y] 0 1)else mg0 true (k+l) (lo2 a b k l) (lo3 a b k l) #[y] 0 1):=by
 subst ha I;kernel_rfl
section
variable{C:CC}
abbrev Fa(κ:SortKind)(M:Array Nat)(p:Array<|Nat×Nat×Nat)(m:Nat)(f:Option Value):Gt->SortSt:=λg=>SortSt.mk' κ (M.map g) p m f
variable{U1:Array Nat}{p:Array<|Nat×Nat×Nat}{m0:Nat}{f:Option Value}
def rY(h:Q (λ_=>())<|Fa C.κ U1 p k f):wpF C (λ_=>gO k) Q (Fa C.κ U1 p m0 f):=eE (f:=λ_ s=>SortSt.mk' (kindOf s) (arrOf s) (pendingOf s) k<|failedOf s) h
def Ok(C:CC)(k:Nat)(xs:Array Nat):Prop:=xs.size=k/\∀x∈xs,x<C.N
def k9{a:Array Nat}(sa:∀x∈a,x<C.N)(hi:i<a.size):∃x,a[i]?=some x/\x<C.N:=⟨a[i],Array.getElem?_eq_getElem hi,sa _<|Array.getElem_mem _⟩
def Of(C:CC)(k:Nat)(O:Gt->AK):Prop:=∃out,Ok C k out/\∀g,O g=out.map g
theorem Of.one(M:x<C.N):Of C 1 λg=>#[g x]:=⟨#[x],⟨rfl,λy d=>by rw[Array.mem_singleton.mp d];exact M⟩,λg=>by simp⟩
theorem Ok.ext{a:Array Nat}(ha:∀x∈a,x<C.N)(I:j<=a.size):Ok C (j-i) (a.extract i j):=⟨by rw[Array.size_extract];lia,λy b=>by
 obtain⟨n,hn,e⟩:=Array.mem_extract_iff_getElem.mp b;rw[<-e];exact ha _ (Array.getElem_mem _)⟩
theorem Of.ext{a:Array Nat}(ha:∀x∈a,x<C.N)(I:j<=a.size):Of C (j-i) λg=>(a.map g).extract i j:=⟨_,Ok.ext ha I,λg=>Array.map_extract.symm⟩
theorem Of.rev(h:Of C k O):Of C k λg=>(O g).reverse:=by
 obtain⟨out,⟨o,h⟩,e⟩:=h;exact⟨out.reverse,⟨by rw[Array.size_reverse,o],λy a=>h y<|Array.mem_reverse.mp a⟩,λg=>by simp only[e,Array.map_reverse]⟩
theorem Of.add(h:Of C k O)(g:Of C l U)(hn:n=k+l):Of C n λg=>O g++U g:=by
 obtain⟨xs,⟨o,h⟩,e⟩:=h;obtain⟨q,⟨m,b⟩,a⟩:=g;refine⟨xs++q,⟨by rw[Array.size_append,o,m,hn],λy d=>?_⟩,λg=>by simp only[e,a,Array.map_append]⟩
 rcases Array.mem_append.mp d with z|z
 ·exact h y z
 ·exact b y z
theorem Of.push(h:Of C k O)(M:x<C.N)(hl:l=k+1):Of C l λg=>(O g).push (g x):=by
 have:=h.add (Of.one M) hl;simpa using this
def In(C:CC)(U1:Array Nat)(p:Array<|Nat×Nat×Nat)(f:Option Value)(h:Bool){M:Type}(J:(Gt->AK)->Nat->Nat->Prop)(c:Gt->T4 h M)(st:Gt->SortSt):Prop:=∃m,st=Fa C.κ U1 p m f/\∃O i j x,c=(λg=>pk h none (O g) i j x)/\J O i j
def Po(C:CC)(U1:Array Nat)(p:Array<|Nat×Nat×Nat)(f:Option Value)(h:Bool){M:Type}(n:Nat)(J:(Gt->AK)->Nat->Nat->Prop)(c:Gt->T4 h M)(st:Gt->SortSt):Prop:=In C U1 p f h J c st\/∃m,st=Fa C.κ U1 p m f/\∃O,(∀g,(un h<|c g).1=some (O g))/\Of C n O
section
variable{h:Bool}{β:Type}{n m i j:Nat}{J I:(Gt->AK)->Nat->Nat->Prop}{O U:Gt->AK}{x : β}
theorem gg(z:Of C n U):wpF C (λg=>pure<|.done<|pk h (some<|U g) (O g) i j x) (Trn (Po C U1 p f h n J)<|In C U1 p f h I) (Fa C.κ U1 p m f):=dC (.inr ⟨m,rfl,U,λ_=>by cases h<;>rfl,z⟩)
def pN(z:J O i j):wpF C (λg=>pure<|.done<|pk h none (O g) i j x) (Trn (Po C U1 p f h n J)<|In C U1 p f h I) (Fa C.κ U1 p m f):=dC (.inl ⟨m,rfl,O,i,j,x,rfl,z⟩)
def pP(z:I O i j):wpF C (λg=>pure<|.yield<|pk h none (O g) i j x) (Trn (Po C U1 p f h n J)<|In C U1 p f h I) (Fa C.κ U1 p m f):=cq ⟨m,rfl,O,i,j,x,rfl,z⟩
end
theorem BW{f2:Gt->Nat->AK->Nat->Nat->Nat->Nat->StateT SortSt Sem (F4 h<|Nat×Nat)}{M:Gt->AK->Nat->Nat->Nat->Nat->Nat->StateT SortSt Sem (F4 h<|Nat×Nat×Nat)}(J:Nat->(Gt->AK)->Nat->Nat->Prop)
  (I:∀O i j,¬J n O i j) (mono:∀{q r O i j},r<=q->J q O i j->J r O i j)
  (Y:∀q mg O i j u v m,J q O i j->wpF C (λg=>f2 g mg (O g) i j u v) (Trn (Po C U1 p f h n<|J<|q+1)<|In C U1 p f h<|J<|q+1) (Fa C.κ U1 p m f))
  (h3:∀q O i j mg u v m,J q O i j->wpF C (λg=>M g (O g) i j mg u v) (Trn (Po C U1 p f h n<|J<|q+1)<|In C U1 p f h<|J<|q+1) (Fa C.κ U1 p m f))
  {Q:(Gt->AK)->(Gt->SortSt)->Prop} (U:∀O m,Of C n O->Q O (Fa C.κ U1 p m f)) {O:Gt->AK} {i j:Nat} (hO:J 0 O i j):wpF C (λg=>mg0 h n (f2 g) (M g) (O g) i j) Q (Fa C.κ U1 p m0 f):=by
 refine aq (gN<|aq<|c7 (Q:=λc a=>∃m,a=Fa C.κ U1 p m f/\∃O,(∀g,(un h<|c g).1=some (O g))/\Of C n O) (fF (λq c a=>In C U1 p f h (J q) c a) ?_ (λc a ⟨m,_,O,i,j,x,_,z⟩=>(I O i j<|mono (by lia) z).elim) ⟨m0,rfl,O,i,j,m0,rfl,hO⟩) ?_)
 rotate_left 1
 ·rintro c _ ⟨m,rfl,O,e,o⟩
  simp only[e];exact bW (U _ _ o)
 clear U
 rintro q _ _ _ l ⟨m,rfl,O,i,j,mg,rfl,L⟩
 cases h
 all_goals
  refine aq (c7 (Q:=Po C U1 p f _ n<|J<|q+1) (fF (λr c a=>In C U1 p f _ (J<|q+r) c a) ?_ (λc a ⟨m,_,O,i,j,x,_,z⟩=>(I O i j<|mono (by lia) z).elim) ⟨m,rfl,O,i,j,(0,0),rfl,L⟩) ?_)
  ·rintro r _ _ _ d ⟨m,rfl,O,i,j,⟨u,v⟩,rfl,L⟩
   exact c7 (Y (q+r) mg O i j u v m L) λc a z=>z.imp (λ⟨c',e,z⟩=>⟨c',e,z.imp (λ⟨m,e,O,i,j,x,b,z⟩=>⟨m,e,O,i,j,x,b,mono (by lia) z⟩) id⟩) id
  rintro c _ (⟨m,rfl,O,i,j,⟨u,v⟩,rfl,L⟩|⟨m,rfl,O,e,o⟩)
  rotate_left 1
  ·simp only[e]
   exact dC ⟨m,rfl,O,λ_=>rfl,o⟩
  refine aq (jH<|aq<|c7 (Q:=Po C U1 p f _ n<|J<|q+1) (fF (λr c a=>In C U1 p f _ (J<|q+1+r) c a) ?_ (λc a ⟨m,_,O,i,j,x,_,z⟩=>(I O i j<|mono (by lia) z).elim) ⟨m,rfl,O,i,j,(mg+1,u,v),rfl,L⟩) ?_)
  ·rintro r _ _ _ d ⟨m,rfl,O,i,j,⟨mg,u,v⟩,rfl,L⟩
   exact c7 (h3 (q+1+r) O i j mg u v m L) λc a z=>z.imp (λ⟨c',e,z⟩=>⟨c',e,z.imp (λ⟨m,e,O,i,j,x,b,z⟩=>⟨m,e,O,i,j,x,b,mono (by lia) z⟩) id⟩) id
  rintro c _ (⟨m,rfl,O,i,j,⟨mg,u,v⟩,rfl,L⟩|⟨m,rfl,O,e,o⟩)
  rotate_left 1
  ·simp only[e]
   exact dC ⟨m,rfl,O,λ_=>rfl,o⟩
  exact aq (rY (k:=mg+1)<|cq (c:=λg=>pk _ none (O g) i j<|mg+1) ⟨mg+1,rfl,O,i,j,mg+1,rfl,L⟩)
section
variable{a b:Array Nat}{k l:Nat}
abbrev LJ(C:CC)(k l q:Nat)(O:Gt->AK)(i j:Nat):Prop:=Of C (i+j) O/\i+1<k/\j<l/\q<i+j
variable{q m:Nat}{O:Gt->AK}{i j u v mg:Nat}
theorem Of.lo(sa:∀x∈a,x<C.N)(sb:∀x∈b,x<C.N)(hk:a.size=k)(hl:b.size=l)(o:Of C (i+j) O)(M:i<=k)(U:j<=l):Of C (k+l) (λg=>loD (a.map g) (b.map g) k l (O g) i j)/\Of C (k+l) λg=>loL (a.map g) (b.map g) k l (O g) i j :=
 ⟨(o.add (Of.ext sa<|Nat.le_of_eq hk.symm) rfl).add (Of.ext sb<|Nat.le_of_eq hl.symm) (by lia),(o.add (Of.ext sb<|Nat.le_of_eq hl.symm) rfl).add (Of.ext sa<|Nat.le_of_eq hk.symm) (by lia)⟩
variable(sa:∀x∈a,x<C.N)(sb:∀x∈b,x<C.N)(hk:a.size=k)(hl:b.size=l)
include sa sb hk hl
theorem BX(o:LJ C k l q O i j):wpF C (λg=>loC (a.map g) (b.map g) k l mg u v i (O g) j) (Trn (Po C U1 p f true (k+l)<|LJ C k l<|q+1)<|In C U1 p f true<|LJ C k l<|q+1) (Fa C.κ U1 p m f):=by
 obtain⟨o,t,h,h3⟩:=o;obtain⟨x,r,x3⟩:=k9 sa (by lia:i<a.size)
 have d:=o.push x3 (l:=i+1+j) (by lia)
 refine aq (bJ r<|aP (λe=>gg (d.lo sa sb hk hl (by lia) (by lia)).2) λe=>?_)
 have s:i+1+1≠k:=by simpa using e
 exact aP (λ_=>pN ⟨d,by lia,h,by lia⟩) λ_=>pP ⟨d,by lia,h,by lia⟩
theorem BY(o:LJ C k l q O i j):wpF C (λg=>loB (a.map g) (b.map g) k l mg u v (O g) i j) (Trn (Po C U1 p f true (k+l)<|LJ C k l<|q+1)<|In C U1 p f true<|LJ C k l<|q+1) (Fa C.κ U1 p m f):=by
 obtain⟨o,h,B,h3⟩:=o;obtain⟨x,t,x3⟩:=k9 sa (by lia:i<a.size)
 obtain⟨y,w,A⟩:=k9 sb (by lia:j<b.size)
 have d:=o.push A (l:=i+(j+1)) (by lia)
 refine aq (bJ w<|aP (λe=>gg (d.lo sa sb hk hl (by lia) (by lia)).1) λe=>?_)
 have s:j+1≠l:=by simpa using e
 refine aq (bJ t<|aq<|gB (λ_=>rfl) sb (by lia) x3 (by lia) λn hn=>?_)
 have r:=d.add (Of.ext sb (i:=j+1) (j:=j+1+n) (by lia)) (n:=i+(j+1+n)) (by lia)
 refine aP (c:=n>0) (λ_=>aP (λe=>gg (r.lo sa sb hk hl (by lia) (by lia)).1) λe=>?_) λ_=>BX sa sb hk hl ⟨d,h,by lia,by lia⟩
 have s:j+1+n≠l:=by simpa using e
 exact BX sa sb hk hl ⟨r,h,by lia,by lia⟩
theorem JO(o:LJ C k l q O i j):wpF C (λg=>lo3 (a.map g) (b.map g) k l (O g) i j mg u v) (Trn (Po C U1 p f true (k+l)<|LJ C k l<|q+1)<|In C U1 p f true<|LJ C k l<|q+1) (Fa C.κ U1 p m f):=by
 suffices z:∀mg,wpF C (λg=>loA (a.map g) (b.map g) k l (O g) i j u v mg) (Trn (Po C U1 p f true (k+l)<|LJ C k l<|q+1)<|In C U1 p f true<|LJ C k l<|q+1) (Fa C.κ U1 p m f)from aP (λ_=>z _) λ_=>z _
 intro mg;obtain⟨o,t,h,h3⟩:=o;obtain⟨y,w,A⟩:=k9 sb (by lia:j<b.size)
 refine aq (rY<|aq<|bJ w<|aq<|gB (λ_=>rfl) sa (by lia) A (by lia) λn hn=>?_)
 have d:=o.add (Of.ext sa (i:=i) (j:=i+n) (by lia)) (n:=i+n+j) (by lia)
 refine aP (c:=n>0) (λ_=>aP (λe=>gg (d.lo sa sb hk hl (by lia) (by lia)).2) λe=>aP (λe=>gg (d.lo sa sb hk hl (by lia) (by lia)).1) λr=>?_) λ_=>BY sa sb hk hl ⟨o,t,h,h3⟩
 have B:i+n+1≠k:=by simpa using e
 have s:i+n≠k:=by simpa using r
 exact BY sa sb hk hl ⟨d,by lia,h,by lia⟩
theorem JP(o:LJ C k l q O i j):wpF C (λg=>lo2 (a.map g) (b.map g) k l mg (O g) i j u v) (Trn (Po C U1 p f true (k+l)<|LJ C k l<|q+1)<|In C U1 p f true<|LJ C k l<|q+1) (Fa C.κ U1 p m f):=by
 obtain⟨o,n,r,h3⟩:=o;obtain⟨x,s,x3⟩:=k9 sa (by lia:i<a.size)
 obtain⟨y,t,w⟩:=k9 sb (by lia:j<b.size)
 have d:=o.push w (l:=i+(j+1)) (by lia)
 have h:=o.push x3 (l:=i+1+j) (by lia)
 refine aq (bJ t<|aq<|bJ s<|aq<|rX (λ_=>rfl) w x3 ?_)
 refine aP (c:=C.lt y x=true) (λ_=>aq<|bJ t<|aP (λe=>gg (d.lo sa sb hk hl (by lia) (by lia)).1) λe=>?_) λ_=>aq (bJ s<|aP (λe=>gg (h.lo sa sb hk hl (by lia) (by lia)).2) λe=>?_)
 ·have A:j+1≠l:=by simpa using e
  exact aP (λ_=>pN ⟨d,n,by lia,by lia⟩) λ_=>pP ⟨d,n,by lia,by lia⟩
 ·have A:i+1+1≠k:=by simpa using e
  exact aP (λ_=>pN ⟨h,by lia,r,by lia⟩) λ_=>pP ⟨h,by lia,r,by lia⟩
theorem yB(I : 0<k)(M : 0<l){Q:(Gt->AK)->(Gt->SortSt)->Prop}(h:∀O m,Of C (k+l) O->Q O (Fa C.κ U1 p m f)):wpF C (λg=>nX (a.map g)<|b.map g) Q (Fa C.κ U1 p m0 f):=by
 rw[show(λg:Gt=>nX (a.map g)<|b.map g)=_ from funext λg=>yA (Array.size_map.trans hk)<|Array.size_map.trans hl]
 obtain⟨y,A,B⟩:=k9 sb (by lia : 0<b.size)
 have o0:Of C (0+1) λg=>#[g y]:=Of.one B
 refine aq (jH<|aq<|bJ A<|aP (λe=>bW<|h _ _ (o0.lo sa sb hk hl (by lia) (by lia)).1) λd=>aP (λe=>bW<|h _ _ (o0.lo sa sb hk hl (by lia) (by lia)).2) λr=>?_)
 have n : 1≠l:=by simpa using d
 have s : 0+1≠k:=by simpa using r
 exact BW (LJ C k l) (λ_ _ _ ⟨_,_,_,z⟩=>by lia) (λD ⟨t,w,h3,h4⟩=>⟨t,w,h3,by lia⟩) (λ_ _ _ _ _ _ _ _ o=>JP sa sb hk hl o) (λ_ _ _ _ _ _ _ _ o=>JO sa sb hk hl o) h ⟨o0,by lia,by lia,by lia⟩
end
end
def nY:Array Keyed->Array Keyed->StateT SortSt Sem (Array Keyed):=sortPriv%PySem.Builtin.mergeHi
section
variable(a b:AK)
abbrev hiD(O:AK)(i j:Nat):AK:=a.extract 0 i++b.extract 0 j++O.reverse
abbrev hiF(O:AK)(i j:Nat):AK:=b.extract 0 j++a.extract 0 i++O.reverse
def hiC(mg u v i:Nat)(O:AK)(j:Nat):StateT SortSt Sem (F4 false<|Nat×Nat×Nat):=do
 let x<-elem' a (i-1)
 if i-1==0 then pure (.done<|pk false (some<|hiD a b (O.push x) (i-1) j) (O.push x) (i-1) j (mg,u,v))
 else if decide (u<7)&&decide (v<7)then pure (.done<|pk false none (O.push x) (i-1) j (mg,u,v))else pure (.yield<|pk false none (O.push x) (i-1) j (mg,u,v))
def hiB(mg u v:Nat)(O:AK)(i j:Nat):StateT SortSt Sem (F4 false<|Nat×Nat×Nat):=do
 let y<-elem' b (j-1)
 if j-1==1 then pure (.done<|pk false (some<|hiF a b (O.push y) i<|j-1) (O.push y) i (j-1) (mg,u,v))else
 match<-jc true (<-elem' a (i-1)) b 0 (j-1) (j-1-1)with
 |some t=>if j-1-t>0 then(if t==1 then pure (.done<|pk false (some<|hiF a b (O.push y++(b.extract t<|j-1).reverse) i t) (O.push y++(b.extract t<|j-1).reverse) i t (mg,u,j-1-t))else if t==0 then pure (.done<|pk false (some<|hiD a b (O.push y++(b.extract t<|j-1).reverse) i t) (O.push y++(b.extract t<|j-1).reverse) i t (mg,u,j-1-t))else hiC a b mg u (j-1-t) i (O.push y++(b.extract t<|j-1).reverse) t)else hiC a b mg u (j-1-t) i (O.push y) (j-1)
 |_=>pure (.done<|pk false (some<|hiD a b (O.push y) i<|j-1) (O.push y) i (j-1) (mg,u,v))
def hiA(O:AK)(i j u v mg:Nat):StateT SortSt Sem (F4 false<|Nat×Nat×Nat):=do
 gO mg
 match<-jc false (<-elem' b (j-1)) a 0 i (i-1)with
 |some t=>if i-t>0 then(if t==0 then pure (.done<|pk false (some<|hiD a b (O++(a.extract t i).reverse) t j) (O++(a.extract t i).reverse) t j (mg,i-t,v))else hiB a b mg (i-t) v (O++(a.extract t i).reverse) t j)else hiB a b mg (i-t) v O i j
 |_=>pure (.done<|pk false (some<|hiD a b O i j) O i j (mg,u,v))
def hi3(O:AK)(i j mg u v:Nat):StateT SortSt Sem (F4 false<|Nat×Nat×Nat):=if mg>1 then hiA a b O i j u v (mg-1)else hiA a b O i j u v mg
def hi2(mg:Nat)(O:AK)(i j u v:Nat):StateT SortSt Sem (F4 false<|Nat×Nat):=do
 match<-lt' (<-elem' b (j-1)) (<-elem' a (i-1))with
 |some w=>(if w then elem' a (i-1)>>=λx=>if i-1==0 then pure (.done<|pk false (some<|hiD a b (O.push x) (i-1) j) (O.push x) (i-1) j (u+1,0))else if u+1>=mg then pure (.done<|pk false none (O.push x) (i-1) j (u+1,0))else pure (.yield<|pk false none (O.push x) (i-1) j (u+1,0))else elem' b (j-1)>>=λy=>if j-1==1 then pure (.done<|pk false (some<|hiF a b (O.push y) i<|j-1) (O.push y) i (j-1) (0,v+1))else if v+1>=mg then pure (.done<|pk false none (O.push y) i (j-1) (0,v+1))else pure (.yield<|pk false none (O.push y) i (j-1) (0,v+1)))
 |_=>pure (.done<|pk false (some<|hiD a b O i j) O i j (u,v))
end
theorem yC{a b:AK}(ha:a.size=k)(I:b.size=l):nY a b=(do
 rule "list.sort.merge-hi"
 let x<-elem' a (k-1)
 if k-1==0 then pure (hiD a b #[x] (k-1) l)else if l==1 then pure (hiF a b #[x] (k-1) l)else mg0 false (k+l) (hi2 a b) (hi3 a b) #[x] (k-1) l):=by
 subst ha I;kernel_rfl
section
variable{C:CC}{U1:Array Nat}{p:Array<|Nat×Nat×Nat}{m0:Nat}{f:Option Value}{a b:Array Nat}{k l:Nat}
abbrev HJ(C:CC)(k l q:Nat)(O:Gt->AK)(i j:Nat):Prop:=(∃n,n+i+j=k+l/\Of C n O)/\0<i/\1<j/\i<=k/\j<=l/\q+i+j<k+l
variable{q m:Nat}{O:Gt->AK}{i j u v mg:Nat}
theorem Of.hi(sa:∀x∈a,x<C.N)(sb:∀x∈b,x<C.N)(hk:a.size=k)(hl:b.size=l)(o:Of C n O)(I:i<=k)(M:j<=l)(e:n+i+j=k+l):Of C (k+l) (λg=>hiD (a.map g) (b.map g) (O g) i j)/\Of C (k+l) λg=>hiF (a.map g) (b.map g) (O g) i j :=
 ⟨((Of.ext sa<|hk▸I).add (Of.ext sb<|hl▸M) rfl).add o.rev (by lia),((Of.ext sb<|hl▸M).add (Of.ext sa<|hk▸I) rfl).add o.rev (by lia)⟩
variable(sa:∀x∈a,x<C.N)(sb:∀x∈b,x<C.N)(hk:a.size=k)(hl:b.size=l)
include sa sb hk hl
theorem BZ(o:HJ C k l q O i j):wpF C (λg=>hiC (a.map g) (b.map g) mg u v i (O g) j) (Trn (Po C U1 p f false (k+l)<|HJ C k l<|q+1)<|In C U1 p f false<|HJ C k l<|q+1) (Fa C.κ U1 p m f):=by
 obtain⟨⟨n,hn,o⟩,w,r,h3,h4,y⟩:=o;obtain⟨x,s,x3⟩:=k9 sa (by lia:i-1<a.size)
 have h:=o.push x3 rfl;have d:n+1+(i-1)+j=k+l:=by lia
 refine aq (bJ s<|aP (λe=>gg (h.hi sa sb hk hl (by lia) h4 d).1) λe=>?_)
 have t:i-1≠0:=by simpa using e
 exact aP (λ_=>pN ⟨⟨_,d,h⟩,by lia,r,by lia,h4,by lia⟩) λ_=>pP ⟨⟨_,d,h⟩,by lia,r,by lia,h4,by lia⟩
theorem B6(o:HJ C k l q O i j):wpF C (λg=>hiB (a.map g) (b.map g) mg u v (O g) i j) (Trn (Po C U1 p f false (k+l)<|HJ C k l<|q+1)<|In C U1 p f false<|HJ C k l<|q+1) (Fa C.κ U1 p m f):=by
 obtain⟨⟨n,hn,o⟩,w,H,h3,h4,J⟩:=o;obtain⟨x,E,x3⟩:=k9 sa (by lia:i-1<a.size)
 obtain⟨y,F,G⟩:=k9 sb (by lia:j-1<b.size)
 have h:=o.push G rfl;have s:n+1+i+(j-1)=k+l:=by lia
 refine aq (bJ F<|aP (λe=>gg (h.hi sa sb hk hl h3 (by lia) s).2) λe=>?_)
 have A:j-1≠1:=by simpa using e
 refine aq (bJ E<|aq<|gB (λ_=>rfl) sb (by lia) x3 (by lia) λt K=>?_)
 have r:=h.add (Of.ext sb (i:=t) (j:=j-1) (by lia)).rev rfl
 have d:n+1+(j-1-t)+i+t=k+l:=by lia
 refine aP (c:=j-1-t>0) (λ_=>aP (λe=>gg (r.hi sa sb hk hl h3 (by lia) d).2) λe=>aP (λe=>gg (r.hi sa sb hk hl h3 (by lia) d).1) λB=>?_) λ_=>BZ sa sb hk hl ⟨⟨_,s,h⟩,w,by lia,h3,by lia,by lia⟩
 have A:t≠1:=by simpa using e
 have D:t≠0:=by simpa using B
 exact BZ sa sb hk hl ⟨⟨_,d,r⟩,w,by lia,h3,by lia,by lia⟩
theorem JQ(o:HJ C k l q O i j):wpF C (λg=>hi3 (a.map g) (b.map g) (O g) i j mg u v) (Trn (Po C U1 p f false (k+l)<|HJ C k l<|q+1)<|In C U1 p f false<|HJ C k l<|q+1) (Fa C.κ U1 p m f):=by
 suffices z:∀mg,wpF C (λg=>hiA (a.map g) (b.map g) (O g) i j u v mg) (Trn (Po C U1 p f false (k+l)<|HJ C k l<|q+1)<|In C U1 p f false<|HJ C k l<|q+1) (Fa C.κ U1 p m f)from aP (λ_=>z _) λ_=>z _
 intro mg;obtain⟨⟨n,hn,o⟩,s,h,h3,h4,w⟩:=o;obtain⟨y,A,B⟩:=k9 sb (by lia:j-1<b.size)
 refine aq (rY<|aq<|bJ A<|aq<|gB (λ_=>rfl) sa (by lia) B (by lia) λt E=>?_)
 have r:=o.add (Of.ext sa (i:=t) (j:=i) (by lia)).rev rfl
 have d:n+(i-t)+t+j=k+l:=by lia
 refine aP (c:=i-t>0) (λ_=>aP (λe=>gg (r.hi sa sb hk hl (by lia) h4 d).1) λe=>?_) λ_=>B6 sa sb hk hl ⟨⟨n,hn,o⟩,s,h,h3,h4,w⟩
 have D:t≠0:=by simpa using e
 exact B6 sa sb hk hl ⟨⟨_,d,r⟩,by lia,h,by lia,h4,by lia⟩
theorem JR(o:HJ C k l q O i j):wpF C (λg=>hi2 (a.map g) (b.map g) mg (O g) i j u v) (Trn (Po C U1 p f false (k+l)<|HJ C k l<|q+1)<|In C U1 p f false<|HJ C k l<|q+1) (Fa C.κ U1 p m f):=by
 obtain⟨⟨n,hn,o⟩,t,w,h3,h4,F⟩:=o;obtain⟨x,A,x3⟩:=k9 sa (by lia:i-1<a.size)
 obtain⟨y,B,D⟩:=k9 sb (by lia:j-1<b.size)
 have r:=o.push x3 rfl;have s:=o.push D rfl;have d:n+1+(i-1)+j=k+l:=by lia
 have h:n+1+i+(j-1)=k+l:=by lia
 refine aq (bJ B<|aq<|bJ A<|aq<|rX (λ_=>rfl) D x3 ?_)
 refine aP (c:=C.lt y x=true) (λ_=>aq<|bJ A<|aP (λe=>gg (r.hi sa sb hk hl (by lia) h4 d).1) λe=>?_) λ_=>aq (bJ B<|aP (λe=>gg (s.hi sa sb hk hl h3 (by lia) h).2) λe=>?_)
 ·have E:i-1≠0:=by simpa using e
  exact aP (λ_=>pN ⟨⟨_,d,r⟩,by lia,w,by lia,h4,by lia⟩) λ_=>pP ⟨⟨_,d,r⟩,by lia,w,by lia,h4,by lia⟩
 ·have E:j-1≠1:=by simpa using e
  exact aP (λ_=>pN ⟨⟨_,h,s⟩,t,by lia,h3,by lia,by lia⟩) λ_=>pP ⟨⟨_,h,s⟩,t,by lia,h3,by lia,by lia⟩
theorem yD(I : 0<k)(M : 0<l){Q:(Gt->AK)->(Gt->SortSt)->Prop}(h:∀O m,Of C (k+l) O->Q O (Fa C.κ U1 p m f)):wpF C (λg=>nY (a.map g)<|b.map g) Q (Fa C.κ U1 p m0 f):=by
 rw[show(λg:Gt=>nY (a.map g)<|b.map g)=_ from funext λg=>yC (Array.size_map.trans hk)<|Array.size_map.trans hl]
 obtain⟨x,B,x3⟩:=k9 sa (by lia:k-1<a.size)
 have o0:=Of.one x3;have d : 1+(k-1)+l=k+l:=by lia
 refine aq (jH<|aq<|bJ B<|aP (λe=>bW<|h _ _ (o0.hi sa sb hk hl (by lia) (by lia) d).1) λn=>aP (λe=>bW<|h _ _ (o0.hi sa sb hk hl (by lia) (by lia) d).2) λs=>?_)
 have r:k-1≠0:=by simpa using n
 have t:l≠1:=by simpa using s
 exact BW (HJ C k l) (λ_ _ _ ⟨_,_,_,_,_,z⟩=>by lia) (λE ⟨w,y,h3,h4,A,D⟩=>⟨w,y,h3,h4,A,by lia⟩) (λ_ _ _ _ _ _ _ _ o=>JR sa sb hk hl o) (λ_ _ _ _ _ _ _ _ o=>JQ sa sb hk hl o) h ⟨⟨_,d,o0⟩,by lia,by lia,by lia,by lia,by lia⟩
end
def yE(i:Nat):mergeAt' i=(do
 let s<-get
 let(some (sa,I,M),some (sb,nb,_)):=((pendingOf s)[i]?,(pendingOf s)[i+1]?)|unsupported "internal:list.sort.pending"
 set (SortSt.mk' (kindOf s) (arrOf s) (((pendingOf s).setIfInBounds i (sa,I+nb,M)).eraseIdxIfInBounds (i+1)) (gallopOf s) (failedOf s))
 let some k<-jc false (<-elem' (arrOf s) sb) (arrOf s) sa I 0|return false
 let(sa,I):=(sa+k,I-k)
 if I==0 then return true
 let some nb<-jc true (<-elem' (arrOf s) (sa+I-1)) (arrOf s) sb nb (nb-1)|return false
 if nb==0 then return true
 let x:=(arrOf s).extract sa sb
 let y:=(arrOf s).extract sb (sb+nb)
 let merged<-if I<=nb then nX x y else nY x y
 modify λs=>setArr s (merged.toList.zipIdx.foldl (λa (p,j)=>a.setIfInBounds (sa+j) p)<|arrOf s)
 return (failedOf<|<-get).isNone):=rfl
theorem fold_map(g:Gt)(o:Nat):∀(l:List<|Nat×Nat) (c:Array Nat),(l.map<|Prod.map g id).foldl (λ(a:Array Keyed) (p:Keyed×Nat)=>a.setIfInBounds (o+p.2) p.1) (c.map g)=(l.foldl (λ(a:Array Nat) (p:Nat×Nat)=>a.setIfInBounds (o+p.2) p.1) c).map g
 | [],c=>rfl
 |p::l,c=>by
  simp only[List.map_cons,List.foldl_cons];rw[<-fold_map g o l,Array.map_setIfInBounds];rfl
section
variable{C:CC}
def JS{x st:Gt->SortSt}(h:Q (λ_=>⟨⟩) x):wpF C (λg=>(set (x g):StateT SortSt Sem PUnit)) Q st:=⟨_,_,h,λg _ _ _ _ _ _ _ q=>wpS_modify (f:=λ_=>x g) q⟩
def Ok.to(h:Ok C k xs)(e:k=l):Ok C l xs:=e▸h
theorem Ok.set(h:Ok C k c)(I:x<C.N):Ok C k (c.setIfInBounds i x):=⟨by rw[Array.size_setIfInBounds];exact h.1,λy a=>by
 rcases Array.mem_or_eq_of_mem_setIfInBounds a with z|rfl
 ·exact h.2 y z
 ·exact I⟩
theorem Ok.fold:∀(l:List<|Nat×Nat) (c:Array Nat),Ok C k c->(∀p∈l,p.1<C.N)->Ok C k (l.foldl (λ(a:Array Nat) (p:Nat×Nat)=>a.setIfInBounds (o+p.2) p.1) c)
 | [],c,h,_=>h
 |p::l,c,h,hl=>Ok.fold l _ (h.set<|hl p zas) λq b=>hl q (zak _ b)
theorem yF(U : 0<n1)(hn2 : 0<n2)(ok:Ok C (n1+n2) c)
  (h:∀c' m,Ok C (n1+n2) c'->Q (λ_=>true) (Fa C.κ c' #[(0,n1+n2,M)] m none)):wpF C (λ_=>mergeAt' 0) Q (Fa C.κ c #[(0,n1,M),(n1,n2,p2)] Y none):=by
 simp only[yE];refine aq (gN ?_);obtain⟨sz,sc⟩:=id ok;have A:(#[(0,n1,M),(n1,n2,p2)].setIfInBounds 0 (0,n1+n2,M)).eraseIdxIfInBounds (0+1)=#[(0,n1+n2,M)]:=by
  apply Array.toList_inj.mp;simp
 refine aq (JS (x:=λg=>SortSt.mk' C.κ (c.map g) ((#[(0,n1,M),(n1,n2,p2)].setIfInBounds 0 (0,n1+n2,M)).eraseIdxIfInBounds<|0+1) Y none) ?_)
 simp only[A];obtain⟨x,B,x3⟩:=k9 sc (by lia:n1<c.size)
 refine aq (bJ B<|aq<|gB (λ_=>rfl) sc (by lia) x3 U λk v=>?_)
 dsimp only;refine aP (c:=(n1-k==0)=true) (λ_=>bW<|h _ _ ok) λn=>?_
 have q:n1-k≠0:=by simpa using n
 obtain⟨y,D,E⟩:=k9 sc (by lia : 0+k+(n1-k)-1<c.size)
 refine aq (bJ D<|aq<|gB (λ_=>rfl) sc (by lia) E (by lia) λm hm=>?_)
 dsimp only;refine aP (c:=(m==0)=true) (λ_=>bW<|h _ _ ok) λr=>?_
 have t:m≠0:=by simpa using r
 have d:Ok C (n1-(0+k)) (c.extract (0+k) n1):=Ok.ext sc (by lia)
 have f:Ok C (n1+m-n1) (c.extract n1<|n1+m):=Ok.ext sc (by lia)
 have b:∀(O:Gt->AK) (l:Nat),Of C (n1-(0+k)+(n1+m-n1)) O->wpF C (λg=>do
   modify λs=>setArr s ((O g).toList.zipIdx.foldl (λa (p,j)=>a.setIfInBounds (0+k+j) p)<|arrOf s)
   return (failedOf<|<-get).isNone) Q (Fa C.κ c #[(0,n1+n2,M)] l none):=λO l ⟨out,o,u⟩=>by
  refine aq (eE<|aq<|gN<|bW ?_);have e:∀g:Gt,(O g).toList.zipIdx.foldl (λ(a:Array Keyed) (p:Keyed×Nat)=>a.setIfInBounds (0+k+p.2) p.1) (c.map g)=(out.toList.zipIdx.foldl (λ(a:Array Nat) (p:Nat×Nat)=>a.setIfInBounds (0+k+p.2) p.1) c).map g:=λg=>by
   rw[<-fold_map,<-List.zipIdx_map,u,Array.toList_map]
  show Q (λ_=>true) λg=>SortSt.mk' C.κ ((O g).toList.zipIdx.foldl (λ(a:Array Keyed) (p:Keyed×Nat)=>a.setIfInBounds (0+k+p.2) p.1)<|c.map g) #[(0,n1+n2,M)] l none
  simp only[e];refine h _ _ (Ok.fold _ _ ok λp w=>o.2 _ ?_)
  have:=List.mem_zipIdx w;simp at this;rw[this.2];simp
 have ex:∀(g:Gt) i j,(arrOf<|Fa C.κ c #[(0,n1,M),(n1,n2,p2)] Y none g).extract i j=(c.extract i j).map g:=λg i j=>Array.map_extract.symm
 simp only[ex];exact aP (c:=n1-k<=m) (λ_=>aq<|yB d.2 f.2 d.1 f.1 (by lia) (by lia) b) λ_=>aq (yD d.2 f.2 d.1 f.1 (by lia) (by lia) b)
end
theorem pQ{I:Type}(g:Gt)(u v : I->Nat):∀(l:List I) (xs:Array Nat),l.foldl (λa k=>a.swapIfInBounds (u k)<|v k) (xs.map g)=(l.foldl (λa k=>a.swapIfInBounds (u k)<|v k) xs).map g
 | [],_=>rfl
 |k::l,xs=>by
  rw[List.foldl_cons,List.foldl_cons,<-pQ g u v l]
  congr 1
  apply Array.ext_getElem?;intro i;simp only[Array.swapIfInBounds_def,Array.size_map,Array.getElem?_map];split
  ·split
   ·simp only[Array.getElem?_swap,Array.getElem_map,Array.getElem?_map]
    split<;>first|rfl|(split<;>rfl)
   ·rw[Array.getElem?_map]
  ·rw[Array.getElem?_map]
section
variable{C:CC}{n:Nat}{p:Array<|Nat×Nat×Nat}{st:Gt->SortSt}
theorem Ok.perm(h:Ok C k xs)(p:I.Perm xs):Ok C k I:=⟨p.size_eq.trans h.1,λx b=>h.2 x (by
 have:=(Array.perm_iff_toList_perm.mp p).mem_iff (a:=x);simpa using this.mp (by simpa using b))⟩
def Bl(C:CC)(n:Nat)(p:Array<|Nat×Nat×Nat)(st:Gt->SortSt):Prop:=∃D m,st=Fa C.κ D p m none/\Ok C n D
theorem rZ(B:Bl C n p st)(hi:i<n)(I:j<n)(q:∀b,Q (λ_=>some b) st):wpF C (λ_=>ltAt' i j) Q st:=by
 obtain⟨a,m,rfl,sz,ok⟩:=B;obtain⟨x,c,x3⟩:=k9 ok (by lia:i<a.size)
 obtain⟨y,d,e⟩:=k9 ok (by lia:j<a.size)
 simp only[ltAt'_eq];exact aq (gN<|aq<|bJ c<|aq<|bJ d<|rX (λ_=>rfl) x3 e<|q _)
theorem yG{lo m ok:Nat}(hn:lo+m<=n)(B:Bl C n p st)(h:∀M,Bl C n p M->Q (λ_=>true) M):wpF C (λ_=>binarySort' lo m ok) Q st:=by
 simp only[binarySort'_eq];refine aq (c7 (Q:=λ(c:Gt->Option Bool×Unit) M=>c=(λ_=>(none,()))/\Bl C n p M) (fF (λ_ (c:Gt->Option Bool×Unit) M=>c=(λ_=>(none,()))/\Bl C n p M) ?_ (λ_ _ z=>z) ⟨rfl,B⟩) ?_)
 rotate_left 1
 ·rintro _ M ⟨rfl,B'⟩
  exact bW (h M B')
 rintro k _ a j o ⟨rfl,d⟩
 refine aq (c7 (Q:=λ(c:Gt->Option Bool×Nat×Nat) M=>M=a/\∃l u,c=λ_=>(none,l,u)) (fF (λ_ (c:Gt->Option Bool×Nat×Nat) M=>M=a/\∃l u,c=(λ_=>(none,l,u))/\u<=k) ?_ (λ_ _ ⟨z,l,u,w,_⟩=>⟨z,l,u,w⟩) ⟨rfl,_,k,rfl,zap k⟩) ?_)
 ·rintro i _ _ _ hi ⟨rfl,l,u,rfl,g⟩
  dsimp only;refine aP (λ_=>dC ⟨rfl,_,_,rfl⟩) λe=>?_
  refine aq (rZ d (by lia) (by lia) λb=>?_)
  cases b with
  |true=>exact cq ⟨rfl,_,_,rfl,by lia⟩
  |false=>exact cq ⟨rfl,_,_,rfl,g⟩
 ·rintro _ _ ⟨rfl,l,u,rfl⟩
  dsimp only;obtain⟨f,m,rfl,ok⟩:=d;simp only[moveDown'_eq];refine aq (eE<|cq ⟨rfl,bubble f (lo+k)<|lo+k-(lo+l),m,?_,ok.perm<|bubble_perm _ _ _⟩);funext g
  show SortSt.mk' C.κ (bubble (f.map g) (lo+k)<|lo+k-(lo+l)) p m none=_;rw[bubble,pQ];rfl
theorem nZ(B:Bl C n p st)(h:∀I,Bl C n p I->Q (λ_=>()) I):wpF C (λ_=>reverseSlice' i j) Q st:=by
 obtain⟨a,m,rfl,ok⟩:=B;simp only[reverseSlice'_eq];refine eE (h _ ⟨mirror a i j<|(j-i)/2,m,?_,ok.perm<|mirror_perm _ _ _ _⟩);funext g
 show SortSt.mk' C.κ (mirror (a.map g) i j<|(j-i)/2) p m none=_;rw[mirror,pQ];rfl
theorem vR{lo I a:Nat}(hn:lo+I<=n)(ha : 1<=a)(Y:a<=I)(B:Bl C n p st)
  (h:∀n,a<=n->n<=I->Q (λ_=>(none,n)) st):wpF C (λ_=>forIn [a:I] ((none,a):Option (Option Nat)×Nat) λ_ M=>do
    let U<-ltAt' (lo+M.snd) (lo+M.snd-1)
    match U with
    |some O=>if O=true then pure (ForInStep.done (none,M.snd))else pure (ForInStep.yield (none,M.snd+1))
    |_=>pure<|ForInStep.done (some none,M.snd)) Q st:=by
 refine fF (λx c e=>e=st/\c=λ_=>(none,x)) ?_ ?_ ⟨rfl,rfl⟩
 ·rintro x _ _ d f ⟨rfl,rfl⟩
  dsimp only;refine aq (rZ B (by lia) (by lia) λb=>?_)
  cases b with
  |true=>exact dC (h x d (by lia))
  |false=>exact cq ⟨rfl,rfl⟩
 ·rintro _ _ ⟨rfl,rfl⟩
  exact h _ (by lia) (by lia)
theorem uH{lo nrem:Nat}(hn:lo+nrem<=n)(O : 1<=nrem)(B:Bl C n p st)
  (h:∀m M,Bl C n p M->1<=m->m<=nrem->Q (λ_=>some m) M):wpF C (λ_=>countRun' lo nrem) Q st:=by
 simp only[countRun'_eq];refine aq (vR hn (zap 1) O B λm i j=>?_)
 dsimp only;refine aP (λ_=>bW<|h m st B i j) λe=>?_
 have A:m≠nrem:=by simpa using e
 obtain⟨d,u,o⟩:∃d,d=st/\Bl C n p d:=⟨st,rfl,B⟩;refine aP (λe=>?_) λe=>?_
 all_goals first
  |refine aq (rZ B (by lia) (by lia) λb=>?_)
   dsimp only;refine aP (λ_=>bW<|h m st B i j) λ_=>?_
   clear u o;refine aq (nZ B λd o=>?_)
  |rw[<-u]
 all_goals
  refine aq (jH ?_);refine aq (c7 (Q:=λ(c:Gt->Option (Option Nat)×Nat×Nat) M=>∃k q,c=(λ_=>(none,k,q))/\1<=k/\k<=nrem/\Bl C n p M) (fF (λx (c:Gt->Option (Option Nat)×Nat×Nat) M=>∃q,c=(λ_=>(none,x,q))/\Bl C n p M) ?_ ?_ ⟨0,rfl,o⟩) ?_)
  ·rintro x _ l w y ⟨q,rfl,a⟩
   dsimp only;refine aq (rZ a (by lia) (by lia) λb=>?_)
   dsimp only;refine aP (λ_=>?_) λ_=>?_
   ·refine aP (λ_=>?_) λ_=>cq ?_
    ·exact aq (nZ a λt r=>cq ⟨0,rfl,r⟩)
    ·exact⟨0,rfl,a⟩
   ·refine aq (rZ a (by lia) (by lia) λb=>?_)
    cases b with
    |true=>exact dC ⟨x,q,rfl,by lia,by lia,a⟩
    |false=>exact cq ⟨q+1,rfl,a⟩
  ·rintro _ l ⟨q,rfl,a⟩
   exact⟨_,q,rfl,by lia,by lia,a⟩
  ·rintro _ l ⟨k,q,rfl,k1,v,a⟩
   dsimp only;exact aP (λ_=>aq<|nZ a λt r=>aq<|nZ r λf g=>aq<|vR hn k1 v g λs _ _=>bW<|h s f g (by lia) (by lia)) λ_=>aq (nZ a λf g=>aq<|vR hn k1 v g λs _ _=>bW<|h s f g (by lia) (by lia))
theorem Ah:∀n:Nat,n<128->2<=n->n<=2*minRun' n n 0/\1<=minRun' n n 0:=by decide+kernel
def D8(C:CC)(n:Nat)(c:Gt->Option Unit×Nat)(M:Gt->SortSt):Prop:=c=(λ_=>(none,n))/\(Bl C n #[(0,n,0)] M\/∃n1 n2 pw,0<n1/\0<n2/\n1+n2=n/\Bl C n #[(0,n1,pw),(n1,n2,0)] M)
def I8(C:CC)(n O x:Nat)(c:Gt->Option Unit×Nat)(M:Gt->SortSt):Prop:=(x=0/\c=(λ_=>(none,0))/\Bl C n #[] M)\/(x=1/\∃n1,c=(λ_=>(none,n1))/\1<=n1/\n1<n/\n<=n1+O/\Bl C n #[(0,n1,0)] M)\/D8 C n c M
theorem Bl.size(B:Bl C n p st):∀g,(arrOf<|st g).size=n:=by
 obtain⟨d,m,rfl,ok⟩:=B;exact λg=>by show(d.map g).size=n;rw[Array.size_map,ok.1]
theorem yH(B:Bl C n #[] st)(O : 2<=n)(U:n<=127)
  (h:∀M p m,Ok C n M->Q (λ_=>()) (Fa C.κ M p m none)):wpF C (λ_=>sortRuns') Q st:=by
 simp only[sortRuns'_eq];refine aq (gN ?_);simp only[B.size];obtain⟨A,w⟩:=Ah n (by lia) O
 generalize minRun' n n 0=k at w A⊢;refine aq (c7 (fF (I:=λx (c:Gt->Option Unit×Nat) d=>I8 C n k x c d) (Q:=λ(c:Gt->Option Unit×Nat) d=>D8 C n c d) ?step ?fin (.inl ⟨rfl,rfl,B⟩)) ?post)
 case fin=>
  rintro c d (⟨F,_,_⟩|⟨F,_⟩|P)
  ·lia
  ·lia
  ·exact P
 case step=>
  rintro x _ d _ F (⟨rfl,rfl,v⟩|⟨rfl,n1,rfl,t,R,S,v⟩|⟨rfl,D⟩)
  ·dsimp only
   refine aP (λz=>absurd z (by lia)) λ_=>?_
   have first:∀(b:Gt->SortSt) (m:Nat),Bl C n #[] b->1<=m->m<=n->(m=n\/k<=m)->I8 C n k (0+1) (λ_=>(none,0+m)) (λg=>setPending (b g)<|(pendingOf<|b g).push (0,m,0)):=λb m B N T V=>by
    obtain⟨M,i,rfl,ok⟩:=B;rw[Nat.zero_add m]
    by_cases e:m=n
    ·subst e;exact .inr (.inr ⟨rfl,.inl ⟨M,i,rfl,ok⟩⟩)
    ·exact .inr (.inl ⟨rfl,m,rfl,N,by lia,by lia,M,i,rfl,ok⟩)
   have L:∀b:Gt->SortSt,Bl C n #[] b->∀g,(pendingOf<|b g).back?=none:=λb B=>by
    obtain⟨M,i,rfl,ok⟩:=B;exact λ_=>rfl
   refine aq (uH (lo:=0) (nrem:=n-0) (by lia) (by lia) v λm f l J s=>?_)
   dsimp only;refine aP (c:=m<k) (λj=>?_) λj=>?_
   ·refine aq (jH<|aq<|yG (by lia) l λb o=>?_)
    simp only[Bool.not_true,Bool.false_eq_true,if_false];refine aq (gN ?_);simp only[L b o];exact aq (eE<|cq<|first b (min (n-0) k) o (by lia) (by lia) (by lia))
   ·refine aq (gN ?_)
    simp only[L f l];exact aq (eE<|cq<|first f m l J (by lia)<|.inr (by lia))
  ·dsimp only
   refine aP (λz=>absurd z (by lia)) λ_=>?_
   refine aq (uH (lo:=n1) (nrem:=n-n1) (by lia) (by lia) v λm f l J s=>?_)
   dsimp only;obtain⟨b,K,o⟩:∃b,b=f/\Bl C n #[(0,n1,0)] b:=⟨f,rfl,l⟩;refine aP (c:=m<k) (λj=>?_) λj=>?_
   all_goals first
    |refine aq (jH (aq (yG (by lia) l λG H=>?_)))
     simp only[Bool.not_true,Bool.false_eq_true,if_false];simp only[show min (n-n1) k=n-n1 by lia]
     clear K o;generalize G=b at H⊢;have o:=H
    |rw[<-K]
     obtain rfl:m=n-n1:=by lia
   all_goals
    obtain⟨M,i,rfl,ok⟩:=o;refine aq (gN ?_);refine aq (c7 (Q:=λ(c:Gt->Option Unit×Unit) a=>a=Fa C.κ M #[(0,n1,0)] i none/\c=λ_=>(none,())) (fF (I:=λ_ (c:Gt->Option Unit×Unit) a=>a=Fa C.κ M #[(0,n1,0)] i none/\c=λ_=>(none,())) ?_ (λ_ _ r=>r) ⟨rfl,rfl⟩) ?_)
    ·rintro y _ _ _ _ ⟨rfl,rfl⟩
     refine aq (gN ?_);exact dC ⟨rfl,rfl⟩
    ·rintro _ _ ⟨rfl,rfl⟩
     dsimp only;refine aq (eE<|aq<|eE<|cq<|.inr<|.inr ⟨by rw[show n1+(n-n1)=n by lia],.inr ⟨n1,n-n1,power' n (2*0+n1) (2*0+n1+n1+(n-n1)) n,by lia,by lia,by lia,M,i,rfl,ok⟩⟩)
  ·dsimp only
   exact aP (λ_=>dC ⟨rfl,D⟩) λz=>absurd (zap _) z
 case post=>
  rintro _ d ⟨rfl,D⟩
  dsimp only;refine aq (c7 (Q:=λ(c:Gt->Option Unit×Unit) a=>c=(λ_=>(none,()))/\∃p,Bl C n p a) (fF (I:=λx (c:Gt->Option Unit×Unit) a=>c=(λ_=>(none,()))/\((x=0/\a=d)\/∃q,Bl C n #[q] a)) ?_ ?_ ⟨rfl,.inl ⟨rfl,rfl⟩⟩) ?_)
  ·rintro x _ a _ _ ⟨rfl,r⟩
   have one:∀{q:Nat×Nat×Nat} {st:Gt->SortSt},Bl C n #[q] st->∀g,(pendingOf<|st g).size<=1:=by
    rintro q _ ⟨M,i,rfl,ok⟩ g
    exact zap 1
   refine aq (gN ?_);have key:(∃q,Bl C n #[q] a)\/∃n1 n2 pw,0<n1/\0<n2/\n1+n2=n/\Bl C n #[(0,n1,pw),(n1,n2,0)] a:=by
    rcases r with⟨rfl,rfl⟩|z
    ·exact D.imp_left λz=>⟨_,z⟩
    ·exact .inl z
   rcases key with⟨q,B⟩|⟨n1,n2,pw,t,E,u,M,i,rfl,ok⟩
   ·simp only[if_pos<|one B _]
    exact dC ⟨rfl,_,B⟩
   ·refine aq (yF t E (ok.to u.symm) λc' W g=>?_)
    simp only[Bool.not_true,Bool.false_eq_true,if_false];exact cq ⟨rfl,.inr ⟨_,_,_,rfl,g.to u⟩⟩
  ·rintro _ a ⟨rfl,r⟩
   rcases r with⟨F,_⟩|⟨q,z⟩
   ·lia
   ·exact⟨rfl,_,z⟩
  ·rintro _ _ ⟨rfl,p,M,m,rfl,ok⟩
   exact bW (h _ _ _ ok)
end
def Pr:Value->Str
 | .str x _=>x
 |_=>⟨#[]⟩
def vS(v:Value):Prop:=∃z t,v=.str z t
theorem mapM_first_strs:∀{vs:List Value},(∀v∈vs,vS v)->vs.mapM firstOfTuple'=pure (vs.map λ_=>none)
 | [],_=>by simp
 |v::vs,h=>by
  obtain⟨z,t,rfl⟩:=h v zas;rw[List.mapM_cons,show firstOfTuple' (.str z t)=pure none from rfl,mapM_first_strs λv a=>h v<|zak _ a];simp
theorem mapM_typeOf_strs:∀{vs:List Value},(∀v∈vs,vS v)->vs.mapM typeOf=pure (vs.map λ_=>Value.type "str")
 | [],_=>by simp
 |v::vs,h=>by
  obtain⟨z,t,rfl⟩:=h v zas;rw[List.mapM_cons,mapM_typeOf_strs λv a=>h v<|zak _ a]
  show(pure (Value.type "str")>>=λb=>pure _>>=λbs=>pure (b::bs))=_
  simp
theorem keyKind_strs(O:∀v∈I::M::vs,vS v):keyKind' (I::M::vs).toArray=pure oneType':=by
 rw[keyKind'_eq,List.mapM_toArray,mapM_first_strs O];simp only[map_pure,pure_bind];rw[if_neg (by simp),if_neg (by simp)]
 rw[oneTypeOnly'_eq,List.mapM_toArray,mapM_typeOf_strs O];simp only[map_pure,pure_bind];have a:((List.map (λ_=>Value.type "str") (I::M::vs)).toArray.all λx=>x==Value.type "str")=true:=by
  simp only[List.all_toArray,List.all_map,List.all_eq_true];intro _ _;rfl
 have b:(List.map (λ_=>Value.type "str") (I::M::vs)).toArray[0]?=some (Value.type "str"):=by simp
 rw[b];simp only[pure_bind,a,if_true,Option.isSome_some]
theorem GS(h:Vals (zs.map V.str) us):us.map Pr=zs/\∀v∈us,vS v:=by
 induction zs generalizing us with
 |nil=>cases h;exact⟨rfl,λv a=>by cases a⟩
 |cons z zs d=>
  cases h with
  |cons r e=>
   obtain⟨b,c⟩:=d e;obtain⟨t,rfl⟩:=r;refine⟨by rw[zaz,b];rfl,λv a=>?_⟩
   rcases zaf a with rfl|a
   ·exact⟨_,_,rfl⟩
   ·exact c v a
end L2
namespace Mir
open L2
variable [Zc]
theorem yI:∀zs:List Str,a6 B (zs.map V.str) (zs.map PyData.str)
 | []=>.nil
 |z::zs=>.cons (.str z) (yI zs)
theorem ml:∀zs:List Str,mO (zs.map PyData.str)=some zs
 | []=>rfl
 |z::zs=>by
  show(mO<|zs.map PyData.str).map (z::·)=_
  rw[ml zs];rfl
end Mir
namespace L2
open PySem.W PySem.Calls PySem.Spec PyProof.Rows
section
variable{prog:Program}{w:World}{A:Around}{E:Value->Shared->Prop}{s:Shared}{T:String}{r d:Addr}{n:Nat}{P:Nat->Value->Prop}{OK:Heap->Prop}
def Got(s:Shared)(n:Nat)(P:Nat->Value->Prop)(x:Result)(s':Shared):Prop:=∃(h:Heap) (k:Nat) (xs:Array Value) (c:Nat),x=.ok (.ret<|.ref s.heap.objs.size)/\s'={s with heap:=h,toks:=k}/\(∀b o,s.heap.get? b=some o->h.get? b=some o)/\h.get? s.heap.objs.size=some {cls:=.type "list",dict:=none,data:=.seq xs c,slots:=#[]}/\ItemsOf P xs n
theorem yJ(K:KdlSrc prog w T r d n P OK)(I:A.handled=none)(hok:OK s.heap)(hn:n<=sizeLine)
  (h:∀(h':Heap) (k:Nat) (xs:Array Value),(∀b o,s.heap.get? b=some o->h'.get? b=some o)->s.heap.objs.size<h'.objs.size->ItemsOf P xs n->R xs.toList {s with heap:=h',toks:=k}):wpAny (model prog w) A (collect<|.ref r) R E s:=by
 obtain⟨l1,l2⟩:=K.there _ hok;have out:∀{v:Value} {s':Shared},Got s n P (.ok<|.ret v) s'->wpAny (model prog w) A (match v with
   | .ref a=>(do match(<-load a).data with
    | .seq xs _=>pure xs.toList
    |_=>unsupported "internal:collect")
   |_=>unsupported "internal:collect") R E s':=fun{v s'} g=>by
  obtain⟨h',k,xs,c,e,rfl,kp,i,hi⟩:=g;cases e;exact zaI (wpAny_load i<|zaZ<|h h' k xs kp (zaq i) hi)
 unfold collect;refine zaI (wpAny_runValue<|codeAny_builtin entry_proto_collect' ?_);rw[Around.under_plainId PySem.F.plain_proto_collect _];refine zaI (m:=newList []) (wpAny_newObj_type<|zaZ ⟨plainId_quiet PySem.F.plain_list_iadd _,codeAny_builtin entry_list_iadd' ?_⟩);rw[Around.under_plainId PySem.F.plain_list_iadd _];refine za6 (kdl_extend (A:=A) (R:=Got s n P) K I (K.keep _ _ hok λb _ o e=>zar _ e) s.heap.objs.size (Nat.ne_of_gt l1) (Nat.ne_of_gt l2) (.ref s.heap.objs.size) 0 (zaL _ rfl)
  (λh' k xs c kp i hi=>⟨h',k,xs,c,rfl,rfl,λb o e=>kp b o (zaS<|zaq e)<|zar _ e,i,hi⟩) hn) (λj s' x=>?_) λe s' x=>?_
 ·cases j with
  |done f=>
   obtain⟨_,_,_,_,e,_⟩:=id x;cases e;exact out x
  |again c=>exact⟨x.1,codeAny_mono x.2 λy s2 z=>by
    obtain⟨_,_,_,_,e,_⟩:=id z;cases e;exact out z⟩
 ·obtain⟨_,_,_,_,l,_⟩:=x
  cases l
end
end L2
namespace Mir
open L2
variable [Zc]
theorem DP:∀{Z0:List<|Key×V} {es:List<|D×D} {zs:List Str},bc B Z0 es->mO (es.map (·.1))=some zs->(Z0.map λq=>kV q.1)=zs.map V.str:=fun{Z0 es zs} r e=>by
 exact yj (rO r) e
end Mir
namespace L2
open PySem.W PySem.Calls PySem.Spec PyProof.Rows
def cT(zs:List Str):CC:=⟨oneType',zs.length,λi j=>decide<|(zs.getD i ⟨#[]⟩).cps.toList<(zs.getD j ⟨#[]⟩).cps.toList⟩
def Srt(zs:List Str)(M:Array Nat):Prop:=Ok (cT zs) zs.length M/\∃p m,∀g prog w A (E:Value->Shared->Prop) s,Ask (cT zs) g prog w A s->∀Q:Unit->SortSt->Prop,Q () (Fa oneType' M p m none g)->wpS (model prog w) A E s sortRuns' Q (SortSt.mk' oneType' ((Array.range zs.length).map g) #[] 7 none)
theorem Nz(M : 2<=zs.length)(h:zs.length<=127):∃I,Srt zs I:=by
 obtain⟨r,a,⟨I,p,m,o,rfl⟩,k⟩:=yH (C:=cT zs) (n:=zs.length) (st:=Fa oneType' (Array.range zs.length) #[] 7 none) (Q:=λ_ a=>∃I p m,Ok (cT zs) zs.length I/\a=Fa oneType' I p m none) ⟨_,_,rfl,Array.size_range,λx b=>Array.mem_range.mp b⟩ M h λI p m o=>⟨I,p,m,o,rfl⟩
 exact⟨I,o,p,m,k⟩
open Classical in
def kj(zs:List Str):List Str:=if h:∃D,Srt zs D then(choose h).toList.map (zs.getD · ⟨#[]⟩)else zs
def JT(M : 2<=zs.length)(h:zs.length<=127):∃I,Srt zs I/\kj zs=I.toList.map (zs.getD · ⟨#[]⟩):=⟨_,Classical.choose_spec<|Nz M h,dif_pos _⟩
theorem qO(zs:List Str):(kj zs).length=zs.length/\∀x∈kj zs,x∈zs:=by
 unfold kj;split
 ·rename_i h
  have o:=(Classical.choose_spec h).1;refine⟨by rw[zal,Array.length_toList,o.1],λx b=>?_⟩
  obtain⟨i,hi,rfl⟩:=List.mem_map.mp b;have hl:i<zs.length:=o.2 i (Array.mem_toList_iff.mp hi);rw[List.getD_eq_getElem?_getD,zaC hl];exact List.getElem_mem hl
 ·exact⟨rfl,λx b=>b⟩
section
variable{prog:Program}{w:World}{A:Around}{E:Value->Shared->Prop}{s:Shared}
theorem yK(ho:s.heap.get? a=some (seqObj "list" vs.toArray n))(M:Vals (zs.map V.str) vs)(I:vs.length<=127)
  (h:∀us:List Value,Vals ((kj zs).map V.str) us->P (.done<|.ret .none) {s with heap:=sortedHeap s.heap a vs us.toArray}) :
  wpAny (model prog w) A (Builtin.«list.sort» ⟨[.ref a],[]⟩) P E s:=by
 obtain⟨Y,W⟩:=GS M;have b:vs.length=zs.length:=by rw[<-M.length,zal]
 have ha:a<s.heap.objs.size:=zaq ho;obtain⟨L,H⟩:∃L,(s.heap.update a<|Obj.mapSeq λ_=>(#[]:Array Value)).get? a=some (seqObj "list" #[] L):=⟨_,get?_update_seq ho λ_=>#[]⟩
 have d:(((s.heap.update a<|Obj.mapSeq λ_=>(#[]:Array Value)).push<|seqObj "tuple" vs.toArray 0).push<|seqObj "list" #[] 0).get? a=some (seqObj "list" #[] L):=zar _ (zar _ H)
 rw[list_sort_plain];refine zaI (listItems_at ho rfl ?_);refine zaI (listUpdate_at ho rfl ?_ (by rw[zaK,sizeLine_eq];lia) (Nat.zero_le _))
 refine zaI (seqEpoch_at H rfl ?_);refine zaI (wpAny_newTuple ?_ (by show vs.length<=_;rw[sizeLine_eq];lia))
 refine zaI (wpAny_newList ?_ (Nat.zero_le _));refine wpAny_holding ?_;show wpAny (model prog w) A _ P E {s with heap:=((s.heap.update a<|Obj.mapSeq λ_=>(#[]:Array Value)).push<|seqObj "tuple" vs.toArray 0).push<|seqObj "list" #[] 0}
 dsimp only;rw[zaK]
 by_cases F:vs.length<2
 ·rw[if_pos F,if_pos F]
  refine zaI (zaZ ?_);rw[StateT.run_pure];refine zaI (zaZ ?_);dsimp only;have K:(arrOf<|SortSt.mk' general' (vs.toArray.zip vs.toArray) #[] 7 none).map (·.2)=vs.toArray:=by
   apply Array.toList_inj.mp;show((vs.toArray.zip vs.toArray).map (·.2)).toList=vs
   simp;exact(List.map_snd_zip<|zap _)
  refine zaI (seqEpoch_at d rfl ?_);refine zaI (listUpdate_at d rfl ?_ (Nat.zero_le _) (by rw[K,zaK,sizeLine_eq];lia))
  simp only[bne_self_eq_false,Bool.false_eq_true,if_false];rw[K];refine zaZ (h vs ?_)
  rwa[show kj zs=zs from ?_]
  have⟨o1,D⟩:=qO zs
  match zs,kj zs,o1,D with
  | [],[],_,_=>rfl
  | [x],[y],_,D=>rw[zad<|D y zas]
  |_::_::_,_,_,_=>simp at b;lia
 ·rw[if_neg F,if_neg F]
  obtain⟨C,⟨o,p,m,k⟩,R⟩:=JT (zs:=zs) (by lia) (by lia)
  obtain⟨v,B,T1,S⟩:∃v B T1,vs=v::B::T1:=by
   match vs,F with
   | [],z=>simp at z
   | [x],z=>simp at z
   |x::y::r,_=>exact⟨x,y,r,rfl⟩
  rw[show keyKind' vs.toArray=pure oneType' by rw[S];exact keyKind_strs (by rw[<-S];exact W)]
  refine zaI (zaZ ?_);obtain⟨g,T⟩:∃g:Gt,g=λi=>(vs.getD i .none,vs.getD i .none):=⟨_,rfl⟩
  have gs:∀i,i<zs.length->∃t,g i=(.str (zs.getD i ⟨#[]⟩) t,.str (zs.getD i ⟨#[]⟩) t):=λi hi=>by
   have G:i<vs.length:=by lia
   obtain⟨z,t,e⟩:=W _ (List.getElem_mem G);refine⟨t,?_⟩;rw[T,<-Y];simp only[List.getD_eq_getElem?_getD,List.getElem?_map,List.getElem?_eq_getElem G,Option.map_some,Option.getD_some,e,Pr]
  have K:(Array.range zs.length).map g=vs.toArray.zip vs.toArray:=by
   apply Array.ext_getElem?;intro i;rw[T]
   by_cases c:i<vs.length
   ·simp[<-b,c]
   ·simp[<-b,c]
  rw[<-K];refine zaI (za6 (k g prog w A E _ (λx y Z O Q q=>?_) (λ_ J=>J=Fa oneType' C p m none g) rfl) ?_ λ_ _ e=>e)
  ·obtain⟨t,e⟩:=gs x Z
   obtain⟨u,f⟩:=gs y O;rw[e,f];exact oneLt_str q
  rintro⟨⟨⟩,J⟩ s' ⟨rfl,rfl⟩
  dsimp only;have N:((C.map g).map (·.2))=(C.toList.map λi=>(g i).2).toArray:=by
   apply Array.toList_inj.mp;simp
  refine zaI (seqEpoch_at d rfl ?_);refine zaI (listUpdate_at d rfl ?_ (Nat.zero_le _) (by rw[Array.size_map,Array.size_map,o.1,sizeLine_eq];lia))
  simp only[bne_self_eq_false,Bool.false_eq_true,if_false];refine zaZ ?_;rw[show(arrOf<|Fa oneType' C p m none g).map (·.2)=(C.map g).map (·.2)from rfl,N]
  refine h _ ?_;rw[R];have D:∀i∈C.toList,i<zs.length:=λi hi=>o.2 i (Array.mem_toList_iff.mp hi)
  generalize C.toList=l at D;clear R N k o
  induction l with
  |nil=>exact .nil
  |cons i l U=>
   obtain⟨t,e⟩:=gs i (D i zas);exact .cons ⟨t,congrArg Prod.snd e⟩ (U λj X=>D j<|zak _ X)
end
def yL:List V->Hp->VK->Prop:=λxs H Q=>∃(a:Addr) (Z0:List<|Key×V) (zs:List Str),xs=[V.ref a]/\Rd H a (.dK Z0)/\(Z0.map λq=>kV q.1)=zs.map V.str/\zs.length<=127/\∀l,H l=none->Q (.ref l) (upd H l<|.lst<|(kj zs).map V.str)
theorem vT(M:X.calm=true):dJ X (.builtin "sorted") yL:=by
 intro V0 s σ H xs us Q I r h;obtain⟨a,Z0,zs,rfl,ha,hk,y,q⟩:=h;cases r with
 |cons v r=>
  cases r;obtain rfl:=v;obtain⟨z,hd,vs,rel,dd⟩:=nR I.hok ha;obtain⟨ep,g⟩:=dd.dictAt;refine Calls.call_function_entry kind_sorted plain_sorted entry_sorted (args_sorted1 _) ?_
  unfold Builtin.«sorted»;refine zaI (m:=checkCount "sorted" 1 1 _) (zaZ ?_);refine zaI (yJ (A:=X.A.in1) (PySem.W.kdl_dict (knd:=bX X.prog X.w) (kvs:=vs) (ep:=ep) hd) (I.ok.hd M) g (by rw[<-rel.length];exact z) λh' tk Z1 i l d=>?_)
  have p:Vals (zs.map V.str) Z1.toList:=by
   rw[<-hk];exact DB Z1.toList rel (by rw[Array.length_toList];exact d.1) λj u e=>d.2 j u (by rw[<-Array.getElem?_toList];exact e)
  have hl:Z1.toList.length=zs.length:=by rw[<-p.length,zal]
  refine zaI (wpAny_newList ?_ (by rw[hl];simp only[sizeLine];lia))
  have f:(h'.push<|seqObj "list" Z1.toList.toArray 0).get? h'.objs.size=some (seqObj "list" Z1.toList.toArray 0):=zaL _ rfl;refine zaI (wpAny_holding<|wpAny_call_entry slot_list_sort ⟨_,f,rfl⟩ entry_list_sort (yK f p (by lia) λus x=>⟨_,rfl,?_⟩)<|args_list_sort _)
  refine zaZ ⟨_,rfl,?_⟩;obtain⟨c,t⟩:=sortedHeap_at (h:=h'.push<|seqObj "list" Z1.toList.toArray 0) (a:=h'.objs.size) (vs:=Z1.toList) (out:=us.toArray) f;exact E6 (Z1:=us.toArray) I (by rw[zal,(qO zs).1];simp only[sizeLine];lia) q (Nat.le_of_lt l) (λb o e=>by
   have:=i b o e;have lt:=zaq this;rw[sortedHeap_old (zaS lt) (by rw[size_push'];exact Nat.lt_succ_of_lt lt),Heap.get?_push_ne _ _ _<|zaS lt]
   exact this) t (by simpa using x)
end L2
namespace Mir
open L2
variable [Zc]
def lD:List D->Option (D×Bool)
 | [.dict es]=>(mO (es.map (·.1))).bind λzs=>cIf (zs.length<=127) (some (.list<|(kj zs).map .str,true)) none
 |_=>none
theorem DQ:kT yL lD:=by
 intro B H vs ds i s h e;unfold lD at e;split at e
 ·obtain⟨zs,b,e⟩:=zaa e
  obtain⟨d,e⟩:=cO e;cases e;obtain⟨v,rfl,c⟩:=iH h;obtain⟨a,Z0,rfl,f,g⟩:=c.dict s;exact⟨_,yI _,λQ q=>⟨a,Z0,zs,rfl,f,DP g b,d,q⟩⟩
 ·cases e
end Mir
namespace aG
structure Row where
 key:Int
 above:Option Str
 mark:Bool
 below:List Str
section
variable{α:Type} [DecidableEq α]
theorem g8:∀(l k:List α),l.Nodup->(∀x∈l,x∈k)->l.length<=k.length
 | [],_,_,_=>Nat.zero_le _
 |a::l,k,h,hs=>by
  have ha:=hs a zas;have hn:=List.nodup_cons.mp h;have:=g8 l (k.erase a) hn.2 λx b=>(List.mem_erase_of_ne λe=>hn.1 (by rw[<-e];exact b)).mpr (hs x<|zak _ b)
  rw[List.length_erase_of_mem ha]at this;have : 0<k.length:=List.length_pos_of_mem ha;rw[zaw]
  lia
end
variable(U0:List Str)(Q0:Str->Row)
def Lf:Nat->Option Str->Option Str
 |0,x=>x
 |_+1,none=>none
 |k+1,some n=>if n∈U0 then Lf k (Q0 n).above else some n
def reach:Nat->Str->Bool
 |0,_=>false
 |k+1,n=>if n∈U0 then(match(Q0 n).above with
  |none=>true
  |some a=>reach k a)else false
variable(lt:Int->Str->Int->Str->Bool)
structure QJ(av:List Str):Prop where
 av:av.Perm (U0.filter λn=>(Q0 n).above.isNone)
 mark:∀n∈U0,(Q0 n).above=none->(Q0 n).mark=false
 up:∀n∈U0,∀a,(Q0 n).above=some a->a∈U0/\(Q0 a).below.count n=1/\lt (Q0 n).key n (Q0 a).key a=false
 down:∀n∈U0,∀(i:Nat) (l:Str),(Q0 n).below[i]?=some l->l∈U0/\(Q0 l).above=some n/\(i:Int)-(if(Q0 l).mark then 1 else 0)<=((Q0 l).below.length:Int)
 come:∀n∈U0,Lf U0 Q0 U0.length (some n)=none
structure QK(av:List Str):Prop where
 QV:∀n∈av,av.count n=1/\n∈U0/\(Q0 n).above=none
 top2:∀n∈U0,(Q0 n).above=none->n∈av
 mark:∀n∈U0,(Q0 n).above=none->(Q0 n).mark=false
 up:∀n∈U0,∀a,(Q0 n).above=some a->a∈U0/\n∈(Q0 a).below/\lt (Q0 n).key n (Q0 a).key a=false
 down:∀n∈U0,∀(i:Nat) (l:Str),(Q0 n).below[i]?=some l->l∈U0/\l∉(Q0 n).below.take i/\(Q0 l).above=some n/\(i:Int)-(if(Q0 l).mark then 1 else 0)<=((Q0 l).below.length:Int)
 come:∀n∈U0,reach U0 Q0 (U0.length+1) n=true
end aG
namespace Mir
open L2
theorem pix(K:zag)(ha:PE X a I)(h:X.K=K:=by rfl):PE X (.Subscript a (.Constant (.int i) j p) pos) (tOp (rIx K) I<|tC<|.int i):=mJ (gL h) ha aF λ_ _=>rfl
theorem pdg(I:X.A.units+64<cLine)(ho:PE X o td)(hi:PE X i ty)(hs:Ng i:=by intro _ _;rfl):PE X (.Subscript o i pos) (KP td ty):=Jt (hv1 I) ho hi hs
theorem pd{ps:List Str}{sp:Sp}{p pos:Pos}{e:Expr}{es:List Expr}{t:TA}(D:Def X.prog X.w X.K X.mg X.base CX0 k x ps sp)(Y:dR n X.A)(ha:PA X (e::es) t)(hk:k<=n:=by lia)(U:Gl X x:=by rfl)
  (I:(x==("__debug__":Str))=false:=by decide) (O:starEach (e::es) X.env=(false,eval e X.env)::starEach es X.env:=by rfl) (M:(backTo pos<|starEach es X.env).any (·.1)=false:=by rfl) :
  PE X (.Call (.Name x p) (e::es) [] pos) (i6 sp [] E0 t):=vm D (Y.mono hk) ha U I O M
theorem pne(K:zag)(M:X.A.units+64<cLine)(ha:PE X a O)(I:PE X b U)(h:X.K=K:=by rfl):PT X (.Compare a [.NotEq] [b] pos) (t9<|tOp (Il K) O U):=cA (MQ h M) ha I (cI _)
theorem peq(K:zag)(M:X.A.units+64<cLine)(ha:PE X a O)(I:PE X b U)(h:X.K=K:=by rfl):PT X (.Compare a [.Eq] [b] pos) (t9<|tOp (Ik K) O U):=cA (vz h M) ha I (cI _)
theorem pa1(ha:PE X e I)(hs:starEach [e] X.env=(false,eval e X.env)::starEach [] X.env:=by rfl):PA X [e] (kS I qW):=ax ha mU hs
theorem cx(i:Nat){M:TE}{pos I:Pos}(O:X.N.Nodup)(U:PE X e M)(hi:X.N[i]?=some x:=by rfl)(hx:Loc X.env.scope x:=by walk_at "l")(hs:swapsWith e (some<|.Name x I) pos.line X.env=pure false:=by rfl)(Y:X.fn x=true\/X.env.scope.names.lookup x=some .local:=by first|exact .inl rfl|exact .inr rfl|assumption):PS X (.Assign [.Name x I] e pos) (xa M<|ll i):=LR O hi hx U hs Y
theorem pgn{X:Cx}(i:Nat){pos:Pos}(I:X.N.Nodup)(hi:X.N[i]?=some x:=by rfl)(O:Loc X.env.scope x:=by walk_at "l")(M:X.fn x=true\/X.env.scope.names.lookup x=some .local:=by first|exact .inl rfl|exact .inr rfl|assumption):PG X (.Name x pos) (ll i):=u9 I hi O M
theorem i5(K:zag)(ha:PE X a M)(I:PE X b O)(h:X.K=K:=by rfl):PE X (.BinOp a .Add b pos) (tOp (rj K) M O):=bL (IL h) ha I
variable [Zc]{W:WX}
def nli:NE W (tC<|.int i) (nLit<|.int i):=eC λ_=>.int i
def nix(h:NE W I a):NE W (tOp (rIx K) I<|tC<|.int i) (nIx a<|nLit<|.int i):=ux h nli
def mix(h:ME I a):ME (tOp (rIx K) I<|tC<|.int i) (mOp gIx a<|mC<|.int i):=aD IJ h aN
def ma1(ha:ME I a):MA (kS I qW) (aB a aZ):=bD ha Fd
end Mir
set_option maxHeartbeats 4000000
namespace K78
open L2 Mir
def Ai:SM :=
  (jm<|oZ<|aB (mOp gIx (mOp dW (ai 0)<|ai 1)<|mC<|.int 0)<|aB (ai 1) aZ)
def bR:List D->Option (D×Bool):=fnM 2 0 Ai
def dD:PM :=
  (cM bR<|aB (mOp gIx (ai 1)<|mC<|.int 1)<|aB (ai 0) aZ)
def tM:EM :=
  (Du (eIf (a0<|mOp gEq (mCB gv<|aB (mOp gIx (ai 0)<|mC<|.int 0) aZ)<|mC<|.int 0)
  (FL "Empty"<|aB (mC<|.str "the pile has no names") aZ)
  (xO jB))
  (xO j4))
def dr:List D->Option ((D×Bool) ⊕ Str):=fnX 1 0 tM
def vU:SM :=
  (fv (mG (a0<|mOp gEq (mCB gv<|aB (mOp gIx (ai 0)<|mC<|.int 0) aZ)<|mC<|.int 0)
  j4
  jB)
  (jm<|Gz [("pile",0)] (mOp gIx (ai 0)<|mC<|.int 0) dD))
def eS:List D->Option (D×Bool):=fnM 1 0 vU
def NB:SN :=
  (aY (bG (nO<|mOp dW (ai 0)<|ai 1)<|ngN 3)
  (aY (gr (aE 0) (aE 1)<|iQ<|ao (nIx (aE 3)<|nLit<|.int 0)<|ao (aE 2)<|ao (nLit<|.bool false)<|ao (nIx (aE 3)<|nLit<|.int 3) aQ)
  (aY (bG (nO<|mOp dW (ai 0)<|ai 2)<|ngN 3)
  (gr (aE 0) (aE 2)<|iQ<|ao (nIx (aE 3)<|nLit<|.int 0)<|ao (nIx (aE 3)<|nLit<|.int 1)<|ao (nIx (aE 3)<|nLit<|.int 2)<|ao (nO<|mOp yy (mOp gIx (ai 3)<|mC<|.int 3)<|oZ<|aB (ai 1) aZ) aQ))))
def vV:FN:=fnS 3 1 NB
def lE:Rho->Option (Bool×Rho) :=
  (a0<|mOp gIs (mOp gIx (mOp dW (ai 1)<|ai 0)<|mC<|.int 1)<|mC .none)
def lF:PM :=
  (ai 0)
def lG:MN Bool :=
  (nTo<|a0<|mOp vI (mCB gv<|aB (mOp gIx (mOp dW (ai 1)<|ai 5)<|mC<|.int 3) aZ)<|ai 2)
def lH:SN :=
  (aY (bG (lC (aE 2)<|ao (nO<|mCB gv<|aB (mOp gIx (mOp dW (ai 1)<|ai 5)<|mC<|.int 3) aZ) aQ)<|ngN 6)
  (aY (fw (nTo<|a0<|mOp Gn (cM bR<|aB (ai 1)<|aB (ai 6) aZ)<|cM bR<|aB (ai 1)<|aB (ai 5) aZ)
  (aY (bG (aE 6)<|ngN 7)
  (aY (bG (aE 5)<|ngN 6)
  (bG (aE 7)<|ngN 5)))
  dE)
  (aY (g6<|dA vV<|ao (aE 1)<|ao (aE 6)<|ao (aE 5) aQ)
  (g6<|Dx (aE 3)<|ao (iQ<|ao (nLit<|.str "hang")<|ao (aE 6)<|ao (aE 5) aQ) aQ))))
def lI:SN :=
  (aY (bG (aE 4)<|ngN 5)
  (aY (f7 [0,1,2,3,4,5] lG
  lH 1000000)
  (gr (aE 2) (nO<|mCB gv<|aB (mOp gIx (mOp dW (ai 1)<|ai 5)<|mC<|.int 3) aZ)<|aE 5)))
def vW:SN :=
  (aY (bG (nO<|mCB kh<|aB (mOp gIx (ai 0)<|mC<|.int 1) aZ)<|ngN 1)
  (aY (bG (nO lA)<|ngN 2)
  (aY (bG (pE aQ)<|ngN 3)
  (aY (uy [0,1,2,3] (nIx (aE 0)<|nLit<|.int 0) (ngN 4)
  lI)
  (eP<|iQ<|ao (iQ<|ao (nO<|mLC [("held",1)] (vx<|mOp gIx (ai 0)<|mC<|.int 0) lE lF)<|ao (aE 1) aQ)<|ao (aE 3) aQ)))))
def ip:FN:=fnS 1 7 vW
def GU:SM :=
  (jm<|oZ<|aB (mOp gIx (ai 0)<|mC<|.int 0)<|aB (mC .none)<|aB (mC<|.bool false)<|aB (mOp gIx (ai 0)<|mC<|.int 3) aZ)
def jI:List D->Option (D×Bool):=fnM 1 0 GU
def n6:SN :=
  (aY (gr (aE 2) (aE 6)<|nO<|cM jI<|aB (mOp dW (ai 2)<|ai 6) aZ)
  (aY (g6<|Dx (aE 4)<|ao (aE 6) aQ)
  (g6<|Dx (aE 5)<|ao (iQ<|ao (nLit<|.str "free")<|ao (aE 6) aQ) aQ)))
def n8:Rho->Option (Bool×Rho) :=
  (a0<|mOp gNe (ai 0)<|ai 1)
def n9:PM :=
  (ai 0)
def Aj:SN :=
  (aY (bG (nO<|mCB kh<|aB (mOp gIx (ai 0)<|mC<|.int 1) aZ)<|ngN 2)
  (aY (bG (lC (aE 2)<|ao (aE 1) aQ)<|ngN 3)
  (aY (bG (nO<|mLC [("name",1)] (vx<|mOp gIx (ai 0)<|mC<|.int 0) n8 n9)<|ngN 4)
  (aY (bG (pE aQ)<|ngN 5)
  (aY (F1 [0,1,2,3,4,5,7] (C7<|mOp gIx (ai 3)<|mC<|.int 3) (ngN 6)
  n6)
  (aY (bG (dA ip<|ao (iQ<|ao (aE 4)<|ao (aE 2) aQ) aQ)<|ngN 7)
  (eP<|iQ<|ao (nIx (aE 3)<|nLit<|.int 0)<|ao (nIx (aE 7)<|nLit<|.int 0)<|ao (nO<|mOp dU (ai 5)<|mOp gIx (ai 7)<|mC<|.int 1) aQ)))))))
def fK:FN:=fnS 2 6 Aj
def tN:EM :=
  (Du (eX (fV 1)<|gx dr<|aB (ai 0) aZ)
  (Du (xO j4)
  (xO j4)))
def eU:List D->Option ((D×Bool) ⊕ Str):=fnX 1 2 tN
def vX:SN :=
  (aY (bG (nO<|cM eS<|aB (ai 0) aZ)<|ngN 1)
  (aY (bG (dA fK<|ao (aE 0)<|ao (aE 1) aQ)<|ngN 2)
  (eP<|iQ<|ao (aE 1)<|ao (nIx (aE 2)<|nLit<|.int 0)<|ao (nIx (aE 2)<|nLit<|.int 1)<|ao (nIx (aE 2)<|nLit<|.int 2) aQ)))
def iq:FN:=fnS 1 2 vX
def h8:Str->Option SM :=
  λc=>if c="Empty"then some ((fV 2<|mC<|.bool true))else none
def tO:SM :=
  (fv (fV 2<|mC<|.bool false)
  (fv (By (eIf (a0<|mOp gEq (ai 1)<|mC<|.int 0)
  (eX kU<|gx dr<|aB (ai 0) aZ)
  (eX kU<|gx eU<|aB (ai 0) aZ)) h8)
  (jm<|ai 2)))
def dO:List D->Option (D×Bool):=fnM 2 1 tO
def lJ:Rho->Option (Bool×Rho) :=
  (a0<|mOp gLe (ai 3)<|ai 0)
def lK:SM :=
  (fv (fV 4<|mOp dU (ai 2)<|ai 3)
  (fv (fV 2<|ai 3)
  (fv (fV 3<|ai 4)
  (IC 1 (λi j=>i+j)<|mC<|.int 1))))
def vY:SM :=
  (fv (fV 1<|mC<|.int 0)
  (fv (fV 2<|mC<|.int 1)
  (fv (fV 3<|mC<|.int 2)
  (fv (fW lJ
  lK 1000000)
  (jm<|ai 1)))))
def eV:List D->Option (D×Bool):=fnM 1 4 vY
def gP:PM :=
  (oZ<|aB (mOp dW (ai 1)<|ai 0)<|aB (ai 0) aZ)
def qp:SN :=
  (aY (fw (nTo<|a0<|mOp rW (ai 1) lA)
  (eP<|xX (fk dO<|ao (nIx (aE 0)<|nLit<|.int 0)<|ao (nLit<|.int 0) aQ)<|fk dO<|ao (nIx (aE 0)<|nLit<|.int 0)<|ao (nLit<|.int 1) aQ)
  dE)
  (aY (bG (nO<|mCB uG<|aB (tL [("_law_plain",1)] (lB 1) mF gP) aZ)<|ngT 2<|kg 2<|kg 3 z6)
  (aY (bG (fk eS<|ao (nIx (aE 0)<|nLit<|.int 0) aQ)<|ngN 4)
  (aY (bG (dA iq<|ao (nIx (aE 0)<|nLit<|.int 0) aQ)<|ngN 5)
  (aY (fw (nTo<|mOr (a0<|mOp gNe (ai 4)<|ai 3)<|mOr (a0<|mOp gNe (mOp gIx (ai 5)<|mC<|.int 0)<|ai 3)<|mOr (a0<|mOp gNe (mOp gIx (ai 5)<|mC<|.int 1)<|ai 2)<|a0<|Di "bool"<|mOp gIx (ai 5)<|mC<|.int 1)
  (eP<|nLit<|.bool false)
  dE)
  (aY (bG (nOp dU (nIx (aE 0)<|nLit<|.int 2)<|nO<|mOp tH (mC<|.int 2)<|cM eV<|aB (mCB ig<|aB (ai 1) aZ) aZ)<|fO (aE 0)<|nLit<|.int 2)
  (aY (g6<|lC (aE 1)<|ao (aE 3) aQ)
  (aY (bG (nIx (aE 5)<|nLit<|.int 2)<|fO (aE 0)<|nLit<|.int 0)
  (aY (bG (nOp dU (nIx (aE 0)<|nLit<|.int 1)<|nO<|mCB gv<|aB (mOp gIx (ai 5)<|mC<|.int 3) aZ)<|fO (aE 0)<|nLit<|.int 1)
  (eP<|nLit<|.bool true))))))))))
def du:FN:=fnS 2 4 qp
def DR:SN :=
  (eP<|iQ<|ao (pE aQ)<|ao (nO lA) aQ)
def gC:FN:=fnS 0 0 DR
def lN:SM :=
  (fv (mG (a0<|mOp vI (ai 3)<|ai 2)
  j4
  jB)
  (yf 2 (mOp dW (mOp gIx (ai 1)<|mC<|.int 1)<|ai 3)<|ai 3))
def tP:Rho->Option (D×D) :=
  (nN (fV 2<|mCB kh<|aB (mOp gIx (ai 0)<|mC<|.int 1) aZ)
  (nN (BL (DD (lB 1) 1) (mgN 3)
  lN)
  (pM (mOp dU (mOp gIx (ai 0)<|mC<|.int 0)<|mOp gIx (ai 1)<|mC<|.int 0) 2)))
def ir:List D->Option (D×D):=fnD 2 2 tP
def r6:SN :=
  (aY (bG (pK ir<|ao (nIx (nIx (aE 0)<|nLit<|.int 0)<|nLit<|.int 0)<|ao (nIx (nIx (aE 0)<|nLit<|.int 1)<|nLit<|.int 0) aQ)<|fO (nIx (aE 0)<|nLit<|.int 0)<|nLit<|.int 0)
  (aY (bG (dA gC aQ)<|fO (nIx (aE 0)<|nLit<|.int 1)<|nLit<|.int 0)
  (aY (g6<|BV (nIx (aE 1)<|nLit<|.int 0)<|ao (nIx (aE 1)<|nLit<|.int 1) aQ)
  (g6<|BR<|nIx (aE 1)<|nLit<|.int 1))))
def iS:FN:=fnS 2 0 r6
def kY:Rho->Option (Bool×Rho) :=
  (a0<|mOp gIx (mOp dW (mOp gIx (ai 1)<|mC<|.int 1)<|ai 0)<|mC<|.int 2)
def kZ:PM :=
  (ai 0)
def tQ:SM :=
  (fv (fV 1<|tL [("pile",0)] (DD (lB 0) 1) kY kZ)
  (jm<|mOp dU (mCB gv<|aB (mOp gIx (ai 0)<|mC<|.int 0) aZ)<|mOp tH (mC<|.int 2)<|mCB gv<|aB (ai 1) aZ))
def fy:List D->Option (D×Bool):=fnM 1 1 tQ
def iT:PM :=
  (xq (mOp vI (ai 0)<|ai 1)<|mOp gEq (mOp gIx (mOp dW (ai 1)<|ai 0)<|mC<|.int 0)<|mOp dW (ai 2)<|ai 0)
def pR:SM :=
  (fv (fV 2<|mOp gIx (ai 0)<|mC<|.int 1)
  (fv (mG (mOr (a0<|mOp gNe (mCB ig<|aB (ai 2) aZ)<|mCB ig<|aB (ai 1) aZ)<|a0<|mOp gGt (mCB gv<|aB (mOp gIx (ai 0)<|mC<|.int 0) aZ)<|mCB ig<|aB (ai 1) aZ)
  (jm<|mC<|.bool false)
  jB)
  (jm<|mCB IK<|aB (tL [("_law_found",2),("_law_plain",1)] (lB 1) mF iT) aZ)))
def bO:List D->Option (D×Bool):=fnM 2 1 pR
def vZ:SM :=
  (mG (a0<|mOp nU (ai 1)<|mOp gIx (ai 0)<|mC<|.int 1)
  j4
  jB)
def dw:List D->Option (D×Bool):=fnM 2 0 vZ
def jJ:Rho->Option (Bool×Rho) :=
  (a0<|mOp gIx (mOp dW (ai 0)<|ai 3)<|mC<|.int 2)
def jK:SM :=
  (fv (kU<|Fn 2 nK<|aB (ai 3) aZ)
  (fV 3<|mOp gIx (mOp dW (ai 0)<|ai 3)<|mC<|.int 1))
def r9:SM :=
  (fv (fV 2<|xr<|aB (ai 1) aZ)
  (fv (fV 3<|mOp gIx (mOp dW (ai 0)<|ai 1)<|mC<|.int 1)
  (fv (fW jJ
  jK 1000000)
  (jm<|ai 2))))
def gh:List D->Option (D×Bool):=fnM 2 2 r9
def yM:Rho->Option (Bool×Rho) :=
  (a0<|mOp gNe (ai 0)<|ai 1)
def yN:PM :=
  (ai 0)
def DS:SM :=
  (jm<|oZ<|aB (mOp gIx (ai 0)<|mC<|.int 0)<|aB (mOp gIx (ai 0)<|mC<|.int 1)<|aB (mOp gIx (ai 0)<|mC<|.int 2)<|aB (mCB Aa<|aB (mLC [("name",1)] (C7<|mOp gIx (ai 0)<|mC<|.int 3) yM yN) aZ) aZ)
def mn:List D->Option (D×Bool):=fnM 2 0 DS
def yO:SM :=
  (jm<|oZ<|aB (mOp gIx (ai 0)<|mC<|.int 0)<|aB (mOp gIx (ai 0)<|mC<|.int 1)<|aB (mC<|.bool true)<|aB (mOp gIx (ai 0)<|mC<|.int 3) aZ)
def je:List D->Option (D×Bool):=fnM 1 0 yO
def yP:PM :=
  (oZ<|aB (mC<|.str "cut")<|aB (ai 0) aZ)
def jf:SN :=
  (aY (bG (nIx (nO<|mOp dW (ai 2)<|ai 5)<|nLit<|.int 1)<|ngN 6)
  (aY (gr (aE 2) (aE 6)<|nO<|cM mn<|aB (mOp dW (ai 2)<|ai 6)<|aB (ai 5) aZ)
  (gr (aE 2) (aE 5)<|nO<|cM jI<|aB (mOp dW (ai 2)<|ai 5) aZ)))
def DT:SN :=
  (aY (bG (nO<|mCB kh<|aB (mOp gIx (ai 0)<|mC<|.int 1) aZ)<|ngN 2)
  (aY (bG (nO<|cM gh<|aB (ai 2)<|aB (ai 1) aZ)<|ngN 3)
  (aY (bG (nIx (nO<|mOp dW (ai 2)<|mOp gIx (ai 3)<|mUn Dg<|mC<|.int 1)<|nLit<|.int 1)<|ngN 4)
  (aY (uy [0,1,2,3,4] (aE 3) (ngN 5)
  jf)
  (aY (fw (nTo<|a0<|mOp o7 (mOp gIx (mOp dW (ai 2)<|ai 4)<|mC<|.int 1)<|mC .none)
  (gr (aE 2) (aE 4)<|nO<|cM je<|aB (mOp dW (ai 2)<|ai 4) aZ)
  dE)
  (eP<|iQ<|ao (iQ<|ao (nO<|mOp dU (mOp gIx (ai 0)<|mC<|.int 0)<|ai 3)<|ao (aE 2) aQ)<|ao (nO<|mLC [] (vx<|ai 3) mF yP) aQ))))))
def iB:FN:=fnS 2 5 DT
def DU:SN :=
  (aY (g6<|nO<|cM dw<|aB (ai 0)<|aB (ai 1) aZ)
  (aY (fw (nTo<|a0<|mOp gIs (mOp gIx (mOp dW (mOp gIx (ai 0)<|mC<|.int 1)<|ai 1)<|mC<|.int 1)<|mC .none)
  (eP<|dA fK<|ao (aE 0)<|ao (aE 1) aQ)
  dE)
  (aY (bG (dA iB<|ao (aE 0)<|ao (aE 1) aQ)<|ngN 2)
  (aY (bG (dA fK<|ao (nIx (aE 2)<|nLit<|.int 0)<|ao (aE 1) aQ)<|ngN 3)
  (eP<|iQ<|ao (nIx (aE 3)<|nLit<|.int 0)<|ao (nIx (aE 3)<|nLit<|.int 1)<|ao (nO<|mOp dU (mOp gIx (ai 2)<|mC<|.int 1)<|mOp gIx (ai 3)<|mC<|.int 2) aQ)))))
def mq:FN:=fnS 2 2 DU
def yQ:SN :=
  (aY (g6<|nO<|cM dw<|aB (ai 0)<|aB (ai 1) aZ)
  (aY (bG (nO<|mOp dW (mOp gIx (ai 0)<|mC<|.int 1)<|ai 1)<|ngN 3)
  (aY (fw (nTo<|a0<|mOp gGe (ai 2)<|mOp gIx (ai 3)<|mC<|.int 0)
  zZ
  dE)
  (aY (bG (nO<|mCB kh<|aB (mOp gIx (ai 0)<|mC<|.int 1) aZ)<|ngN 4)
  (aY (gr (aE 4) (aE 1)<|iQ<|ao (aE 2)<|ao (nIx (aE 3)<|nLit<|.int 1)<|ao (nIx (aE 3)<|nLit<|.int 2)<|ao (nIx (aE 3)<|nLit<|.int 3) aQ)
  (aY (fw (nTo<|mOr (a0<|mOp gIs (mOp gIx (ai 3)<|mC<|.int 1)<|mC .none)<|a0<|mOp Jy (cM bR<|aB (ai 4)<|aB (ai 1) aZ)<|cM bR<|aB (ai 4)<|aB (mOp gIx (ai 3)<|mC<|.int 1) aZ)
  (eP<|iQ<|ao (iQ<|ao (nO<|mCB Fs<|aB (mOp gIx (ai 0)<|mC<|.int 0) aZ)<|ao (aE 4) aQ)<|ao (pE aQ) aQ)
  dE)
  (eP<|dA iB<|ao (iQ<|ao (nIx (aE 0)<|nLit<|.int 0)<|ao (aE 4) aQ)<|ao (aE 1) aQ)))))))
def eF:FN:=fnS 3 2 yQ
def jo:SN :=
  (aY (bG (nO<|mCB lD<|aB (ai 1) aZ)<|ngN 4)
  (aY (bG (nIx (aE 4)<|nO<|mOp d6 (ai 3)<|mCB gv<|aB (ai 4) aZ)<|ngN 5)
  (aY (fw (nTo<|a0<|mOp gEq (ai 2)<|mC<|.int 0)
  (aY (bG (nO<|mOp tf (mOp tf (mOp dW (ai 1)<|ai 5)<|mC<|.int 1)<|mOp d6 (mOp j5 (ai 3)<|mC<|.int 100)<|mOp De (mC<|.int 10)<|mC<|.int 20)<|ngN 6)
  (aY (bG (dA eF<|ao (nIx (aE 0)<|nLit<|.int 0)<|ao (aE 5)<|ao (aE 6) aQ)<|ngN 7)
  (aY (gr (aE 1) (aE 5)<|aE 6)
  (aY (bG (nIx (aE 7)<|nLit<|.int 0)<|fO (aE 0)<|nLit<|.int 0)
  (aY (bG (nOp dU (nIx (aE 0)<|nLit<|.int 1)<|nO<|mCB gv<|aB (mOp gIx (ai 7)<|mC<|.int 1) aZ)<|fO (aE 0)<|nLit<|.int 1)
  (aY (bG (nOp dU (nIx (aE 0)<|nLit<|.int 2)<|nLit<|.int 4)<|fO (aE 0)<|nLit<|.int 2)
  (eP<|nLit<|.bool true)))))))
  dE)
  (aY (bG (nO<|mOp dU (mC<|.int 4)<|mOp tH (mC<|.int 2)<|cM eV<|aB (mCB ig<|aB (ai 1) aZ) aZ)<|ngN 8)
  (aY (bG (dA mq<|ao (nIx (aE 0)<|nLit<|.int 0)<|ao (aE 5) aQ)<|ngN 7)
  (aY (fw (nOr (fj<|nOp gNe (nIx (aE 7)<|nLit<|.int 0)<|lC (aE 1)<|ao (aE 5) aQ)<|nTo<|a0<|Di "bool"<|mOp gIx (ai 7)<|mC<|.int 0)
  (eP<|nLit<|.bool false)
  dE)
  (aY (bG (nIx (aE 7)<|nLit<|.int 1)<|fO (aE 0)<|nLit<|.int 0)
  (aY (bG (nOp dU (nIx (aE 0)<|nLit<|.int 1)<|nO<|mCB gv<|aB (mOp gIx (ai 7)<|mC<|.int 2) aZ)<|fO (aE 0)<|nLit<|.int 1)
  (aY (bG (nOp dU (nIx (aE 0)<|nLit<|.int 2)<|aE 8)<|fO (aE 0)<|nLit<|.int 2)
  (eP<|nLit<|.bool true))))))))))
def dP:FN:=fnS 4 5 jo
def tR:SM :=
  (fv (fV 1<|mC<|.str "abcdefghijklmnopqrstuvwxyz")
  (fv (fV 2<|mOp dU (mOp vL (ai 1)<|mOp d6 (mOp j5 (ai 0)<|mC<|.int 52)<|mC<|.int 26)<|mOp vL (ai 1)<|mOp d6 (mOp j5 (ai 0)<|mC<|.int 2)<|mC<|.int 26)
  (fv (mG (a0<|mOp gEq (mOp d6 (ai 0)<|mC<|.int 2)<|mC<|.int 1)
  (fV 2<|mOp dU (ai 2)<|mOp gIx (xr<|aB (mC<|.str "a")<|aB (mC<|.str "zz")<|aB (mC<|.str "aaa")<|aB (mC<|.str "zzzz")<|aB (mC<|.str "bbbbb")<|aB (mC<|.str "zzzzzz") aZ)<|mOp d6 (mOp j5 (ai 0)<|mC<|.int 2)<|mC<|.int 6)
  jB)
  (jm<|ai 2))))
def gQ:List D->Option (D×Bool):=fnM 1 2 tR
def v3:SM :=
  (fv (mG (a0<|mOp gEq (mOp d6 (ai 0)<|mC<|.int 3)<|mC<|.int 0)
  (jm<|mOp tf (mOp d6 (mOp j5 (ai 0)<|mC<|.int 3)<|mC<|.int 5)<|mC<|.int 2)
  jB)
  (fv (mG (a0<|mOp gEq (mOp d6 (ai 0)<|mC<|.int 3)<|mC<|.int 1)
  (jm<|mOp tf (mOp d6 (mOp j5 (ai 0)<|mC<|.int 3)<|mC<|.int 61)<|mC<|.int 30)
  jB)
  (jm<|mOp tf (mOp d6 (mOp j5 (ai 0)<|mC<|.int 3)<|mOp dU (mOp tH (mC<|.int 2)<|mOp De (mC<|.int 10)<|mC<|.int 59)<|mC<|.int 1)<|mOp De (mC<|.int 10)<|mC<|.int 59)))
def gi:List D->Option (D×Bool):=fnM 1 0 v3
def qq:PM :=
  (vq yw yw (mC<|.str "a") (ai 0)<|mC<|.str "z")
def DV:SM :=
  (fv (mG (mOr (zH<|a0<|yr "str"<|ai 0)<|mOr (a0<|mOp gLt (mCB gv<|aB (ai 0) aZ)<|mC<|.int 1)<|a0<|mOp gGt (mCB gv<|aB (ai 0) aZ)<|mC<|.int 8)
  (jm<|mC<|.bool false)
  jB)
  (jm<|mCB IK<|aB (mLC [] (Nq<|ai 0) mF qq) aZ))
def iC:List D->Option (D×Bool):=fnM 1 0 DV
def yR:Rho->Option (D×D) :=
  (nN (mG (zH<|a0<|cM iC<|aB (ai 1) aZ)
  j4
  jB)
  (nN (mG (a0<|mOp vI (ai 1)<|mOp gIx (ai 0)<|mC<|.int 1)
  j4
  jB)
  (nN (fV 3<|mCB kh<|aB (mOp gIx (ai 0)<|mC<|.int 1) aZ)
  (nN (yf 3 (oZ<|aB (ai 2)<|aB (mC .none)<|aB (mC<|.bool false)<|aB (oZ aZ) aZ)<|ai 1)
  (pM (mOp dU (mOp gIx (ai 0)<|mC<|.int 0)<|xr<|aB (ai 1) aZ) 3)))))
def kq:List D->Option (D×D):=fnD 3 1 yR
def uI:SN :=
  (aY (bG (fk gQ<|ao (nIx (aE 0)<|nLit<|.int 3) aQ)<|ngN 3)
  (aY (bG (nOp dU (nIx (aE 0)<|nLit<|.int 3)<|nLit<|.int 1)<|fO (aE 0)<|nLit<|.int 3)
  (aY (bG (nO<|cM gi<|aB (ai 2) aZ)<|ngN 4)
  (aY (gr (aE 1) (aE 3)<|aE 4)
  (aY (bG (pK kq<|ao (nIx (aE 0)<|nLit<|.int 0)<|ao (aE 3)<|ao (aE 4) aQ)<|fO (aE 0)<|nLit<|.int 0)
  (bG (nOp dU (nIx (aE 0)<|nLit<|.int 2)<|nLit<|.int 1)<|fO (aE 0)<|nLit<|.int 2))))))
def jL:FN:=fnS 3 2 uI
def oa:SN :=
  (g6<|dA jL<|ao (aE 0)<|ao (aE 1)<|ao (nO<|mOp dU (mOp j5 (ai 3)<|mC<|.int 4)<|mOp tH (mC<|.int 7)<|ai 4) aQ)
def sd:SN :=
  (aY (bG (nO<|mOp j5 (ai 2)<|mC<|.int 8)<|ngN 3)
  (aY (fw (nTo<|mOr (a0<|mOp gLt (mOp d6 (ai 2)<|mC<|.int 8)<|mC<|.int 2)<|xp (a0<|mOp rW (ai 1) lA)<|a0<|mOp gGt (mOp d6 (ai 2)<|mC<|.int 8)<|mC<|.int 5)
  (aY (g6<|dA jL<|ao (aE 0)<|ao (aE 1)<|ao (aE 3) aQ)
  (eP<|nLit<|.bool true))
  dE)
  (aY (fw (nTo<|a0<|mOp gEq (mOp d6 (ai 2)<|mC<|.int 8)<|mC<|.int 2)
  (aY (F1 [0,1,2,3] (zJ<|aB (mOp d6 (ai 3)<|mC<|.int 4) aZ) (ngN 4)
  oa)
  (eP<|nLit<|.bool true))
  dE)
  (aY (fw (nTo<|a0<|mOp gLt (mOp d6 (ai 2)<|mC<|.int 8)<|mC<|.int 5)
  (eP<|dA du<|ao (aE 0)<|ao (aE 1) aQ)
  dE)
  (aY (fw (nTo<|a0<|mOp rW (ai 1) lA)
  (eP<|nLit<|.bool true)
  dE)
  (eP<|dA dP<|ao (aE 0)<|ao (aE 1)<|ao (nO<|mCB Fq<|aB (mOp gEq (mOp d6 (ai 2)<|mC<|.int 8)<|mC<|.int 7) aZ)<|ao (aE 3) aQ))))))
def gD:FN:=fnS 3 2 sd
def v9:MN Bool :=
  (fj<|nOp GR (nIx (aE 2)<|nLit<|.int 0)<|nO lA)
def B7:SN :=
  (fw (pC<|fj<|dA du<|ao (nIx (aE 1)<|nLit<|.int 0)<|ao (nIx (aE 2)<|nLit<|.int 0) aQ)
  (eP<|nLit<|.bool false)
  dE)
def jg:PM :=
  (mOp tf (mOp dU (mOp gIx (ai 0)<|mC<|.int 1)<|cM fy<|aB (mOp gIx (ai 0)<|mC<|.int 0) aZ)<|mOp gIx (ai 0)<|mC<|.int 2)
def wa:SN :=
  (aY (bG (nO<|mOp j5 (ai 3)<|mC<|.int 11)<|ngN 4)
  (aY (bG (nO<|mOp d6 (mOp d6 (ai 3)<|mC<|.int 11)<|mC<|.int 2)<|ngN 5)
  (aY (fw (nTo<|a0<|mOp gEq (mOp d6 (ai 3)<|mC<|.int 11)<|mC<|.int 10)
  (g6<|dA iS<|ao (aE 1)<|ao (aE 2) aQ)
  (fw (fj<|nOp gGt (nOp dU (nCB ig<|ao (nIx (aE 2)<|nLit<|.int 0) aQ)<|nCB ig<|ao (nIx (aE 2)<|nLit<|.int 1) aQ)<|nLit<|.int 90)
  (fw (pC<|fj<|dA du<|ao (nIx (aE 1)<|aE 5)<|ao (nIx (aE 2)<|aE 5) aQ)
  (eP<|nLit<|.bool false)
  dE)
  (fw (pC<|fj<|dA gD<|ao (nIx (aE 1)<|aE 5)<|ao (nIx (aE 2)<|aE 5)<|ao (aE 4) aQ)
  (eP<|nLit<|.bool false)
  dE)))
  (aY (fw (nOr (pC<|fj<|fk bO<|ao (nIx (nIx (aE 1)<|nLit<|.int 0)<|nLit<|.int 0)<|ao (nIx (aE 2)<|nLit<|.int 0) aQ)<|pC<|fj<|fk bO<|ao (nIx (nIx (aE 1)<|nLit<|.int 1)<|nLit<|.int 0)<|ao (nIx (aE 2)<|nLit<|.int 1) aQ)
  (eP<|nLit<|.bool false)
  dE)
  (fw (fj<|nOp gGt (nCB Dh<|ao (DN [] (aE 1) mF jg) aQ)<|nLit<|.int 0)
  (eP<|nLit<|.bool false)
  dE)))))
def B8:SN :=
  (aY (bG (pE<|ao (pE<|ao (dA gC aQ)<|ao (nLit<|.int 0)<|ao (nLit<|.int 0)<|ao (nLit<|.int 0) aQ)<|ao (pE<|ao (dA gC aQ)<|ao (nLit<|.int 0)<|ao (nLit<|.int 0)<|ao (nLit<|.int 300) aQ) aQ)<|ngN 1)
  (aY (bG (pE<|ao (nO lA)<|ao (nO lA) aQ)<|ngN 2)
  (aY (uy [0,1,2] (nO<|mSl gSl (ai 0) vt<|Fg<|mC<|.int 80) (ngN 3)
  wa)
  (aY (f7 [0,1,2,3,4,5] v9
  B7 1000000)
  (eP<|xX (dA du<|ao (nIx (aE 1)<|nLit<|.int 0)<|ao (nIx (aE 2)<|nLit<|.int 0) aQ)<|nOp gEq (fk fy<|ao (nIx (nIx (aE 1)<|nLit<|.int 0)<|nLit<|.int 0) aQ)<|nLit<|.int 0)))))
def Lg:List D->Option (D×Bool):=fnO 1 5 B8
local macro_rules | `(tactic| walk_at "mir") => `(tactic| simp only [*, fnM, fv, mG, a0, mOp, sv, ai, mC, mCB, aB, aZ, qy, gB0, gI0, gI, dU, tH, Dg, gIx, IQ, gSl, gv, Qf, Qg, Qh, Fq, gIs, o7, MU, MV, MW, asB, asI, mUn, Di, Bm, qF, FA, FC, Fy, Fz, xG, j7, tJ, qA, isNone,
 xp,mOr,zH,xq,P7,OD,P8,oZ,xr,i7,nH,fV,sto,ie,jm,OH,kU,jB,IC,Fo,cM,Dl,zO,Dm,zP,zQ,Dn,Dp,rl,rn,xI,xJ,qi,Qj,Qk,zJ,Qa,rg1,rg2,vx,P9,asL,asT,Qc,mgN,mgT,mgU,asS,IF,MJ,OI,OJ,tF,Mir.putAt,Sl.put,Fn,OG,nK,Qi,MP,
 List.length_cons,List.length_nil,List.map_cons,List.map_nil,List.cons_append,List.nil_append,List.replicate,List.getElem?_cons_zero,List.getElem?_cons_succ,List.getElem?_nil,List.set_cons_zero,List.set_cons_succ,
 Option.bind_some,Option.bind_none,Option.map_some,Option.map_none,if_true,if_false,E9,Bool.false_eq_true,reduceIte,decide_true,decide_false,Bool.not_true,Bool.not_false,ite_true,ite_false,Nat.reduceAdd,Nat.reduceEqDiff,Bool.and_true,Bool.true_and,Bool.and_false,Bool.not_eq_true,not_true_eq_false,not_false_eq_true,Int.reduceLT,Int.reduceLE,Int.reduceEq,Nat.reduceLeDiff])
local macro_rules | `(tactic| walk_at "st") => `(tactic| (apply b9; · (walk_at "mir"; try exact rfl)))
theorem GV(l:List D)(k:Int)(d:D)(h:L2.atI l k=some d):gIx (.list l) (.int k)=some (d,false):=by
 show(L2.atI l k).map _=_;rw[h];rfl
def NIo(s:Sl):Prop:=∀d,s≠.io d
theorem NIo.no:NIo .no:=λd h=>by cases h
theorem NIo.fz(x:D):NIo (.fz x):=λd h=>by cases h
theorem B9(q:Sl)(h : ρ[i]?=some s)(hs:NIo s):ie ρ i q=some (ρ.set i q):=by
 unfold ie;rw[h];cases s<;>first|rfl|exact absurd rfl (hs _)
def JU(h : ρ[i]?=some s)(hs:NIo s):mgN i d ρ=some (ρ.set i<|.fz d):=B9 _ h hs
def LT:Str:="abcdefghijklmnopqrstuvwxyz"
def letter(j:Nat):Str:=⟨#[LT.cps.toList.getD j 97]⟩
theorem Pt:∀j:Nat,j<26->atI LT.cps.toList (j:Int)=some (LT.cps.toList.getD j 97):=by decide
theorem uJ(j:Nat)(h:j<26):vL (.str LT) (.int (j:Int))=some (.str<|letter j,false):=by
 show cIf (LT.length<=sizeLine) _ none=_;rw[bA (by rw[sizeLine_eq];decide),Pt j h];rfl
def sfx(j:Nat):Str:=(["a","zz","aaa","zzzz","bbbbb","zzzzzz"]:List Str).getD j ""
def aT(k:Nat):Str:=if k%2=1 then letter (k/52%26)++letter (k/2%26)++sfx (k/2%6)else letter (k/52%26)++letter (k/2%26)
theorem se:∀i:Nat,i<26->∀j:Nat,j<26->LT.cps.toList.getD i 97=LT.cps.toList.getD j 97->i=j:=by decide
theorem Ca:∀j:Nat,j<6->0<(sfx j).cps.size:=by decide
theorem uK(k:Nat):(aT k).cps.toList=LT.cps.toList.getD (k/52%26) 97::LT.cps.toList.getD (k/2%26) 97::(if k%2=1 then(sfx<|k/2%6).cps.toList else []):=by
 unfold aT;split
 ·show((#[LT.cps.toList.getD (k/52%26) 97]++#[LT.cps.toList.getD (k/2%26) 97])++(sfx<|k/2%6).cps).toList=_
  simp
 ·show(#[LT.cps.toList.getD (k/52%26) 97]++#[LT.cps.toList.getD (k/2%26) 97]).toList=_
  simp
theorem sf:∀i:Nat,i<1300->∀j:Nat,j<i->aT i≠aT j:=λi hi j m e=>by
 have f:(aT i).cps.toList=(aT j).cps.toList:=by rw[e]
 rw[uK,uK]at f;injection f with g d
 injection d with d h
 have k:=se _ (Nat.mod_lt _ (by decide)) _ (Nat.mod_lt _ (by decide)) g
 have l:=se _ (Nat.mod_lt _ (by decide)) _ (Nat.mod_lt _ (by decide)) d
 have n:=Ca (i/2%6) (Nat.mod_lt _ (by decide))
 have p2:=Ca (j/2%6) (Nat.mod_lt _ (by decide))
 have c:=congrArg List.length h;have h3:i%2=j%2:=by
  by_cases a:i%2=1<;>by_cases b:j%2=1
  ·lia
  ·rw[if_pos a,if_neg b]at c
   have z:(sfx<|i/2%6).cps.toList.length=0:=c;rw[Array.length_toList]at z;lia
  ·rw[if_neg a,if_pos b]at c
   have z : 0=(sfx<|j/2%6).cps.toList.length:=c;rw[Array.length_toList]at z;lia
  ·lia
 lia
def og(m:Str):keyOf (.str m)=some (.inr m):=rfl
def iU:Option Str->D
 |none=>.none
 |some a=>.str a
def bH(r:aG.Row):D:=.tuple [.int r.key,iU r.above,.bool r.mark,.tuple<|r.below.map .str]
def cB(U0:List Str)(Q0:Str->aG.Row):List (D×D):=U0.map λn=>(PyData.str n,bH<|Q0 n)
theorem gE(Q0:Str->aG.Row)(n:Str):∀U0:List Str,d4 (cB U0 Q0) (.inr n)=if n∈U0 then some (bH<|Q0 n)else none
 | []=>rfl
 |m::U0=>by
  show(if keyOf (.str m)=some (.inr n)then some (bH<|Q0 m)else d4 (cB U0 Q0) (.inr n))=_
  by_cases e:m=n
  ·subst e
   rw[if_pos<|og m,if_pos zas]
  ·have a : ¬keyOf (.str m)=some (.inr n):=λz=>e (Sum.inr.inj<|zaQ z)
   rw[if_neg a,gE Q0 n U0]
   by_cases h:n∈U0
   ·rw[if_pos h,if_pos<|zak _ h]
   ·rw[if_neg h,if_neg λz=>by
     rcases zaf z with z|z
     ·exact e z.symm
     ·exact h z]
def aW(Q0:Str->aG.Row)(n:Str)(r:aG.Row):Str->aG.Row:=λm=>if m=n then r else Q0 m
theorem wb(U0:List Str)(Q0:Str->aG.Row)(n:Str)(r:aG.Row)(h:n∈U0):putD (cB U0 Q0) (.str n) (bH r) (.inr n)=cB U0 (aW Q0 n r):=by
 unfold putD;rw[gE,if_pos h];show(cB U0 Q0).map _=_;unfold cB;rw[List.map_map];refine List.map_congr_left λm _=>?_
 show(if keyOf (.str m)=some (.inr n)then(PyData.str m,bH r)else(PyData.str m,bH<|Q0 m))=(PyData.str m,bH<|aW Q0 n r m)
 unfold aW
 by_cases e:m=n
 ·subst e
  rw[if_pos<|og m,if_pos rfl]
 ·have a : ¬keyOf (.str m)=some (.inr n):=λz=>e (Sum.inr.inj<|zaQ z)
  rw[if_neg a,if_neg e]
theorem wc(U0:List Str)(Q0:Str->aG.Row)(n:Str)(r:aG.Row)(h:n∉U0):putD (cB U0 Q0) (.str n) (bH r) (.inr n)=cB (U0++[n]) (aW Q0 n r):=by
 unfold putD;rw[gE,if_neg h];show cB U0 Q0++[(.str n,bH r)]=_;unfold cB;rw[za1]
 congr 1
 ·refine List.map_congr_left λm hm=>?_
  show _=(PyData.str m,bH<|aW Q0 n r m);unfold aW;rw[if_neg λz=>h (by rw[<-z];exact hm)]
 ·show [(PyData.str n,bH r)]=[(PyData.str n,bH<|aW Q0 n r n)]
  unfold aW;rw[if_pos rfl]
theorem sj(U0:List Str)(Q0:Str->aG.Row):(cB U0 Q0).length=U0.length:=by unfold cB;rw[zal]
theorem uL(U0:List Str)(Q0:Str->aG.Row):(cB U0 Q0).map (·.1)=U0.map .str:=by unfold cB;rw[List.map_map];rfl
theorem Cb(U0:List Str)(Q0:Str->aG.Row)(n:Str)(h:n∈U0):dW (.dict<|cB U0 Q0) (.str n)=some (bH<|Q0 n,false):=by
 show(d4 (cB U0 Q0)<|.inr n).map _=_;rw[gE,if_pos h];rfl
theorem wd(U0:List Str)(Q0:Str->aG.Row)(n:Str):vI (.str n) (.dict<|cB U0 Q0)=some (.bool<|decide<|n∈U0,false):=by
 show some (PyData.bool (d4 (cB U0 Q0)<|.inr n).isSome,false)=_;rw[gE]
 by_cases h:n∈U0
 ·rw[if_pos h,zaH h];rfl
 ·rw[if_neg h,zaO h];rfl
def sk(j:Nat):(letter j).length=1:=rfl
theorem JV:∀j:Nat,j<6->(sfx j).length<=6:=by decide
theorem add_str(a b:Str)(h:a.length+b.length<=1000):dU (.str a) (.str b)=some (.str<|a++b,false):=by
 show cIf (a.length+b.length<=sizeLine) _ none=_;rw[bA (by rw[sizeLine_eq];lia)]
def two_len(i j:Nat):(letter i++letter j).length=2:=rfl
theorem JW(k:Nat):gQ [.int (k:Int)]=some (.str<|aT k,false):=by
 have hk:∀{ρ:Rho},ρ[0]?=some (.fz<|.int (k:Int))->∀(a b:Nat),0<a->a<1000->0<b->IE (mOp d6 (mOp j5 (ai 0)<|mC<|.int (a:Int))<|mC<|.int (b:Int)) ρ ((k/a%b:Nat):Int):=fun{ρ} h a b ha m n=>by
  have:=hU (pq (cw h) (bV (i:=(a:Int))) ⟨by lia,by lia⟩) (bV (i:=(b:Int))) (by lia)
  rwa[show((k:Int)/(a:Int)%(b:Int))=((k/a%b:Nat):Int) by rw[Int.natCast_emod,Int.natCast_ediv]]at this
 have l1:∀{ρ:Rho},ρ[0]?=some (.fz<|.int (k:Int))->ρ[1]?=some (.fz<|.str LT)->mOp vL (ai 1) (mOp d6 (mOp j5 (ai 0)<|mC<|.int 52)<|mC<|.int 26) ρ=some ((.str<|letter<|k/52%26,.fz),ρ):=fun{ρ} e f=>bE (r:=(.int ((k/52%26:Nat):Int),.fz)) (Q1:=(.str<|letter<|k/52%26,false)) (ar<|aA f) (ar<|hk e 52 26 (by lia) (by lia) (by lia)) (uJ _ (by lia))
 have l2:∀{ρ:Rho},ρ[0]?=some (.fz<|.int (k:Int))->ρ[1]?=some (.fz<|.str LT)->mOp vL (ai 1) (mOp d6 (mOp j5 (ai 0)<|mC<|.int 2)<|mC<|.int 26) ρ=some ((.str<|letter<|k/2%26,.fz),ρ):=fun{ρ} e f=>bE (r:=(.int ((k/2%26:Nat):Int),.fz)) (Q1:=(.str<|letter<|k/2%26,false)) (ar<|aA f) (ar<|hk e 2 26 (by lia) (by lia) (by lia)) (uJ _ (by lia))
 have em:∀{ρ:Rho},ρ[0]?=some (.fz<|.int (k:Int))->IE (mOp d6 (ai 0)<|mC<|.int 2) ρ ((k:Int)%2):=fun{ρ} h=>hU (cw h) bV (by decide)
 have l:=add_str (letter<|k/52%26) (letter<|k/2%26) (by rw[sk,sk];lia)
 have hd:∀(u:SM) (o:Option Out),u [.fz<|.int (k:Int),.fz<|.str LT,.fz<|.str<|letter (k/52%26)++letter (k/2%26)]=o->fv (fV 1<|mC<|.str "abcdefghijklmnopqrstuvwxyz") (fv (fV 2<|mOp dU (mOp vL (ai 1)<|mOp d6 (mOp j5 (ai 0)<|mC<|.int 52)<|mC<|.int 26)<|mOp vL (ai 1)<|mOp d6 (mOp j5 (ai 0)<|mC<|.int 2)<|mC<|.int 26) u) [.fz<|.int (k:Int),.no,.no]=o:=λu o h=>by
  refine b9 (ρ1:=[.fz<|.int (k:Int),.fz<|.str LT,.no]) (fZ rfl rfl) ?_;exact b9 (ρ1:=[.fz<|.int (k:Int),.fz<|.str LT,.fz<|.str<|letter (k/52%26)++letter (k/2%26)]) (fZ (bE (r:=(.str<|letter<|k/2%26,.fz)) (Q1:=(.str<|letter (k/52%26)++letter (k/2%26),false)) (ar<|l1 rfl rfl) (ar<|l2 rfl rfl) l) rfl) h
 by_cases c:k%2=1
 ·have d:aT k=letter (k/52%26)++letter (k/2%26)++sfx (k/2%6):=if_pos c
  rw[d];refine dY (o:=.rt (.str<|letter (k/52%26)++letter (k/2%26)++sfx (k/2%6),.fz) [.fz<|.int (k:Int),.fz<|.str LT,.fz<|.str<|letter (k/52%26)++letter (k/2%26)++sfx (k/2%6)]) rfl (hd _ _ ?_) rfl;have g:∀j:Nat,j<6->gIx (.list [.str "a",.str "zz",.str "aaa",.str "zzzz",.str "bbbbb",.str "zzzzzz"]) (.int (j:Int))=some (.str<|sfx j,false):=λj p=>by
   have:j=0\/j=1\/j=2\/j=3\/j=4\/j=5:=by lia
   rcases this with rfl|rfl|rfl|rfl|rfl|rfl<;>rfl
  refine b9 (ρ1:=[.fz<|.int (k:Int),.fz<|.str LT,.fz<|.str<|letter (k/52%26)++letter (k/2%26)++sfx (k/2%6)]) (FD (tEq (em rfl) bV (by lia))<|fZ (bE (r:=(.str<|sfx<|k/2%6,.fz)) (Q1:=(.str<|letter (k/52%26)++letter (k/2%26)++sfx (k/2%6),false)) (ar<|aA rfl) (ar<|bE (r:=(.int ((k/2%6:Nat):Int),.fz)) (Q1:=(.str<|sfx<|k/2%6,false)) (mY<|zR (rs:=[(.str "a",.fz),(.str "zz",.fz),(.str "aaa",.fz),(.str "zzzz",.fz),(.str "bbbbb",.fz),(.str "zzzzzz",.fz)]) rfl rfl (by simp)) (ar<|hk rfl 2 6 (by lia) (by lia) (by lia))<|g _ (by lia))<|add_str _ _ (by have:=JV (k/2%6) (by lia);rw[two_len];lia)) rfl) (ee<|aA rfl)
 ·have d:aT k=letter (k/52%26)++letter (k/2%26):=if_neg c
  rw[d];exact dY (o:=.rt (.str<|letter (k/52%26)++letter (k/2%26),.fz) [.fz<|.int (k:Int),.fz<|.str LT,.fz<|.str<|letter (k/52%26)++letter (k/2%26)]) rfl (hd _ _<|b9 (ρ1:=[.fz<|.int (k:Int),.fz<|.str LT,.fz<|.str<|letter (k/52%26)++letter (k/2%26)]) (rA (tNe (em rfl) bV (by lia)) rfl)<|ee<|aA rfl) rfl
theorem key_is(c:Int):∃v:Int,gi [.int c]=some (.int v,false):=by
 have em:∀{ρ:Rho},IE (mOp d6 (ai 0)<|mC<|.int 3) (.fz (.int c)::ρ) (c%3):=fun{ρ}=>hU (cw rfl) bV (by decide)
 have a:∀{ρ:Rho},IE (mOp j5 (ai 0)<|mC<|.int 3) (.fz (.int c)::ρ) (c/3):=fun{ρ}=>pq (cw rfl) bV ⟨by decide,by decide⟩
 by_cases b:c%3=0
 ·exact⟨c/3%5-2,dY (o:=.rt (.int<|c/3%5-2,.fz) [.fz<|.int c]) rfl (vA<|FD (tEq em bV b)<|ee<|pj (hU a bV (by decide)) bV) rfl⟩
 ·by_cases e:c%3=1
  ·exact⟨c/3%61-30,dY (o:=.rt (.int<|c/3%61-30,.fz) [.fz<|.int c]) rfl (b9 (ρ1:=[.fz<|.int c]) (rA (tNe em bV b) rfl)<|vA<|FD (tEq em bV e)<|ee<|pj (hU a bV (by decide)) bV) rfl⟩
  ·have d:∀{ρ:Rho},IE (mOp De (mC<|.int 10)<|mC<|.int 59) ρ ((10:Int)^(59:Int).toNat):=fun{ρ}=>FI bV bV ⟨by decide,by decide,by decide⟩
   have f:IE (mOp tH (mC<|.int 2)<|mOp De (mC<|.int 10)<|mC<|.int 59) [.fz<|.int c] (2*(10:Int)^(59:Int).toNat):=rC bV d (IntMulOk.of_left (by decide))
   exact⟨_,dY (o:=.rt (.int<|c/3%(2*(10:Int)^(59:Int).toNat+1)-(10:Int)^(59:Int).toNat,.fz) [.fz<|.int c]) rfl (b9 (ρ1:=[.fz<|.int c]) (rA (tNe em bV b) rfl)<|b9 (ρ1:=[.fz<|.int c]) (rA (tNe em bV e) rfl)<|ee<|pj (hU a (ph f bV) (by decide)) d) rfl⟩
def sr(h:n∈U0){a b:PM}{ρ:Rho}(ha:sv a ρ=some ((.dict<|cB U0 Q0,.fz),ρ))(I:b ρ=some ((.str n,.fz),ρ)):mOp dW a b ρ=some ((bH<|Q0 n,.fz),ρ):=bE (r:=(.str n,.fz)) (Q1:=(bH<|Q0 n,false)) ha (ar I) (Cb U0 Q0 n h)
def mv{a:PM}(h:a ρ=some ((bH r,.fz),ρ)):IE (mOp gIx a<|mC<|.int 0) ρ r.key:=bE (r:=(.int 0,.fz)) (Q1:=(.int r.key,false)) (ar h) (ar rfl) rfl
def eW{a:PM}(h:a ρ=some ((bH r,.fz),ρ)):mOp gIx a (mC<|.int 1) ρ=some ((iU r.above,.fz),ρ):=bE (r:=(.int 1,.fz)) (Q1:=(iU r.above,false)) (ar h) (ar rfl) rfl
def oh{a:PM}(h:a ρ=some ((bH r,.fz),ρ)):mOp gIx a (mC<|.int 2) ρ=some ((.bool r.mark,.fz),ρ):=bE (r:=(.int 2,.fz)) (Q1:=(.bool r.mark,false)) (ar h) (ar rfl) rfl
def iD{a:PM}(h:a ρ=some ((bH r,.fz),ρ)):mOp gIx a (mC<|.int 3) ρ=some ((.tuple<|r.below.map .str,.fz),ρ):=bE (r:=(.int 3,.fz)) (Q1:=(.tuple<|r.below.map .str,false)) (ar h) (ar rfl) rfl
theorem ml:∀zs:List Str,mO (zs.map PyData.str)=some zs
 | []=>rfl
 |z::zs=>by
  show(mO<|zs.map PyData.str).map (z::·)=_
  rw[ml zs];rfl
def Is(ρ:Rho)(i:Nat)(d:D):Prop:=ρ[i]?=some (.fz d)\/ρ[i]?=some (.own d)\/ρ[i]?=some (.io d)
theorem zV(h : ρ[i]?=some (.io d)):ai i ρ=some ((d,.at i),ρ):=by unfold ai;rw[h]
theorem Pu(U:sv a ρ=some ((x,.at i),M))(Y:sv b M=some (r,I))(h4 : I[i]?=some (.io y))(h3:g y r.1=some O):mOp g a b ρ=some (mE O,I):=by
 unfold mOp;rw[U,zai];dsimp only;rw[Y,zai];simp only[qy,h4,Option.bind_some,h3,Option.map_some]
theorem Pw(h:Is ρ i x)(I:sv b ρ=some (r,ρ))(h3:g x r.1=some Q1):mOp g (ai i) b ρ=some (mE Q1,ρ):=by
 rcases h with h|h|h
 ·exact bE (ar<|aA h) I h3
 ·exact OQ (xK<|qH h) I h h3
 ·exact Pu (xK<|zV h) I h h3
theorem JX{x:D}{rs:List RV}(h:Is ρ i x)(I:m ρ=some (rs,ρ)):∃k,aB (ai i) m ρ=some ((x,k)::rs,ρ):=by
 rcases h with h|h|h
 ·exact⟨_,aK (ar<|aA h) I⟩
 ·exact⟨_,IS (xK<|qH h) I h⟩
 ·refine⟨.at i,?_⟩
  unfold aB;rw[xK<|zV h,zai];dsimp only
  rw[I,zai];simp only[qy,h,Option.map_some]
theorem GW(h:Is ρ i x)(I:g [x]=some Q1):mCB g (aB (ai i) aZ) ρ=some (mE Q1,ρ):=by
 obtain⟨k,e⟩:=JX h a9;exact eg e I
def NC{l:List D}(h:Is ρ i<|.list l):IE (mCB gv<|aB (ai i) aZ) ρ (l.length:Int):=GW (Q1:=(.int (l.length:Int),false)) h rfl
theorem JY(h:Is ρ i<|.dict<|cB U0 Q0):IE (mCB ig<|aB (ai i) aZ) ρ (U0.length:Int):=GW (Q1:=(.int (U0.length:Int),false)) h (by show some (PyData.int ((cB U0 Q0).length:Int),false)=_;rw[sj])
def dX{Q0:Str->aG.Row}{n:Str}{b:PM}(h:Is ρ i<|.dict<|cB U0 Q0)(hn:n∈U0)(I:b ρ=some ((.str n,.fz),ρ)):mOp dW (ai i) b ρ=some ((bH<|Q0 n,.fz),ρ):=Pw (r:=(.str n,.fz)) (Q1:=(bH<|Q0 n,false)) h (ar I) (Cb U0 Q0 n hn)
def GX(U0:List Str)(n:Str):List Str:=if n∈U0 then U0 else U0++[n]
def jh(h:n∈U0):GX U0 n=U0:=if_pos h
def sy(h:n∉U0):GX U0 n=U0++[n]:=if_neg h
theorem yS(U0:List Str)(Q0:Str->aG.Row)(n:Str)(r:aG.Row):putD (cB U0 Q0) (.str n) (bH r) (.inr n)=cB (GX U0 n) (aW Q0 n r):=by
 by_cases h:n∈U0
 ·rw[jh h,wb _ _ _ _ h]
 ·rw[sy h,wc _ _ _ _ h]
theorem Cc{a b:PM}{U0:List Str}{Q0:Str->aG.Row}{n:Str}{r:aG.Row}{s:Sl}(ha:a ρ=some ((bH r,.fz),ρ))(I:b ρ=some ((.str n,.fz),ρ))(h : ρ[i]?=some s)(hs:s=.own (.dict<|cB U0 Q0)\/s=.io (.dict<|cB U0 Q0))(hl:U0.length<=1000):yf i a b ρ=some (.nx<|ρ.set i<|s.put<|.dict<|cB (GX U0 n)<|aW Q0 n r):=by
 have c:(cB U0 Q0).length<100000:=by rw[sj];lia
 have ho:Gb (some s)=some (cB U0 Q0):=by rcases hs with rfl|rfl<;>rfl
 unfold yf;rw[ar ha,zai];dsimp only[nH,Option.bind_some]
 rw[h,ho,zai,ar I,zai];dsimp only[keyOf,Option.bind_some]
 rw[h,ho,zai,bA c,yS];unfold Mir.putAt;rw[h]
theorem ND(Y:tF ρ[i]?=some U)(h1:m ρ=some (rs,ρ1))(h2:i7 rs ρ1=some (O,I))(h3:tF I[i]?=some ds)(h4:f ds O=some w)(h5:Mir.putAt I i (.list w.1)=M):Fn i f m ρ=some ((w.2,.fz),M):=by
 unfold Fn;rw[Y,zai,h1,zai];dsimp only
 rw[h2,zai];dsimp only
 rw[h3,zai,h4,zaT,h5]
theorem NF(d:D)(h:ds.length<=100000):nK ds [d]=some (ds++[d],.none):=by
 show cIf _ _ _=_;rw[bA<|uq h]
abbrev TD(av:List Str):D:=.list (av.map .str)
abbrev HD(U0:List Str)(Q0:Str->aG.Row):D:=.dict (cB U0 Q0)
def bI(Q0:Str->aG.Row)(name on:Str):Str->aG.Row :=
 aW (aW Q0 name ⟨(Q0 name).key,some on,false,(Q0 name).below⟩) on ⟨((aW Q0 name ⟨(Q0 name).key,some on,false,(Q0 name).below⟩) on).key,((aW Q0 name ⟨(Q0 name).key,some on,false,(Q0 name).below⟩) on).above,((aW Q0 name ⟨(Q0 name).key,some on,false,(Q0 name).below⟩) on).mark,((aW Q0 name ⟨(Q0 name).key,some on,false,(Q0 name).below⟩) on).below++[name]⟩
theorem lO(ne:x≠y)(h:aR a x c y=false):aR c y a x=true:=by
 unfold aR at h⊢
 by_cases e:a=c
 ·subst e
  rw[if_pos rfl,if_neg ne]at h;rw[if_pos rfl,if_neg λz=>ne z.symm]
  have f : ¬x.cps.toList<y.cps.toList:=of_decide_eq_false h;refine zaH ?_;rcases List.le_iff_lt_or_eq.mp (List.not_lt.mp f)with d|d
  ·exact d
  ·refine absurd ?_ ne
   cases x;cases y
   congr 1
   exact(Array.toList_inj.mp d).symm
 ·rw[if_neg e]at h
  rw[if_neg λz=>e z.symm]
  have:=of_decide_eq_false h;exact zaH (by lia)
theorem eG(M:aR a x b y=true)(I:aR b y c z=true):aR a x c z=true:=by
 unfold aR at M I⊢
 by_cases e:a=b
 ·subst e
  rw[if_pos rfl]at M
  by_cases d:a=c
  ·subst d
   rw[if_pos rfl]at I⊢;split at M
   ·cases M
   split at I
   ·cases I
   have l1:=of_decide_eq_true M;have l2:=of_decide_eq_true I;have f:x.cps.toList<z.cps.toList:=List.lt_trans l1 l2;rw[if_neg λq=>by rw[q]at f;exact List.lt_irrefl _ f]
   exact zaH f
  ·rw[if_neg d]at I⊢;exact I
 ·rw[if_neg e]at M
  have l1:=of_decide_eq_true M
  by_cases d:b=c
  ·subst d;rw[if_neg e];exact M
  ·rw[if_neg d]at I
   have l2:=of_decide_eq_true I;rw[if_neg (by lia)]
   exact zaH (by lia)
theorem ku:aR a x a x=false:=by
 unfold aR;rw[if_pos rfl,if_pos rfl]
theorem om(h:PyData.strOk x=true):SeqAt.shaped (.str x)=true:=by
 unfold SeqAt.shaped;rw[zaH (by simp[PyData.depth]),Bool.and_true]
 simp only[PyData.canLay0,h]
theorem qP(I:PyData.strOk x=true)(M:PyData.strOk y=true):gNe (.str x) (.str y)=some (.bool<|!decide (x=y),false):=by
 unfold gNe;rw[if_pos ⟨om I,om M⟩];simp only[PyData.eqv]
 by_cases e:x=y
 ·subst e;simp
 ·simp[e]
theorem gj{I:Rho}{p:Str->Bool}:∀l:List Str,(∀x∈l,∃ρ,c (.fz (.str x)::I)=some (p x,ρ))->(∀x∈l,∃ρ,sv e (.fz (.str x)::I)=some ((.str x,.fz),ρ))->gY c e I (l.map .str)=some ((l.filter p).map .str)
 | [],_,_=>rfl
 |x::l,h,b=>by
  have g:=gj l (λy a=>h y<|zak _ a) λy a=>b y (zak _ a)
  obtain⟨ρ,j⟩:=h x zas;obtain⟨n,m⟩:=b x zas;show(c (.fz (.str x)::I)).bind _=_;rw[j,zai];dsimp only
  cases f:p x with
  |false=>rw[if_neg (by simp),g,List.filter_cons_of_neg (by simp[f])]
  |true=>rw[if_pos rfl,m,zai];dsimp only[asF,Option.bind_some];rw[g,List.filter_cons_of_pos (by simp[f])];rfl
theorem kz(I:PyData.strOk x=true)(M:PyData.strOk y=true):PyData.strOk (x++y)=true:=by
 unfold PyData.strOk at*;show(x.cps++y.cps).all _=true;rw[Array.all_append,I,M];rfl
theorem uM:∀j:Nat,j<26->PyData.strOk (letter j)=true:=by decide+kernel
theorem NH:∀j:Nat,j<6->PyData.strOk (sfx j)=true:=by decide+kernel
theorem GY(k:Nat):PyData.strOk (aT k)=true:=by
 unfold aT;have a:=uM (k/52%26) (by lia)
 have b:=uM (k/2%26) (by lia)
 split
 ·exact kz (kz a b) (NH _ (by lia))
 ·exact kz a b
structure Bt(K:Str->Int)(c:Nat)(av U0:List Str)(Q0:Str->aG.Row):Prop where
 nd:U0.Nodup
 nm:∀n∈U0,∃i,i<c/\n=aT i
 tn:av.Nodup
 tk:∀t∈av,t∈U0/\(Q0 t).above=none
 ne:∀n∈U0,(Q0 n).above=none->n∈av
 mkd:∀n∈U0,(Q0 n).mark=true->(Q0 n).above≠none
 ab:∀n∈U0,∀a,(Q0 n).above=some a->a∈U0
 bl:∀n∈U0,(Q0 n).below.length<=c/\∀b∈(Q0 n).below,b∈U0
 ho:∀n∈U0,∀a,(Q0 n).above=some a->aR (K a) a (K n) n=true
theorem Bt.kl(h:Bt K c av U0 Q0):U0.length<=c:=by
 have:=aG.g8 U0 ((List.range c).map aT) h.nd λx a=>by
  obtain⟨i,hi,rfl⟩:=h.nm x a;exact List.mem_map_of_mem (List.mem_range.mpr hi)
 simpa using this
def Bt.tl(h:Bt K c av U0 Q0):av.length<=c:=zaX (aG.g8 av U0 h.tn λx a=>(h.tk x a).1) h.kl
theorem Bt.ok(h:Bt K c av U0 Q0)(hn:n∈U0):PyData.strOk n=true:=by
 obtain⟨i,_,rfl⟩:=h.nm n hn;exact GY i
def aO(Q0:Str->aG.Row)(n:Str)(r:aG.Row):aW Q0 n r n=r:=if_pos rfl
def aI(Q0:Str->aG.Row)(r:aG.Row)(h:m≠n):aW Q0 n r m=Q0 m:=if_neg h
def eY(Q0:Str->aG.Row)(name:Str):Str->aG.Row:=aW Q0 name ⟨(Q0 name).key,none,false,(Q0 name).below⟩
def cX(Q0:Str->aG.Row)(name a:Str):Str->aG.Row:=aW (eY Q0 name) a ⟨(eY Q0 name a).key,(eY Q0 name a).above,(eY Q0 name a).above.isSome,(eY Q0 name a).below.filter λx=>!decide (x=name)⟩
theorem kA(Q0:Str->aG.Row)(name n:Str):(eY Q0 name n).above=if n=name then none else(Q0 n).above:=by
 unfold eY aW;split<;>rfl
theorem c8(Q0:Str->aG.Row)(name a n:Str):(cX Q0 name a n).above=if n=name then none else(Q0 n).above:=by
 rw[<-kA];unfold cX
 by_cases e:n=a
 ·subst e;rw[aO]
 ·rw[aI _ _ e]
theorem sA:(cX Q0 name a n).below.length<=(Q0 n).below.length/\∀b∈(cX Q0 name a n).below,b∈(Q0 n).below:=by
 have d:(eY Q0 name n).below=(Q0 n).below:=by
  unfold eY aW;split
  ·rename_i e;rw[e]
  ·rfl
 unfold cX
 by_cases e:n=a
 ·subst e
  rw[aO];show(List.filter _ (eY Q0 name n).below).length<=_/\∀b∈List.filter _ (eY Q0 name n).below,_;rw[d];exact⟨zaY _ _,λb c=>(List.mem_filter.mp c).1⟩
 ·rw[aI _ _ e,d]
  exact⟨zap _,λb c=>c⟩
theorem DW:(cX Q0 name a n).mark=true->(cX Q0 name a n).above.isSome=true\/(n≠name/\(Q0 n).mark=true):=by
 intro h
 by_cases e:n=a
 ·subst e
  left;unfold cX at h⊢;rw[aO]at h⊢;exact h
 ·unfold cX at h⊢
  rw[aI _ _ e]at h⊢;unfold eY at h⊢
  by_cases b:n=name
  ·subst b;rw[aO]at h;cases h
  ·rw[aI _ _ b]at h
   exact Or.inr ⟨b,h⟩
theorem GZ(Q0:Str->aG.Row)(name n:Str):(eY Q0 name n).key=(Q0 n).key:=by
 unfold eY aW;split
 ·rename_i e;rw[e]
 ·rfl
theorem G0(Q0:Str->aG.Row)(name a n:Str):(cX Q0 name a n).key=(Q0 n).key:=by
 rw[<-GZ Q0 name];unfold cX
 by_cases e:n=a
 ·subst e;rw[aO]
 ·rw[aI _ _ e]
theorem Bt.cut(h:Bt K c av U0 Q0)(hn:name∈U0)(ha:(Q0 name).above=some a):Bt K c (av++[name]) U0 (cX Q0 name a):=by
 have g:name∉av:=λz=>by rw[(h.tk name z).2]at ha;cases ha
 refine⟨h.nd,h.nm,?_,λt f=>?_,λm hm e=>?_,λn hk hm=>?_,λn hk b d=>?_,λn hk=>?_,λn hk b d=>?_⟩
 ·rw[List.nodup_append]
  refine⟨h.tn,by simp,λx o y p=>?_⟩
  rw[zad p];exact λe=>g (by rw[<-e];exact o)
 ·rw[c8]
  rcases zae f with f|f
  ·refine⟨(h.tk t f).1,?_⟩
   split
   ·rfl
   ·exact(h.tk t f).2
  ·rw[zad f]
   exact⟨hn,if_pos rfl⟩
 ·by_cases z:m=name
  ·rw[z];simp
  ·rw[c8,if_neg z]at e;exact zaW _ (h.ne m hm e)
 ·rcases DW hm with e|⟨j,l⟩
  ·exact λz=>by rw[z]at e;cases e
  ·rw[c8,if_neg j]
   exact h.mkd n hk l
 ·rw[c8]at d
  split at d
  ·cases d
  ·exact h.ab n hk b d
 ·exact⟨zaX sA.1 (h.bl n hk).1,λb d=>(h.bl n hk).2 b (sA.2 b d)⟩
 ·rw[c8]at d
  split at d
  ·cases d
  ·exact h.ho n hk b d
inductive Ch(Q0:Str->aG.Row):Str->List Str->Str->Prop
 |one {n a:Str}:(Q0 n).above=some a->(Q0 a).mark=false->Ch Q0 n [n] a
 |more {n a L:Str} {C:List Str}:(Q0 n).above=some a->(Q0 a).mark=true->Ch Q0 a C L->Ch Q0 n (n::C) L
theorem uN{α:Type}{p q : α->Bool}:∀l:List α,(∀x∈l,p x=true->q x=true)->(∃x∈l,p x=false/\q x=true)->l.countP p<l.countP q
 | [],_,⟨x,a,_⟩=>by cases a
 |y::l,h,⟨x,a,d,e⟩=>by
  rw[List.countP_cons,List.countP_cons];have f:l.countP p<=l.countP q:=List.countP_mono_left λz c=>h z (zak _ c)
  rcases zaf a with rfl|b
  ·rw[d,e,if_neg zam,if_pos rfl];lia
  ·have:=uN l (λz c=>h z<|zak _ c) ⟨x,b,d,e⟩
   have i:=h y (zas);cases g:p y with
   |false=>rw[if_neg zam];lia
   |true=>rw[i g,if_pos rfl];lia
section
variable{K:Str->Int}{c:Nat}{av U0:List Str}{Q0:Str->aG.Row}
def rank(K:Str->Int)(U0:List Str)(n:Str):Nat:=U0.countP λm=>aR (K m) m (K n) n
def Cd(h:Bt K c av U0 Q0)(hn:n∈U0)(ha:(Q0 n).above=some a):rank K U0 a<rank K U0 n :=
 uN U0 (λm _ e=>eG e<|h.ho n hn a ha) ⟨a,h.ab n hn a ha,ku,h.ho n hn a ha⟩
theorem Px(h:Bt K c av U0 Q0):∀(m:Nat) (n:Str),n∈U0->rank K U0 n<=m->(Q0 n).above≠none->∃C L,Ch Q0 n C L/\C.length<=m:=by
 intro m
 induction m with
 |zero=>
  intro n hn d ha;cases e:(Q0 n).above with
  |none=>exact absurd e ha
  |some a=>have:=Cd h hn e;lia
 |succ m f=>
  intro n hn d ha;cases e:(Q0 n).above with
  |none=>exact absurd e ha
  |some a=>
   have hk:=h.ab n hn a e;cases em:(Q0 a).mark with
   |false=>exact⟨[n],a,.one e em,by simp⟩
   |true=>
    obtain⟨C,L,b,g⟩:=f a hk (by have:=Cd h hn e;lia) (h.mkd a hk em)
    exact⟨n::C,L,.more e em b,by rw[zaw];lia⟩
theorem Lh(h:Bt K c av U0 Q0)(hn:n∈U0)(ha:(Q0 n).above≠none):∃C L,Ch Q0 n C L/\C.length<=c:=by
 obtain⟨C,L,a,b⟩:=Px h U0.length n hn List.countP_le_length ha;exact⟨C,L,a,zaX b h.kl⟩
theorem Ch.mem(h:Bt K c av U0 Q0):∀{C:List Str} {n L:Str},Ch Q0 n C L->n∈U0->(∀x∈C,x∈U0)/\L∈U0
 |_,n,_,.one ha _,hn=>⟨λx a=>by rw[zad a];exact hn,h.ab n hn _ ha⟩
 |_,n,_,.more ha _ j,hn=>by
  obtain⟨b,d⟩:=Ch.mem h j (h.ab n hn _ ha);exact⟨λx a=>(zaf a).elim (λe=>e▸hn)<|b x,d⟩
theorem Ch.tr(h:Bt K c av U0 Q0):∀{C:List Str} {n L:Str},Ch Q0 n C L->n∈U0->(aV n).above=(Q0 n).above->(∀m∈U0,aR (K m) m (K n) n=true->(aV m).above=(Q0 m).above/\(aV m).mark=(Q0 m).mark)->Ch aV n C L
 |_,n,a,.one ha hm,hn,e,k=>.one (e.trans ha) (((k a (h.ab n hn a ha)<|h.ho n hn a ha).2).trans hm)
 |_,n,_,.more (a:=a) ha hm b,hn,e,k=>
  .more (e.trans ha) (((k a (h.ab n hn a ha)<|h.ho n hn a ha).2).trans hm) (Ch.tr h b (h.ab n hn a ha) (k a (h.ab n hn a ha)<|h.ho n hn a ha).1 λm hm l=>k m hm<|eG l<|h.ho n hn a ha)
theorem uO(I:m≠n)(M:m≠a):cX Q0 n a m=Q0 m:=by
 unfold cX eY;rw[aI _ _ M,aI _ _ I]
theorem DX(h:a≠n):(eY Q0 n a).mark=(Q0 a).mark:=by
 unfold eY;rw[aI _ _ h]
theorem Bt.neA(h:Bt K c av U0 Q0)(hn:n∈U0)(ha:(Q0 n).above=some a):a≠n:=λe=>by
 have:=h.ho n hn a ha;rw[e,ku]at this;cases this
theorem Ch.cut(h:Bt K c av U0 Q0)(hn:n∈U0)(ha:(Q0 n).above=some a)(I:Ch Q0 a C L):Ch (cX Q0 n a) a C L:=by
 have ne:=h.neA hn ha;refine Ch.tr h I (h.ab n hn a ha) (by rw[c8,if_neg ne]) λm hm l=>?_
 have d:m≠n:=λe=>by
  subst e;have:=eG l (h.ho m hn a ha);rw[ku]at this;cases this
 have f:m≠a:=λe=>by
  subst e;rw[ku]at l;cases l
 rw[uO d f];exact⟨rfl,rfl⟩
end
def cuts:List Str->(Str->aG.Row)->Str->aG.Row
 | [],Q0=>Q0
 |n::C,Q0=>cuts C (cX Q0 n<|(Q0 n).above.getD n)
theorem dQ(ha:(Q0 n).above=some a):cuts (n::C) Q0=cuts C (cX Q0 n a):=by
 show cuts C (cX Q0 n<|(Q0 n).above.getD n)=_;rw[ha];rfl
theorem jM:∀(C:List Str) (Q0:Str->aG.Row) (n:Str),(cuts C Q0 n).key=(Q0 n).key
 | [],_,_=>rfl
 |x::C,Q0,n=>(jM C _ n).trans (G0 _ _ _ _)
def stp(n:Str):D:=.tuple [.str "cut",.str n]
section
variable{U0:List Str}{Q0:Str->aG.Row}{av:List Str}{c:Nat}
def mk(U0:List Str)(Q0:Str->aG.Row):Nat:=(U0.filter λn=>(Q0 n).mark).length
def b1(b:Bool):Nat:=if b then 1 else 0
theorem iu(y:Str)(l:List Str)(Q0:Str->aG.Row):mk (y::l) Q0=b1 (Q0 y).mark+mk l Q0:=by
 unfold mk b1;rw[List.filter_cons];cases(Q0 y).mark with
 |true=>rw[if_pos rfl,if_pos rfl,zaw,Nat.add_comm]
 |false=>rw[if_neg zam,if_neg zam,Nat.zero_add]
theorem G2:∀l:List Str,x∉l->mk l (aW Q0 x r)=mk l Q0
 | [],_=>rfl
 |y::l,h=>by
  rw[iu,iu,G2 l λz=>h<|zak _ z,aI _ _ λz=>h (by rw[z];exact zas)]
theorem Ak{Q0:Str->aG.Row}{x:Str}{r:aG.Row}:∀l:List Str,l.Nodup->x∈l->mk l (aW Q0 x r)+b1 (Q0 x).mark=mk l Q0+b1 r.mark
 | [],_,h=>by cases h
 |y::l,nd,h=>by
  rw[iu,iu];obtain⟨n1,n2⟩:=List.nodup_cons.mp nd
  by_cases e:y=x
  ·subst e
   rw[aO,G2 l n1];lia
  ·have:=Ak (Q0:=Q0) (r:=r) l n2 ((zaf h).resolve_left λz=>e z.symm)
   rw[aI _ _ e];lia
theorem G3(nd:U0.Nodup)(hn:n∈U0)(ha:a∈U0)(ne:a≠n):mk U0 (cX Q0 n a)+b1 (Q0 n).mark+b1 (Q0 a).mark=mk U0 Q0+b1 (Q0 a).above.isSome:=by
 have e:=Ak (Q0:=Q0) (x:=n) (r:=⟨(Q0 n).key,none,false,(Q0 n).below⟩) U0 nd hn;have b:=Ak (Q0:=eY Q0 n) (x:=a) (r:=⟨(eY Q0 n a).key,(eY Q0 n a).above,(eY Q0 n a).above.isSome,(eY Q0 n a).below.filter λx=>!decide (x=n)⟩) U0 nd ha
 rw[DX ne]at b;dsimp only at e b;have d:(eY Q0 n a).above=(Q0 a).above:=by rw[kA,if_neg ne]
 rw[d]at b;have f:mk U0 (cX Q0 n a)=mk U0 (aW (eY Q0 n) a ⟨(eY Q0 n a).key,(Q0 a).above,(Q0 a).above.isSome,(eY Q0 n a).below.filter λx=>!decide (x=n)⟩):=by
  unfold cX;rw[d]
 have g:mk U0 (eY Q0 n)=mk U0 (aW Q0 n ⟨(Q0 n).key,none,false,(Q0 n).below⟩):=rfl;rw[f];have:b1 false=0:=rfl
 lia
theorem Li(b:Bool):b1 b<=1:=by unfold b1;split<;>lia
theorem Ce:∀(C av:List Str) (Q0:Str->aG.Row) (n L:Str),Bt K c av U0 Q0->n∈U0->Ch Q0 n C L->mk U0 (cuts C Q0)+C.length+b1 (Q0 n).mark<=mk U0 Q0+2:=by
 intro C
 induction C with
 |nil=>intro av Q0 n L _ _ d;cases d
 |cons x C g=>
  intro av Q0 n L h hn d;cases d with
  |one ha hm=>
   have e:=G3 (Q0:=Q0) h.nd hn (h.ab x hn _ ha) (h.neA hn ha);rw[dQ ha];have:=Li (Q0 L).above.isSome;rw[za7];show mk U0 (cX Q0 x L)+1+_<=_
   lia
  |more ha hm d=>
   rename_i a
   have f:=h.ab x hn a ha;have ne:=h.neA hn ha;have e:=G3 (Q0:=Q0) h.nd hn f ne;rw[dQ ha,zaw];have i:=g (av++[x]) (cX Q0 x a) a L (h.cut hn ha) f (Ch.cut h hn ha d);have hs:(Q0 a).above.isSome=true:=by
    cases e:(Q0 a).above with
    |none=>exact absurd e (h.mkd a f hm)
    |some b=>rfl
   have em:(cX Q0 x a a).mark=true:=by
    unfold cX;rw[aO];show(eY Q0 x a).above.isSome=true;rw[kA,if_neg ne];exact hs
   rw[em]at i;rw[hm,hs]at e;have:b1 true=1:=rfl
   lia
end
theorem NI{n:Nat}(h:IE a ρ (n:Int))(hn:n<=100000):zJ (aB a aZ) ρ=some ((List.range n).map (λk:Nat=>PyData.int (k:Int)),ρ):=by
 rw[MX (j:=(n:Int)) (k:=.fz) (xN h a9) ⟨by lia,by lia⟩,Int.toNat_natCast,FG]
theorem oq{a:PM}(h:a ρ=some ((bH r,.fz),ρ)):IE (mCB gv<|aB (mOp gIx a<|mC<|.int 3) aZ) ρ (r.below.length:Int):=eg (rs:=[(.tuple<|r.below.map .str,.fz)]) (Q1:=(.int (r.below.length:Int),false)) (aK (ar<|iD h) a9) (by show some (PyData.int ((r.below.map PyData.str).length:Int),false)=_;rw[zal])
theorem Bt.more(h:Bt K c av U0 Q0)(hd:c<=d):Bt K d av U0 Q0 :=
 ⟨h.nd,λn hn=>by obtain⟨i,hi,e⟩:=h.nm n hn;exact⟨i,by lia,e⟩,h.tn,h.tk,h.ne,h.mkd,h.ab,λn hn=>⟨by have:=(h.bl n hn).1;lia,(h.bl n hn).2⟩,h.ho⟩
theorem cJ(ne:on≠name):bI Q0 name on on=⟨(Q0 on).key,(Q0 on).above,(Q0 on).mark,(Q0 on).below++[name]⟩:=by
 unfold bI;rw[aO,aI _ _ ne]
theorem cb(ne:on≠name):bI Q0 name on name=⟨(Q0 name).key,some on,false,(Q0 name).below⟩:=by
 unfold bI;rw[aI _ _ λz=>ne z.symm,aO]
theorem cg(I:n≠on)(M:n≠name):bI Q0 name on n=Q0 n:=by
 unfold bI;rw[aI _ _ I,aI _ _ M]
theorem qr(ne:on≠name)(n:Str):(bI Q0 name on n).key=(Q0 n).key:=by
 by_cases e:n=on
 ·subst e;rw[cJ ne]
 ·by_cases a:n=name
  ·subst a;rw[cb ne]
  ·rw[cg e a]
theorem Bt.hung(h:Bt K c av U0 Q0)(hn:name∈av)(ho:on∈av)(ne:on≠name)(I:aR (K on) on (K name) name=true):Bt K (c+1) (av.erase name) U0 (bI Q0 name on):=by
 have hk:=(h.tk name hn).1;have ok:=(h.tk on ho).1;refine⟨h.nd,(h.more<|Nat.le_succ c).nm,h.tn.erase _,λt k=>?_,λm hm e=>?_,λn d hm=>?_,λn d a ha=>?_,λn d=>?_,λn d a ha=>?_⟩
 ·obtain⟨j,i⟩:=(za9 h.tn).mp k
  refine⟨(h.tk t i).1,?_⟩
  by_cases e:t=on
  ·subst e;rw[cJ ne];exact(h.tk t i).2
  ·rw[cg e j];exact(h.tk t i).2
 ·refine(za9 h.tn).mpr ⟨λz=>?_,h.ne m hm ?_⟩
  ·rw[z,cb ne]at e;cases e
  ·by_cases z:m=on
   ·rw[z,cJ ne]at e;rw[z];exact e
   ·by_cases w:m=name
    ·rw[w,cb ne]at e;cases e
    ·rw[cg z w]at e;exact e
 ·by_cases e:n=on
  ·subst e;rw[cJ ne]at hm⊢;exact h.mkd n d hm
  ·by_cases f:n=name
   ·subst f;rw[cb ne]at hm;cases hm
   ·rw[cg e f]at hm⊢;exact h.mkd n d hm
 ·by_cases e:n=on
  ·subst e;rw[cJ ne]at ha;exact h.ab n d a ha
  ·by_cases f:n=name
   ·subst f;rw[cb ne]at ha;cases ha;exact ok
   ·rw[cg e f]at ha;exact h.ab n d a ha
 ·by_cases e:n=on
  ·subst e
   rw[cJ ne];refine⟨?_,λb g=>?_⟩
   ·show((Q0 n).below++[name]).length<=c+1
    rw[zau,za7];have:=(h.bl n d).1
    lia
   ·rcases zae (show b∈(Q0 n).below++[name]from g)with g|g
    ·exact(h.bl n d).2 b g
    ·rw[zad g];exact hk
  ·by_cases f:n=name
   ·subst f;rw[cb ne];exact⟨Nat.le_succ_of_le (h.bl n d).1,(h.bl n d).2⟩
   ·rw[cg e f];exact⟨by have:=(h.bl n d).1;lia,(h.bl n d).2⟩
 ·by_cases e:n=on
  ·subst e;rw[cJ ne]at ha;exact h.ho n d a ha
  ·by_cases f:n=name
   ·subst f;rw[cb ne]at ha;cases ha;exact I
   ·rw[cg e f]at ha;exact h.ho n d a ha
theorem Bt.zY(I:c<C)(h:Bt K C av U0 Q0)(hn:aT c∉U0)(v:Int):Bt (λn=>if n=aT c then v else K n) C (av++[aT c]) (U0++[aT c]) (aW Q0 (aT c) ⟨v,none,false,[]⟩):=by
 refine⟨?_,λn d=>?_,?_,λt p=>?_,λm hm e=>?_,λn d hm=>?_,λn d a ha=>?_,λn d=>?_,λn d a ha=>?_⟩
 ·rw[List.nodup_append]
  exact⟨h.nd,by simp,λx f y l=>by rw[zad l];exact λe=>hn (by rw[<-e];exact f)⟩
 ·rcases zae d with f|f
  ·obtain⟨i,hi,e⟩:=h.nm n f;exact⟨i,by lia,e⟩
  ·exact⟨c,by lia,zad f⟩
 ·rw[List.nodup_append]
  exact⟨h.tn,by simp,λx f y l=>by rw[zad l];exact λe=>hn (by rw[<-e];exact(h.tk x f).1)⟩
 ·rcases zae p with f|f
  ·refine⟨zaW _ (h.tk t f).1,?_⟩
   rw[aI _ _ λz=>hn (by rw[<-z];exact(h.tk t f).1)]
   exact(h.tk t f).2
  ·rw[zad f,aO]
   exact⟨by simp,rfl⟩
 ·by_cases z:m=aT c
  ·rw[z];simp
  ·rw[aI _ _ z]at e
   exact zaW _ (h.ne m ((zae hm).resolve_right λw=>z<|zad w) e)
 ·by_cases e:n=aT c
  ·subst e;rw[aO]at hm;cases hm
  ·rw[aI _ _ e]at hm⊢
   exact h.mkd n ((zae d).resolve_right λz=>e<|zad z) hm
 ·by_cases e:n=aT c
  ·subst e;rw[aO]at ha;cases ha
  ·rw[aI _ _ e]at ha
   exact zaW _ (h.ab n ((zae d).resolve_right λz=>e<|zad z) a ha)
 ·by_cases e:n=aT c
  ·subst e;rw[aO];exact⟨Nat.zero_le _,λb g=>by cases g⟩
  ·rw[aI _ _ e]
   have o:=h.bl n ((zae d).resolve_right λz=>e<|zad z)
   exact⟨by have:=o.1;lia,λb g=>zaW _<|o.2 b g⟩
 ·by_cases e:n=aT c
  ·subst e;rw[aO]at ha;cases ha
  ·rw[aI _ _ e]at ha
   have hk:=(zae d).resolve_right λz=>e (zad z)
   rw[if_neg e,if_neg λz=>hn (by rw[<-z];exact h.ab n hk a ha)]
   exact h.ho n hk a ha
abbrev Bk(c:Nat)(av U0:List Str)(Q0:Str->aG.Row):Prop:=Bt (λn=>(Q0 n).key) c av U0 Q0
theorem Bt.re(h:Bt K c av U0 Q0)(e:∀n∈U0,K n=(Q0 n).key):Bk c av U0 Q0 :=
 ⟨h.nd,h.nm,h.tn,h.tk,h.ne,h.mkd,h.ab,h.bl,λn hn a ha=>by rw[<-e n hn,<-e a (h.ab n hn a ha)];exact h.ho n hn a ha⟩
theorem Bk.zY(I:c<C)(h:Bk C av U0 Q0)(hn:aT c∉U0)(v:Int):Bk C (av++[aT c]) (U0++[aT c]) (aW Q0 (aT c) ⟨v,none,false,[]⟩) :=
 (Bt.zY I h hn v).re λn _=>by
  by_cases e:n=aT c
  ·subst e;rw[aO,if_pos rfl]
  ·rw[aI _ _ e,if_neg e]
theorem jN:∀l:List Str,a8 (l.map .str)=true
 | []=>rfl
 |x::l=>by
  show(dZ (.str x)&&a8 (l.map .str))=true;rw[jN l];rfl
theorem Cf(h:Is ρ i<|TD l):IE (mCB gv<|aB (ai i) aZ) ρ (l.length:Int):=by
 have:=NC h
 rwa[zal]at this
def gf:Nat->Nat×Nat
 |0=>(1,1)
 |n+1=>((gf n).2+(gf n).1,(gf n).1)
def gd(d:Nat):Nat:=(gf d).1
theorem ot(d:Nat):gd (d+1)=gd d+gd (d-1):=by
 unfold gd;cases d with
 |zero=>rfl
 |succ d=>show(gf<|d+1).2+(gf<|d+1).1=_;rw[Nat.add_comm];rfl
theorem NJ(d:Nat) : 0<gd d:=by
 induction d with
 |zero=>decide
 |succ d a=>rw[ot];lia
theorem Cg(h:a<=b):gd a<=gd b:=by
 induction h with
 |refl=>exact zap _
 |step h c=>rw[ot];lia
inductive Up(Q0:Str->aG.Row):Str->Str->Prop
 |refl (m:Str):Up Q0 m m
 |step {m a n:Str}:(Q0 m).above=some a->Up Q0 a n->Up Q0 m n
theorem Up.lin(I:Up Q0 m x):∀{y:Str},Up Q0 m y->Up Q0 x y\/Up Q0 y x:=by
 induction I with
 |refl m=>exact λa=>.inl a
 |step e h c=>
  intro y a;cases a with
  |refl=>exact .inr (.step e h)
  |step b a=>rw[e]at b;cases b;exact c a
theorem Up.trans(M:Up Q0 m x)(I:Up Q0 x y):Up Q0 m y:=by
 induction M with
 |refl m=>exact I
 |step e h l=>exact .step e (l I)
section
variable{K:Str->Int}{c:Nat}{av U0:List Str}{Q0:Str->aG.Row}
theorem Up.ord(h:Bt K c av U0 Q0)(u:Up Q0 m n):m∈U0->n∈U0/\(m=n\/aR (K n) n (K m) m=true):=by
 induction u with
 |refl m=>exact λhm=>⟨hm,.inl rfl⟩
 | @step m a n e u f=>
  intro hm;obtain⟨d,b⟩:=f (h.ab m hm a e);refine⟨d,.inr ?_⟩;have l:=h.ho m hm a e;rcases b with rfl|b
  ·exact l
  ·exact eG b l
structure Fm(U0:List Str)(Q0:Str->aG.Row):Prop where
 nd:∀n∈U0,(Q0 n).below.Nodup
 up:∀n∈U0,∀b∈(Q0 n).below,b∈U0/\(Q0 b).above=some n
 dn:∀m∈U0,∀a,(Q0 m).above=some a->m∈(Q0 a).below
 dg:∀n∈U0,∀(i:Nat) (b:Str),(Q0 n).below[i]?=some b->i<=(Q0 b).below.length+b1 (Q0 b).mark
open Classical in
def cm(U0:List Str)(Q0:Str->aG.Row)(n:Str):List Str:=U0.filter λm=>decide (Up Q0 m n)
open Classical in
theorem pT:m∈cm U0 Q0 n↔m∈U0/\Up Q0 m n:=by
 unfold cm;rw[List.mem_filter];exact⟨λh=>⟨h.1,of_decide_eq_true h.2⟩,λh=>⟨h.1,zaH h.2⟩⟩
theorem G4(h:Bt K c av U0 Q0)(I:b∈U0)(hn:n∈U0)(e:(Q0 b).above=some n) : ¬Up Q0 n b:=λu=>by
 have l:=h.ho b I n e;rcases(u.ord h hn).2 with rfl|l2
 ·rw[ku]at l;cases l
 ·have:=eG l l2
  rw[ku]at this;cases this
theorem sC{f:Str->List Str}:∀l:List Str,l.Nodup->(∀x∈l,(f x).Nodup)->(∀x∈l,∀y∈l,x≠y->∀z,z∈f x->z∈f y->False)->(l.flatMap f).Nodup
 | [],_,_,_=>List.nodup_nil
 |x::l,nd,h,i=>by
  obtain⟨n1,n2⟩:=List.nodup_cons.mp nd;rw[List.flatMap_cons,List.nodup_append];refine⟨h x zas,sC l n2 (λy d=>h y<|zak _ d) λy d z g=>i y (zak _ d) z<|zak _ g,λa ha b j e=>?_⟩
  subst e;obtain⟨y,d,g⟩:=List.mem_flatMap.mp j;exact i x zas y (zak _ d) (λe=>n1<|e▸d) a ha g
theorem G5(h:Bt K c av U0 Q0)(f:Fm U0 Q0)(hn:n∈U0) : 1+((Q0 n).below.map λb=>(cm U0 Q0 b).length).sum<=(cm U0 Q0 n).length:=by
 have nd:(n::(Q0 n).below.flatMap (cm U0 Q0)).Nodup:=by
  refine List.nodup_cons.mpr ⟨λz=>?_,sC _ (f.nd n hn) (λb _=>h.nd.sublist List.filter_sublist) λb1 d b2 g ne m i j=>?_⟩
  ·obtain⟨b,a,l⟩:=List.mem_flatMap.mp z
   obtain⟨hk,e⟩:=f.up n hn b a;exact G4 h hk hn e (pT.mp l).2
  ·obtain⟨k1,o⟩:=f.up n hn b1 d
   obtain⟨q,p⟩:=f.up n hn b2 g;rcases(pT.mp i).2.lin (pT.mp j).2 with u|u
   ·cases u with
    |refl=>exact ne rfl
    |step e u=>rw[o]at e;cases e;exact G4 h q hn p u
   ·cases u with
    |refl=>exact ne rfl
    |step e u=>rw[p]at e;cases e;exact G4 h k1 hn o u
 have:=aG.g8 _ (cm U0 Q0 n) nd λx k=>by
  rcases zaf k with rfl|k
  ·exact pT.mpr ⟨hn,.refl _⟩
  ·obtain⟨b,a,l⟩:=List.mem_flatMap.mp k
   obtain⟨hk,e⟩:=f.up n hn b a;obtain⟨r,s⟩:=pT.mp l;exact pT.mpr ⟨r,s.trans<|.step e<|.refl _⟩
 rw[zaw,List.length_flatMap]at this
 lia
theorem G6:∀(l:List Str) (i:Nat),(∀(j:Nat) (b:Str),l[j]?=some b->gd (i+j-1)<=w b)->gd (i+l.length)<=gd i+(l.map w).sum
 | [],i,_=>by simp
 |b::l,i,h=>by
  have a:=h 0 b rfl;have d:=G6 l (i+1) λj x e=>by
   have:=h (j+1) x (by simpa using e)
   rw[show i+1+j-1=i+(j+1)-1 by lia];exact this
  rw[zaw,zaz,List.sum_cons,show i+(l.length+1)=i+1+l.length by lia]
  rw[ot]at d;simp only[Nat.add_zero]at a
  lia
theorem G7{w:Str->Nat}{b:Str}:∀l:List Str,b∈l->w b<=(l.map w).sum
 |x::l,h=>by
  rw[zaz,List.sum_cons];rcases zaf h with rfl|h
  ·lia
  ·have:=G7 (w:=w) l h;lia
theorem JZ(h:Bt K c av U0 Q0)(f:Fm U0 Q0):∀(m:Nat) (n:Str),n∈U0->(cm U0 Q0 n).length<=m->gd (Q0 n).below.length<=(cm U0 Q0 n).length:=by
 intro m
 induction m with
 |zero=>
  intro n hn hm;have:=G5 h f hn
  lia
 |succ m i=>
  intro n hn hm;have hs:=G5 h f hn;have:=G6 (w:=λb=>(cm U0 Q0 b).length) (Q0 n).below 0 λj b e=>by
   have a:=f.up n hn b (zaj e);have d:(cm U0 Q0 b).length<=((Q0 n).below.map λb=>(cm U0 Q0 b).length).sum:=G7 (w:=λb=>(cm U0 Q0 b).length) _ (zaj e)
   have g:=i b a.1 (by lia)
   have d1:=f.dg n hn j b e;have:=Li (Q0 b).mark;exact zaX (Cg (by lia)) g
  rw[Nat.zero_add]at this;have:gd 0=1:=rfl
  lia
def NK(h:Bt K c av U0 Q0)(f:Fm U0 Q0)(hn:n∈U0):gd (Q0 n).below.length<=U0.length :=
 zaX (JZ h f _ n hn<|zap _) (zaY _ _)
theorem Fm.zero(Q0:Str->aG.Row):Fm [] Q0:=⟨(λn hn=>by cases hn),(λn hn=>by cases hn),(λn hn=>by cases hn),λn hn=>by cases hn⟩
theorem Fm.new(f:Fm U0 Q0)(ab:∀n∈U0,∀a,(Q0 n).above=some a->a∈U0)(I:x∉U0)(v:Int):Fm (U0++[x]) (aW Q0 x ⟨v,none,false,[]⟩):=by
 have ne:∀{n:Str},n∈U0->n≠x:=fun{n} hn e=>I (e▸hn)
 have g:∀{n:Str},n∈U0++[x]->n≠x->n∈U0:=fun{n} hn e=>(zae hn).resolve_right λz=>e (zad z)
 refine⟨λn hn=>?_,λn hn b h=>?_,λm hm a e=>?_,λn hn i b e=>?_⟩
 ·by_cases e:n=x
  ·subst e;rw[aO];exact List.nodup_nil
  ·rw[aI _ _ e];exact f.nd n (g hn e)
 ·by_cases e:n=x
  ·subst e;rw[aO]at h;cases h
  ·rw[aI _ _ e]at h
   obtain⟨l,s⟩:=f.up n (g hn e) b h;rw[aI _ _<|ne l];exact⟨zaW _ l,s⟩
 ·by_cases z:m=x
  ·subst z;rw[aO]at e;cases e
  ·rw[aI _ _ z]at e
   rw[aI _ _<|ne<|ab m (g hm z) a e];exact f.dn m (g hm z) a e
 ·by_cases z:n=x
  ·subst z;rw[aO]at e;simp at e
  ·rw[aI _ _ z]at e
   have h:=f.up n (g hn z) b (zaj e);rw[aI _ _<|ne h.1];exact f.dg n (g hn z) i b e
theorem Fm.hung(f:Fm U0 Q0)(M:x∈U0)(U:y∈U0)(ne:y≠x)(I:(Q0 x).above=none)(O:(Q0 x).below.length=(Q0 y).below.length):Fm U0 (bI Q0 x y):=by
 have g:∀{n:Str},n≠y->(bI Q0 x y n).below=(Q0 n).below:=fun{n} e=>by
  by_cases z:n=x
  ·subst z;rw[cb ne]
  ·rw[cg e z]
 have h:(bI Q0 x y y).below=(Q0 y).below++[x]:=by rw[cJ ne]
 have t:∀{n:Str},n≠x->(bI Q0 x y n).above=(Q0 n).above:=fun{n} e=>by
  by_cases z:n=y
  ·subst z;rw[cJ ne]
  ·rw[cg z e]
 have u:(bI Q0 x y x).above=some y:=by rw[cb ne]
 have B:∀{n:Str},n≠x->(bI Q0 x y n).mark=(Q0 n).mark:=fun{n} e=>by
  by_cases z:n=y
  ·subst z;rw[cJ ne]
  ·rw[cg z e]
 have nb:∀n∈U0,x∉(Q0 n).below:=λn hn z=>by
  rw[(f.up n hn x z).2]at I;cases I
 have o:∀n∈U0,∀b∈(Q0 n).below,b∈U0/\(bI Q0 x y b).above=some n:=λn hn b d=>by
  obtain⟨r,s⟩:=f.up n hn b d;exact⟨r,by rw[t λe=>nb n hn<|e▸d];exact s⟩
 have dl:∀b:Str,(Q0 b).below.length<=(bI Q0 x y b).below.length:=λb=>by
  by_cases z:b=y
  ·subst z;rw[h,zau];lia
  ·rw[g z];exact zap _
 have j:∀n∈U0,∀(i:Nat) (b:Str),(Q0 n).below[i]?=some b->i<=(bI Q0 x y b).below.length+b1 (bI Q0 x y b).mark:=λn hn i b e=>by
  have r:=f.dg n hn i b e;have s:=dl b;rw[B λz=>nb n hn<|z▸zaj e]
  lia
 refine⟨λn hn=>?_,λn hn b d=>?_,λm hm a e=>?_,λn hn i b e=>?_⟩
 ·by_cases z:n=y
  ·subst z
   rw[h,List.nodup_append];exact⟨f.nd n hn,by simp,λp v q A=>by rw[zad A];exact λe=>nb n hn<|e▸v⟩
  ·rw[g z];exact f.nd n hn
 ·by_cases z:n=y
  ·subst z
   rw[h]at d;rcases zae d with d|d
   ·exact o n hn b d
   ·rw[zad d];exact⟨M,u⟩
  ·rw[g z]at d;exact o n hn b d
 ·by_cases z:m=x
  ·subst z
   rw[u]at e;cases e
   rw[h];simp
  ·rw[t z]at e
   have:=f.dn m hm a e
   by_cases w:a=y
   ·subst w;rw[h];exact zaW _ this
   ·rw[g w];exact this
 ·by_cases z:n=y
  ·subst z
   rw[h]at e
   by_cases l:i<(Q0 n).below.length
   ·rw[zax l]at e;exact j n hn i b e
   ·rw[zaN (by lia)]at e
    cases q:i-(Q0 n).below.length with
    |zero=>
     rw[q]at e;simp at e;subst e;rw[g λw=>ne w.symm]
     lia
    |succ k=>rw[q]at e;simp at e
  ·rw[g z]at e;exact j n hn i b e
structure FmX(U0:List Str)(Q0:Str->aG.Row)(x:Str):Prop where
 nd:∀n∈U0,(Q0 n).below.Nodup
 up:∀n∈U0,∀b∈(Q0 n).below,b∈U0/\(Q0 b).above=some n
 dn:∀m∈U0,∀a,(Q0 m).above=some a->m∈(Q0 a).below
 dg:∀n∈U0,∀(i:Nat) (b:Str),(Q0 n).below[i]?=some b->b≠x->i<=(Q0 b).below.length+b1 (Q0 b).mark
theorem Fm.x(f:Fm U0 Q0)(x:Str):FmX U0 Q0 x:=⟨f.nd,f.up,f.dn,λn hn i b e _=>f.dg n hn i b e⟩
theorem yT:∀l:List Str,l.Nodup->n∈l->(l.filter λx=>!decide (x=n)).length+1=l.length
 |y::l,nd,h=>by
  obtain⟨n1,n2⟩:=List.nodup_cons.mp nd;rw[List.filter_cons]
  by_cases e:y=n
  ·subst e
   rw[if_neg (by simp),zaw,List.filter_eq_self.mpr λx a=>by
    have:x≠y:=λe=>n1 (e▸a)
    simpa using this]
  ·rw[if_pos (by simpa using e),zaw,zaw,yT l n2<|(zaf h).resolve_left λz=>e z.symm]
theorem we:∀(l:List Str) (i:Nat) (b:Str),(l.filter p)[i]?=some b->∃j,i<=j/\l[j]?=some b
 | [],i,b,h=>by simp at h
 |y::l,i,b,h=>by
  rw[List.filter_cons]at h;split at h
  ·cases i with
   |zero=>exact⟨0,zap _,by simpa using h⟩
   |succ i=>
    obtain⟨j,d,a⟩:=we l i b (by simpa using h)
    exact⟨j+1,by lia,by simpa using a⟩
  ·obtain⟨j,d,a⟩:=we l i b h
   exact⟨j+1,by lia,by simpa using a⟩
theorem FmX.cut(f:FmX U0 Q0 n)(sa:∀m∈U0,(Q0 m).above≠some m)(hn:n∈U0)(hk:a∈U0)(ha:(Q0 n).above=some a)(ne:a≠n):FmX U0 (cX Q0 n a) a/\((Q0 a).mark=false->Fm U0 (cX Q0 n a)):=by
 have ca:∀{m:Str},m≠n->(cX Q0 n a m).above=(Q0 m).above:=fun{m} e=>by rw[c8,if_neg e]
 have p:(cX Q0 n a a).below=(Q0 a).below.filter λx=>!decide (x=n):=by
  unfold cX eY;rw[aO,aI _ _ ne]
 have h:∀{m:Str},m≠a->(cX Q0 n a m).below=(Q0 m).below:=fun{m} e=>by
  unfold cX eY;rw[aI _ _ e]
  by_cases z:m=n
  ·subst z;rw[aO]
  ·rw[aI _ _ z]
 have sub:∀{m b:Str},m∈U0->b∈(cX Q0 n a m).below->b∈(Q0 m).below/\b≠n:=fun{m b} hm g=>by
  by_cases e:m=a
  ·subst e
   rw[p]at g;obtain⟨l,q⟩:=List.mem_filter.mp g;exact⟨l,by simpa using q⟩
  ·rw[h e]at g
   refine⟨g,λz=>?_⟩
   subst z;rw[(f.up m hm b g).2]at ha;cases ha;exact e rfl
 have dl:=yT (n:=n) (Q0 a).below (f.nd a hk) (f.dn n hn a ha);have o:FmX U0 (cX Q0 n a) a:=by
  refine⟨λm hm=>?_,λm hm b g=>?_,λm hm x e=>?_,λm hm i b e nb=>?_⟩
  ·by_cases e:m=a
   ·subst e;rw[p];exact(f.nd m hm).sublist List.filter_sublist
   ·rw[h e];exact f.nd m hm
  ·obtain⟨l,q⟩:=sub hm g
   rw[ca q];exact f.up m hm b l
  ·by_cases z:m=n
   ·subst z;rw[c8,if_pos rfl]at e;cases e
   ·rw[ca z]at e
    have:=f.dn m hm x e
    by_cases w:x=a
    ·subst w;rw[p];exact List.mem_filter.mpr ⟨this,by simpa using z⟩
    ·rw[h w];exact this
  ·have g:=(sub hm<|zaj e).2
   have key:∀j,i<=j->(Q0 m).below[j]?=some b->i<=(cX Q0 n a b).below.length+b1 (cX Q0 n a b).mark:=λj v s=>by
    have:=f.dg m hm j b s g;rw[h nb,uO g nb];lia
   by_cases z:m=a
   ·subst z
    rw[p]at e;obtain⟨j,l,q⟩:=we _ i b e;exact key j l q
   ·rw[h z]at e;exact key i (zap _) e
 refine⟨o,λhm=>⟨o.nd,o.up,o.dn,λm d i b e=>?_⟩⟩
 by_cases nb:b=a
 ·subst nb
  have t:=o.up m d b (zaj e);have hs:(cX Q0 n b b).mark=true:=by
   unfold cX;rw[aO];show(eY Q0 n b).above.isSome=true;rw[kA,if_neg ne,<-ca ne,t.2];rfl
  have mb:m≠b:=λz=>by
   subst z;exact sa m d (f.up m d m (sub d<|zaj e).1).2
  rw[h mb]at e;have:=f.dg m d i b e (λz=>ne z)
  rw[p,hs];rw[hm]at this;have l:b1 true=1:=rfl;have u:b1 false=0:=rfl
  lia
 ·exact o.dg m d i b e nb
theorem Fm.cuts:∀(C av:List Str) (Q0:Str->aG.Row) (n L:Str),Bt K c av U0 Q0->n∈U0->FmX U0 Q0 n->Ch Q0 n C L->Fm U0 (cuts C Q0):=by
 intro C
 induction C with
 |nil=>intro av Q0 n L _ _ _ d;cases d
 |cons x C l=>
  intro av Q0 n L h hn f d;have sa:∀m∈U0,(Q0 m).above≠some m:=λm hm e=>h.neA hm e rfl
  cases d with
  |one ha hm=>
   rw[dQ ha];exact(f.cut sa hn (h.ab x hn _ ha) ha<|h.neA hn ha).2 hm
  |more ha hm d=>
   rename_i a
   have j:=h.ab x hn a ha;rw[dQ ha];exact l (av++[x]) (cX Q0 x a) a L (h.cut hn ha) j (f.cut sa hn j ha<|h.neA hn ha).1 (Ch.cut h hn ha d)
end
theorem yU(f:Option Str):o7 (iU f) .none=some (.bool f.isSome,false):=by cases f<;>rfl
theorem sD(f:Option Str):gIs (iU f) .none=some (.bool f.isNone,false):=by cases f<;>rfl
theorem yV(l:List Str)(x:Str):l.map PyData.str++[.str x]=(l++[x]).map .str:=by rw[za1];rfl
theorem G8{l:List D}{k:Kd}(M:sv a ρ=some ((.tuple l,k),I)):C7 a ρ=some (l,I):=by
 unfold C7;rw[M];rfl
theorem Bt.zero(Q0:Str->aG.Row):Bk 0 [] [] Q0:=⟨by simp,(λn hn=>by cases hn),by simp,(λn hn=>by cases hn),(λn hn=>by cases hn),(λn hn=>by cases hn),(λn hn=>by cases hn),(λn hn=>by cases hn),λn hn=>by cases hn⟩
theorem G9(I:ds.length=n)(M:b (ds.map .fz++List.replicate k .no)=some w):fnD n k b ds=some w:=by unfold fnD;rw[if_pos I,M]
theorem jO(I:a ρ=some (.nx ρ1))(M:b ρ1=o):nN a b ρ=o:=by unfold nN;rw[I,zai];exact M
def names(c:Nat):List Str:=(List.range c).map aT
structure Gp(o:Str->Prop)(c:Nat)(Q0:Str->aG.Row):Prop where
 ab:∀i,i<c->∀a,(Q0<|aT i).above=some a->(∃j,j<c/\a=aT j)/\(Q0 a).key<(Q0<|aT i).key
 mkd:∀i,i<c->(Q0<|aT i).mark=true->(Q0<|aT i).above≠none
 bl:∀i,i<c->(Q0<|aT i).below.length<=c/\∀b∈(Q0<|aT i).below,(∃j,j<c/\b=aT j)/\(Q0 b).above=some (aT i)
 nd:∀i,i<c->(Q0<|aT i).below.Nodup
 dg:∀i,i<c->∀(p:Nat) (b:Str),(Q0<|aT i).below[p]?=some b->p<=(Q0 b).below.length+b1 (Q0 b).mark
 dn:∀i,i<c->∀a,(Q0<|aT i).above=some a->¬o a->aT i∈(Q0 a).below
theorem mw(hi:i<600)(I:j<600)(e:aT i=aT j):i=j:=by
 rcases Nat.lt_trichotomy i j with h|h|h
 ·exact absurd e.symm (sf j (by lia) i h)
 ·exact h
 ·exact absurd e (sf i (by lia) j h)
theorem Ha(ns:List Int)(lo hi:Nat):∃I:List Int,cutD (ns.map .int) (some (lo:Int)) (some (hi:Int))=I.map .int/\I.length<=hi-lo/\∀c∈I,c∈ns:=by
 unfold cutD;refine⟨(ns.drop<|HT.sIx (ns.map PyData.int).length 0<|some (lo:Int)).take<|HT.sIx (ns.map PyData.int).length (ns.map PyData.int).length (some (hi:Int))-HT.sIx (ns.map PyData.int).length 0 (some (lo:Int)),by rw[List.map_take,List.map_drop],?_,λc a=>List.mem_of_mem_drop<|List.mem_of_mem_take a⟩
 rw[List.length_take,List.length_drop];simp only[HT.sIx,List.length_map];rw[if_neg (by lia),if_neg (by lia),Int.toNat_natCast,Int.toNat_natCast]
 refine zaX (Nat.min_le_left _ _) ?_;rcases Nat.le_total lo ns.length with h|h
 ·rw[Nat.min_eq_left h];exact Nat.sub_le_sub_right (Nat.min_le_left _ _) _
 ·rw[Nat.min_eq_right h,Nat.sub_eq_zero_of_le<|Nat.min_le_right _ _];exact Nat.zero_le _
inductive Hs:List Str->(Str->aG.Row)->List (Str×Str)->List Str->(Str->aG.Row)->Prop
 |nil {T:List Str} {Q0:Str->aG.Row}:Hs T Q0 [] T Q0
 |cons {T T':List Str} {Q0 aV:Str->aG.Row} {x y:Str} {r:List (Str×Str)}:x∈T->y∈T->y≠x->aR (Q0 y).key y (Q0 x).key x=true->(Q0 x).below.length=(Q0 y).below.length->Hs (T.erase x) (bI Q0 x y) r T' aV->Hs T Q0 ((x,y)::r) T' aV
theorem Hs.snoc(h:Hs T Q0 r T' aV)(M:x∈T')(O:y∈T')(ne:y≠x)(lt:aR (aV y).key y (aV x).key x=true)(I:(aV x).below.length=(aV y).below.length):Hs T Q0 (r++[(x,y)]) (T'.erase x) (bI aV x y):=by
 induction h with
 |nil=>exact .cons M O ne lt I .nil
 |cons a b c d e _ f=>exact .cons a b c d e (f M O lt I)
theorem Hs.len(h:Hs T Q0 r T' aV):T'.length+r.length=T.length:=by
 induction h with
 |nil=>rfl
 |cons a b c d e _ f=>
  rw[List.length_erase_of_mem a]at f;have:=List.length_pos_of_mem a;rw[zaw];lia
theorem Hs.sub(h:Hs T Q0 r T' aV)(nd:T.Nodup):T'.Nodup/\(∀t∈T',t∈T)/\∀m,m∉T->aV m=Q0 m:=by
 induction h with
 |nil=>exact⟨nd,λt f=>f,λ_ _=>rfl⟩
 | @cons T T' Q0 aV x y r a b c d e _ u=>
  obtain⟨l,p,h3⟩:=u (nd.erase _);refine⟨l,λt f=>List.mem_of_mem_erase<|p t f,λm hm=>?_⟩
  rw[h3 m λz=>hm<|List.mem_of_mem_erase z,cg (λz=>hm (by rw[z];exact b)) λz=>hm (by rw[z];exact a)]
theorem Hs.av(h:Hs T Q0 r T' aV)(nd:T.Nodup)(ha:∀t∈T,(Q0 t).above=none):T'=T.filter (λt=>(aV t).above.isNone):=by
 induction h with
 |nil=>exact(List.filter_eq_self.mpr λt l=>by rw[ha t l];rfl).symm
 | @cons T T' Q0 aV x y r a b c d e hs D=>
  have nx:x∉T.erase x:=λz=>((za9 nd).mp z).1 rfl
  have C:(aV x).above=some y:=by rw[(hs.sub<|nd.erase _).2.2 x nx,cb c]
  rw[D (nd.erase _) λt l=>?_,List.Nodup.erase_eq_filter nd,List.filter_filter]
  ·refine List.filter_congr λt l=>?_
   by_cases z:t=x
   ·subst z;rw[C];rfl
   ·simp[z]
  ·obtain⟨E,A⟩:=(za9 nd).mp l
   by_cases w:t=y
   ·subst w;rw[cJ c];exact ha t A
   ·rw[cg w E];exact ha t A
section
variable{c:Nat}{av U0:List Str}{Q0:Str->aG.Row}
theorem Bt.Py(h:Bt K d av U0 Q0)(f:Fm U0 Q0)(nm:∀n∈U0,∃i,i<c/\n=aT i):Bt K c av U0 Q0:=by
 have kl:U0.length<=c:=by
  have:=aG.g8 U0 ((List.range c).map aT) h.nd λx a=>by
   obtain⟨i,hi,rfl⟩:=nm x a;exact List.mem_map_of_mem (List.mem_range.mpr hi)
  simpa using this
 exact⟨h.nd,nm,h.tn,h.tk,h.ne,h.mkd,h.ab,λn hn=>⟨zaX (aG.g8 _ U0 (f.nd n hn) (h.bl n hn).2) kl,(h.bl n hn).2⟩,h.ho⟩
theorem Bk.hang(h:Bk c av U0 Q0)(f:Fm U0 Q0)(I:x∈av)(M:y∈av)(ne:y≠x)(lt:aR (Q0 y).key y (Q0 x).key x=true)(O:(Q0 x).below.length=(Q0 y).below.length):Bk c (av.erase x) U0 (bI Q0 x y)/\Fm U0 (bI Q0 x y):=by
 have a:=f.hung (h.tk x I).1 (h.tk y M).1 ne (h.tk x I).2 O;exact⟨((Bt.hung h I M ne lt).Py a h.nm).re λn _=>(qr ne n).symm,a⟩
theorem Hs.inv(hs:Hs av Q0 r T' aV):Bk c av U0 Q0->Fm U0 Q0->Bk c T' U0 aV/\Fm U0 aV:=by
 induction hs with
 |nil=>exact λh f=>⟨h,f⟩
 |cons a b c' d e _ l=>exact λh f=>l (Bk.hang h f a b c' d e).1 (Bk.hang h f a b c' d e).2
theorem Hs.marks(hs:Hs av Q0 r T' aV):Bk c av U0 Q0->Fm U0 Q0->mk U0 aV=mk U0 Q0:=by
 induction hs with
 |nil=>exact λ_ _=>rfl
 | @cons T T' Q0 aV x y r a b c' d e _ l=>
  intro h f;rw[l (Bk.hang h f a b c' d e).1 (Bk.hang h f a b c' d e).2];unfold mk
  congr 1
  refine List.filter_congr λm hm=>?_
  by_cases z:m=y
  ·subst z;rw[cJ c']
  ·by_cases w:m=x
   ·subst w
    rw[cb c'];cases em:(Q0 m).mark with
    |false=>rfl
    |true=>exact absurd (h.tk m a).2 (h.mkd m (h.tk m a).1 em)
   ·rw[cg z w]
end
def alL(al:List<|Nat×Str):List (D×D):=al.map λp=>(PyData.int (p.1:Int),PyData.str p.2)
abbrev AL(al:List<|Nat×Str):D:=.dict (alL al)
theorem qQ(d:Nat):∀al:List (Nat×Str),d4 (alL al) (.inl (d:Int))=(al.lookup d).map .str
 | []=>rfl
 |(e,t)::al=>by
  show(if keyOf (.int (e:Int))=some (.inl (d:Int))then some (.str t)else d4 (alL al) (.inl (d:Int)))=_
  by_cases z:d=e
  ·subst z
   rw[if_pos<|show keyOf (PyData.int (d:Int))=some (.inl (d:Int))from rfl,za8,beq_self_eq_true];rfl
  ·rw[if_neg (λw=>z (by
    have:(e:Int)=(d:Int):=by injection w with w;injection w
    lia)),za8,beq_eq_false_iff_ne.mpr z,qQ d al]
theorem J0(d:Nat)(al:List<|Nat×Str):mP (alL al) (.inl (d:Int))=alL (al.filter λp=>decide<|p.1≠d):=by
 unfold mP alL;rw[List.filter_map]
 congr 1
 refine List.filter_congr λp _=>?_
 have:(keyOf (PyData.int (p.1:Int))≠some (Sum.inl (d:Int)))↔p.1≠d:=by
  refine⟨λh e=>h (by rw[e];rfl),λh w=>h ?_⟩
  have w':some (Sum.inl (p.1:Int):Key)=some (Sum.inl (d:Int)):=w;have:(p.1:Int)=(d:Int):=by injection w' with w;injection w
  lia
 exact decide_eq_decide.mpr this
theorem NN{al:List<|Nat×Str}(h:al.lookup d=none)(t:Str):putD (alL al) (.int (d:Int)) (.str t) (.inl (d:Int))=alL (al++[(d,t)]):=by
 unfold putD;rw[qQ,h];show(if false=true then _ else _)=_
 rw[if_neg zam];unfold alL;rw[za1];rfl
theorem Lj(d:Nat)(al:List<|Nat×Str):vI (.int (d:Int)) (AL al)=some (.bool (al.lookup d).isSome,false):=by
 show some (PyData.bool (d4 (alL al)<|.inl (d:Int)).isSome,false)=_;rw[qQ];cases al.lookup d<;>rfl
variable{U0:List Str}{Q0:Str->aG.Row}{av:List Str}{c:Nat}
theorem An(U0:List Str)(Q0:Str->aG.Row)(n:Str):nU (.str n) (HD U0 Q0)=some (.bool<|!decide (n∈U0),false):=by
 show some (PyData.bool<|!(d4 (cB U0 Q0)<|.inr n).isSome,false)=_;rw[gE]
 by_cases h:n∈U0
 ·rw[if_pos h,zaH h];rfl
 ·rw[if_neg h,zaO h];rfl
theorem g9(hn:n∈U0):bR [HD U0 Q0,.str n]=some (.tuple [.int (Q0 n).key,.str n],false) :=
 dY (o:=.rt (.tuple [.int (Q0 n).key,.str n],.fz) [.fz<|HD U0 Q0,.fz<|.str n]) rfl (ee<|j8 (rs:=[(.int (Q0 n).key,.fz),(.str n,.fz)]) (xN (mv<|dX (.inl rfl) hn<|aA rfl)<|aK (ar<|aA rfl) a9) rfl (by simp)) rfl
theorem NO{dv:PM}{e:PM}{ρ:Rho}{I:List D}(O:dv ρ=some ((HD U0 Q0,.fz),ρ))(Y:pJ ρ=true)(U:gY M e (fr.map λp=>bQ ρ p.2) (U0.map .str)=some I)(h3:I.length<=100000):tL fr dv M e ρ=some ((.list I,.new),ρ):=by
 unfold tL;rw[O,zai];dsimp only[uC,Option.bind_some];rw[if_pos Y,uL,U,zai,bA<|uq h3]
theorem uP(I:U0.length<=950):fy [.tuple [TD av,HD U0 Q0]]=some (.int<|(av.length:Int)+2*((U0.filter λn=>(Q0 n).mark).length:Int),false):=by
 have a:(U0.filter λn=>(Q0 n).mark).length<=1000:=zaX (zaY _ _) (by lia)
 have f1:tL [("pile",0)] (DD (lB 0) 1) kY kZ [.fz<|.tuple [TD av,HD U0 Q0],.no]=some ((TD<|U0.filter λn=>(Q0 n).mark,.new),[.fz<|.tuple [TD av,HD U0 Q0],.no]):=by
  refine NO rfl rfl ?_ (by rw[zal];lia)
  refine gj (p:=λn=>(Q0 n).mark) U0 (λn hn=>⟨_,test_ev (k:=.fz)<|oh<|sr hn (ar<|bE (r:=(.int 1,.fz)) (Q1:=(HD U0 Q0,false)) (ar<|aA rfl) (ar rfl) rfl)<|aA rfl⟩) λn hn=>⟨_,ar<|aA rfl⟩
 have l0:IE (mCB gv<|aB (mOp gIx (ai 0)<|mC<|.int 0) aZ) [.fz<|.tuple [TD av,HD U0 Q0],.own<|TD<|U0.filter λn=>(Q0 n).mark] (av.length:Int):=eg (rs:=[(TD av,.fz)]) (Q1:=(.int (av.length:Int),false)) (aK (ar<|bE (r:=(.int 0,.fz)) (Q1:=(TD av,false)) (ar<|aA rfl) (ar rfl) rfl) a9) (by show some (PyData.int ((av.map PyData.str).length:Int),false)=_;rw[zal])
 have l1:IE (mCB gv<|aB (ai 1) aZ) [.fz<|.tuple [TD av,HD U0 Q0],.own<|TD<|U0.filter λn=>(Q0 n).mark] ((U0.filter λn=>(Q0 n).mark).length:Int):=Cf (.inr<|.inl rfl)
 exact dY (o:=.rt (.int<|(av.length:Int)+2*((U0.filter λn=>(Q0 n).mark).length:Int),.fz) [.fz<|.tuple [TD av,HD U0 Q0],.own<|TD<|U0.filter λn=>(Q0 n).mark]) rfl (b9 (qI f1 rfl)<|ee<|ph l0<|rC bV l1<|Bo<|.inl ⟨by lia,by lia⟩) rfl
theorem Ci{c:Str}(I:a ρ=some (.er c ρ1)):Du a b ρ=some (.er c ρ1):=by unfold Du;rw[I];rfl
theorem Lk{c:Rho->Option (Bool×Rho)}{o:Option zT}(I:c ρ=some (true,ρ1))(M:a ρ1=o):eIf c a b ρ=o:=by unfold eIf;rw[I,zai];dsimp only;rw[if_pos rfl,M]
theorem Pz{c:Rho->Option (Bool×Rho)}{o:Option zT}(I:c ρ=some (false,ρ1))(M:b ρ1=o):eIf c a b ρ=o:=by unfold eIf;rw[I,zai];dsimp only;rw[if_neg zam,M]
theorem Hb{c:Str}{ρ:Rho}(hl:ds.length=n)(h:b (ds.map .fz++List.replicate k .no)=some (.er c ρ)):fnX n k b ds=some (.inr c):=by
 unfold fnX;rw[if_pos hl,h];rfl
theorem sE{rs:List RV}{ds:List D}{c:Str}(M:m ρ=some (rs,ρ1))(O:i7 rs ρ1=some (ds,I))(h3:f ds=some (.inr c)):gx f m ρ=some (.inr (c,I)):=by
 unfold gx;rw[M,zai];dsimp only;rw[O,zai];dsimp only;rw[h3];rfl
theorem Hc{c:Str}(h:m ρ=some (.inr (c,ρ1))):eX k m ρ=some (.er c ρ1):=by
 unfold eX;rw[h,zai]
abbrev PD(av U0:List Str)(Q0:Str->aG.Row):D:=.tuple [TD av,HD U0 Q0]
def jP(h : ρ[i]?=some (.fz<|PD av U0 Q0)):mOp gIx (ai i) (mC<|.int 1) ρ=some ((HD U0 Q0,.fz),ρ):=bE (r:=(.int 1,.fz)) (Q1:=(HD U0 Q0,false)) (ar<|aA h) (ar rfl) rfl
def lP(h : ρ[i]?=some (.fz<|PD av U0 Q0)):mOp gIx (ai i) (mC<|.int 0) ρ=some ((TD av,.fz),ρ):=bE (r:=(.int 0,.fz)) (Q1:=(TD av,false)) (ar<|aA h) (ar rfl) rfl
def He(h : ρ[i]?=some (.fz<|PD av U0 Q0))(I : ρ[j]?=some (.fz<|.str n)):BE (mOp nU (ai j)<|mOp gIx (ai i)<|mC<|.int 1) ρ (!decide (n∈U0)):=bE (r:=(HD U0 Q0,.fz)) (Q1:=(.bool<|!decide (n∈U0),false)) (ar<|aA I) (ar<|jP h) (An U0 Q0 n)
theorem Cj(hn:n∈U0):dw [PD av U0 Q0,.str n]=some (.none,false) :=
 dY (o:=.nx [.fz<|PD av U0 Q0,.fz<|.str n]) rfl (rA (iN (He (i:=0) (j:=1) rfl rfl) (by rw[zaH hn];rfl)) rfl) rfl
theorem J3(M:sv a ρ=some ((d,k),I))(O:Gv n d=some (.bool v,false)):yr n a ρ=some ((.bool v,.fz),I):=by
 unfold yr mUn;rw[M,zai];dsimp only;rw[O];rfl
theorem uQ(r:aG.Row):jI [bH r]=some (bH ⟨r.key,none,false,r.below⟩,false) :=
 dY (o:=.rt (bH ⟨r.key,none,false,r.below⟩,.fz) [.fz<|bH r]) rfl (ee<|j8 (rs:=[(.int r.key,.fz),(.none,.fz),(.bool false,.fz),(.tuple<|r.below.map .str,.fz)]) (aK (ar<|mv<|aA rfl)<|aK (ar rfl)<|aK (ar rfl)<|aK (ar<|iD<|aA rfl) a9) rfl (by simp)) rfl
theorem wg(r:aG.Row):je [bH r]=some (bH ⟨r.key,r.above,true,r.below⟩,false) :=
 dY (o:=.rt (bH ⟨r.key,r.above,true,r.below⟩,.fz) [.fz<|bH r]) rfl (ee<|j8 (rs:=[(.int r.key,.fz),(iU r.above,.fz),(.bool true,.fz),(.tuple<|r.below.map .str,.fz)]) (aK (ar<|mv<|aA rfl)<|aK (ar<|eW<|aA rfl)<|aK (ar rfl)<|aK (ar<|iD<|aA rfl) a9) rfl (by simp)) rfl
theorem Ao(I:∀b∈r.below,PyData.strOk b=true)(hl:r.below.length<=1000)(hn:PyData.strOk n=true):mn [bH r,.str n]=some (bH ⟨r.key,r.above,r.mark,r.below.filter λx=>!decide (x=n)⟩,false):=by
 refine dY (o:=.rt (bH ⟨r.key,r.above,r.mark,r.below.filter λx=>!decide (x=n)⟩,.fz) [.fz<|bH r,.fz<|.str n]) rfl (ee<|j8 (rs:=[(.int r.key,.fz),(iU r.above,.fz),(.bool r.mark,.fz),(.tuple<|(r.below.filter λx=>!decide (x=n)).map .str,.fz)]) (aK (ar<|mv<|aA rfl)<|aK (ar<|eW<|aA rfl)<|aK (ar<|oh<|aA rfl)<|aK (ar ?_) a9) rfl (by simp)) rfl
 refine eg (rs:=[(.list<|(r.below.filter λx=>!decide (x=n)).map .str,.fz)]) (Q1:=(.tuple<|(r.below.filter λx=>!decide (x=n)).map .str,true)) (aK (mY<|xM (G8<|ar<|iD<|aA rfl) (gj (p:=λx=>!decide (x=n)) _ (λx a=>⟨_,test_ev (k:=.fz)<|bE (r:=(.str n,.fz)) (Q1:=(.bool<|!decide (x=n),false)) (ar<|aA rfl) (ar<|aA rfl)<|qP (I x a) hn⟩) λx a=>⟨_,ar<|aA rfl⟩) (by rw[zal];exact zaX (zaY _ _) (by lia))) a9) rfl
theorem Ap(h:Bt K c av U0 Q0)(x:D):∀(C:List Str) (n L a:Str) (pre:List Str) (I:Nat),Ch Q0 n C L->n∈U0->(Q0 n).above=some a->pre.length+C.length<=1000->C.length<=I->
  fW jJ jK I [.fz<|HD U0 Q0,.fz x,.own<|TD<|pre++[n],.fz<|.str a]=some (.nx [.fz<|HD U0 Q0,.fz x,.own<|TD<|pre++C,.fz<|.str L]):=by
 intro C
 induction C with
 |nil=>intro n L a pre I d;cases d
 |cons y C l=>
  intro n L a pre I d hn ha hl j;rw[zaw]at hl j;obtain⟨I,rfl⟩:∃k,I=k+1:=⟨I-1,by lia⟩
  have hk:=h.ab n hn a ha;cases d with
  |one f hm=>
   rw[ha]at f;cases f;exact o8 (test_ev (k:=.fz) (by rw[<-hm];exact oh (dX (.inl rfl) hk<|aA rfl)))
  |more f hm d=>
   rw[ha]at f;cases f;obtain⟨b,g⟩:∃b,(Q0 a).above=some b:=by cases d with|one e _=>exact⟨_,e⟩|more e _ _=>exact⟨_,e⟩
   have i:=l a L b (pre++[y]) I d hk g (by rw[zau,za7];lia) (by lia)
   rw[zaD pre [y] C]at i;refine xH (ρ1:=[.fz<|HD U0 Q0,.fz x,.own<|TD<|pre++[y],.fz<|.str a]) (test_ev (k:=.fz) (by rw[<-hm];exact oh (dX (.inl rfl) hk<|aA rfl))) ?_ i
   refine b9 (ρ1:=[.fz<|HD U0 Q0,.fz x,.own<|TD<|pre++[y]++[a],.fz<|.str a]) (IT<|ND (rs:=[(.str a,.fz)]) rfl rfl rfl rfl (NF _ (by rw[zal,zau,za7];lia)) (by rw[yV];rfl)) ?_
   exact fZ (eW<|dX (.inl rfl) hk<|aA rfl) (by rw[g];rfl)
theorem Hf(h:Bt K c av U0 Q0)(hn:n∈U0)(I:Ch Q0 n C L)(hl:C.length<=900):gh [HD U0 Q0,.str n]=some (TD C,true):=by
 obtain⟨a,ea⟩:∃a,(Q0 n).above=some a:=by cases I with|one e _=>exact⟨_,e⟩|more e _ _=>exact⟨_,e⟩
 have b:=Ap h (.str n) C n L a [] 1000000 I hn ea (by simp;lia) (by lia)
 rw[List.nil_append,List.nil_append]at b;refine dY (o:=.rt (TD C,.at 2) [.fz<|HD U0 Q0,.fz<|.str n,.own<|TD C,.fz<|.str L]) rfl ?_ rfl;refine b9 (ρ1:=[.fz<|HD U0 Q0,.fz<|.str n,.own<|TD [n],.no]) (qI (zR (rs:=[(.str n,.fz)]) (aK (ar<|aA rfl) a9) rfl (by simp)) rfl) ?_
 refine b9 (ρ1:=[.fz<|HD U0 Q0,.fz<|.str n,.own<|TD [n],.fz<|.str a]) (fZ (eW<|dX (.inl rfl) hn<|aA rfl) (by rw[ea];rfl)) ?_
 exact b9 b (ee<|qH rfl)
section
variable{α β:Type}
theorem c9(h:m s=some (.ok v s')):bN m k s=k v s':=by unfold bN;rw[h]
theorem d5(h:m s=some (.ok v s')):bS m k s=k v s':=by unfold bS;rw[h]
theorem az(h:a s=some (.nx s'))(I:b s'=o):aY a b s=o:=by unfold aY;rw[h];exact I
theorem ji(h:a s=some (.rt r s')):aY a b s=some (.rt r s'):=by unfold aY;rw[h]
theorem jQ{c:MN Bool}{o:Option gy}(h:c s=some (.ok true s'))(I:a s'=o):fw c a b s=o:=by unfold fw;rw[d5 h,if_pos rfl];exact I
theorem dy{c:MN Bool}{o:Option gy}(h:c s=some (.ok false s'))(I:b s'=o):fw c a b s=o:=by unfold fw;rw[d5 h,if_neg zam];exact I
theorem bB(h:a s=some (.ok x s'))(hi:i<s'.t.length):bG a (ngN i) s=some (.nx ⟨s'.S,s'.t.set i<|some x⟩):=by unfold bG;rw[d5 h];unfold ngN;rw[if_pos hi]
theorem cR(h:a s=some (.ok x s')):eP a s=some (.rt x s'):=by unfold eP;rw[d5 h]
theorem dN(h:a s=some (.ok x s')):g6 a s=some (.nx s'):=by unfold g6;rw[d5 h]
theorem ah(h:s.t[i]?=some (some x)):aE i s=some (.ok x s):=by unfold aE;rw[h]
theorem aw(h:a s=some (.ok x s1))(I:m s1=some (.ok xs s2)):ao a m s=some (.ok (x::xs) s2):=by unfold ao;rw[c9 h,c9 I]
theorem gk(h:a s=some (.ok (.pl<|.bool b) s')):fj a s=some (.ok b s'):=by unfold fj;rw[c9 h]
theorem qR(h:a s=some (.ok b s')):pC a s=some (.ok (!b) s'):=by unfold pC;rw[c9 h];rfl
theorem Ll(h:a s=some (.ok false s'))(I:b s'=r):nOr a b s=r:=by unfold nOr;rw[c9 h,if_neg zam];exact I
theorem Ck(h:a s=some (.ok (.pl<|.bool true) s'))(I:b s'=r):xX a b s=r:=by unfold xX;rw[c9<|gk h,if_pos rfl];exact I
theorem cj(h:m s=some (.ok xs s1))(I:f s1.S xs=some (.ok r S')):dA f m s=some (.ok r ⟨S',s1.t⟩):=by unfold dA;rw[c9 h,I];rfl
def cK:nLit d s=some (.ok (.pl d) s):=rfl
def bh:aQ s=some (.ok [] s):=rfl
theorem DY(h:m s=some (.ok xs s1))(I:jE xs=some ds)(M:f ds=some (d,false)):fk f m s=some (.ok (.pl d) s1):=by
 unfold fk;rw[c9 h];simp only[I,M,Option.bind_some];rfl
theorem kB(I:xs.length=n)(M:b ⟨S,xs.map some++List.replicate k none⟩=some o)(O:retS S.length o=some w):fnS n k b S xs=some w:=by
 unfold fnS;rw[if_pos I,M];exact O
end
theorem jR(h:xR n S=true){c:Cl}(I:some c∈S.take n):blC n c=true:=by
 unfold xR at h;exact(List.all_eq_true.mp h) _ I
theorem wj{c:Option Cl}(h:∀d,c=some d->blC n d=true):gcC n c=c:=by
 cases c with
 |none=>rfl
 |some d=>simp only[gcC,h d rfl,if_true]
theorem aS{α:Type}{S X:List α}{j:Nat}{c : α}(h:S[j]?=some c):(S++X)[j]?=some c:=by
 rw[zax (zac h).1];exact h
def J4{α:Type}{S:List α}{c : α}:(S++[c])[S.length]?=some c:=List.getElem?_concat_length
theorem ou(h:∀y,x=some y->blV n y=true):gcV n x=x:=by
 cases x with
 |none=>rfl
 |some y=>simp only[gcV,h y rfl,if_true]
def oz(n:Nat)(t:List<|Option SV):Bool:=t.all λx=>match x with
 |some x=>blV n x
 |none=>true
def J7(h:oz n t=true)(I:some x∈t):blV n x=true:=(List.all_eq_true.mp h) _ I
theorem J8(h:oz n t=true):gcT n t=t:=by
 unfold gcT;refine(List.map_congr_left λc a=>ou λd e=>?_).trans (List.map_id _)
 subst e;exact J7 h a
theorem cE(h:S[j]?=some (some<|.dat d)):rdV S (.lc j)=some d:=by simp only[rdV,h]
theorem yW:rdV S (.pl d)=some d:=by simp only[rdV]
theorem Lm(h:S[j]?=some (some<|.dat d)):rdC S (.lc j)=some d:=by simp only[rdC,h]
def mR:rdC S (.pl d)=some d:=rfl
theorem bC{k:Nat}{d:D}(h:s.t[k]?=some (some x))(e:rdV s.S x=some d):(vw s)[k]?=some (.fz d):=by
 unfold vw;rw[zao,h];simp only[Option.map_some,Dw,e]
def bT{k:Nat}(h:s.t[k]?=some (some<|.pl d)):(vw s)[k]?=some (.fz d):=bC h yW
theorem Hg{k:Nat}(h:s.t[k]?=some (some<|.pl d)):(vwC s)[k]?=some (.fz d):=by
 unfold vwC;rw[zao,h];rfl
theorem iW{m:PM}{ρ:Rho}(h:m (vw s)=some ((d,.fz),ρ))(I:dZ d=true):nO m s=some (.ok (.pl d) s):=by
 unfold nO;rw[h,zai];dsimp only;rw[if_pos I]
def iX(h:IE m (vw s) i):nO m s=some (.ok (.pl<|.int i) s):=iW h rfl
theorem ia{m:PM}{ρ:Rho}(h:m (vw s)=some ((d,.new),ρ))(I:dk d true=true):nO m s=some (.ok (.lc s.S.length) ⟨s.S++[some<|.dat d],s.t⟩):=by
 unfold nO;rw[h,zai];dsimp only;rw[if_pos I];rfl
theorem cy(h:m (vw s)=some (b,ρ)):nTo m s=some (.ok b s):=by unfold nTo;rw[h];rfl
theorem pU{x y:SV}{c d e:D}(I:a s=some (.ok x s1))(M:b s1=some (.ok y s2))(h3:rdC s2.S x=some c)(h4:rdC s2.S y=some d)(O:g c d=some (e,false)):nOp g a b s=some (.ok (.pl e) s2):=by
 unfold nOp;rw[c9 I,c9 M];simp only[h3,h4,O,Option.bind_some];rfl
theorem cz(I:a s=some (.ok x s1))(M:b s1=some (.ok (.pl<|.int i) s2))(h3:ixV s2.S x i=some y):nIx a b s=some (.ok y s2):=by
 unfold nIx;rw[c9 I,c9 M];simp only[h3,Option.map_some]
theorem Hh(h:m s=some (.ok xs s1))(I:xS s1.S xs=some ds)(M:g ds=some (d,false)):nCB g m s=some (.ok (.pl d) s1):=by
 unfold nCB;rw[c9 h];simp only[I,M,Option.bind_some];rfl
theorem Cm:pE aQ s=some (.ok (.lc s.S.length) ⟨s.S++[some<|.dat<|.list []],s.t⟩):=by
 unfold pE;rw[c9<|show aQ s=some (.ok [] s)from rfl,bA<|show([]:List SV).length<=sizeLine from Nat.zero_le _];rfl
theorem oA(h:m s=some (.ok xs s1))(I:jE xs=some ds)(M:xs.length<=100):iQ m s=some (.ok (.pl<|.tuple ds) s1):=by
 unfold iQ;rw[c9 h,bA<|rq (by lia)]
 simp only[mkT,I]
theorem wk{k:Nat}{ds:List D}{d:D}{I:List D}(h:a s=some (.ok (.lc k) s1))(M:s1.S[k]?=some (some<|.dat<|.list I))(O:m s1=some (.ok [.pl d] s2))(U:s2.S[k]?=some (some<|.dat<|.list ds))(h3:ds.length<=100000):Dx a m s=some (.ok (.pl .none) ⟨s2.S.set k<|some<|.dat<|.list<|ds++[d],s2.t⟩):=by
 unfold Dx F5;rw[c9 h];simp only[BD,M,if_true];rw[c9 O];simp only[Jk,U,bA<|uq h3]
theorem yX:f9 n kp (λ_=>True) g b [] s=some (.nx s):=by unfold f9;rw[bA trivial]
theorem uR(I:g d s=some (.nx s1))(M:b s1=some (.nx s2))(h3:gcE n kp s2=O)(h4:f9 n kp (λ_=>True) g b ds O=o):f9 n kp (λ_=>True) g b (d::ds) s=o:=by
 unfold f9;rw[bA trivial,I];dsimp only;rw[M];dsimp only;rw[h3];exact h4
theorem Cn(I:it (vwC s)=some (ds,ρ))(M:f9 s.S.length kp (λ_=>True) g b (ds.map .pl) s=o):F1 kp it g b s=o:=by unfold F1;rw[I,zai];exact M
theorem Aq(h:i<s.t.length):ngN i x s=some (.nx ⟨s.S,s.t.set i<|some x⟩):=by unfold ngN;rw[if_pos h]
abbrev dt(d:D):Option Cl:=some (.dat d)
section
variable{α:Type}
theorem ap0{a : α}:(S++a::X)[S.length]?=some a:=by rw[zaN<|zap _,Nat.sub_self];rfl
theorem apk{S X:List α}(h:X[k]?=some a):(S++X)[S.length+k]?=some a:=by rw[zaN<|Nat.le_add_right _ _,Nat.add_sub_cancel_left];exact h
theorem Ar{a b : α}:(S++a::X).set S.length b=S++b::X:=by
 rw[List.set_append_right _ _<|zap _,Nat.sub_self];rfl
def bK{S:List α}(h:S[i]?=some a):i<S.length:=(zac h).1
end
theorem As(l:List Str):dZ (.tuple<|l.map .str)=true:=by
 show a8 (l.map .str)=true;exact jN l
theorem dz(r:aG.Row):dZ (bH r)=true:=by
 unfold bH;have:dZ (iU r.above)=true:=by cases r.above<;>rfl
 simp only[dZ,a8,this,jN,Bool.and_true]
theorem my(U0:List Str)(Q0:Str->aG.Row):dk (HD U0 Q0) true=true:=by
 show a8 ((cB U0 Q0).map (·.2))=true
 unfold cB;rw[List.map_map]
 induction U0 with
 |nil=>rfl
 |cons n l a=>simp only[List.map_cons,a8,Function.comp,dz,Bool.true_and];exact a
def jj(l:List Str):dk (TD l) true=true:=jN l
theorem oB(hn:S.length<=n)(I:oz n t=true):gcE n kp ⟨S,t⟩=⟨S,t⟩:=by
 unfold gcE;split
 ·rename_i h
  rw[Bool.and_eq_true]at h;unfold gc;dsimp only;rw[J8 I]
  congr 1
  unfold gcS;rw[List.take_of_length_le hn];refine(List.map_congr_left λc a=>wj λd e=>?_).trans (List.map_id _)
  subst e;exact jR h.1 (by rw[List.take_of_length_le hn];exact a)
 ·rfl
theorem pV(I:ok s):f9 n kp ok g b [] s=some (.nx s):=by unfold f9;rw[bA I]
theorem m5(I:ok s)(M:g d s=some (.nx s1))(O:b s1=some (.nx s2))(h3:gcE n kp s2=U)(h4:f9 n kp ok g b ds U=o):f9 n kp ok g b (d::ds) s=o:=by
 unfold f9;rw[bA I,M];dsimp only;rw[O];dsimp only;rw[h3];exact h4
theorem kC(O:v s=some (.ok (.pl<|bH r) s1))(hd:d s1=some (.ok (.lc j) s2))(hk:k s2=some (.ok (.pl<|.str n) I))(M:I.S[j]?=some (dt<|HD U0 Q0))(hl:U0.length<=1000):gr d k v s=some (.nx ⟨I.S.set j<|dt<|HD (GX U0 n)<|aW Q0 n r,I.t⟩):=by
 unfold gr;rw[d5 O,d5 hd,d5 hk];unfold Gu;dsimp only[keyOf,Option.bind_some];rw[M];dsimp only;rw[bA (by rw[sj];lia),yS]
theorem sF{b:SN}{s s1:SS}{k:Nat}{ds:List D}{o:Option gy}(h:a s=some (.ok (.lc k) s1))(hk:s1.S[k]?=some (dt<|.list ds))(I:f9 s1.S.length kp (stays (.lc k)<|ds.map .pl) g b (ds.map .pl) s1=o):uy kp a g b s=o:=by
 unfold uy;rw[d5 h];simp only[m3,hk,Option.bind_some];exact I
theorem oD{ds:List D}(h:S[k]?=some (dt<|.list ds)):stays (.lc k) (ds.map .pl) ⟨S,t⟩:=by
 show m3 S (.lc k)=_;simp only[m3,h]
theorem cG(I:S[p]?=some (dt<|TD av))(M:S[q]?=some (dt<|HD U0 Q0)):rdV S (.tp [.lc p,.lc q])=some (PD av U0 Q0):=by
 simp only[rdV,gq,I,M,Option.bind_some,Option.map_some]
theorem fG(h:m s=some (.ok xs s1))(I:jE xs=none)(M:xs.length<=100):iQ m s=some (.ok (.tp xs) s1):=by
 unfold iQ;rw[c9 h,bA<|rq (by lia)]
 simp only[mkT,I]
def off(Q0:Str->aG.Row)(n a:Str):Str->aG.Row:=aW (aW Q0 a ⟨(Q0 a).key,(Q0 a).above,(Q0 a).mark,(Q0 a).below.filter λx=>!decide (x=n)⟩) n ⟨(Q0 n).key,none,false,(Q0 n).below⟩
theorem wm(ne:a≠n)(hm:(Q0 a).mark=(Q0 a).above.isSome):off Q0 n a=cX Q0 n a:=by
 funext m
 unfold off cX eY
 by_cases d:m=n
 ·subst d
  rw[aO,aI _ _ λz=>ne z.symm,aO]
 ·rw[aI _ _ d]
  by_cases e:m=a
  ·subst e
   rw[aO,aO,aI _ _ d,hm]
  ·rw[aI _ _ e,aI _ _ e,aI _ _ d]
theorem Hi(ne:a≠n)(hm:(Q0 a).mark=false):cX Q0 n a=if(off Q0 n a a).above.isSome=true then aW (off Q0 n a) a ⟨(off Q0 n a a).key,(off Q0 n a a).above,true,(off Q0 n a a).below⟩else off Q0 n a:=by
 have e:off Q0 n a a=⟨(Q0 a).key,(Q0 a).above,(Q0 a).mark,(Q0 a).below.filter λx=>!decide (x=n)⟩:=by
  unfold off;rw[aI _ _ ne,aO]
 rw[e];dsimp only;cases ea:(Q0 a).above.isSome with
 |false=>
  rw[if_neg zam];exact(wm ne (by rw[hm,ea])).symm
 |true=>
  rw[if_pos rfl];funext m
  by_cases b:m=a
  ·subst b
   unfold cX eY;rw[aO,aO,aI _ _ ne,ea]
  ·rw[aI _ _ b]
   unfold cX eY off;rw[aI _ _ b]
   by_cases d:m=n
   ·subst d;rw[aO,aO]
   ·rw[aI _ _ d,aI _ _ d,aI _ _ b]
theorem Co(h:r.above=some a):ixV S (.pl<|bH r) 1=some (.pl<|.str a):=by
 show some (SV.pl<|iU r.above)=_;rw[h];rfl
def offs:List Str->(Str->aG.Row)->Str->aG.Row
 | [],Q0=>Q0
 |n::C,Q0=>offs C (off Q0 n<|(Q0 n).above.getD n)
theorem mz(ha:(Q0 n).above=some a):offs (n::C) Q0=offs C (off Q0 n a):=by
 show offs C (off Q0 n<|(Q0 n).above.getD n)=_;rw[ha];rfl
theorem DZ:∀(C av:List Str) (Q0:Str->aG.Row) (n L:Str),Bt K c av U0 Q0->n∈U0->Ch Q0 n C L->cuts C Q0=if(offs C Q0 L).above.isSome=true then aW (offs C Q0) L ⟨(offs C Q0 L).key,(offs C Q0 L).above,true,(offs C Q0 L).below⟩else offs C Q0:=by
 intro C
 induction C with
 |nil=>intro av Q0 n L _ _ d;cases d
 |cons x C l=>
  intro av Q0 n L h hn d;cases d with
  |one ha hm=>
   rw[dQ ha,mz ha];exact Hi (h.neA hn ha) hm
  |more ha hm d=>
   rename_i a
   have j:=h.ab x hn a ha;rw[dQ ha,mz ha,wm (h.neA hn ha) (by
    rw[hm];cases e:(Q0 a).above with
    |none=>exact absurd e (h.mkd a j hm)
    |some b=>rfl)]
   exact l (av++[x]) (cX Q0 x a) a L (h.cut hn ha) j (Ch.cut h hn ha d)
theorem Ch.last(h:Bt K c av U0 Q0):∀{C:List Str} {n L:Str},Ch Q0 n C L->n∈U0->∃pre z,C=pre++[z]/\z∈U0/\(Q0 z).above=some L
 |_,n,_,.one ha _,hn=>⟨[],n,rfl,hn,ha⟩
 |_,n,_,.more ha _ e,hn=>by
  obtain⟨pre,z,a,d,h3⟩:=Ch.last h e (h.ab n hn _ ha);exact⟨n::pre,z,by rw[a];rfl,d,h3⟩
theorem Hj(Y:c<=600)(O:blV (B.length+2) pile=true)(U:blV (B.length+2) nm=true)(h3:blV (B.length+2) last=true):∀(C av:List Str) (Q0:Str->aG.Row) (n L:Str) (x y:Option SV),Bt K c av U0 Q0->n∈U0->Ch Q0 n C L->oz (B.length+2) [y]=true->
  ∃I M,f9 (B.length+2) [0,1,2,3,4] (stays (.lc<|B.length+1)<|(Call.map PyData.str).map .pl) (ngN 5) jf ((C.map PyData.str).map .pl) ⟨B++[dt<|HD U0 Q0,dt<|TD Call],[some pile,some nm,some<|.lc B.length,some<|.lc<|B.length+1,some last,x,y]⟩=some (.nx ⟨B++[dt<|HD U0<|offs C Q0,dt<|TD Call],[some pile,some nm,some<|.lc B.length,some<|.lc<|B.length+1,some last,I,M]⟩):=by
 have step:∀(av:List Str) (Q0:Str->aG.Row) (n a:Str) (x y:Option SV) (ds:List SV) (o:Option gy),Bt K c av U0 Q0->n∈U0->(Q0 n).above=some a->f9 (B.length+2) [0,1,2,3,4] (stays (.lc<|B.length+1)<|(Call.map PyData.str).map .pl) (ngN 5) jf ds ⟨B++[dt<|HD U0<|off Q0 n a,dt<|TD Call],[some pile,some nm,some<|.lc B.length,some<|.lc<|B.length+1,some last,some<|.pl<|.str n,some<|.pl<|.str a]⟩=o->
   f9 (B.length+2) [0,1,2,3,4] (stays (.lc<|B.length+1)<|(Call.map PyData.str).map .pl) (ngN 5) jf (.pl (.str n)::ds) ⟨B++[dt<|HD U0 Q0,dt<|TD Call],[some pile,some nm,some<|.lc B.length,some<|.lc<|B.length+1,some last,x,y]⟩=o:=λav Q0 n a x y ds o h hn ha ho=>by
  have d:=h.ab n hn a ha;have ne:=h.neA hn ha;have kl:=h.kl;have bl:=h.bl a d;refine m5 (s1:=⟨B++[dt<|HD U0 Q0,dt<|TD Call],[some pile,some nm,some<|.lc B.length,some<|.lc<|B.length+1,some last,some<|.pl<|.str n,y]⟩) (s2:=⟨B++[dt<|HD U0<|off Q0 n a,dt<|TD Call],[some pile,some nm,some<|.lc B.length,some<|.lc<|B.length+1,some last,some<|.pl<|.str n,some<|.pl<|.str a]⟩) (oD<|apk (k:=1) rfl) (Aq (by simp)) ?_ (oB (by simp) (by simp[oz,O,U,h3,blV])) ho
  refine az (s':=⟨B++[dt<|HD U0 Q0,dt<|TD Call],[some pile,some nm,some<|.lc B.length,some<|.lc<|B.length+1,some last,some<|.pl<|.str n,some<|.pl<|.str a]⟩) (bB (i:=6) (cz (iW (dX (.inl<|bC rfl<|cE ap0) hn<|aA<|bT rfl)<|dz _) cK<|Co ha) (by simp)) ?_
  refine az (s':=⟨B++[dt<|HD U0<|aW Q0 a ⟨(Q0 a).key,(Q0 a).above,(Q0 a).mark,(Q0 a).below.filter λx=>!decide (x=n)⟩,dt<|TD Call],[some pile,some nm,some<|.lc B.length,some<|.lc<|B.length+1,some last,some<|.pl<|.str n,some<|.pl<|.str a]⟩) ((kC (r:=⟨(Q0 a).key,(Q0 a).above,(Q0 a).mark,(Q0 a).below.filter λx=>!decide (x=n)⟩) (iW (cC (rs:=[(bH<|Q0 a,.fz),(.str n,.fz)]) (aK (ar<|dX (.inl<|bC rfl<|cE ap0) d<|aA<|bT rfl)<|aK (ar<|aA<|bT rfl) a9) (Ao (λb l=>h.ok<|bl.2 b l) (by lia)<|h.ok hn)<|dz _)<|dz _) (ah rfl) (ah rfl) ap0 (by lia)).trans (by rw[jh d,Ar])) ?_
  have:=dX (U0:=U0) (Q0:=aW Q0 a ⟨(Q0 a).key,(Q0 a).above,(Q0 a).mark,(Q0 a).below.filter λx=>!decide (x=n)⟩) (n:=n) (i:=2) (b:=ai 5) (ρ:=vw ⟨B++[dt<|HD U0<|aW Q0 a ⟨(Q0 a).key,(Q0 a).above,(Q0 a).mark,(Q0 a).below.filter λx=>!decide (x=n)⟩,dt<|TD Call],[some pile,some nm,some<|.lc B.length,some<|.lc<|B.length+1,some last,some<|.pl<|.str n,some<|.pl<|.str a]⟩) (.inl<|bC rfl<|cE ap0) hn (aA<|bT rfl)
  rw[aI _ _ λz=>ne z.symm]at this
  exact(kC (Q0:=aW Q0 a ⟨(Q0 a).key,(Q0 a).above,(Q0 a).mark,(Q0 a).below.filter λx=>!decide (x=n)⟩) (r:=⟨(Q0 n).key,none,false,(Q0 n).below⟩) (iW (cC (rs:=[(bH<|Q0 n,.fz)]) (aK (ar this) a9) (uQ<|Q0 n)<|dz _)<|dz _) (ah rfl) (ah rfl) ap0 (by lia)).trans (by rw[jh hn,Ar];rfl)
 intro C
 induction C with
 |nil=>intro av Q0 n L x y _ _ j;cases j
 |cons z C m=>
  intro av Q0 n L x y h hn j p;cases j with
  |one ha hm=>
   rw[mz ha];exact⟨_,_,step av Q0 z _ x y [] _ h hn ha<|pV<|oD<|apk (k:=1) rfl⟩
  |more ha hm j=>
   rename_i a
   have d:=h.ab z hn a ha;have e:=wm (Q0:=Q0) (h.neA hn ha) (by
    rw[hm];cases e:(Q0 a).above with
    |none=>exact absurd e (h.mkd a d hm)
    |some b=>rfl)
   obtain⟨I,M,h4⟩:=m (av++[z]) (cX Q0 z a) a L (some<|.pl<|.str z) (some<|.pl<|.str a) (h.cut hn ha) d (Ch.cut h hn ha j) rfl;refine⟨I,M,?_⟩;rw[<-e]at h4;rw[mz ha];exact step av Q0 z a x y _ _ h hn ha h4
theorem J9(ds:List D)(d:D):gIx (.list<|ds++[d]) (.int<|-1)=some (d,false):=by
 show(L2.atI (ds++[d])<|-1).map (λd=>(d,false))=_
 rw[Mir.xi];simp
theorem uS(C:List Str):dk (.list<|C.map stp) true=true:=by
 show a8 (C.map stp)=true
 induction C with
 |nil=>rfl
 |cons x C a=>simp only[List.map_cons,a8,a,Bool.and_true];rfl
theorem Qv{α:Type}{S:List α}{a : α}:(S++[a]).length=S.length+1:=by simp
theorem Ka{α:Type}{S:List α}{a b : α}:(S++[a,b]).length=S.length+2:=by simp
theorem qt{m:PM}{d:D}{ρ:Rho}{X:List<|Option Cl}{k:Nat}(h:m (vw ⟨S++X,t⟩)=some ((d,.new),ρ))(I:dk d true=true)(hk:X.length=k):nO m ⟨S++X,t⟩=some (.ok (.lc<|S.length+k) ⟨S++(X++[dt d]),t⟩):=by
 rw[ia h I];dsimp only;rw[zau,hk,zaD]
theorem kD(I:xs.length=n)(M:b ⟨S,xs.map some++List.replicate k none⟩=some (.rt r ⟨S',t'⟩))(O:blV S.length r=false):fnS n k b S xs=some (.ok r S') :=
 kB I M (show(if blV S.length r=true then _ else _)=_ from if_neg (by rw[O];simp))
theorem sG(U:c<=600)(h:Bt K c av U0 Q0)(hn:n∈U0)(I:Ch Q0 n C L)(hl:C.length<=c)(M:S[p]?=some (dt<|TD av))(O:S[q]?=some (dt<|HD U0 Q0)) :
  iB S [.tp [.lc p,.lc q],.pl<|.str n]=some (.ok (.tp [.tp [.lc<|S.length+2,.lc S.length],.lc<|S.length+3])<|S++[dt<|HD U0<|cuts C Q0,dt<|TD C,dt<|TD<|av++C,dt<|.list<|C.map stp]):=by
 have kl:=h.kl;have tl:=h.tl;obtain⟨t,s⟩:=Ch.mem h I hn;obtain⟨pre,z,rfl,v,m⟩:=Ch.last h I hn;have A:=bK M;have D:=bK O;have w:∀X:List (Option Cl),rdV (S++X) (.tp [.lc p,.lc q])=some (PD av U0 Q0):=λX=>cG (aS M) (aS O)
 obtain⟨a,d,lo⟩:=Hj (c:=c) (U0:=U0) U (Call:=pre++[z]) (B:=S) (pile:=.tp [.lc p,.lc q]) (nm:=.pl<|.str n) (last:=.pl<|.str L) (by simp[blV,iO];lia) rfl rfl (pre++[z]) av Q0 n L none none h hn I rfl
 refine kD (t':=[some<|.tp [.lc p,.lc q],some<|.pl<|.str n,some<|.lc S.length,some<|.lc<|S.length+1,some<|.pl<|.str L,a,d]) rfl ?_ (by simp[blV,iO])
 refine az (s':=⟨S++[dt<|HD U0 Q0],[some<|.tp [.lc p,.lc q],some<|.pl<|.str n,some<|.lc S.length,none,none,none,none]⟩) (bB (i:=2) (s':=⟨S++[dt<|HD U0 Q0],[some<|.tp [.lc p,.lc q],some<|.pl<|.str n,none,none,none,none,none]⟩) (ia (eg (rs:=[(HD U0 Q0,.fz)]) (Q1:=(HD U0 Q0,true)) (aK (ar<|jP<|bC rfl<|cG M O) a9) rfl)<|my U0 Q0) (by simp)) ?_
 refine az (s':=⟨S++[dt<|HD U0 Q0,dt<|TD<|pre++[z]],[some<|.tp [.lc p,.lc q],some<|.pl<|.str n,some<|.lc S.length,some<|.lc<|S.length+1,none,none,none]⟩) (bB (i:=3) (qt (k:=1) (cC (rs:=[(HD U0 Q0,.fz),(.str n,.fz)]) (aK (ar<|aA<|bC rfl<|cE ap0)<|aK (ar<|aA<|bT rfl) a9) (Hf h hn I (by lia))<|jN _) (jj _) rfl) (by simp)) ?_
 have o:mOp dW (ai 2) (mOp gIx (ai 3)<|mUn Dg<|mC<|.int 1) (vw ⟨S++[dt<|HD U0 Q0,dt<|TD<|pre++[z]],[some<|.tp [.lc p,.lc q],some<|.pl<|.str n,some<|.lc S.length,some<|.lc<|S.length+1,none,none,none]⟩)=some ((bH<|Q0 z,.fz),vw ⟨S++[dt<|HD U0 Q0,dt<|TD<|pre++[z]],[some<|.tp [.lc p,.lc q],some<|.pl<|.str n,some<|.lc S.length,some<|.lc<|S.length+1,none,none,none]⟩) :=
  dX (.inl<|bC rfl<|cE ap0) v (bE (r:=(.int<|-1,.fz)) (Q1:=(.str z,false)) (ar<|aA<|bC rfl<|cE<|apk (k:=1) rfl) (ar<|MZ bV) (by show gIx (.list<|(pre++[z]).map .str) (.int<|-1)=_;rw[za1];exact J9 _ _))
 refine az (s':=⟨S++[dt<|HD U0 Q0,dt<|TD<|pre++[z]],[some<|.tp [.lc p,.lc q],some<|.pl<|.str n,some<|.lc S.length,some<|.lc<|S.length+1,some<|.pl<|.str L,none,none]⟩) (bB (i:=4) (cz (iW o<|dz _) cK<|Co m) (by simp)) ?_
 refine az (s':=⟨S++[dt<|HD U0<|offs (pre++[z]) Q0,dt<|TD<|pre++[z]],[some<|.tp [.lc p,.lc q],some<|.pl<|.str n,some<|.lc S.length,some<|.lc<|S.length+1,some<|.pl<|.str L,a,d]⟩) (sF (ah rfl) (apk (k:=1) rfl) (by dsimp only;rw[Ka];exact lo)) ?_
 have u:mOp dW (ai 2) (ai 4) (vw ⟨S++[dt<|HD U0<|offs (pre++[z]) Q0,dt<|TD<|pre++[z]],[some<|.tp [.lc p,.lc q],some<|.pl<|.str n,some<|.lc S.length,some<|.lc<|S.length+1,some<|.pl<|.str L,a,d]⟩)=some ((bH<|offs (pre++[z]) Q0 L,.fz),vw ⟨S++[dt<|HD U0<|offs (pre++[z]) Q0,dt<|TD<|pre++[z]],[some<|.tp [.lc p,.lc q],some<|.pl<|.str n,some<|.lc S.length,some<|.lc<|S.length+1,some<|.pl<|.str L,a,d]⟩):=dX (.inl<|bC rfl<|cE ap0) s (aA<|bT rfl);have l:nTo (a0<|mOp o7 (mOp gIx (mOp dW (ai 2)<|ai 4)<|mC<|.int 1)<|mC .none) ⟨S++[dt<|HD U0<|offs (pre++[z]) Q0,dt<|TD<|pre++[z]],[some<|.tp [.lc p,.lc q],some<|.pl<|.str n,some<|.lc S.length,some<|.lc<|S.length+1,some<|.pl<|.str L,a,d]⟩=some (.ok (offs (pre++[z]) Q0 L).above.isSome ⟨S++[dt<|HD U0<|offs (pre++[z]) Q0,dt<|TD<|pre++[z]],[some<|.tp [.lc p,.lc q],some<|.pl<|.str n,some<|.lc S.length,some<|.lc<|S.length+1,some<|.pl<|.str L,a,d]⟩):=cy (test_ev (k:=.fz)<|bE (r:=(.none,.fz)) (Q1:=(.bool (offs (pre++[z]) Q0 L).above.isSome,false)) (ar<|eW u) (ar rfl)<|yU _);have e:=DZ (pre++[z]) av Q0 n L h hn I;refine az (s':=⟨S++[dt<|HD U0<|cuts (pre++[z]) Q0,dt<|TD<|pre++[z]],[some<|.tp [.lc p,.lc q],some<|.pl<|.str n,some<|.lc S.length,some<|.lc<|S.length+1,some<|.pl<|.str L,a,d]⟩) ?_ ?_
 ·cases j:(offs (pre++[z]) Q0 L).above.isSome with
  |true=>
   rw[j,if_pos rfl]at e;rw[j]at l;refine jQ l ((kC (r:=⟨(offs (pre++[z]) Q0 L).key,(offs (pre++[z]) Q0 L).above,true,(offs (pre++[z]) Q0 L).below⟩) (iW (cC (rs:=[(bH<|offs (pre++[z]) Q0 L,.fz)]) (aK (ar u) a9) (wg _)<|dz _)<|dz _) (ah rfl) (ah rfl) ap0 (by lia)).trans ?_)
   rw[jh s,Ar,e]
  |false=>
   rw[j,if_neg zam]at e;rw[j]at l;rw[e];exact dy l rfl
 refine cR (fG (xs:=[.tp [.lc<|S.length+2,.lc S.length],.lc<|S.length+3]) (aw (s1:=⟨S++[dt<|HD U0<|cuts (pre++[z]) Q0,dt<|TD<|pre++[z],dt<|TD<|av++(pre++[z])],[some<|.tp [.lc p,.lc q],some<|.pl<|.str n,some<|.lc S.length,some<|.lc<|S.length+1,some<|.pl<|.str L,a,d]⟩) (fG (xs:=[.lc<|S.length+2,.lc S.length]) (aw (qt (k:=2) (bE (r:=(TD<|pre++[z],.fz)) (Q1:=(TD<|av++(pre++[z]),true)) (ar<|lP<|bC rfl<|w _) (ar<|aA<|bC rfl<|cE<|apk (k:=1) rfl) ?_) (jj _) rfl)<|aw (ah rfl) bh) rfl (by simp))<|aw (qt (k:=3) (xM (zS<|ar<|aA<|bC rfl<|cE<|apk (k:=1) rfl) (iA (f:=PyData.str) (g:=stp) _ λx y=>⟨[.fz<|.str x],ar<|j8 (rs:=[(.str "cut",.fz),(.str x,.fz)]) rfl rfl (by simp)⟩) (by rw[zal];lia)) (uS _) rfl) bh) rfl (by simp))
 show dU (.list<|av.map .str) (.list<|(pre++[z]).map .str)=some (.list<|(av++(pre++[z])).map .str,true);rw[za1 (l₁:=av)];exact o9 _ _ (by simp only[List.length_map];lia)
theorem Cp(h:S.length<=n):fS n S=S:=by
 unfold fS;split
 ·rename_i f
  unfold gcS;rw[List.take_of_length_le h];refine(List.map_congr_left λc a=>wj λd e=>?_).trans (List.map_id _)
  subst e;exact jR f (by rw[List.take_of_length_le h];exact a)
 ·rfl
def stH(p:Str×Str):D:=.tuple [.str "hang",.str p.1,.str p.2]
theorem Kb(hl:r.below.length<=1000){a b:PM}{ρ:Rho}(h:a ρ=some ((bH r,.fz),ρ))(I:b ρ=some ((.tuple [.str x],.fz),ρ)):mOp yy (mOp gIx a<|mC<|.int 3) b ρ=some ((.tuple<|(r.below++[x]).map .str,.fz),ρ):=by
 obtain⟨o,ho⟩:=DO (r.below.map .str) [.str x] (by simp;lia) (by simp)
 have e:=bE (r:=(.tuple [.str x],.fz)) (Q1:=(.tuple<|(r.below++[x]).map .str,o)) (ar<|iD h) (ar I) (by rw[za1];exact ho)
 cases o<;>exact e
theorem Kc(M:x∈U0)(O:y∈U0)(ne:y≠x)(hk:U0.length<=1000)(U:(Q0 y).below.length<=1000)(I:S[j]?=some (dt<|HD U0 Q0)):vV S [.lc j,.pl<|.str x,.pl<|.str y]=some (.ok (.pl .none)<|S.set j<|dt<|HD U0<|bI Q0 x y):=by
 have lj:=bK I;refine kB (o:=.nx ⟨S.set j<|dt<|HD U0<|bI Q0 x y,[some<|.lc j,some<|.pl<|.str x,some<|.pl<|.str y,some<|.pl<|bH<|Q0 y]⟩) rfl ?_ (by show some (FR.ok (.pl .none)<|fS S.length<|S.set j _)=_;rw[Cp (by rw[zaM];exact zap _)])
 refine az (s':=⟨S,[some<|.lc j,some<|.pl<|.str x,some<|.pl<|.str y,some<|.pl<|bH<|Q0 x]⟩) (bB (i:=3) (iW (dX (.inl<|bC rfl<|cE I) M<|aA<|bT rfl)<|dz _) (by simp)) ?_
 have a:(S.set j<|dt<|HD U0<|aW Q0 x ⟨(Q0 x).key,some y,false,(Q0 x).below⟩)[j]?=some (dt<|HD U0<|aW Q0 x ⟨(Q0 x).key,some y,false,(Q0 x).below⟩):=zav lj;refine az (s':=⟨S.set j<|dt<|HD U0<|aW Q0 x ⟨(Q0 x).key,some y,false,(Q0 x).below⟩,[some<|.lc j,some<|.pl<|.str x,some<|.pl<|.str y,some<|.pl<|bH<|Q0 x]⟩) ((kC (r:=⟨(Q0 x).key,some y,false,(Q0 x).below⟩) (oA (xs:=[.pl<|.int (Q0 x).key,.pl<|.str y,.pl<|.bool false,.pl<|.tuple<|(Q0 x).below.map .str]) (aw (cz (ah rfl) cK rfl)<|aw (ah rfl)<|aw cK<|aw (cz (ah rfl) cK rfl) bh) rfl (by simp)) (ah rfl) (ah rfl) I hk).trans (by rw[jh M])) ?_
 have d:=dX (U0:=U0) (Q0:=aW Q0 x ⟨(Q0 x).key,some y,false,(Q0 x).below⟩) (n:=y) (i:=0) (b:=ai 2) (ρ:=vw ⟨S.set j<|dt<|HD U0<|aW Q0 x ⟨(Q0 x).key,some y,false,(Q0 x).below⟩,[some<|.lc j,some<|.pl<|.str x,some<|.pl<|.str y,some<|.pl<|bH<|Q0 x]⟩) (.inl<|bC rfl<|cE a) O (aA<|bT rfl);rw[aI _ _ ne]at d;refine az (s':=⟨S.set j<|dt<|HD U0<|aW Q0 x ⟨(Q0 x).key,some y,false,(Q0 x).below⟩,[some<|.lc j,some<|.pl<|.str x,some<|.pl<|.str y,some<|.pl<|bH<|Q0 y]⟩) (bB (i:=3) (iW d<|dz _) (by simp)) ?_
 refine(kC (Q0:=aW Q0 x ⟨(Q0 x).key,some y,false,(Q0 x).below⟩) (r:=⟨(Q0 y).key,(Q0 y).above,(Q0 y).mark,(Q0 y).below++[x]⟩) (oA (xs:=[.pl<|.int (Q0 y).key,.pl<|iU (Q0 y).above,.pl<|.bool (Q0 y).mark,.pl<|.tuple<|((Q0 y).below++[x]).map .str]) (aw (cz (ah rfl) cK rfl)<|aw (cz (ah rfl) cK rfl)<|aw (cz (ah rfl) cK rfl)<|aw (iW (Kb U (aA<|bT rfl)<|j8 (rs:=[(.str x,.fz)]) (aK (ar<|aA<|bT rfl) a9) rfl (by simp))<|As _) bh) rfl (by simp)) (ah rfl) (ah rfl) a hk).trans ?_
 rw[jh O,List.set_set];unfold bI;rw[aI _ _ ne]
theorem wo(h:I s=some (.ok false s')):f7 kp I b (n+1) s=some (.nx s'):=by
 unfold f7;rw[d5 h,if_neg zam]
theorem Hk(M:I s=some (.ok true s1))(O:b s1=some (.nx s2))(h3:gcE s1.S.length kp s2=U)(h4:f7 kp I b n U=o):f7 kp I b (n+1) s=o:=by
 unfold f7;rw[d5 M,if_pos rfl,O];dsimp only;rw[h3];exact h4
theorem Ke(h:a s=some (.ok (.lc k) s1))(I:s1.S[k]?=some (dt<|AL al))(M:m s1=some (.ok [.pl<|.int (d:Int)] s2))(O:s2.S[k]?=some (dt<|AL al))(hl:al.lookup d=some t):lC a m s=some (.ok (.pl<|.str t) ⟨s2.S.set k<|dt<|AL<|al.filter λp=>decide<|p.1≠d,s2.t⟩):=by
 unfold lC;rw[c9 h];simp only[qm,I,if_true];rw[c9 M];unfold yq;dsimp only[keyOf,Option.bind_some];rw[O];dsimp only;rw[qQ,hl,J0];rfl
section
variable{α:Type}
theorem NP{a b x : α}:(S++a::b::X).set (S.length+1) x=S++a::x::X:=by
 rw[List.set_append_right _ _ (by lia),Nat.add_sub_cancel_left];rfl
theorem PF{a b e x : α}:(S++a::b::e::X).set (S.length+2) x=S++a::b::x::X:=by
 rw[List.set_append_right _ _ (by lia),Nat.add_sub_cancel_left];rfl
end
abbrev Sa(B:List<|Option Cl)(U0:List Str)(Q0:Str->aG.Row)(al:List<|Nat×Str)(sts:List<|Str×Str):List (Option Cl):=B++[dt<|HD U0 Q0,dt<|AL al,dt<|.list<|sts.map stH]
abbrev fh(pile:SV)(N:Nat)(x4 x5 M O:Option SV):List (Option SV):=[some pile,some<|.lc N,some<|.lc<|N+1,some<|.lc<|N+2,x4,x5,M,O]
structure Al(T0:List Str)(eI:Str->aG.Row)(sts:List<|Str×Str)(T:List Str)(Q0:Str->aG.Row)(al:List<|Nat×Str)(on:Str)(T1:List Str):Prop where
 hs:Hs T0 eI sts T Q0
 nk:(al.map Prod.fst).Nodup
 ae:∀p∈al,p.2∈T/\(Q0 p.2).below.length=p.1/\p.2≠on/\p.2∉T1
 oo:on∈T/\on∉T1
 rs:∀t∈T1,t∈T
 cov:∀t∈T,t=on\/(∃p∈al,p.2=t)\/t∈T1
theorem wq:∀{al:List<|Nat×Str},al.lookup d=some t->(d,t)∈al
 |(e,u)::al,h=>by
  by_cases z:d=e
  ·subst z;rw[za8,beq_self_eq_true]at h;cases h;exact zas
  ·rw[za8,beq_eq_false_iff_ne.mpr z]at h;exact zak _ (wq h)
theorem wt:∀{al:List<|Nat×Str},(al.map Prod.fst).Nodup->∀{p q:Nat×Str},p∈al->q∈al->p.1=q.1->p=q
 |x::al,nd,p,q,f,g,e=>by
  rw[zaz,List.nodup_cons]at nd;rcases zaf f with rfl|a<;>rcases zaf g with rfl|b
  ·rfl
  ·exact absurd (e▸List.mem_map_of_mem b) nd.1
  ·exact absurd (e▸List.mem_map_of_mem a) nd.1
  ·exact wt nd.2 a b e
theorem Al.turn{T:List Str}{al:List<|Nat×Str}{on:Str}{T1:List Str}(A:Al T0 eI sts T Q0 al on T1)(M:T.Nodup){t x y:Str}(hl:al.lookup (Q0 on).below.length=some t)(I:(x=on/\y=t)\/(x=t/\y=on))(lt:aR (Q0 y).key y (Q0 x).key x=true) :
  y≠x/\x∈T/\y∈T/\Al T0 eI (sts++[(x,y)]) (T.erase x) (bI Q0 x y) (al.filter λp=>decide<|p.1≠(Q0 on).below.length) y T1:=by
 have mt:=wq hl;obtain⟨n,D,q,s⟩:=A.ae _ mt;dsimp only at n D q s;have ne:y≠x:=by rcases I with⟨rfl,rfl⟩|⟨rfl,rfl⟩<;>first|exact q|exact λe=>q e.symm
 have l:x∈T/\x∉T1:=by rcases I with⟨rfl,rfl⟩|⟨rfl,rfl⟩<;>first|exact A.oo|exact⟨n,s⟩
 have f:y∈T/\y∉T1:=by rcases I with⟨rfl,rfl⟩|⟨rfl,rfl⟩<;>first|exact A.oo|exact⟨n,s⟩
 have F:(Q0 x).below.length=(Q0 y).below.length:=by rcases I with⟨rfl,rfl⟩|⟨rfl,rfl⟩<;>lia
 have er:∀{u:Str},u∈T->u≠x->u∈T.erase x:=fun{u} b g=>(za9 M).mpr ⟨g,b⟩
 have oth:∀p∈al,p.1≠(Q0 on).below.length->p.2≠x/\p.2≠y:=λp a hd=>by
  obtain⟨v,p2,m,w⟩:=A.ae p a;have pt:p.2≠t:=λe=>hd (by rw[<-p2,e];exact D)
  rcases I with⟨rfl,rfl⟩|⟨rfl,rfl⟩
  ·exact⟨m,pt⟩
  ·exact⟨pt,m⟩
 refine⟨ne,l.1,f.1,A.hs.snoc l.1 f.1 ne lt F,A.nk.sublist<|List.filter_sublist.map _,λp a=>?_,⟨er f.1 ne,f.2⟩,λu d=>er (A.rs u d) λe=>l.2<|e▸d,λu d=>?_⟩
 ·obtain⟨b,g⟩:=List.mem_filter.mp a
  have hd:p.1≠(Q0 on).below.length:=of_decide_eq_true g;obtain⟨v,p2,m,w⟩:=A.ae p b;obtain⟨B,C⟩:=oth p b hd;exact⟨er v B,by rw[cg C B];exact p2,C,w⟩
 ·obtain⟨E,G⟩:=(za9 M).mp d
  rcases A.cov u G with rfl|⟨p,a,rfl⟩|h
  ·rcases I with⟨rfl,rfl⟩|⟨rfl,rfl⟩
   ·exact absurd rfl E
   ·exact .inl rfl
  ·by_cases hd:p.1=(Q0 on).below.length
   ·have:=wt A.nk a mt hd
    subst this;rcases I with⟨rfl,rfl⟩|⟨rfl,rfl⟩
    ·exact .inl rfl
    ·exact absurd rfl E
   ·exact .inr (.inl ⟨p,List.mem_filter.mpr ⟨a,zaH hd⟩,rfl⟩)
  ·exact .inr (.inr h)
theorem Kf(hc:c<=600)(h0:Bk c T0 U0 eI)(f0:Fm U0 eI){M:SV}(hpl:blV (B.length+3) M=true){T1:List Str}{x4:SV}(h4:blV (B.length+3) x4=true):∀(m:Nat) (al:List<|Nat×Str) (sts:List<|Str×Str) (T:List Str) (Q0:Str->aG.Row) (on:Str) (x6 U:Option SV) (I:Nat),al.length<=m->m<I->oz (B.length+3) [x6,U]=true->Al T0 eI sts T Q0 al on T1->
  ∃Y sI T' aV on' x6' O,f7 [0,1,2,3,4,5] lG lH I ⟨Sa B U0 Q0 al sts,fh M B.length (some x4) (some<|.pl<|.str on) x6 U⟩=some (.nx ⟨Sa B U0 aV Y sI,fh M B.length (some x4) (some<|.pl<|.str on') x6' O⟩)/\Al T0 eI sI T' aV Y on' T1/\Y.lookup (aV on').below.length=none/\oz (B.length+3) [x6',O]=true:=by
 intro m
 induction m with
 |zero=>
  intro al sts T Q0 on x6 U I hm F g A;obtain⟨I,rfl⟩:∃k,I=k+1:=⟨I-1,by lia⟩
  obtain rfl:al=[]:=List.eq_nil_of_length_eq_zero (by lia)
  obtain⟨b,E⟩:=A.hs.inv h0 f0;have a:=(b.tk on A.oo.1).1;refine⟨[],sts,T,Q0,on,x6,U,wo<|cy<|test_ev (k:=.fz)<|bE (r:=(AL [],.fz)) (Q1:=(.bool false,false)) (ar<|oq<|dX (.inl<|bC rfl<|cE ap0) a<|aA<|bT rfl) (ar<|aA<|bC rfl<|cE<|apk (k:=1) rfl)<|Lj _ _,A,rfl,g⟩
 |succ m H=>
  intro al sts T Q0 on x6 U I hm F g A;obtain⟨I,rfl⟩:∃k,I=k+1:=⟨I-1,by lia⟩
  obtain⟨b,E⟩:=A.hs.inv h0 f0;have a:=(b.tk on A.oo.1).1;have kl:=b.kl;have sl:=A.hs.len;have L:=h0.tl;have d:nTo (a0<|mOp vI (mCB gv<|aB (mOp gIx (mOp dW (ai 1)<|ai 5)<|mC<|.int 3) aZ)<|ai 2) ⟨Sa B U0 Q0 al sts,fh M B.length (some x4) (some<|.pl<|.str on) x6 U⟩=some (.ok (al.lookup (Q0 on).below.length).isSome ⟨Sa B U0 Q0 al sts,fh M B.length (some x4) (some<|.pl<|.str on) x6 U⟩):=cy (test_ev (k:=.fz)<|bE (r:=(AL al,.fz)) (Q1:=(.bool (al.lookup (Q0 on).below.length).isSome,false)) (ar<|oq<|dX (.inl<|bC rfl<|cE ap0) a<|aA<|bT rfl) (ar<|aA<|bC rfl<|cE<|apk (k:=1) rfl)<|Lj _ _);cases f:al.lookup (Q0 on).below.length with
  |none=>
   rw[f]at d;exact⟨al,sts,T,Q0,on,x6,U,wo d,A,f,g⟩
  |some t=>
   rw[f]at d;have mt:=wq f;obtain⟨J,R,K,_⟩:=A.ae _ mt;have htk:=(b.tk t J).1;obtain⟨x,y,N,lt,e⟩:∃x y,((x=on/\y=t)\/(x=t/\y=on))/\aR (Q0 y).key y (Q0 x).key x=true/\∃O,oz (B.length+3) [O]=true/\fw (nTo<|a0<|mOp Gn (cM bR<|aB (ai 1)<|aB (ai 6) aZ)<|cM bR<|aB (ai 1)<|aB (ai 5) aZ) (aY (bG (aE 6)<|ngN 7)<|aY (bG (aE 5)<|ngN 6)<|bG (aE 7)<|ngN 5) dE ⟨Sa B U0 Q0 (al.filter λp=>decide<|p.1≠(Q0 on).below.length) sts,fh M B.length (some x4) (some<|.pl<|.str on) (some<|.pl<|.str t) U⟩=some (.nx ⟨Sa B U0 Q0 (al.filter λp=>decide<|p.1≠(Q0 on).below.length) sts,fh M B.length (some x4) (some<|.pl<|.str y) (some<|.pl<|.str x) O⟩):=by
    have tl:nTo (a0<|mOp Gn (cM bR<|aB (ai 1)<|aB (ai 6) aZ)<|cM bR<|aB (ai 1)<|aB (ai 5) aZ) ⟨Sa B U0 Q0 (al.filter λp=>decide<|p.1≠(Q0 on).below.length) sts,fh M B.length (some x4) (some<|.pl<|.str on) (some<|.pl<|.str t) U⟩=some (.ok (aR (Q0 t).key t (Q0 on).key on) ⟨Sa B U0 Q0 (al.filter λp=>decide<|p.1≠(Q0 on).below.length) sts,fh M B.length (some x4) (some<|.pl<|.str on) (some<|.pl<|.str t) U⟩):=cy (test_ev (k:=.fz)<|bE (r:=(.tuple [.int (Q0 on).key,.str on],.fz)) (Q1:=(.bool<|aR (Q0 t).key t (Q0 on).key on,false)) (ar<|cC (rs:=[(HD U0 Q0,.fz),(.str t,.fz)]) (aK (ar<|aA<|bC rfl<|cE ap0)<|aK (ar<|aA<|bT rfl) a9) (g9 htk) rfl) (ar<|cC (rs:=[(HD U0 Q0,.fz),(.str on,.fz)]) (aK (ar<|aA<|bC rfl<|cE ap0)<|aK (ar<|aA<|bT rfl) a9) (g9 a) rfl) rfl)
    cases l:aR (Q0 t).key t (Q0 on).key on with
    |true=>
     rw[l]at tl;exact⟨on,t,.inl ⟨rfl,rfl⟩,l,some<|.pl<|.str t,rfl,jQ tl<|az (bB (i:=7) (ah rfl) (by simp))<|az (bB (i:=6) (ah rfl) (by simp))<|bB (i:=5) (ah rfl) (by simp)⟩
    |false=>
     rw[l]at tl;exact⟨t,on,.inr ⟨rfl,rfl⟩,lO K l,U,(by simp[oz]at g⊢;exact g.2),dy tl rfl⟩
   obtain⟨O,n,e⟩:=e;obtain⟨ne,o,s,A'⟩:=A.turn b.tn f N lt;have q:=(b.tk x o).1;have h:=(b.tk y s).1;have G:(al.filter λp=>decide<|p.1≠(Q0 on).below.length).length<al.length:=List.length_filter_lt_length_iff_exists.mpr ⟨_,mt,by simp⟩
   obtain⟨Y,sI,T',aV,on',P,Q,v,w,C,D⟩:=H (al.filter λp=>decide<|p.1≠(Q0 on).below.length) (sts++[(x,y)]) (T.erase x) (bI Q0 x y) y (some<|.pl<|.str x) O I (by lia) (by lia) (by simp[oz,blV]at n⊢;exact n) A'
   refine⟨Y,sI,T',aV,on',P,Q,Hk d ?_ (oB (by simp) (by simp[oz,hpl,h4,blV]at n⊢;exact n)) v,w,C,D⟩
   refine az (s':=⟨Sa B U0 Q0 (al.filter λp=>decide<|p.1≠(Q0 on).below.length) sts,fh M B.length (some x4) (some<|.pl<|.str on) (some<|.pl<|.str t) U⟩) ((bB (i:=6) (Ke (ah rfl) (apk (k:=1) rfl) (aw (iX<|oq<|dX (.inl<|bC rfl<|cE ap0) a<|aA<|bT rfl) bh) (apk (k:=1) rfl) f) (by simp)).trans (by dsimp only;rw[NP];rfl)) ?_
   refine az e ?_;have u:=Kc q h ne (Q0:=Q0) (by lia) (by have:=(b.bl y h).1;lia) (S:=Sa B U0 Q0 (al.filter λp=>decide<|p.1≠(Q0 on).below.length) sts) (j:=B.length) ap0
   rw[Ar]at u;refine az (s':=⟨Sa B U0 (bI Q0 x y) (al.filter λp=>decide<|p.1≠(Q0 on).below.length) sts,fh M B.length (some x4) (some<|.pl<|.str y) (some<|.pl<|.str x) O⟩) (dN<|cj (aw (ah rfl)<|aw (ah rfl)<|aw (ah rfl) bh) u) ?_
   refine(dN<|wk (ah rfl) (apk (k:=2) rfl) (aw (oA (xs:=[.pl<|.str "hang",.pl<|.str x,.pl<|.str y]) (aw cK<|aw (ah rfl)<|aw (ah rfl) bh) rfl (by simp)) bh) (apk (k:=2) rfl) (by rw[zal];lia)).trans ?_
   dsimp only;rw[PF];show _=some (gy.nx ⟨B++[_,_,dt<|.list<|(sts++[(x,y)]).map stH],_⟩);rw[za1];rfl
structure Am(T0:List Str)(eI:Str->aG.Row)(sts:List<|Str×Str)(T:List Str)(Q0:Str->aG.Row)(al:List<|Nat×Str)(T1:List Str):Prop where
 hs:Hs T0 eI sts T Q0
 nk:(al.map Prod.fst).Nodup
 ae:∀p∈al,p.2∈T/\(Q0 p.2).below.length=p.1/\p.2∉T1
 rs:∀t∈T1,t∈T
 cov:∀t∈T,(∃p∈al,p.2=t)\/t∈T1
 nd:T1.Nodup
theorem Cq:∀{al:List<|Nat×Str},al.lookup d=none->∀p∈al,p.1≠d
 |(e,u)::al,h,p,a=>by
  by_cases z:d=e
  ·subst z;rw[za8,beq_self_eq_true]at h;cases h
  ·rw[za8,beq_eq_false_iff_ne.mpr z]at h
   rcases zaf a with rfl|a
   ·exact λw=>z w.symm
   ·exact Cq h p a
theorem Hl(O:v s=some (.ok (.pl<|.str t) s1))(hd:d s1=some (.ok (.lc j) s2))(hk:k s2=some (.ok (.pl<|.int (n:Int)) I))(M:I.S[j]?=some (dt<|AL al))(hl:al.length<=1000)(hn:al.lookup n=none):gr d k v s=some (.nx ⟨I.S.set j<|dt<|AL<|al++[(n,t)],I.t⟩):=by
 unfold gr;rw[d5 O,d5 hd,d5 hk];unfold Gu;dsimp only[keyOf,Option.bind_some];rw[M];dsimp only;rw[bA (by unfold alL;rw[zal];lia),NN hn]
theorem Kg(hc:c<=600)(h0:Bk c T0 U0 eI)(f0:Fm U0 eI)(Y:blV (B.length+3) pile=true)(hp:B[p]?=some (dt<|TD T0)):∀(T1:List Str) (al:List<|Nat×Str) (sts:List<|Str×Str) (T:List Str) (Q0:Str->aG.Row) (x4 x5 M O:Option SV),oz (B.length+3) [M,O]=true->Am T0 eI sts T Q0 al T1->
  ∃I U T' aV y4 y5 y6 y7,f9 (B.length+3) [0,1,2,3] (stays (.lc p)<|(T0.map PyData.str).map .pl) (ngN 4) lI ((T1.map PyData.str).map .pl) ⟨Sa B U0 Q0 al sts,fh pile B.length x4 x5 M O⟩=some (.nx ⟨Sa B U0 aV I U,fh pile B.length y4 y5 y6 y7⟩)/\Am T0 eI U T' aV I []:=by
 intro T1
 induction T1 with
 |nil=>intro al sts T Q0 x4 x5 M O _ A;exact⟨al,sts,T,Q0,x4,x5,M,O,pV<|oD<|aS hp,A⟩
 |cons t T1 S=>
  intro al sts T Q0 x4 x5 M O P A;obtain⟨nt,C⟩:=List.nodup_cons.mp A.nd;have H:Al T0 eI sts T Q0 al t T1:=⟨A.hs,A.nk,λq f=>(let⟨l,v,E⟩:=A.ae q f;⟨l,v,λe=>E (by rw[e];exact zas),λz=>E<|zak _ z⟩),⟨A.rs t zas,nt⟩,λu m=>A.rs u<|zak _ m,λu m=>by
   rcases A.cov u m with h|h
   ·exact .inr (.inl h)
   ·rcases zaf h with h|h
    ·exact .inl h
    ·exact .inr (.inr h)⟩
  have all:∀{al:List<|Nat×Str} {sts:List<|Str×Str} {T:List Str} {Q0:Str->aG.Row},Hs T0 eI sts T Q0->(al.map Prod.fst).Nodup->(∀q∈al,q.2∈T/\(Q0 q.2).below.length=q.1)->al.length<=601:=fun{al sts T Q0} hs nk ae=>by
   obtain⟨w,_⟩:=hs.inv h0 f0;have:=aG.g8 (al.map Prod.fst) (List.range 601) nk λd hd=>by
    obtain⟨q,f,rfl⟩:=List.mem_map.mp hd;obtain⟨l,v⟩:=ae q f;have:=(w.bl q.2 (w.tk q.2 l).1).1;exact List.mem_range.mpr (by lia)
   simpa using this
  obtain⟨I,U,T',aV,g,o,s,w1,j,G,D⟩:=Kf hc h0 f0 Y (x4:=.pl<|.str t) rfl (T1:=T1) al.length al sts T Q0 t M O 1000000 (zap _) (by have:=all A.hs A.nk λq f=>⟨(A.ae q f).1,(A.ae q f).2.1⟩;lia) P H
  obtain⟨w,_⟩:=j.hs.inv h0 f0;have y:=(w.tk g j.oo.1).1;have J:Am T0 eI U T' aV (I++[((aV g).below.length,g)]) T1:=by
   refine⟨j.hs,?_,λq f=>?_,j.rs,λu m=>?_,C⟩
   ·rw[za1,List.nodup_append]
    refine⟨j.nk,by simp,λa ha b F e=>?_⟩
    obtain⟨q,f,rfl⟩:=List.mem_map.mp ha;rw[List.map_singleton,List.mem_singleton]at F;exact Cq G q f (e.trans F)
   ·rcases zae f with f|f
    ·obtain⟨l,v,_,N⟩:=j.ae q f
     exact⟨l,v,N⟩
    ·rw[zad f];exact⟨j.oo.1,rfl,j.oo.2⟩
   ·rcases j.cov u m with rfl|⟨q,f,e⟩|h
    ·exact .inl ⟨_,zan _<|List.mem_singleton.mpr rfl,rfl⟩
    ·exact .inl ⟨q,zaW _ f,e⟩
    ·exact .inr h
  obtain⟨x,K,L,n,y4,y5,y6,y7,Q,R⟩:=S (I++[((aV g).below.length,g)]) U T' aV (some<|.pl<|.str t) (some<|.pl<|.str g) o s D J;refine⟨x,K,L,n,y4,y5,y6,y7,?_,R⟩;refine m5 (s1:=⟨Sa B U0 Q0 al sts,fh pile B.length (some<|.pl<|.str t) x5 M O⟩) (s2:=⟨Sa B U0 aV (I++[((aV g).below.length,g)]) U,fh pile B.length (some<|.pl<|.str t) (some<|.pl<|.str g) o s⟩) (oD<|aS hp) (Aq (by simp)) ?_ (oB (by simp) (by simp[oz,Y,blV]at D⊢;exact D)) Q
  refine az (s':=⟨Sa B U0 Q0 al sts,fh pile B.length (some<|.pl<|.str t) (some<|.pl<|.str t) M O⟩) (bB (i:=5) (ah rfl) (by simp)) ?_
  refine az w1 ((Hl (ah rfl) (ah rfl) (iX<|oq<|dX (.inl<|bC rfl<|cE ap0) y<|aA<|bT rfl) (apk (k:=1) rfl) (by have:=all j.hs j.nk λq f=>⟨(j.ae q f).1,(j.ae q f).2.1⟩;lia) G).trans ?_)
  dsimp only;rw[NP]
theorem Hm(U:c<=600)(I:Bk c T0 U0 eI)(f0:Fm U0 eI)(M:S[p]?=some (dt<|TD T0))(O:S[q]?=some (dt<|HD U0 eI)) :
  ∃(sts:List<|Str×Str) (T:List Str) (Q0:Str->aG.Row) (al:List<|Nat×Str),ip S [.tp [.lc p,.lc q]]=some (.ok (.tp [.tp [.lc<|S.length+3,.lc S.length],.lc<|S.length+2])<|S++[dt<|HD U0 Q0,dt<|AL al,dt<|.list<|sts.map stH,dt<|TD T])/\Hs T0 eI sts T Q0/\∀t∈T,∀u∈T,(Q0 t).below.length=(Q0 u).below.length->t=u:=by
 have E:=bK M;have F:=bK O;have D:=I.tl;obtain⟨al,sts,T,Q0,b,f,g,j,lo,A⟩:=Kg U I f0 (B:=S) (pile:=.tp [.lc p,.lc q]) (by simp[blV,iO];lia) M T0 [] [] T0 eI none none none none rfl ⟨.nil,List.nodup_nil,(λq O=>by cases O),λt a=>a,λt a=>.inr a,I.tn⟩
 obtain⟨w,_⟩:=A.hs.inv I f0;refine⟨sts,T,Q0,al,?_,A.hs,λt a u x e=>?_⟩
 ·refine kD (t':=fh (.tp [.lc p,.lc q]) S.length b f g j) rfl ?_ (by simp[blV,iO])
  refine az (s':=⟨S++[dt<|HD U0 eI],[some<|.tp [.lc p,.lc q],some<|.lc S.length,none,none,none,none,none,none]⟩) (bB (i:=1) (s':=⟨S++[dt<|HD U0 eI],[some<|.tp [.lc p,.lc q],none,none,none,none,none,none,none]⟩) (ia (eg (rs:=[(HD U0 eI,.fz)]) (Q1:=(HD U0 eI,true)) (aK (ar<|jP<|bC rfl<|cG M O) a9) rfl)<|my U0 eI) (by simp)) ?_
  refine az (s':=⟨S++[dt<|HD U0 eI,dt<|AL []],[some<|.tp [.lc p,.lc q],some<|.lc S.length,some<|.lc<|S.length+1,none,none,none,none,none]⟩) (bB (i:=2) (qt (k:=1) (d:=.dict []) rfl rfl rfl) (by simp)) ?_
  refine az (s':=⟨Sa S U0 eI [] [],fh (.tp [.lc p,.lc q]) S.length none none none none⟩) ((bB (i:=3) Cm (by simp)).trans (by dsimp only;rw[Ka,zaD];rfl)) ?_
  refine az (s':=⟨Sa S U0 Q0 al sts,fh (.tp [.lc p,.lc q]) S.length b f g j⟩) (sF (ds:=T0.map .str) (s1:=⟨Sa S U0 eI [] [],fh (.tp [.lc p,.lc q]) S.length none none none none⟩) (cz (ah rfl) cK rfl) (aS M) (by dsimp only;rw[show(Sa S U0 eI [] []).length=S.length+3 by simp];exact lo)) ?_
  have s:([("held",1)]:List<|Str×Nat).map (λz=>bQ (vw ⟨Sa S U0 Q0 al sts,fh (.tp [.lc p,.lc q]) S.length b f g j⟩) z.2)=[.fz<|HD U0 Q0]:=by
   show [bQ (vw ⟨Sa S U0 Q0 al sts,fh (.tp [.lc p,.lc q]) S.length b f g j⟩) 1]=_;unfold bQ;rw[bC (d:=HD U0 Q0) rfl<|cE ap0]
  have v:=A.hs.av I.tn λt a=>(I.tk t a).2
  have o:mLC [("held",1)] (vx<|mOp gIx (ai 0)<|mC<|.int 0) lE lF (vw ⟨Sa S U0 Q0 al sts,fh (.tp [.lc p,.lc q]) S.length b f g j⟩)=some ((TD T,.new),vw ⟨Sa S U0 Q0 al sts,fh (.tp [.lc p,.lc q]) S.length b f g j⟩):=by
   refine xM (zS<|ar<|lP (av:=T0) (U0:=U0) (Q0:=eI)<|bC rfl<|cG (aS M)<|aS O) ?_ (by rw[zal];have:=w.tl;lia)
   rw[s,v];exact gj (p:=λn=>(Q0 n).above.isNone) T0 (λn hn=>⟨_,test_ev (k:=.fz)<|bE (r:=(.none,.fz)) (Q1:=(.bool (Q0 n).above.isNone,false)) (ar<|eW<|dX (i:=1) (.inl rfl) (I.tk n hn).1 (aA rfl)) (ar rfl)<|sD _⟩) λn hn=>⟨_,ar<|aA rfl⟩
  exact cR (fG (xs:=[.tp [.lc<|S.length+3,.lc S.length],.lc<|S.length+2]) (aw (fG (xs:=[.lc<|S.length+3,.lc S.length]) (aw (qt (k:=3) o (jj _) rfl)<|aw (ah rfl) bh) rfl (by simp))<|aw (ah rfl) bh) rfl (by simp))
 ·rcases A.cov t a with⟨y,l,rfl⟩|h
  ·rcases A.cov u x with⟨C,m,rfl⟩|h
   ·rw[(A.ae y l).2.1,(A.ae C m).2.1]at e
    rw[wt A.nk l m e]
   ·cases h
  ·cases h
def bz(U0:List Str)(n:Str):List Str:=U0.filter λx=>!decide (x=n)
theorem bU:m∈bz U0 n↔m∈U0/\m≠n:=by
 unfold bz;rw[List.mem_filter];simp
def free(Q0:Str->aG.Row)(l:List Str):Str->aG.Row:=λm=>if m∈l then⟨(Q0 m).key,none,false,(Q0 m).below⟩else Q0 m
def jk(h:m∈l):free Q0 l m=⟨(Q0 m).key,none,false,(Q0 m).below⟩:=if_pos h
def eJ(h:m∉l):free Q0 l m=Q0 m:=if_neg h
theorem gR(l:List Str)(m:Str):(free Q0 l m).key=(Q0 m).key/\(free Q0 l m).below=(Q0 m).below:=by
 by_cases h:m∈l
 ·rw[jk h];exact⟨rfl,rfl⟩
 ·rw[eJ h];exact⟨rfl,rfl⟩
theorem D1(l:List Str)(b:Str):free Q0 (l++[b])=aW (free Q0 l) b ⟨(free Q0 l b).key,none,false,(free Q0 l b).below⟩:=by
 funext m
 by_cases e:m=b
 ·subst e
  rw[aO,jk (by simp),(gR l m).1,(gR l m).2]
 ·rw[aI _ _ e]
  by_cases h:m∈l
  ·rw[jk h,jk<|zaW _ h]
  ·rw[eJ h,eJ λz=>(zae z).elim h λw=>e<|zad w]
theorem uT{Q0:Str->aG.Row}(n:Str):∀U0:List Str,mP (cB U0 Q0) (.inr n)=cB (bz U0 n) Q0
 | []=>rfl
 |m::l=>by
  have a:=uT (Q0:=Q0) n l;unfold mP cB bz at a⊢;rw[zaz,List.filter_cons,List.filter_cons];have e:(decide<|keyOf (PyData.str m)≠some (Sum.inr n))= !decide (m=n):=by
   by_cases z:m=n
   ·subst z;rw[zaH rfl];exact zaO λw=>w rfl
   ·rw[zaO z]
    refine zaH λw=>z ?_
    have w':some (Sum.inr m:Key)=some (Sum.inr n):=w;injection w' with w;injection w
  dsimp only;rw[e];split
  ·rw[zaz,a]
  ·exact a
theorem sJ(h:Bk c av U0 Q0)(f:Fm U0 Q0)(hn:n∈av):Bk c (bz av n++(Q0 n).below) (bz U0 n) (free Q0 (Q0 n).below)/\Fm (bz U0 n) (free Q0 (Q0 n).below)/\mk (bz U0 n) (free Q0 (Q0 n).below)<=mk U0 Q0:=by
 have hk:=(h.tk n hn).1;have F:=f.up n hk;have E:∀b∈(Q0 n).below,b≠n/\b∉av:=λb l=>by
  have q:=(F b l).2;refine⟨λe=>?_,λz=>?_⟩
  ·rw[e,(h.tk n hn).2]at q;cases q
  ·rw[(h.tk b z).2]at q;cases q
 have ab:∀m,m∈bz U0 n->∀a,(free Q0 (Q0 n).below m).above=some a->m∉(Q0 n).below/\(Q0 m).above=some a/\a≠n:=λm hm a e=>by
  by_cases z:m∈(Q0 n).below
  ·rw[jk z]at e;cases e
  ·rw[eJ z]at e
   refine⟨z,e,λw=>z ?_⟩
   subst w;exact f.dn m (bU.mp hm).1 a e
 have un:∀m,m∈bz U0 n->∀b∈(Q0 m).below,b∈bz U0 n/\b∉(Q0 n).below/\(Q0 b).above=some m:=λm hm b l=>by
  obtain⟨P,Q⟩:=bU.mp hm;obtain⟨C,u⟩:=f.up m P b l;refine⟨bU.mpr ⟨C,λe=>?_⟩,λz=>?_,u⟩
  ·rw[e,(h.tk n hn).2]at u;cases u
  ·rw[(F b z).2]at u;cases u;exact Q rfl
 have l:Bt (λm=>(Q0 m).key) c (bz av n++(Q0 n).below) (bz U0 n) (free Q0 (Q0 n).below):=by
  refine⟨h.nd.sublist List.filter_sublist,λm hm=>h.nm m (bU.mp hm).1,?_,λt A=>?_,λm hm e=>?_,λm hm e=>?_,λm hm a e=>?_,λm hm=>?_,λm hm a e=>?_⟩
  ·rw[List.nodup_append]
   exact⟨h.tn.sublist List.filter_sublist,f.nd n hk,λx L y N e=>(E y N).2 (e▸(bU.mp L).1)⟩
  ·rcases zae A with A|A
   ·obtain⟨G,R⟩:=bU.mp A
    rw[eJ λz=>(E t z).2 G]
    exact⟨bU.mpr ⟨(h.tk t G).1,R⟩,(h.tk t G).2⟩
   ·rw[jk A];exact⟨bU.mpr ⟨(F t A).1,(E t A).1⟩,rfl⟩
  ·by_cases z:m∈(Q0 n).below
   ·exact zan _ z
   ·rw[eJ z]at e
    exact zaW _ (bU.mpr ⟨h.ne m (bU.mp hm).1 e,(bU.mp hm).2⟩)
  ·by_cases z:m∈(Q0 n).below
   ·rw[jk z]at e;cases e
   ·rw[eJ z]at e⊢;exact h.mkd m (bU.mp hm).1 e
  ·obtain⟨K,D,H⟩:=ab m hm a e
   exact bU.mpr ⟨h.ab m (bU.mp hm).1 a D,H⟩
  ·rw[(gR _ m).2]
   exact⟨(h.bl m (bU.mp hm).1).1,λb l=>(un m hm b l).1⟩
  ·exact h.ho m (bU.mp hm).1 a (ab m hm a e).2.1
 refine⟨l.re λm _=>(gR _ m).1.symm,⟨λm hm=>?_,λm hm b l=>?_,λm hm a e=>?_,λm hm i b e=>?_⟩,?_⟩
 ·rw[(gR _ m).2];exact f.nd m (bU.mp hm).1
 ·rw[(gR _ m).2]at l
  obtain⟨C,u,J⟩:=un m hm b l;rw[eJ u];exact⟨C,J⟩
 ·obtain⟨K,D,H⟩:=ab m hm a e
  rw[(gR _ a).2];exact f.dn m (bU.mp hm).1 a D
 ·rw[(gR _ m).2]at e
  obtain⟨C,u,J⟩:=un m hm b (zaj e);rw[eJ u];exact f.dg m (bU.mp hm).1 i b e
 ·unfold mk bz
  rw[List.filter_filter,<-List.countP_eq_length_filter,<-List.countP_eq_length_filter];refine List.countP_mono_left λm _ e=>?_
  rw[Bool.and_eq_true]at e
  by_cases z:m∈(Q0 n).below
  ·rw[jk z]at e;cases e.1
  ·rw[eJ z]at e;exact e.1
def stF(b:Str):D:=.tuple [.str "free",.str b]
theorem lQ{α:Type}{f : α->D}(h:∀x,dZ (f x)=true)(l:List α):dk (.list<|l.map f) true=true:=by
 show a8 (l.map f)=true
 induction l with
 |nil=>rfl
 |cons x l a=>simp only[List.map_cons,a8,a,Bool.and_true];exact h x
abbrev St(B:List<|Option Cl)(U0:List Str)(Q0:Str->aG.Row)(ts:List Str)(sts:List Str):List (Option Cl):=B++[dt<|HD U0 Q0,dt<|TD ts,dt<|.list<|sts.map stF]
abbrev ft(pile nm:SV)(N:Nat)(x3:SV)(M O:Option SV):List (Option SV):=[some pile,some nm,some<|.lc N,some x3,some<|.lc<|N+1,some<|.lc<|N+2,M,O]
theorem D2(U:blV (B.length+3) pile=true)(O:blV (B.length+3) nm=true)(h3:blV (B.length+3) x3=true)(hk:U0.length<=1000)(Y:ts.length<=1000):∀(l pre:List Str) (M:Option SV),(∀b∈l,b∈U0)->pre.length+l.length<=1000->
  ∃I,f9 (B.length+3) [0,1,2,3,4,5,7] (λ_=>True) (ngN 6) n6 ((l.map PyData.str).map .pl) ⟨St B U0 (free Q0 pre) (ts++pre) pre,ft pile nm B.length x3 M none⟩=some (.nx ⟨St B U0 (free Q0<|pre++l) (ts++(pre++l))<|pre++l,ft pile nm B.length x3 I none⟩):=by
 intro l
 induction l with
 |nil=>intro pre M _ _;rw[zaR];exact⟨M,yX⟩
 |cons b l h=>
  intro pre M hl g;rw[zaw]at g;have e:=hl b zas;obtain⟨I,a⟩:=h (pre++[b]) (some<|.pl<|.str b) (λy f=>hl y<|zak _ f) (by rw[zau,za7];lia)
  rw[zaD]at a;refine⟨I,uR (s1:=⟨St B U0 (free Q0 pre) (ts++pre) pre,ft pile nm B.length x3 (some<|.pl<|.str b) none⟩) (s2:=⟨St B U0 (free Q0<|pre++[b]) (ts++(pre++[b]))<|pre++[b],ft pile nm B.length x3 (some<|.pl<|.str b) none⟩) (Aq (by simp)) ?_ (oB (by simp) (by simp[oz,U,O,h3,blV])) a⟩
  refine az (s':=⟨St B U0 (free Q0<|pre++[b]) (ts++pre) pre,ft pile nm B.length x3 (some<|.pl<|.str b) none⟩) ((kC (r:=⟨(free Q0 pre b).key,none,false,(free Q0 pre b).below⟩) (iW (cC (rs:=[(bH<|free Q0 pre b,.fz)]) (aK (ar<|dX (.inl<|bC rfl<|cE ap0) e<|aA<|bT rfl) a9) (uQ _)<|dz _)<|dz _) (ah rfl) (ah rfl) ap0 hk).trans (by rw[jh e,Ar,D1])) ?_
  refine az (s':=⟨St B U0 (free Q0<|pre++[b]) (ts++(pre++[b])) pre,ft pile nm B.length x3 (some<|.pl<|.str b) none⟩) ((dN<|wk (ah rfl) (apk (k:=1) rfl) (aw (ah rfl) bh) (apk (k:=1) rfl) (by rw[zal,zau];lia)).trans (by dsimp only;rw[NP,yV,zaD])) ?_
  refine(dN<|wk (ah rfl) (apk (k:=2) rfl) (aw (oA (xs:=[.pl<|.str "free",.pl<|.str b]) (aw cK<|aw (ah rfl) bh) rfl (by simp)) bh) (apk (k:=2) rfl) (by rw[zal];lia)).trans ?_
  dsimp only;rw[PF];show _=some (gy.nx ⟨B++[_,_,dt<|.list<|(pre++[b]).map stF],_⟩);rw[za1];rfl
theorem kE:∀a b:List D,a8 (a++b)=(a8 a&&a8 b)
 | [],b=>by simp[a8]
 |x::a,b=>by simp only[List.cons_append,a8,kE a b,Bool.and_assoc]
theorem Hn(h:a s=some (.ok (.lc k) s1))(I:s1.S[k]?=some (dt<|HD U0 Q0))(M:m s1=some (.ok [.pl<|.str n] s2))(O:s2.S[k]?=some (dt<|HD U0 Q0))(hn:n∈U0):lC a m s=some (.ok (.pl<|bH<|Q0 n) ⟨s2.S.set k<|dt<|HD (bz U0 n) Q0,s2.t⟩):=by
 unfold lC;rw[c9 h];simp only[qm,I,if_true];rw[c9 M];unfold yq;dsimp only[keyOf,Option.bind_some];rw[O];dsimp only;rw[gE,if_pos hn,uT];rfl
def kF(fs:List Str)(hs:List<|Str×Str):List D:=fs.map stF++hs.map stH
theorem wu(O:c<=600)(h:Bk c av U0 Q0)(f:Fm U0 Q0)(hn:n∈av)(I:S[p]?=some (dt<|TD av))(M:S[q]?=some (dt<|HD U0 Q0)) :
  ∃(sts:List<|Str×Str) (T:List Str) (aV:Str->aG.Row) (X:List<|Option Cl),fK S [.tp [.lc p,.lc q],.pl<|.str n]=some (.ok (.tp [.pl<|.int (Q0 n).key,.tp [.lc<|S.length+6,.lc<|S.length+3],.lc<|S.length+7])<|S++X)/\(S++X)[S.length+6]?=some (dt<|TD T)/\(S++X)[S.length+3]?=some (dt<|HD (bz U0 n) aV)/\(S++X)[S.length+7]?=some (dt<|.list<|kF (Q0 n).below sts)/\Hs (bz av n++(Q0 n).below) (free Q0 (Q0 n).below) sts T aV/\∀t∈T,∀u∈T,(aV t).below.length=(aV u).below.length->t=u:=by
 have H:=bK I;have J:=bK M;have kl:=h.kl;have tl:=h.tl;have hk:=(h.tk n hn).1;have G:=h.bl n hk;have K:(bz av n).length<=av.length:=zaY _ _;have D:(bz U0 n).length<=U0.length:=zaY _ _;have F:∀X:List (Option Cl),rdV (S++X) (.tp [.lc p,.lc q])=some (PD av U0 Q0):=λX=>cG (aS I) (aS M)
 obtain⟨a,g,_⟩:=sJ h f hn;have w:∀b∈(Q0 n).below,b∈bz U0 n:=λb C=>(a.tk b<|zan _ C).1
 obtain⟨j,s⟩:=D2 (U0:=bz U0 n) (B:=S) (pile:=.tp [.lc p,.lc q]) (nm:=.pl<|.str n) (x3:=.pl<|bH<|Q0 n) (by simp[blV,iO];lia) rfl rfl (by lia) (ts:=bz av n) (by lia) (Q0:=Q0) (Q0 n).below [] none w (by simp;lia)
 rw[List.nil_append,zaR,show free Q0 []=Q0 from funext λm=>eJ (by simp)]at s
 obtain⟨sts,T,aV,al,l,o,A⟩:=Hm O a g (S:=St S (bz U0 n) (free Q0 (Q0 n).below) (bz av n++(Q0 n).below) (Q0 n).below) (p:=S.length+1) (q:=S.length) (apk (k:=1) rfl) ap0;rw[show(St S (bz U0 n) (free Q0 (Q0 n).below) (bz av n++(Q0 n).below) (Q0 n).below).length=S.length+3 by simp,zaD]at l
 have sl:=o.len;rw[zau]at sl;have e:mLC [("name",1)] (vx<|mOp gIx (ai 0)<|mC<|.int 0) n8 n9 (vw ⟨S++[dt<|HD (bz U0 n) Q0],[some<|.tp [.lc p,.lc q],some<|.pl<|.str n,some<|.lc S.length,some<|.pl<|bH<|Q0 n,none,none,none,none]⟩)=some ((TD<|bz av n,.new),vw ⟨S++[dt<|HD (bz U0 n) Q0],[some<|.tp [.lc p,.lc q],some<|.pl<|.str n,some<|.lc S.length,some<|.pl<|bH<|Q0 n,none,none,none,none]⟩):=by
  refine xM (zS<|ar<|lP (av:=av) (U0:=U0) (Q0:=Q0)<|bC rfl<|F _) ?_ (by rw[zal];lia)
  have y:([("name",1)]:List<|Str×Nat).map (λz=>bQ (vw ⟨S++[dt<|HD (bz U0 n) Q0],[some<|.tp [.lc p,.lc q],some<|.pl<|.str n,some<|.lc S.length,some<|.pl<|bH<|Q0 n,none,none,none,none]⟩) z.2)=[.fz<|.str n]:=by
   show [bQ (vw _) 1]=_;unfold bQ;rw[bT (d:=.str n) rfl]
  rw[y];exact gj (p:=λx=>!decide (x=n)) av (λx v=>⟨_,test_ev (k:=.fz)<|bE (r:=(.str n,.fz)) (Q1:=(.bool<|!decide (x=n),false)) (ar<|aA rfl) (ar<|aA rfl)<|qP (h.ok (h.tk x v).1)<|h.ok hk⟩) λx v=>⟨_,ar<|aA rfl⟩
 refine⟨sts,T,aV,[dt<|HD (bz U0 n)<|free Q0 (Q0 n).below,dt<|TD<|bz av n++(Q0 n).below,dt<|.list<|(Q0 n).below.map stF,dt<|HD (bz U0 n) aV,dt<|AL al,dt<|.list<|sts.map stH,dt<|TD T,dt<|.list<|kF (Q0 n).below sts],?_,apk (k:=6) rfl,apk (k:=3) rfl,apk (k:=7) rfl,o,A⟩;refine kD (t':=ft (.tp [.lc p,.lc q]) (.pl<|.str n) S.length (.pl<|bH<|Q0 n) j<|some<|.tp [.tp [.lc<|S.length+6,.lc<|S.length+3],.lc<|S.length+5]) rfl ?_ (by simp[blV,iO])
 refine az (s':=⟨S++[dt<|HD U0 Q0],[some<|.tp [.lc p,.lc q],some<|.pl<|.str n,some<|.lc S.length,none,none,none,none,none]⟩) (bB (i:=2) (s':=⟨S++[dt<|HD U0 Q0],[some<|.tp [.lc p,.lc q],some<|.pl<|.str n,none,none,none,none,none,none]⟩) (ia (eg (rs:=[(HD U0 Q0,.fz)]) (Q1:=(HD U0 Q0,true)) (aK (ar<|jP<|bC rfl<|cG I M) a9) rfl)<|my U0 Q0) (by simp)) ?_
 refine az (s':=⟨S++[dt<|HD (bz U0 n) Q0],[some<|.tp [.lc p,.lc q],some<|.pl<|.str n,some<|.lc S.length,some<|.pl<|bH<|Q0 n,none,none,none,none]⟩) ((bB (i:=3) (Hn (ah rfl) ap0 (aw (ah rfl) bh) ap0 hk) (by simp)).trans (by dsimp only;rw[Ar];rfl)) ?_
 refine az (s':=⟨S++[dt<|HD (bz U0 n) Q0,dt<|TD<|bz av n],[some<|.tp [.lc p,.lc q],some<|.pl<|.str n,some<|.lc S.length,some<|.pl<|bH<|Q0 n,some<|.lc<|S.length+1,none,none,none]⟩) (bB (i:=4) (qt (k:=1) e (jj _) rfl) (by simp)) ?_
 refine az (s':=⟨St S (bz U0 n) Q0 (bz av n) [],ft (.tp [.lc p,.lc q]) (.pl<|.str n) S.length (.pl<|bH<|Q0 n) none none⟩) ((bB (i:=5) Cm (by simp)).trans (by dsimp only;rw[Ka,zaD];rfl)) ?_
 refine az (s':=⟨St S (bz U0 n) (free Q0 (Q0 n).below) (bz av n++(Q0 n).below) (Q0 n).below,ft (.tp [.lc p,.lc q]) (.pl<|.str n) S.length (.pl<|bH<|Q0 n) j none⟩) (Cn (ds:=(Q0 n).below.map .str) (G8<|ar<|iD<|aA<|Hg rfl) (by dsimp only;rw[show(St S (bz U0 n) Q0 (bz av n) []).length=S.length+3 by simp];exact s)) ?_
 refine az (s':=⟨S++[dt<|HD (bz U0 n)<|free Q0 (Q0 n).below,dt<|TD<|bz av n++(Q0 n).below,dt<|.list<|(Q0 n).below.map stF,dt<|HD (bz U0 n) aV,dt<|AL al,dt<|.list<|sts.map stH,dt<|TD T],ft (.tp [.lc p,.lc q]) (.pl<|.str n) S.length (.pl<|bH<|Q0 n) j<|some<|.tp [.tp [.lc<|S.length+6,.lc<|S.length+3],.lc<|S.length+5]⟩) (bB (i:=7) (cj (aw (fG (xs:=[.lc<|S.length+1,.lc S.length]) (aw (ah rfl)<|aw (ah rfl) bh) rfl (by simp)) bh) l) (by simp)) ?_
 have E:rdV (S++[dt<|HD (bz U0 n)<|free Q0 (Q0 n).below,dt<|TD<|bz av n++(Q0 n).below,dt<|.list<|(Q0 n).below.map stF,dt<|HD (bz U0 n) aV,dt<|AL al,dt<|.list<|sts.map stH,dt<|TD T]) (.tp [.tp [.lc<|S.length+6,.lc<|S.length+3],.lc<|S.length+5])=some (.tuple [PD T (bz U0 n) aV,.list<|sts.map stH]):=by
  simp only[rdV,gq,apk (k:=6)<|show([dt<|HD (bz U0 n)<|free Q0 (Q0 n).below,dt<|TD<|bz av n++(Q0 n).below,dt<|.list<|(Q0 n).below.map stF,dt<|HD (bz U0 n) aV,dt<|AL al,dt<|.list<|sts.map stH,dt<|TD T]:List<|Option Cl)[6]?=some (dt<|TD T)from rfl,apk (k:=3)<|show([dt<|HD (bz U0 n)<|free Q0 (Q0 n).below,dt<|TD<|bz av n++(Q0 n).below,dt<|.list<|(Q0 n).below.map stF,dt<|HD (bz U0 n) aV,dt<|AL al,dt<|.list<|sts.map stH,dt<|TD T]:List<|Option Cl)[3]?=some (dt<|HD (bz U0 n) aV)from rfl,apk (k:=5)<|show([dt<|HD (bz U0 n)<|free Q0 (Q0 n).below,dt<|TD<|bz av n++(Q0 n).below,dt<|.list<|(Q0 n).below.map stF,dt<|HD (bz U0 n) aV,dt<|AL al,dt<|.list<|sts.map stH,dt<|TD T]:List<|Option Cl)[5]?=some (dt<|.list<|sts.map stH)from rfl,zai,zaT]
 refine cR (fG (xs:=[.pl<|.int (Q0 n).key,.tp [.lc<|S.length+6,.lc<|S.length+3],.lc<|S.length+7]) (aw (cz (ah rfl) cK rfl)<|aw (cz (ah rfl) cK rfl)<|aw (qt (k:=7) (bE (r:=(.list<|sts.map stH,.fz)) (Q1:=(.list<|kF (Q0 n).below sts,true)) (ar<|aA<|bC rfl<|cE<|apk (k:=2) rfl) (ar<|bE (r:=(.int 1,.fz)) (Q1:=(.list<|sts.map stH,false)) (ar<|aA<|bC rfl E) (ar rfl) rfl)<|o9 _ _ (by simp only[List.length_map];lia)) ?_ rfl) bh) rfl (by simp))
 show a8 (kF (Q0 n).below sts)=true;unfold kF;rw[kE,show a8 ((Q0 n).below.map stF)=true from lQ (λx=>rfl) _,show a8 (sts.map stH)=true from lQ (λx=>rfl) _];rfl
def bx{α:Type}{S:List α}{u : α}(h:x≠i):(S.set i u)[x]?=S[x]?:=zaA λe=>h e.symm
def Wk(W:List<|Option Cl)(i j d:Nat)(T U0:List Str)(Q0:Str->aG.Row)(L:List D):List (Option Cl):=((W.set i<|dt<|TD T).set j<|dt<|HD U0 Q0).set d (dt<|.list L)
structure Wx(W:List<|Option Cl)(i j d:Nat):Prop where
 li:i<W.length
 lj:j<W.length
 ld:d<W.length
 ij:i≠j
 id:i≠d
 jd:j≠d
theorem NQ(d:Nat):d<gd d:=by
 induction d with
 |zero=>decide
 |succ d a=>rw[ot];have:=NJ (d-1);lia
theorem D3(n:Nat):∀(k m I:Nat) (M:Sl),NIo M->n<m+k->k<I->∃d O,n<gd (d+1)/\fW lJ lK I [.fz<|.int (n:Int),.fz<|.int (m:Int),.fz<|.int (gd m:Int),.fz<|.int (gd (m+1):Int),M]=some (.nx [.fz<|.int (n:Int),.fz<|.int (d:Int),.fz<|.int (gd d:Int),.fz<|.int (gd (d+1):Int),O]):=by
 intro k
 induction k with
 |zero=>
  intro m I M a hm i;obtain⟨I,rfl⟩:∃f,I=f+1:=⟨I-1,by lia⟩
  have:=NQ (m+1);exact⟨m,M,by lia,o8<|iN (FJ (cw rfl)<|cw rfl)<|zaO (by lia)⟩
 |succ k j=>
  intro m I M a hm i;obtain⟨I,rfl⟩:∃f,I=f+1:=⟨I-1,by lia⟩
  by_cases h:n<gd (m+1)
  ·exact⟨m,M,h,o8<|iN (FJ (cw rfl)<|cw rfl)<|zaO (by lia)⟩
  ·obtain⟨d,O,g,e⟩:=j (m+1) I (.fz<|.int (gd (m+2):Int)) (NIo.fz _) (by lia) (by lia)
   refine⟨d,O,g,xH (iN (FJ (cw rfl)<|cw rfl)<|zaH (by lia)) ?_ e⟩
   have b:((gd m:Int)+(gd (m+1):Int))=(gd (m+2):Int):=by
    have:gd (m+2)=gd (m+1)+gd m:=ot (m+1)
    lia
   refine b9 (ρ1:=[.fz<|.int (n:Int),.fz<|.int (m:Int),.fz<|.int (gd m:Int),.fz<|.int (gd (m+1):Int),.fz<|.int (gd (m+2):Int)]) (Ql ((ph (cw rfl)<|cw rfl).is b)<|B9 (s:=M) _ rfl a) ?_;refine b9 (ρ1:=[.fz<|.int (n:Int),.fz<|.int (m:Int),.fz<|.int (gd (m+1):Int),.fz<|.int (gd (m+1):Int),.fz<|.int (gd (m+2):Int)]) (fZ (aA rfl) rfl) ?_;refine b9 (ρ1:=[.fz<|.int (n:Int),.fz<|.int (m:Int),.fz<|.int (gd (m+1):Int),.fz<|.int (gd (m+2):Int),.fz<|.int (gd (m+2):Int)]) (fZ (aA rfl) rfl) ?_;rfl
theorem Cr(hn:n<=1000):∃d,n<gd (d+1)/\eV [.int (n:Int)]=some (.int (d:Int),false):=by
 obtain⟨d,a,g,e⟩:=D3 n (n+1) 0 1000000 .no NIo.no (by lia) (by lia)
 refine⟨d,g,dY (o:=.rt (.int (d:Int),.fz) [.fz<|.int (n:Int),.fz<|.int (d:Int),.fz<|.int (gd d:Int),.fz<|.int (gd (d+1):Int),a]) rfl ?_ rfl⟩;refine b9 (ρ1:=[.fz<|.int (n:Int),.fz<|.int 0,.no,.no,.no]) (fZ rfl rfl) ?_;refine b9 (ρ1:=[.fz<|.int (n:Int),.fz<|.int 0,.fz<|.int 1,.no,.no]) (fZ rfl rfl) ?_;refine b9 (ρ1:=[.fz<|.int (n:Int),.fz<|.int 0,.fz<|.int 1,.fz<|.int 2,.no]) (fZ rfl rfl) ?_;exact b9 e (ee<|aA rfl)
abbrev tp(l:List Str):D:=.tuple (l.map .str)
theorem D4(nd:T.Nodup):T.erase n=bz T n:=by
 rw[List.Nodup.erase_eq_filter nd];unfold bz;exact List.filter_congr λt _=>by by_cases e:t=n<;>simp[e]
section
variable{ρ:Rho}{A B:List D}(h3 : ρ[3]?=some (.fz<|.list<|A++B))(h4 : ρ[4]?=some (.fz<|.list A))
include h4
include h3
end
theorem Ho{es:List<|D×D}(h:a s=some (.ok (.lc k) s1))(hk:s1.S[k]?=some (dt<|.dict es)):BR a s=some (.ok (.pl .none) ⟨s1.S.set k<|dt<|.dict [],s1.t⟩):=by
 unfold BR;rw[c9 h];simp only[hk]
abbrev fr(a b i j:Nat)(n:Str)(M O Y:Option SV):List (Option SV):=[some<|.tp [.lc a,.lc b],some<|.lc i,some<|.lc j,some<|.pl<|.str n,M,O,Y]
abbrev lt(M:D)(a b:Nat)(cell:Int)(x5 O Y:Option SV):List (Option SV):=[some<|.pl M,some<|.lc 1,some<|.lc 2,some<|.tp [.lc a,.lc b],some<|.pl<|.int cell,x5,O,Y]
def hE(Q0:Str->aG.Row)(n:Str)(k:Int):Str->aG.Row:=aW Q0 n ⟨k,(Q0 n).above,(Q0 n).mark,(Q0 n).below⟩
def wx(n:Str)(k:Int):hE Q0 n k n=⟨k,(Q0 n).above,(Q0 n).mark,(Q0 n).below⟩:=aO _ _ _
def wy(k:Int)(h:m≠n):hE Q0 n k m=Q0 m:=aI _ _ h
theorem cH(n m:Str)(k:Int):(hE Q0 n k m).above=(Q0 m).above/\(hE Q0 n k m).mark=(Q0 m).mark/\(hE Q0 n k m).below=(Q0 m).below:=by
 by_cases e:m=n
 ·subst e;rw[wx];exact⟨rfl,rfl,rfl⟩
 ·rw[wy k e];exact⟨rfl,rfl,rfl⟩
theorem Bt.less(h:Bt K c av U0 Q0)(n:Str)(k:Int):Bt K c av U0 (hE Q0 n k) :=
 ⟨h.nd,h.nm,h.tn,λt d=>⟨(h.tk t d).1,by rw[(cH n t k).1];exact(h.tk t d).2⟩,λm hm e=>h.ne m hm (by rw[(cH n m k).1]at e;exact e),λm hm e=>by rw[(cH n m k).2.1]at e;rw[(cH n m k).1];exact h.mkd m hm e,λm hm a e=>h.ab m hm a (by rw[(cH n m k).1]at e;exact e),λm hm=>by rw[(cH n m k).2.2];exact h.bl m hm,λm hm a e=>h.ho m hm a (by rw[(cH n m k).1]at e;exact e)⟩
section
variable{K:Str->Int}{n:Str}{k:Int}
def Keeps(Q0:Str->aG.Row)(n:Str)(k:Int):Prop:=∀a,(Q0 n).above=some a->aR k n (Q0 a).key a=false
end
section
variable{K:Str->Int}{n:Str}{k:Int}{S:List<|Option Cl}{p q:Nat}
theorem uU(O:c<=600)(h:Bt K c av U0 Q0)(hn:n∈U0)(hk:k<(Q0 n).key)(I:S[p]?=some (dt<|TD av))(M:S[q]?=some (dt<|HD U0 Q0))
  (ho:u ⟨S++[dt<|HD U0<|hE Q0 n k],[some<|.tp [.lc p,.lc q],some<|.pl<|.str n,some<|.pl<|.int k,some<|.pl<|bH<|Q0 n,some<|.lc S.length]⟩=o) :
  aY (g6<|nO<|cM dw<|aB (ai 0)<|aB (ai 1) aZ) (aY (bG (nO<|mOp dW (mOp gIx (ai 0)<|mC<|.int 1)<|ai 1)<|ngN 3)<|aY (fw (nTo<|a0<|mOp gGe (ai 2)<|mOp gIx (ai 3)<|mC<|.int 0) zZ dE)<|aY (bG (nO<|mCB kh<|aB (mOp gIx (ai 0)<|mC<|.int 1) aZ)<|ngN 4)<|aY (gr (aE 4) (aE 1)<|iQ<|ao (aE 2)<|ao (nIx (aE 3)<|nLit<|.int 1)<|ao (nIx (aE 3)<|nLit<|.int 2)<|ao (nIx (aE 3)<|nLit<|.int 3) aQ) u) ⟨S,[some<|.tp [.lc p,.lc q],some<|.pl<|.str n,some<|.pl<|.int k,none,none]⟩=o:=by
 have kl:=h.kl;have a:=cG I M;refine az (dN<|iW (cC (rs:=[(PD av U0 Q0,.fz),(.str n,.fz)]) (aK (ar<|aA<|bC rfl a)<|aK (ar<|aA<|bT rfl) a9) (Cj hn) rfl) rfl) ?_;refine az (s':=⟨S,[some<|.tp [.lc p,.lc q],some<|.pl<|.str n,some<|.pl<|.int k,some<|.pl<|bH<|Q0 n,none]⟩) (bB (i:=3) (iW (sr hn (ar<|jP<|bC rfl a)<|aA<|bT rfl)<|dz _) (by simp)) ?_
 refine az (dy (cy<|iN (OT (cw<|bT rfl)<|mv<|aA<|bT rfl)<|zaO (by lia)) rfl) ?_
 refine az (s':=⟨S++[dt<|HD U0 Q0],[some<|.tp [.lc p,.lc q],some<|.pl<|.str n,some<|.pl<|.int k,some<|.pl<|bH<|Q0 n,some<|.lc S.length]⟩) (bB (i:=4) (s':=⟨S++[dt<|HD U0 Q0],[some<|.tp [.lc p,.lc q],some<|.pl<|.str n,some<|.pl<|.int k,some<|.pl<|bH<|Q0 n,none]⟩) (ia (eg (rs:=[(HD U0 Q0,.fz)]) (Q1:=(HD U0 Q0,true)) (aK (ar<|jP<|bC rfl a) a9) rfl)<|my U0 Q0) (by simp)) ?_
 exact az ((kC (r:=⟨k,(Q0 n).above,(Q0 n).mark,(Q0 n).below⟩) (oA (xs:=[.pl<|.int k,.pl<|iU (Q0 n).above,.pl<|.bool (Q0 n).mark,.pl<|.tuple<|(Q0 n).below.map .str]) (aw (ah rfl)<|aw (cz (ah rfl) cK rfl)<|aw (cz (ah rfl) cK rfl)<|aw (cz (ah rfl) cK rfl) bh) rfl (by simp)) (ah rfl) (ah rfl) ap0 (by lia)).trans (by rw[jh hn,Ar];rfl)) ho
theorem Cs(h:Bt K c av U0 Q0)(hn:n∈U0)(M:(vw s)[1]?=some (.fz<|.str n))(h3:(vw s)[3]?=some (.fz<|bH<|Q0 n))(h4:(vw s)[4]?=some (.fz<|HD U0<|hE Q0 n k))(O:∀a,(Q0 n).above=some a->aR (Q0 a).key a k n=b)(I:(Q0 n).above=none->b=true):nTo (mOr (a0<|mOp gIs (mOp gIx (ai 3)<|mC<|.int 1)<|mC .none)<|a0<|mOp Jy (cM bR<|aB (ai 4)<|aB (ai 1) aZ)<|cM bR<|aB (ai 4)<|aB (mOp gIx (ai 3)<|mC<|.int 1) aZ) s=some (.ok b s):=by
 refine cy (ρ:=vw s) ?_;have d:a0 (mOp gIs (mOp gIx (ai 3)<|mC<|.int 1)<|mC .none) (vw s)=some ((Q0 n).above.isNone,vw s):=test_ev (k:=.fz) (bE (r:=(.none,.fz)) (Q1:=(.bool (Q0 n).above.isNone,false)) (ar<|eW<|aA h3) (ar rfl)<|sD _);cases ea:(Q0 n).above with
 |none=>
  rw[ea]at d;rw[I ea];exact MY d
 |some a=>
  rw[ea]at d;have e:=h.ab n hn a ea;refine rB d ?_;have s1:=g9 (Q0:=hE Q0 n k) hn;have s2:=g9 (Q0:=hE Q0 n k) e;rw[wx]at s1;rw[wy k<|h.neA hn ea]at s2;rw[<-O a ea];have ab:mOp gIx (ai 3) (mC<|.int 1) (vw s)=some ((.str a,.fz),vw s):=by
   have:=eW (aA h3);rw[ea]at this;exact this
  exact test_ev (k:=.fz) (bE (r:=(.tuple [.int (Q0 a).key,.str a],.fz)) (Q1:=(.bool<|aR (Q0 a).key a k n,false)) (ar<|cC (rs:=[(HD U0<|hE Q0 n k,.fz),(.str n,.fz)]) (aK (ar<|aA h4)<|aK (ar<|aA M) a9) s1 rfl) (ar<|cC (rs:=[(HD U0<|hE Q0 n k,.fz),(.str a,.fz)]) (aK (ar<|aA h4)<|aK (ar ab) a9) s2 rfl) rfl)
theorem D6(U:c<=600)(h:Bt K c av U0 Q0)(hn:n∈U0)(hk:k<(Q0 n).key)(I:Keeps Q0 n k)(M:S[p]?=some (dt<|TD av))(O:S[q]?=some (dt<|HD U0 Q0)) :
  eF S [.tp [.lc p,.lc q],.pl<|.str n,.pl<|.int k]=some (.ok (.tp [.tp [.lc<|S.length+1,.lc S.length],.lc<|S.length+2])<|S++[dt<|HD U0<|hE Q0 n k,dt<|TD av,dt<|.list []]):=by
 refine kD (t':=[some<|.tp [.lc p,.lc q],some<|.pl<|.str n,some<|.pl<|.int k,some<|.pl<|bH<|Q0 n,some<|.lc S.length]) rfl (uU U h hn hk M O ?_) (by simp[blV,iO])
 have tl:=h.tl;refine ji (jQ (Cs (k:=k) (b:=true) h hn (bT rfl) (bT rfl) (bC rfl<|cE ap0) (λa ha=>lO (λz=>h.neA hn ha z.symm)<|I a ha) λ_=>rfl) ?_)
 refine cR (fG (xs:=[.tp [.lc<|S.length+1,.lc S.length],.lc<|S.length+2]) (aw (s1:=⟨S++[dt<|HD U0<|hE Q0 n k,dt<|TD av],[some<|.tp [.lc p,.lc q],some<|.pl<|.str n,some<|.pl<|.int k,some<|.pl<|bH<|Q0 n,some<|.lc S.length]⟩) (fG (xs:=[.lc<|S.length+1,.lc S.length]) (aw (qt (k:=1) (eg (rs:=[(TD av,.fz)]) (Q1:=(TD av,true)) (aK (ar<|lP<|bC rfl<|cG (aS M)<|aS O) a9) rfl) (jj _) rfl)<|aw (ah rfl) bh) rfl (by simp))<|aw (s1:=⟨S++[dt<|HD U0<|hE Q0 n k,dt<|TD av,dt<|.list []],[some<|.tp [.lc p,.lc q],some<|.pl<|.str n,some<|.pl<|.int k,some<|.pl<|bH<|Q0 n,some<|.lc S.length]⟩) ?_ bh) rfl (by simp))
 rw[Cm];dsimp only;rw[Ka,zaD];rfl
theorem Hq(O:c<=600)(h:Bt K c av U0 Q0)(hn:n∈U0)(hk:k<(Q0 n).key)(ha:(Q0 n).above=some a)(M:aR k n (Q0 a).key a=true)(I:Ch (hE Q0 n k) n C L)(hl:C.length<=c)(U:S[p]?=some (dt<|TD av))(Y:S[q]?=some (dt<|HD U0 Q0)) :
  eF S [.tp [.lc p,.lc q],.pl<|.str n,.pl<|.int k]=some (.ok (.tp [.tp [.lc<|S.length+3,.lc<|S.length+1],.lc<|S.length+4])<|S++[dt<|HD U0<|hE Q0 n k,dt<|HD U0<|cuts C<|hE Q0 n k,dt<|TD C,dt<|TD<|av++C,dt<|.list<|C.map stp]):=by
 refine kD (t':=[some<|.tp [.lc p,.lc q],some<|.pl<|.str n,some<|.pl<|.int k,some<|.pl<|bH<|Q0 n,some<|.lc S.length]) rfl (uU O h hn hk U Y ?_) (by simp[blV,iO])
 refine az (dy (Cs (k:=k) (b:=false) h hn (bT rfl) (bT rfl) (bC rfl<|cE ap0) (λf d=>by
  rw[ha]at d;cases d
  cases e:aR (Q0 a).key a k n with
  |false=>rfl
  |true=>have:=eG M e;rw[ku]at this;cases this) λz=>by rw[ha]at z;cases z) rfl) ?_
 have co:=sG O (h.less n k) hn I hl (S:=S++[dt<|HD U0<|hE Q0 n k]) (p:=p) (q:=S.length) (aS U) ap0;rw[Qv,zaD]at co;exact cR (cj (aw (fG (xs:=[.lc p,.lc S.length]) (aw (cz (ah rfl) cK rfl)<|aw (ah rfl) bh) rfl (by simp))<|aw (ah rfl) bh) co)
end
theorem Ct(n:Str)(k:Int):mk U0 (hE Q0 n k)=mk U0 Q0:=by
 unfold mk
 congr 2
 funext m
 rw[(cH n m k).2.1]
def Lst(Q0:Str->aG.Row)(l:List Str)(n:Str):Prop:=n∈l/\∀m∈l,m=n\/aR (Q0 n).key n (Q0 m).key m=true
theorem Ln{a c:Int}(I:aR a x c y=true)(M:aR c y a x=true):False:=by
 have:=eG I M;rw[ku]at this;cases this
theorem Lst.one(M:Lst Q0 l n)(O:Lst Q0 U m)(a:n∈U)(b:m∈l):n=m:=by
 rcases M.2 m b with e|e
 ·exact e.symm
 ·rcases O.2 n a with d|d
  ·exact d
  ·exact(Ln e d).elim
theorem wz:∀(l:List Str) (b:Str),∃n,mQ (.str b,(Q0 b).key,b) (l.map λt=>(PyData.str t,(Q0 t).key,t))=(.str n,(Q0 n).key,n)/\Lst Q0 (b::l) n
 | [],b=>⟨b,rfl,zas,λm hm=>.inl<|zad hm⟩
 |t::l,b=>by
  by_cases f:aR (Q0 t).key t (Q0 b).key b=true
  ·obtain⟨n,e,g,a⟩:=wz l t
   refine⟨n,?_,zak _ g,λm hm=>?_⟩
   ·simp only[List.map_cons,mQ,f,if_true];exact e
   ·rcases zaf hm with rfl|hm
    ·rcases a t zas with z|z
     ·exact .inr (by rw[<-z];exact f)
     ·exact .inr (eG z f)
    ·exact a m hm
  ·obtain⟨n,e,g,a⟩:=wz l b
   have d:aR (Q0 t).key t (Q0 b).key b=false:=by simpa using f
   refine⟨n,?_,?_,λm hm=>?_⟩
   ·simp only[List.map_cons,mQ,d,Bool.false_eq_true,if_false];exact e
   ·rcases zaf g with z|z
    ·rw[z];exact zas
    ·exact zak _ (zak _ z)
   ·rcases zaf hm with rfl|hm
    ·exact a _ zas
    ·rcases zaf hm with rfl|hm
     ·by_cases h:m=b
      ·rw[h];exact a b zas
      ·have lt:=lO h d
       rcases a b zas with z|z
       ·exact .inr (by rw[<-z];exact lt)
       ·exact .inr (eG z lt)
     ·exact a m (zak _ hm)
theorem Lst.top(h:Bt K c av U0 Q0)(I:∀n∈U0,K n=(Q0 n).key)(hl:Lst Q0 U0 n):n∈av:=by
 refine h.ne n hl.1 ?_;cases e:(Q0 n).above with
 |none=>rfl
 |some a=>
  have ha:=h.ab n hl.1 a e;have d:=h.ho n hl.1 a e;rw[I n hl.1,I a ha]at d;rcases hl.2 a ha with z|z
  ·rw[z,ku]at d;cases d
  ·exact(Ln d z).elim
theorem Kh{l:List Str}:(∀t∈l,t∈U0)->yu dD [.fz<|PD av U0 Q0] (l.map .str)=some (l.map λt=>(PyData.str t,(Q0 t).key,t)):=by
 induction l with
 |nil=>intro _;rfl
 |cons t l b=>
  intro h;have e:sv dD (.fz (.str t)::[.fz<|PD av U0 Q0])=some ((.tuple [.int (Q0 t).key,.str t],.fz),[.fz<|.str t,.fz<|PD av U0 Q0]) :=
   ar (cC (rs:=[(HD U0 Q0,.fz),(.str t,.fz)]) (aK (ar<|jP (av:=av) rfl)<|aK (ar<|aA rfl) a9) (g9<|h t zas) rfl)
  show(sv dD (.fz (.str t)::[.fz<|PD av U0 Q0])).bind _=_;rw[e,zai];show(yu dD [.fz<|PD av U0 Q0]<|l.map .str).map _=_;rw[b λx a=>h x<|zak _ a]
  rfl
theorem yY(I:av≠[])(M:∀t∈av,t∈U0):∃n,Lst Q0 av n/\eS [PD av U0 Q0]=some (.str n,false):=by
 match av,I,M with
 |b::l,_,M=>
  obtain⟨n,e,h⟩:=wz (Q0:=Q0) l b;refine⟨n,h,dY (o:=.rt (.str n,.fz) [.fz<|PD (b::l) U0 Q0]) rfl (b9 (rA (iN (ur (eg (rs:=[(TD (b::l),.fz)]) (Q1:=(.int (((b::l).length:Nat):Int),false)) (aK (ar<|lP (U0:=U0) (Q0:=Q0) rfl) a9) (by show some (PyData.int ((((b::l).map PyData.str).length:Nat):Int),false)=_;rw[zal])) bV)<|zaO (by simp only[List.length_cons];lia)) rfl)<|ee ?_) rfl⟩
  unfold Gz;rw[show mOp gIx (ai 0) (mC<|.int 0) ([PD (b::l) U0 Q0].map Sl.fz++List.replicate 0 Sl.no)=some ((TD (b::l),.fz),[.fz<|PD (b::l) U0 Q0])from lP (U0:=U0) (Q0:=Q0) rfl,zai];show(yu dD [.fz<|PD (b::l) U0 Q0]<|(b::l).map .str).bind _=_;rw[Kh M,zai];show some (((mQ _ _).1,Kd.fz),_)=_;rw[e]
theorem NR(l:List Str)(h:l[i]?=some n):pkD (l.map λt=>PyData.tuple [.int (Q0 t).key,.str t]) i=((Q0 n).key,n):=by
 unfold pkD;rw[zao,h];rfl
theorem Au:∀k:Nat,argBest bt k<=k
 |0=>zap _
 |k+1=>by
  unfold argBest;split
  ·exact zap _
  ·exact Nat.le_succ_of_le (Au k)
theorem Ki(I:l≠[]):∃n,Lst Q0 l n/\uG [.list<|l.map λt=>PyData.tuple [.int (Q0 t).key,.str t]]=some (.tuple [.int (Q0 n).key,.str n],false):=by
 have A : 0<l.length:=List.length_pos_iff.mpr I;obtain⟨G,y⟩:∃G,G=pkD (l.map λt=>PyData.tuple [.int (Q0 t).key,.str t]):=⟨_,rfl⟩
 have at_:∀{i:Nat} {n:Str},l[i]?=some n->G i=((Q0 n).key,n):=fun{i n} h=>by rw[y];exact NR l h
 have key:∀k,k<l.length->∀m j,j<=k->l[j]?=some m->∀n,l[argBest (btK G) k]?=some n->m=n\/aR (Q0 n).key n (Q0 m).key m=true:=by
  intro k
  induction k with
  |zero=>
   intro _ m j o hm n hn;obtain rfl:j=0:=by lia
   have:l[0]?=some n:=hn;rw[hm]at this;cases this;exact .inl rfl
  |succ k B=>
   intro hk m j o hm n hn;have x:=Au (bt:=btK G) k;obtain⟨p,s⟩:∃p,l[argBest (btK G) k]?=some p:=⟨_,zaC (by lia)⟩
   obtain⟨q,u⟩:∃q,l[k+1]?=some q:=⟨_,zaC hk⟩;have C:btK G (k+1) (argBest (btK G) k)=aR (Q0 q).key q (Q0 p).key p:=by
    show aR (G<|k+1).1 (G<|k+1).2 (G<|argBest (btK G) k).1 (G<|argBest (btK G) k).2=_;rw[at_ u,at_ s]
   have b:l[if btK G (k+1) (argBest (btK G) k)=true then k+1 else argBest (btK G) k]?=some n:=hn
   rw[C]at b
   by_cases a:aR (Q0 q).key q (Q0 p).key p=true
   ·rw[if_pos a]at b
    have w:q=n:=zaQ (u.symm.trans b);rw[<-w]
    by_cases v:j=k+1
    ·rw[v]at hm
     exact .inl (zaQ<|hm.symm.trans u)
    ·rcases B (by lia) m j (by lia) hm p s with z|z
     ·rw[z];exact .inr a
     ·exact .inr (eG a z)
   ·rw[if_neg a]at b
    have w:p=n:=zaQ (s.symm.trans b);rw[<-w]
    by_cases v:j=k+1
    ·rw[v]at hm
     have em:q=m:=zaQ (u.symm.trans hm);rw[<-em]
     by_cases e:q=p
     ·exact .inl e
     ·exact .inr (lO e (by simpa using a))
    ·exact B (by lia) m j (by lia) hm p s
 have x:=Au (bt:=btK G) (l.length-1);obtain⟨n,hn⟩:∃n,l[argBest (btK G)<|l.length-1]?=some n:=⟨_,zaC (by lia)⟩
 refine⟨n,⟨zaj hn,λm hm=>?_⟩,?_⟩
 ·obtain⟨j,o⟩:=List.mem_iff_getElem?.mp hm
  have:=(zac o).1;exact key _ (by lia) m j (by lia) o n hn
 ·unfold uG
  dsimp only;rw[if_pos (List.all_eq_true.mpr λd hd=>by obtain⟨t,_,rfl⟩:=List.mem_map.mp hd;rfl),zal,<-y,zao,hn]
  rfl
theorem Hr(O:c<=600)(h:Bk c av U0 Q0)(f:Fm U0 Q0)(hl:Lst Q0 av n)(I:S[p]?=some (dt<|TD av))(M:S[q]?=some (dt<|HD U0 Q0)) :
  ∃(sts:List<|Str×Str) (T:List Str) (aV:Str->aG.Row) (X:List<|Option Cl),iq S [.tp [.lc p,.lc q]]=some (.ok (.tp [.pl<|.str n,.pl<|.int (Q0 n).key,.tp [.lc<|S.length+6,.lc<|S.length+3],.lc<|S.length+7])<|S++X)/\(S++X)[S.length+6]?=some (dt<|TD T)/\(S++X)[S.length+3]?=some (dt<|HD (bz U0 n) aV)/\(S++X)[S.length+7]?=some (dt<|.list<|kF (Q0 n).below sts)/\Hs (bz av n++(Q0 n).below) (free Q0 (Q0 n).below) sts T aV/\∀t∈T,∀u∈T,(aV t).below.length=(aV u).below.length->t=u:=by
 have A:=bK I;have B:=bK M;obtain⟨sts,T,aV,X,a,b,d,e,l,w⟩:=wu O h f hl.1 I M;refine⟨sts,T,aV,X,?_,b,d,e,l,w⟩;obtain⟨m,hm,em⟩:=yY (av:=av) (U0:=U0) (Q0:=Q0) (λz=>by rw[z]at hl;exact absurd hl.1 (by simp)) λt x=>(h.tk t x).1
 obtain rfl:n=m:=hl.one hm hl.1 hm.1;refine kD (t':=[some<|.tp [.lc p,.lc q],some<|.pl<|.str n,some<|.tp [.pl<|.int (Q0 n).key,.tp [.lc<|S.length+6,.lc<|S.length+3],.lc<|S.length+7]]) rfl ?_ (by simp[blV,iO])
 refine az (s':=⟨S,[some<|.tp [.lc p,.lc q],some<|.pl<|.str n,none]⟩) (bB (i:=1) (iW (cC (rs:=[(PD av U0 Q0,.fz)]) (aK (ar<|aA<|bC rfl<|cG I M) a9) em rfl) rfl) (by simp)) ?_
 refine az (s':=⟨S++X,[some<|.tp [.lc p,.lc q],some<|.pl<|.str n,some<|.tp [.pl<|.int (Q0 n).key,.tp [.lc<|S.length+6,.lc<|S.length+3],.lc<|S.length+7]]⟩) (bB (i:=2) (cj (aw (ah rfl)<|aw (ah rfl) bh) a) (by simp)) ?_
 exact cR (fG (xs:=[.pl<|.str n,.pl<|.int (Q0 n).key,.tp [.lc<|S.length+6,.lc<|S.length+3],.lc<|S.length+7]) (aw (ah rfl)<|aw (cz (ah rfl) cK rfl)<|aw (cz (ah rfl) cK rfl)<|aw (cz (ah rfl) cK rfl) bh) rfl (by simp))
def nm(z:Str):Bool:=z.cps.toList.all λc=>leS "a" ⟨#[c]⟩&&leS ⟨#[c]⟩ "z"
theorem lR{α:Type}(p : α->Bool):∀l:List α,boolsOf (l.map λc=>PyData.bool<|p c)=some (l.map p)
 | []=>rfl
 |c::l=>by
  show(boolsOf<|l.map λc=>PyData.bool<|p c).map _=_
  rw[lR p l];rfl
theorem Kj(z:Str)(ρ:Rho):vq yw yw (mC<|.str "a") (ai 0) (mC<|.str "z") (.fz (.str z)::ρ)=some ((.bool<|leS "a" z&&leS z "z",.fz),.fz (.str z)::ρ):=by
 have e:vq yw yw (mC<|.str "a") (ai 0) (mC<|.str "z") (.fz (.str z)::ρ)=(match leS "a" z with|true=>some ((.bool<|leS z "z",.fz),.fz (.str z)::ρ)|false=>some ((.bool false,.fz),.fz (.str z)::ρ)):=by
  show(match((PyData.bool<|leS "a" z,false):D×Bool)with
   |(.bool true,false)=>_
   |(.bool false,false)=>_
   |_=>_)=_
  cases leS "a" z<;>rfl
 rw[e];cases leS "a" z<;>rfl
theorem Av(z:Str)(I:z.length<=1000):iC [.str z]=some (.bool<|!decide ((z.length:Int)<1)&&(!decide ((8:Int)<(z.length:Int))&&nm z),false):=by
 have b:IE (mCB gv<|aB (ai 0) aZ) [.fz<|.str z] (z.length:Int):=eg (rs:=[(.str z,.fz)]) (Q1:=(.int (z.length:Int),false)) rfl (bA<|zaX I (by decide))
 have e:zH (a0<|yr "str"<|ai 0) [.fz<|.str z]=some (false,[.fz<|.str z]):=FE (test_ev (k:=.fz) (v:=true)<|J3 (ar<|aA rfl) (by simp[Gv,mX,tyD,eN,qZ]))
 by_cases a:(z.length:Int)<1
 ·rw[zaH a]
  exact dY (o:=.rt (.bool false,.fz) [.fz<|.str z]) rfl (vA<|FD (rB e<|MY<|iN (qj b bV)<|zaH a) rfl) rfl
 by_cases d:(8:Int)<(z.length:Int)
 ·rw[zaH d,zaO a]
  exact dY (o:=.rt (.bool false,.fz) [.fz<|.str z]) rfl (vA<|FD (rB e<|rB (iN (qj b bV)<|zaO a)<|iN (Bp b bV)<|zaH d) rfl) rfl
 ·rw[zaO a,zaO d]
  have g:gY mF qq [] (pL z)=some (z.cps.toList.map λc=>PyData.bool<|leS "a" ⟨#[c]⟩&&leS ⟨#[c]⟩ "z"):=Mir.iA (f:=λc=>PyData.str ⟨#[c]⟩) z.cps.toList λc _=>⟨_,ar<|Kj ⟨#[c]⟩ []⟩
  refine dY (o:=.rt (.bool<|nm z,.fz) [.fz<|.str z]) rfl (b9 (rA (rB e<|rB (iN (qj b bV)<|zaO a)<|iN (Bp b bV)<|zaO d) rfl)<|ee<|eg (rs:=[(.list<|z.cps.toList.map λc=>PyData.bool<|leS "a" ⟨#[c]⟩&&leS ⟨#[c]⟩ "z",.fz)]) (Q1:=(.bool<|nm z,false)) (aK (mY<|xM (it:=Nq<|ai 0) (ds:=pL z) rfl g ?_) a9) ?_) rfl
  ·rw[zal];show z.cps.toList.length<=_;have:z.length=z.cps.toList.length:=rfl;lia
  ·show(boolsOf _).map _=_
   rw[lR];show some (PyData.bool _,false)=_;rw[List.all_map];rfl
theorem Ht:∀i:Nat,i<600->nm (aT i)=true/\1<=(aT i).length/\(aT i).length<=8:=by decide+kernel
theorem yZ(hi:i<600):iC [.str<|aT i]=some (.bool true,false):=by
 obtain⟨a,b,h3⟩:=Ht i hi;rw[Av _ (by lia),a,zaO (by lia),zaO (by lia)];rfl
theorem Hu(h:a.length+b.length<=1000):dU (TD a) (TD b)=some (TD<|a++b,true):=by
 show dU (.list<|a.map .str) (.list<|b.map .str)=some (.list<|(a++b).map .str,true);rw[za1];exact bA (zaX (show(a.map PyData.str).length+(b.map PyData.str).length<=1000 by rw[zal,zal];exact h) (by decide))
theorem NU(h:iC [.str n]=some (.bool true,false))(hn:n∉U0)(hk:U0.length<=1000)(I:av.length<=900):kq [PD av U0 Q0,.str n,.int k]=some (TD<|av++[n],HD (U0++[n])<|aW Q0 n ⟨k,none,false,[]⟩):=by
 refine G9 rfl ?_;refine jO (ρ1:=[.fz<|PD av U0 Q0,.fz<|.str n,.fz<|.int k,.no]) (rA (FE (IU (rs:=[(.str n,.fz)]) rfl h).t) rfl) ?_;refine jO (ρ1:=[.fz<|PD av U0 Q0,.fz<|.str n,.fz<|.int k,.no]) (rA (test_ev (k:=.fz)<|bE (r:=(HD U0 Q0,.fz)) (Q1:=(.bool false,false)) (ar<|aA rfl) (ar<|jP (av:=av) rfl) (by rw[wd,zaO hn])) rfl) ?_
 refine jO (ρ1:=[.fz<|PD av U0 Q0,.fz<|.str n,.fz<|.int k,.own<|HD U0 Q0]) (qI (eg (rs:=[(HD U0 Q0,.fz)]) (Q1:=(HD U0 Q0,true)) (aK (ar<|jP (av:=av) rfl) a9) rfl) rfl) ?_;refine jO (ρ1:=[.fz<|PD av U0 Q0,.fz<|.str n,.fz<|.int k,.own<|HD (U0++[n])<|aW Q0 n ⟨k,none,false,[]⟩]) ((Cc (i:=3) (r:=⟨k,none,false,[]⟩) (j8 (rs:=[(.int k,.fz),(.none,.fz),(.bool false,.fz),(.tuple [],.fz)]) (aK (ar<|aA rfl)<|aK (ar rfl)<|aK (ar rfl)<|aK (ar<|j8 (rs:=[]) rfl rfl (by simp)) a9) rfl (by simp)) (aA rfl) rfl (.inl rfl) (by lia)).trans (by rw[sy hn];rfl)) ?_
 unfold pM;rw[show mOp dU (mOp gIx (ai 0)<|mC<|.int 0) (xr<|aB (ai 1) aZ) [.fz<|PD av U0 Q0,.fz<|.str n,.fz<|.int k,.own<|HD (U0++[n])<|aW Q0 n ⟨k,none,false,[]⟩]=some ((TD<|av++[n],.new),[.fz<|PD av U0 Q0,.fz<|.str n,.fz<|.int k,.own<|HD (U0++[n])<|aW Q0 n ⟨k,none,false,[]⟩])from bE (r:=(.list [.str n],.fz)) (Q1:=(TD<|av++[n],true)) (ar<|lP (U0:=U0) (Q0:=Q0) rfl) (mY<|zR (rs:=[(.str n,.fz)]) rfl rfl (by simp)) (Hu (b:=[n]) (by simp;lia))]
 rfl
def mrg(k1:List Str)(r1 r2:Str->aG.Row):Str->aG.Row:=λn=>if n∈k1 then r1 n else r2 n
def sL(h:n∈k1):mrg k1 r1 r2 n=r1 n:=if_pos h
def oE(h:n∉k1):mrg k1 r1 r2 n=r2 n:=if_neg h
theorem Kk(h:n∉k1):aW (mrg k1 M I) n (I n)=mrg k1 M I:=by
 funext m
 by_cases e:m=n
 ·subst e;rw[aO,oE h]
 ·rw[aI _ _ e]
theorem Hv(h:∀n∈U0,Q0 n=aV n):HD U0 Q0=HD U0 aV:=by
 show PyData.dict _=PyData.dict _
 congr 1
 exact List.map_congr_left λn hn=>by rw[h n hn]
def NV:HD k1 r1=HD k1 (mrg k1 r1 r2):=Hv λn hn=>(sL hn).symm
def Dj(k1 k2:List Str):Prop:=∀n∈k2,n∉k1
theorem NW(h : ρ[i]?=some (.fz<|PD t k r)):DD (lB i) 1 ρ=some ((HD k r,.fz),ρ):=by
 unfold DD lB;rw[h];rfl
variable{t1 k1 t2 k2:List Str}{r1 r2:Str->aG.Row}
theorem uV:∀(l pre:List Str) (M:Sl),(M=.no\/∃d,M=.fz d)->(∀n∈l,n∈k2/\n∉k1++pre)->l.Nodup->(k1++pre++l).length<=1000->
  ∃I,(I=.no\/∃d,I=.fz d)/\forL (mgN 3) lN (l.map .str) [.fz<|PD t1 k1 r1,.fz<|PD t2 k2 r2,.own<|HD (k1++pre)<|mrg k1 r1 r2,M]=some (.nx [.fz<|PD t1 k1 r1,.fz<|PD t2 k2 r2,.own<|HD (k1++(pre++l))<|mrg k1 r1 r2,I])
 | [],pre,M,hs,_,_,_=>⟨M,hs,by rw[zaR];rfl⟩
 |n::l,pre,M,hs,hl,nd,sz=>by
  obtain⟨g,a⟩:=hl n zas;have h3:n∉k1:=λz=>a (zaW _ z)
  obtain⟨h,nd2⟩:=List.nodup_cons.mp nd;have f:(k1++pre).length<=1000:=by simp only[List.length_append,List.length_cons]at sz⊢;lia
  obtain⟨I,b,e⟩:=uV l (pre++[n]) (.fz<|.str n) (.inr ⟨_,rfl⟩) (λm hm=>⟨(hl m<|zak _ hm).1,λz=>by
   rw[<-zaD]at z;rcases zae z with z|z
   ·exact(hl m (zak _ hm)).2 z
   ·rw[zad z]at hm;exact h hm⟩) nd2 (by simp only[List.length_append,List.length_cons,List.length_nil]at sz⊢;lia)
  refine⟨I,b,?_⟩;rw[zaz];refine Ds (ρ1:=[.fz<|PD t1 k1 r1,.fz<|PD t2 k2 r2,.own<|HD (k1++pre)<|mrg k1 r1 r2,.fz<|.str n]) (JU (s:=M) rfl (by rcases hs with rfl|⟨d,rfl⟩;exact NIo.no;exact NIo.fz _)) ?_ (e.trans (by rw[zaD];rfl))
  refine b9 (ρ1:=[.fz<|PD t1 k1 r1,.fz<|PD t2 k2 r2,.own<|HD (k1++pre)<|mrg k1 r1 r2,.fz<|.str n]) (rA (test_ev (k:=.fz)<|bE (r:=(HD (k1++pre)<|mrg k1 r1 r2,.at 2)) (Q1:=(.bool false,false)) (ar<|aA rfl) (xK<|qH rfl) (by rw[wd,zaO a])) rfl) ?_
  refine(Cc (i:=2) (r:=r2 n) (sr (U0:=k2) (Q0:=r2) g (ar<|jP (av:=t2) rfl)<|aA rfl) (aA rfl) rfl (.inl rfl) f).trans ?_;rw[sy a,Kk h3,<-zaD];rfl
theorem Kl{dv:PM}{ρ ρ1:Rho}{o:Out}(I:dv ρ=some ((HD U0 Q0,.fz),ρ1))(O:pJ ρ=true)(M:forL g b (U0.map .str) ρ1=some o)(h3:pJ (Nk o)=true):BL dv g b ρ=some o:=by
 unfold BL;rw[I,zai];dsimp only;show(some<|cB U0 Q0).bind _=_;rw[zai,if_pos O,uL,M,zai,if_pos h3]
theorem Km(hd:Dj k1 k2)(nd:k2.Nodup)(hk:k1.length+k2.length<=1000)(I:t1.length+t2.length<=1000):ir [PD t1 k1 r1,PD t2 k2 r2]=some (TD<|t1++t2,HD (k1++k2)<|mrg k1 r1 r2):=by
 refine G9 rfl ?_;refine jO (ρ1:=[.fz<|PD t1 k1 r1,.fz<|PD t2 k2 r2,.own<|HD k1<|mrg k1 r1 r2,.no]) ((qI (eg (rs:=[(HD k1 r1,.fz)]) (Q1:=(HD k1 r1,true)) (aK (ar<|jP (av:=t1) rfl) a9) rfl) rfl).trans (by rw[NV (r1:=r1) (r2:=r2)];rfl)) ?_
 obtain⟨a,hs,e⟩:=uV (t1:=t1) (k1:=k1) (t2:=t2) (k2:=k2) (r1:=r1) (r2:=r2) k2 [] .no (.inl rfl) (λn hn=>⟨hn,by rw[zaR];exact hd n hn⟩) nd (by simp;lia)
 rw[zaR,List.nil_append]at e;refine jO (Kl (NW (i:=1) rfl) rfl e (by rcases hs with rfl|⟨d,rfl⟩<;>rfl)) ?_
 show pM _ 2 _=_;unfold pM;rw[show mOp dU (mOp gIx (ai 0)<|mC<|.int 0) (mOp gIx (ai 1)<|mC<|.int 0) [.fz<|PD t1 k1 r1,.fz<|PD t2 k2 r2,.own<|HD (k1++k2)<|mrg k1 r1 r2,a]=some ((TD<|t1++t2,.new),[.fz<|PD t1 k1 r1,.fz<|PD t2 k2 r2,.own<|HD (k1++k2)<|mrg k1 r1 r2,a])from bE (r:=(TD t2,.fz)) (Q1:=(TD<|t1++t2,true)) (ar<|lP (U0:=k1) (Q0:=r1) rfl) (ar<|lP (U0:=k2) (Q0:=r2) rfl) (Hu I)];rfl
def uW:dr [PD [] U0 Q0]=some (.inr "Empty") :=
 Hb (ρ:=[.fz<|PD [] U0 Q0]) rfl (Ci<|Lk (iN (ur (eg (rs:=[(TD [],.fz)]) (Q1:=(.int 0,false)) (aK (ar<|lP (U0:=U0) (Q0:=Q0) rfl) a9) rfl) bV) rfl) rfl)
theorem NX(I:Bk C t1 k1 r1)(M:Bk C t2 k2 r2)(hd:Dj k1 k2):Bk C (t1++t2) (k1++k2) (mrg k1 r1 r2):=by
 have d:∀{n:Str},n∈k1->mrg k1 r1 r2 n=r1 n:=λh=>sL h
 have f:∀{n:Str},n∈k2->mrg k1 r1 r2 n=r2 n:=λh=>oE (hd _ h)
 refine⟨?_,?_,?_,?_,?_,?_,?_,?_,?_⟩
 ·exact List.nodup_append.mpr ⟨I.nd,M.nd,λa ha b i e=>hd b i<|e▸ha⟩
 ·exact λn hn=>(zae hn).elim (I.nm n) (M.nm n)
 ·exact List.nodup_append.mpr ⟨I.tn,M.tn,λa ha b i e=>hd b (M.tk b i).1 (e▸(I.tk a ha).1)⟩
 ·intro t l
  rcases zae l with z|z
  ·exact⟨zaW _ (I.tk t z).1,by rw[d (I.tk t z).1];exact(I.tk t z).2⟩
  ·exact⟨zan _ (M.tk t z).1,by rw[f (M.tk t z).1];exact(M.tk t z).2⟩
 ·intro n hn ha
  rcases zae hn with z|z
  ·rw[d z]at ha;exact zaW _ (I.ne n z ha)
  ·rw[f z]at ha;exact zan _ (M.ne n z ha)
 ·intro n hn hm
  rcases zae hn with z|z
  ·rw[d z]at hm⊢;exact I.mkd n z hm
  ·rw[f z]at hm⊢;exact M.mkd n z hm
 ·intro n hn a ha
  rcases zae hn with z|z
  ·rw[d z]at ha;exact zaW _ (I.ab n z a ha)
  ·rw[f z]at ha;exact zan _ (M.ab n z a ha)
 ·intro n hn
  rcases zae hn with z|z
  ·rw[d z];exact⟨(I.bl n z).1,λb i=>zaW _<|(I.bl n z).2 b i⟩
  ·rw[f z];exact⟨(M.bl n z).1,λb i=>zan _<|(M.bl n z).2 b i⟩
 ·intro n hn a ha
  rcases zae hn with z|z
  ·rw[d z]at ha⊢
   rw[d<|I.ab n z a ha];exact I.ho n z a ha
  ·rw[f z]at ha⊢
   rw[f<|M.ab n z a ha];exact M.ho n z a ha
theorem mk_congr:∀{l:List Str},(∀n∈l,Q0 n=aV n)->mk l Q0=mk l aV
 | [],_=>rfl
 |x::l,h=>by rw[iu,iu,h x zas,mk_congr λn hn=>h n<|zak _ hn]
theorem Aw:∀a b:List Str,mk (a++b) Q0=mk a Q0+mk b Q0
 | [],b=>by rw[List.nil_append,show mk [] Q0=0 from rfl,Nat.zero_add]
 |x::a,b=>by rw[List.cons_append,iu,iu,Aw a b,Nat.add_assoc]
theorem NY(hd:Dj k1 k2):mk (k1++k2) (mrg k1 r1 r2)=mk k1 r1+mk k2 r2:=by
 rw[Aw,mk_congr λn hn=>sL hn,mk_congr (Q0:=mrg k1 r1 r2) (aV:=r2) (l:=k2) λn hn=>oE<|hd n hn]
theorem NZ(hn:n∉U0):mk (U0++[n]) (aW Q0 n ⟨k,none,false,[]⟩)=mk U0 Q0:=by
 rw[Aw,G2 U0 hn,iu,aO];rfl
theorem qS(h:m s=some (.ok xs ⟨S++X,t⟩))(hl:xs.length<=100):pE m s=some (.ok (.lc<|S.length+X.length) ⟨S++(X++[some<|mkL xs]),t⟩):=by
 unfold pE;rw[c9 h,bA<|rq (by lia)]
 unfold zY;rw[zau,zaD]
theorem D9(h:m s=some (.ok xs ⟨S++X,t⟩))(O:gq (S++X) xs=some ds)(U:f ds=some (I,M))(Y:dk I true=true)(p2:dk M true=true) :
  pK f m s=some (.ok (.tp [.lc<|S.length+X.length,.lc<|S.length+X.length+1]) ⟨S++(X++[dt I,dt M]),t⟩):=by
 unfold pK;rw[c9 h];dsimp only;rw[O,zai,U,zai];dsimp only;rw[if_pos (show(dk I true&&dk M true)=true by rw[Y,p2];rfl),zau]
 simp only[List.append_assoc,List.cons_append,List.nil_append]
theorem Ax:dA gC aQ ⟨Z,t⟩=some (.ok (.tp [.lc Z.length,.lc<|Z.length+1]) ⟨Z++[dt<|.list [],dt<|.dict []],t⟩):=by
 refine cj (xs:=[]) bh (kD (t':=[]) rfl (cR<|fG (xs:=[.lc Z.length,.lc<|Z.length+1]) (aw Cm<|aw ((ia (d:=.dict []) rfl rfl).trans (by dsimp only;rw[zau];rfl)) ?_) rfl (by simp)) (by simp[blV,iO]))
 show some _=some _
 congr 2
 simp
def Lp(h:i<s.t.length):kg i gs (x::xs) s=gs xs ⟨s.S,s.t.set i<|some x⟩:=if_pos h
variable{c:Nat}{av U0:List Str}{Q0:Str->aG.Row}
theorem wA:∀(C av:List Str) (Q0:Str->aG.Row) (n L:Str),Ch Q0 n C L->Bt K c av U0 Q0->n∈U0->Bt K c (av++C) U0 (cuts C Q0)
 | [],_,_,_,_,b,_,_=>by cases b
 |x::C,av,Q0,_,L,b,h,hn=>by
  cases b with
  |one ha hm=>rw[dQ ha];exact h.cut hn ha
  |more ha hm b=>
   rename_i a
   rw[dQ ha];have:=wA C (av++[x]) (cX Q0 x a) a L (Ch.cut h hn ha b) (h.cut hn ha) (h.ab x hn a ha);rw[zaD]at this;exact this
structure Po(c:Nat)(av U0:List Str)(Q0:Str->aG.Row)(n:Str)(S X:List<|Option Cl)(p q f0 f1 f2:Nat)(C:List Str)(sM:List Str)(oF:Str->aG.Row)(sts:List<|Str×Str)(T:List Str)(aV:Str->aG.Row):Prop where
 run:mq S [.tp [.lc p,.lc q],.pl<|.str n]=some (.ok (.tp [.pl<|.int (Q0 n).key,.tp [.lc f0,.lc f1],.lc f2])<|S++X)
 g0:(S++X)[f0]?=some (dt<|TD T)
 g1:(S++X)[f1]?=some (dt<|HD (bz U0 n) aV)
 g2:(S++X)[f2]?=some (dt<|.list<|C.map stp++kF (oF n).below sts)
 n02:f0≠f2
 l0:S.length<=f0
 l1:S.length<=f1
 l2:S.length<=f2
 kc:∀m,(oF m).key=(Q0 m).key
 bk:Bk c sM U0 oF
 fm:Fm U0 oF
 nt:n∈sM
 ck:C.length<=c/\∀x∈C,x∈U0
 cr:C.length+(sM.length+2*mk U0 oF)<=av.length+2*mk U0 Q0+4
 hs:Hs (bz sM n++(oF n).below) (free oF (oF n).below) sts T aV
 dd:∀t∈T,∀u∈T,(aV t).below.length=(aV u).below.length->t=u
theorem N0(I:c<=600)(h:Bk c av U0 Q0)(f:Fm U0 Q0)(hn:n∈U0)(M:S[p]?=some (dt<|TD av))(O:S[q]?=some (dt<|HD U0 Q0)) :
  ∃X f0 f1 f2 C sM oF sts T aV,Po c av U0 Q0 n S X p q f0 f1 f2 C sM oF sts T aV:=by
 have H:=cG M O;have hd:∀{u:SN} {o:Option gy},u ⟨S,[some<|.tp [.lc p,.lc q],some<|.pl<|.str n,none,none]⟩=o->aY (g6<|nO<|cM dw<|aB (ai 0)<|aB (ai 1) aZ) u ⟨S,[some<|.tp [.lc p,.lc q],some<|.pl<|.str n,none,none]⟩=o:=fun{u o} J=>
  az (dN<|iW (cC (rs:=[(PD av U0 Q0,.fz),(.str n,.fz)]) (aK (ar<|aA<|bC rfl H)<|aK (ar<|aA<|bT rfl) a9) (Cj hn) rfl) rfl) J
 have E:nTo (a0<|mOp gIs (mOp gIx (mOp dW (mOp gIx (ai 0)<|mC<|.int 1)<|ai 1)<|mC<|.int 1)<|mC .none) ⟨S,[some<|.tp [.lc p,.lc q],some<|.pl<|.str n,none,none]⟩=some (.ok (Q0 n).above.isNone ⟨S,[some<|.tp [.lc p,.lc q],some<|.pl<|.str n,none,none]⟩):=cy (test_ev (k:=.fz)<|bE (r:=(.none,.fz)) (Q1:=(.bool (Q0 n).above.isNone,false)) (ar<|eW<|sr hn (ar<|jP<|bC rfl H)<|aA<|bT rfl) (ar rfl)<|sD _);cases ea:(Q0 n).above with
 |none=>
  rw[ea]at E;have nt:=h.ne n hn ea;obtain⟨sts,T,aV,X,w,g,A,F,B,G⟩:=wu I h f nt M O;refine⟨X,_,_,_,[],av,Q0,sts,T,aV,?_,g,A,F,by lia,by lia,by lia,by lia,λ_=>rfl,h,f,nt,⟨Nat.zero_le _,λx K=>by cases K⟩,by simp,B,G⟩
  ·exact kD (t':=[some<|.tp [.lc p,.lc q],some<|.pl<|.str n,none,none]) rfl (hd<|ji<|jQ E<|cR<|cj (aw (ah rfl)<|aw (ah rfl) bh) w) (by simp[blV,iO])
 |some a=>
  rw[ea]at E;obtain⟨C,L,b,l⟩:=Lh h hn (by rw[ea];simp)
  have R:=wA C av Q0 n L b h hn;have e:Bk c (av++C) U0 (cuts C Q0):=R.re λm _=>(jM C Q0 m).symm
  have t:=Fm.cuts C av Q0 n L h hn (f.x n) b;have nt:n∈av++C:=zan _ (by cases b<;>exact zas)
  have co:=sG I h hn b l M O;obtain⟨Y,D⟩:∃Y,Y=[dt<|HD U0<|cuts C Q0,dt<|TD C,dt<|TD<|av++C,dt<|.list<|C.map stp]:=⟨_,rfl⟩;rw[<-D]at co;have k0:(S++Y)[S.length]?=some (dt<|HD U0<|cuts C Q0):=by rw[D];exact ap0
  have k2:(S++Y)[S.length+2]?=some (dt<|TD<|av++C):=by rw[D];exact apk (k:=2) rfl
  have N:(S++Y)[S.length+3]?=some (dt<|.list<|C.map stp):=by rw[D];exact apk (k:=3) rfl
  obtain⟨sts,T,aV,X,w,g,A,F,B,G⟩:=wu I e t nt k2 k0;rw[jM]at w;have sl:=B.len;have V:=(e.bl n hn).1;have W:(bz (av++C) n).length<=(av++C).length:=zaY _ _;have Q:=e.tl;rw[zau]at sl;refine⟨Y++(X++[dt<|.list<|C.map stp++kF (cuts C Q0 n).below sts]),(S++Y).length+6,(S++Y).length+3,(S++Y++X).length,C,av++C,cuts C Q0,sts,T,aV,?_,?_,?_,?_,zaS<|bK g,?_,?_,?_,jM C Q0,e,t,nt,⟨l,(Ch.mem h b hn).1⟩,by have hm:=Ce C av Q0 n L h hn b;rw[zau];lia,B,G⟩
  ·refine kD (t':=[some<|.tp [.lc p,.lc q],some<|.pl<|.str n,some<|.tp [.tp [.lc<|S.length+2,.lc S.length],.lc<|S.length+3],some<|.tp [.pl<|.int (Q0 n).key,.tp [.lc<|(S++Y).length+6,.lc<|(S++Y).length+3],.lc<|(S++Y).length+7]]) rfl (hd ?_) (by simp[blV,iO])
   refine az (dy E rfl) ?_;refine az (bB (i:=2) (cj (aw (ah rfl)<|aw (ah rfl) bh) co) (by simp)) ?_
   refine az (bB (i:=3) (cj (aw (cz (ah rfl) cK rfl)<|aw (ah rfl) bh) w) (by simp)) ?_
   have r2:rdV (S++Y++X) (.tp [.tp [.lc<|S.length+2,.lc S.length],.lc<|S.length+3])=some (.tuple [PD (av++C) U0<|cuts C Q0,.list<|C.map stp]):=by
    simp only[rdV,gq,aS (X:=X) k2,aS (X:=X) k0,aS (X:=X) N,Option.bind_some,Option.map_some]
   have P:rdV (S++Y++X) (.tp [.pl<|.int (Q0 n).key,.tp [.lc<|(S++Y).length+6,.lc<|(S++Y).length+3],.lc<|(S++Y).length+7])=some (.tuple [.int (Q0 n).key,PD T (bz U0 n) aV,.list<|kF (cuts C Q0 n).below sts]):=by
    simp only[rdV,gq,g,A,F,Option.bind_some,Option.map_some]
   refine(cR<|fG (aw (cz (ah rfl) cK rfl)<|aw (cz (ah rfl) cK rfl)<|aw (ia (bE (r:=(.list<|kF (cuts C Q0 n).below sts,.fz)) (Q1:=(.list<|C.map stp++kF (cuts C Q0 n).below sts,true)) (ar<|bE (r:=(.int 1,.fz)) (Q1:=(.list<|C.map stp,false)) (ar<|aA<|bC rfl r2) (ar rfl) rfl) (ar<|bE (r:=(.int 2,.fz)) (Q1:=(.list<|kF (cuts C Q0 n).below sts,false)) (ar<|aA<|bC rfl P) (ar rfl) rfl)<|o9 _ _ (by unfold kF;simp only[List.length_map,List.length_append];lia)) ?_) bh) rfl (by simp)).trans ?_
   ·show a8 (C.map stp++kF (cuts C Q0 n).below sts)=true
    unfold kF;rw[kE,kE,show a8 (C.map stp)=true from uS C,show a8 ((cuts C Q0 n).below.map stF)=true from lQ (λx=>rfl) _,show a8 (sts.map stH)=true from lQ (λx=>rfl) _];rfl
   ·dsimp only
    simp only[List.append_assoc];rfl
  ·rw[<-zaD,<-zaD];exact aS g
  ·rw[<-zaD,<-zaD];exact aS A
  ·rw[<-zaD,<-zaD];exact ap0
  ·simp;lia
  ·simp;lia
  ·simp
theorem m7:∀(C:List Str) (Q0:Str->aG.Row) (m:Str),(cuts C Q0 m).above=none\/(cuts C Q0 m).above=(Q0 m).above
 | [],_,_=>.inr rfl
 |x::C,Q0,m=>by
  rcases m7 C (cX Q0 x<|(Q0 x).above.getD x) m with h|h
  ·exact .inl h
  ·rw[c8]at h
   by_cases e:m=x
   ·rw[if_pos e]at h;exact .inl h
   ·rw[if_neg e]at h;exact .inr h
theorem Ay(h:Ch Q0 n C L):(cuts C Q0 n).above=none:=by
 have key:∀(C:List Str) (Q0:Str->aG.Row),(Q0 n).above=none->(cuts C Q0 n).above=none:=λC Q0 e=>by
  rcases m7 C Q0 n with h|h
  ·exact h
  ·rw[h,e]
 cases h with
 |one ha hm=>rw[dQ ha];exact key [] _ (by rw[c8,if_pos rfl])
 |more ha hm a=>rw[dQ ha];exact key _ _ (by rw[c8,if_pos rfl])
theorem Fm.less(f:Fm U0 Q0)(n:Str)(k:Int):Fm U0 (hE Q0 n k) :=
 ⟨λm hm=>by rw[(cH n m k).2.2];exact f.nd m hm,λm hm b d=>by rw[(cH n m k).2.2]at d;rw[(cH n b k).1];exact f.up m hm b d,λm hm a ha=>by rw[(cH n m k).1]at ha;rw[(cH n a k).2.2];exact f.dn m hm a ha,λm hm i b e=>by rw[(cH n m k).2.2]at e;rw[(cH n b k).2.2,(cH n b k).2.1];exact f.dg m hm i b e⟩
theorem oG(n m:Str)(k:Int):(hE Q0 n k m).key=if m=n then k else(Q0 m).key:=by
 by_cases e:m=n
 ·subst e;rw[wx,if_pos rfl]
 ·rw[wy k e,if_neg e]
theorem Cu(h:Bk c av U0 Q0)(hk:k<(Q0 n).key)(h':Bt K c M U0 aV)(I:∀m,(aV m).key=if m=n then k else(Q0 m).key)(ab:∀m a,(aV m).above=some a->(Q0 m).above=some a)(top:∀a,(aV n).above=some a->aR (Q0 a).key a k n=true):Bk c M U0 aV :=
 ⟨h'.nd,h'.nm,h'.tn,h'.tk,h'.ne,h'.mkd,h'.ab,h'.bl,λm hm a ha=>by
  have d:=ab m a ha;have o:=h.ho m hm a d;show aR (aV a).key a (aV m).key m=true;rw[I,I];have e:=h.neA hm d
  by_cases f:m=n
  ·subst f
   rw[if_pos rfl,if_neg e];exact top a ha
  ·rw[if_neg f]
   by_cases g:a=n
   ·subst g
    rw[if_pos rfl];exact eG (b:=(Q0 a).key) (y:=a) (by unfold aR;simp[hk];lia) o
   ·rw[if_neg g];exact o⟩
theorem Kn(O:c<=600)(h:Bk c av U0 Q0)(f:Fm U0 Q0)(hn:n∈U0)(hk:k<(Q0 n).key)(ha:S[a]?=some (dt<|TD av))(I:S[b]?=some (dt<|HD U0 Q0)) :
  ∃X f0 f1 f2 T aV M,eF S [.tp [.lc a,.lc b],.pl<|.str n,.pl<|.int k]=some (.ok (.tp [.tp [.lc f0,.lc f1],.lc f2])<|S++X)/\(S++X)[f0]?=some (dt<|TD T)/\(S++X)[f1]?=some (dt<|HD U0 aV)/\(S++X)[f2]?=some (dt<|.list M)/\M.length<=c/\M.length+(T.length+2*mk U0 aV)<=av.length+2*mk U0 Q0+4/\S.length<=f0/\S.length<=f1/\Bk c T U0 aV/\Fm U0 aV/\∀m,(aV m).key=if m=n then k else(Q0 m).key:=by
 have keep:Keeps Q0 n k->_:=λp=>(⟨_,_,_,_,av,hE Q0 n k,[],D6 O h hn hk p ha I,apk (k:=1) rfl,ap0,apk (k:=2) rfl,Nat.zero_le _,by rw[Ct];simp,by lia,by lia,Cu h hk (h.less n k) (λm=>oG n m k) (λm a e=>by rw[(cH n m k).1]at e;exact e) (λa e=>by
   rw[(cH n n k).1]at e;exact lO (λz=>h.neA hn e z.symm) (p a e)),f.less n k,λm=>oG n m k⟩:∃X f0 f1 f2 T aV M,eF S [.tp [.lc a,.lc b],.pl<|.str n,.pl<|.int k]=some (.ok (.tp [.tp [.lc f0,.lc f1],.lc f2])<|S++X)/\(S++X)[f0]?=some (dt<|TD T)/\(S++X)[f1]?=some (dt<|HD U0 aV)/\(S++X)[f2]?=some (dt<|.list M)/\M.length<=c/\M.length+(T.length+2*mk U0 aV)<=av.length+2*mk U0 Q0+4/\S.length<=f0/\S.length<=f1/\Bk c T U0 aV/\Fm U0 aV/\∀m,(aV m).key=if m=n then k else(Q0 m).key)
 cases ea:(Q0 n).above with
 |none=>exact keep λa e=>by rw[ea]at e;cases e
 |some l=>
  cases o:aR k n (Q0 l).key l with
  |false=>exact keep λa e=>by rw[ea]at e;cases e;exact o
  |true=>
   have hl:=h.less n k;obtain⟨C,L,d,g⟩:=Lh hl hn (by rw[(cH n n k).1,ea];simp)
   refine⟨_,_,_,_,av++C,cuts C<|hE Q0 n k,C.map stp,Hq O h hn hk ea o d g ha I,apk (k:=3) rfl,apk (k:=1) rfl,apk (k:=4) rfl,by rw[zal];exact g,by have hm:=Ce C av (hE Q0 n k) n L hl hn d;rw[Ct]at hm;rw[zal,zau];lia,by lia,by lia,Cu h hk (wA C av _ n L d hl hn) (λm=>(jM C _ m).trans<|oG n m k) (λm a e=>?_) λa e=>?_,Fm.cuts C av _ n L hl hn ((f.less n k).x n) d,λm=>(jM C _ m).trans<|oG n m k⟩
   ·rcases m7 C (hE Q0 n k) m with z|z
    ·rw[z]at e;cases e
    ·rw[z,(cH n m k).1]at e;exact e
   ·rw[Ay d]at e;cases e
def plL(U0:List Str)(g:Str->Int):List (D×D):=U0.map λn=>(PyData.str n,PyData.int<|g n)
abbrev PL(U0:List Str)(g:Str->Int):D:=.dict (plL U0 g)
def lg(g:Str->Int)(n:Str)(v:Int):Str->Int:=λm=>if m=n then v else g m
variable{g:Str->Int}{n:Str}
theorem oH(g:Str->Int)(n:Str):∀U0:List Str,d4 (plL U0 g) (.inr n)=if n∈U0 then some (.int<|g n)else none
 | []=>rfl
 |m::U0=>by
  show(if keyOf (.str m)=some (.inr n)then some (PyData.int<|g m)else d4 (plL U0 g) (.inr n))=_
  by_cases e:m=n
  ·subst e;rw[if_pos<|og m,if_pos zas]
  ·have a : ¬keyOf (.str m)=some (.inr n):=λz=>e (Sum.inr.inj<|zaQ z)
   rw[if_neg a,oH g n U0]
   by_cases h:n∈U0
   ·rw[if_pos h,if_pos<|zak _ h]
   ·rw[if_neg h,if_neg λz=>(zaf z).elim (λz=>e z.symm) h]
theorem jS(h:∀n∈U0,g n=g' n):plL U0 g=plL U0 g':=List.map_congr_left λm hm=>by rw[h m hm]
theorem sN(U0:List Str)(g:Str->Int):(plL U0 g).length=U0.length:=by unfold plL;rw[zal]
theorem Cv(U0:List Str)(g:Str->Int):(plL U0 g).map (·.1)=U0.map .str:=by unfold plL;rw[List.map_map];rfl
theorem sO(U0:List Str)(g:Str->Int)(n:Str)(v:Int)(h:n∉U0):putD (plL U0 g) (.str n) (.int v) (.inr n)=plL (U0++[n]) (lg g n v):=by
 unfold putD;rw[oH,if_neg h];show plL U0 g++[(.str n,.int v)]=_;rw[show plL (U0++[n]) (lg g n v)=plL U0 (lg g n v)++plL [n] (lg g n v)from za1 ..,jS (g:=g) (g':=lg g n v) λm hm=>by unfold lg;rw[if_neg<|show¬m=n from λz=>h (by rw[<-z];exact hm)]]
 show _=_++[(PyData.str n,PyData.int<|lg g n v n)];unfold lg;rw[if_pos rfl]
theorem Az(U0:List Str)(g:Str->Int)(n:Str)(v:Int)(h:n∈U0):putD (plL U0 g) (.str n) (.int v) (.inr n)=plL U0 (lg g n v):=by
 unfold putD;rw[oH,if_pos h];show(plL U0 g).map _=_;unfold plL;rw[List.map_map];refine List.map_congr_left λm _=>?_
 show(if keyOf (.str m)=some (.inr n)then(PyData.str m,PyData.int v)else(PyData.str m,PyData.int<|g m))=(PyData.str m,PyData.int<|lg g n v m)
 unfold lg
 by_cases e:m=n
 ·subst e;rw[if_pos<|og m,if_pos rfl]
 ·have a : ¬keyOf (.str m)=some (.inr n):=λz=>e (Sum.inr.inj<|zaQ z)
  rw[if_neg a,if_neg e]
theorem Cw{g:Str->Int}(n:Str):∀U0:List Str,mP (plL U0 g) (.inr n)=plL (bz U0 n) g
 | []=>rfl
 |m::l=>by
  have a:=Cw (g:=g) n l;unfold mP plL bz at a⊢;rw[zaz,List.filter_cons,List.filter_cons];have e:(decide<|keyOf (PyData.str m)≠some (Sum.inr n))= !decide (m=n):=by
   by_cases z:m=n
   ·subst z;rw[zaH rfl];exact zaO λw=>w rfl
   ·rw[zaO z]
    exact zaH λw=>z (Sum.inr.inj<|zaQ w)
  dsimp only;rw[e];split
  ·rw[zaz,a]
  ·exact a
theorem Hw:∀(l pre:List Str),(∀m∈l,m∉k1++pre)->l.Nodup->DM (plL (k1++pre) g) (plL l g)=some (plL (k1++(pre++l)) g)
 | [],pre,_,_=>by rw[zaR];rfl
 |m::l,pre,h,nd=>by
  obtain⟨b,nd2⟩:=List.nodup_cons.mp nd;show(keyOf<|.str m).bind (λk=>DM (putD (plL (k1++pre) g) (.str m) (.int<|g m) k)<|plL l g)=_
  rw[og,zai,sO _ _ _ _<|h m zas,show lg g m (g m)=g from funext λx=>by unfold lg;split<;>simp_all,zaD]
  rw[Hw l (pre++[m]) (λx a z=>by
   rw[<-zaD]at z;rcases zae z with z|z
   ·exact h x (zak _ a) z
   ·rw[zad z]at a;exact b a) nd2,zaD]
  rfl
theorem Hx(h:n∈U0):dW (PL U0 g) (.str n)=some (.int<|g n,false):=by
 show(d4 (plL U0 g)<|.inr n).map _=_;rw[oH,if_pos h];rfl
abbrev kf(Q0:Str->aG.Row):Str->Int:=λn=>(Q0 n).key
theorem Cy{fr:List<|Str×Nat}{dv:PM}{e:PM}{ρ:Rho}{I:List D}(O:dv ρ=some ((PL U0 g,.fz),ρ))(Y:pJ ρ=true)(U:gY M e (fr.map λp=>bQ ρ p.2) (U0.map .str)=some I)(h3:I.length<=100000):tL fr dv M e ρ=some ((.list I,.new),ρ):=by
 unfold tL;rw[O,zai];dsimp only[uC,Option.bind_some];rw[if_pos Y,Cv,U,zai,bA<|uq h3]
variable{t1 k1 t2 k2:List Str}{r1 r2:Str->aG.Row}
theorem Ko(s:SS):pJ (vw s)=true:=by
 unfold pJ vw;rw[List.all_eq_true];intro x a;obtain⟨y,_,rfl⟩:=List.mem_map.mp a;rcases uw s.S y with e|⟨d,x,e,_⟩<;>rw[e]
abbrev pw(a b d e p q:Nat)(x4 x5:Option SV):List (Option SV):=[some<|.tp [.lc a,.lc b],some<|.tp [.lc d,.lc e],some<|.lc p,some<|.lc q,x4,x5]
theorem Hs.PH(h:Hs T Q0 r T' aV):∀m,(aV m).key=(Q0 m).key:=by
 induction h with
 |nil=>exact λ_=>rfl
 |cons a b c d e _ f=>exact λm=>(f m).trans (qr c m)
theorem Hy(Q0:Str->aG.Row)(n:Str)(r:aG.Row):lg (kf Q0) n r.key=kf (aW Q0 n r):=funext λm=>by
 unfold lg kf
 by_cases e:m=n
 ·subst e;rw[if_pos rfl,aO]
 ·rw[if_neg e,aI _ _ e]
def Hz(h : ρ[i]?=some (.fz<|TD l)):IE (mCB gv<|aB (ai i) aZ) ρ (l.length:Int):=Cf (.inl h)
theorem PJ{l:List Str}(hl : 0<l.length)(v:Int):∃n∈l,L2.atI (l.map PyData.str) (v%(l.length:Int))=some (.str n):=by
 have b:=Int.emod_nonneg v (show(l.length:Int)≠0 by lia)
 have d:=Int.emod_lt_of_pos v (show(0:Int)<(l.length:Int) by lia)
 obtain⟨j,a⟩:∃j:Nat,(j:Int)=v%(l.length:Int):=⟨(v%(l.length:Int)).toNat,by lia⟩
 have lj:j<l.length:=by lia
 refine⟨l[j],List.getElem_mem lj,?_⟩;rw[<-a];exact Mir.nM (by rw[zao,zaC lj];rfl)
structure Made(c:Nat)(S X:List<|Option Cl)(f0 f1 e:Nat)(T K:List Str)(R:Str->aG.Row):Prop where
 g0:(S++X)[f0]?=some (dt<|TD T)
 g1:(S++X)[f1]?=some (dt<|HD K R)
 g2:(S++X)[e]?=some (dt<|PL K<|kf R)
 bk:Bk c T K R
 fm:Fm K R
variable{c:Nat}{av U0:List Str}{Q0:Str->aG.Row}{g:Str->Int}{n:Str}
theorem ix4{k:Nat}{x y z u d:D}{i:Nat}(M : ρ[i]?=some (.fz<|.tuple [x,y,z,u]))(I : [x,y,z,u][k]?=some d):mOp gIx (ai i) (mC<|.int (k:Int)) ρ=some ((d,.fz),ρ):=bE (r:=(.int (k:Int),.fz)) (Q1:=(d,false)) (ar<|aA M) (ar rfl) (by
 match k,I with
 |0,I=>cases I;rfl
 |1,I=>cases I;rfl
 |2,I=>cases I;rfl
 |3,I=>cases I;rfl
 |k+4,I=>cases I)
theorem HA{f0 f1 f2:Nat}{L:List D}{T I:List Str}{M:Str->aG.Row}(O:Z[f0]?=some (dt<|TD T))(U:Z[f1]?=some (dt<|HD I M))(Y:Z[f2]?=some (dt<|.list L)) :
  rdV Z (.tp [.pl<|.str n,.pl<|.int k,.tp [.lc f0,.lc f1],.lc f2])=some (.tuple [.str n,.int k,PD T I M,.list L]):=by
 simp only[rdV,gq,O,U,Y,Option.bind_some,Option.map_some]
abbrev stc(p:SV)(x y z:Int):Cl:=.lst [p,.pl<|.int x,.pl<|.int y,.pl<|.int z]
theorem qG{n j:Nat}(h:j<n):L2.ixN n (j:Int)=some j:=by
 unfold L2.ixN;rw[if_pos (by lia),if_pos (by lia)];simp
theorem k6{y:SV}{xs:List SV}(h:v s=some (.ok y s'))(hi:s'.t[i]?=some (some<|.lc k))(hk:s'.S[k]?=some (some<|.lst xs))(I:j<xs.length):bG v (fO (aE i)<|nLit<|.int (j:Int)) s=some (.nx ⟨s'.S.set k<|some<|.lst<|xs.set j y,s'.t⟩):=by
 unfold bG;rw[d5 h];unfold fO;rw[d5<|ah hi,d5 cK];dsimp only;simp only[FZ,hk,qG I,Option.map_some]
theorem mH{i j k:Nat}{xs:List SV}(hi:s.t[i]?=some (some<|.lc k))(hk:s.S[k]?=some (some<|.lst xs))(I:xs[j]?=some y):nIx (aE i) (nLit<|.int (j:Int)) s=some (.ok y s) :=
 cz (ah hi) cK (by simp only[ixV,hk];exact Mir.nM I)
theorem Kq{x y:D}(h:a s=some (.ok (.pl<|.tuple [x,y]) s'))(hi:i<s'.t.length)(I:j<s'.t.length):bG a (ngT 2<|kg i<|kg j z6) s=some (.nx ⟨s'.S,(s'.t.set i<|some<|.pl x).set j<|some<|.pl y⟩):=by
 unfold bG;rw[d5 h];unfold ngT;rw[show m3 s'.S (.pl<|.tuple [x,y])=some [.pl x,.pl y]from rfl,zai,if_pos<|show([.pl x,.pl y]:List SV).length=2 from rfl,Lp hi,Lp (by rw[zaM];exact I)]
 rfl
theorem iE(h:m s=some (.ok xs s1))(I:jE xs=none)(M:gq s1.S xs=some ds)(O:f ds=some (d,false))(U:dZ d=true):fk f m s=some (.ok (.pl d) s1):=by
 unfold fk;rw[c9 h,I];dsimp only;rw[M,zai,O,zai];exact if_pos U
def cr(T K:List Str)(R:Str->aG.Row):Int:=(T.length:Int)+2*(mk K R:Int)
def Hd(Z:List Nat)(S:List<|Option Cl)(s q:Nat)(K:List Str)(k w:Int):Prop:=∃a b T R D p2,S[s]?=some (some<|stc (.tp [.lc a,.lc b]) D p2 k)/\S[a]?=some (dt<|TD T)/\S[b]?=some (dt<|HD K R)/\S[q]?=some (dt<|PL K<|kf R)/\Bk 600 T K R/\Fm K R/\(∀z∈Z,b≠z)/\D+cr T K R-p2=w
def Fx(S S':List<|Option Cl)(s q:Nat):Prop:=S.length<=S'.length/\∀x,x<S.length->x≠s->x≠q->S'[x]?=S[x]?
def Fx.refl:Fx S S s q:=⟨zap _,λ_ _ _ _=>rfl⟩
theorem Fx.trans(M:Fx S S' s q)(O:Fx S' I s q):Fx S I s q:=⟨zaX M.1 O.1,λx a b c=>(O.2 x (zaF a M.1) b c).trans<|M.2 x a b c⟩
theorem sP{n s:Nat}(hs:s<n)(h:S[s]?=some (some d))(I:blC n d=false):fS n S=S:=by
 unfold fS;rw[if_neg λz=>?_]
 have:=jR z (List.mem_iff_getElem?.mpr ⟨s,by rw[List.getElem?_take,if_pos hs];exact h⟩)
 rw[I]at this;cases this
theorem ref0:dO [PD [] U0 Q0,.int 0]=some (.bool true,false):=by
 refine dY (o:=.rt (.bool true,.fz) [.fz<|PD [] U0 Q0,.fz<|.int 0,.fz<|.bool true]) rfl ?_ rfl;refine b9 (ρ1:=[.fz<|PD [] U0 Q0,.fz<|.int 0,.fz<|.bool false]) (fZ rfl rfl) ?_;refine b9 (ρ1:=[.fz<|PD [] U0 Q0,.fz<|.int 0,.fz<|.bool true]) ?_ (ee<|aA rfl);unfold By;rw[show(eIf (a0<|mOp gEq (ai 1)<|mC<|.int 0) (eX kU<|gx dr<|aB (ai 0) aZ)<|eX kU<|gx eU<|aB (ai 0) aZ) [.fz<|PD [] U0 Q0,.fz<|.int 0,.fz<|.bool false]=some (.er "Empty" [.fz<|PD [] U0 Q0,.fz<|.int 0,.fz<|.bool false])from Lk (tEq (cw rfl) bV rfl) (Hc<|sE (rs:=[(PD [] U0 Q0,.fz)]) rfl rfl uW)];rfl
theorem Qx:dO [PD [] U0 Q0,.int 1]=some (.bool true,false):=by
 refine dY (o:=.rt (.bool true,.fz) [.fz<|PD [] U0 Q0,.fz<|.int 1,.fz<|.bool true]) rfl ?_ rfl;refine b9 (ρ1:=[.fz<|PD [] U0 Q0,.fz<|.int 1,.fz<|.bool false]) (fZ rfl rfl) ?_;refine b9 (ρ1:=[.fz<|PD [] U0 Q0,.fz<|.int 1,.fz<|.bool true]) ?_ (ee<|aA rfl);unfold By;have a:eU [PD [] U0 Q0]=some (.inr "Empty"):=Hb (ρ:=[.fz<|PD [] U0 Q0,.no,.no]) rfl (Ci<|Hc<|sE (rs:=[(PD [] U0 Q0,.fz)]) rfl rfl uW);rw[show(eIf (a0<|mOp gEq (ai 1)<|mC<|.int 0) (eX kU<|gx dr<|aB (ai 0) aZ)<|eX kU<|gx eU<|aB (ai 0) aZ) [.fz<|PD [] U0 Q0,.fz<|.int 1,.fz<|.bool false]=some (.er "Empty" [.fz<|PD [] U0 Q0,.fz<|.int 1,.fz<|.bool false])from Pz (tNe (cw rfl) bV (by decide)) (Hc<|sE (rs:=[(PD [] U0 Q0,.fz)]) rfl rfl a)]
 rfl
theorem y8(h:a s=some (.ok (.lc k) s))(hk:s.S[k]?=some (dt<|PL U0 g))(I:m s=some (.ok [.pl<|.str n] s))(hn:n∈U0):lC a m s=some (.ok (.pl<|.int<|g n) ⟨s.S.set k<|dt<|PL (bz U0 n) g,s.t⟩):=by
 unfold lC;rw[c9 h];simp only[qm,hk,if_true];rw[c9 I];unfold yq;dsimp only[keyOf,Option.bind_some];rw[hk];dsimp only;rw[oH,if_pos hn,Cw,zaT]
theorem y9(M:v s=some (.ok (.pl<|.int w) s))(hd:d s=some (.ok (.lc j) s))(hk:k s=some (.ok (.pl<|.str n) s))(I:s.S[j]?=some (dt<|PL U0 g))(hl:U0.length<=1000)(ho:putD (plL U0 g) (.str n) (.int w) (.inr n)=es):gr d k v s=some (.nx ⟨s.S.set j<|dt<|.dict es,s.t⟩):=by
 unfold gr;rw[d5 M,d5 hd,d5 hk];unfold Gu;dsimp only[keyOf,Option.bind_some];rw[I];dsimp only;rw[bA (by rw[sN];lia),ho]
theorem wB(h : ρ[i]?=some (.fz<|PL U0 g)):a0 (mOp rW (ai i) lA) ρ=some (U0.isEmpty,ρ):=test_ev (k:=.fz) (bE (r:=(.dict [],.fz)) (Q1:=(.bool U0.isEmpty,false)) (ar<|aA h) (mY rfl) (by
 show some (PyData.bool (plL U0 g).isEmpty,false)=_;cases U0<;>rfl))
theorem HB(h : ρ[i]?=some (.fz<|PL U0 g)):IE (mCB ig<|aB (ai i) aZ) ρ (U0.length:Int):=GW (Q1:=(.int (U0.length:Int),false)) (.inl h) (by show some (PyData.int ((plL U0 g).length:Int),false)=_;rw[sN])
theorem Kr(I:U0≠[])(hl:U0.length<=1000)(M:(vw s)[1]?=some (.fz<|PL U0<|kf Q0)):∃n,Lst Q0 U0 n/\nO (mCB uG<|aB (tL [("_law_plain",1)] (lB 1) mF gP) aZ) s=some (.ok (.pl<|.tuple [.int (Q0 n).key,.str n]) s):=by
 obtain⟨n,hn,em⟩:=Ki (Q0:=Q0) I;refine⟨n,hn,?_⟩;have hd:bQ (vw s) 1=.fz (PL U0<|kf Q0):=by unfold bQ;rw[M]
 have a:=Mir.iA (e:=gP) (ρn:=[.fz<|PL U0<|kf Q0]) (f:=PyData.str) (g:=λt=>PyData.tuple [.int (Q0 t).key,.str t]) U0 λx b=>⟨[.fz<|.str x,.fz<|PL U0<|kf Q0],ar<|j8 (rs:=[(.int (Q0 x).key,.fz),(.str x,.fz)]) (aK (ar<|bE (r:=(.str x,.fz)) (Q1:=(.int (Q0 x).key,false)) (ar<|aA rfl) (ar<|aA rfl)<|Hx b)<|aK (ar<|aA rfl) a9) rfl (by simp)⟩
 exact iW (eg (rs:=[(.list<|U0.map λt=>PyData.tuple [.int (Q0 t).key,.str t],.fz)]) (Q1:=(.tuple [.int (Q0 n).key,.str n],false)) (aK (mY<|Cy (fr:=[("_law_plain",1)]) (by unfold lB;rw[M]) (Ko _) (by show gY mF gP [bQ (vw s) 1] _=_;rw[hd];exact a) (by rw[zal];lia)) a9) em) rfl
def oI(I:a s=some (.ok (.pl<|.int i) s))(M:b s=some (.ok (.pl<|.int j) s)):nOp dU a b s=some (.ok (.pl<|.int<|i+j) s):=pU I M mR mR rfl
abbrev tk(s q:Nat)(M x3 x4 x5:Option SV):List (Option SV):=[some<|.lc s,some<|.lc q,M,x3,x4,x5]
theorem oJ(nd:l.Nodup)(h:n∈l):(bz l n).length+1=l.length:=by
 rw[<-D4 nd,List.length_erase_of_mem h];have:=List.length_pos_of_mem h
 lia
theorem za(h:Bk c av U0 Q0)(fm:Fm U0 Q0)(I:n∈U0)(hm:U0.length<gd (m+1)):(Q0 n).below.length<=m:=by
 have:=NK h fm I;rcases Nat.lt_or_ge m (Q0 n).below.length with z|z
 ·have:=Cg (show m+1<=(Q0 n).below.length from z);lia
 ·exact z
structure Sx(Z:List Nat)(S S':List<|Option Cl)(s q:Nat)(K K':List Str)(k k' w:Int):Prop where
 hd:∃w',w'<=w/\Hd Z S' s q K' k' w'
 fx:Fx S S' s q
theorem oK(h:Hd Z S s q K k w)(hz:∀z∈Z,z<S.length)(hqz:q∈Z):∃S' K',du S [.lc s,.lc q]=some (.ok (.pl<|.bool true) S')/\Sx Z S S' s q K K' k k w/\(∀n∈K',n∈K)/\(K=[]->K'=[])/\(K≠[]->K'.length<K.length):=by
 obtain⟨a,b,T,R,H,p2,hs,ha,P,V,B,F,hZ,hw⟩:=id h;have kl:=B.kl;have tl:=B.tl;have ls:=bK hs;have la:=bK ha;have lb:=bK P;have lq:=bK V;have G:s≠q:=λe=>by rw[e,V]at hs;cases hs
 have nas:a≠s:=λe=>by rw[e,hs]at ha;cases ha
 have nbs:b≠s:=λe=>by rw[e,hs]at P;cases P
 by_cases e0:K=[]
 ·subst e0
  have eT:T=[]:=by
   cases T with
   |nil=>rfl
   |cons t T=>exact absurd (B.tk t zas).1 (by simp)
  subst eT;refine⟨S,[],?_,⟨⟨w,Int.le_refl w,h⟩,Fx.refl⟩,λ_ e=>e,λ_=>rfl,λe=>absurd rfl e⟩
  refine kB (o:=.rt (.pl<|.bool true) ⟨S,tk s q none none none none⟩) rfl (ji<|jQ (cy<|wB (U0:=[]) (g:=kf R)<|bC rfl<|cE V)<|cR<|Ck (iE (ds:=[PD [] [] R,.int 0]) (aw (mH rfl hs rfl)<|aw cK bh) rfl (by simp only[gq,cG ha P,yW,Option.bind_some,Option.map_some]) ref0 rfl)<|iE (ds:=[PD [] [] R,.int 1]) (aw (mH rfl hs rfl)<|aw cK bh) rfl (by simp only[gq,cG ha P,yW,Option.bind_some,Option.map_some]) Qx rfl) ?_
  show some (FR.ok (.pl<|.bool true)<|fS S.length S)=_;rw[Cp<|zap _]
 obtain⟨n,hl,em⟩:=Kr (Q0:=R) (s:=⟨S,tk s q none none none none⟩) e0 (by lia) (bC rfl<|cE V)
 have hn:n∈T:=hl.top B λ_ _=>rfl
 have hlt:Lst R T n:=⟨hn,λm hm=>hl.2 m (B.tk m hm).1⟩
 obtain⟨m,hm,eln⟩:=yY (av:=T) (U0:=K) (Q0:=R) (λz=>by rw[z]at hn;cases hn) λt ht=>(B.tk t ht).1
 obtain rfl:n=m:=hlt.one hm hn hm.1;obtain⟨sts,T',M,X,r1,r2,W,I,E,_⟩:=Hr (by lia) B F hlt ha P
 obtain⟨hB',hF',hmk⟩:=sJ B F hn;obtain⟨hT,hFT⟩:=E.inv hB' hF';have QW:=E.marks hB' hF';obtain⟨d,hd,emb⟩:=Cr (n:=K.length) (by lia)
 have bm:=za B F hl.1 hd;have hsl:=E.len;have ol:=oJ B.tn hn;rw[zau]at hsl;have bb:=(B.bl n hl.1).1;obtain⟨L,hL⟩:∃L,L=kF (R n).below sts:=⟨_,rfl⟩;have lL:L.length=(R n).below.length+sts.length:=by rw[hL];unfold kF;simp
 rw[<-hL]at I;obtain⟨Y,hY⟩:∃Y,Y=S++X:=⟨_,rfl⟩;have sub:∀{x:Nat} {c:Option Cl},S[x]?=some c->Y[x]?=some c:=λe=>by rw[hY];exact aS e
 have lY:S.length<=Y.length:=by rw[hY,zau];lia
 rw[<-hY]at r1 r2 W I;obtain⟨f0,hf0⟩:∃f0,f0=S.length+6:=⟨_,rfl⟩;obtain⟨f1,hf1⟩:∃f1,f1=S.length+3:=⟨_,rfl⟩;obtain⟨f2,hf2⟩:∃f2,f2=S.length+7:=⟨_,rfl⟩;rw[<-hf0,<-hf1,<-hf2]at r1;rw[<-hf0]at r2;rw[<-hf1]at W;rw[<-hf2]at I;obtain⟨f,ht⟩:∃f:SV,f=.tp [.pl<|.str n,.pl<|.int (R n).key,.tp [.lc f0,.lc f1],.lc f2]:=⟨_,rfl⟩;obtain⟨J,l⟩:∃J,J=Y.set s (some<|stc (.tp [.lc a,.lc b]) H (p2+2*(d:Int)) k):=⟨_,rfl⟩;obtain⟨O,p⟩:∃O,O=J.set q (dt<|PL (bz K n)<|kf R):=⟨_,rfl⟩;obtain⟨N,u⟩:∃N,N=O.set s (some<|stc (.tp [.lc f0,.lc f1]) H (p2+2*(d:Int)) k):=⟨_,rfl⟩;obtain⟨A,C⟩:∃A,A=N.set s (some<|stc (.tp [.lc f0,.lc f1]) (H+(L.length:Int)) (p2+2*(d:Int)) k):=⟨_,rfl⟩;have l1:J.length=Y.length:=by rw[l,zaM]
 have l2:O.length=Y.length:=by rw[p,zaM,l1]
 have l3:N.length=Y.length:=by rw[u,zaM,l2]
 have l4:A.length=Y.length:=by rw[C,zaM,l3]
 have s1:J[s]?=some (some<|stc (.tp [.lc a,.lc b]) H (p2+2*(d:Int)) k):=by rw[l];exact zav (by lia)
 have q1:J[q]?=some (dt<|PL K<|kf R):=by rw[l,bx<|Ne.symm G];exact sub V
 have s2:O[s]?=some (some<|stc (.tp [.lc a,.lc b]) H (p2+2*(d:Int)) k):=by rw[p,bx G];exact s1
 have s3:N[s]?=some (some<|stc (.tp [.lc f0,.lc f1]) H (p2+2*(d:Int)) k):=by rw[u];exact zav (by lia)
 have s4:A[s]?=some (some<|stc (.tp [.lc f0,.lc f1]) (H+(L.length:Int)) (p2+2*(d:Int)) k):=by rw[C];exact zav (by lia)
 have o4:∀x,x≠s->x≠q->A[x]?=Y[x]?:=λx D U=>by rw[C,bx D,u,bx D,p,bx U,l,bx D]
 have o3:∀x,x≠s->x≠q->N[x]?=Y[x]?:=λx D U=>by rw[u,bx D,p,bx U,l,bx D]
 have q4:A[q]?=some (dt<|PL (bz K n)<|kf R):=by rw[C,bx<|Ne.symm G,u,bx<|Ne.symm G,p];exact zav (by lia)
 have ek:PL (bz K n) (kf R)=PL (bz K n) (kf M):=congrArg PyData.dict (jS λx _=>by show(R x).key=(M x).key;rw[E.PH x,(gR (Q0:=R) _ x).1])
 rw[ek]at q4;have fin:Hd Z A s q (bz K n) k (H+(L.length:Int)+cr T' (bz K n) M-(p2+2*(d:Int))):=⟨f0,f1,T',M,_,_,s4,by rw[o4 f0 (by lia) (by lia)];exact r2,by rw[o4 f1 (by lia) (by lia)];exact W,q4,hT,hFT,λz D U=>by have:=hz z D;lia,rfl⟩
 refine⟨A,bz K n,?_,⟨⟨_,?_,fin⟩,⟨by lia,λx D U e3=>by rw[o4 x U e3,hY,zax D]⟩⟩,λx hx=>(bU.mp hx).1,λe=>absurd e e0,λ_=>by have:=oJ B.nd hl.1;lia⟩
 ·have tE:=wB (ρ:=vw ⟨S,tk s q none none none none⟩) (i:=1) (U0:=K) (g:=kf R) (bC rfl<|cE V)
  rw[show K.isEmpty=false by cases K with|nil=>exact absurd rfl e0|cons _ _=>rfl]at tE
  have body:qp ⟨S,tk s q none none none none⟩=some (.rt (.pl<|.bool true) ⟨A,tk s q (some<|.pl<|.int (R n).key) (some<|.pl<|.str n) (some<|.pl<|.str n)<|some f⟩):=by
   refine az (dy (cy tE) rfl) ?_;refine az (s':=⟨S,tk s q (some<|.pl<|.int (R n).key) (some<|.pl<|.str n) none none⟩) (Kq em (by simp) (by simp)) ?_
   refine az (s':=⟨S,tk s q (some<|.pl<|.int (R n).key) (some<|.pl<|.str n) (some<|.pl<|.str n) none⟩) (bB (i:=4) (iE (ds:=[PD T K R]) (aw (mH rfl hs rfl) bh) rfl (by simp only[gq,cG ha P,Option.bind_some,Option.map_some]) eln rfl) (by simp)) ?_
   refine az (s':=⟨Y,tk s q (some<|.pl<|.int (R n).key) (some<|.pl<|.str n) (some<|.pl<|.str n)<|some f⟩) (bB (i:=5) (cj (aw (mH rfl hs rfl) bh) (by rw[ht];exact r1)) (by simp)) ?_
   have v5:∀{Q:List<|Option Cl},Q[f0]?=some (dt<|TD T')->Q[f1]?=some (dt<|HD (bz K n) M)->Q[f2]?=some (dt<|.list L)->(vw ⟨Q,tk s q (some<|.pl<|.int (R n).key) (some<|.pl<|.str n) (some<|.pl<|.str n)<|some f⟩)[5]?=some (.fz<|.tuple [.str n,.int (R n).key,PD T' (bz K n) M,.list L]):=fun{Q} z1 z2 z3=>bC rfl (by rw[ht];exact HA z1 z2 z3)
   refine az (dy (cy<|rB (test_ev (k:=.fz) (v:=false)<|bE (r:=(.str n,.fz)) (Q1:=(.bool false,false)) (ar<|aA<|bT rfl) (ar<|aA<|bT rfl) (by rw[qP (B.ok hl.1)<|B.ok hl.1];simp))<|rB (test_ev (k:=.fz) (v:=false)<|bE (r:=(.str n,.fz)) (Q1:=(.bool false,false)) (ar<|ix4 (k:=0) (v5 r2 W I) rfl) (ar<|aA<|bT rfl) (by rw[qP (B.ok hl.1)<|B.ok hl.1];simp))<|rB (iN (KH (ix4 (k:=1) (v5 r2 W I) rfl)<|cw<|bT rfl) (by simp))<|test_ev (k:=.fz) (v:=false)<|FK (ar<|ix4 (k:=1) (v5 r2 W I) rfl)<|j7 _) rfl) ?_
   refine az (s':=⟨J,tk s q (some<|.pl<|.int (R n).key) (some<|.pl<|.str n) (some<|.pl<|.str n)<|some f⟩) ((k6 (j:=2) (oI (mH rfl (sub hs) rfl)<|iX<|rC bV (qJ (rs:=[(.int (K.length:Int),.fz)]) (xN (HB<|bC rfl<|cE<|sub V) a9) emb)<|Bo<|.inl ⟨by decide,by decide⟩) rfl (sub hs) (by simp)).trans (by rw[l];rfl)) ?_
   refine az (s':=⟨O,tk s q (some<|.pl<|.int (R n).key) (some<|.pl<|.str n) (some<|.pl<|.str n)<|some f⟩) ((dN<|y8 (ah rfl) q1 (aw (ah rfl) bh) hl.1).trans (by rw[p])) ?_
   refine az (s':=⟨N,tk s q (some<|.pl<|.int (R n).key) (some<|.pl<|.str n) (some<|.pl<|.str n)<|some f⟩) ((k6 (j:=0) (y:=.tp [.lc f0,.lc f1]) (cz (ah rfl) cK (by rw[ht];rfl)) rfl s2 (by simp)).trans (by rw[u];rfl)) ?_
   refine az (s':=⟨A,tk s q (some<|.pl<|.int (R n).key) (some<|.pl<|.str n) (some<|.pl<|.str n)<|some f⟩) ((k6 (j:=1) (oI (mH rfl s3 rfl)<|iX<|eg (rs:=[(.list L,.fz)]) (Q1:=(.int (L.length:Int),false)) (aK (ar<|ix4 (k:=3) (v5 (by rw[o3 f0 (by lia) (by lia)];exact r2) (by rw[o3 f1 (by lia) (by lia)];exact W) (by rw[o3 f2 (by lia) (by lia)];exact I)) rfl) a9) rfl) rfl s3 (by simp)).trans (by rw[C];rfl)) ?_
   exact cR cK
  refine kB rfl body ?_;show some (FR.ok (.pl<|.bool true)<|fS S.length A)=_;rw[sP ls s4 (by show(blV S.length (.tp [.lc f0,.lc f1])&&_)=false;simp[blV,iO];lia)]
 ·unfold cr at hw⊢
  lia
abbrev tp5(s q:Nat)(v:Int)(x3 x4:Option SV):List (Option SV):=[some<|.lc s,some<|.lc q,some<|.pl<|.int v,x3,x4]
theorem uX(h:m s=some (.ok xs s1))(O:gq s1.S xs=some ds)(U:f ds=some (I,M))(Y:dk I true=true)(p2:dk M true=true):pK f m s=some (.ok (.tp [.lc s1.S.length,.lc<|s1.S.length+1]) ⟨s1.S++[dt I,dt M],s1.t⟩):=by
 have:=D9 (f:=f) (S:=s1.S) (X:=[]) (t:=s1.t) (s:=s) (m:=m) (xs:=xs) (ds:=ds) (by rw[zaR];exact h) (by rw[zaR];exact O) U Y p2
 simpa using this
theorem Cz{K:List Str}{i:Nat}{w:Int}(h:Hd Z S s q K (i:Int) w)(hz:∀z∈Z,z<S.length)(M:q∈Z)(hi:i<600)(I:aT i∉K)(v:Int):∃S',jL S [.lc s,.lc q,.pl<|.int v]=some (.ok (.pl .none) S')/\Sx Z S S' s q K (K++[aT i]) i ((i+1:Nat):Int) w:=by
 obtain⟨a,b,T,R,u,p2,hs,ha,P,V,B,F,hZ,hw⟩:=id h;have kl:=B.kl;have tl:=B.tl;have ls:=bK hs;have la:=bK ha;have lb:=bK P;have lq:=bK V;have G:s≠q:=λe=>by rw[e,V]at hs;cases hs
 have O:a≠s:=λe=>by rw[e,hs]at ha;cases ha
 have Y:b≠s:=λe=>by rw[e,hs]at P;cases P
 have X:a≠q:=λe=>by rw[e,V]at ha;cases ha
 have U:b≠q:=hZ q M;obtain⟨y,hy⟩:=key_is v;have B':=Bk.zY hi B I y;have F':=F.new B.ab I y;obtain⟨H,m⟩:∃H,H=aW R (aT i) ⟨y,none,false,[]⟩:=⟨_,rfl⟩;obtain⟨C,l⟩:∃C,C=S.set s (some<|stc (.tp [.lc a,.lc b]) u p2<|(i:Int)+1):=⟨_,rfl⟩;obtain⟨d,o⟩:∃d,d=C.set q (dt<|PL (K++[aT i])<|kf H):=⟨_,rfl⟩;obtain⟨D,f⟩:∃D,D=d++[dt<|TD<|T++[aT i],dt<|HD (K++[aT i]) H]:=⟨_,rfl⟩;obtain⟨J,p⟩:∃J,J=D.set s (some<|stc (.tp [.lc d.length,.lc<|d.length+1]) u p2<|(i:Int)+1):=⟨_,rfl⟩;obtain⟨A,r⟩:∃A,A=J.set s (some<|stc (.tp [.lc d.length,.lc<|d.length+1]) u (p2+1)<|(i:Int)+1):=⟨_,rfl⟩;have l2:d.length=S.length:=by rw[o,zaM,l,zaM]
 have l3:D.length=S.length+2:=by rw[f,zau,l2];rfl
 have l4:J.length=S.length+2:=by rw[p,zaM,l3]
 have l5:A.length=S.length+2:=by rw[r,zaM,l4]
 have s1:C[s]?=some (some<|stc (.tp [.lc a,.lc b]) u p2<|(i:Int)+1):=by rw[l];exact zav ls
 have q1:C[q]?=some (dt<|PL K<|kf R):=by rw[l,bx<|Ne.symm G];exact V
 have s2:d[s]?=some (some<|stc (.tp [.lc a,.lc b]) u p2<|(i:Int)+1):=by rw[o,bx G];exact s1
 have q2:d[q]?=some (dt<|PL (K++[aT i])<|kf H):=by rw[o];exact zav (by rw[l,zaM];exact lq)
 have o2:∀x,x≠s->x≠q->d[x]?=S[x]?:=λx E N=>by rw[o,bx N,l,bx E]
 have s3:D[s]?=some (some<|stc (.tp [.lc a,.lc b]) u p2<|(i:Int)+1):=by rw[f];exact aS s2
 have s4:J[s]?=some (some<|stc (.tp [.lc d.length,.lc<|d.length+1]) u p2<|(i:Int)+1):=by rw[p];exact zav (by lia)
 have s5:A[s]?=some (some<|stc (.tp [.lc d.length,.lc<|d.length+1]) u (p2+1)<|(i:Int)+1):=by rw[r];exact zav (by lia)
 have W:∀x,x≠s->A[x]?=D[x]?:=λx E=>by rw[r,bx E,p,bx E]
 refine⟨A,?_,⟨⟨w,Int.le_refl w,⟨d.length,d.length+1,T++[aT i],H,u,p2+1,s5,?_,?_,?_,m▸B',m▸F',λz E N=>?_,?_⟩⟩,⟨by lia,λx E N e3=>?_⟩⟩⟩
 ·have ey:∀{Q:List<|Option Cl} {x3 x4:Option SV},nO (cM gi<|aB (ai 2) aZ) ⟨Q,tp5 s q v x3 x4⟩=some (.ok (.pl<|.int y) ⟨Q,tp5 s q v x3 x4⟩):=fun{Q x3 x4}=>iX (qJ (rs:=[(.int v,.fz)]) (xN (cw<|bT rfl) a9) hy)
  have L:uI ⟨S,tp5 s q v none none⟩=some (.nx ⟨A,tp5 s q v (some<|.pl<|.str<|aT i)<|some<|.pl<|.int y⟩):=by
   refine az (s':=⟨S,tp5 s q v (some<|.pl<|.str<|aT i) none⟩) (bB (i:=3) (DY (aw (mH rfl hs rfl) bh) rfl<|JW i) (by simp)) ?_
   refine az (s':=⟨C,tp5 s q v (some<|.pl<|.str<|aT i) none⟩) ((k6 (j:=3) (oI (mH rfl hs rfl) cK) rfl hs (by simp)).trans (by rw[l];rfl)) ?_
   refine az (s':=⟨C,tp5 s q v (some<|.pl<|.str<|aT i)<|some<|.pl<|.int y⟩) (bB (i:=4) ey (by simp)) ?_
   refine az (s':=⟨d,tp5 s q v (some<|.pl<|.str<|aT i)<|some<|.pl<|.int y⟩) ((y9 (ah rfl) (ah rfl) (ah rfl) q1 (by lia)<|sO _ _ _ _ I).trans (by rw[o,m,<-Hy R (aT i) ⟨y,none,false,[]⟩])) ?_
   refine az (s':=⟨J,tp5 s q v (some<|.pl<|.str<|aT i)<|some<|.pl<|.int y⟩) ((k6 (j:=0) (y:=.tp [.lc d.length,.lc<|d.length+1]) (s':=⟨D,tp5 s q v (some<|.pl<|.str<|aT i)<|some<|.pl<|.int y⟩) ?_ rfl s3 (by simp)).trans (by rw[p];rfl)) ?_
   ·rw[f,m]
    exact uX (ds:=[PD T K R,.str<|aT i,.int y]) (aw (mH rfl s2 rfl)<|aw (ah rfl)<|aw (ah rfl) bh) (by simp only[gq,cG (show d[a]?=some (dt<|TD T) by rw[o2 a O X];exact ha) (show d[b]?=some (dt<|HD K R) by rw[o2 b Y U];exact P),yW,zai,zaT]) (NU (yZ (by lia)) I (by lia) (by lia)) (jj _) (my _ _)
   ·exact(k6 (j:=2) (oI (mH rfl s4 rfl) cK) rfl s4 (by simp)).trans (by rw[r];rfl)
  refine kB rfl L ?_;show some (FR.ok (.pl .none)<|fS S.length A)=_;rw[sP ls s5 (by show(blV S.length (.tp [.lc d.length,.lc<|d.length+1])&&_)=false;simp[blV,iO];lia)]
 ·rw[W _ (by lia),f];exact apk (k:=0) rfl
 ·rw[W _ (by lia),f];exact apk (k:=1) rfl
 ·rw[W _<|Ne.symm G,f];exact aS q2
 ·have:=hz z E;lia
 ·unfold cr at hw⊢
  rw[m,NZ I,zau];simp only[List.length_singleton]
  lia
 ·rw[W x N,f,zax (by lia),o2 x N e3]
abbrev tc(s q:Nat)(y v:Int)(x4 x5 M O Y:Option SV):List (Option SV):=[some<|.lc s,some<|.lc q,some<|.pl<|.int y,some<|.pl<|.int v,x4,x5,M,O,Y]
theorem AA(hl:U0.length<=127):lD [PL U0 g]=some (TD<|kj U0,true):=by
 show(mO ((plL U0 g).map (·.1))).bind _=_
 rw[Cv,ml,zai,bA hl]
theorem qF(i:Int):gNe (.int i) (.int i)=some (.bool false,false):=by
 unfold gNe;rw[if_pos ⟨rfl,rfl⟩];simp[PyData.eqv]
def AB{i j:Nat}{ds:List D}{d:D}(h : ρ[i]?=some (.fz<|.tuple ds))(hd:gIx (.tuple ds) (.int (j:Int))=some (d,false)):mOp gIx (ai i) (mC<|.int (j:Int)) ρ=some ((d,.fz),ρ):=bE (r:=(.int (j:Int),.fz)) (Q1:=(d,false)) (ar<|aA h) (ar rfl) hd
theorem zb(y v:Int)(M:S[q]?=some (dt<|PL K<|kf R))(I:K≠[])(hl:K.length<=127):∃n∈K,∀{u:SN} {o:Option gy},u ⟨S++[dt<|TD<|kj K],tc s q y v (some<|.lc S.length) (some<|.pl<|.str n) none none none⟩=o->aY (bG (nO<|mCB lD<|aB (ai 1) aZ)<|ngN 4) (aY (bG (nIx (aE 4)<|nO<|mOp d6 (ai 3)<|mCB gv<|aB (ai 4) aZ)<|ngN 5) u) ⟨S,tc s q y v none none none none none⟩=o:=by
 have sl:(kj K).length=K.length:=(qO K).1;have kp : 0<K.length:=List.length_pos_iff.mpr I;obtain⟨n,a,b⟩:=PJ (l:=kj K) (by lia) v
 refine⟨n,(qO K).2 _ a,fun{u o} e=>?_⟩
 refine az (bB (i:=4) (ia (eg (rs:=[(PL K<|kf R,.fz)]) (Q1:=(TD<|kj K,true)) (aK (ar<|aA<|bC rfl<|cE M) a9)<|AA hl)<|jj _) (by simp)) ?_
 have g0:(S++[dt<|TD<|kj K])[S.length]?=some (dt<|TD<|kj K):=ap0;exact az (bB (i := 5) (cz (i := v % ((kj K).length : Int)) (ah rfl) (iX<|hU (cw<|bT rfl) (Hz<|bC rfl<|cE g0) (by lia)) (show ixV _ (.lc S.length) _ = some (.pl<|.str n) from by
    simp only[ixV,g0,b,Option.map_some])) (by simp)) e
theorem Sx.mk'{S Y M:List<|Option Cl}{K K' T':List Str}{I:Str->aG.Row}{k k' w U p2:Int}(hz:∀z∈Z,z<S.length)(lY:S.length<=Y.length)(hY:∀x,x<S.length->Y[x]?=S[x]?)(l4:M.length=Y.length)(ls:s<S.length)(lq:q<S.length)(s4:M[s]?=some (some<|stc (.tp [.lc f0,.lc f1]) U p2 k'))(q4:M[q]?=some (dt<|PL K'<|kf I))(O:∀x,x≠s->x≠q->M[x]?=Y[x]?)(r0:Y[f0]?=some (dt<|TD T'))(r1:Y[f1]?=some (dt<|HD K' I))(g0:S.length<=f0)(g1:S.length<=f1)(B:Bk 600 T' K' I)(F:Fm K' I)(hw:U+cr T' K' I-p2<=w):Sx Z S M s q K K' k k' w :=
 ⟨⟨_,hw,f0,f1,T',I,U,p2,s4,by rw[O f0 (by lia) (by lia)];exact r0,by rw[O f1 (by lia) (by lia)];exact r1,q4,B,F,λz a b=>by have:=hz z a;lia,rfl⟩,⟨by lia,λx a b e=>by rw[O x b e,hY x a]⟩⟩
theorem PN{Y:List<|Option Cl}(I:s≠q)(hs:s<Y.length)(hq:q<Y.length)(d a b c:Option Cl):∃O U Y3 M,O=Y.set q d/\U=O.set s a/\Y3=U.set s b/\M=Y3.set s c/\M.length=Y.length/\O[s]?=Y[s]?/\U[s]?=some a/\Y3[s]?=some b/\M[s]?=some c/\M[q]?=some d/\(∀x,x≠q->O[x]?=Y[x]?)/\(∀x,x≠s->x≠q->U[x]?=Y[x]?)/\∀x,x≠s->x≠q->M[x]?=Y[x]? :=
 ⟨_,_,_,_,rfl,rfl,rfl,rfl,by simp only[List.length_set],bx I,zav (by rw[zaM];exact hs),zav (by simp only[List.length_set];exact hs),zav (by simp only[List.length_set];exact hs),by rw[bx<|Ne.symm I,bx<|Ne.symm I,bx<|Ne.symm I];exact zav hq,λ_ e=>bx e,λx f h=>by rw[bx f,bx h],λx f h=>by rw[bx f,bx f,bx f,bx h]⟩
theorem Qy(h:Hd Z S s q K k w)(hz:∀z∈Z,z<S.length)(hqz:q∈Z)(e0:K≠[])(hl:K.length<=127)(v:Int):∃S',dP S [.lc s,.lc q,.pl<|.int 0,.pl<|.int v]=some (.ok (.pl<|.bool true) S')/\Sx Z S S' s q K K k k w:=by
 obtain⟨a,b,T,R,I,p2,hs,ha,hb,m,B,F,hZ,hw⟩:=id h;have kl:=B.kl;have tl:=B.tl;have ls:=bK hs;have lq:=bK m;have V:s≠q:=λe=>by rw[e,m]at hs;cases hs
 obtain⟨n,hn,hd⟩:=zb (s:=s) 0 v m e0 hl;obtain⟨k',N⟩:∃k':Int,k'=(R n).key-1-v/100%(10:Int)^(20:Int).toNat:=⟨_,rfl⟩;have kn:k'<(R n).key:=by
  have:=Int.emod_nonneg (v/100) (show(10:Int)^(20:Int).toNat≠0 by decide)
  lia
 obtain⟨l,f⟩:∃l,l=S++[dt<|TD<|kj K]:=⟨_,rfl⟩;rw[<-f]at hd;have u:∀{x:Nat} {c:Option Cl},S[x]?=some c->l[x]?=some c:=λe=>by rw[f];exact aS e
 have l0:l.length=S.length+1:=by rw[f,zau];rfl
 obtain⟨X,f0,f1,f2,T',D,M,r1,r2,O,o,lM,hM,g0,g1,hT,E,P⟩:=Kn (by lia) B F hn kn (u ha) (u hb)
 obtain⟨Y,C⟩:∃Y,Y=l++X:=⟨_,rfl⟩;have sub:∀{x:Nat} {c:Option Cl},S[x]?=some c->Y[x]?=some c:=λe=>by rw[C];exact aS (u e)
 have lY:S.length+1<=Y.length:=by rw[C,zau];lia
 rw[<-C]at r1 r2 O o;have ek:PL K (lg (kf R) n k')=PL K (kf D):=congrArg PyData.dict (jS λx _=>by show lg (kf R) n k' x=(D x).key;rw[P x];rfl)
 obtain⟨d,Q⟩:∃d:SV,d=.tp [.tp [.lc f0,.lc f1],.lc f2]:=⟨_,rfl⟩;obtain⟨Y1,U,Y3,A,G,H,J,L,l4,s1,s2,s3,s4,q4,o1,W,o4⟩:=PN V (by lia:s<Y.length) (by lia) (dt<|PL K<|lg (kf R) n k') (some<|stc (.tp [.lc f0,.lc f1]) I p2 k) (some<|stc (.tp [.lc f0,.lc f1]) (I+(M.length:Int)) p2 k) (some<|stc (.tp [.lc f0,.lc f1]) (I+(M.length:Int)) (p2+4) k)
 rw[sub hs]at s1;rw[ek]at q4;refine⟨A,?_,Sx.mk' hz (by lia) (λx e=>by rw[C,zax (by lia),f,zax e]) l4 ls lq s4 q4 o4 r2 O (by lia) (by lia) hT E ?_⟩
 ·have p:jo ⟨S,tc s q 0 v none none none none none⟩=some (.rt (.pl<|.bool true) ⟨A,tc s q 0 v (some<|.lc S.length) (some<|.pl<|.str n) (some<|.pl<|.int k') (some d) none⟩):=by
   refine hd (ji<|jQ (cy<|tEq (cw<|bT rfl) bV rfl) ?_);refine az (s':=⟨l,tc s q 0 v (some<|.lc S.length) (some<|.pl<|.str n) (some<|.pl<|.int k') none none⟩) (bB (i:=6) (iX<|IE.is (pj (pj (bE (r:=(.str n,.fz)) (Q1:=(.int (R n).key,false)) (ar<|aA<|bC rfl<|cE<|u m) (ar<|aA<|bT rfl)<|Hx hn) bV)<|hU (pq (cw<|bT rfl) bV ⟨by decide,by decide⟩) (FI bV bV ⟨by decide,by decide,by decide⟩) (by decide)) N.symm) (by simp)) ?_
   refine az (s':=⟨Y,tc s q 0 v (some<|.lc S.length) (some<|.pl<|.str n) (some<|.pl<|.int k') (some d) none⟩) (bB (i:=7) (cj (aw (mH rfl (u hs) rfl)<|aw (ah rfl)<|aw (ah rfl) bh) (by rw[Q];exact r1)) (by simp)) ?_
   refine az (s':=⟨Y1,tc s q 0 v (some<|.lc S.length) (some<|.pl<|.str n) (some<|.pl<|.int k') (some d) none⟩) ((y9 (ah rfl) (ah rfl) (ah rfl) (sub m) (by lia)<|Az _ _ _ _ hn).trans (by rw[G])) ?_
   refine az (s':=⟨U,tc s q 0 v (some<|.lc S.length) (some<|.pl<|.str n) (some<|.pl<|.int k') (some d) none⟩) ((k6 (j:=0) (y:=.tp [.lc f0,.lc f1]) (cz (ah rfl) cK (by rw[Q];rfl)) rfl s1 (by simp)).trans (by rw[H];rfl)) ?_
   have v7:(vw ⟨U,tc s q 0 v (some<|.lc S.length) (some<|.pl<|.str n) (some<|.pl<|.int k') (some d) none⟩)[7]?=some (.fz<|.tuple [PD T' K D,.list M]):=bC rfl (by
    rw[Q];simp only[rdV,gq,W f0 (by lia) (by lia),W f1 (by lia) (by lia),W f2 (λe=>by rw[e,sub hs]at o;cases o) (λe=>by rw[e,sub m]at o;cases o),r2,O,o,zai,zaT])
   refine az (s':=⟨Y3,tc s q 0 v (some<|.lc S.length) (some<|.pl<|.str n) (some<|.pl<|.int k') (some d) none⟩) ((k6 (j:=1) (oI (mH rfl s2 rfl)<|iX<|eg (rs:=[(.list M,.fz)]) (Q1:=(.int (M.length:Int),false)) (aK (ar<|AB (j:=1) v7 rfl) a9) rfl) rfl s2 (by simp)).trans (by rw[J];rfl)) ?_
   refine az (s':=⟨A,tc s q 0 v (some<|.lc S.length) (some<|.pl<|.str n) (some<|.pl<|.int k') (some d) none⟩) ((k6 (j:=2) (oI (mH rfl s3 rfl) cK) rfl s3 (by simp)).trans (by rw[L];rfl)) ?_
   exact cR cK
  refine kB rfl p ?_;show some (FR.ok (.pl<|.bool true)<|fS S.length A)=_;rw[sP ls s4 (by show(blV S.length (.tp [.lc f0,.lc f1])&&_)=false;simp[blV,iO];lia)]
 ·unfold cr at hw⊢
  lia
theorem Qz(h:Hd Z S s q K k w)(hz:∀z∈Z,z<S.length)(hqz:q∈Z)(e0:K≠[])(hl:K.length<=127)(v:Int):∃S' K',dP S [.lc s,.lc q,.pl<|.int 1,.pl<|.int v]=some (.ok (.pl<|.bool true) S')/\Sx Z S S' s q K K' k k w/\(∀n∈K',n∈K)/\K'.length<=K.length:=by
 obtain⟨a,b,T,R,p1,p2,hs,ha,hb,r,B,F,hZ,hw⟩:=id h;have kl:=B.kl;have tl:=B.tl;have ls:=bK hs;have lq:=bK r;have nsq:s≠q:=λe=>by rw[e,r]at hs;cases hs
 obtain⟨n,hn,hd⟩:=zb (s:=s) 1 v r e0 hl;obtain⟨p,m⟩:∃p,p=S++[dt<|TD<|kj K]:=⟨_,rfl⟩;rw[<-m]at hd;have D:∀{x:Nat} {c:Option Cl},S[x]?=some c->p[x]?=some c:=λe=>by rw[m];exact aS e
 have l0:p.length=S.length+1:=by rw[m,zau];rfl
 obtain⟨X,f0,f1,f2,C,sM,oF,sts,T',J,P⟩:=N0 (by lia) B F hn (D ha) (D hb)
 obtain⟨i1,i2,i3⟩:=sJ P.bk P.fm P.nt;obtain⟨hT,N⟩:=P.hs.inv i1 i2;have mk2:=P.hs.marks i1 i2;obtain⟨d,O,L⟩:=Cr (n:=K.length) (by lia)
 have bm:=za P.bk P.fm hn O;have hsl:=P.hs.len;have ol:=oJ P.bk.tn P.nt;rw[zau]at hsl;have cc:=P.cr;obtain⟨M,hM⟩:∃M,M=C.map stp++kF (oF n).below sts:=⟨_,rfl⟩;have lM:M.length=C.length+((oF n).below.length+sts.length):=by rw[hM];unfold kF;simp
 have r1:=P.run;have r2:=P.g0;have r3:=P.g1;have o:=P.g2;have g0:=P.l0;have g1:=P.l1;rw[<-hM]at o;obtain⟨Y,G⟩:∃Y,Y=p++X:=⟨_,rfl⟩;have sub:∀{x:Nat} {c:Option Cl},S[x]?=some c->Y[x]?=some c:=λe=>by rw[G];exact aS (D e)
 have lY:S.length+1<=Y.length:=by rw[G,zau];lia
 rw[<-G]at r1 r2 r3 o;have ek:PL (bz K n) (kf R)=PL (bz K n) (kf J):=congrArg PyData.dict (jS λx _=>by show(R x).key=(J x).key;rw[P.hs.PH x,(gR (Q0:=oF) _ x).1,P.kc x])
 obtain⟨f,H⟩:∃f:SV,f=.tp [.pl<|.int (R n).key,.tp [.lc f0,.lc f1],.lc f2]:=⟨_,rfl⟩;obtain⟨l,U⟩:∃l:Int,l=4+2*(d:Int):=⟨_,rfl⟩;obtain⟨Y1,Y2,Y3,E,A,V,W,I,l4,s1,s2,s3,s4,q4,o1,o2,o4⟩:=PN nsq (by lia:s<Y.length) (by lia) (dt<|PL (bz K n)<|kf R) (some<|stc (.tp [.lc f0,.lc f1]) p1 p2 k) (some<|stc (.tp [.lc f0,.lc f1]) (p1+(M.length:Int)) p2 k) (some<|stc (.tp [.lc f0,.lc f1]) (p1+(M.length:Int)) (p2+l) k)
 rw[sub hs]at s1;rw[ek]at q4;refine⟨E,bz K n,?_,Sx.mk' hz (by lia) (λx e=>by rw[G,zax (by lia),m,zax e]) l4 ls lq s4 q4 o4 r2 r3 (by lia) (by lia) hT N ?_,λx hx=>(bU.mp hx).1,by have:=oJ B.nd hn;lia⟩
 ·have n2s:f2≠s:=λe=>by rw[e,sub hs]at o;cases o
  have n2q:f2≠q:=λe=>by rw[e,sub r]at o;cases o
  have v7:∀{Q:List<|Option Cl},(∀x,x≠s->x≠q->Q[x]?=Y[x]?)->(vw ⟨Q,tc s q 1 v (some<|.lc S.length) (some<|.pl<|.str n) none (some f)<|some<|.pl<|.int l⟩)[7]?=some (.fz<|.tuple [.int (R n).key,PD T' (bz K n) J,.list M]):=fun{Q} oQ=>bC rfl (by
    rw[H];simp only[rdV,gq,oQ f0 (by lia) (by lia),oQ f1 (by lia) (by lia),oQ f2 n2s n2q,r2,r3,o,Option.bind_some,Option.map_some])
  have u:jo ⟨S,tc s q 1 v none none none none none⟩=some (.rt (.pl<|.bool true) ⟨E,tc s q 1 v (some<|.lc S.length) (some<|.pl<|.str n) none (some f)<|some<|.pl<|.int l⟩):=by
   refine hd (az (dy (cy<|tNe (cw<|bT rfl) bV (by decide)) rfl) ?_)
   refine az (s':=⟨p,tc s q 1 v (some<|.lc S.length) (some<|.pl<|.str n) none none<|some<|.pl<|.int l⟩) (bB (i:=8) (iX<|IE.is (ph bV<|rC bV (qJ (rs:=[(.int (K.length:Int),.fz)]) (xN (HB<|bC rfl<|cE<|D r) a9) L)<|Bo<|.inl ⟨by decide,by decide⟩) U.symm) (by simp)) ?_
   refine az (s':=⟨Y,tc s q 1 v (some<|.lc S.length) (some<|.pl<|.str n) none (some f)<|some<|.pl<|.int l⟩) (bB (i:=7) (cj (aw (mH rfl (D hs) rfl)<|aw (ah rfl) bh) (by rw[H];exact r1)) (by simp)) ?_
   refine az (s':=⟨Y1,tc s q 1 v (some<|.lc S.length) (some<|.pl<|.str n) none (some f)<|some<|.pl<|.int l⟩) (dy (Ll (gk<|pU (c:=.int (R n).key) (d:=.int (R n).key) (cz (ah rfl) cK (by rw[H];rfl)) (y8 (ah rfl) (sub r) (aw (ah rfl) bh) hn) mR mR<|qF _)<|cy<|test_ev (k:=.fz) (v:=false)<|FK (ar<|AB (j:=0) (by rw[<-A];exact v7 λx _ e2=>o1 x e2) rfl)<|j7 _) (by rw[<-A];rfl)) ?_
   refine az (s':=⟨Y2,tc s q 1 v (some<|.lc S.length) (some<|.pl<|.str n) none (some f)<|some<|.pl<|.int l⟩) ((k6 (j:=0) (y:=.tp [.lc f0,.lc f1]) (cz (ah rfl) cK (by rw[H];rfl)) rfl s1 (by simp)).trans (by rw[V];rfl)) ?_
   refine az (s':=⟨Y3,tc s q 1 v (some<|.lc S.length) (some<|.pl<|.str n) none (some f)<|some<|.pl<|.int l⟩) ((k6 (j:=1) (oI (mH rfl s2 rfl)<|iX<|eg (rs:=[(.list M,.fz)]) (Q1:=(.int (M.length:Int),false)) (aK (ar<|AB (j:=2) (v7 o2) rfl) a9) rfl) rfl s2 (by simp)).trans (by rw[W];rfl)) ?_
   refine az (s':=⟨E,tc s q 1 v (some<|.lc S.length) (some<|.pl<|.str n) none (some f)<|some<|.pl<|.int l⟩) ((k6 (j:=2) (oI (mH rfl s3 rfl)<|ah rfl) rfl s3 (by simp)).trans (by rw[I];rfl)) ?_
   exact cR cK
  refine kB rfl u ?_;show some (FR.ok (.pl<|.bool true)<|fS S.length E)=_;rw[sP ls s4 (by show(blV S.length (.tp [.lc f0,.lc f1])&&_)=false;simp[blV,iO];lia)]
 ·unfold cr at hw⊢
  lia
theorem jq{n:Nat}{x:Nat}(I:x<n):(gcE n kp s).S[x]?=s.S[x]?:=by
 unfold gcE;split
 ·rename_i a
  rw[Bool.and_eq_true]at a;show(gcS n s.S)[x]?=_;unfold gcS;rw[zao,List.getElem?_take,if_pos I];cases e:s.S[x]? with
  |none=>rfl
  |some c=>rw[zaT,wj λd f=>jR a.1<|List.mem_iff_getElem?.mpr ⟨x,by rw[List.getElem?_take,if_pos I,e,f]⟩]
 ·rfl
theorem CA{n:Nat}(h:n<=s.S.length):n<=(gcE n kp s).S.length:=by
 unfold gcE;split
 ·show n<=(gcS n s.S).length
  unfold gcS;rw[zal,List.length_take];lia
 ·exact h
theorem wC{n:Nat}{t:List<|Option SV}(I:gcT n t=t):gcE n kp ⟨S,t⟩=⟨(gcE n kp ⟨S,t⟩).S,t⟩:=by
 unfold gcE;split
 ·show gc n ⟨S,t⟩=⟨gcS n S,t⟩
  unfold gc;rw[I]
 ·rfl
theorem Hd.gc{s q n:Nat}{K:List Str}{k w:Int}{kp:List Nat}{t:List<|Option SV}(h:Hd Z S s q K k w)(hs:s<n)(I:q<n):Hd Z (gcE n kp ⟨S,t⟩).S s q K k w:=by
 obtain⟨a,b,T,R,r,p2,f,m,h3,h4,B,F,o,p⟩:=h;have low:(gcE n kp ⟨S,t⟩).S[a]?=S[a]?/\(gcE n kp ⟨S,t⟩).S[b]?=S[b]?:=by
  by_cases l:xR n S=true
  ·have bl:=jR l (List.mem_iff_getElem?.mpr ⟨s,by rw[List.getElem?_take,if_pos hs];exact f⟩)
   simp only[blC,iO,blV,Bool.and_true,Bool.and_eq_true,decide_eq_true_eq]at bl;exact⟨jq bl.1,jq bl.2⟩
  ·have e:gcE n kp ⟨S,t⟩=⟨S,t⟩:=by
    unfold gcE;rw[if_neg λz=>l (Bool.and_eq_true _ _▸z).1]
   rw[e];exact⟨rfl,rfl⟩
 exact⟨a,b,T,R,r,p2,by rw[jq hs];exact f,by rw[low.1];exact m,by rw[low.2];exact h3,by rw[jq I];exact h4,B,F,o,p⟩
theorem Hd.lt(h:Hd Z S s q K k w):s<S.length/\q<S.length:=by
 obtain⟨a,b,T,R,u,p2,d,e,h3,h4,B,F,f,p⟩:=h;exact⟨bK d,bK h4⟩
theorem Sx.gc(h:Sx Z S S' s q K K' k k' w)(hs:s<S.length)(I:q<S.length):Sx Z S (gcE S.length kp ⟨S',t⟩).S s q K K' k k' w:=by
 obtain⟨⟨w',l,m⟩,h3,h4⟩:=h;exact⟨⟨w',l,m.gc hs I⟩,⟨CA h3,λx a e f=>by rw[jq a];exact h4 x a e f⟩⟩
abbrev td(s q:Nat)(c v:Int)(x4:Option SV):List (Option SV):=[some<|.lc s,some<|.lc q,some<|.pl<|.int c,some<|.pl<|.int v,x4]
theorem N7{s q n:Nat}{c v j:Int}(hs:s<n)(I:q<n):gcT n (td s q c v<|some<|.pl<|.int j)=td s q c v (some<|.pl<|.int j):=by
 simp[gcT,gcV,blV,hs,I]
def Nw(K:List Str)(i M:Nat)(K':List Str):Prop:=(∀n∈K',n∈K\/∃j,i<=j/\j<M/\n=aT j)/\K'.length+i<=K.length+M/\i<=M
def Nw.refl:Nw K i i K:=⟨λ_ h=>.inl h,zap _,zap _⟩
theorem CB{K:List Str}{i:Nat}{w c v:Int}(hs:s<S.length)(Y:q<S.length)(hz:∀z∈Z,z<S.length)(M:q∈Z)(fr:∀j,i<=j->j<i+3->aT j∉K)(hi:i+3<=600):∀(ds:List Int) (m:Nat) (I:List<|Option Cl) (K1:List Str) (U:Option SV),m+ds.length<=3->Sx Z S I s q K K1 i ((i+m:Nat):Int) w->Nw K i (i+m) K1->
  ∃O K2 y4,f9 S.length [0,1,2,3] (λ_=>True) (ngN 4) oa ((ds.map PyData.int).map .pl) ⟨I,td s q c v U⟩=some (.nx ⟨O,td s q c v y4⟩)/\Sx Z S O s q K K2 i ((i+(m+ds.length):Nat):Int) w/\Nw K i (i+(m+ds.length)) K2
 | [],m,I,K1,U,_,h,hn=>⟨I,K1,U,yX,h,hn⟩
 |d::ds,m,I,K1,U,hl,h,hn=>by
  rw[zaw]at hl⊢;obtain⟨⟨w1,f,B⟩,f1⟩:=id h;have b:aT (i+m)∉K1:=λz=>by
   rcases hn.1 _ z with z|⟨j,o,p,l⟩
   ·exact fr (i+m) (by lia) (by lia) z
   ·exact sf (i+m) (by lia) j p l
  obtain⟨O,y,⟨⟨F,k,C⟩,f2⟩⟩:=Cz B (λz e=>zaF (hz z e) f1.1) M (by lia) b (v/4+7*d)
  have E:Sx Z S O s q K (K1++[aT<|i+m]) i ((i+(m+1):Nat):Int) w:=⟨⟨F,Int.le_trans k f,C⟩,f1.trans f2⟩;have D:=E.gc (kp:=[0,1,2,3]) (t:=td s q c v<|some<|.pl<|.int d) hs Y;obtain⟨u,r,y4,A,h3,n3⟩:=CB hs Y hz M fr hi ds (m+1) _ (K1++[aT<|i+m]) (some<|.pl<|.int d) (by lia) D ⟨λx a=>by
   rcases zae a with a|a
   ·rcases hn.1 x a with z|⟨j,o,p,l⟩
    ·exact .inl z
    ·exact .inr ⟨j,o,by lia,l⟩
   ·exact .inr ⟨i+m,by lia,by lia,zad a⟩,by have:=hn.2.1;rw[zau,za7];lia,by lia⟩
  refine⟨u,r,y4,?_,by rw[show m+(ds.length+1)=m+1+ds.length by lia];exact h3,by rw[show m+(ds.length+1)=m+1+ds.length by lia];exact n3⟩
  exact uR (s1:=⟨I,td s q c v<|some<|.pl<|.int d⟩) rfl (dN<|cj (aw (ah rfl)<|aw (ah rfl)<|aw (iX<|ph (pq (cw<|bT rfl) bV ⟨by decide,by decide⟩)<|rC bV (cw<|bT rfl)<|Bo<|.inl ⟨by decide,by decide⟩) bh) y) (wC<|N7 hs Y) A
theorem CD{K:List Str}{i:Nat}{w:Int}(h:Hd Z S s q K (i:Int) w)(M:∀z∈Z,z<S.length)(I:q∈Z)(fr:∀j,i<=j->j<i+3->aT j∉K)(hi:i+3<=600)(hl:K.length<=127)(c:Int):∃S' K' O,gD S [.lc s,.lc q,.pl<|.int c]=some (.ok (.pl<|.bool true) S')/\Sx Z S S' s q K K' i ((O:Nat):Int) w/\Nw K i O K'/\O<=i+3:=by
 obtain⟨N,L⟩:=h.lt;obtain⟨R,W⟩:∃R:Str->aG.Row,S[q]?=some (dt<|PL K<|kf R):=by
  obtain⟨a,b,T,R,p1,p2,h1,h2,h3,h4,_⟩:=h;exact⟨R,h4⟩
 obtain⟨v,U⟩:∃v:Int,v=c/8:=⟨_,rfl⟩;have hd:∀{u:SN} {o:Option gy},u ⟨S,td s q c v none⟩=o->aY (bG (nO<|mOp j5 (ai 2)<|mC<|.int 8)<|ngN 3) u ⟨S,[some<|.lc s,some<|.lc q,some<|.pl<|.int c,none,none]⟩=o:=fun{u o} X=>az (bB (i:=3) (iX<|IE.is (pq (cw<|bT rfl) bV ⟨by decide,by decide⟩) U.symm) (by simp)) X
 have l:IE (mOp d6 (ai 2)<|mC<|.int 8) (vw ⟨S,td s q c v none⟩) (c%8):=hU (cw<|bT rfl) bV (by decide)
 have B:=wB (ρ:=vw ⟨S,td s q c v none⟩) (i:=1) (U0:=K) (g:=kf R) (bC rfl<|cE W);have c0:=Int.emod_nonneg c (show(8:Int)≠0 by decide)
 have c1:=Int.emod_lt_of_pos c (show(0:Int)<8 by decide)
 have t1:∀{b1:Bool},decide (c%8<2\/(K=[]/\5<c%8))=b1->nTo (mOr (a0<|mOp gLt (mOp d6 (ai 2)<|mC<|.int 8)<|mC<|.int 2)<|xp (a0<|mOp rW (ai 1) lA)<|a0<|mOp gGt (mOp d6 (ai 2)<|mC<|.int 8)<|mC<|.int 5) ⟨S,td s q c v none⟩=some (.ok b1 ⟨S,td s q c v none⟩):=fun{b1} H=>by
  refine cy (ρ:=vw ⟨S,td s q c v none⟩) ?_
  by_cases D:c%8<2
  ·rw[<-H,zaH<|.inl D]
   exact MY (iN (qj l bV)<|zaH D)
  ·refine rB (iN (qj l bV)<|zaO D) ?_
   by_cases F:K=[]
   ·rw[show K.isEmpty=true by rw[F];rfl]at B
    refine OR B (iN (Bp l bV) ?_);rw[<-H]
    by_cases G : 5<c%8
    ·rw[zaH G,zaH<|.inr ⟨F,G⟩]
    ·rw[zaO G,zaO λy=>y.elim D λy=>G y.2]
   ·rw[show K.isEmpty=false by cases K with|nil=>exact absurd rfl F|cons _ _=>rfl]at B
    rw[<-H,zaO λy=>y.elim D λy=>F y.1]
    exact OS B
 have ret:∀{S':List<|Option Cl} {t:List<|Option SV},sd ⟨S,[some<|.lc s,some<|.lc q,some<|.pl<|.int c,none,none]⟩=some (.rt (.pl<|.bool true) ⟨S',t⟩)->gD S [.lc s,.lc q,.pl<|.int c]=some (.ok (.pl<|.bool true)<|fS S.length S'):=fun{S' t} e=>kB rfl e rfl
 have f:∀{S':List<|Option Cl} {K':List Str} {k':Int},Sx Z S S' s q K K' i k' w->Sx Z S (fS S.length S') s q K K' i k' w:=fun{S' K' k'} e=>by
  have:=e.gc (kp:=[]) (t:=[]) N L
  rwa[show(gcE S.length [] ⟨S',[]⟩).S=fS S.length S' by
   unfold gcE fS;simp only[List.all_nil,Bool.and_true];split<;>rfl]at this
 by_cases C:c%8<2\/(K=[]/\5<c%8)
 ·obtain⟨S',r,p⟩:=Cz h M I (by lia) (fr i (by lia) (by lia)) v
  refine⟨_,K++[aT i],i+1,ret<|hd<|ji<|jQ (t1<|zaH C)<|az (dN<|cj (aw (ah rfl)<|aw (ah rfl)<|aw (ah rfl) bh) r)<|cR cK,f p,⟨λx A=>?_,by rw[zau,za7];lia,by lia⟩,by lia⟩
  rcases zae A with A|A
  ·exact .inl A
  ·exact .inr ⟨i,by lia,by lia,zad A⟩
 by_cases E:c%8=2
 ·have m0:=Int.emod_nonneg v (show(4:Int)≠0 by decide)
  have m1:=Int.emod_lt_of_pos v (show(0:Int)<4 by decide)
  obtain⟨m,hm⟩:∃m:Nat,(m:Int)=v%4:=⟨(v%4).toNat,by lia⟩
  obtain⟨S2,P,y4,Q,p,nw⟩:=CB (c:=c) (v:=v) (w:=w) N L M I fr hi ((List.range m).map λk:Nat=>(k:Int)) 0 S K none (by rw[zal,List.length_range];lia) ⟨⟨w,Int.le_refl w,h⟩,Fx.refl⟩ Nw.refl
  rw[zal,List.length_range]at p nw;refine⟨_,P,i+(0+m),ret (hd<|az (dy (t1<|zaO C) rfl)<|ji<|jQ (cy<|tEq l bV E)<|az (Cn (NI (n:=m) (IE.is (hU (cw<|Hg rfl) bV (by decide)) hm.symm) (by lia)) (by rw[<-Q,List.map_map,List.map_map,List.map_map];rfl))<|cR cK),f p,nw,by lia⟩
 by_cases x3:c%8<5
 ·obtain⟨S',K',r,p,k1,k2,Y⟩:=oK h M I
  refine⟨_,K',i,ret<|hd<|az (dy (t1<|zaO C) rfl)<|az (dy (cy<|tNe l bV E) rfl)<|ji<|jQ (cy<|iN (qj l bV)<|zaH x3)<|cR<|cj (aw (ah rfl)<|aw (ah rfl) bh) r,f p,⟨λx A=>.inl<|k1 x A,?_,zap _⟩,by lia⟩
  by_cases z:K=[]
  ·rw[z,k2 z];exact zap _
  ·have:=Y z;lia
 by_cases x4:K=[]
 ·rw[show K.isEmpty=true by rw[x4];rfl]at B
  exact⟨_,K,i,ret<|hd<|az (dy (t1<|zaO C) rfl)<|az (dy (cy<|tNe l bV E) rfl)<|az (dy (cy<|iN (qj l bV)<|zaO x3) rfl)<|ji<|jQ (cy B)<|cR cK,f ⟨⟨w,Int.le_refl w,h⟩,Fx.refl⟩,Nw.refl,by lia⟩
 ·rw[show K.isEmpty=false by cases K with|nil=>exact absurd rfl x4|cons _ _=>rfl]at B
  have V:∀{y:Int},(if c%8=7 then(1:Int)else 0)=y->nO (mCB Fq<|aB (mOp gEq (mOp d6 (ai 2)<|mC<|.int 8)<|mC<|.int 7) aZ) ⟨S,td s q c v none⟩=some (.ok (.pl<|.int y) ⟨S,td s q c v none⟩):=fun{y} J=>iX (eg (rs:=[(.bool<|decide<|c%8=7,.fz)]) (Q1:=(.int y,false)) (aK (ar<|ur l bV) a9) (by
   rw[<-J]
   by_cases z:c%8=7
   ·rw[zaH z,if_pos z];rfl
   ·rw[zaO z,if_neg z];rfl))
  have go:∀{y:Int} {S':List<|Option Cl},(if c%8=7 then(1:Int)else 0)=y->dP S [.lc s,.lc q,.pl<|.int y,.pl<|.int v]=some (.ok (.pl<|.bool true) S')->gD S [.lc s,.lc q,.pl<|.int c]=some (.ok (.pl<|.bool true)<|fS S.length S'):=fun{y S'} J r=>ret (hd<|az (dy (t1<|zaO C) rfl)<|az (dy (cy<|tNe l bV E) rfl)<|az (dy (cy<|iN (qj l bV)<|zaO x3) rfl)<|az (dy (cy B) rfl)<|cR<|cj (aw (ah rfl)<|aw (ah rfl)<|aw (V J)<|aw (ah rfl) bh) r)
  by_cases x5:c%8=7
  ·obtain⟨S',K',r,p,k1,k2⟩:=Qz h M I x4 hl v
   exact⟨_,K',i,go (if_pos x5) r,f p,⟨λx A=>.inl<|k1 x A,by lia,zap _⟩,by lia⟩
  ·obtain⟨S',r,p⟩:=Qy h M I x4 hl v
   exact⟨_,K,i,go (if_neg x5) r,f p,Nw.refl,by lia⟩
def wD(h:Bk c av U0 Q0):av.length<=U0.length:=aG.g8 av U0 h.tn λx d=>(h.tk x d).1
theorem CG(h:Bk c av U0 Q0)(I:U0.length<=900):bO [PD av U0 Q0,PL U0<|kf Q0]=some (.bool true,false):=by
 have s:=wD h;have p:IE (mCB ig<|aB (ai 2) aZ) [.fz<|PD av U0 Q0,.fz<|PL U0<|kf Q0,.fz<|HD U0 Q0] (U0.length:Int):=JY (.inl rfl);have m:IE (mCB ig<|aB (ai 1) aZ) [.fz<|PD av U0 Q0,.fz<|PL U0<|kf Q0,.fz<|HD U0 Q0] (U0.length:Int):=HB rfl;have q:IE (mCB gv<|aB (mOp gIx (ai 0)<|mC<|.int 0) aZ) [.fz<|PD av U0 Q0,.fz<|PL U0<|kf Q0,.fz<|HD U0 Q0] (av.length:Int):=eg (rs:=[(TD av,.fz)]) (Q1:=(.int (av.length:Int),false)) (aK (ar<|lP (U0:=U0) (Q0:=Q0) rfl) a9) (by show some (PyData.int ((av.map PyData.str).length:Int),false)=_;rw[zal])
 have k:=Mir.iA (e:=iT) (ρn:=[.fz<|HD U0 Q0,.fz<|PL U0<|kf Q0]) (f:=PyData.str) (g:=λ_=>PyData.bool true) U0 λx l=>⟨[.fz<|.str x,.fz<|HD U0 Q0,.fz<|PL U0<|kf Q0],ar (M3 (u:=true) (bE (r:=(HD U0 Q0,.fz)) (Q1:=(.bool true,false)) (ar<|aA rfl) (ar<|aA rfl) (by rw[wd,zaH l])) (λ_=>by
   have:=ur (ρ:=[.fz<|.str x,.fz<|HD U0 Q0,.fz<|PL U0<|kf Q0]) (mv<|sr l (ar<|aA (i:=1) rfl)<|aA (i:=0) rfl) (bE (a:=ai 2) (b:=ai 0) (r:=(.str x,.fz)) (Q1:=(.int (Q0 x).key,false)) (ar<|aA rfl) (ar<|aA rfl)<|Hx l);rw[zaH rfl]at this;exact this) λz=>by cases z)⟩
 refine dY (o:=.rt (.bool true,.fz) [.fz<|PD av U0 Q0,.fz<|PL U0<|kf Q0,.fz<|HD U0 Q0]) rfl ?_ rfl;refine b9 (ρ1:=[.fz<|PD av U0 Q0,.fz<|PL U0<|kf Q0,.fz<|HD U0 Q0]) (fZ (jP (av:=av) rfl) rfl) ?_;refine b9 (ρ1:=[.fz<|PD av U0 Q0,.fz<|PL U0<|kf Q0,.fz<|HD U0 Q0]) (rA (rB (iN (KH p m) (by simp))<|iN (Bp q m)<|zaO (by lia)) rfl) ?_
 refine ee (eg (rs:=[(.list<|U0.map λ_=>PyData.bool true,.fz)]) (Q1:=(.bool true,false)) (aK (mY<|Cy (fr:=[("_law_found",2),("_law_plain",1)]) rfl rfl k (by rw[zal];lia)) a9) ?_)
 show(boolsOf _).map _=_;rw[lR λ_=>true]
 show some (PyData.bool _,false)=_;rw[List.all_map];simp
theorem iw{j k:Nat}{y:SV}{xs:List SV}(h:a s=some (.ok (.lc k) s))(hk:s.S[k]?=some (some<|.lst xs))(I:xs[j]?=some y):nIx a (nLit<|.int (j:Int)) s=some (.ok y s):=cz h cK (by simp only[ixV,hk];exact Mir.nM I)
theorem Ls{y:SV}{xs:List SV}(h:v s=some (.ok y s'))(ha:a s'=some (.ok (.lc k) s'))(hk:s'.S[k]?=some (some<|.lst xs))(I:j<xs.length):bG v (fO a<|nLit<|.int (j:Int)) s=some (.nx ⟨s'.S.set k<|some<|.lst<|xs.set j y,s'.t⟩):=by
 unfold bG;rw[d5 h];unfold fO;rw[d5 ha,d5 cK];dsimp only;simp only[FZ,hk,qG I,Option.map_some]
theorem HC{k j:Nat}{es M out:List<|D×D}(h:a s=some (.ok (.lc k) s))(hk:s.S[k]?=some (dt<|.dict es))(O:m s=some (.ok [.lc j] s))(U:s.S[j]?=some (dt<|.dict M))(I:j≠k)(Y:es.length+M.length<=100000)(ho:DM es M=some out):BV a m s=some (.ok (.pl .none) ⟨s.S.set k<|dt<|.dict out,s.t⟩):=by
 unfold BV;rw[c9 h];simp only[qm,hk,if_true];rw[c9 O];unfold GC;dsimp only;rw[if_neg I,hk,U];dsimp only;rw[if_pos Y,ho,zaT]
variable{t1 k1 t2 k2:List Str}{r1 r2:Str->aG.Row}
theorem N8(I:Bk C t1 k1 r1)(M:Bk C t2 k2 r2)(f1:Fm k1 r1)(f2:Fm k2 r2)(dj:Dj k1 k2):Fm (k1++k2) (mrg k1 r1 r2):=by
 have d:∀{n:Str},n∈k1->mrg k1 r1 r2 n=r1 n:=λh=>sL h
 have f:∀{n:Str},n∈k2->mrg k1 r1 r2 n=r2 n:=λh=>oE (dj _ h)
 refine⟨λn hn=>?_,λn hn b o=>?_,λm hm a ha=>?_,λn hn i b e=>?_⟩
 ·rcases zae hn with z|z
  ·rw[d z];exact f1.nd n z
  ·rw[f z];exact f2.nd n z
 ·rcases zae hn with z|z
  ·rw[d z]at o
   obtain⟨l,p⟩:=f1.up n z b o;exact⟨zaW _ l,by rw[d l];exact p⟩
  ·rw[f z]at o
   obtain⟨l,p⟩:=f2.up n z b o;exact⟨zan _ l,by rw[f l];exact p⟩
 ·rcases zae hm with z|z
  ·rw[d z]at ha
   rw[d<|I.ab m z a ha];exact f1.dn m z a ha
  ·rw[f z]at ha
   rw[f<|M.ab m z a ha];exact f2.dn m z a ha
 ·rcases zae hn with z|z
  ·rw[d z]at e
   rw[d (f1.up n z b<|zaj e).1];exact f1.dg n z i b e
  ·rw[f z]at e
   rw[f (f2.up n z b<|zaj e).1];exact f2.dg n z i b e
abbrev Zq:List Nat:=[7,8]
theorem Ea{k0 k1 w0 w1:Int}(U:S[6]?=some (some<|.lst [.lc 2,.lc 5]))(Y:S[9]?=some (some<|.lst [.lc 7,.lc 8]))(h0:Hd Zq S 2 7 K0 k0 w0)(h1:Hd Zq S 5 8 K1 k1 w1)(dj:Dj K0 K1)(hl:K0.length+K1.length<=100) :
  ∃S' I O,iS S [.lc 6,.lc 9]=some (.ok (.pl .none) S')/\Hd Zq S' 2 7 (K0++K1) k0 I/\Hd Zq S' 5 8 [] k1 O/\I+O=w0+w1/\S.length<=S'.length/\∀x,x<S.length->x≠2->x≠5->x≠7->x≠8->S'[x]?=S[x]?:=by
 obtain⟨a,b,T,R,P,p2,hs,ha,hb,hq,B,F,hZ,hw⟩:=h0;obtain⟨a',b',T',v,s,t,K,W,X,D,B',F',hZ',Z⟩:=h1;have lS:=bK Y;have tl:=wD B;have tl':=wD B';obtain⟨M,V⟩:∃M,M=mrg K0 R v:=⟨_,rfl⟩;have BM:=NX B B' dj;have FM:=N8 B B' F F' dj;have mM:=NY (r1:=R) (r2:=v) dj;have pm:=Km (r1:=R) (r2:=v) (t1:=T) (t2:=T') dj B'.nd (by lia) (by lia)
 have p:PL K0 (kf R)=PL K0 (kf M):=congrArg PyData.dict (jS λn hn=>by show(R n).key=(M n).key;rw[V,sL hn])
 have u:PL K1 (kf v)=PL K1 (kf M):=congrArg PyData.dict (jS λn hn=>by show(v n).key=(M n).key;rw[V,oE<|dj n hn])
 have em:=Hw (k1:=K0) (g:=kf M) K1 [] (λm hm=>by rw[zaR];exact dj m hm) B'.nd
 rw[zaR,List.nil_append]at em;rw[p]at hq;rw[u]at D;rw[<-V]at BM FM mM pm;obtain⟨n0,A⟩:∃n0,n0=S.length:=⟨_,rfl⟩;obtain⟨E,l⟩:∃E,E=S++[dt<|TD<|T++T',dt<|HD (K0++K1) M]:=⟨_,rfl⟩;obtain⟨w,f⟩:∃w,w=E.set 2 (some<|stc (.tp [.lc n0,.lc<|n0+1]) P p2 k0):=⟨_,rfl⟩;obtain⟨q,d⟩:∃q,q=w++[dt<|.list [],dt<|.dict []]:=⟨_,rfl⟩;obtain⟨C,o⟩:∃C,C=q.set 5 (some<|stc (.tp [.lc<|n0+2,.lc<|n0+3]) s t k1):=⟨_,rfl⟩;obtain⟨G,h⟩:∃G,G=C.set 7 (dt<|PL (K0++K1)<|kf M):=⟨_,rfl⟩;obtain⟨r,i⟩:∃r,r=G.set 8 (dt<|.dict []):=⟨_,rfl⟩;have l1:E.length=n0+2:=by rw[l,zau,A];rfl
 have l2:w.length=n0+2:=by rw[f,zaM,l1]
 have l3:q.length=n0+4:=by rw[d,zau,l2];rfl
 have l4:C.length=n0+4:=by rw[o,zaM,l3]
 have l5:G.length=n0+4:=by rw[h,zaM,l4]
 have l6:r.length=n0+4:=by rw[i,zaM,l5]
 have sub:∀{x:Nat} {c:Option Cl},S[x]?=some c->E[x]?=some c:=λe=>by rw[l];exact aS e
 have o2:∀{x:Nat} {c:Option Cl},x≠2->S[x]?=some c->w[x]?=some c:=λp e=>by rw[f,bx p];exact sub e
 have o3:∀{x:Nat} {c:Option Cl},x≠2->S[x]?=some c->q[x]?=some c:=λp e=>by rw[d];exact aS (o2 p e)
 have L:∀{x:Nat} {c:Option Cl},x≠2->x≠5->S[x]?=some c->C[x]?=some c:=λp u e=>by rw[o,bx u];exact o3 p e
 have o5:∀{x:Nat} {c:Option Cl},x≠2->x≠5->x≠7->S[x]?=some c->G[x]?=some c:=λp u J e=>by rw[h,bx J];exact L p u e
 have N:∀x,x≠2->x≠5->x≠7->x≠8->r[x]?=q[x]?:=λx p u J Q=>by rw[i,bx Q,h,bx J,o,bx u]
 have s2:w[2]?=some (some<|stc (.tp [.lc n0,.lc<|n0+1]) P p2 k0):=by rw[f];exact zav (by lia)
 have s4:C[5]?=some (some<|stc (.tp [.lc<|n0+2,.lc<|n0+3]) s t k1):=by rw[o];exact zav (by lia)
 have s6:r[2]?=some (some<|stc (.tp [.lc n0,.lc<|n0+1]) P p2 k0):=by rw[i,bx (by decide),h,bx (by decide),o,bx (by decide),d];exact aS s2
 have s6':r[5]?=some (some<|stc (.tp [.lc<|n0+2,.lc<|n0+3]) s t k1):=by rw[i,bx (by decide),h,bx (by decide)];exact s4
 have q6:r[7]?=some (dt<|PL (K0++K1)<|kf M):=by rw[i,bx (by decide),h];exact zav (by lia)
 have q6':r[8]?=some (dt<|.dict []):=by rw[i];exact zav (by lia)
 have g0:q[n0]?=some (dt<|TD<|T++T'):=by rw[d];exact aS (by rw[f,bx (by lia),l,A];exact ap0)
 have g1:q[n0+1]?=some (dt<|HD (K0++K1) M):=by rw[d];exact aS (by rw[f,bx (by lia),l,A];exact apk (k:=1) rfl)
 have g2:q[n0+2]?=some (dt<|.list []):=by rw[d,<-l2];exact apk (k:=0) rfl
 have g3:q[n0+3]?=some (dt<|.dict []):=by rw[d,show n0+3=w.length+1 by lia];exact apk (k:=1) rfl
 have nz:∀{x z:Nat},z∈Zq->n0<=x->x≠z:=fun{x z} hz hx e=>by
  simp only[Zq,List.mem_cons,List.not_mem_nil,or_false]at hz
  lia
 refine⟨r,P+cr (T++T') (K0++K1) M-p2,s+cr [] [] v-t,?_,⟨n0,n0+1,T++T',M,P,p2,s6,by rw[N _ (by lia) (by lia) (by lia) (by lia)];exact g0,by rw[N _ (by lia) (by lia) (by lia) (by lia)];exact g1,q6,BM,FM,λz e=>nz e (by lia),rfl⟩,⟨n0+2,n0+3,[],v,s,t,s6',by rw[N _ (by lia) (by lia) (by lia) (by lia)];exact g2,by rw[N _ (by lia) (by lia) (by lia) (by lia)];exact g3,q6',(Bt.zero _).more<|Nat.zero_le _,Fm.zero _,λz e=>nz e (by lia),rfl⟩,?_,by lia,λx p u J Q e5=>?_⟩
 ·have H:r6 ⟨S,[some<|.lc 6,some<|.lc 9]⟩=some (.nx ⟨r,[some<|.lc 6,some<|.lc 9]⟩):=by
   refine az (s':=⟨w,[some<|.lc 6,some<|.lc 9]⟩) ((Ls (j:=0) (k:=2) (y:=.tp [.lc n0,.lc<|n0+1]) (s':=⟨E,[some<|.lc 6,some<|.lc 9]⟩) ?_ (iw (j:=0) (ah rfl) (sub U) rfl) (sub hs) (by simp)).trans (by rw[f];rfl)) ?_
   ·rw[l,A]
    exact uX (ds:=[PD T K0 R,PD T' K1 v]) (aw (iw (j:=0) (iw (j:=0) (ah rfl) U rfl) hs rfl)<|aw (iw (j:=0) (iw (j:=1) (ah rfl) U rfl) K rfl) bh) (by simp only[gq,cG ha hb,cG W X,Option.bind_some,Option.map_some]) pm (jj _) (my _ _)
   refine az (s':=⟨C,[some<|.lc 6,some<|.lc 9]⟩) ((Ls (j:=0) (k:=5) (y:=.tp [.lc<|n0+2,.lc<|n0+3]) (s':=⟨q,[some<|.lc 6,some<|.lc 9]⟩) (by rw[d,show n0+3=w.length+1 by lia,<-l2];exact Ax) (iw (j:=1) (ah rfl) (o3 (by decide) U) rfl) (o3 (by decide) K) (by simp)).trans (by rw[o];rfl)) ?_
   refine az (s':=⟨G,[some<|.lc 6,some<|.lc 9]⟩) ((dN<|HC (k:=7) (j:=8) (iw (j:=0) (ah rfl) (L (by decide) (by decide) Y) rfl) (L (by decide) (by decide) hq) (aw (iw (j:=1) (ah rfl) (L (by decide) (by decide) Y) rfl) bh) (L (by decide) (by decide) D) (by decide) (by rw[sN,sN];lia) em).trans (by rw[h])) ?_
   exact(dN<|Ho (k:=8) (iw (j:=1) (ah rfl) (o5 (by decide) (by decide) (by decide) Y) rfl)<|o5 (by decide) (by decide) (by decide) D).trans (by rw[i])
  refine kB rfl H ?_;show some (FR.ok (.pl .none)<|fS S.length r)=_;rw[sP (bK hs) s6 (by show(blV S.length (.tp [.lc n0,.lc<|n0+1])&&_)=false;simp[blV,iO];lia)]
 ·unfold cr at hw Z⊢
  rw[mM,zau];simp only[List.length_nil];rw[show mk [] v=0 from rfl]
  lia
 ·rw[N x u J Q e5,d,zax (by lia),f,bx u,l,zax p]
theorem Hd.frame{K K1:List Str}{k k1 w w1:Int}(h:Hd Z S s1 M K1 k1 w1)(O:Hd Z S s q K k w)(f:Fx S S' s q)(n1:s1≠s)(n2:s1≠q)(n3:M≠s)(U:M≠q)(I:q∈Z):Hd Z S' s1 M K1 k1 w1:=by
 obtain⟨a,b,T,R,r,p2,l,d,h3,h4,B,F,m,p⟩:=h;obtain⟨_,_,_,_,_,_,g1,_,_,o,_⟩:=O;exact⟨a,b,T,R,r,p2,by rw[f.2 _ (bK l) n1 n2];exact l,by rw[f.2 _ (bK d) (λe=>by rw[e,g1]at d;cases d) λe=>by rw[e,o]at d;cases d];exact d,by rw[f.2 _ (bK h3) (λe=>by rw[e,g1]at h3;cases h3)<|m q I];exact h3,by rw[f.2 _ (bK h4) n3 U];exact h4,B,F,m,p⟩
structure Jv(X:D)(S:List<|Option Cl)(K0 K1:List Str)(k0 k1 t:Nat):Prop where
 l6:S[6]?=some (some<|.lst [.lc 2,.lc 5])
 l9:S[9]?=some (some<|.lst [.lc 7,.lc 8])
 l10:S[10]?=some (dt X)
 hd:∃w0 w1,Hd Zq S 2 7 K0 (k0:Int) w0/\Hd Zq S 5 8 K1 (k1:Int) w1/\w0+w1<=0
 n0:∀n∈K0,∃j,n=aT j/\(j<k0\/(300<=j/\j<k1))
 n1:∀n∈K1,∃j,n=aT j/\300<=j/\j<k1
 dj:Dj K0 K1
 sz:K0.length+K1.length<=93
 b0:k0<=3*t
 b1 : 300<=k1
 b2:k1<=300+3*t
variable{X:D}{S S':List<|Option Cl}{K0 K1:List Str}{k0 k1 t:Nat}
theorem zq7 : 7∈Zq:=by simp[Zq]
theorem zq8 : 8∈Zq:=by simp[Zq]
theorem Jv.zl(h:Jv X S K0 K1 k0 k1 t):∀z∈Zq,z<S.length:=λz a=>by
 have:=bK h.l10;simp only[Zq,List.mem_cons,List.not_mem_nil,or_false]at a
 lia
theorem Jv.gc(h:Jv X S K0 K1 k0 k1 t){n:Nat}(hn : 11<=n):Jv X (gcE n kp ⟨S,q⟩).S K0 K1 k0 k1 t:=by
 obtain⟨w0,w1,a,e,f⟩:=h.hd;exact⟨by rw[jq (by lia)];exact h.l6,by rw[jq (by lia)];exact h.l9,by rw[jq (by lia)];exact h.l10,⟨w0,w1,a.gc (by lia) (by lia),e.gc (by lia) (by lia),f⟩,h.n0,h.n1,h.dj,h.sz,h.b0,h.b1,h.b2⟩
theorem Jv.new(h:Jv X S K0 K1 k0 k1 t)(c:Option Cl):Jv X (S++[c]) K0 K1 k0 k1 t:=by
 obtain⟨w0,w1,m,f,l⟩:=h.hd;have st:∀{s q:Nat} {K:List Str} {k w:Int},Hd Zq S s q K k w->Hd Zq (S++[c]) s q K k w:=fun{s q K k w} z=>by
  obtain⟨a,b,T,R,C,p2,f,u,h3,h4,B,F,A,l⟩:=z;exact⟨a,b,T,R,C,p2,aS f,aS u,aS h3,aS h4,B,F,A,l⟩
 exact⟨aS h.l6,aS h.l9,aS h.l10,⟨w0,w1,st m,st f,l⟩,h.n0,h.n1,h.dj,h.sz,h.b0,h.b1,h.b2⟩
theorem Jv.Lu(h:Jv X S K0 K1 k0 k1 t)(U:t<80)(I:Hd Zq S 2 7 K0 (k0:Int) w0)(M:Hd Zq S 5 8 K1 (k1:Int) w1)(Y:w0+w1<=0){k':Nat}(O:Sx Zq S S' 2 7 K0 K' (k0:Int) (k':Int) w0)(nw:Nw K0 k0 k' K')(hk:k'<=k0+3)(hs:K'.length+K1.length<=93):Jv X S' K' K1 k' k1 (t+1):=by
 obtain⟨⟨w',m,a⟩,f⟩:=O;have l10:=bK h.l10;have b0:=h.b0;have b1:=h.b1;have b2:=h.b2;refine⟨by rw[f.2 6 (by lia) (by decide) (by decide)];exact h.l6,by rw[f.2 9 (by lia) (by decide) (by decide)];exact h.l9,by rw[f.2 10 (by lia) (by decide) (by decide)];exact h.l10,⟨w',w1,a,M.frame I f (by decide) (by decide) (by decide) (by decide) zq7,by lia⟩,λn hn=>?_,h.n1,λn hn z=>?_,hs,by lia,b1,by lia⟩
 ·rcases nw.1 n hn with z|⟨j,o,l,k⟩
  ·obtain⟨j,e,y⟩:=h.n0 n z
   exact⟨j,e,y.elim (λy=>.inl<|zaF y nw.2.2) .inr⟩
  ·exact⟨j,k,.inl l⟩
 ·rcases nw.1 n z with z|⟨j,o,l,k⟩
  ·exact h.dj n hn z
  ·obtain⟨i,e,p,q⟩:=h.n1 n hn
   have:=mw (i:=j) (j:=i) (by lia) (by lia) (k.symm.trans e)
   lia
theorem Jv.Lv(h:Jv X S K0 K1 k0 k1 t)(U:t<80)(I:Hd Zq S 2 7 K0 (k0:Int) w0)(M:Hd Zq S 5 8 K1 (k1:Int) w1)(Y:w0+w1<=0){k':Nat}(O:Sx Zq S S' 5 8 K1 K' (k1:Int) (k':Int) w1)(nw:Nw K1 k1 k' K')(hk:k'<=k1+3)(hs:K0.length+K'.length<=93):Jv X S' K0 K' k0 k' (t+1):=by
 obtain⟨⟨w',m,a⟩,f⟩:=O;have l10:=bK h.l10;have b0:=h.b0;have b1:=h.b1;have b2:=h.b2;have nk:=nw.2.2;refine⟨by rw[f.2 6 (by lia) (by decide) (by decide)];exact h.l6,by rw[f.2 9 (by lia) (by decide) (by decide)];exact h.l9,by rw[f.2 10 (by lia) (by decide) (by decide)];exact h.l10,⟨w0,w',I.frame M f (by decide) (by decide) (by decide) (by decide) zq8,a,by lia⟩,λn hn=>?_,λn hn=>?_,λn hn z=>?_,hs,by lia,by lia,by lia⟩
 ·obtain⟨j,e,y⟩:=h.n0 n hn
  exact⟨j,e,y.elim .inl λy=>.inr ⟨y.1,by lia⟩⟩
 ·rcases nw.1 n hn with z|⟨j,o,l,k⟩
  ·obtain⟨j,e,p,q⟩:=h.n1 n z
   exact⟨j,e,p,by lia⟩
  ·exact⟨j,k,by lia,l⟩
 ·rcases nw.1 n hn with y|⟨j,o,l,k⟩
  ·exact h.dj n y z
  ·obtain⟨i,e,y⟩:=h.n0 n z
   have:=mw (i:=j) (j:=i) (by lia) (by lia) (k.symm.trans e)
   lia
theorem Jv.QA(h:Jv X S K0 K1 k0 k1 t)(I:t<80):∃S',iS S [.lc 6,.lc 9]=some (.ok (.pl .none) S')/\Jv X S' (K0++K1) [] k0 k1 (t+1):=by
 obtain⟨w0,w1,a,f,q⟩:=h.hd;have l10:=bK h.l10;have sz:=h.sz;have b0:=h.b0;have b2:=h.b2;obtain⟨S',u0,k,e,g0,g1,p,o,go⟩:=Ea h.l6 h.l9 a f h.dj (by lia)
 refine⟨S',e,⟨by rw[go 6 (by lia) (by decide) (by decide) (by decide) (by decide)];exact h.l6,by rw[go 9 (by lia) (by decide) (by decide) (by decide) (by decide)];exact h.l9,by rw[go 10 (by lia) (by decide) (by decide) (by decide) (by decide)];exact h.l10,⟨u0,k,g0,g1,by lia⟩,λn hn=>?_,(λn hn=>by cases hn),(λn hn=>by cases hn),by rw[zau,List.length_nil];lia,by lia,h.b1,by lia⟩⟩
 rcases zae hn with z|z
 ·exact h.n0 n z
 ·obtain⟨j,l,m⟩:=h.n1 n z
  exact⟨j,l,.inr m⟩
theorem Hd.taken{i:Nat}{w:Int}(h:Hd Zq S s q K (i:Int) w)(M:∀z∈Zq,z<S.length)(I:q∈Zq):∃S' K',du S [.lc s,.lc q]=some (.ok (.pl<|.bool true) S')/\Sx Zq S S' s q K K' i i w/\Nw K i i K'/\K'.length<=K.length:=by
 obtain⟨S',K',a,k,k1,k2,f⟩:=oK h M I;have:K'.length<=K.length:=by
  by_cases z:K=[]
  ·rw[z,k2 z];exact zap _
  ·have:=f z;lia
 exact⟨S',K',a,k,⟨λx e=>.inl<|k1 x e,by lia,zap _⟩,this⟩
abbrev lv(X0:D)(x3 x4 x5:Option SV):List (Option SV):=[some<|.pl X0,some<|.lc 6,some<|.lc 9,x3,x4,x5]
theorem Hd.at(h:Hd Zq S s q K k w):∃a b T R M p2,S[s]?=some (some<|stc (.tp [.lc a,.lc b]) M p2 k)/\S[a]?=some (dt<|TD T)/\S[b]?=some (dt<|HD K R)/\S[q]?=some (dt<|PL K<|kf R)/\Bk 600 T K R/\M+cr T K R-p2=w:=by
 obtain⟨a,b,T,R,M,p2,E,G,h3,h4,B,F,L,J⟩:=h;exact⟨a,b,T,R,M,p2,E,G,h3,h4,B,J⟩
theorem Lw(I:S[s]?=some (some<|stc (.tp [.lc a,.lc b]) O p2 k))(M:S[a]?=some (dt<|TD T))(h3:S[b]?=some (dt<|HD K R)):rdE S (.lc s)=some (.list [PD T K R,.int O,.int p2,.int k]):=by
 simp only[rdE,I,gq,cG M h3,yW,Option.bind_some,Option.map_some]
theorem Lx(hk:K.length<=900)(M:I+cr T K R-p2=w):sv jg [.fz<|.list [PD T K R,.int I,.int p2,.int k]]=some ((.int w,.fz),[.fz<|.list [PD T K R,.int I,.int p2,.int k]]):=by
 have a:∀{j:Nat} {d:D},L2.atI [PD T K R,.int I,.int p2,.int k] (j:Int)=some d->mOp gIx (ai 0) (mC<|.int (j:Int)) [.fz<|.list [PD T K R,.int I,.int p2,.int k]]=some ((d,.fz),[.fz<|.list [PD T K R,.int I,.int p2,.int k]]):=fun{j d} e=>bE (r:=(.int (j:Int),.fz)) (Q1:=(d,false)) (ar<|aA rfl) (ar rfl) (GV _ _ _ e)
 refine ar (IE.is (pj (ph (a (j:=1) rfl)<|qJ (rs:=[(PD T K R,.fz)]) (aK (ar<|a (j:=0) rfl) a9)<|uP (by lia))<|a (j:=2) rfl) M)
theorem Ks(h:Jv X S K0 K1 k0 k1 t):∃w0 w1:Int,(aY (fw (nOr (pC<|fj<|fk bO<|ao (nIx (nIx (aE 1)<|nLit<|.int 0)<|nLit<|.int 0)<|ao (nIx (aE 2)<|nLit<|.int 0) aQ)<|pC<|fj<|fk bO<|ao (nIx (nIx (aE 1)<|nLit<|.int 1)<|nLit<|.int 0)<|ao (nIx (aE 2)<|nLit<|.int 1) aQ) (eP<|nLit<|.bool false) dE)
  (fw (fj<|nOp gGt (nCB Dh<|ao (DN [] (aE 1) mF jg) aQ)<|nLit<|.int 0) (eP<|nLit<|.bool false) dE)) ⟨S,lv X0 x3 x4 x5⟩=some (.nx ⟨S++[dt<|.list [.int w0,.int w1]],lv X0 x3 x4 x5⟩):=by
 obtain⟨w0,w1,G,H,L⟩:=h.hd;have sz:=h.sz;obtain⟨a,b,T,R,w,p2,g1,g2,A,E,B,F⟩:=G.at;obtain⟨J,K,T',m,k,l,o,q,r,u,B',v⟩:=H.at;refine⟨w0,w1,?_⟩;refine az (dy (Ll (qR (b:=true)<|gk<|iE (ds:=[PD T K0 R,PL K0<|kf R]) (aw (iw (j:=0) (iw (j:=0) (ah rfl) h.l6 rfl) g1 rfl)<|aw (iw (j:=0) (ah rfl) h.l9 rfl) bh) rfl (by simp only[gq,cG g2 A,cE E,Option.bind_some,Option.map_some]) (CG B (by lia)) rfl)<|qR (b:=true)<|gk<|iE (ds:=[PD T' K1 m,PL K1<|kf m]) (aw (iw (j:=0) (iw (j:=1) (ah rfl) h.l6 rfl) o rfl)<|aw (iw (j:=1) (ah rfl) h.l9 rfl) bh) rfl (by simp only[gq,cG q r,cE u,Option.bind_some,Option.map_some]) (CG B' (by lia)) rfl) rfl) ?_
 have s:=Mir.iA (e:=jg) (ρn:=[]) (f:=λp:D×Int=>p.1) (g:=λp=>PyData.int p.2) [(.list [PD T K0 R,.int w,.int p2,.int (k0:Int)],w0),(.list [PD T' K1 m,.int k,.int l,.int (k1:Int)],w1)] λx C=>⟨[.fz x.1],by
  simp only[List.mem_cons,List.not_mem_nil,or_false]at C;rcases C with rfl|rfl
  ·exact Lx (by lia) F
  ·exact Lx (by lia) v⟩
 have lc:DN [] (aE 1) mF jg ⟨S,lv X0 x3 x4 x5⟩=some (.ok (.lc S.length) ⟨S++[dt<|.list [.int w0,.int w1]],lv X0 x3 x4 x5⟩):=by
  unfold DN;rw[c9<|ah rfl];dsimp only;rw[show GD S (.lc 6)=some [.list [PD T K0 R,.int w,.int p2,.int (k0:Int)],.list [PD T' K1 m,.int k,.int l,.int (k1:Int)]] by
   simp only[GD,h.l6,JJ,Lw g1 g2 A,Lw o q r,Option.bind_some,Option.map_some],zai]
  show(gY mF jg [] _).bind _=_;rw[show gY mF jg [] [.list [PD T K0 R,.int w,.int p2,.int (k0:Int)],.list [PD T' K1 m,.int k,.int l,.int (k1:Int)]]=some [.int w0,.int w1]from s,zai,bA (uq (by simp)),if_pos<|show a8 [PyData.int w0,PyData.int w1]=true from rfl]
  rfl
 refine dy (gk<|pU (c:=.int<|w0+w1) (d:=.int 0) (e:=.bool false) (y:=.pl<|.int 0) (Hh (ds:=[.list [.int w0,.int w1]]) (aw lc bh) (by simp only[xS,rdC,J4,Option.bind_some,Option.map_some]) ?_) cK mR mR ?_) rfl
 ·have:=Dt [w0,w1]
  rw[show [w0,w1].sum=w0+w1 by simp]at this
  exact this
 ·show some (PyData.bool<|decide<|(0:Int)<w0+w1,false)=_
  rw[zaO (by lia)]
theorem CH(h:a s=some (.ok (.lc k) s))(hk:s.S[k]?=some (dt<|PL U0 g)):nCB ig (ao a aQ) s=some (.ok (.pl<|.int (U0.length:Int)) s):=Hh (ds:=[PL U0 g]) (aw h bh) (by simp only[xS,rdC,hk,Option.bind_some,Option.map_some]) (by show some (PyData.int ((plL U0 g).length:Int),false)=_;rw[sN])
theorem zc{j k:Nat}{y:SV}{xs:List SV}(h:a s=some (.ok (.lc k) s))(I:b s=some (.ok (.pl<|.int (j:Int)) s))(hk:s.S[k]?=some (some<|.lst xs))(M:xs[j]?=some y):nIx a b s=some (.ok y s):=cz h I (by simp only[ixV,hk];exact Mir.nM M)
theorem PQ{c:Int}(h:Jv X S K0 K1 k0 k1 t)(Y:t<80):∃S' M O U I u v,wa ⟨S,lv X0 (some<|.pl<|.int c) x4 x5⟩=some (.nx ⟨S',lv X0 (some<|.pl<|.int c) (some<|.pl<|.int u)<|some<|.pl<|.int v⟩)/\Jv X S' M O U I (t+1):=by
 obtain⟨u,hu⟩:∃u:Int,u=c/11:=⟨_,rfl⟩;have v0:=Int.emod_nonneg (c%11) (show(2:Int)≠0 by decide)
 have v1:=Int.emod_lt_of_pos (c%11) (show(0:Int)<2 by decide)
 obtain⟨v,hv⟩:∃v:Nat,(v:Int)=c%11%2:=⟨(c%11%2).toNat,by lia⟩
 have E:v=0\/v=1:=by lia
 obtain⟨w0,w1,s,w,G⟩:=h.hd;have sz:=h.sz;have b0:=h.b0;have b1:=h.b1;have b2:=h.b2;obtain⟨a,b,T,R,p1,p2,g1,g2,g3,g4,B,gw⟩:=s.at;obtain⟨a',b',T',R',p1',p2',Z,g2',g3',H,B',gw'⟩:=w.at;have k:∀{Q:List<|Option Cl} {N P:Option SV},IE (mOp d6 (ai 3)<|mC<|.int 11) (vw ⟨Q,lv X0 (some<|.pl<|.int c) N P⟩) (c%11):=fun{Q N P}=>hU (cw<|bT rfl) bV (by decide)
 have l:∀{o:List<|Option Cl} {M O:List Str} {U I:Nat} {A:SN},Jv X o M O U I (t+1)->A ⟨S,lv X0 (some<|.pl<|.int c) (some<|.pl<|.int u)<|some<|.pl<|.int (v:Int)⟩=some (.nx ⟨o,lv X0 (some<|.pl<|.int c) (some<|.pl<|.int u)<|some<|.pl<|.int (v:Int)⟩)->
   ∃S' M O U I u v,(aY (bG (nO<|mOp j5 (ai 3)<|mC<|.int 11)<|ngN 4) (aY (bG (nO<|mOp d6 (mOp d6 (ai 3)<|mC<|.int 11)<|mC<|.int 2)<|ngN 5) (aY A (aY (fw (nOr (pC<|fj<|fk bO<|ao (nIx (nIx (aE 1)<|nLit<|.int 0)<|nLit<|.int 0)<|ao (nIx (aE 2)<|nLit<|.int 0) aQ)<|pC<|fj<|fk bO<|ao (nIx (nIx (aE 1)<|nLit<|.int 1)<|nLit<|.int 0)<|ao (nIx (aE 2)<|nLit<|.int 1) aQ) (eP<|nLit<|.bool false) dE)
  (fw (fj<|nOp gGt (nCB Dh<|ao (DN [] (aE 1) mF jg) aQ)<|nLit<|.int 0) (eP<|nLit<|.bool false) dE))))) ⟨S,lv X0 (some<|.pl<|.int c) x4 x5⟩=some (.nx ⟨S',lv X0 (some<|.pl<|.int c) (some<|.pl<|.int u)<|some<|.pl<|.int v⟩)/\Jv X S' M O U I (t+1):=fun{o M O U I A} K V=>by
  obtain⟨y0,L,W⟩:=Ks K (X0:=X0) (x3:=some<|.pl<|.int c) (x4:=some<|.pl<|.int u) (x5:=some<|.pl<|.int (v:Int));refine⟨_,M,O,U,I,u,(v:Int),?_,K.new<|dt<|.list [.int y0,.int L]⟩;refine az (s':=⟨S,lv X0 (some<|.pl<|.int c) (some<|.pl<|.int u) x5⟩) (bB (i:=4) (iX<|IE.is (pq (cw<|bT rfl) bV ⟨by decide,by decide⟩) hu.symm) (by simp)) ?_
  refine az (s':=⟨S,lv X0 (some<|.pl<|.int c) (some<|.pl<|.int u)<|some<|.pl<|.int (v:Int)⟩) (bB (i:=5) (iX<|IE.is (hU k bV (by decide)) hv.symm) (by simp)) ?_
  exact az V W
 by_cases C:c%11=10
 ·obtain⟨S',e,i⟩:=h.QA Y
  exact l i (jQ (cy<|tEq k bV C)<|dN<|cj (aw (ah rfl)<|aw (ah rfl) bh) e)
 have tl:∀{b1:Bool},decide ((90:Int)<(K0.length:Int)+(K1.length:Int))=b1->fj (nOp gGt (nOp dU (nCB ig<|ao (nIx (aE 2)<|nLit<|.int 0) aQ)<|nCB ig<|ao (nIx (aE 2)<|nLit<|.int 1) aQ)<|nLit<|.int 90) ⟨S,lv X0 (some<|.pl<|.int c) (some<|.pl<|.int u)<|some<|.pl<|.int (v:Int)⟩=some (.ok b1 ⟨S,lv X0 (some<|.pl<|.int c) (some<|.pl<|.int u)<|some<|.pl<|.int (v:Int)⟩):=fun{b1} hb=>by
  refine gk (pU (c:=.int<|(K0.length:Int)+(K1.length:Int)) (d:=.int 90) (y:=.pl<|.int 90) (oI (CH (iw (j:=0) (ah rfl) h.l9 rfl) g4)<|CH (iw (j:=1) (ah rfl) h.l9 rfl) H) cK mR mR ?_);rw[<-hb];rfl
 have p:∀{o:List<|Option Cl} {m:MN<|List SV} {f:FN} {xs:List SV},m ⟨S,lv X0 (some<|.pl<|.int c) (some<|.pl<|.int u)<|some<|.pl<|.int (v:Int)⟩=some (.ok xs ⟨S,lv X0 (some<|.pl<|.int c) (some<|.pl<|.int u)<|some<|.pl<|.int (v:Int)⟩)->f S xs=some (.ok (.pl<|.bool true) o)->fw (pC<|fj<|dA f m) (eP<|nLit<|.bool false) dE ⟨S,lv X0 (some<|.pl<|.int c) (some<|.pl<|.int u)<|some<|.pl<|.int (v:Int)⟩=some (.nx ⟨o,lv X0 (some<|.pl<|.int c) (some<|.pl<|.int u)<|some<|.pl<|.int (v:Int)⟩):=λhm hf=>dy (qR (b:=true)<|gk<|cj hm hf) rfl
 by_cases F:(90:Int)<(K0.length:Int)+(K1.length:Int)
 ·rcases E with rfl|rfl
  ·obtain⟨o,K',r,x,nw,kl⟩:=s.taken h.zl zq7
   exact l (h.Lu Y s w G x nw (by lia) (by lia)) (dy (cy<|tNe k bV C)<|jQ (tl<|zaH F)<|p (aw (zc (j:=0) (ah rfl) (ah rfl) h.l6 rfl)<|aw (zc (j:=0) (ah rfl) (ah rfl) h.l9 rfl) bh) r)
  ·obtain⟨o,K',r,x,nw,kl⟩:=w.taken h.zl zq8
   exact l (h.Lv Y s w G x nw (by lia) (by lia)) (dy (cy<|tNe k bV C)<|jQ (tl<|zaH F)<|p (aw (zc (j:=1) (ah rfl) (ah rfl) h.l6 rfl)<|aw (zc (j:=1) (ah rfl) (ah rfl) h.l9 rfl) bh) r)
 ·rcases E with rfl|rfl
  ·obtain⟨o,K',i',r,x,nw,J⟩:=CD s h.zl zq7 (λj I j2 z=>by
    obtain⟨i,e,y⟩:=h.n0 _ z;have:=mw (i:=j) (j:=i) (by lia) (by lia) e
    lia) (by lia) (by lia) u
   have:=nw.2.1;exact l (h.Lu Y s w G x nw J (by lia)) (dy (cy<|tNe k bV C)<|dy (tl<|zaO F)<|p (aw (zc (j:=0) (ah rfl) (ah rfl) h.l6 rfl)<|aw (zc (j:=0) (ah rfl) (ah rfl) h.l9 rfl)<|aw (ah rfl) bh) r)
  ·obtain⟨o,K',i',r,x,nw,J⟩:=CD w h.zl zq8 (λj I j2 z=>by
    obtain⟨i,e,L,y2⟩:=h.n1 _ z;have:=mw (i:=j) (j:=i) (by lia) (by lia) e
    lia) (by lia) (by lia) u
   have:=nw.2.1;exact l (h.Lv Y s w G x nw J (by lia)) (dy (cy<|tNe k bV C)<|dy (tl<|zaO F)<|p (aw (zc (j:=1) (ah rfl) (ah rfl) h.l6 rfl)<|aw (zc (j:=1) (ah rfl) (ah rfl) h.l9 rfl)<|aw (ah rfl) bh) r)
def Lo(y:Option SV):Prop:=∀n,gcV n y=y
theorem HE(h3:Lo I)(h4:Lo M)(U:Lo O){n:Nat}(hn : 11<=n):gcT n (lv X0 I M O)=lv X0 I M O:=by
 have a:gcV n (some<|.pl X0)=some (.pl X0):=ou λy e=>by cases e;rfl
 have f:gcV n (some<|.lc 6)=some (.lc 6):=ou λy e=>by cases e;exact zaH (by lia)
 have h:gcV n (some<|.lc 9)=some (.lc 9):=ou λy e=>by cases e;exact zaH (by lia)
 show [gcV n<|some<|.pl X0,gcV n<|some<|.lc 6,gcV n<|some<|.lc 9,gcV n I,gcV n M,gcV n O]=_;rw[a,f,h,h3 n,h4 n,U n]
theorem Lo.pl:Lo (some<|.pl d):=λn=>ou λy e=>by cases e;rfl
theorem Ly{X0:D}{cs0:List Int}:∀(I:List Int) (t:Nat) (S:List<|Option Cl) (K0 K1:List Str) (k0 k1:Nat) (U M O:Option SV),Lo U->Lo M->Lo O->t+I.length<=80->Jv (.list<|cs0.map .int) S K0 K1 k0 k1 t->
  ∃Y L0 L1 j0 j1 z3 z4 z5,Lo z3/\Lo z4/\Lo z5/\f9 11 [0,1,2] (stays (.lc 10)<|(cs0.map PyData.int).map .pl) (ngN 3) wa ((I.map PyData.int).map .pl) ⟨S,lv X0 U M O⟩=some (.nx ⟨Y,lv X0 z3 z4 z5⟩)/\Jv (.list<|cs0.map .int) Y L0 L1 j0 j1 (t+I.length)
 | [],t,S,K0,K1,k0,k1,U,M,O,h3,h4,b,_,h=>⟨S,K0,K1,k0,k1,U,M,O,h3,h4,b,pV (by show m3 S (.lc 10)=_;simp only[m3,h.l10]),h⟩
 |c::I,t,S,K0,K1,k0,k1,U,M,O,h3,h4,b,hl,h=>by
  rw[zaw]at hl⊢;obtain⟨B,L0,L1,j0,j1,u,v,f,p⟩:=PQ (X0:=X0) (c:=c) (x4:=M) (x5:=O) h (by lia)
  obtain⟨Y,e,M1,o,a,z3,z4,z5,w,x,A,l,r⟩:=Ly (X0:=X0) (cs0:=cs0) I (t+1) _ L0 L1 j0 j1 (some<|.pl<|.int c) (some<|.pl<|.int u) (some<|.pl<|.int v) Lo.pl Lo.pl Lo.pl (by lia) (p.gc (n:=11) (zap _) (kp:=[0,1,2]) (q:=lv X0 (some<|.pl<|.int c) (some<|.pl<|.int u)<|some<|.pl<|.int v))
  refine⟨Y,e,M1,o,a,z3,z4,z5,w,x,A,?_,by rw[show t+(I.length+1)=t+1+I.length by lia];exact r⟩
  exact m5 (s1:=⟨S,lv X0 (some<|.pl<|.int c) M O⟩) (by show m3 S (.lc 10)=_;simp only[m3,h.l10]) rfl f (wC<|HE Lo.pl Lo.pl Lo.pl<|zap _) l
theorem Lz{X0:D}{M O U:Option SV}(h3:Lo M)(h4:Lo O)(h5:Lo U):∀(m n:Nat) (S:List<|Option Cl) (K:List Str) (k w:Int),K.length<=m->m<n->11<=S.length->S[6]?=some (some<|.lst [.lc 2,.lc 5])->S[9]?=some (some<|.lst [.lc 7,.lc 8])->Hd Zq S 2 7 K k w->
  ∃I Y,f7 [0,1,2,3,4,5] v9 B7 n ⟨S,lv X0 M O U⟩=some (.nx ⟨I,lv X0 M O U⟩)/\11<=I.length/\I[6]?=some (some<|.lst [.lc 2,.lc 5])/\I[9]?=some (some<|.lst [.lc 7,.lc 8])/\Hd Zq I 2 7 [] k Y
 |m,0,S,K,k,w,_,hn,_,_,_,_=>absurd hn (Nat.not_lt_zero _)
 |m,n+1,S,K,k,w,hm,hn,lS,l6,l9,h=>by
  obtain⟨a,b,T,R,q,p2,g1,g2,Z,G,B,gw⟩:=h.at;have o:∀{b1:Bool},(!K.isEmpty)=b1->v9 ⟨S,lv X0 M O U⟩=some (.ok b1 ⟨S++[dt<|.dict []],lv X0 M O U⟩):=fun{b1} N=>by
   refine gk (pU (c:=PL K<|kf R) (d:=.dict []) (y:=.lc S.length) (iw (j:=0) (ah rfl) l9 rfl) (ia (d:=.dict []) rfl rfl) (Lm<|aS G) (Lm ap0) ?_);rw[<-N];cases K<;>rfl
  have h':Hd Zq (S++[dt<|.dict []]) 2 7 K k w:=by
   obtain⟨a,b,T,R,q,p2,H,J,h3,h4,B,F,L,P⟩:=h;exact⟨a,b,T,R,q,p2,aS H,aS J,aS h3,aS h4,B,F,L,P⟩
  have l : 11<=(S++[dt<|.dict []]).length:=by rw[zau];lia
  by_cases e:K=[]
  ·subst e
   exact⟨_,w,wo<|o rfl,l,aS l6,aS l9,h'⟩
  ·have zl:∀z∈Zq,z<(S++[dt<|.dict []]).length:=λz V=>by
    simp only[Zq,List.mem_cons,List.not_mem_nil,or_false]at V
    lia
   obtain⟨r,K',C,⟨⟨w',Q,p⟩,f⟩,_,_,W⟩:=oK h' zl zq7;have kl:=W e;obtain⟨I,Y,E,u,v,x,A⟩:=Lz (X0:=X0) h3 h4 h5 (m-1) n (gcE (S++[dt<|.dict []]).length [0,1,2,3,4,5] ⟨r,lv X0 M O U⟩).S K' k w' (by lia) (by lia) (zaX l<|CA f.1) (by rw[jq (by lia),f.2 6 (by lia) (by decide) (by decide)];exact aS l6) (by rw[jq (by lia),f.2 9 (by lia) (by decide) (by decide)];exact aS l9) (p.gc (by lia) (by lia))
   exact⟨I,Y,Hk (o (by cases K with|nil=>exact absurd rfl e|cons _ _=>rfl)) (dy (qR (b:=true)<|gk<|cj (aw (iw (j:=0) (ah rfl) (aS l6) rfl)<|aw (iw (j:=0) (ah rfl) (aS l9) rfl) bh) C) rfl) (wC<|HE h3 h4 h5 l) E,u,v,x,A⟩
theorem HF(ns:List Int)(hl:ns.length<=63)(hb:∀k∈ns,Builtin.Int.intBits k<=1048576):Lg [.list<|ns.map .int]=some (.bool true,false):=by
 obtain⟨h,N,l1,_⟩:∃h:List Int,cutD (ns.map .int) none (some (80:Int))=h.map .int/\h.length<=80/\True:=by
  obtain⟨h,e,C,_⟩:=Ha ns 0 80;exact⟨h,e,C,trivial⟩
 obtain⟨X0,E⟩:∃X0:D,X0=.list (ns.map .int):=⟨_,rfl⟩;have w:Str->aG.Row:=λ_=>⟨0,none,false,[]⟩
 obtain⟨o,l⟩:∃o:List (Option Cl),o=[dt<|.list [],dt<|.dict [],some<|stc (.tp [.lc 0,.lc 1]) 0 0 0,dt<|.list [],dt<|.dict [],some<|stc (.tp [.lc 3,.lc 4]) 0 0 300,some<|.lst [.lc 2,.lc 5]]:=⟨_,rfl⟩;have u:Lo none:=λn=>rfl
 have U:Jv (.list<|h.map .int) (o++[dt<|.dict [],dt<|.dict [],some<|.lst [.lc 7,.lc 8],dt<|.list<|h.map .int]) [] [] 0 300 0:=by
  rw[l];refine⟨rfl,rfl,rfl,⟨0,0,⟨0,1,[],w,0,0,rfl,rfl,rfl,rfl,(Bt.zero _).more<|Nat.zero_le _,Fm.zero _,by simp[Zq],rfl⟩,⟨3,4,[],w,0,0,rfl,rfl,rfl,rfl,(Bt.zero _).more<|Nat.zero_le _,Fm.zero _,by simp[Zq],rfl⟩,by decide⟩,(λn hn=>by cases hn),(λn hn=>by cases hn),(λn hn=>by cases hn),by simp,by lia,by lia,by lia⟩
 obtain⟨A,v,L1,j0,j1,F,G,H,o3,o4,o5,lo,r⟩:=Ly (X0:=X0) (cs0:=h) h 0 _ [] [] 0 300 none none none u u u (by lia) U
 obtain⟨w0,w1,Z,C,hw⟩:=r.hd;have sz:=r.sz;obtain⟨J,w2,P,Y,l6,l9,I⟩:=Lz (X0:=X0) o3 o4 o5 v.length 1000000 A v _ w0 (zap _) (by lia) (by have:=bK r.l10;lia) r.l6 r.l9 Z
 have zl:∀z∈Zq,z<J.length:=λz O=>by
  simp only[Zq,List.mem_cons,List.not_mem_nil,or_false]at O
  lia
 obtain⟨L,K',Q,⟨⟨w',M,q⟩,f⟩,_,k2,_⟩:=oK I zl zq7;rw[k2 rfl]at q;obtain⟨a,b,T,R,p1,p2,g1,g2,W,g4,B,gw⟩:=q.at;have V:T=[]:=by
  cases T with
  |nil=>rfl
  |cons t T=>exact absurd (B.tk t zas).1 (by simp)
 subst V;have p:B8 ⟨[],[some<|.pl X0,none,none,none,none,none]⟩=some (.rt (.pl<|.bool true) ⟨L,lv X0 F G H⟩):=by
  refine az (s':=⟨o,[some<|.pl X0,some<|.lc 6,none,none,none,none]⟩) (bB (i:=1) (s':=⟨o,[some<|.pl X0,none,none,none,none,none]⟩) ?_ (by simp)) ?_
  ·rw[l]
   exact qS (S:=[]) (X:=[dt<|.list [],dt<|.dict [],some<|stc (.tp [.lc 0,.lc 1]) 0 0 0,dt<|.list [],dt<|.dict [],some<|stc (.tp [.lc 3,.lc 4]) 0 0 300]) (aw (qS (S:=[]) (X:=[dt<|.list [],dt<|.dict []]) (xs:=[.tp [.lc 0,.lc 1],.pl<|.int 0,.pl<|.int 0,.pl<|.int 0]) (aw Ax<|aw cK<|aw cK<|aw cK bh) (by simp))<|aw (qS (S:=[]) (X:=[dt<|.list [],dt<|.dict [],some<|stc (.tp [.lc 0,.lc 1]) 0 0 0,dt<|.list [],dt<|.dict []]) (xs:=[.tp [.lc 3,.lc 4],.pl<|.int 0,.pl<|.int 0,.pl<|.int 300]) (aw Ax<|aw cK<|aw cK<|aw cK bh) (by simp)) bh) (by simp)
  refine az (s':=⟨o++[dt<|.dict [],dt<|.dict [],some<|.lst [.lc 7,.lc 8]],lv X0 none none none⟩) (bB (i:=2) (s':=⟨o++[dt<|.dict [],dt<|.dict [],some<|.lst [.lc 7,.lc 8]],[some<|.pl X0,some<|.lc 6,none,none,none,none]⟩) ?_ (by simp)) ?_
  ·rw[l]
   exact qS (S:=[dt<|.list [],dt<|.dict [],some<|stc (.tp [.lc 0,.lc 1]) 0 0 0,dt<|.list [],dt<|.dict [],some<|stc (.tp [.lc 3,.lc 4]) 0 0 300,some<|.lst [.lc 2,.lc 5]]) (X:=[dt<|.dict [],dt<|.dict []]) (xs:=[.lc 7,.lc 8]) (aw (ia (d:=.dict []) rfl rfl)<|aw (ia (d:=.dict []) rfl rfl) bh) (by simp)
  refine az (s':=⟨A,lv X0 F G H⟩) (sF (k:=10) (ds:=h.map .int) (s1:=⟨o++[dt<|.dict [],dt<|.dict [],some<|.lst [.lc 7,.lc 8],dt<|.list<|h.map .int],lv X0 none none none⟩) ?_ (by rw[l];rfl) ?_) ?_
  ·have:=ia (s:=⟨o++[dt<|.dict [],dt<|.dict [],some<|.lst [.lc 7,.lc 8]],lv X0 none none none⟩) (m:=mSl gSl (ai 0) vt<|Fg<|mC<|.int 80) (d:=.list<|h.map .int) (ρ:=vw ⟨o++[dt<|.dict [],dt<|.dict [],some<|.lst [.lc 7,.lc 8]],lv X0 none none none⟩) (by rw[<-N,E];rfl) (by show a8 _=true;exact lQ (λx=>rfl) _)
   rw[l]at this⊢;exact this
  ·rw[show(o++[dt<|.dict [],dt<|.dict [],some<|.lst [.lc 7,.lc 8],dt<|.list<|h.map .int]).length=11 by rw[l];rfl]
   exact lo
  refine az P ?_;refine cR (Ck (cj (aw (iw (j:=0) (ah rfl) l6 rfl)<|aw (iw (j:=0) (ah rfl) l9 rfl) bh) Q)<|pU (c:=.int 0) (d:=.int 0) (y:=.pl<|.int 0) (iE (ds:=[PD [] [] R]) (aw (iw (j:=0) (iw (j:=0) (ah rfl) (by rw[f.2 6 (by lia) (by decide) (by decide)];exact l6) rfl) g1 rfl) bh) rfl (by simp only[gq,cG g2 W,Option.bind_some,Option.map_some]) (uP (av:=[]) (U0:=[]) (Q0:=R) (by simp)) rfl) cK mR mR ?_)
  unfold gEq;rw[if_pos ⟨rfl,rfl⟩];simp[PyData.eqv]
 show fnO 1 5 B8 [.list<|ns.map .int]=_;unfold fnO;rw[if_pos<|show([PyData.list<|ns.map .int]:List D).length=1 from rfl,<-E];show(B8 ⟨[],[some<|.pl X0,none,none,none,none,none]⟩).bind O5=_;rw[p];rfl
end K78
set_option maxHeartbeats 4000000
namespace PySem.W.Fast
def tw1563917245279352746:=0
def tw7402935690444334130:=0
def tw4647136788622831638:=0
def tw9348570203753681783:=0
def tw16429295821599377572:=0
def tw3476232866602680712:=0
def tw1826098332830132962:=0
def tw15439955236559094013:=0
def tw18245181966638829349:=0
def tw16900305495755881595:=0
def tw16208711939754667278:=0
def tw5708467937924000858:=0
def tw868746431926021554:=0
def tw5506399675370057314:=0
def tw14954747581565313934:=0
def tw5935192520362623496:=0
def tw17081526026110372129:=0
def tw16896967815684891464:=0
def tw7975654302979339378:=0
def tw18387614424215675665:=0
def tw10723305099744698198:=0
def tw17247269682588724955:=0
def tw17190217152062246083:=0
def tw17964621859147614221:=0
def tw16724043922826265424:=0
def tw12747910702166865298:=0
def tw2378543541987751928:=0
def tw13983673513038298315:=0
def tw1086924130568116997:=0
def tw8264682337771645026:=0
def tw7693466032817627503:=0
def tw3203369174150325697:=0
def tw10007169829460366081:=0
def tw8531389341256299150:=0
def tw2572682164465107163:=0
def tw8856509102516624912:=0
def tw1609455582755539804:=0
def tw4669314635605272133:=0
def tw11175579279255252967:=0
def tw10901439039045726102:=0
def tw1892608495893350251:=0
def tw290740820823437255:=0
def tw18350531833632376452:=0
def tw564485372451065134:=0
def tw2173720057381559131:=0
def tw16490117728438319516:=0
def tw866128279905498794:=0
def tw16548218820894191327:=0
def tw4224726046857230239:=0
def tw5093001620453915789:=0
def tw8802035410865710168:=0
def tw494352321052812665:=0
def tw17913704251643216641:=0
def tw15892957307513283229:=0
def tw1287317602898692954:=0
def tw2497047787635972617:=0
def tw13676161315676259686:=0
def tw14909387311166062824:=0
def tw12963709929746098049:=0
def tw12145476445001727432:=0
def tw3426893345075317482:=0
def tw3851556401959372485:=0
def tw12869924548895705255:=0
def tw1130945667834272225:=0
def tw6794193613812281942:=0
def tw510863085262359339:=0
def tw15557279200820143405:=0
def tw13771455828209387925:=0
def tw11003195557482564317:=0
def tw1113143467304448257:=0
def tw6941150108580867128:=0
def tw7473089542428858868:=0
def tw2488576742577870325:=0
def tw7736893662285279513:=0
def tw7645933888280714791:=0
def tw3678055400144831603:=0
def tw11208997598131624837:=0
def tw11871251883387236647:=0
def tw10765770561313704382:=0
def tw9304539817263532980:=0
def tw17531633890429259676:=0
def tw3122060053477455450:=0
def tw8579120203162369026:=0
def tw16745160734782695655:=0
def tw10032288142185577502:=0
def tw14347797557111069803:=0
def tw13044680584990190910:=0
def tw17965600516511032118:=0
def tw13075365477944658015:=0
def tw12979446456941095388:=0
def tw7755243713675057092:=0
def tw18180360067605673162:=0
def tw12964407937735766690:=0
def tw4670868348651374211:=0
def tw6290055720073325670:=0
def tw8729089148327388934:=0
def tw14207933587859520862:=0
def tw1077595320091972867:=0
def tw495653683724404187:=0
def tw5722652898974250678:=0
def tw17795266914430180198:=0
def tw14184842605322335515:=0
def tw9452014977259812924:=0
def tw17887760458556336371:=0
def tw4109155254851631793:=0
def tw13853088656487493602:=0
def tw4654756471800732083:=0
def tw13461577556010381918:=0
def tw3130277344456447767:=0
def tw13822937599534472553:=0
def tw6282964423080048321:=0
def tw12489534572703477249:=0
def tw10853757995187339806:=0
def tw15939517664145268178:=0
def tw812607516627091221:=0
def tw16074316530410486338:=0
def tw3928201939873999904:=0
def tw17128589185731008629:=0
def tw17082078052472466436:=0
def tw4564794202062034221:=0
def tw3631970778541853119:=0
def tw11797130660701177370:=0
def tw5564831156452467316:=0
end PySem.W.Fast
namespace K78
open L2 Mir
local macro_rules | `(tactic| walk_at "Qs") => `(tactic| exact ⟨rfl, rfl, rfl, by decide +kernel, rfl, by decide +kernel, by decide +kernel⟩)
local macro_rules | `(tactic| walk_at "Qb") => `(tactic| (rintro _ _ _ _ _ _ (_|⟨_,_|⟨_,_|⟨_,_|⟨_,_|⟨_,_⟩⟩⟩⟩⟩) h <;> first | rfl | cases h))
def top(i:Nat):Stmt:=PySem.Challenge.pw_creditworks_k78_whole_piles.main.body.getD i (.Pass ⟨0,0,0,0⟩)
abbrev m8:Stmt:=top 10
theorem zd:bq ["held","name"] ["held","name"] (aL m8):=by walk_at "Qs"
abbrev iy:Stmt:=top 16
theorem jr:bq ["pile"] ["pile"] (aL iy):=by walk_at "Qs"
abbrev AD:Stmt:=top 21
theorem wF:bq ["held","name","on","row"] ["held","name","on"] (aL AD):=by walk_at "Qs"
abbrev kG:Stmt:=top 20
theorem bZ:bq ["pile","held","alone","steps","top","on","name","lesser"] ["pile"] (aL kG):=by walk_at "Qs"
abbrev sR:Stmt:=top 11
theorem Eb:bq ["row"] ["row"] (aL sR):=by walk_at "Qs"
abbrev m9:Stmt:=top 19
theorem eK:bq ["pile","name","held","row","tops","steps","lower","hung"] ["pile","name"] (aL m9):=by walk_at "Qs"
abbrev iz:Stmt:=top 18
theorem fA:bq ["pile","name","taken"] ["pile"] (aL iz):=by walk_at "Qs"
abbrev js:Stmt:=top 34
theorem iY:bq ["_law_pile","_law_way","_law_refused_here"] ["_law_pile","_law_way"] (aL js):=by walk_at "Qs"
abbrev kH:Stmt:=top 13
theorem cV:bq ["n","most","lesser","greater","total"] ["n"] (aL kH):=by walk_at "Qs"
abbrev lT:Stmt:=top 35
theorem gm:bq ["_law_state","_law_plain","_law_key","_law_name","_law_named","_law_told"] ["_law_state","_law_plain"] (aL lT):=by walk_at "Qs"
abbrev pW:Stmt:=top 8
theorem AE:bq [] [] (aL pW):=by walk_at "Qs"
abbrev kI:Stmt:=top 15
theorem jt:bq ["one","other","held","name"] ["one","other"] (aL kI):=by walk_at "Qs"
abbrev ng:Stmt:=top 40
theorem ze:bq ["_law_states","_law_plains"] ["_law_states","_law_plains"] (aL ng):=by walk_at "Qs"
abbrev ju:Stmt:=top 12
theorem lU:bq ["pile","marked"] ["pile"] (aL ju):=by walk_at "Qs"
abbrev gF:Stmt:=top 39
theorem jl:bq ["_law_pile","_law_plain","_law_found"] ["_law_pile","_law_plain"] (aL gF):=by walk_at "Qs"
abbrev kJ:Stmt:=top 25
theorem tS:bq ["pile","name"] ["pile","name"] (aL kJ):=by walk_at "Qs"
abbrev iZ:Stmt:=top 27
theorem fH:bq ["held","name","names","above"] ["held","name"] (aL iZ):=by walk_at "Qs"
abbrev pX:Stmt:=top 28
theorem AF:bq ["row","name"] ["row","name"] (aL pX):=by walk_at "Qs"
abbrev lV:Stmt:=top 29
theorem wG:bq ["row"] ["row"] (aL lV):=by walk_at "Qs"
abbrev pY:Stmt:=top 26
theorem gG:bq ["pile","name","held","names","last","cut","above"] ["pile","name"] (aL pY):=by walk_at "Qs"
abbrev pZ:Stmt:=top 24
theorem nh:bq ["pile","name","cut","taken"] ["pile","name"] (aL pZ):=by walk_at "Qs"
abbrev lW:Stmt:=top 23
theorem kK:bq ["pile","name","key","row","held"] ["pile","name","key"] (aL lW):=by walk_at "Qs"
abbrev jv:Stmt:=top 37
theorem dc:bq ["_law_state","_law_plain","_law_way","_law_number","_law_names","_law_name","_law_key","_law_told","_law_price"] ["_law_state","_law_plain","_law_way","_law_number"] (aL jv):=by walk_at "Qs"
abbrev jw:Stmt:=top 32
theorem gp:bq ["_law_k","_law_letters","_law_name"] ["_law_k"] (aL jw):=by walk_at "Qs"
abbrev kL:Stmt:=top 33
theorem tT:bq ["_law_number"] ["_law_number"] (aL kL):=by walk_at "Qs"
abbrev p0:Stmt:=top 9
theorem AG:bq ["value"] ["value"] (aL p0):=by walk_at "Qs"
abbrev nj:Stmt:=top 14
theorem qu:bq ["pile","name","key","held"] ["pile","name","key"] (aL nj):=by walk_at "Qs"
abbrev p8:Stmt:=top 36
theorem nq:bq ["_law_state","_law_plain","_law_number","_law_name","_law_key"] ["_law_state","_law_plain","_law_number"] (aL p8):=by walk_at "Qs"
abbrev nu:Stmt:=top 38
theorem lX:bq ["_law_state","_law_plain","_law_cell","_law_number","_law_k"] ["_law_state","_law_plain","_law_cell"] (aL nu):=by walk_at "Qs"
abbrev CI:Stmt:=top 41
theorem p9:bq ["_law_script","_law_states","_law_plains","_law_cell","_law_number","_law_which"] ["_law_script"] (aL CI):=by walk_at "Qs"
structure CF(K:zag)(mg:Str->Option Value)(fI:Addr):Prop where
 wH:PySem.W.excIn K fI [.type "ValueError",.type "Exception",.type "BaseException",.type "object"] "ValueError.__new__"=true
 kM:mg "Empty"=some (.ref fI)
 Kt:OB K fI
 h_Empty_Empty:PySem.W.exmOne K (.ref fI) (.ref fI)=some true
local macro_rules | `(tactic| walk_at "l") => `(tactic| first | exact Or.inl rfl | exact Or.inr rfl)
section
variable(P:Program)(w:World){K:zag}{mg:Str->Option Value}(base:Heap)
def fq(mg:Str->Option Value):Prop:=∀x∈(["all","bool","dict","int","isinstance","len","list","min","range","sorted","str","sum","tuple"]:List Str),mg x=none
variable{fI:Addr}
theorem zf(Z:fq mg)(T:Top K mg "standing" m8) :Def P w K mg base CX0 1 "standing" ["held","name"] (spM bR):=by
 refine T.def zd (λvs H Q E h=>d3 h) (by walk_at "Qb") λf cdv A outer s H vs Q E a h=>?_
 have b:=a.units;exact⟨_,(aC<|br<|cu<|ax (pix K<|pdg b (pv 0)<|pv 1)<|pa1<|pv 1),
   fX (n:=2) (k:=0) (d8<|jY<|bD (mix<|aD dM aa aa)<|ma1 aa) rfl h⟩
theorem sS(Z:fq mg)(T:Top K mg "least_name" iy)(I:CF K mg fI) :Def P w K mg base (CXW P w) 1 "least_name" ["pile"] (spX (clM mg) dr):=by
 have a:mg "len"=none:=Z _ (by decide+kernel)
 refine T.OU jr (λvs H Q E h=>Br h) (by walk_at "Qb") λf cdv A outer s H vs Q E b h=>?_
 have d:=b.units;exact⟨_,(af (cY (peq K d (bw (cF (K:=K) rfl) rfl a zaE<|pa1<|pix K<|pv 0) aF)
   (aC<|E8 rfl rfl I.kM I.wH PySem.F.excBase_ValueError (tw jr.kind rfl)<|pa1 gu)
   bF)
   (aC<|id fP)),
   Bq (n:=1) (k:=0) (vB (M5 (bf<|aD qz (cU i9<|ma1<|mix aa) aN)
   (Dv (c:="Empty") (ma1 iM) λH h=>zU I.kM▸h)
   (nL fU))
   (nL gZ)) rfl h⟩
theorem tU(Z:fq mg)(M:(gW K).isSome=true)(T:Top K mg "least_name" iy)(I:Def P w K mg base CX0 1 "standing" ["held","name"]<|spM bR):Def P w K mg base CX0 4 "least_name" ["pile"] (spM eS):=by
 have c:mg "len"=none:=Z _ (by decide+kernel)
 have b:mg "min"=none:=Z _ (by decide+kernel)
 refine T.Qr M rfl (by decide+kernel) jr (λvs H Q E h=>d3 h) (by walk_at "Qb") λf cdv A outer s H vs Q E d a h=>?_
 have e:=a.units;exact⟨_,(af (cY (peq K e (bw (cF (K:=K) rfl) rfl c zaE<|pa1<|pix K<|pv 0) aF)
   (aC fP)
   bF)
   (aC<|br<|JC (k:=1) (fr:=[("pile",0)]) ⟨rfl,rfl,rfl,rfl,rfl,rfl,by decide+kernel⟩ d (a.mono (by lia)) rfl b (pix K<|pv 0) (λ_ _ _ _=>(vm I (a.lam (by lia) _)<|ax (pix K<|pv 1)<|pa1<|pv 0)) λ_ _ _ _ _=>rfl)),
   fX (n:=1) (k:=0) (cQ (mL (bf<|aD qz (cU i9<|ma1<|mix aa) aN)
   gZ
   fU)
   (d8<|JD (mix aa)<|df<|bD (mix aa)<|ma1 aa)) rfl h⟩
theorem Ku(Z:fq mg)(T:Top K mg "hang" AD) :Def P w K mg base CX0 1 "hang" ["held","name","on"] (spQ vV):=by
 refine T.def wF (λvs H Q E h=>eR h) (by walk_at "Qb") λf cdv A outer s H vs Q E b h=>?_
 have a:=b.units;exact⟨_,(af (cx 3 wF.nd<|pdg a (pv 0)<|pv 1)
   (af (fE (hv1 a) (pv 0) (pv 1) (cu<|ax (pix K<|pv 3)<|ax (pv 2)<|ax fu<|pa1<|pix K<|pv 3) rfl)
   (af (cx 3 wF.nd<|pdg a (pv 0)<|pv 2)
   (aC<|fE (hv1 a) (pv 0) (pv 2) (cu<|ax (pix K<|pv 3)<|ax (pix K<|pv 3)<|ax (pix K<|pv 3)<|pa1<|bL (GI (K:=K) rfl) (pix K<|pv 3)<|cu<|pa1<|pv 1) rfl)))),
   eQ (n:=3) (k:=1) (aJ (aX (cW<|aD dM aa aa) aU)
   (aJ (gM aj aj<|eD<|ak (nix aj)<|ak aj<|ak (eC λ_=>.bl _)<|ak (nix aj) aM)
   (aJ (aX (cW<|aD dM aa aa) aU)
   (gM aj aj<|eD<|ak (nix aj)<|ak (nix aj)<|ak (nix aj)<|ak (cW<|aD Nv (mix aa)<|jY<|ma1 aa) aM)))) rfl h⟩
theorem tV(Z:fq mg)(T:Top K mg "hang_alike" kG)(M:Def P w K mg base CX0 1 "hang" ["held","name","on"]<|spQ vV)(I:Def P w K mg base CX0 1 "standing" ["held","name"]<|spM bR):Def P w K mg base CX0 2 "hang_alike" ["pile"] (spQ ip):=by
 have c:mg "len"=none:=Z _ (by decide+kernel)
 have d:mg "dict"=none:=Z _ (by decide+kernel)
 refine T.def bZ (λvs H Q E h=>eR h) (by walk_at "Qb") λf cdv A outer s H vs Q E b h=>?_
 have a:=b.units;exact⟨_,(af (cx 1 bZ.nd<|eM gA rfl d PyProof.Rows.boot_dict<|pa1<|pix K<|pv 0)
   (af (cx 2 bZ.nd g7)
   (af (cx 3 bZ.nd<|iJ mU)
   (af (oT PassesOwn.never rfl (jC (K:=K) rfl<|pix K<|pv 0) (pgn 4 bZ.nd)
   (af (cx 5 bZ.nd<|pv 4)
   (af (nD PassesOwn.never (u5<|vH (hv1 a) (bw (cF (K:=K) rfl) rfl c zaE<|pa1<|pix K<|pdg a (pv 1)<|pv 5)<|pv 2)
   (af (cx 6 bZ.nd<|j6 (K:=K) rfl PySem.F.plainAttrs_dict PySem.F.slot_dict_pop PySem.F.type_dict_pop qL (pv 2)<|pa1<|bw (cF (K:=K) rfl) rfl c zaE<|pa1<|pix K<|pdg a (pv 1)<|pv 5)
   (af (cY (cA (Nl (K:=K) rfl<|Nat.lt_of_le_of_lt (Nat.le_add_right _ _) a) (pd I b<|ax (pv 1)<|pa1<|pv 6) (pd I b<|ax (pv 1)<|pa1<|pv 5)<|cI _)
   (af (cx 7 bZ.nd<|pv 6)
   (af (cx 6 bZ.nd<|pv 5)
   (aC<|cx 5 bZ.nd<|pv 7)))
   bF)
   (af (eL<|pd M b<|ax (pv 1)<|ax (pv 6)<|pa1<|pv 5)
   (aC<|eL<|j6 (K:=K) rfl zaJ zaV zaU ma (pv 3)<|pa1<|cu<|ax gu<|ax (pv 6)<|pa1<|pv 5)))))
   (aC<|fE (hv1 a) (pv 2) (bw (cF (K:=K) rfl) rfl c zaE<|pa1<|pix K<|pdg a (pv 1)<|pv 5) (pv 5) rfl))))
   (aC<|br<|cu<|ax (cu<|ax (qY (fr:=[("held",1)]) rfl ⟨rfl,rfl,rfl,rfl,rfl,rfl,by decide+kernel⟩ (jC (K:=K) rfl<|pix K<|pv 0) (λ_ _ _ _=>(qD<|cA zE (pix K<|pdg a (pv 1)<|pv 0) oR<|cI _)) λ_ _ _ _=>(pv 0))<|pa1<|pv 1)<|pa1<|pv 3))))),
   eQ (n:=1) (k:=7) (aJ (aX (cW<|cU mi<|ma1<|mix aa) aU)
   (aJ (aX (cW jb) aU)
   (aJ (aX (lx aM) aU)
   (aJ (vG (nix aj) aU
   (aJ (aX aj aU)
   (aJ (x9 (mZ<|bf<|aD BH (cU i9<|ma1<|mix<|aD dM aa aa) aa)
   (aJ (aX (qM aj<|ak (cW<|cU i9<|ma1<|mix<|aD dM aa aa) aM) aU)
   (aJ (fN (mZ<|bf<|aD Pf (df<|bD aa<|ma1 aa)<|df<|bD aa<|ma1 aa)
   (aJ (aX aj aU)
   (aJ (aX aj aU)
   (aX aj aU)))
   dh)
   (aJ (fD<|bP<|ak aj<|ak aj<|ak aj aM)
   (fD<|z8 aj<|ak (eD<|ak (eC λ_=>.str _)<|ak aj<|ak aj aM) aM)))))
   (gM aj (cW<|cU i9<|ma1<|mix<|aD dM aa aa) aj))))
   (cD<|eD<|ak (eD<|ak (cW<|xA (vy<|mix aa) (bf<|aD ML (mix<|aD dM aa aa) oY) aa)<|ak aj aM)<|ak aj aM))))) rfl h⟩
theorem Ec(Z:fq mg)(T:Top K mg "as_top" sR) :Def P w K mg base CX0 1 "as_top" ["row"] (spM jI):=by
 refine T.def Eb (λvs H Q E h=>d3 h) (by walk_at "Qb") λf cdv A outer s H vs Q E a h=>?_
 have b:=a.units;exact⟨_,(aC<|br<|cu<|ax (pix K<|pv 0)<|ax oR<|ax fu<|pa1<|pix K<|pv 0),
   fX (n:=1) (k:=0) (d8<|jY<|bD (mix aa)<|bD oY<|bD rd<|ma1<|mix aa) rfl h⟩
theorem zg(Z:fq mg)(T:Top K mg "take_top" m9)(M:Def P w K mg base CX0 2 "hang_alike" ["pile"]<|spQ ip)(I:Def P w K mg base CX0 1 "as_top" ["row"]<|spM jI):Def P w K mg base CX0 3 "take_top" ["pile","name"] (spQ fK):=by
 have c:mg "dict"=none:=Z _ (by decide+kernel)
 refine T.def eK (λvs H Q E h=>eR h) (by walk_at "Qb") λf cdv A outer s H vs Q E a h=>?_
 have b:=a.units;exact⟨_,(af (cx 2 eK.nd<|eM gA rfl c PyProof.Rows.boot_dict<|pa1<|pix K<|pv 0)
   (af (cx 3 eK.nd<|j6 (K:=K) rfl PySem.F.plainAttrs_dict PySem.F.slot_dict_pop PySem.F.type_dict_pop qL (pv 2)<|pa1<|pv 1)
   (af (xm (i0:=4) (fr:=[("name",1)]) rfl eK.nd rfl (by walk_at "l") ⟨rfl,rfl,rfl,rfl,rfl,rfl,by decide+kernel⟩ (jC (K:=K) rfl<|pix K<|pv 0) (λ_ _ _ _=>(qD<|pne K b (pv 0)<|pv 1)) λ_ _ _ _=>(pv 0))
   (af (cx 5 eK.nd<|iJ mU)
   (af (oT PassesOwn.never rfl (Bj (K:=K) rfl<|pix K<|pv 3) (pgn 6 eK.nd)
   (af (fE (hv1 b) (pv 2) (pv 6) (pd I a<|pa1<|pdg b (pv 2)<|pv 6) rfl)
   (af (eL<|j6 (K:=K) rfl zaJ zaV zaU ma (pv 4)<|pa1<|pv 6)
   (aC<|eL<|j6 (K:=K) rfl zaJ zaV zaU ma (pv 5)<|pa1<|cu<|ax gu<|pa1<|pv 6))))
   (af (cx 7 eK.nd<|pd M a<|pa1<|cu<|ax (pv 4)<|pa1<|pv 2)
   (aC<|br<|cu<|ax (pix K<|pv 3)<|ax (pix K<|pv 7)<|pa1<|i5 K (pv 5)<|pix K<|pv 7))))))),
   eQ (n:=2) (k:=6) (aJ (aX (cW<|cU mi<|ma1<|mix aa) aU)
   (aJ (aX (qM aj<|ak aj aM) aU)
   (aJ (aX (cW<|xA (vy<|mix aa) (bf<|aD zL aa aa) aa) aU)
   (aJ (aX (lx aM) aU)
   (aJ (F2 (My<|mix aa) aU
   (aJ (gM aj aj<|cW<|df<|ma1<|aD dM aa aa)
   (aJ (fD<|z8 aj<|ak aj aM)
   (fD<|z8 aj<|ak (eD<|ak (eC λ_=>.str _)<|ak aj aM) aM))))
   (aJ (aX (bP<|ak (eD<|ak aj<|ak aj aM) aM) aU)
   (cD<|eD<|ak (nix aj)<|ak (nix aj)<|ak (cW<|aD d9 aa<|mix aa) aM))))))) rfl h⟩
theorem sT(Z:fq mg)(T:Top K mg "take_least" iz)(M:CF K mg fI)(I:Def P w K mg base (CXW P w) 1 "least_name" ["pile"]<|spX (clM mg) dr):Def P w K mg base (CXW P w) 2 "take_least" ["pile"] (spX (clM mg) eU):=by
 refine T.OU fA (λvs H Q E h=>Br h) (by walk_at "Qb") λf cdv A outer s H vs Q E a h=>?_
 have b:=a.units;exact⟨_,(af (cx 1 fA.nd<|IZ I (a.mono (by lia)) (O0 rfl)<|pa1<|pv 0)
   (af (id fP)
   (aC<|id fP))),
   Bq (n:=1) (k:=2) (vB (FQ<|ma1 aa)
   (vB (nL gZ)
   (nL gZ))) rfl h⟩
theorem tW(Z:fq mg)(T:Top K mg "take_least" iz)(M:Def P w K mg base CX0 3 "take_top" ["pile","name"]<|spQ fK)(I:Def P w K mg base CX0 4 "least_name" ["pile"]<|spM eS):Def P w K mg base CX0 5 "take_least" ["pile"] (spQ iq):=by
 refine T.def fA (λvs H Q E h=>eR h) (by walk_at "Qb") λf cdv A outer s H vs Q E a h=>?_
 have b:=a.units;exact⟨_,(af (cx 1 fA.nd<|pd I a<|pa1<|pv 0)
   (af (cx 2 fA.nd<|pd M a<|ax (pv 0)<|pa1<|pv 1)
   (aC<|br<|cu<|ax (pv 1)<|ax (pix K<|pv 2)<|ax (pix K<|pv 2)<|pa1<|pix K<|pv 2))),
   eQ (n:=1) (k:=2) (aJ (aX (cW<|df<|ma1 aa) aU)
   (aJ (aX (bP<|ak aj<|ak aj aM) aU)
   (cD<|eD<|ak aj<|ak (nix aj)<|ak (nix aj)<|ak (nix aj) aM))) rfl h⟩
theorem sU(Z:fq mg)(T:Top K mg "_law_refused" js)(I:CF K mg fI)(M:Def P w K mg base (CXW P w) 1 "least_name" ["pile"]<|spX (clM mg) dr)(O:Def P w K mg base (CXW P w) 2 "take_least" ["pile"]<|spX (clM mg) eU) :Def P w K mg base CX0 3 "_law_refused" ["_law_pile","_law_way"] (spM dO):=by
 refine T.def iY (λvs H Q E h=>d3 h) (by walk_at "Qb") λf cdv A outer s H vs Q E a h=>?_
 have d:=a.units;exact⟨_,(af (cx 2 iY.nd fu)
   (af (IW (K:=K) rfl
   (vD (OY rfl (peq K d (pv 1) aF)
   (vD<|Bw<|Bx rfl M (a.mono (by lia))<|pa1<|pv 0)
   (vD<|Bw<|Bx rfl O (a.mono (by lia))<|pa1<|pv 0)))
   rfl rfl rfl I.kM (λcls e g b hok=>
   (aC<|cx 2 iY.nd fu)))
   (aC<|br<|pv 2))),
   fX (n:=2) (k:=1) (cQ (dH rd)
   (cQ (IY (cl:=clM mg) (M8 (bf<|aD qz aa aN)
   (xP<|rE<|ma1 aa)
   (xP<|rE<|ma1 aa)) (fun c s h => by
      unfold h8 at h;split at h
      ·rename_i z;subst z;cases h;try rw[zU I.kM]
       exact⟨_,rfl,I.Kt,I.h_Empty_Empty⟩
      ·
       cases h) (λc s h ea=>by
      unfold h8 at h;split at h
      ·rename_i z;subst z;cases h;try rw[zU I.kM]
       exact(dH rd)
      ·
       cases h))
   (d8 aa))) rfl h⟩
theorem tX(Z:fq mg)(T:Top K mg "most_below" kH) :Def P w K mg base CX0 1 "most_below" ["n"] (spM eV):=by
 refine T.def cV (λvs H Q E h=>d3 h) (by walk_at "Qb") λf cdv A outer s H vs Q E a h=>?_
 have b:=a.units;exact⟨_,(af (cx 1 cV.nd aF)
   (af (cx 2 cV.nd aF)
   (af (cx 3 cV.nd aF)
   (af (nD PassesOwn.never (cA Oj (pv 3) (pv 0)<|cI _)
   (af (cx 4 cV.nd<|i5 K (pv 2)<|pv 3)
   (af (cx 2 cV.nd<|pv 3)
   (af (cx 3 cV.nd<|pv 4)
   (aC<|LS (i:=1) cV.nd rfl (by walk_at "l") aF LU)))))
   (aC<|br<|pv 1))))),
   fX (n:=1) (k:=4) (cQ (dH aN)
   (cQ (dH aN)
   (cQ (dH aN)
   (cQ (xD (bf<|aD tG aa aa)
   (cQ (dH<|aD d9 aa aa)
   (cQ (dH aa)
   (cQ (dH aa)
   (MH aN)))))
   (d8 aa))))) rfl h⟩
theorem wI(Z:fq mg)(T:Top K mg "_law_taken" lT)(O:Def P w K mg base CX0 1 "most_below" ["n"]<|spM eV)(U:Def P w K mg base CX0 5 "take_least" ["pile"]<|spQ iq)(M:Def P w K mg base CX0 4 "least_name" ["pile"]<|spM eS)(I:Def P w K mg base CX0 3 "_law_refused" ["_law_pile","_law_way"]<|spM dO):Def P w K mg base CX0 6 "_law_taken" ["_law_state","_law_plain"] (spQ du):=by
 have c:mg "len"=none:=Z _ (by decide+kernel)
 have g:mg "bool"=none:=Z _ (by decide+kernel)
 have e:mg "isinstance"=none:=Z _ (by decide+kernel)
 have d:mg "min"=none:=Z _ (by decide+kernel)
 refine T.def gm (λvs H Q E h=>eR h) (by walk_at "Qb") λf cdv A outer s H vs Q E a h=>?_
 have b:=a.units;exact⟨_,(af (cY (cA (vP<|Nat.lt_of_le_of_lt (Nat.le_add_right _ _) b) (pv 1) g7<|cI _)
   (aC<|br<|zy (pd I a<|ax (pix K<|pv 0)<|pa1 aF)<|zx<|pd I a<|ax (pix K<|pv 0)<|pa1 aF)
   bF)
   (af (fJ (bw (DH (K:=K) rfl rfl<|hv1 b) rfl d PyProof.Rows.boot_min<|pa1<|BP<|qY (fr:=[("_law_plain",1)]) rfl ⟨rfl,rfl,rfl,rfl,rfl,rfl,by decide+kernel⟩ (qK<|pv 1) (λ_ _ _ _=>nG) λ_ _ _ _=>(cu<|ax (pdg b (pv 1)<|pv 0)<|pa1<|pv 0))<|Ip rfl<|w9 (pgn 2 gm.nd)<|w9 (pgn 3 gm.nd) HP)
   (af (cx 4 gm.nd<|pd M a<|pa1<|pix K<|pv 0)
   (af (cx 5 gm.nd<|pd U a<|pa1<|pix K<|pv 0)
   (af (cY (PW.pt<|mI (pne K b (pv 4)<|pv 3)<|mI (pne K b (pix K<|pv 5)<|pv 3)<|mI (pne K b (pix K<|pv 5)<|pv 2)<|mS<|iI<|bw q0 rfl e zaB<|ax (pix K<|pv 5)<|pa1<|EZ g PyProof.Rows.boot_bool)
   (aC<|br fu)
   bF)
   (af (fJ (i5 K (pix K<|pv 0)<|bL nJ aF<|pd O a<|pa1<|bw gz rfl c zaE<|pa1<|pv 1)<|fQ (pv 0) aF set_list)
   (af (eL<|j6 (K:=K) rfl PySem.F.plainAttrs_dict PySem.F.slot_dict_pop PySem.F.type_dict_pop qL (pv 1)<|pa1<|pv 3)
   (af (fJ (pix K<|pv 5)<|fQ (pv 0) aF set_list)
   (af (fJ (i5 K (pix K<|pv 0)<|bw (cF (K:=K) rfl) rfl c zaE<|pa1<|pix K<|pv 5)<|fQ (pv 0) aF set_list)
   (aC<|br fu)))))))))),
   eQ (n:=2) (k:=4) (aJ (fN (mZ<|bf<|aD Ad aa jb)
   (cD<|BB (iR<|ak (nix aj)<|ak nli aM)<|iR<|ak (nix aj)<|ak nli aM)
   dh)
   (aJ (aX (cW<|cU Nn<|ma1<|z9 nV rf<|jY<|bD (aD dM aa aa)<|ma1 aa)<|Jg<|xZ<|xZ Jf)
   (aJ (aX (iR<|ak (nix aj) aM) aU)
   (aJ (aX (bP<|ak (nix aj) aM) aU)
   (aJ (fN (mZ<|qf (bf<|aD zL aa aa)<|qf (bf<|aD zL (mix aa) aa)<|qf (bf<|aD zL (mix aa) aa)<|uj<|Ft<|mix aa)
   (cD<|eC λ_=>.bl _)
   dh)
   (aJ (aX (ja d9 (nix aj)<|cW<|aD xE aN<|df<|ma1<|cU m4<|ma1 aa)<|f6 aj nli)
   (aJ (fD<|qM aj<|ak aj aM)
   (aJ (aX (nix aj)<|f6 aj nli)
   (aJ (aX (ja d9 (nix aj)<|cW<|cU i9<|ma1<|mix aa)<|f6 aj nli)
   (cD<|eC λ_=>.bl _)))))))))) rfl h⟩
theorem AI(Z:fq mg)(T:Top K mg "no_pile" pW) :Def P w K mg base CX0 1 "no_pile" [] (spQ gC):=by
 refine T.def AE (λvs H Q E h=>eR h) (by walk_at "Qb") λf cdv A outer s H vs Q E a h=>?_
 have b:=a.units;exact⟨_,(aC<|br<|cu<|ax (iJ mU)<|pa1 g7),
   eQ (n:=0) (k:=0) (cD<|eD<|ak (lx aM)<|ak (cW jb) aM) rfl h⟩
theorem sV(Z:fq mg)(T:Top K mg "pour_piles" kI) :Def P w K mg base CX0 1 "pour_piles" ["one","other"] (spD ir):=by
 have c:mg "dict"=none:=Z _ (by decide+kernel)
 refine T.def jt (λvs H Q E h=>Bv h) (by walk_at "Qb") λf cdv A outer s H vs Q E b h=>?_
 have a:=b.units;exact⟨_,(af (cx 2 jt.nd<|eM gA rfl c PyProof.Rows.boot_dict<|pa1<|pix K<|pv 0)
   (af (BO (oT PassesOwn.never rfl (qK<|pix K<|pv 1) (pgn 3 jt.nd)
   (af (cY (u5<|vH (hv1 a) (pv 3)<|pv 2)
   (aC fP)
   bF)
   (aC<|fE (hv1 a) (pv 2) (pv 3) (pdg a (pix K<|pv 1)<|pv 3) rfl))))
   (aC<|br<|cu<|ax (i5 K (pix K<|pv 0)<|pix K<|pv 1)<|pa1<|pv 2))),
   Bu (n:=2) (k:=2) (pz (dH<|cU mi<|ma1<|mix aa)
   (pz (Jw (BN (j:=1) nV) ID
   (cQ (mL (bf<|aD BH aa aa)
   gZ
   fU)
   (BJ (i:=2) (aD dM (mix aa) aa) aa)))
   (BU (j:=2)<|aD d9 (mix aa)<|mix aa))) rfl h⟩
theorem zi(Z:fq mg)(T:Top K mg "_law_pour" ng)(I:Def P w K mg base CX0 1 "no_pile" []<|spQ gC)(M:Def P w K mg base CX0 1 "pour_piles" ["one","other"]<|spD ir):Def P w K mg base CX0 2 "_law_pour" ["_law_states","_law_plains"] (spQ iS):=by
 refine T.def ze (λvs H Q E h=>eR h) (by walk_at "Qb") λf cdv A outer s H vs Q E a h=>?_
 have b:=a.units;exact⟨_,(af (fJ (vm M (a.mono (by lia))<|ax (pix K<|pix K<|pv 0)<|pa1<|pix K<|pix K<|pv 0)<|fQ (pix K<|pv 0) aF set_list)
   (af (fJ (vn I<|a.mono (by lia))<|fQ (pix K<|pv 0) aF set_list)
   (af (eL<|j6 (K:=K) rfl PySem.F.plainAttrs_dict PySem.F.slot_dict_update PySem.F.type_dict_update JG (pix K<|pv 1)<|pa1<|pix K<|pv 1)
   (aC<|eL<|IM (K:=K) rfl PySem.F.plainAttrs_dict PySem.F.slot_dict_clear PySem.F.type_dict_clear DE<|pix K<|pv 1)))),
   eQ (n:=2) (k:=0) (aJ (aX (yp<|ak (nix<|nix aj)<|ak (nix<|nix aj) aM)<|f6 (nix aj) nli)
   (aJ (aX (bP aM)<|f6 (nix aj) nli)
   (aJ (fD<|JH (nix aj)<|ak (nix aj) aM)
   (fD<|Jz<|nix aj)))) rfl h⟩
theorem sW(Z:fq mg)(T:Top K mg "pile_credit" ju) :Def P w K mg base CX0 1 "pile_credit" ["pile"] (spM fy):=by
 have a:mg "len"=none:=Z _ (by decide+kernel)
 refine T.def lU (λvs H Q E h=>d3 h) (by walk_at "Qb") λf cdv A outer s H vs Q E b h=>?_
 have c:=b.units;exact⟨_,(af (BO<|xm (i0:=1) (fr:=[("pile",0)]) rfl lU.nd rfl (by walk_at "l") ⟨rfl,rfl,rfl,rfl,rfl,rfl,by decide+kernel⟩ (qK<|pix K<|pv 0) (λ_ _ _ _=>(qD<|iI<|pix K<|pdg c (pix K<|pv 1)<|pv 0)) λ_ _ _ _=>(pv 0))
   (aC<|br<|i5 K (bw (cF (K:=K) rfl) rfl a zaE<|pa1<|pix K<|pv 0)<|bL nJ aF<|bw (cF (K:=K) rfl) rfl a zaE<|pa1<|pv 1)),
   fX (n:=1) (k:=1) (cQ (dH<|z9 (BN (j:=1) nV) (uj<|mix<|aD dM (mix aa) aa) aa)
   (d8<|aD d9 (cU i9<|ma1<|mix aa)<|aD xE aN<|cU i9<|ma1 aa)) rfl h⟩
theorem oM(Z:fq mg)(T:Top K mg "_law_same_names" gF) :Def P w K mg base CX0 1 "_law_same_names" ["_law_pile","_law_plain"] (spM bO):=by
 have c:mg "all"=none:=Z _ (by decide+kernel)
 have b:mg "len"=none:=Z _ (by decide+kernel)
 refine T.def jl (λvs H Q E h=>d3 h) (by walk_at "Qb") λf cdv A outer s H vs Q E d h=>?_
 have a:=d.units;exact⟨_,(af (cx 2 jl.nd<|pix K<|pv 0)
   (af (cY (PW.pt<|mI (pne K a (bw gz rfl b zaE<|pa1<|pv 2)<|bw gz rfl b zaE<|pa1<|pv 1)<|mS<|cA xf (bw (cF (K:=K) rfl) rfl b zaE<|pa1<|pix K<|pv 0) (bw gz rfl b zaE<|pa1<|pv 1)<|cI _)
   (aC<|br fu)
   bF)
   (aC<|br<|bw (um (K:=K) rfl rfl) rfl c PyProof.Rows.boot_all<|pa1<|BP<|qY (fr:=[("_law_found",2),("_law_plain",1)]) rfl ⟨rfl,rfl,rfl,rfl,rfl,rfl,by decide+kernel⟩ (qK<|pv 1) (λ_ _ _ _=>nG) λ_ _ _ _=>(zy (LN<|vH (hv1 a) (pv 0)<|pv 1)<|zx<|vb (vz (K:=K) rfl a) (pix K<|pdg a (pv 1)<|pv 0) (pdg a (pv 2)<|pv 0)<|cI _)))),
   fX (n:=2) (k:=1) (cQ (dH<|mix aa)
   (cQ (mL (qf (bf<|aD zL (cU m4<|ma1 aa)<|cU m4<|ma1 aa)<|bf<|aD tG (cU i9<|ma1<|mix aa)<|cU m4<|ma1 aa)
   (d8 rd)
   fU)
   (d8<|cU KG<|ma1<|z9 nV rf<|Iw (aD BH aa aa)<|aD qz (mix<|aD dM aa aa)<|aD dM aa aa))) rfl h⟩
theorem tY(Z:fq mg)(T:Top K mg "hold_there" kJ) :Def P w K mg base CX0 1 "hold_there" ["pile","name"] (spM dw):=by
 refine T.def tS (λvs H Q E h=>d3 h) (by walk_at "Qb") λf cdv A outer s H vs Q E a h=>?_
 have b:=a.units;exact⟨_,(aC (cY (u5<|DA (hv1 b) (pv 1)<|pix K<|pv 0)
   (aC fP)
   bF)),
   fX (n:=2) (k:=0) (mL (bf<|aD Ge aa<|mix aa)
   gZ
   fU) rfl h⟩
theorem qC(Z:fq mg)(T:Top K mg "names_to_cut" iZ) :Def P w K mg base CX0 1 "names_to_cut" ["held","name"] (spM gh):=by
 refine T.def fH (λvs H Q E h=>d3 h) (by walk_at "Qb") λf cdv A outer s H vs Q E b h=>?_
 have a:=b.units;exact⟨_,(af (cx 2 fH.nd<|iJ<|pa1<|pv 1)
   (af (cx 3 fH.nd<|pix K<|pdg a (pv 0)<|pv 1)
   (af (nD PassesOwn.never (iI<|pix K<|pdg a (pv 0)<|pv 3)
   (af (eL<|j6 (K:=K) rfl zaJ zaV zaU ma (pv 2)<|pa1<|pv 3)
   (aC<|cx 3 fH.nd<|pix K<|pdg a (pv 0)<|pv 3)))
   (aC<|br<|pv 2)))),
   fX (n:=2) (k:=2) (cQ (dH<|zI<|ma1 aa)
   (cQ (dH<|mix<|aD dM aa aa)
   (cQ (xD (uj<|mix<|aD dM aa aa)
   (cQ (Bg<|MC Fu<|ma1 aa)
   (dH<|mix<|aD dM aa aa)))
   (d8 aa)))) rfl h⟩
theorem AJ(Z:fq mg)(T:Top K mg "without" pX) :Def P w K mg base CX0 1 "without" ["row","name"] (spM mn):=by
 have a:mg "tuple"=none:=Z _ (by decide+kernel)
 refine T.def AF (λvs H Q E h=>d3 h) (by walk_at "Qb") λf cdv A outer s H vs Q E b h=>?_
 have c:=b.units;exact⟨_,(aC<|br<|cu<|ax (pix K<|pv 0)<|ax (pix K<|pv 0)<|ax (pix K<|pv 0)<|pa1<|eM (yi (K:=K) rfl) rfl a PyProof.Rows.boot_tuple<|pa1<|qY (fr:=[("name",1)]) rfl ⟨rfl,rfl,rfl,rfl,rfl,rfl,by decide+kernel⟩ (Bj (K:=K) rfl<|pix K<|pv 0) (λ_ _ _ _=>(qD<|pne K c (pv 0)<|pv 1)) λ_ _ _ _=>(pv 0)),
   fX (n:=2) (k:=0) (d8<|jY<|bD (mix aa)<|bD (mix aa)<|bD (mix aa)<|ma1<|cU Jx<|ma1<|xA (Mw<|mix aa) (bf<|aD zL aa aa) aa) rfl h⟩
theorem wK(Z:fq mg)(T:Top K mg "with_mark" lV) :Def P w K mg base CX0 1 "with_mark" ["row"] (spM je):=by
 refine T.def wG (λvs H Q E h=>d3 h) (by walk_at "Qb") λf cdv A outer s H vs Q E a h=>?_
 have b:=a.units;exact⟨_,(aC<|br<|cu<|ax (pix K<|pv 0)<|ax (pix K<|pv 0)<|ax fu<|pa1<|pix K<|pv 0),
   fX (n:=1) (k:=0) (d8<|jY<|bD (mix aa)<|bD (mix aa)<|bD rd<|ma1<|mix aa) rfl h⟩
theorem AM(Z:fq mg)(T:Top K mg "cut_off" pY)(O:Def P w K mg base CX0 1 "with_mark" ["row"]<|spM je)(M:Def P w K mg base CX0 1 "as_top" ["row"]<|spM jI)(U:Def P w K mg base CX0 1 "without" ["row","name"]<|spM mn)(I:Def P w K mg base CX0 1 "names_to_cut" ["held","name"]<|spM gh):Def P w K mg base CX0 2 "cut_off" ["pile","name"] (spQ iB):=by
 have c:mg "dict"=none:=Z _ (by decide+kernel)
 refine T.def gG (λvs H Q E h=>eR h) (by walk_at "Qb") λf cdv A outer s H vs Q E b h=>?_
 have a:=b.units;exact⟨_,(af (cx 2 gG.nd<|eM gA rfl c PyProof.Rows.boot_dict<|pa1<|pix K<|pv 0)
   (af (cx 3 gG.nd<|pd I b<|ax (pv 2)<|pa1<|pv 1)
   (af (cx 4 gG.nd<|pix K<|pdg a (pv 2)<|mJ (gL (K:=K) rfl) (pv 3) (Oh L4 aF) λ_ _=>rfl)
   (af (oT PassesOwn.never rfl (jC (K:=K) rfl<|pv 3) (pgn 5 gG.nd)
   (af (cx 6 gG.nd<|pix K<|pdg a (pv 2)<|pv 5)
   (af (fE (hv1 a) (pv 2) (pv 6) (pd U b<|ax (pdg a (pv 2)<|pv 6)<|pa1<|pv 5) rfl)
   (aC<|fE (hv1 a) (pv 2) (pv 5) (pd M b<|pa1<|pdg a (pv 2)<|pv 5) rfl))))
   (af (cY (cA HU (pix K<|pdg a (pv 2)<|pv 4) oR<|cI _)
   (aC<|fE (hv1 a) (pv 2) (pv 4) (pd O b<|pa1<|pdg a (pv 2)<|pv 4) rfl)
   bF)
   (aC<|br<|cu<|ax (cu<|ax (i5 K (pix K<|pv 0)<|pv 3)<|pa1<|pv 2)<|pa1<|qY (fr:=[]) rfl ⟨rfl,rfl,rfl,rfl,rfl,rfl,by decide+kernel⟩ (jC (K:=K) rfl<|pv 3) (λ_ _ _ _=>nG) λ_ _ _ _=>(cu<|ax gu<|pa1<|pv 0))))))),
   eQ (n:=2) (k:=5) (aJ (aX (cW<|cU mi<|ma1<|mix aa) aU)
   (aJ (aX (cW<|df<|bD aa<|ma1 aa) aU)
   (aJ (aX (nix<|cW<|aD dM aa<|aD IJ aa<|OC OL aN) aU)
   (aJ (vG aj aU
   (aJ (aX (nix<|cW<|aD dM aa aa) aU)
   (aJ (gM aj aj<|cW<|df<|bD (aD dM aa aa)<|ma1 aa)
   (gM aj aj<|cW<|df<|ma1<|aD dM aa aa))))
   (aJ (fN (mZ<|bf<|aD II (mix<|aD dM aa aa) oY)
   (gM aj aj<|cW<|df<|ma1<|aD dM aa aa)
   dh)
   (cD<|eD<|ak (eD<|ak (cW<|aD d9 (mix aa) aa)<|ak aj aM)<|ak (cW<|xA (vy aa) rf<|jY<|bD iM<|ma1 aa) aM)))))) rfl h⟩
theorem AN(Z:fq mg)(T:Top K mg "put_out" pZ)(I:Def P w K mg base CX0 3 "take_top" ["pile","name"]<|spQ fK)(O:Def P w K mg base CX0 2 "cut_off" ["pile","name"]<|spQ iB)(M:Def P w K mg base CX0 1 "hold_there" ["pile","name"]<|spM dw):Def P w K mg base CX0 4 "put_out" ["pile","name"] (spQ mq):=by
 refine T.def nh (λvs H Q E h=>eR h) (by walk_at "Qb") λf cdv A outer s H vs Q E a h=>?_
 have b:=a.units;exact⟨_,(af (eL<|pd M a<|ax (pv 0)<|pa1<|pv 1)
   (af (cY (cA zE (pix K<|pdg b (pix K<|pv 0)<|pv 1) oR<|cI _)
   (aC<|br<|pd I a<|ax (pv 0)<|pa1<|pv 1)
   bF)
   (af (cx 2 nh.nd<|pd O a<|ax (pv 0)<|pa1<|pv 1)
   (af (cx 3 nh.nd<|pd I a<|ax (pix K<|pv 2)<|pa1<|pv 1)
   (aC<|br<|cu<|ax (pix K<|pv 3)<|ax (pix K<|pv 3)<|pa1<|i5 K (pix K<|pv 2)<|pix K<|pv 3))))),
   eQ (n:=2) (k:=2) (aJ (fD<|cW<|df<|bD aa<|ma1 aa)
   (aJ (fN (mZ<|bf<|aD ML (mix<|aD dM (mix aa) aa) oY)
   (cD<|bP<|ak aj<|ak aj aM)
   dh)
   (aJ (aX (bP<|ak aj<|ak aj aM) aU)
   (aJ (aX (bP<|ak (nix aj)<|ak aj aM) aU)
   (cD<|eD<|ak (nix aj)<|ak (nix aj)<|ak (cW<|aD d9 (mix aa)<|mix aa) aM))))) rfl h⟩
theorem wL(Z:fq mg)(T:Top K mg "make_less" lW)(O:Def P w K mg base CX0 2 "cut_off" ["pile","name"]<|spQ iB)(I:Def P w K mg base CX0 1 "standing" ["held","name"]<|spM bR)(M:Def P w K mg base CX0 1 "hold_there" ["pile","name"]<|spM dw):Def P w K mg base CX0 3 "make_less" ["pile","name","key"] (spQ eF):=by
 have c:mg "list"=none:=Z _ (by decide+kernel)
 have d:mg "dict"=none:=Z _ (by decide+kernel)
 refine T.def kK (λvs H Q E h=>eR h) (by walk_at "Qb") λf cdv A outer s H vs Q E a h=>?_
 have b:=a.units;exact⟨_,(af (eL<|pd M a<|ax (pv 0)<|pa1<|pv 1)
   (af (cx 3 kK.nd<|pdg b (pix K<|pv 0)<|pv 1)
   (af (cY (cA Ol (pv 2) (pix K<|pv 3)<|cI _)
   (aC fP)
   bF)
   (af (cx 4 kK.nd<|eM gA rfl d PyProof.Rows.boot_dict<|pa1<|pix K<|pv 0)
   (af (fE (hv1 b) (pv 4) (pv 1) (cu<|ax (pv 2)<|ax (pix K<|pv 3)<|ax (pix K<|pv 3)<|pa1<|pix K<|pv 3) rfl)
   (af (cY (PW.pt<|mI (cA zE (pix K<|pv 3) oR<|cI _)<|mS<|cA (Nm (K:=K) rfl<|Nat.lt_of_le_of_lt (Nat.le_add_right _ _) b) (pd I a<|ax (pv 4)<|pa1<|pv 1) (pd I a<|ax (pv 4)<|pa1<|pix K<|pv 3)<|cI _)
   (aC<|br<|cu<|ax (cu<|ax (eM (zM (K:=K) rfl) rfl c PyProof.Rows.boot_list<|pa1<|pix K<|pv 0)<|pa1<|pv 4)<|pa1<|iJ mU)
   bF)
   (aC<|br<|pd O a<|ax (cu<|ax (pix K<|pv 0)<|pa1<|pv 4)<|pa1<|pv 1))))))),
   eQ (n:=3) (k:=2) (aJ (fD<|cW<|df<|bD aa<|ma1 aa)
   (aJ (aX (cW<|aD dM (mix aa) aa) aU)
   (aJ (fN (mZ<|bf<|aD tG aa<|mix aa)
   FX
   dh)
   (aJ (aX (cW<|cU mi<|ma1<|mix aa) aU)
   (aJ (gM aj aj<|eD<|ak aj<|ak (nix aj)<|ak (nix aj)<|ak (nix aj) aM)
   (aJ (fN (mZ<|qf (bf<|aD ML (mix aa) oY)<|bf<|aD Ph (df<|bD aa<|ma1 aa)<|df<|bD aa<|ma1<|mix aa)
   (cD<|eD<|ak (eD<|ak (cW<|cU MM<|ma1<|mix aa)<|ak aj aM)<|ak (lx aM) aM)
   dh)
   (cD<|bP<|ak (eD<|ak (nix aj)<|ak aj aM)<|ak aj aM))))))) rfl h⟩
theorem sX(Z:fq mg)(T:Top K mg "_law_changed" jv)(O:Def P w K mg base CX0 4 "put_out" ["pile","name"]<|spQ mq)(I:Def P w K mg base CX0 1 "most_below" ["n"]<|spM eV)(M:Def P w K mg base CX0 3 "make_less" ["pile","name","key"]<|spQ eF):Def P w K mg base CX0 5 "_law_changed" ["_law_state","_law_plain","_law_way","_law_number"] (spQ dP):=by
 have a:mg "len"=none:=Z _ (by decide+kernel)
 have e:mg "bool"=none:=Z _ (by decide+kernel)
 have d:mg "isinstance"=none:=Z _ (by decide+kernel)
 have g:mg "sorted"=none:=Z _ (by decide+kernel)
 refine T.def dc (λvs H Q E h=>eR h) (by walk_at "Qb") λf cdv A outer s H vs Q E b h=>?_
 have c:=b.units;exact⟨_,(af (cx 4 dc.nd<|bw (vT rfl) rfl g PyProof.Rows.boot_sorted<|pa1<|pv 1)
   (af (cx 5 dc.nd<|mJ (gL (K:=K) rfl) (pv 4) (bL dB (pv 3)<|bw (cF (K:=K) rfl) rfl a zaE<|pa1<|pv 4) λ_ _=>rfl)
   (af (cY (peq K c (pv 2) aF)
   (af (cx 6 dc.nd<|bL oU (bL oU (pdg c (pv 1)<|pv 5) aF)<|bL dB (bL gJ (pv 3) aF)<|bL zD aF aF)
   (af (cx 7 dc.nd<|pd M b<|ax (pix K<|pv 0)<|ax (pv 5)<|pa1<|pv 6)
   (af (fE (hv1 c) (pv 1) (pv 5) (pv 6) rfl)
   (af (fJ (pix K<|pv 7)<|fQ (pv 0) aF set_list)
   (af (fJ (i5 K (pix K<|pv 0)<|bw (cF (K:=K) rfl) rfl a zaE<|pa1<|pix K<|pv 7)<|fQ (pv 0) aF set_list)
   (af (fJ (i5 K (pix K<|pv 0) aF)<|fQ (pv 0) aF set_list)
   (aC<|br fu)))))))
   bF)
   (af (cx 8 dc.nd<|i5 K aF<|bL nJ aF<|pd I b<|pa1<|bw gz rfl a zaE<|pa1<|pv 1)
   (af (cx 7 dc.nd<|pd O b<|ax (pix K<|pv 0)<|pa1<|pv 5)
   (af (cY (PW.pt<|mI (pne K c (pix K<|pv 7)<|j6 (K:=K) rfl PySem.F.plainAttrs_dict PySem.F.slot_dict_pop PySem.F.type_dict_pop qL (pv 1)<|pa1<|pv 5)<|mS<|iI<|bw q0 rfl d zaB<|ax (pix K<|pv 7)<|pa1<|EZ e PyProof.Rows.boot_bool)
   (aC<|br fu)
   bF)
   (af (fJ (pix K<|pv 7)<|fQ (pv 0) aF set_list)
   (af (fJ (i5 K (pix K<|pv 0)<|bw (cF (K:=K) rfl) rfl a zaE<|pa1<|pix K<|pv 7)<|fQ (pv 0) aF set_list)
   (af (fJ (i5 K (pix K<|pv 0)<|pv 8)<|fQ (pv 0) aF set_list)
   (aC<|br fu)))))))))),
   eQ (n:=4) (k:=5) (aJ (aX (cW<|cU DQ<|ma1 aa) aU)
   (aJ (aX (ux aj<|cW<|aD J_I aa<|cU i9<|ma1 aa) aU)
   (aJ (fN (mZ<|bf<|aD qz aa aN)
   (aJ (aX (cW<|aD Dc (aD Dc (aD dM aa aa) aN)<|aD J_I (aD J_I aa aN)<|aD J_I aN aN) aU)
   (aJ (aX (bP<|ak (nix aj)<|ak aj<|ak aj aM) aU)
   (aJ (gM aj aj aj)
   (aJ (aX (nix aj)<|f6 aj nli)
   (aJ (aX (ja d9 (nix aj)<|cW<|cU i9<|ma1<|mix aa)<|f6 aj nli)
   (aJ (aX (ja d9 (nix aj) nli)<|f6 aj nli)
   (cD<|eC λ_=>.bl _)))))))
   dh)
   (aJ (aX (cW<|aD d9 aN<|aD xE aN<|df<|ma1<|cU m4<|ma1 aa) aU)
   (aJ (aX (bP<|ak (nix aj)<|ak aj aM) aU)
   (aJ (fN (KL (mf<|ja zL (nix aj)<|qM aj<|ak aj aM)<|mZ<|uj<|Ft<|mix aa)
   (cD<|eC λ_=>.bl _)
   dh)
   (aJ (aX (nix aj)<|f6 aj nli)
   (aJ (aX (ja d9 (nix aj)<|cW<|cU i9<|ma1<|mix aa)<|f6 aj nli)
   (aJ (aX (ja d9 (nix aj) aj)<|f6 aj nli)
   (cD<|eC λ_=>.bl _)))))))))) rfl h⟩
theorem sY(Z:fq mg)(T:Top K mg "_law_name_by" jw) :Def P w K mg base CX0 1 "_law_name_by" ["_law_k"] (spM gQ):=by
 refine T.def gp (λvs H Q E h=>d3 h) (by walk_at "Qb") λf cdv A outer s H vs Q E a h=>?_
 have b:=a.units;exact⟨_,(af (cx 1 gp.nd gu)
   (af (cx 2 gp.nd<|i5 K (mJ (gL (K:=K) rfl) (pv 1) (bL dB (bL gJ (pv 0) aF) aF) λ_ _=>rfl)<|mJ (gL (K:=K) rfl) (pv 1) (bL dB (bL gJ (pv 0) aF) aF) λ_ _=>rfl)
   (af (cY (peq K b (bL dB (pv 0) aF) aF)
   (aC<|cx 2 gp.nd<|i5 K (pv 2)<|mJ (gL (K:=K) rfl) (iJ<|ax gu<|ax gu<|ax gu<|ax gu<|ax gu<|pa1 gu) (bL dB (bL gJ (pv 0) aF) aF) λ_ _=>rfl)
   bF)
   (aC<|br<|pv 2)))),
   fX (n:=1) (k:=2) (cQ (dH iM)
   (cQ (dH<|aD d9 (aD KY aa<|aD J_I (aD J_I aa aN) aN)<|aD KY aa<|aD J_I (aD J_I aa aN) aN)
   (cQ (mL (bf<|aD qz (aD J_I aa aN) aN)
   (dH<|aD d9 aa<|aD IJ (zI<|bD iM<|bD iM<|bD iM<|bD iM<|bD iM<|ma1 iM)<|aD J_I (aD J_I aa aN) aN)
   fU)
   (d8 aa)))) rfl h⟩
theorem tZ(Z:fq mg)(T:Top K mg "_law_key_by" kL) :Def P w K mg base CX0 1 "_law_key_by" ["_law_number"] (spM gi):=by
 refine T.def tT (λvs H Q E h=>d3 h) (by walk_at "Qb") λf cdv A outer s H vs Q E b h=>?_
 have a:=b.units;exact⟨_,(af (cY (peq K a (bL dB (pv 0) aF) aF)
   (aC<|br<|bL oU (bL dB (bL gJ (pv 0) aF) aF) aF)
   bF)
   (af (cY (peq K a (bL dB (pv 0) aF) aF)
   (aC<|br<|bL oU (bL dB (bL gJ (pv 0) aF) aF) aF)
   bF)
   (aC<|br<|bL oU (bL dB (bL gJ (pv 0) aF)<|i5 K (bL nJ aF<|bL zD aF aF) aF)<|bL zD aF aF))),
   fX (n:=1) (k:=0) (cQ (mL (bf<|aD qz (aD J_I aa aN) aN)
   (d8<|aD Dc (aD J_I (aD J_I aa aN) aN) aN)
   fU)
   (cQ (mL (bf<|aD qz (aD J_I aa aN) aN)
   (d8<|aD Dc (aD J_I (aD J_I aa aN) aN) aN)
   fU)
   (d8<|aD Dc (aD J_I (aD J_I aa aN)<|aD d9 (aD xE aN<|aD J_I aN aN) aN)<|aD J_I aN aN))) rfl h⟩
theorem AO(Z:fq mg)(T:Top K mg "is_name" p0) :Def P w K mg base CX0 1 "is_name" ["value"] (spM iC):=by
 have b:mg "all"=none:=Z _ (by decide+kernel)
 have a:mg "len"=none:=Z _ (by decide+kernel)
 have c:mg "str"=none:=Z _ (by decide+kernel)
 have d:mg "isinstance"=none:=Z _ (by decide+kernel)
 refine T.def AG (λvs H Q E h=>d3 h) (by walk_at "Qb") λf cdv A outer s H vs Q E e h=>?_
 have g:=e.units;exact⟨_,(af (cY (PW.pt<|mI (mT<|iI<|bw DF rfl d zaB<|ax (pv 0)<|pa1<|EZ c PyProof.Rows.boot_str)<|mI (cA EE (bw (cF (K:=K) rfl) rfl a zaE<|pa1<|pv 0) aF<|cI _)<|mS<|cA xf (bw (cF (K:=K) rfl) rfl a zaE<|pa1<|pv 0) aF<|cI _)
   (aC<|br fu)
   bF)
   (aC<|br<|bw (um (K:=K) rfl rfl) rfl b PyProof.Rows.boot_all<|pa1<|qY (fr:=[]) rfl ⟨rfl,rfl,rfl,rfl,rfl,rfl,by decide+kernel⟩ (Np<|pv 0) (λ_ _ _ _=>nG) λ_ _ _ _=>(EG GB GB gu (pv 0) gu))),
   fX (n:=1) (k:=0) (cQ (mL (qf (Fc<|uj<|JA aa)<|qf (bf<|aD tG (cU i9<|ma1 aa) aN)<|bf<|aD tG (cU i9<|ma1 aa) aN)
   (d8 rd)
   fU)
   (d8<|cU KG<|ma1<|xA (Nt aa) rf<|Fw K9 K9 iM aa iM λ_ _ _ _ _ k h=>DJ h k)) rfl h⟩
theorem wM(Z:fq mg)(T:Top K mg "pile_put" nj)(I:Def P w K mg base CX0 1 "is_name" ["value"]<|spM iC):Def P w K mg base CX0 2 "pile_put" ["pile","name","key"] (spD kq):=by
 have c:mg "dict"=none:=Z _ (by decide+kernel)
 refine T.def qu (λvs H Q E h=>Bv h) (by walk_at "Qb") λf cdv A outer s H vs Q E a h=>?_
 have b:=a.units;exact⟨_,(af (cY (mT<|iI<|pd I a<|pa1<|pv 1)
   (aC fP)
   bF)
   (af (cY (u5<|vH (hv1 b) (pv 1)<|pix K<|pv 0)
   (aC fP)
   bF)
   (af (cx 3 qu.nd<|eM gA rfl c PyProof.Rows.boot_dict<|pa1<|pix K<|pv 0)
   (af (fE (hv1 b) (pv 3) (pv 1) (cu<|ax (pv 2)<|ax oR<|ax fu<|pa1<|cu mU) rfl)
   (aC<|br<|cu<|ax (i5 K (pix K<|pv 0)<|iJ<|pa1<|pv 1)<|pa1<|pv 3))))),
   Bu (n:=3) (k:=1) (pz (mL (Fc<|uj<|df<|ma1 aa)
   gZ
   fU)
   (pz (mL (bf<|aD BH aa<|mix aa)
   gZ
   fU)
   (pz (dH<|cU mi<|ma1<|mix aa)
   (pz (BJ (i:=3) (jY<|bD aa<|bD oY<|bD rd<|ma1<|jY Fd) aa)
   (BU (j:=3)<|aD d9 (mix aa)<|zI<|ma1 aa))))) rfl h⟩
theorem AQ(Z:fq mg)(T:Top K mg "_law_put" p8)(M:Def P w K mg base CX0 1 "_law_key_by" ["_law_number"]<|spM gi)(I:Def P w K mg base CX0 1 "_law_name_by" ["_law_k"]<|spM gQ)(O:Def P w K mg base CX0 2 "pile_put" ["pile","name","key"]<|spD kq):Def P w K mg base CX0 3 "_law_put" ["_law_state","_law_plain","_law_number"] (spQ jL):=by
 refine T.def nq (λvs H Q E h=>eR h) (by walk_at "Qb") λf cdv A outer s H vs Q E a h=>?_
 have b:=a.units;exact⟨_,(af (cx 3 nq.nd<|pd I a<|pa1<|pix K<|pv 0)
   (af (fJ (i5 K (pix K<|pv 0) aF)<|fQ (pv 0) aF set_list)
   (af (cx 4 nq.nd<|pd M a<|pa1<|pv 2)
   (af (fE (hv1 b) (pv 1) (pv 3) (pv 4) rfl)
   (af (fJ (vm O (a.mono (by lia))<|ax (pix K<|pv 0)<|ax (pv 3)<|pa1<|pv 4)<|fQ (pv 0) aF set_list)
   (aC<|fJ (i5 K (pix K<|pv 0) aF)<|fQ (pv 0) aF set_list)))))),
   eQ (n:=3) (k:=2) (aJ (aX (iR<|ak (nix aj) aM) aU)
   (aJ (aX (ja d9 (nix aj) nli)<|f6 aj nli)
   (aJ (aX (cW<|df<|ma1 aa) aU)
   (aJ (gM aj aj aj)
   (aJ (aX (yp<|ak (nix aj)<|ak aj<|ak aj aM)<|f6 aj nli)
   (aX (ja d9 (nix aj) nli)<|f6 aj nli)))))) rfl h⟩
theorem zk(Z:fq mg)(T:Top K mg "_law_deed" nu)(O:Def P w K mg base CX0 5 "_law_changed" ["_law_state","_law_plain","_law_way","_law_number"]<|spQ dP)(M:Def P w K mg base CX0 6 "_law_taken" ["_law_state","_law_plain"]<|spQ du)(I:Def P w K mg base CX0 3 "_law_put" ["_law_state","_law_plain","_law_number"]<|spQ jL):Def P w K mg base CX0 7 "_law_deed" ["_law_state","_law_plain","_law_cell"] (spQ gD):=by
 have d:mg "int"=none:=Z _ (by decide+kernel)
 have c:mg "range"=none:=Z _ (by decide+kernel)
 refine T.def lX (λvs H Q E h=>eR h) (by walk_at "Qb") λf cdv A outer s H vs Q E a h=>?_
 have b:=a.units;exact⟨_,(af (cx 3 lX.nd<|bL gJ (pv 2) aF)
   (af (cY (PW.pt<|mI (cA EE (bL dB (pv 2) aF) aF<|cI _)<|mS<|PW.pt<|LP (cA (vP<|Nat.lt_of_le_of_lt (Nat.le_add_right _ _) b) (pv 1) g7<|cI _)<|HM<|cA xf (bL dB (pv 2) aF) aF<|cI _)
   (af (eL<|pd I a<|ax (pv 0)<|ax (pv 1)<|pa1<|pv 3)
   (aC<|br fu))
   bF)
   (af (cY (peq K b (bL dB (pv 2) aF) aF)
   (af (oT PassesOwn.never rfl (CU rfl c<|pa1<|bL dB (pv 3) aF) (pgn 4 lX.nd)
   (aC<|eL<|pd I a<|ax (pv 0)<|ax (pv 1)<|pa1<|i5 K (bL gJ (pv 3) aF)<|bL nJ aF<|pv 4))
   (aC<|br fu))
   bF)
   (af (cY (cA EE (bL dB (pv 2) aF) aF<|cI _)
   (aC<|br<|pd M a<|ax (pv 0)<|pa1<|pv 1)
   bF)
   (af (cY (cA (vP<|Nat.lt_of_le_of_lt (Nat.le_add_right _ _) b) (pv 1) g7<|cI _)
   (aC<|br fu)
   bF)
   (aC<|br<|pd O a<|ax (pv 0)<|ax (pv 1)<|ax (eM CV rfl d PyProof.Rows.boot_int<|pa1<|vb (vz (K:=K) rfl b) (bL dB (pv 2) aF) aF<|cI _)<|pa1<|pv 3)))))),
   eQ (n:=3) (k:=2) (aJ (aX (cW<|aD J_I aa aN) aU)
   (aJ (fN (mZ<|qf (bf<|aD tG (aD J_I aa aN) aN)<|Mu (bf<|aD Ad aa jb)<|bf<|aD tG (aD J_I aa aN) aN)
   (aJ (fD<|bP<|ak aj<|ak aj<|ak aj aM)
   (cD<|eC λ_=>.bl _))
   dh)
   (aJ (fN (mZ<|bf<|aD qz (aD J_I aa aN) aN)
   (aJ (F2 (IB<|ma1<|aD J_I aa aN) aU
   (fD<|bP<|ak aj<|ak aj<|ak (cW<|aD d9 (aD J_I aa aN)<|aD xE aN aa) aM))
   (cD<|eC λ_=>.bl _))
   dh)
   (aJ (fN (mZ<|bf<|aD tG (aD J_I aa aN) aN)
   (cD<|bP<|ak aj<|ak aj aM)
   dh)
   (aJ (fN (mZ<|bf<|aD Ad aa jb)
   (cD<|eC λ_=>.bl _)
   dh)
   (cD<|bP<|ak aj<|ak aj<|ak (cW<|cU OM<|ma1<|aD qz (aD J_I aa aN) aN)<|ak aj aM)))))) rfl h⟩
theorem N9(Y:qE K=true)(Z:fq mg)(F:Fun K "law" "law" CI f fd)(U:Def P w K mg base CX0 1 "pile_credit" ["pile"]<|spM fy)(I:Def P w K mg base CX0 6 "_law_taken" ["_law_state","_law_plain"]<|spQ du)(M:Def P w K mg base CX0 1 "_law_same_names" ["_law_pile","_law_plain"]<|spM bO)(nv:Def P w K mg base CX0 2 "_law_pour" ["_law_states","_law_plains"]<|spQ iS)(ny:Def P w K mg base CX0 7 "_law_deed" ["_law_state","_law_plain","_law_cell"]<|spQ gD)(O:Def P w K mg base CX0 1 "no_pile" []<|spQ gC):mD P w K mg base CX0 8 f fd ["_law_script"] (EX K):=by
 have d:mg "sum"=none:=Z _ (by decide+kernel)
 have c:mg "len"=none:=Z _ (by decide+kernel)
 refine mD.imp (sp:=spM Lg) ?_ (MR Y HF);refine F.ok p9 (λvs H Q E h=>Jp h) λcdv A outer s H vs Q E a h=>?_
 have b:=a.units;exact⟨_,(af (cx 1 p9.nd<|iJ<|ax (iJ<|ax (vn O<|a.mono (by lia))<|ax aF<|ax aF<|pa1 aF)<|pa1<|iJ<|ax (vn O<|a.mono (by lia))<|ax aF<|ax aF<|pa1 aF)
   (af (cx 2 p9.nd<|iJ<|ax g7<|pa1 g7)
   (af (oT PassesOwn.never rfl (jC (K:=K) rfl<|EK (Fv (K:=K) rfl) (pv 0) HZ<|Ia aF) (pgn 3 p9.nd)
   (af (cx 4 p9.nd<|bL gJ (pv 3) aF)
   (af (cx 5 p9.nd<|bL dB (bL dB (pv 3) aF) aF)
   (af (cY (peq K b (bL dB (pv 3) aF) aF)
   (aC<|eL<|pd nv a<|ax (pv 1)<|pa1<|pv 2)
   (aC (cY (cA xf (i5 K (bw gz rfl c zaE<|pa1<|pix K<|pv 2)<|bw gz rfl c zaE<|pa1<|pix K<|pv 2) aF<|cI _)
   (aC (cY (mT<|iI<|pd I a<|ax (mJ (gL (K:=K) rfl) (pv 1) (pv 5) λ_ _=>rfl)<|pa1<|mJ (gL (K:=K) rfl) (pv 2) (pv 5) λ_ _=>rfl)
   (aC<|br fu)
   bF))
   (aC (cY (mT<|iI<|pd ny a<|ax (mJ (gL (K:=K) rfl) (pv 1) (pv 5) λ_ _=>rfl)<|ax (mJ (gL (K:=K) rfl) (pv 2) (pv 5) λ_ _=>rfl)<|pa1<|pv 4)
   (aC<|br fu)
   bF)))))
   (af (cY (PW.pt<|mI (mT<|iI<|pd M a<|ax (pix K<|pix K<|pv 1)<|pa1<|pix K<|pv 2)<|mS<|mT<|iI<|pd M a<|ax (pix K<|pix K<|pv 1)<|pa1<|pix K<|pv 2)
   (aC<|br fu)
   bF)
   (aC (cY (cA xf (bw (Dk (K:=K) rfl rfl) rfl d PyProof.Rows.boot_sum<|pa1<|qY (fr:=[]) rfl ⟨rfl,rfl,rfl,rfl,rfl,rfl,by decide+kernel⟩ (AY<|pv 1) (λ_ _ _ _=>nG) λ_ _ _ _=>(bL oU (i5 K (pix K<|pv 0)<|pd U a<|pa1<|pix K<|pv 0)<|pix K<|pv 0)) aF<|cI _)
   (aC<|br fu)
   bF)))))))
   (af (nD PassesOwn.never (cA (JN<|Nat.lt_of_le_of_lt (Nat.le_add_right _ _) b) (pix K<|pv 2) g7<|cI _)
   (aC (cY (mT<|iI<|pd I a<|ax (pix K<|pv 1)<|pa1<|pix K<|pv 2)
   (aC<|br fu)
   bF)))
   (aC<|br<|zy (pd I a<|ax (pix K<|pv 1)<|pa1<|pix K<|pv 2)<|zx<|vb (vz (K:=K) rfl b) (pd U a<|pa1<|pix K<|pix K<|pv 1) aF<|cI _))))),
   Jo (n:=1) (k:=5) (aJ (aX (lx<|ak (lx<|ak (bP aM)<|ak nli<|ak nli<|ak nli aM)<|ak (lx<|ak (bP aM)<|ak nli<|ak nli<|ak nli aM) aM) aU)
   (aJ (aX (lx<|ak (cW jb)<|ak (cW jb) aM) aU)
   (aJ (vG (cW<|OE Qe aa Iz<|IA aN) aU
   (aJ (aX (cW<|aD J_I aa aN) aU)
   (aJ (aX (cW<|aD J_I (aD J_I aa aN) aN) aU)
   (aJ (fN (mZ<|bf<|aD qz (aD J_I aa aN) aN)
   (fD<|bP<|ak aj<|ak aj aM)
   (fN (mf<|ja tG (ja d9 (FV m4<|ak (nix aj) aM)<|FV m4<|ak (nix aj) aM) nli)
   (fN (rJ<|xW<|bP<|ak (ux aj aj)<|ak (ux aj aj) aM)
   (cD<|eC λ_=>.bl _)
   dh)
   (fN (rJ<|xW<|bP<|ak (ux aj aj)<|ak (ux aj aj)<|ak aj aM)
   (cD<|eC λ_=>.bl _)
   dh)))
   (aJ (fN (KL (rJ<|xW<|iR<|ak (nix<|nix aj)<|ak (nix aj) aM)<|rJ<|xW<|iR<|ak (nix<|nix aj)<|ak (nix aj) aM)
   (cD<|eC λ_=>.bl _)
   dh)
   (fN (mf<|ja tG (FV ON<|ak (Nu aj rf<|aD Dc (aD d9 (mix aa)<|df<|ma1<|mix aa)<|mix aa) aM) nli)
   (cD<|eC λ_=>.bl _)
   dh))))))
   (aJ (x9 (mf<|ja Nx (nix aj)<|cW jb)
   (fN (rJ<|xW<|bP<|ak (nix aj)<|ak (nix aj) aM)
   (cD<|eC λ_=>.bl _)
   dh))
   (cD<|BB (bP<|ak (nix aj)<|ak (nix aj) aM)<|ja qz (iR<|ak (nix<|nix aj) aM) nli))))) rfl h⟩
end
end K78
open PySem.W PyProof.Rows
set_option maxRecDepth 100000 in
set_option maxHeartbeats 0 in
theorem PySem.Challenge.cw_creditworks_k78_whole_piles_holds : PySem.Challenge.rw_creditworks_k78_whole_piles.Holds := by
 w_on;o_law;k_head;(case hw=>w_witness2)
 k_fill
 refine L2.EY (l:=PySem.Challenge.rw_creditworks_k78_whole_piles) (k:=8) (x:="_law_script") (st:=K78.CI) rfl rfl ⟨rfl,by decide,by decide⟩ (λw h Y=>⟨PySem.W.km_in_of Y,L2.JE (by kernel_rfl)<|PySem.W.km_tabs_of Y⟩) (λ_ _ _ _ _ _ _=>rfl) ?F
 case F=>
  intro w mg h KX G;have hK:(L2.gW<|L2.KOf KX).isSome=true:=by
   dsimp only[L2.KOf]
   kernel_rfl
  have AR:L2.Top (L2.KOf KX) mg "standing" K78.m8:=by
   walk_at "q0"
  have oN:L2.Top (L2.KOf KX) mg "least_name" K78.iy:=by
   walk_at "q0"
  have Oa:L2.Top (L2.KOf KX) mg "hang" K78.AD:=by
   walk_at "q0"
  have wN:L2.Top (L2.KOf KX) mg "hang_alike" K78.kG:=by
   walk_at "q0"
  have HH:L2.Top (L2.KOf KX) mg "as_top" K78.sR:=by
   walk_at "q0"
  have AS:L2.Top (L2.KOf KX) mg "take_top" K78.m9:=by
   walk_at "q0"
  have oO:L2.Top (L2.KOf KX) mg "take_least" K78.iz:=by
   walk_at "q0"
  have t5:L2.Top (L2.KOf KX) mg "_law_refused" K78.js:=by
   walk_at "q0"
  have wO:L2.Top (L2.KOf KX) mg "most_below" K78.kH:=by
   walk_at "q0"
  have zm:L2.Top (L2.KOf KX) mg "_law_taken" K78.lT:=by
   walk_at "q0"
  have Ed:L2.Top (L2.KOf KX) mg "no_pile" K78.pW:=by
   walk_at "q0"
  have wQ:L2.Top (L2.KOf KX) mg "pour_piles" K78.kI:=by
   walk_at "q0"
  have AU:L2.Top (L2.KOf KX) mg "_law_pour" K78.ng:=by
   walk_at "q0"
  have t6:L2.Top (L2.KOf KX) mg "pile_credit" K78.ju:=by
   walk_at "q0"
  have qd:L2.Top (L2.KOf KX) mg "_law_same_names" K78.gF:=by
   walk_at "q0"
  have wR:L2.Top (L2.KOf KX) mg "hold_there" K78.kJ:=by
   walk_at "q0"
  have sZ:L2.Top (L2.KOf KX) mg "names_to_cut" K78.iZ:=by
   walk_at "q0"
  have Ee:L2.Top (L2.KOf KX) mg "without" K78.pX:=by
   walk_at "q0"
  have zo:L2.Top (L2.KOf KX) mg "with_mark" K78.lV:=by
   walk_at "q0"
  have Ef:L2.Top (L2.KOf KX) mg "cut_off" K78.pY:=by
   walk_at "q0"
  have Eg:L2.Top (L2.KOf KX) mg "put_out" K78.pZ:=by
   walk_at "q0"
  have zp:L2.Top (L2.KOf KX) mg "make_less" K78.lW:=by
   walk_at "q0"
  have t7:L2.Top (L2.KOf KX) mg "_law_changed" K78.jv:=by
   walk_at "q0"
  have t8:L2.Top (L2.KOf KX) mg "_law_name_by" K78.jw:=by
   walk_at "q0"
  have wU:L2.Top (L2.KOf KX) mg "_law_key_by" K78.kL:=by
   walk_at "q0"
  have Eh:L2.Top (L2.KOf KX) mg "is_name" K78.p0:=by
   walk_at "q0"
  have AV:L2.Top (L2.KOf KX) mg "pile_put" K78.nj:=by
   walk_at "q0"
  have Ei:L2.Top (L2.KOf KX) mg "_law_put" K78.p8:=by
   walk_at "q0"
  have AW:L2.Top (L2.KOf KX) mg "_law_deed" K78.nu:=by
   walk_at "q0"
  have PR:L2.Top (L2.KOf KX) mg "law" K78.CI:=by
   walk_at "q0"
  have CK:mg "all"=none:=by
   refine' za0 KX G ?z
   (case z=>k_is)
  have wJ:mg "bool"=none:=by
   refine' za0 KX G ?z
   (case z=>k_is)
  have ib:mg "dict"=none:=by
   refine' za0 KX G ?z
   (case z=>k_is)
  have LB:mg "int"=none:=by
   refine' za0 KX G ?z
   (case z=>k_is)
  have fc:mg "isinstance"=none:=by
   refine' za0 KX G ?z
   (case z=>k_is)
  have dq:mg "len"=none:=by
   refine' za0 KX G ?z
   (case z=>k_is)
  have HG:mg "list"=none:=by
   refine' za0 KX G ?z
   (case z=>k_is)
  have CJ:mg "min"=none:=by
   refine' za0 KX G ?z
   (case z=>k_is)
  have CM:mg "range"=none:=by
   refine' za0 KX G ?z
   (case z=>k_is)
  have zj:mg "sorted"=none:=by
   refine' za0 KX G ?z
   (case z=>k_is)
  have LA:mg "str"=none:=by
   refine' za0 KX G ?z
   (case z=>k_is)
  have LC:mg "sum"=none:=by
   refine' za0 KX G ?z
   (case z=>k_is)
  have CL:mg "tuple"=none:=by
   refine' za0 KX G ?z
   (case z=>k_is)
  have Z:K78.fq mg:=by
   intro x hx;simp only[List.mem_cons,List.not_mem_nil,or_false]at hx;rcases hx with rfl|rfl|rfl|rfl|rfl|rfl|rfl|rfl|rfl|rfl|rfl|rfl|rfl<;>assumption
  have NL:Mir.qE (L2.KOf KX)=true:=by
   dsimp only[L2.KOf]
   first|rfl|kernel_rfl|k_is
  have CFF:∃fI,K78.CF (L2.KOf KX) mg fI:=by
   dsimp only[L2.KOf];refine' ⟨_,⟨?wH,PySem.W.mg_of KX G ?kM,⟨?Ej,?Ek,?El,?Em,?En,?Eo,?Ep,?Er⟩,?h_Empty_Empty⟩⟩
   (case kM=>k_is)
   (case wH=>first|k_is|k_exc|rfl|kernel_rfl|decide+kernel)
   (case Ej=>first|k_is|k_exc|rfl|kernel_rfl|decide+kernel)
   (case Ek=>first|k_is|k_exc|rfl|kernel_rfl|decide+kernel)
   (case El=>first|k_is|k_exc|rfl|kernel_rfl|decide+kernel)
   (case Em=>first|k_is|k_exc|rfl|kernel_rfl|decide+kernel)
   (case En=>first|k_is|k_exc|rfl|kernel_rfl|decide+kernel)
   (case Eo=>first|k_is|k_exc|rfl|kernel_rfl|decide+kernel)
   (case Ep=>first|k_is|k_exc|rfl|kernel_rfl|decide+kernel)
   (case Er=>first|k_is|k_exc|rfl|kernel_rfl|decide+kernel)
   (case h_Empty_Empty=>first|k_is|k_exc|rfl|kernel_rfl|decide+kernel)
  obtain⟨fI,cf⟩:=CFF;refine⟨PR,λf fd Ff base kb gb=>?_⟩
  have de:=K78.zf zah w base Z AR;have eZ:=K78.sS zah w base Z oN cf;have e9:=K78.tU zah w base Z hK oN de;have AH:=K78.Ku zah w base Z Oa;have kN:=K78.tV zah w base Z wN AH de;have jT:=K78.Ec zah w base Z HH;have fL:=K78.zg zah w base Z AS kN jT;have kP:=K78.sT zah w base Z oO cf eZ;have kQ:=K78.tW zah w base Z oO fL e9;have gT:=K78.sU zah w base Z t5 cf eZ kP;have fb:=K78.tX zah w base Z wO;have dF:=K78.wI zah w base Z zm fb kQ e9 gT;have gH:=K78.AI zah w base Z Ed;have jx:=K78.sV zah w base Z wQ;have nv:=K78.zi zah w base Z AU gH jx;have gU:=K78.sW zah w base Z t6;have fg:=K78.oM zah w base Z qd;have fe:=K78.tY zah w base Z wR;have i4:=K78.qC zah w base Z sZ;have qa:=K78.AJ zah w base Z Ee;have lZ:=K78.wK zah w base Z zo;have iF:=K78.AM zah w base Z Ef lZ jT qa i4;have qb:=K78.AN zah w base Z Eg fL iF fe;have l7:=K78.wL zah w base Z zp iF de fe
  have jz:=K78.sX zah w base Z t7 qb fb l7;have jy:=K78.sY zah w base Z t8;have kR:=K78.tZ zah w base Z wU;have qc:=K78.AO zah w base Z Eh;have l8:=K78.wM zah w base Z AV qc;have mB:=K78.AQ zah w base Z Ei kR jy l8;have ny:=K78.zk zah w base Z AW jz dF mB;exact K78.N9 _ _ _ NL Z Ff gU dF fg nv ny gH
