import PyProof.Rows.All
import Wide.All
import OpenK.AllK
import Wide.FinOn
import Lean
import PyProof.EqAt
import PyProof.EqKinds
import PyProof.TupleCall
import KE.KLam
import KE.KNestM
import KE.KTryMore
import PyProof.ZipIter
import KE.KDictLaws
import KE.KDictList
import PyProof.Rows.SetFrom
import PyProof.DictWalks
import PyProof.Rows.StrInSeq3
import PyProof.EnumMake
import PyProof.Rows.EnumRows
import PyProof.DictItems
import PyProof.FString5
import PyProof.MeetsDictList
import KE.KMinKey
import PyProof.StrWalks
import PyProof.DictUpdate
import PyProof.NeKinds
import PyProof.FactsAll.dict_1
import PyProof.FactsAll.dict_2
import KE.KSortTup
import PyProof.Rows.SortShellK
import PyProof.Rows.SortKeyStr
import KE.KDictSum
import PySem.Challenge.RW_creditworks_k79_whole_elder_piles
set_option Elab.async false
set_option linter.all false
set_option maxRecDepth 100000
noncomputable section
theorem zaa(h:o.bind f=some b):∃a,o=some a/\f a=some b:=Option.bind_eq_some_iff.mp h
theorem zab(h:o.map f=some b):∃a,o=some a/\f a=b:=Option.map_eq_some_iff.mp h
theorem zac{α}{a:α}{l:List α}{i:Nat}(h:l[i]?=some a):∃h:i<l.length,l[i]=a:=List.getElem?_eq_some_iff.mp h
theorem zad(h:a∈[b]):a=b:=List.mem_singleton.mp h
theorem zae{α}{a:α}{s t:List α}(h:a∈s++t):a∈s\/a∈t:=List.mem_append.mp h
theorem zaf(h:a∈b::l):a=b\/a∈l:=List.mem_cons.mp h
abbrev zag:=PySem.W.Frag
abbrev zah:=PySem.Challenge.rw_creditworks_k79_whole_elder_piles.prog
section
open PySem PySem.Spec PyProof.Rows
def zai:=@Option.bind_some
def zaj:=@List.mem_of_getElem?
def zak:=@List.mem_cons_of_mem
def zal:=@List.length_map
def zam:=@Bool.false_ne_true
def zan:=@List.mem_append_right
def zao:=@List.getElem?_map
def zap:=@Nat.le_refl
def zaq:=@Heap.lt_size
def zar:=@Heap.get?_push_of_some
def zas:=@List.mem_cons_self
def zat:=@List.getElem?_cons_succ
def zau:=@List.length_append
def zav:=@List.getElem?_set_self
def zaw:=@List.length_cons
def zax:=@List.getElem?_append_left
def zaz:=@List.map_cons
def zaA:=@List.getElem?_set_ne
def zaC:=@List.getElem?_eq_getElem
def zaD:=@List.append_assoc
def zaE:=@PySem.boot_len
def zaF:=@Nat.lt_of_lt_of_le
def zaG:=@List.eq_of_mem_replicate
def zaH:=@decide_eq_true
def zaI:=@wpAny_bind
def zaJ:=@PySem.F.plainAttrs_list
def zaK:=@List.size_toArray
def zaL:=@Heap.get?_push_size
def zaM:=@List.length_set
def zaN:=@List.getElem?_append_right
def zaO:=@decide_eq_false
def zaQ:=@Option.some.inj
def zaR:=@List.append_nil
def zaS:=@Nat.ne_of_lt
def zaT:=@Option.map_some
def zaU:=@PySem.F.type_list_append
def zaV:=@PySem.F.slot_list_append
def zaW:=@List.mem_append_left
def zaX:=@Nat.le_trans
def zaY:=@List.length_filter_le
def zaZ:=@wpAny_pure
def za0:=@PySem.W.mg_none_of
def za1:=@List.map_append
def za3:=@Nat.lt_irrefl
def za4:=@PySem.W.kia_one
def za5:=@PySem.mem_of_lookup
def za6:=@wpAny_mono
def za7:=@List.length_singleton
def za8:=@List.lookup_cons
def za9:=@List.Nodup.mem_erase_iff
def zba:=@Nat.le_of_not_lt
def zbb:=@List.drop_eq_getElem_cons
def zbc:=@List.replicate_succ
end
namespace L2
open PySem PySem.Spec PyProof.Rows
abbrev Key:=Sum Int Str
def o9:Key->Value->Bool
 | .inl k,v=>Value.isInt k v
 | .inr x,v=>Value.isStrOf x v
def Mp(w:World):Key->Int
 | .inl k=>hashInt k
 | .inr x=>hashStr w x
theorem cP:∀{k:Key} {v:Value},o9 k v=true->(∃i t,k=Sum.inl i/\v=Value.int i t)\/(∃x t,k=Sum.inr x/\v=Value.str x t)
 | .inl i,v,h=>by
  obtain⟨t,e⟩:=Value.isInt_shape (k:=i) (v:=v) h;exact .inl ⟨i,t,rfl,e⟩
 | .inr x,v,h=>by
  obtain⟨t,e⟩:=Value.isStrOf_shape (x:=x) (v:=v) h;exact .inr ⟨x,t,rfl,e⟩
theorem Ah(i:Int)(t:Tok):o9 (.inl i) (.int i t)=true:=by simp[o9,Value.isInt]
theorem Ai(x:Str)(t:Tok):o9 (.inr x) (.str x t)=true:=by simp[o9,Value.isStrOf]
theorem Iv(a b:Int):decide ((Sum.inl a:Key)=Sum.inl b)=(a==b):=by
 by_cases e:a=b
 ·subst e;simp
 ·have h : ¬(Sum.inl a:Key)=Sum.inl b:=λq=>e (Sum.inl.inj q)
  rw[zaO h];exact(beq_eq_false_iff_ne.mpr e).symm
theorem Iw(a b:Str):decide ((Sum.inr a:Key)=Sum.inr b)=decide (a=b):=by
 by_cases e:a=b
 ·subst e;simp
 ·have h : ¬(Sum.inr a:Key)=Sum.inr b:=λq=>e (Sum.inr.inj q)
  rw[zaO h,zaO e]
theorem Iy(a:Int)(b:Str):decide ((Sum.inl a:Key)=Sum.inr b)=false:=zaO (λq=>nomatch q)
theorem Iz(a:Str)(b:Int):decide ((Sum.inr a:Key)=Sum.inl b)=false:=zaO (λq=>nomatch q)
def bU(prog:Program)(w:World):PySem.KeyKind prog w Key where
 is:=o9
 hash:=Mp w
 inj:=λv a b ha hb=>by
  rcases cP ha with⟨i,t,rfl,rfl⟩|⟨x,t,rfl,rfl⟩
  ·rcases cP hb with⟨j,u,rfl,e⟩|⟨y,u,rfl,e⟩
   ·injection e with e1 _;rw[e1]
   ·exact nomatch e
  ·rcases cP hb with⟨j,u,rfl,e⟩|⟨y,u,rfl,e⟩
   ·exact nomatch e
   ·injection e with e1 _;rw[e1]
 byValue:=λk v h=>by
  rcases cP h with⟨i,t,rfl,rfl⟩|⟨x,t,rfl,rfl⟩<;>rfl
 pyHash:=λhv h=>by
  rcases cP hv with⟨i,t,rfl,rfl⟩|⟨x,t,rfl,rfl⟩
  ·exact wpAny_pyHash_int h
  ·exact wpAny_pyHash_str h
 eqBool:=λhu hv h=>by
  rcases cP hu with⟨i,t,rfl,rfl⟩|⟨x,t,rfl,rfl⟩
  ·rcases cP hv with⟨j,u,rfl,rfl⟩|⟨y,u,rfl,rfl⟩
   ·rw[Iv]at h;exact wpAny_eqBool_int h
   ·rw[Iy]at h;exact SeqAt.EqAt.int_str i t y u _ _ _ _ h
  ·rcases cP hv with⟨j,u,rfl,rfl⟩|⟨y,u,rfl,rfl⟩
   ·rw[Iz]at h;exact SeqAt.EqAt.str_int x t j u _ _ _ _ h
   ·rw[Iw]at h;exact wpAny_eqBool_str h
 «strs»:=λk x t v h=>by
  rcases cP h with⟨i,u,rfl,e⟩|⟨y,u,rfl,e⟩
  ·exact nomatch e
  ·injection e with e1 _
   subst e1;cases v<;>rfl
theorem xf(prog:Program)(w:World)(k:Key)(v:Value):(bU prog w).is k v=o9 k v:=rfl
theorem uV(prog:Program)(w:World)(i:Int)(t:Tok):(bU prog w).is (.inl i) (.int i t)=true:=Ah i t
theorem uW(prog:Program)(w:World)(x:Str)(t:Tok):(bU prog w).is (.inr x) (.str x t)=true:=Ai x t
inductive V where
 |non|bl (b:Bool)|int (i:Int)|str (x:Str)|byt (b:Array UInt8)|flt (b:UInt64)|ref (a:Addr)|ty (n:String)
 deriving DecidableEq
def RelV:V->Value->Prop
 | .non,u=>u=Value.none
 | .bl b,u=>u=Value.bool b
 | .int i,u=>∃t,u=Value.int i t
 | .str x,u=>∃t,u=Value.str x t
 | .byt b,u=>∃t,u=Value.bytes b t
 | .flt b,u=>∃t,u=Value.float b t
 | .ref a,u=>u=Value.ref a
 | .ty n,u=>u=Value.type n
abbrev Vals:List V->List Value->Prop:=Paired RelV
theorem Vals.length(r:Vals xs us):xs.length=us.length:=Paired.length r
theorem Vals.get:∀{xs:List V} {us:List Value} {i:Nat} {x:V},Vals xs us->xs[i]?=some x->∃u,us[i]?=some u/\RelV x u
 |_,_,_,_,.nil,e=>by simp at e
 |_,_,0,_,.cons r _,e=>by simp at e;subst e;exact⟨_,rfl,r⟩
 |_,_,i+1,x,.cons _ t,e=>by
  obtain⟨u,h1,h2⟩:=Vals.get (i:=i) (x:=x) t (by simpa using e)
  exact⟨u,by simpa using h1,h2⟩
theorem Vals.append:∀{xs ys:List V} {us ws:List Value},Vals xs us->Vals ys ws->Vals (xs++ys) (us++ws)
 |_,_,_,_,.nil,s=>s
 |_,_,_,_,.cons r t,s=>.cons r (Vals.append t s)
theorem Vals.take:∀{xs:List V} {us:List Value} (n:Nat),Vals xs us->Vals (xs.take n) (us.take n)
 |_,_,0,_=>.nil
 |_,_,_+1,.nil=>.nil
 |_,_,n+1,.cons r t=>.cons r (Vals.take n t)
theorem Vals.drop:∀{xs:List V} {us:List Value} (n:Nat),Vals xs us->Vals (xs.drop n) (us.drop n)
 |_,_,0,r=>r
 |_,_,_+1,.nil=>.nil
 |_,_,n+1,.cons _ t=>Vals.drop n t
def kW:Option V->Option Value->Prop
 |some v,some u=>RelV v u
 |none,none=>True
 |_,_=>False
def KV{κ:Type}:List (κ×V)->List (κ×Value)->Prop:=Paired λ(p : κ×V) (q : κ×Value)=>p.1=q.1/\RelV p.2 q.2
def kV:Key->V
 | .inl i=>.int i
 | .inr x=>.str x
inductive HO where
 |lst (xs:List V)
 |tup (xs:List V)
 |dK (kvs:List (Key×V))|dT (kvs:List (List Key×V))
 |set (S:Int->Bool) (n:Nat)
 |ins (C dx:Addr) (fs:List (Str×V))
 |own (x:Addr)
 |xd (fs:List (Str×V))
 |met (f x:Addr)
 |rng (lo hi:Int)
 |frz (o:Obj) (u:HO)
 |tbl (ps:Array Value)
 |ext (φ:Heap->Prop)
def Kp:HO->Prop
 | .tup _=>True
 | .tbl _=>True
 |_=>False
abbrev Hp:=Addr->Option HO
def upd(H:Hp)(a:Addr)(o:HO):Hp:=λb=>if b=a then some o else H b
theorem au:upd H a o a=some o:=by unfold upd;rw[if_pos rfl]
theorem ah(h:b≠a):upd H a o b=H b:=by unfold upd;rw[if_neg h]
theorem KR{H:Hp}{a b:Addr}{o u:HO}(h:H a=some o)(h':H b=some u)(d:o≠u):a≠b:=by
 intro e;subst e;rw[h]at h';exact d (zaQ h')
theorem dX{H:Hp}{a b:Addr}{o:HO}(h:H a=some o)(h':H b=none):a≠b:=by
 intro e;subst e;rw[h]at h';cases h'
section
variable(P:Program)(w:World)
def bR(H:Hp)(h:Heap)(a:Addr):HO->Prop
 | .lst xs=>xs.length<=sizeLine/\∃(its:List Value) (n:Nat),Vals xs its/\h.get? a=some {cls:=.type "list",data:=.seq its.toArray n}
 | .tup xs=>xs.length<=sizeLine/\∃its:List Value,Vals xs its/\IsTup h a its.toArray
 | .dK kvs=>kvs.length<=sizeLine/\(a==sysModules)=false/\∃vs,KV kvs vs/\h.DictOf (bU P w) a vs
 | .dT kvs=>kvs.length<=sizeLine/\(a==sysModules)=false/\∃xs:List (List Key×Addr×Value),
   Paired (λ(p:List Key×V) (q:List Key×Addr×Value)=>p.1=q.1/\H q.2.1=some (.tup (p.1.map kV))/\RelV p.2 q.2.2) kvs xs/\
   ∃o es ep,h.get? a=some o/\o.ExactDict/\o.data=.dict es ep/\es.toList=xs.map (entryOfKey (tupleKind (bU P w)))/\(xs.map (·.1)).Nodup
 | .set S n=>h.SetOf (intKind P w) a S n
 | .ins C dx fs=>H dx=some (.own a)/\fs.length<=1000/\dx≠a/\h.get? a=some (PySem.W.instObj C dx)/\
   ∃mA,h.Ns1 dx mA/\(∀f,kW (fs.lookup f) (mA f))/\PySem.Within mA (fs.map (·.1))
 | .own _=>∃o,h.get? a=some o
 | .xd fs=>∃mA,h.Ns1 a mA/\∀f,kW (fs.lookup f) (mA f)
 | .rng lo hi=>∃t u v,h.get? a=some {cls:=.type "range",data:=.fields #[.int lo t,.int hi u,.int 1 v]}
 | .frz o u=>h.get? a=some o/\bR H h a u
 | .tbl ps=>(ps[0]?=some .none/\∃q t,ps[1]?=some (.str q t)/\h.CodeRec (.ref a) q)\/
   (ps[0]?≠some .none/\∃qs,h.get? a=some {cls:=.none,data:=.fields qs}/\(qs=#[]\/∃c q t more,qs=#[ps.getD 0 .none,ps.getD 1 .none,.ref c]/\ps[2]?=some (.str q t)/\H c=some (.tbl (#[.none,.str q t]++more))))
 | .met f x=>h.get? a=some (PySem.W.methodObj (.ref f) (.ref x))
 | .ext φ=>φ h/\(∃o,h.get? a=some o)/\∀h1 h2:Heap,φ h1->(∀o,h1.get? a=some o->h2.get? a=some o)->φ h2
def HOk(H:Hp)(h:Heap):Prop:=∀a o,H a=some o->bR P w H h a o
end
section
variable{P:Program}{w:World}{H H':Hp}{h h':Heap}{a:Addr}{o:HO}
theorem bR.lt(x:bR P w H h a o):a<h.objs.size:=by
 cases o with
 |lst xs=>obtain⟨_,_,_,_,e⟩:=x;exact zaq e
 |tup xs=>obtain⟨_,_,_,p⟩:=x;exact p.lt
 |dK kvs=>obtain⟨_,_,_,_,o,_,_,e,_⟩:=x;exact zaq e
 |dT kvs=>obtain⟨_,_,_,_,o,_,_,e,_⟩:=x;exact zaq e
 |set S n=>obtain⟨o,_,_,_,e,_⟩:=x;exact zaq e
 |ins C dx fs=>obtain⟨_,_,_,e,_⟩:=x;exact zaq e
 |own y=>obtain⟨_,e⟩:=x;exact zaq e
 |xd fs=>obtain⟨_,⟨_,_,_,e,_⟩,_⟩:=x;exact zaq e
 |rng lo hi=>obtain⟨_,_,_,e⟩:=x;exact zaq e
 |frz ob u=>obtain⟨e,_⟩:=x;exact zaq e
 |tbl ps=>
  rcases x with⟨_,_,_,_,_,_,_,_,ec,e,_⟩|⟨_,_,e,_⟩
  ·cases ec;exact zaq e
  ·exact zaq e
 |met f y=>exact zaq (show h.get? a=some _ from x)
 |ext φ=>obtain⟨_,⟨_,e⟩,_⟩:=x;exact zaq e
theorem Paired.IC:∀{l₁:List α} {l₂:List β},Paired F l₁ l₂->(∀a b,F a b->G a b)->Paired G l₁ l₂
 |_,_,.nil,_=>.nil
 |_,_,.cons r t,f=>.cons (f _ _ r) (Paired.IC t f)
theorem bR.stay(x:bR P w H h a o)(k:∀b u,(b=a\/H b=some (.own a))->h.get? b=some u->h'.get? b=some u)
  (ho:∀b,H b=some (.own a)->H' b=some (.own a)) (ht:∀b u,Kp u->H b=some u->H' b=some u):bR P w H' h' a o:=by
 induction o with
 |lst xs=>obtain⟨z,its,n,r,e⟩:=x;exact⟨z,its,n,r,k _ _ (.inl rfl) e⟩
 |tup xs=>obtain⟨z,its,r,ob,e,c⟩:=x;exact⟨z,its,r,ob,k _ _ (.inl rfl) e,c⟩
 |dK kvs=>obtain⟨z,y,vs,r,ob,es,ep,e,c⟩:=x;exact⟨z,y,vs,r,ob,es,ep,k _ _ (.inl rfl) e,c⟩
 |dT kvs=>
  obtain⟨z,y,xs,r,ob,es,ep,e,c⟩:=x;exact⟨z,y,xs,Paired.IC r λp q z=>⟨z.1,ht _ _ trivial z.2.1,z.2.2⟩,ob,es,ep,k _ _ (.inl rfl) e,c⟩
 |set S n=>obtain⟨ob,es,ep,t,e,c⟩:=x;exact⟨ob,es,ep,t,k _ _ (.inl rfl) e,c⟩
 |ins C dx fs=>
  obtain⟨d,z,ne,e,mA,⟨od,es,ep,e2,c⟩,r⟩:=x;exact⟨ho _ d,z,ne,k _ _ (.inl rfl) e,mA,⟨od,es,ep,k _ _ (.inr d) e2,c⟩,r⟩
 |own y=>obtain⟨ob,e⟩:=x;exact⟨ob,k _ _ (.inl rfl) e⟩
 |xd fs=>obtain⟨mA,⟨od,es,ep,e,c⟩,r⟩:=x;exact⟨mA,⟨od,es,ep,k _ _ (.inl rfl) e,c⟩,r⟩
 |rng lo hi=>obtain⟨t,u,v,e⟩:=x;exact⟨t,u,v,k _ _ (.inl rfl) e⟩
 |frz ob u ih=>obtain⟨e,q⟩:=x;exact⟨k _ _ (.inl rfl) e,ih q⟩
 |tbl ps=>
  rcases x with⟨e0,q,t,e1,c,o,vs,tk,ec,eo,ed⟩|⟨e0,qs,e,c⟩
  ·cases ec
   exact .inl ⟨e0,q,t,e1,_,o,vs,tk,rfl,k _ _ (.inl rfl) eo,ed⟩
  ·refine .inr ⟨e0,qs,k _ _ (.inl rfl) e,?_⟩
   rcases c with c|⟨c,q,t,m,e1,e2,e3⟩
   ·exact .inl c
   ·exact .inr ⟨c,q,t,m,e1,e2,ht _ _ trivial e3⟩
 |met f y=>
  have e:h.get? a=some (PySem.W.methodObj (.ref f) (.ref y)):=x;show h'.get? a=some (PySem.W.methodObj (.ref f) (.ref y));exact k a _ (.inl rfl) e
 |ext φ=>obtain⟨p,⟨o,e⟩,st⟩:=x;exact⟨st _ _ p λo q=>k _ _ (.inl rfl) q,⟨o,k _ _ (.inl rfl) e⟩,st⟩
theorem HOk.lt(x:HOk P w H h)(e:H a=some o):a<h.objs.size:=(x a o e).lt
theorem HOk.fresh(x:HOk P w H h)(e:h.objs.size<=a):H a=none:=by
 cases q:H a with
 |none=>rfl
 |some u=>exact absurd (zaF (x.lt q) e) (za3 _)
theorem HOk.kept(x:HOk P w H h)(k:∀b u,h.get? b=some u->h'.get? b=some u):HOk P w H h':=λa o e=>
 (x a o e).stay (λb u _ q=>k b u q) (λ_ q=>q) λ_ _ _ q=>q
theorem HOk.laid(x:HOk P w H h)(k:∀b u,h.get? b=some u->h'.get? b=some u)(hp:h.objs.size<=a)(new:bR P w (upd H a o) h' a o):HOk P w (upd H a o) h':=λb u e=>by
 have hn:=x.fresh hp
 by_cases hb:b=a
 ·subst hb;rw[au]at e;cases e;exact new
 ·rw[ah hb]at e
  exact(x b u e).stay (λc v _ q=>k c v q) (λc q=>by rw[ah (dX q hn)];exact q) λc xs _ q=>by rw[ah (dX q hn)];exact q
end
def Rd(H:Hp)(a:Addr)(u:HO):Prop:=H a=some u\/∃o,H a=some (.frz o u)
theorem Rd.ok(r:Rd H a u)(x:HOk P w H h):bR P w H h a u:=by
 rcases r with r|⟨o,r⟩
 ·exact x a u r
 ·obtain⟨_,q⟩:=x a _ r
  exact q
def Mut:Option HO->Prop
 |some (.lst _)=>True
 |some (.dK _)=>True
 |some (.dT _)=>True
 |some (.set _ _)=>True
 |some (.ins _ _ _)=>True
 |some (.ext _)=>True
 |_=>False
section
variable{P:Program}{w:World}{H:Hp}{h h':Heap}{x e:Addr}{o':HO}
theorem HOk.write(ok:HOk P w H h)(mu:Mut (H x))(he:e=x\/H e=some (.own x))(k:∀b u,b≠e->h.get? b=some u->h'.get? b=some u)(heo:∃u,h'.get? e=some u)
  (new:bR P w (upd H x o') h' x o'):HOk P w (upd H x o') h':=λb u q=>by
 have uX:∀c y,H c=some (.own y)->c≠x:=λc y r z=>by subst z;rw[r]at mu;exact mu
 have Nn:∀c xs,H c=some (.tup xs)->c≠x:=λc xs r z=>by subst z;rw[r]at mu;exact mu
 by_cases hb:b=x
 ·subst hb;rw[au]at q;cases q;exact new
 ·rw[ah hb]at q
  by_cases hbe:b=e
  ·have q':H b=some (.own x):=by
    rcases he with z|z
    ·exact absurd (hbe.trans z) hb
    ·rw[hbe];exact z
   rw[q]at q';cases q'
   obtain⟨v,hv⟩:=heo;exact⟨v,by rw[hbe];exact hv⟩
  ·refine(ok b u q).stay (λc v hc r=>k c v ?_ r) (λc r=>by rw[ah (uX c b r)];exact r) λc v hk r=>by rw[ah (λz=>by subst z;rw[r]at mu;cases v<;>first|exact hk|exact mu)];exact r
   rcases hc with rfl|hc
   ·exact hbe
   ·rintro rfl
    rcases he with z|z
    ·exact uX c b hc z
    ·rw[hc]at z;cases z;exact hb rfl
end
structure Un(fs ex:List Addr)(H H':Hp)(h h':Heap):Prop where
 keep:∀b o,h.get? b=some o->H b=none->b∉fs->b∉ex->h'.get? b=some o
 slot:∀b o,h.get? b=some o->H b=none->b∈fs->b∉ex->∃sl,h'.get? b=some {o with slots:=sl}
 free:∀b o,h.get? b=some o->H b=none->b∉ex->H' b=none
 there:∀b o,h.get? b=some o->b∉ex->∃o',h'.get? b=some o'
 tups:∀b xs,H b=some (.tup xs)->H' b=some (.tup xs)
 iJ:∀b o u,H b=some (.frz o u)->H' b=some (.frz o u)
 iy:∀b ps,H b=some (.tbl ps)->∃more,H' b=some (.tbl (ps++more))
section
variable{fs fs' ex ex':List Addr}{H H1 H2:Hp}{h h1 h2 h':Heap}{a x e:Addr}{o:HO}
theorem Un.any(u:Un fs ex H H1 h h1)(q:h.get? b=some ob)(n:H b=none)(hx:b∉ex):∃sl,h1.get? b=some {ob with slots:=sl}:=by
 by_cases hb:b∈fs
 ·exact u.slot b ob q n hb hx
 ·exact⟨ob.slots,u.keep b ob q n hb hx⟩
theorem Un.kept(k:∀b u,h.get? b=some u->h'.get? b=some u):Un fs ex H H h h' :=
 ⟨λb ob q _ _ _=>k b ob q,λb ob q _ _ _=>⟨ob.slots,k b ob q⟩,λ_ _ _ n _=>n,λb ob q _=>⟨ob,k b ob q⟩,λ_ _ q=>q,λ_ _ _ q=>q,λ_ ps q=>⟨#[],by rw[q];simp⟩⟩
theorem Un.refl:Un fs ex H H h h:=Un.kept λ_ _ q=>q
theorem Un.laid(k:∀b u,h.get? b=some u->h'.get? b=some u)(hp:h.objs.size<=a)(hn:H a=none):Un fs ex H (upd H a o) h h' where
 keep:=λb u q _ _ _=>k b u q
 slot:=λb u q _ _ _=>⟨u.slots,k b u q⟩
 free:=λb u q n _=>by rw[ah (zaS (zaF (zaq q) hp))];exact n
 there:=λb u q _=>⟨u,k b u q⟩
 tups:=λb xs q=>by rw[ah (dX q hn)];exact q
 iJ:=λb u xs q=>by rw[ah (dX q hn)];exact q
 iy:=λb ps q=>⟨#[],by rw[ah (dX q hn),q];simp⟩
theorem Un.write(mu:Mut (H x))(he:e=x\/H e=some (.own x))(k:∀b u,b≠e->h.get? b=some u->h'.get? b=some u)(heo:∃u,h'.get? e=some u):Un fs ex H (upd H x o) h h':=by
 have hx:∀b,H b=none->b≠x:=λb n z=>by subst z;rw[n]at mu;exact mu
 have hb:∀b,H b=none->b≠e:=λb n z=>by
  subst z;rcases he with r|r
  ·exact hx b n r
  ·rw[n]at r;cases r
 have hm:∀b u,H b=some u->¬Mut (some u)->b≠x:=λb u q nm z=>by subst z;rw[q]at mu;exact nm mu
 refine⟨λb u q n _ _=>k b u (hb b n) q,λb u q n _ _=>⟨u.slots,k b u (hb b n) q⟩,λb u q n _=>by rw[ah (hx b n)];exact n,λb u q _=>?_,
  λb xs q=>by rw[ah (hm b _ q λz=>z)];exact q,λb u xs q=>by rw[ah (hm b _ q λz=>z)];exact q,λb ps q=>⟨#[],by rw[ah (hm b _ q λz=>z),q];simp⟩⟩
 by_cases hbe:b=e
 ·subst hbe;exact heo
 ·exact⟨u,k b u hbe q⟩
end
def trk(h:Heap)(H:Hp):List Addr:=(List.range h.objs.size).filter λa=>(H a).isSome
def sI(h:Heap)(H:Hp):Heap:=PySem.W.hideAll h (trk h H)
theorem Aj(h:Heap)(H:Hp):(sI h H).objs.size=h.objs.size:=PySem.W.hideAll_size _ _
theorem BU(e:h.get? b=some o)(n:H b=none):(sI h H).get? b=some o :=
 PySem.W.hideAll_get _ e λhm=>by
  have q:(H b).isSome=true:=(List.mem_filter.mp hm).2;rw[n]at q;simp at q
theorem EG(e:(sI h H).get? b=some o):h.get? b=some o/\H b=none:=by
 have e':h.get? b=some o:=PySem.W.of_hideAll (trk h H) e;refine⟨e',?_⟩;cases q:H b with
 |none=>rfl
 |some x=>
  have hm:b∈trk h H:=List.mem_filter.mpr ⟨List.mem_range.mpr (zaq e'),by simp[q]⟩
  have z:(sI h H).get? b=none:=PySem.W.hideAll_none (trk h H) hm;rw[z]at e;cases e
def EH(g h:Heap)(L:Addr):List (Addr×Obj):=(List.range h.objs.size).filterMap λa=>if a=L\/(g.get? a).isSome=true then none else(h.get? a).map λo=>(a,o)
def rest(g h:Heap)(L d:Addr):List (Addr×Obj):=(EH g h L).filter λp=>decide (p.1≠d)
def sJ:FuncBody->Option Pos
 | .stmts [_,.Return (some (.Call _ _ [⟨_,.Lambda _ _ _ lp,_⟩] _)) _]=>some lp
 |_=>none
def BV(fd:FuncData):Bool:=(sJ fd.body).isSome
def uY(K:zag)(fd:FuncData):Option (Addr×Addr×Array Value):=match sJ fd.body,fd.code with
 |some lp,.ref c=>(match K.lookup c with
   |some ⟨_,_,.fields vs,_⟩=>(match(vs[11]?:Option Value)with
     |some (.ref P)=>some (c,P,#[rawInt lp.line,rawInt lp.col,.str (fd.qualname++".<locals>.<lambda>") 0])
     |_=>none)
   |_=>none)
 |_,_=>none
def xg(K:zag)(c P:Addr)(ps:Array Value):Bool:=PySem.W.codeHdIn K c P&&(K.lookup P).isNone&&(K.all λp=>match p.2.data with
 | .func fd=>!BV fd||uY K fd==some (c,P,ps)
 |_=>true)
def gk(K:zag):Option (Addr×Addr×Array Value):=match(K.findSome? λp=>match p.2.data with
  | .func fd=>uY K fd
  |_=>none)with
 |some (c,P,ps)=>if xg K c P ps then some (c,P,ps)else none
 |none=>none
structure Mod(K:zag)(mg:Str->Option Value)(base:Heap):Prop where
 kin:K.In base
 glob:base.Ns mainGlobals mg
 blt:∃mb,base.Ns builtinsNs mb/\∀x:Str,x≠"__name__"->mb x=bootBuiltins x
 nolimit:base.NoLimit
 bmain:∃bm ob,mg "__builtins__"=some (.ref bm)/\bm≠builtinsNs/\base.get? bm=some ob/\ob.cls=.type "module"/\ob.dict=some builtinsNs/\ob.data=.plain
structure Cx where
 prog:Program
 w:World
 K:zag
 mg:Str->Option Value
 base:Heap
 A:Around
 N:List Str
 s₀:Shared
 H₀:Hp
 env:Env
 outer:List Env
 stack:List Env
 ex:List Addr
 fn:Str->Bool
 calm:Bool
 pn:List (Addr×Obj)
 xe:Value->Shared->Prop
def frs(l:List Env):List Addr:=l.filterMap (·.frame)
abbrev Cx.fs(X:Cx):List Addr:=frs X.outer
def Vis(sc:Scope)(x:Str):Prop:=sc.names.lookup x=some .local\/sc.names.lookup x=some .cell\/sc.names.lookup x=some .free
def Loc(sc:Scope)(x:Str):Prop:=sc.names.lookup x=some .local\/sc.names.lookup x=some .cell
def Look(env:Env)(h:Heap)(m:Str->Option Value)(x:Str)(u:Value):Prop :=
 (env.kindOf x=some .local/\m x=some u)\/((env.kindOf x=some .cell\/env.kindOf x=some .free)/\∃c,env.cells.lookup x=some c/\h.IsCell c (some u))
structure Cx.Ok(X:Cx):Prop where
 mod:Mod X.K X.mg X.base
 kind:X.env.scope.kind=.function
 glob:X.env.globals=mainGlobals
 blt:X.env.builtins=builtinsNs
 above:X.s₀.heap.objs.size<=X.env.locals
 inj:∀x y c,X.env.cells.lookup x=some c->X.env.cells.lookup y=some c->x=y
 has:∀x,(X.env.kindOf x=some .cell\/X.env.kindOf x=some .free)->∃c,X.env.cells.lookup x=some c
 cab:∀x c,X.fn x=true->X.env.cells.lookup x=some c->X.s₀.heap.objs.size<=c
 hd:X.calm=true->X.A.handled=none
 frames:X.A.frames=some X.stack
 stk:X.stack=X.outer\/(X.stack=X.env::X.outer/\X.env.frame=some X.env.locals)
 exf:∀b∈X.ex,b≠X.env.locals/\∀x c,X.env.cells.lookup x=some c->c≠b
 bs:∀b o,X.base.get? b=some o->X.s₀.heap.get? b=some o/\X.H₀ b=none
 bsz:X.base.objs.size<=X.s₀.heap.objs.size
 uZ:∀b o,X.base.get? b=some o->b∉X.ex
 qK:∀b∈X.ex,b∉X.fs
 kX:X.s₀.heap.FunFrames X.base X.outer
 frf:∀b∈X.fs,X.H₀ b=none
 tab:∀c T ps,gk X.K=some (c,T,ps)->∃more,X.H₀ T=some (.tbl (ps++more))
structure Inv(X:Cx)(pins:List (Addr×Obj))(σ:List (Option V))(H:Hp)(s:Shared):Prop where
 ok:X.Ok
 os:s.os=X.s₀.os
 bare:AllBare s.gens
 base:Un X.fs X.ex X.H₀ H X.s₀.heap s.heap
 loc:∃m,s.heap.Ns X.env.locals m/\∀(i:Nat) (x:Str) (v:V),X.N[i]?=some x->σ[i]?=some (some v)->Vis X.env.scope x->∃u,RelV v u/\Look X.env s.heap m x u
 cell:∀x c,X.env.cells.lookup x=some c->∃v,s.heap.IsCell c v
 free:H X.env.locals=none
 fk:∀x c,X.env.cells.lookup x=some c->H c=none
 pin:∀p∈X.pn++pins,s.heap.get? p.1=some p.2/\H p.1=none/\p.1≠X.env.locals/\p.1∉X.fs/\∀v,p.2.data≠.cell v
 hok:HOk X.prog X.w H s.heap
 len : σ.length=X.N.length
section
variable{X:Cx}{pins:List (Addr×Obj)}{σ:List (Option V)}{H H':Hp}{s:Shared}{h':Heap}
theorem Cx.Ok.Mq(ok:X.Ok)(e:X.base.get? b=some o):b∉X.fs:=λhb=>by
 have:=(ok.kX.mem hb).1;rw[e]at this;cases this
theorem Inv.bs(I:Inv X pins σ H s):∀b o,X.base.get? b=some o->s.heap.get? b=some o/\H b=none:=λb o e=>
 ⟨I.base.keep b o (I.ok.bs b o e).1 (I.ok.bs b o e).2 (I.ok.Mq e) (I.ok.uZ b o e),I.base.free b o (I.ok.bs b o e).1 (I.ok.bs b o e).2 (I.ok.uZ b o e)⟩
theorem Inv.tab(I:Inv X pins σ H s):∀c T ps,gk X.K=some (c,T,ps)->∃more,H T=some (.tbl (ps++more)):=λc T ps e=>by
 obtain⟨m,h⟩:=I.ok.tab c T ps e;obtain⟨m2,h2⟩:=I.base.iy T _ h;exact⟨m++m2,by rw[h2,Array.append_assoc]⟩
theorem Inv.bk(I:Inv X pins σ H s):∀b o,X.base.get? b=some o->s.heap.get? b=some o:=λb o e=>(I.bs b o e).1
theorem Inv.mod(I:Inv X pins σ H s):Mod X.K X.mg X.base:=I.ok.mod
theorem Inv.kIn(I:Inv X pins σ H s):X.K.In s.heap:=I.ok.mod.kin.keeps I.bk
theorem Inv.nolimit(I:Inv X pins σ H s):s.heap.NoLimit:=I.ok.mod.nolimit.keeps I.bk
theorem Inv.lt(I:Inv X pins σ H s):X.env.locals<s.heap.objs.size:=let⟨_,hn,_⟩:=I.loc;hn.lt
theorem Inv.sz(I:Inv X pins σ H s):X.s₀.heap.objs.size<=s.heap.objs.size:=zaX I.ok.above (Nat.le_of_lt I.lt)
theorem Inv.Mr(I:Inv X pins σ H s){a:Addr}(h:s.heap.objs.size<=a):a∉X.fs:=λhb=>by
 obtain⟨_,o,ho,_⟩:=I.ok.kX.mem hb;exact absurd (zaF (zaq ho) (zaX I.sz h)) (za3 _)
theorem Inv.cne(I:Inv X pins σ H s):∀x c,X.env.cells.lookup x=some c->c≠X.env.locals:=λx c e z=>by
 obtain⟨v,o,ho,hd⟩:=I.cell x c e;obtain⟨m,⟨o',es,ep,ho',hd',_⟩,_⟩:=I.loc;rw[z,ho']at ho;cases ho;rw[hd']at hd;cases hd
theorem Inv.kX(I:Inv X pins σ H s):s.heap.FunFrames X.base X.outer:=by
 have all:∀(l:List Env),(∀b∈frs l,b∈X.fs)->X.s₀.heap.FunFrames X.base l->s.heap.FunFrames X.base l:=by
  intro l
  induction l with
  |nil=>intro _ _;trivial
  |cons env r ih=>
   intro hs hl;obtain⟨hk,⟨L,o,hf,hn,ho,hd⟩,hr⟩:=hl;have hL:L∈X.fs:=hs L (by unfold frs;rw[List.filterMap_cons,hf];exact zas)
   obtain⟨sl,e⟩:=I.base.slot L o ho (I.ok.frf L hL) hL λz=>I.ok.qK L z hL
   exact⟨hk,⟨L,_,hf,hn,e,hd⟩,ih (λb hb=>hs b (by unfold frs;rw[List.filterMap_cons,hf];exact zak _ hb)) hr⟩
 exact all X.outer (λ_ hb=>hb) I.ok.kX
theorem Inv.stack(I:Inv X pins σ H s):s.heap.FunFrames X.base X.stack:=by
 rcases I.ok.stk with e|⟨e,hf⟩
 ·rw[e];exact I.kX
 ·rw[e]
  obtain⟨m,hn,_⟩:=I.loc;refine .cons (by rw[I.ok.kind];decide) hf hn ?_ I.kX
  exact Heap.get?_none_of_le (zaX I.ok.bsz I.ok.above)
theorem Inv.xh(I:Inv X pins σ H s):∀b∈frs X.stack,b∈X.env.locals::X.fs:=λb hb=>by
 rcases I.ok.stk with e|⟨e,hf⟩
 ·rw[e]at hb;exact zak _ hb
 ·rw[e]at hb
  unfold frs at hb;rw[List.filterMap_cons,hf]at hb;exact hb
theorem Inv.lY(I:Inv X pins σ H s):∀b∈frs X.stack,H b=none:=λb hb=>by
 rcases zaf (I.xh b hb)with e|hb
 ·rw[e];exact I.free
 ·obtain⟨_,o,ho,_⟩:=I.ok.kX.mem hb
  exact I.base.free b o ho (I.ok.frf b hb) λz=>I.ok.qK b z hb
theorem Inv.step{g':Array GenState}{t':Nat}{d':Drawn}{ch:List Addr}(I:Inv X pins σ H s)
  (hch:∀b∈ch,(b∈X.ex\/X.s₀.heap.objs.size<=b)/\b≠X.env.locals/\(∀x c,X.env.cells.lookup x=some c->c≠b)/\∀p∈X.pn++pins,p.1≠b)
  (keep:∀b o,b≠X.env.locals->b∉X.fs->b∉ch->s.heap.get? b=some o->H b=none->h'.get? b=some o)
  (slot:∀b o,b≠X.env.locals->b∈X.fs->b∉ch->s.heap.get? b=some o->H b=none->∃sl,h'.get? b=some {o with slots:=sl}) (free:∀b o,b∉ch->s.heap.get? b=some o->H b=none->H' b=none)
  (there:∀b o,b∉ch->s.heap.get? b=some o->∃o',h'.get? b=some o')
  (tups:∀b xs,H b=some (.tup xs)->H' b=some (.tup xs)) (iJ:∀b o u,H b=some (.frz o u)->H' b=some (.frz o u)) (iy:∀b ps,H b=some (.tbl ps)->∃more,H' b=some (.tbl (ps++more)))
  (ns:∀m,s.heap.Ns X.env.locals m->h'.Ns X.env.locals m) (hok:HOk X.prog X.w H' h') (hg:AllBare g') :
  Inv X pins σ H' {s with heap:=h',gens:=g',drawn:=d',toks:=t'}:=by
 have neL:∀b o,X.s₀.heap.get? b=some o->b≠X.env.locals:=λb o e=>zaS (zaF (zaq e) I.ok.above)
 have neC:∀b o,X.s₀.heap.get? b=some o->b∉X.ex->b∉ch:=λb o e hx hb=>by
  rcases(hch b hb).1 with z|z
  ·exact hx z
  ·exact absurd (zaF (zaq e) z) (za3 _)
 have cellK:∀x c,X.env.cells.lookup x=some c->∀v,s.heap.IsCell c v->h'.IsCell c v:=λx c e v ⟨o,ho,hd⟩=>by
  have nch:c∉ch:=λz=>(hch c z).2.2.1 x c e rfl
  by_cases hc:c∈X.fs
  ·obtain⟨sl,q⟩:=slot c o (I.cne x c e) hc nch ho (I.fk x c e)
   exact⟨_,q,hd⟩
  ·exact⟨o,keep c o (I.cne x c e) hc nch ho (I.fk x c e),hd⟩
 refine⟨I.ok,I.os,hg,⟨λb o e n hb hx=>?_,λb o e n hb hx=>?_,λb o e n hx=>?_,λb o e hx=>?_,λb xs e=>tups b xs (I.base.tups b xs e),λb o xs e=>iJ b o xs (I.base.iJ b o xs e),λb ps e=>?_⟩,?_,λx c e=>?_,?_,λx c e=>?_,λp hp=>?_,hok,I.len⟩
 ·exact keep b o (neL b o e) hb (neC b o e hx) (I.base.keep b o e n hb hx) (I.base.free b o e n hx)
 ·obtain⟨sl,e1⟩:=I.base.slot b o e n hb hx
  obtain⟨sl',e2⟩:=slot b _ (neL b o e) hb (neC b o e hx) e1 (I.base.free b o e n hx);exact⟨sl',e2⟩
 ·obtain⟨o',e1⟩:=I.base.there b o e hx
  exact free b o' (neC b o e hx) e1 (I.base.free b o e n hx)
 ·obtain⟨o',e1⟩:=I.base.there b o e hx
  exact there b o' (neC b o e hx) e1
 ·obtain⟨m1,e1⟩:=I.base.iy b ps e
  obtain⟨m2,e2⟩:=iy b _ e1;exact⟨m1++m2,by rw[e2,Array.append_assoc]⟩
 ·obtain⟨m,hn,hl⟩:=I.loc
  refine⟨m,ns m hn,λi x v e1 e2 e3=>?_⟩
  obtain⟨u,r,l⟩:=hl i x v e1 e2 e3;refine⟨u,r,?_⟩;rcases l with l|⟨k,c,e,z⟩
  ·exact .inl l
  ·exact .inr ⟨k,c,e,cellK x c e _ z⟩
 ·obtain⟨v,z⟩:=I.cell x c e
  exact⟨v,cellK x c e v z⟩
 ·obtain⟨m,⟨o,_,_,ho,_⟩,_⟩:=I.loc
  exact free _ o (λz=>(hch _ z).2.1 rfl) ho I.free
 ·obtain⟨v,o,ho,hd⟩:=I.cell x c e
  exact free c o (λz=>(hch c z).2.2.1 x c e rfl) ho (I.fk x c e)
 ·obtain⟨e,n,ne,nf,d⟩:=I.pin p hp
  have nch:p.1∉ch:=λz=>(hch p.1 z).2.2.2 p hp rfl
  exact⟨keep p.1 p.2 ne nf nch e n,free p.1 p.2 nch e n,ne,nf,d⟩
theorem Inv.un(I:Inv X pins σ H s)(u:Un X.fs [] H H' s.heap h')(hok:HOk X.prog X.w H' h'):Inv X pins σ H' {s with heap:=h',toks:=t'}:=by
 obtain⟨m,⟨o,es,ep,ho,r⟩,_⟩:=id I.loc;obtain⟨sl,hL⟩:=u.any ho I.free (by simp)
 exact I.step (g':=s.gens) (d':=s.drawn) (ch:=[]) (λ_ z=>nomatch z) (λb o _ hb _ e n=>u.keep b o e n hb (by simp)) (λb o _ hb _ e n=>u.slot b o e n hb (by simp)) (λb o _ e n=>u.free b o e n (by simp)) (λb o _ e=>u.there b o e (by simp)) u.tups u.iJ u.iy (λm' hm=>by
  obtain⟨o',es',ep',ho',r'⟩:=hm;rw[ho]at ho';cases ho'
  exact⟨_,es',ep',hL,r'⟩) hok I.bare
theorem Inv.call(I:Inv X pins σ H s)(u:Un (frs X.stack) ch H H' s.heap h')(hok:HOk X.prog X.w H' h')(hg:AllBare g')
  (hch:∀b∈ch,(b∈X.ex\/X.s₀.heap.objs.size<=b)/\b≠X.env.locals/\(∀x c,X.env.cells.lookup x=some c->c≠b)/\∀p∈X.pn++pins,p.1≠b) :
  Inv X pins σ H' {s with heap:=h',gens:=g',drawn:=d',toks:=t'}:=by
 obtain⟨m,⟨o,es,ep,ho,r⟩,_⟩:=id I.loc;obtain⟨sl,hL⟩:=u.any ho I.free λz=>(hch _ z).2.1 rfl
 exact I.step (ch:=ch) hch (λb o hL hb hc e n=>u.keep b o e n (λz=>(zaf (I.xh b z)).elim hL hb) hc) (λb o _ _ hc e n=>u.any e n hc) (λb o hc e n=>u.free b o e n hc) (λb o hc e=>u.there b o e hc) u.tups u.iJ u.iy (λm' hm=>by
  obtain⟨o',es',ep',ho',r'⟩:=hm;rw[ho]at ho';cases ho'
  exact⟨_,es',ep',hL,r'⟩) hok hg
theorem Inv.turned(I:Inv X pins σ H s)(k:∀b o,b≠it->s.heap.get? b=some o->h'.get? b=some o)(hn:H it=none)(hL:it≠X.env.locals)
  (h1:it∈X.ex\/X.s₀.heap.objs.size<=it) (h2:∀x c,X.env.cells.lookup x=some c->c≠it) (h3:∀p∈X.pn++pins,p.1≠it):Inv X pins σ H {s with heap:=h',toks:=t'}:=by
 have nit:∀b u,H b=some u->b≠it:=λb u e z=>by rw[z,hn]at e;cases e
 refine I.step (g':=s.gens) (d':=s.drawn) (ch:=[it]) (λb hb=>?_) (λb o _ _ hc e _=>k b o (λz=>hc (by simp[z])) e) (λb o _ _ hc e _=>⟨o.slots,k b o (λz=>hc (by simp[z])) e⟩) (λ_ _ _ _ n=>n)
  (λb o hc e=>⟨o,k b o (λz=>hc (by simp[z])) e⟩) (λ_ _ e=>e) (λ_ _ _ e=>e) (λb ps e=>⟨#[],by rw[e];simp⟩) (λm hm=>?_) (λb u e=>?_) I.bare
 ·have e:b=it:=by simpa using hb
  subst e;exact⟨h1,hL,h2,h3⟩
 ·obtain⟨o,es,ep,ho,r⟩:=hm
  exact⟨o,es,ep,k _ o (Ne.symm hL) ho,r⟩
 ·refine(I.hok b u e).stay (λc v hc q=>k c v ?_ q) (λ_ q=>q) λ_ _ _ q=>q
  rcases hc with z|z
  ·rw[z];exact nit b u e
  ·exact nit c _ z
theorem Inv.tok(I:Inv X pins σ H s)(t:Nat):Inv X pins σ H {s with toks:=t}:=I.un (h':=s.heap) (t':=t) Un.refl I.hok
theorem Inv.kept(I:Inv X pins σ H s)(k:∀b u,s.heap.get? b=some u->h'.get? b=some u):Inv X pins σ H {s with heap:=h',toks:=t'}:=I.un (Un.kept k) (I.hok.kept k)
theorem Inv.laid{a:Addr}{o:HO}{t':Nat}(I:Inv X pins σ H s)(k:∀b u,s.heap.get? b=some u->h'.get? b=some u)(hp:s.heap.objs.size<=a)(new:bR X.prog X.w (upd H a o) h' a o) :
  Inv X pins σ (upd H a o) {s with heap:=h',toks:=t'}:=I.un (Un.laid k hp (I.hok.fresh hp)) (I.hok.laid k hp new)
theorem Inv.write(I:Inv X pins σ H s)(mu:Mut (H x))(he:e=x\/H e=some (.own x))(k:∀b u,b≠e->s.heap.get? b=some u->h'.get? b=some u)(heo:∃u,h'.get? e=some u)
  (new:bR X.prog X.w (upd H x o) h' x o):Inv X pins σ (upd H x o) {s with heap:=h',toks:=t'}:=I.un (Un.write mu he k heo) (I.hok.write mu he k heo new)
theorem Inv.yV(I:Inv X pins σ H s)(h:∀p∈Hk,s.heap.get? p.1=some p.2/\H p.1=none/\p.1≠X.env.locals/\p.1∉X.fs/\∀v,p.2.data≠.cell v):Inv X Hk σ H s :=
 ⟨I.ok,I.os,I.bare,I.base,I.loc,I.cell,I.free,I.fk,λp hp=>(zae hp).elim (λz=>I.pin p (zaW _ z)) (h p),I.hok,I.len⟩
theorem u5{N:List Str}(hN:N.Nodup){i j:Nat}{x:Str}(a:N[i]?=some x)(b:N[j]?=some x):i=j:=by
 obtain⟨h1,e1⟩:=zac a;obtain⟨h2,e2⟩:=zac b;exact(List.getElem_inj hN).mp (e1.trans e2.symm)
theorem Ak(I:Inv X pins σ H s)(hN:X.N.Nodup)(hi:X.N[i]?=some x)(hx:Loc X.env.scope x)(r:RelV v u)
  (h:∀s',Inv X pins (σ.set i (some v)) H s'->(∃a,Heap.SameBut a s.heap s'.heap/\(a=X.env.locals\/X.env.cells.lookup x=some a))->Q () s') (hf:X.fn x=true\/X.env.scope.names.lookup x=some .local:=by first|exact .inl rfl|exact .inr rfl|assumption):wpAny M A (storeName X.env x u) Q E s:=by
 obtain⟨m,hn,hl⟩:=id I.loc;have hcls:(X.env.scope.kind== .class||(X.env.scope.kind== .module&&X.env.locals !=X.env.globals))=false:=by rw[I.ok.kind];rfl
 have hiσ:i<σ.length:=by rw[I.len];exact(zac hi).1
 have cne:=I.cne;have tracked:∀{a:Addr} {h':Heap},(∃o,s.heap.get? a=some o/\H a=none)->Heap.SameBut a s.heap h'->HOk X.prog X.w H h':=fun{a h'} ha hs b ob e=>by
  obtain⟨_,_,hfree⟩:=ha;refine(I.hok b ob e).stay (λc w' hc q=>(hs.2 c ?_).trans q) (λ_ q=>q) λ_ _ _ q=>q
  rintro rfl
  rcases hc with rfl|hc
  ·rw[hfree]at e;cases e
  ·rw[hfree]at hc;cases hc
 rcases hx with hk|hk
 ·refine wpAny_storeName_local hk hn (λh' hn' hs=>?_) hcls
  obtain⟨oL,_,_,hoL,_⟩:=id hn;refine h _ ⟨I.ok,I.os,I.bare,⟨λb o e n hb hx=>?_,λb o e n hb hx=>?_,I.base.free,λb o e hx=>?_,I.base.tups,I.base.iJ,I.base.iy⟩,⟨_,hn',λj y v' e1 e2 e3=>?_⟩,λy c e=>?_,I.free,I.fk,λp hp=>?_,tracked ⟨oL,hoL,I.free⟩ hs,by simpa using I.len⟩ ⟨_,hs,.inl rfl⟩
  ·exact(hs.2 b (zaS (zaF (zaq e) I.ok.above))).trans (I.base.keep b o e n hb hx)
  ·obtain⟨sl,e1⟩:=I.base.slot b o e n hb hx
   exact⟨sl,(hs.2 b (zaS (zaF (zaq e) I.ok.above))).trans e1⟩
  ·obtain⟨o',e1⟩:=I.base.there b o e hx
   exact⟨o',(hs.2 b (zaS (zaF (zaq e) I.ok.above))).trans e1⟩
  ·by_cases hj:j=i
   ·subst hj
    rw[hi]at e1;cases e1
    rw[zav hiσ]at e2;cases e2;exact⟨u,r,.inl ⟨hk,by simp⟩⟩
   ·rw[zaA (Ne.symm hj)]at e2
    obtain⟨u',r',q⟩:=hl j y v' e1 e2 e3;refine⟨u',r',?_⟩;rcases q with⟨k,e⟩|⟨k,c,e,z⟩
    ·refine .inl ⟨k,?_⟩
     have:y≠x:=λe=>hj (u5 hN e1 (e▸hi))
     simp[this,e]
    ·exact .inr ⟨k,c,e,z.sameBut hs (cne y c e)⟩
  ·obtain⟨w',z⟩:=I.cell y c e
   exact⟨w',z.sameBut hs (cne y c e)⟩
  ·obtain⟨e,n,ne,nf,d⟩:=I.pin p hp
   exact⟨(hs.2 p.1 ne).trans e,n,ne,nf,d⟩
 ·have hfn:X.fn x=true:=by
   rcases hf with z|z
   ·exact z
   ·rw[z]at hk;cases hk
  obtain⟨c,hc⟩:=I.ok.has x (.inl hk);obtain⟨w',z⟩:=I.cell x c hc;refine wpAny_storeName_cell I.ok.kind hk hc z (λh' hc' hs=>?_)
  obtain⟨oc,hoc,Ms⟩:=id z;refine h {s with heap:=h'} ⟨I.ok,I.os,I.bare,⟨λb o e n hb hx=>?_,λb o e n hb hx=>?_,I.base.free,λb o e hx=>?_,I.base.tups,I.base.iJ,I.base.iy⟩,⟨m,hn.sameBut hs (Ne.symm (cne x c hc)),λj y v' e1 e2 e3=>?_⟩,λy c' e=>?_,I.free,I.fk,λp hp=>?_,tracked ⟨oc,hoc,I.fk x c hc⟩ hs,by simpa using I.len⟩ ⟨c,hs,.inr hc⟩
  ·exact(hs.2 b (zaS (zaF (zaq e) (I.ok.cab x c hfn hc)))).trans (I.base.keep b o e n hb hx)
  ·obtain⟨sl,e1⟩:=I.base.slot b o e n hb hx
   exact⟨sl,(hs.2 b (zaS (zaF (zaq e) (I.ok.cab x c hfn hc)))).trans e1⟩
  ·obtain⟨o',e1⟩:=I.base.there b o e hx
   exact⟨o',(hs.2 b (zaS (zaF (zaq e) (I.ok.cab x c hfn hc)))).trans e1⟩
  ·by_cases hj:j=i
   ·subst hj
    rw[hi]at e1;cases e1
    rw[zav hiσ]at e2;cases e2;exact⟨u,r,.inr ⟨.inl hk,c,hc,hc'⟩⟩
   ·rw[zaA (Ne.symm hj)]at e2
    obtain⟨u',r',q⟩:=hl j y v' e1 e2 e3;refine⟨u',r',?_⟩;rcases q with q|⟨k,c',e,z'⟩
    ·exact .inl q
    ·refine .inr ⟨k,c',e,z'.sameBut hs ?_⟩
     rintro rfl
     exact hj (u5 hN e1 (I.ok.inj _ _ _ e hc▸hi))
  ·by_cases hcc:c'=c
   ·subst hcc;exact⟨_,hc'⟩
   ·obtain⟨w2,z2⟩:=I.cell y c' e
    exact⟨w2,z2.sameBut hs hcc⟩
  ·obtain⟨e,n,ne,nf,d⟩:=I.pin p hp
   refine⟨(hs.2 p.1 ?_).trans e,n,ne,nf,d⟩;intro q;rw[q,hoc]at e;have q':oc=p.2:=zaQ e;exact d w' (by rw[<-q'];exact Ms)
theorem pd(I:Inv X pins σ H s)(hN:X.N.Nodup)(hi:X.N[i]?=some x)(hx:Loc X.env.scope x)(r:RelV v u)
  (h:∀s',Inv X pins (σ.set i (some v)) H s'->Q () s') (hf:X.fn x=true\/X.env.scope.names.lookup x=some .local:=by first|exact .inl rfl|exact .inr rfl|assumption):wpAny M A (storeName X.env x u) Q E s :=
 Ak I hN hi hx r (λs' I' _=>h s' I') hf
theorem Inv.call'(I:Inv X pins σ H s)(ho:s'.os=s.os)(u:Un (frs X.stack) ch H H' s.heap s'.heap)(hok:HOk X.prog X.w H' s'.heap)(hg:AllBare s'.gens)
  (hch:∀b∈ch,(b∈X.ex\/X.s₀.heap.objs.size<=b)/\b≠X.env.locals/\(∀x c,X.env.cells.lookup x=some c->c≠b)/\∀p∈X.pn++pins,p.1≠b):Inv X pins σ H' s':=by
 obtain⟨h',g',d',t',o'⟩:=s';have e:o'=s.os:=ho;subst e;exact I.call (g':=g') (t':=t') (d':=d') u hok hg hch
end
abbrev XK:=Value->Option Addr->Hp->Prop
abbrev St:=List (Option V)
abbrev VK:=V->Hp->Prop
abbrev TE:=St->Hp->VK->Prop
abbrev TT:=St->Hp->(Bool->Hp->Prop)->Prop
abbrev TA:=St->Hp->(List V->Hp->Prop)->Prop
structure Ends where
 nx:St->Hp->Prop
 rt:VK
 bk:St->Hp->Prop:=λ_ _=>False
 ct:St->Hp->Prop:=λ_ _=>False
abbrev TS:=Ends->St->Hp->Prop
def EP(X:Cx)(pins:List (Addr×Obj))(σ:St)(Q:VK)(u:Value)(s':Shared):Prop:=∃v H',Inv X pins σ H' s'/\RelV v u/\Q v H'
def TP(X:Cx)(pins:List (Addr×Obj))(σ:St)(Q:Bool->Hp->Prop)(b:Bool)(s':Shared):Prop:=∃H',Inv X pins σ H' s'/\Q b H'
def AP(X:Cx)(pins:List (Addr×Obj))(σ:St)(Q:List V->Hp->Prop)(us:List Value)(s':Shared):Prop:=∃vs H',Inv X pins σ H' s'/\Vals vs us/\Q vs H'
def SP(X:Cx)(pins:List (Addr×Obj))(D:Ends)(f:Flow)(s':Shared):Prop :=
 match f with
 | .next=>∃σ' H',Inv X pins σ' H' s'/\D.nx σ' H'
 | .brk=>∃σ' H',Inv X pins σ' H' s'/\D.bk σ' H'
 | .cont=>∃σ' H',Inv X pins σ' H' s'/\D.ct σ' H'
 | .ret u=>∃v σ' H',Inv X pins σ' H' s'/\RelV v u/\D.rt v H'
def PE(X:Cx)(e:Expr)(t:TE):Prop :=
 ∀(pins:List (Addr×Obj)) (s:Shared) (σ:St) (H:Hp) (Q:VK),Inv X pins σ H s->t σ H Q->wpAny (model X.prog X.w) X.A (eval e X.env) (EP X pins σ Q) X.xe s
def PT(X:Cx)(e:Expr)(t:TT):Prop :=
 ∀(pins:List (Addr×Obj)) (s:Shared) (σ:St) (H:Hp) (Q:Bool->Hp->Prop),Inv X pins σ H s->t σ H Q->wpAny (model X.prog X.w) X.A (isTrue e X.env (eval e X.env)) (TP X pins σ Q) X.xe s
def PW(X:Cx)(e:Expr)(t:TT):Prop :=
 ∀(whole:Sem Value) (pins:List (Addr×Obj)) (s:Shared) (σ:St) (H:Hp) (Q:Bool->Hp->Prop),Inv X pins σ H s->t σ H Q->wpAny (model X.prog X.w) X.A (isTrue e X.env whole) (TP X pins σ Q) X.xe s
theorem PW.pt(h:PW X e t):PT X e t:=h _
def PA(X:Cx)(es:List Expr)(t:TA):Prop :=
 ∀(pos:Pos) (pins:List (Addr×Obj)) (s:Shared) (σ:St) (H:Hp) (Q:List V->Hp->Prop),Inv X pins σ H s->t σ H Q->wpAny (model X.prog X.w) X.A (spliced (backTo pos (starEach es X.env))) (AP X pins σ Q) X.xe s
def PS(X:Cx)(st:Stmt)(t:TS):Prop :=
 ∀(pins:List (Addr×Obj)) (s:Shared) (σ:St) (H:Hp) (D:Ends),Inv X pins σ H s->t D σ H->wpAny (model X.prog X.w) X.A (exec st X.env) (SP X pins D) X.xe s
def PSs(X:Cx)(st:List Stmt)(t:TS):Prop :=
 ∀(pins:List (Addr×Obj)) (s:Shared) (σ:St) (H:Hp) (D:Ends),Inv X pins σ H s->t D σ H->wpAny (model X.prog X.w) X.A (execs st X.env) (SP X pins D) X.xe s
theorem thn(h:wpAny M A t Q E s)(hQ:∀a s,Q a s->Q' a s):wpAny M A t Q' E s:=za6 h hQ λ_ _ x=>x
section
variable{X:Cx}
def u9(i:Nat):TE:=fun σ H Q=>∃v,σ[i]?=some (some v)/\Q v H
def tC(v:V):TE:=λ_ H Q=>Q v H
theorem ID{i:Nat}{x:Str}{pos:Pos}(hN:X.N[i]?=some x)(hv:Vis X.env.scope x)(hd:(x==("__debug__":Str))=false:=by decide)(hcd:(x==("__classdict__":Str))=false:=by decide):PE X (.Name x pos) (u9 i):=by
 intro pins s σ H Q I h;obtain⟨v,e,h⟩:=h;obtain⟨m,hn,hl⟩:=I.loc;obtain⟨u,r,l⟩:=hl i x v hN e hv;have fin:EP X pins σ Q u s:=⟨v,H,I,r,h⟩;rcases l with⟨hk,hm⟩|⟨hk,c,hc,hcell⟩
 ·exact wpAny_Name (wpAny_loadName_local I.ok.kind hk hn hm fin) hd
 ·rcases hk with hk|hk
  ·exact wpAny_Name (wpAny_loadName_cell I.ok.kind hk hc hcell fin) hd
  ·exact wpAny_Name (wpAny_loadName_free I.ok.kind hk hc hcell fin hcd) hd
theorem aw:PE X (.Constant (.int i) j pos) (tC (.int i)):=λ_ _ _ H _ I h=>wpAny_Constant_int ⟨.int i,H,I.tok _,⟨_,rfl⟩,h⟩
theorem pe:PE X (.Constant (.bool b) j pos) (tC (.bl b)):=λ_ _ _ H _ I h=>Constant_bool ⟨.bl b,H,I,rfl,h⟩
theorem gB:PE X (.Constant .none j pos) (tC .non):=λ_ _ _ H _ I h=>Constant_none ⟨.non,H,I,rfl,h⟩
theorem fR:PE X (.Constant (.str x) j pos) (tC (.str x)):=λ_ _ _ H _ I h=>Calls.Constant_str ⟨.str x,H,I.tok _,⟨_,rfl⟩,h⟩
def Gl(X:Cx)(x:Str):Prop:=X.env.kindOf x=some .globalImplicit
theorem lZ{E:Value->Shared->Prop}{pins:List (Addr×Obj)}{s:Shared}{σ:St}{H:Hp}{x:Str}{u:Value}{pos:Pos}{Q:Value->Shared->Prop}(I:Inv X pins σ H s)(hg:Gl X x)(hm:X.mg x=some u)(h:Q u s)
  (hd:(x==("__debug__":Str))=false:=by decide):wpAny (model X.prog X.w) X.A (eval (.Name x pos) X.env) Q E s :=
 Calls.Name_function_global I.ok.kind hg (Calls.loadGlobal_global (by rw[I.ok.glob];exact I.mod.glob.keeps I.bk) hm h) hd
theorem ph{E:Value->Shared->Prop}{pins:List (Addr×Obj)}{s:Shared}{σ:St}{H:Hp}{x:Str}{u:Value}{pos:Pos}{Q:Value->Shared->Prop}(I:Inv X pins σ H s)(hg:Gl X x)(hm:X.mg x=none)(hv:bootBuiltins x=some u)(h:Q u s)
  (hn:x≠"__name__":=by decide) (hd:(x==("__debug__":Str))=false:=by decide):wpAny (model X.prog X.w) X.A (eval (.Name x pos) X.env) Q E s:=by
 obtain⟨mb,h1,h2⟩:=I.mod.blt;exact Calls.Name_function_global I.ok.kind hg (Calls.loadGlobal_builtin (by rw[I.ok.glob];exact I.mod.glob.keeps I.bk) hm (by rw[I.ok.blt];exact h1.keeps I.bk) ((h2 x hn).trans hv) h) hd
theorem EI{x:Str}{v:V}{u:Value}{pos:Pos}(hg:Gl X x)(hm:X.mg x=none)(hv:bootBuiltins x=some u)(r:RelV v u)(hn:x≠"__name__":=by decide)(hd:(x==("__debug__":Str))=false:=by decide):PE X (.Name x pos) (tC v) :=
 λ_ _ _ H _ I h=>ph I hg hm hv ⟨v,H,I,r,h⟩ hn hd
variable{a b:Expr}{ta tb:TE}{pos:Pos}
def PC(X:Cx)(op:CmpOp)(a b:Expr)(t:TE):Prop :=
 ∀(pins:List (Addr×Obj)) (s:Shared) (σ:St) (H:Hp) (Q:VK),Inv X pins σ H s->t σ H Q->
  wpAny (model X.prog X.w) X.A (eval a X.env) (λv s₁=>wpAny (model X.prog X.w) X.A (eval b X.env) (λu s₂=>wpAny (model X.prog X.w) X.A (compareOp op v u) (EP X pins σ Q) X.xe s₂) X.xe s₁) X.xe s
def tB(t:TE):TT:=fun σ H Q=>t σ H λx H1=>∃c,x=.bl c/\Q c H1
theorem IF(h:PC X op a b t)(h1:behindInMarks op b=false:=by first|exact vb _ (by decide) (by decide)|rfl):PE X (.Compare a [op] [b] pos) t:=λpins s σ H Q I hw=>wpAny_Compare1 (h pins s σ H Q I hw) h1
theorem pj(h:PC X op a b t)(h1:behindInMarks op b=false:=by first|exact vb _ (by decide) (by decide)|rfl):PT X (.Compare a [op] [b] pos) (tB t):=by
 intro pins s σ H Q I hw;refine wpAny_isTrue_Compare1 (thn (h pins s σ H _ I hw) λv s1 h1=>thn h1 λu s2 h2=>thn h2 λc s3 ⟨x,H1,I1,r1,q1⟩=>?_) h1
 obtain⟨d,rfl,q⟩:=q1;cases r1;exact wpAny_truthy_bool ⟨H1,I1,q⟩
theorem m3(h:PE X e t)(he:∀whole,isTrue e X.env whole=(do let v<-whole;standAt e.pos;holding [v] (truthy v)):=by intro _;rfl):PT X e (tB t):=by
 intro pins s σ H Q I hw;refine isTrue_plain (thn (h pins s σ H _ I hw) λv s1 ⟨x,H1,I1,r1,q1⟩=>?_) (he _)
 obtain⟨d,rfl,q⟩:=q1;cases r1;exact wpAny_truthy_bool ⟨H1,I1,q⟩
variable{tA tB':TT}{rest:List Expr}
def tOr(t u:TT):TT:=fun σ H Q=>t σ H λc H1=>if c=true then Q true H1 else u σ H1 Q
def KS(t:TT):TT:=fun σ H Q=>t σ H λc H1=>Q (!c) H1
theorem xi(ha:PT X a tA):PW X (.BoolOp .Or [a] pos) tA:=by
 intro wh pins s σ H Q I h;refine isTrue_or (thn (ha pins s σ H Q I h) λc s1 e=>?_)
 cases c with
 |false=>exact isTrue_or_nil e
 |true=>exact e
theorem yW(ha:PT X a tA)(hb:PW X (.BoolOp .Or (b::rest) pos) tB'):PW X (.BoolOp .Or (a::b::rest) pos) (tOr tA tB'):=by
 intro wh pins s σ H Q I h;refine isTrue_or (thn (ha pins s σ H _ I h) λc s1 ⟨H1,I1,q1⟩=>?_)
 cases c with
 |true=>exact⟨H1,I1,q1⟩
 |false=>exact hb wh pins s1 σ H1 Q I1 q1
theorem xj(ha:PT X a tA):PT X (.UnaryOp .Not a pos) (KS tA):=by
 intro pins s σ H Q I h;exact isTrue_not (ha pins s σ H (λc H1=>Q (!c) H1) I h)
def Hl(ta tb:TE):TE:=fun σ H Q=>ta σ H λx H1=>∃c,x=.bl c/\if c=true then tb σ H1 Q else Q (.bl false) H1
theorem IG(h:PE X a t):PE X (.BoolOp op [a] pos) t:=λpins s σ H Q I hw=>BoolOp_one (h pins s σ H Q I hw)
theorem IH(ha:PE X a ta)(hb:PE X (.BoolOp .And (b::rest) pos) tb):PE X (.BoolOp .And (a::b::rest) pos) (Hl ta tb):=by
 intro pins s σ H Q I h;refine BoolOp_and (thn (ha pins s σ H _ I h) λv s1 ⟨x,H1,I1,r1,q1⟩=>?_)
 obtain⟨c,rfl,q1⟩:=q1;cases r1;refine wpAny_truthy_bool ?_;cases c with
 |true=>exact hb pins s1 σ H1 Q I1 q1
 |false=>exact⟨.bl false,H1,I1,rfl,q1⟩
end
def SqL(K:zag)(H:Hp)(a:Addr)(xs:List V):Prop :=
 Rd H a (.lst xs)\/
  ∃(o:Obj) (its:Array Value) (n:Nat),K.lookup a=some o/\o.cls=.type "list"/\o.dict=none/\o.data=.seq its n/\its.size<=sizeLine/\Vals xs its.toList
def SqT(K:zag)(H:Hp)(a:Addr)(xs:List V):Prop :=
 Rd H a (.tup xs)\/
  ∃(o:Obj) (its:Array Value) (n:Nat),K.lookup a=some o/\o.cls=.type "tuple"/\o.data=.seq its n/\its.size<=sizeLine/\Vals xs its.toList
def Mt:Value->Option V
 | .none=>some .non
 | .bool b=>some (.bl b)
 | .int i _=>some (.int i)
 | .str x _=>some (.str x)
 | .bytes b _=>some (.byt b)
 | .float b _=>some (.flt b)
 | .ref a=>some (.ref a)
 | .type n=>some (.ty n)
 |_=>none
theorem RelV.abs(r:RelV x u):Mt u=some x:=by
 cases x with
 |non=>cases r;rfl
 |bl _=>cases r;rfl
 |int _=>obtain⟨t,rfl⟩:=r;rfl
 |str _=>obtain⟨t,rfl⟩:=r;rfl
 |byt _=>obtain⟨t,rfl⟩:=r;rfl
 |flt _=>obtain⟨t,rfl⟩:=r;rfl
 |ref _=>cases r;rfl
 |ty _=>cases r;rfl
theorem RelV.inj(r:RelV x u)(q:RelV y u):x=y:=zaQ (r.abs.symm.trans q.abs)
theorem Vals.inj:∀{xs ys:List V} {us:List Value},Vals xs us->Vals ys us->xs=ys
 |_,_,_,.nil,.nil=>rfl
 |_,_,_,.cons r t,.cons r' t'=>by rw[r.inj r',Vals.inj t t']
section
variable{X:Cx}{pins:List (Addr×Obj)}{σ:St}{H:Hp}{s:Shared}{a:Addr}{xs ys:List V}
theorem SqL.of{K:zag}(h:H a=some (.lst xs)):SqL K H a xs:=.inl (.inl h)
theorem Inv.list(I:Inv X pins σ H s)(h:SqL X.K H a xs):∃its:List Value,Vals xs its/\PlainL s.heap a its.toArray/\xs.length<=sizeLine:=by
 rcases h with h|⟨o,its,n,hk,hc,hd,hs,hz,r⟩
 ·obtain⟨z,its,n,r,e⟩:=h.ok I.hok
  exact⟨its,r,⟨_,n,e,rfl,rfl,rfl⟩,z⟩
 ·refine⟨its.toList,r,⟨o,n,I.kIn a o hk,hc,hd,by simpa using hs⟩,?_⟩
  have e:=r.length;simp only[Array.length_toList]at e;omega
theorem Inv.tuple(I:Inv X pins σ H s)(h:SqT X.K H a xs):∃its:List Value,Vals xs its/\IsTup s.heap a its.toArray/\xs.length<=sizeLine:=by
 rcases h with h|⟨o,its,n,hk,hc,hs,hz,r⟩
 ·obtain⟨z,its,r,p⟩:=h.ok I.hok
  exact⟨its,r,p,z⟩
 ·refine⟨its.toList,r,⟨o,I.kIn a o hk,hc,n,by simpa using hs⟩,?_⟩
  have e:=r.length;simp only[Array.length_toList]at e;omega
theorem Inv.vc(I:Inv X pins σ H s)(h:SqL X.K H a xs)(h':SqL X.K H a ys):xs=ys:=by
 obtain⟨its,r,⟨o,n,e,_,_,d⟩,_⟩:=I.list h;obtain⟨its',r',⟨o',n',e',_,_,d'⟩,_⟩:=I.list h';rw[e]at e';cases e'
 rw[d]at d';injection d' with d1 _
 have:its=its':=by simpa using congrArg Array.toList d1
 subst this;exact r.inj r'
theorem Inv.An(I:Inv X pins σ H s)(h:SqT X.K H a xs)(h':SqT X.K H a ys):xs=ys:=by
 obtain⟨its,r,⟨o,e,_,n,d⟩,_⟩:=I.tuple h;obtain⟨its',r',⟨o',e',_,n',d'⟩,_⟩:=I.tuple h';rw[e]at e';cases e'
 rw[d]at d';injection d' with d1 _
 have:its=its':=by simpa using congrArg Array.toList d1
 subst this;exact r.inj r'
end
abbrev Cx.wish(X:Cx)(E:Value->Shared->Prop):Cx:={X with xe:=E}
abbrev Cx.nox(X:Cx):Cx:=X.wish λ_ _=>False
theorem Cx.Ok.wish{X:Cx}(ok:X.Ok)(E:Value->Shared->Prop):(X.wish E).Ok :=
 ⟨ok.mod,ok.kind,ok.glob,ok.blt,ok.above,ok.inj,ok.has,ok.cab,ok.hd,ok.frames,ok.stk,ok.exf,ok.bs,ok.bsz,ok.uZ,ok.qK,ok.kX,ok.frf,ok.tab⟩
theorem Cx.Ok.iK{X:Cx}{E:Value->Shared->Prop}(ok:(X.wish E).Ok):X.Ok :=
 ⟨ok.mod,ok.kind,ok.glob,ok.blt,ok.above,ok.inj,ok.has,ok.cab,ok.hd,ok.frames,ok.stk,ok.exf,ok.bs,ok.bsz,ok.uZ,ok.qK,ok.kX,ok.frf,ok.tab⟩
section
variable{X:Cx}{pins:List (Addr×Obj)}{σ:St}{H:Hp}{s:Shared}{E:Value->Shared->Prop}
theorem Inv.wish(I:Inv X pins σ H s)(E:Value->Shared->Prop):Inv (X.wish E) pins σ H s:=⟨I.ok.wish E,I.os,I.bare,I.base,I.loc,I.cell,I.free,I.fk,I.pin,I.hok,I.len⟩
theorem Inv.iK(I:Inv (X.wish E) pins σ H s):Inv X pins σ H s:=⟨I.ok.iK,I.os,I.bare,I.base,I.loc,I.cell,I.free,I.fk,I.pin,I.hok,I.len⟩
theorem SP.iK(h:SP (X.wish E) pins D f s'):SP X pins D f s':=by
 cases f with
 |next=>obtain⟨σ',H',I,q⟩:=h;exact⟨σ',H',I.iK,q⟩
 |brk=>obtain⟨σ',H',I,q⟩:=h;exact⟨σ',H',I.iK,q⟩
 |cont=>obtain⟨σ',H',I,q⟩:=h;exact⟨σ',H',I.iK,q⟩
 |ret u=>obtain⟨v,σ',H',I,r,q⟩:=h;exact⟨v,σ',H',I.iK,r,q⟩
theorem PSs.nox{st:List Stmt}{t:TS}(h:PSs X.nox st t):PSs X st t:=λpins s σ H D I hw=>
 za6 (h pins s σ H D (I.wish _) hw) (λ_ _ q=>q.iK) λ_ _ z=>False.elim z
end
section
variable{X:Cx}{st:Stmt}{rest:List Stmt}{t u:TS}{e:Expr}{te:TE}{pos:Pos}
def BW:TS:=λD σ H=>D.nx σ H
def BX(t u:TS):TS:=λD σ H=>t {D with nx:=u D} σ H
theorem cq:PSs X [] BW:=λ_ _ σ H _ I h=>wpAny_execs_nil ⟨σ,H,I,h⟩
theorem av(h1:PS X st t)(h2:PSs X rest u):PSs X (st::rest) (BX t u):=by
 intro pins s σ H D I h;refine wpAny_execs_cons (thn (h1 pins s σ H {D with nx:=u D} I h) λf s1 q=>?_)
 cases f with
 |next=>
  obtain⟨σ',H',I',q⟩:=q;exact h2 pins s1 σ' H' D I' q
 |ret v=>exact q
 |brk=>exact q
 |cont=>exact q
theorem aO(h1:PS X st t):PSs X [st] t:=by
 intro pins s σ H D I h;refine wpAny_execs_cons (thn (h1 pins s σ H D I h) λf s1 q=>?_)
 cases f with
 |next=>exact wpAny_execs_nil q
 |ret v=>exact q
 |brk=>exact q
 |cont=>exact q
theorem Inv.quiet{pins:List (Addr×Obj)}{σ:St}{H:Hp}{s:Shared}(I:Inv X pins σ H s):interactive X.env=false:=by simp[interactive,I.ok.kind]
def BY(te:TE):TS:=λD σ H=>te σ H λ_ H1=>D.nx σ H1
theorem fq(he:PE X e te)(hs:swapsWith e none pos.line X.env=pure false:=by rfl):PS X (.Expr e pos) (BY te):=by
 intro pins s σ H D I h;exact wpAny_Expr_any (thn (he pins s σ H _ I h) λv s1 ⟨x,H1,I1,r1,q1⟩=>⟨σ,H1,I1,q1⟩) I.quiet hs
def EJ(te:TE):TS:=λD σ H=>te σ H D.rt
theorem bK(he:PE X e te):PS X (.Return (some e) pos) (EJ te):=by
 intro pins s σ H D I h;exact wpAny_Return_some (thn (he pins s σ H _ I h) λv s1 ⟨x,H1,I1,r1,q1⟩=>⟨x,σ,H1,I1,r1,q1⟩)
def EK(c:TT)(t u:TS):TS:=λD σ H=>c σ H λb H1=>if b=true then t D σ H1 else u D σ H1
theorem dY(hc:PT X c tc)(ha:PSs X a t)(hb:PSs X b u):PS X (.If c a b pos) (EK tc t u):=by
 intro pins s σ H D I h;refine wpAny_If (thn (hc pins s σ H _ I h) λd s1 ⟨H1,I1,q1⟩=>?_)
 cases d with
 |true=>exact ha pins s1 σ H1 D I1 q1
 |false=>exact hb pins s1 σ H1 D I1 q1
def xk:TS:=λ_ _ _=>False
theorem iX:PS X st xk:=λ_ _ _ _ _ _ h=>h.elim
end
abbrev TG:=V->St->Hp->(St->Hp->Prop)->Prop
abbrev TGs:=List V->St->Hp->(St->Hp->Prop)->Prop
def PG(X:Cx)(target:Expr)(t:TG):Prop :=
 ∀(pins:List (Addr×Obj)) (s:Shared) (σ:St) (H:Hp) (v:V) (u:Value) (Q:St->Hp->Prop),Inv X pins σ H s->RelV v u->t v σ H Q->
  wpAny (model X.prog X.w) X.A (assign target X.env u) (λ_ s'=>∃σ' H',Inv X pins σ' H' s'/\Q σ' H') X.xe s
def PGs(X:Cx)(ts:List Expr)(t:TGs):Prop :=
 ∀(pins:List (Addr×Obj)) (s:Shared) (σ:St) (H:Hp) (vs:List V) (us:List Value) (Q:St->Hp->Prop),Inv X pins σ H s->Vals vs us->t vs σ H Q->
  wpAny (model X.prog X.w) X.A (assignInOrder ((assignEach ts X.env).map (·.2)) us) (λ_ s'=>∃σ' H',Inv X pins σ' H' s'/\Q σ' H') X.xe s
abbrev Mu:=V->V->V->Hp->(Hp->Prop)->Prop
section
variable{X:Cx}{pos:Pos}
def jR(i:Nat):TG:=λv σ H Q=>Q (σ.set i (some v)) H
theorem bX(hN:X.N.Nodup)(hi:X.N[i]?=some x)(hx:Loc X.env.scope x)(hf:X.fn x=true\/X.env.scope.names.lookup x=some .local:=by first|exact .inl rfl|exact .inr rfl|assumption):PG X (.Name x pos) (jR i):=by
 intro pins s σ H v u Q I r h;exact wpAny_assign_Name (pd I hN hi hx r (λs' I'=>⟨_,H,I',h⟩) hf)
def EL:TGs:=λvs σ H Q=>vs=[]/\Q σ H
def rl(t:TG)(u:TGs):TGs:=λvs σ H Q=>∃v r,vs=v::r/\t v σ H fun σ' H'=>u r σ' H' Q
theorem jj:PGs X [] EL:=by
 intro pins s σ H vs us Q I r h;obtain⟨e,h⟩:=h;subst e;cases r;exact assignInOrder_nil ⟨σ,H,I,h⟩
theorem cy(h1:PG X e t)(h2:PGs X es u)
  (hs:(assignEach (e::es) X.env).map (·.2)=assign e X.env::(assignEach es X.env).map (·.2):=by rfl):PGs X (e::es) (rl t u):=by
 intro pins s σ H vs us Q I r h;obtain⟨v,vr,e1,h⟩:=h;subst e1;cases r with
 |cons r rr=>
  rw[hs];refine assignInOrder_cons (thn (h1 pins s σ H _ _ _ I r h) λ_ s1 ⟨σ1,H1,I1,q1⟩=>?_)
  exact h2 pins s1 σ1 H1 _ _ Q I1 rr q1
def KU(K:zag)(n:Nat)(t:TGs):TG:=λv σ H Q=>∃a xs,v=.ref a/\SqT K H a xs/\xs.length=n/\t xs σ H Q
theorem II{es:List Expr}{k:Nat}{t:TGs}{n:Nat}(hc:X.calm=true)(h:PGs X es t)
  (hn:(assignEach es X.env).length=n:=by rfl) (hst:(assignEach es X.env).findIdx? (·.1)=none:=by rfl):PG X (.Tuple es k pos) (KU X.K n t):=by
 intro pins s σ H v u Q I r hw;obtain⟨a,xs,e1,hq,hl,hw⟩:=hw;subst e1;cases r;obtain⟨its,rv,ht,hz⟩:=I.tuple hq;refine assign_Tuple_tuple (I.ok.hd hc) ht (by simp[hn,<-hl,rv.length]) hst λh' hx=>?_
 have I1:Inv X pins σ H {s with heap:=h'}:=I.kept (t':=s.toks) λb o e=>hx b o (zaS (zaq e)) e
 exact h pins _ σ H xs _ Q I1 (by simpa using rv) hw
def xl(to ti:TE)(t:Mu):TG:=λv σ H Q=>to σ H λo H1=>ti σ H1 λi H2=>t o i v H2 λH3=>Q σ H3
def xm(te:TE)(g:TG):TS:=λD σ H=>te σ H λx H1=>g x σ H1 D.nx
theorem sL(he:PE X e te)(hg:PG X tg g)(hs:swapsWithSole [tg] e pos.line X.env=pure false:=by rfl)(hw:swappedStores [tg] e X.env=pure none:=by rfl)
  (h1:(assignEach [tg] X.env).map (·.2)=[assign tg X.env]:=by rfl):PS X (.Assign [tg] e pos) (xm te g):=by
 intro pins s σ H D I h;refine wpAny_Assign_stores (thn (he pins s σ H _ I h) λv s1 ⟨x,H1,I1,r1,q1⟩=>?_) hs hw
 rw[h1];exact thn (hg pins s1 σ H1 x v _ I1 r1 q1) λ_ s2 q=>q
theorem bz(hN:X.N.Nodup)(hi:X.N[i]?=some x)(hx:Loc X.env.scope x)(he:PE X e te)(hs:swapsWith e (some (.Name x pos')) pos.line X.env=pure false:=by rfl)(hf:X.fn x=true\/X.env.scope.names.lookup x=some .local:=by first|exact .inl rfl|exact .inr rfl|assumption) :
  PS X (.Assign [.Name x pos'] e pos) (xm te (jR i)):=by
 intro pins s σ H D I h;refine wpAny_Assign_Name (thn (he pins s σ H _ I h) λv s1 ⟨y,H1,I1,r1,q1⟩=>?_) hs
 exact pd I1 hN hi hx r1 (λs2 I2=>⟨_,H1,I2,q1⟩) hf
def xn(c:TT)(tb:TS):TS:=λD σ H=>∃W:Nat->St->Hp->Prop,(∃m,W m σ H)/\∀m σ H,W m σ H->
 c σ H λb H1=>if b=true then∃N:St->Hp->Prop,(∀σ' H',N σ' H'->∃m',m'<m/\W m' σ' H')/\tb {D with nx:=N,ct:=N,bk:=D.nx} σ H1 else D.nx σ H1
theorem vd(hp:PassesOwn (model X.prog X.w) X.A X.env X.xe)(hc:PT X c tc)(hb:PSs X body tb):PS X (.While c body [] pos) (xn tc tb):=by
 intro pins s σ H D I h;obtain⟨W,⟨m0,w0⟩,turn⟩:=h;refine wpAny_While (codeAny_whileLoop (λn s'=>∃σ' H',Inv X pins σ' H' s'/\W n σ' H') ?_ m0 ⟨σ,H,I,w0⟩)
 rintro n s1 ⟨σ1,H1,I1,w1⟩
 refine wpAny_passesOwn hp (thn (hc pins s1 σ1 H1 _ I1 (turn n σ1 H1 w1)) λb s2 ⟨H2,I2,q2⟩=>?_)
 cases b with
 |true=>
  obtain⟨N,hN,q2⟩:=q2;rw[if_pos rfl];refine wpAny_passesOwn hp (thn (hb pins s2 σ1 H2 _ I2 q2) λf s3 q3=>?_)
  cases f with
  |next=>
   obtain⟨σ3,H3,I3,n3⟩:=q3;obtain⟨m',hm,w3⟩:=hN σ3 H3 n3;exact⟨m',hm,σ3,H3,I3,w3⟩
  |cont=>
   obtain⟨σ3,H3,I3,n3⟩:=q3;obtain⟨m',hm,w3⟩:=hN σ3 H3 n3;exact⟨m',hm,σ3,H3,I3,w3⟩
  |brk=>exact q3
  |ret v=>exact q3
 |false=>
  rw[if_neg zam];exact wpAny_execs_nil ⟨σ1,H2,I2,q2⟩
end
structure It where
 go:Nat->Hp->Prop
 yld:Nat->Hp->V->Hp->Prop
 stop:Nat->Hp->Prop
def gK(X:Cx)(pins:List (Addr×Obj))(H:Hp)(b:Addr):Prop :=
 H b=none/\b≠X.env.locals/\b∉X.fs/\(b∈X.ex\/X.s₀.heap.objs.size<=b)/\(∀x c,X.env.cells.lookup x=some c->c≠b)/\∀p∈X.pn++pins,p.1≠b
theorem Inv.pq{X:Cx}{pins:List (Addr×Obj)}{σ:St}{H H':Hp}{s:Shared}{b:Addr}(I:Inv X pins σ H s)(hb:s.heap.objs.size<=b)(hn:H' b=none):gK X pins H' b:=by
 refine⟨hn,Nat.ne_of_gt (zaF I.lt hb),I.Mr hb,.inr (zaX I.sz hb),λx c e z=>?_,λp hp z=>?_⟩
 ·obtain⟨v,q⟩:=I.cell x c e
  exact absurd (zaF q.lt (by rw[z];exact hb)) (za3 _)
 ·exact absurd (zaF (zaq (I.pin p hp).1) (by rw[z];exact hb)) (za3 _)
structure Turn(P:Program)(w:World)(K:zag)(tg:Expr)(J:It)(fp:List Addr)(it:Addr)(tn:Nat->Heap->Prop):Prop where
 mem:it∈fp
 obj:∀i h,tn i h->∀b∈fp,∃o,h.get? b=some o/\∀v,o.data≠.cell v
 keep:∀i h h',tn i h->(∀b∈fp,∀o,h.get? b=some o->h'.get? b=some o)->tn i h'
 item:∀(X:Cx),X.prog=P->X.w=w->X.K=K->X.calm=true->∀(i:Nat) (pins:List (Addr×Obj)) (s:Shared) (σ:St) (H:Hp) (E:Value->Shared->Prop),Inv X pins σ H s->(∀b∈fp,gK X pins H b)->tn i s.heap->J.go i H->
  wpAny (model P w) X.A (pyNext (.ref it)) (λr s1=>∃u,r=some u/\
   wpAny (model P w) X.A (letOwnedTupleGo tg (.ref it) u) (λ_ s2=>∃x H',Inv X pins σ H' s2/\RelV x u/\J.yld i H x H'/\tn (i+1) s2.heap/\∀b∈fp,H' b=none) E s1) E s
 done:∀(X:Cx),X.prog=P->X.w=w->X.K=K->X.calm=true->∀(i:Nat) (pins:List (Addr×Obj)) (s:Shared) (σ:St) (H:Hp) (E:Value->Shared->Prop),Inv X pins σ H s->(∀b∈fp,gK X pins H b)->tn i s.heap->J.stop i H->
  wpAny (model P w) X.A (pyNext (.ref it)) (λr s1=>r=none/\Inv X pins σ H s1) E s
 self:∀(A:Around) (i:Nat) (s:Shared) (Q:Value->Shared->Prop) (E:Value->Shared->Prop),tn i s.heap->Q (.ref it) s->wpAny (model P w) A (pyIter (.ref it)) Q E s
abbrev TI:=St->Hp->(It->Hp->Prop)->Prop
def PIE(X:Cx)(pins:List (Addr×Obj))(σ:St)(tg:Expr)(R:It->Hp->Prop)(itv:Value)(s2:Shared):Prop :=
 ∃(it:Addr) (fp:List Addr) (tn:Nat->Heap->Prop) (J:It) (H':Hp),itv=.ref it/\Inv X pins σ H' s2/\Turn X.prog X.w X.K tg J fp it tn/\tn 0 s2.heap/\(∀b∈fp,gK X pins H' b)/\R J H'
def PI(X:Cx)(tg iter:Expr)(wi:TI):Prop :=
 ∀(pins:List (Addr×Obj)) (s:Shared) (σ:St) (H:Hp) (R:It->Hp->Prop),Inv X pins σ H s->wi σ H R->
  wpAny (model X.prog X.w) X.A (eval iter X.env) (λv s1=>wpAny (model X.prog X.w) X.A (pyIter v) (PIE X pins σ tg R) X.xe s1) X.xe s
theorem yX(ho:s.heap.get? it=some o)(hc:o.cls=.type n)(hd:o.data=.fields vs)
  (hn : ["enumerate","zip","dict_itemiterator","dict_reverseitemiterator","odict_iterator","itertools.zip_longest","itertools.pairwise"].contains n=false) (hQ:Q () s):wpAny M A (letOwnedTupleGo tg (.ref it) u) Q E s:=by
 unfold letOwnedTupleGo;cases tg<;>first
  |exact zaZ hQ
  |(cases u<;>first
    |exact zaZ hQ
    | (refine zaI (wpAny_load ho ?_)
       rw[hc,hd];show wpAny M A (if(["enumerate","zip","dict_itemiterator","dict_reverseitemiterator","odict_iterator","itertools.zip_longest","itertools.pairwise"].contains n&&vs[0]? ==some (rawInt _))=true then _ else _) Q E s
       rw[if_neg (by intro h;rw[hn,Bool.false_and]at h;cases h)]
       exact zaZ hQ))
def Itl(K:zag)(a:Addr):It :=
 ⟨λi H=>∃xs x,SqL K H a xs/\xs[i]?=some x,λi H x H'=>H'=H/\∀xs,SqL K H a xs->xs[i]?=some x,λi H=>∃xs,SqL K H a xs/\xs.length<=i⟩
def Itt(K:zag)(a:Addr):It :=
 ⟨λi H=>∃xs x,SqT K H a xs/\xs[i]?=some x,λi H x H'=>H'=H/\∀xs,SqT K H a xs->xs[i]?=some x,λi H=>∃xs,SqT K H a xs/\xs.length<=i⟩
theorem Ao{P:Program}{w:World}{K:zag}{tg:Expr}(a it:Addr):Turn P w K tg (Itl K a) [it] it (λi h=>h.IsListIter it a i) where
 mem:=by simp
 obj:=λi h st b hb=>by
  have e:b=it:=by simpa using hb
  subst e;obtain⟨o,e,c,d⟩:=st;exact⟨o,e,λv z=>by rw[d]at z;cases z⟩
 keep:=λi h h' st k=>st.at λo e=>k it (by simp) o e
 item:=by
  intro X hP hw hK hc i pins s σ H E I hf st hg;subst hP hw hK;obtain⟨xs,x,hq,hx⟩:=hg;obtain⟨its,rv,p,hz⟩:=I.list hq;obtain⟨u,hu,ru⟩:=rv.get hx;obtain⟨f0,f1,f2,f3,f4,f5⟩:=hf it (by simp)
  refine wpAny_pyNext_list_item st p.isList (x:=u) (by simpa using hu) λh' st' sb=>?_
  have I1:Inv X pins σ H {s with heap:=h'}:=I.turned (t':=s.toks) (λb o hb e=>(sb.2 b hb).trans e) f0 f1 f3 f4 f5
  obtain⟨o,e,c,d⟩:=id st';exact⟨u,rfl,yX (s:={s with heap:=h'}) e c d (by decide) ⟨x,H,I1,ru,⟨rfl,λys hy=>by rw[I.vc hy hq];exact hx⟩,st',λb hb=>(hf b hb).1⟩⟩
 done:=by
  intro X hP hw hK hc i pins s σ H E I hf st hg;subst hP hw hK;obtain⟨xs,hq,hx⟩:=hg;obtain⟨its,rv,p,hz⟩:=I.list hq;obtain⟨f0,f1,f2,f3,f4,f5⟩:=hf it (by simp)
  have hl:=rv.length;exact wpAny_pyNext_list_end (I.ok.hd hc) st p.isList (by simp;omega) λh' eb=>⟨rfl,I.turned (t':=s.toks) (λb o hb e=>eb b o hb e) f0 f1 f3 f4 f5⟩
 self:=λ_ _ _ _ _ st h=>wpAny_pyIter_listiter st h
theorem xo{P:Program}{w:World}{K:zag}{tg:Expr}(a it:Addr):Turn P w K tg (Itt K a) [it] it (λi h=>h.IsTupleIter it a i) where
 mem:=by simp
 obj:=λi h st b hb=>by
  have e:b=it:=by simpa using hb
  subst e;obtain⟨o,e,c,d⟩:=st;exact⟨o,e,λv z=>by rw[d]at z;cases z⟩
 keep:=λi h h' st k=>st.at λo e=>k it (by simp) o e
 item:=by
  intro X hP hw hK hc i pins s σ H E I hf st hg;subst hP hw hK;obtain⟨xs,x,hq,hx⟩:=hg;obtain⟨its,rv,p,hz⟩:=I.tuple hq;obtain⟨u,hu,ru⟩:=rv.get hx;obtain⟨f0,f1,f2,f3,f4,f5⟩:=hf it (by simp)
  refine wpAny_pyNext_tuple_item st (show s.heap.IsTuple a its.toArray from p) (x:=u) (by simpa using hu) λh' st' sb=>?_
  have I1:Inv X pins σ H {s with heap:=h'}:=I.turned (t':=s.toks) (λb o hb e=>(sb.2 b hb).trans e) f0 f1 f3 f4 f5
  obtain⟨o,e,c,d⟩:=id st';exact⟨u,rfl,yX (s:={s with heap:=h'}) e c d (by decide) ⟨x,H,I1,ru,⟨rfl,λys hy=>by rw[I.An hy hq];exact hx⟩,st',λb hb=>(hf b hb).1⟩⟩
 done:=by
  intro X hP hw hK hc i pins s σ H E I hf st hg;subst hP hw hK;obtain⟨xs,hq,hx⟩:=hg;obtain⟨its,rv,p,hz⟩:=I.tuple hq;obtain⟨f0,f1,f2,f3,f4,f5⟩:=hf it (by simp)
  have hl:=rv.length;exact wpAny_pyNext_tuple_end (I.ok.hd hc) st (show s.heap.IsTuple a its.toArray from p) (by simp;omega) λh' eb=>⟨rfl,I.turned (t':=s.toks) (λb o hb e=>eb b o hb e) f0 f1 f3 f4 f5⟩
 self:=λ_ _ _ _ _ st h=>wpAny_pyIter_tupleiter st h
section
variable{X:Cx}{tg:Expr}
def ve(K:zag)(tl:TE):TI:=fun σ H R=>tl σ H λx H1=>∃a,x=.ref a/\(∃xs,SqL K H1 a xs)/\R (Itl K a) H1
def EO(K:zag)(tl:TE):TI:=fun σ H R=>tl σ H λx H1=>∃a,x=.ref a/\(∃xs,SqT K H1 a xs)/\R (Itt K a) H1
theorem yY(hl:PE X l tl):PI X tg l (ve X.K tl):=by
 intro pins s σ H R I h;refine thn (hl pins s σ H _ I h) λv s1 ⟨x,H1,I1,r1,q1⟩=>?_
 obtain⟨a,e,⟨xs,hq⟩,q⟩:=q1;subst e;cases r1;obtain⟨its,rv,p,hz⟩:=I1.list hq;refine wpAny_pyIter_list p.isList ?_;refine⟨s1.heap.objs.size,[s1.heap.objs.size],_,_,H1,rfl,I1.kept (t':=s1.toks) λb o e=>zar _ e,Ao a _,⟨_,zaL _ rfl,rfl,rfl⟩,λb hb=>?_,q⟩
 have e:b=s1.heap.objs.size:=by simpa using hb
 subst e;exact I1.pq (zap _) (I1.hok.fresh (zap _))
theorem IJ(hl:PE X l tl):PI X tg l (EO X.K tl):=by
 intro pins s σ H R I h;refine thn (hl pins s σ H _ I h) λv s1 ⟨x,H1,I1,r1,q1⟩=>?_
 obtain⟨a,e,⟨xs,hq⟩,q⟩:=q1;subst e;cases r1;obtain⟨its,rv,p,hz⟩:=I1.tuple hq;refine wpAny_pyIter_tuple (show s1.heap.IsTuple a its.toArray from p) ?_;refine⟨s1.heap.objs.size,[s1.heap.objs.size],_,_,H1,rfl,I1.kept (t':=s1.toks) λb o e=>zar _ e,xo a _,⟨_,zaL _ rfl,rfl,rfl⟩,λb hb=>?_,q⟩
 have e:b=s1.heap.objs.size:=by simpa using hb
 subst e;exact I1.pq (zap _) (I1.hok.fresh (zap _))
def Ap(wi:TI)(g:TG)(tb:TS):TS:=λD σ H=>wi σ H λJ H1=>∃W:Nat->Nat->St->Hp->Prop,(∃m,W 0 m σ H1)/\∀i m σ H,W i m σ H->
 (J.stop i H/\D.nx σ H)\/(J.go i H/\∃N:St->Hp->Prop,(∀σ' H',N σ' H'->∃m',m'<m/\W (i+1) m' σ' H')/\∀x H',J.yld i H x H'->g x σ H' fun σ2 H2=>tb {D with nx:=N,ct:=N,bk:=D.nx} σ2 H2)
def dG(fp:List Addr)(h:Heap):List (Addr×Obj):=fp.filterMap λb=>(h.get? b).map λo=>(b,o)
theorem a7(hb:b∈fp)(e:h.get? b=some o):(b,o)∈dG fp h:=List.mem_filterMap.mpr ⟨b,hb,by rw[e];rfl⟩
theorem fT(hp:p∈dG fp h):p.1∈fp/\h.get? p.1=some p.2:=by
 obtain⟨b,hb,e⟩:=List.mem_filterMap.mp hp;cases q:h.get? b with
 |none=>rw[q]at e;cases e
 |some o=>
  rw[q]at e;have e':(b,o)=p:=zaQ e;subst e';exact⟨hb,q⟩
theorem Inv.pinned{pins:List (Addr×Obj)}{σ:St}{H:Hp}{s:Shared}{fp:List Addr}(I:Inv X pins σ H s)(hf:∀b∈fp,gK X pins H b)(ho:∀b∈fp,∃o,s.heap.get? b=some o/\∀v,o.data≠.cell v):Inv X (pins++dG fp s.heap) σ H s :=
 I.yV λp hp=>(zae hp).elim (λz=>I.pin p (zan _ z)) λz=>by
  obtain⟨hb,e⟩:=fT z;obtain⟨f0,f1,f2,_⟩:=hf p.1 hb;obtain⟨o,e',d⟩:=ho p.1 hb;rw[e]at e';cases e'
  exact⟨e,f0,f1,f2,d⟩
theorem Inv.cR{pins pl:List (Addr×Obj)}{σ:St}{H:Hp}{s:Shared}(I:Inv X (pins++pl) σ H s):Inv X pins σ H s:=I.yV λp hp=>I.pin p (zan _ (zaW _ hp))
theorem lx(hp:PassesOwn (model X.prog X.w) X.A X.env X.xe)(hc:X.calm=true)(hi:PI X tg iter wi)(hg:PG X tg g)(hb:PSs X body tb)
  (hs:∀x,foldedSetIterable iter X.env x=pure x:=by intro _;rfl):PS X (.For tg iter body [] pos) (Ap wi g tb):=by
 intro pins s σ H D I h;refine wpAny_For (thn (hi pins s σ H _ I h) λv s1 h1=>thn h1 λitv s2 h2=>?_) hs
 obtain⟨it,fp,tn,J,H2,e,I2,T,st2,f2,W,⟨m0,w0⟩,turn⟩:=h2;subst e;have stat:∀{H':Hp},(∀b∈fp,H' b=none)->∀b∈fp,gK X pins H' b:=λhn b hb=>⟨hn b hb,(f2 b hb).2⟩
 refine codeAny_forLoop_any (λn s'=>∃i σ' H',Inv X pins σ' H' s'/\tn i s'.heap/\(∀b∈fp,H' b=none)/\W i n σ' H') ?_ m0 ⟨0,σ,H2,I2,st2,λb hb=>(f2 b hb).1,w0⟩
 rintro n s3 ⟨i,σ3,H3,I3,st3,fr3,w3⟩
 rcases turn i n σ3 H3 w3 with⟨stop,qn⟩|⟨go,N,hN,step⟩
 ·refine wpAny_passesOwn hp (thn (T.done X rfl rfl rfl hc i pins s3 σ3 H3 X.xe I3 (stat fr3) st3 stop) λr s4 ⟨hr,I4⟩=>?_)
  subst hr;exact wpAny_execs_nil ⟨σ3,H3,I4,qn⟩
 ·refine wpAny_passesOwn hp (thn (T.item X rfl rfl rfl hc i pins s3 σ3 H3 X.xe I3 (stat fr3) st3 go) λr s4 ⟨u,hr,h4⟩=>?_)
  subst hr;refine wpAny_passesOwn hp (thn h4 λ_ s5 ⟨x,H5,I5,r5,y5,st5,fr5⟩=>?_)
  have I5':=I5.pinned (stat fr5) (T.obj _ _ st5);refine wpAny_passesOwn hp (thn (hg _ s5 σ3 H5 x u _ I5' r5 (step x H5 y5)) λ_ s6 ⟨σ6,H6,I6,q6⟩=>?_)
  refine wpAny_passesOwn hp (thn (hb _ s6 σ6 H6 _ I6 q6) λf s7 q7=>?_)
  have again:∀{σ7:St} {H7:Hp},Inv X (pins++dG fp s5.heap) σ7 H7 s7->N σ7 H7->∃m,m<n/\∃i σ' H',Inv X pins σ' H' s7/\tn i s7.heap/\(∀b∈fp,H' b=none)/\W i m σ' H':=fun{σ7 H7} I7 n7=>by
   obtain⟨m',hm,w7⟩:=hN σ7 H7 n7;refine⟨m',hm,i+1,σ7,H7,I7.cR,T.keep _ _ _ st5 λb hb o e=>(I7.pin (b,o) (zan _ (zan _ (a7 hb e)))).1,λb hb=>?_,w7⟩
   obtain⟨o,e,d⟩:=T.obj _ _ st5 b hb;exact(I7.pin (b,o) (zan _ (zan _ (a7 hb e)))).2.1
  cases f with
  |next=>obtain⟨σ7,H7,I7,n7⟩:=q7;exact again I7 n7
  |cont=>obtain⟨σ7,H7,I7,n7⟩:=q7;exact again I7 n7
  |brk=>obtain⟨σ7,H7,I7,q7⟩:=q7;exact⟨σ7,H7,I7.cR,q7⟩
  |ret v=>obtain⟨x7,σ7,H7,I7,r7,q7⟩:=q7;exact⟨x7,σ7,H7,I7.cR,r7,q7⟩
end
abbrev R2:=V->V->Hp->VK->Prop
def OpR(X:Cx)(f:Value->Value->Sem Value)(r:R2):Prop :=
 ∀(pins:List (Addr×Obj)) (s:Shared) (σ:St) (H:Hp) (x y:V) (v u:Value) (Q:VK),Inv X pins σ H s->RelV x v->RelV y u->r x y H Q->
  wpAny (model X.prog X.w) X.A (f v u) (EP X pins σ Q) X.xe s
def UnR(X:Cx)(f:Value->Sem Value)(r:V->Hp->VK->Prop):Prop :=
 ∀(pins:List (Addr×Obj)) (s:Shared) (σ:St) (H:Hp) (x:V) (v:Value) (Q:VK),Inv X pins σ H s->RelV x v->r x H Q->
  wpAny (model X.prog X.w) X.A (f v) (EP X pins σ Q) X.xe s
def dZ(X:Cx)(f:Value)(r:List V->Hp->VK->Prop):Prop :=
 ∀(pins:List (Addr×Obj)) (s:Shared) (σ:St) (H:Hp) (xs:List V) (us:List Value) (Q:VK),Inv X pins σ H s->Vals xs us->r xs H Q->
  wpAny (model X.prog X.w) X.A (call f us) (EP X pins σ Q) X.xe s
def tOp(r:R2)(ta tb:TE):TE:=fun σ H Q=>ta σ H λx H1=>tb σ H1 λy H2=>r x y H2 Q
def tUn(r:V->Hp->VK->Prop)(ta:TE):TE:=fun σ H Q=>ta σ H λx H1=>r x H1 Q
def rI(C:Int->Int->Prop)(g:Int->Int->V):R2:=λx y H Q=>∃i j,x=.int i/\y=.int j/\C i j/\Q (g i j) H
def rI0(g:Int->Int->V):R2:=λx y H Q=>∃i j,x=.int i/\y=.int j/\Q (g i j) H
def rU(g:Int->V):V->Hp->VK->Prop:=λx H Q=>∃i,x=.int i/\Q (g i) H
section
variable{X:Cx}{a b c:Expr}{ta tb tc:TE}{pos:Pos}
theorem IK(ha:PE X a ta)(hb:PE X b tb){pins:List (Addr×Obj)}{s:Shared}{σ:St}{H:Hp}{R:V->V->Hp->Prop}(I:Inv X pins σ H s)
  (h:ta σ H λx H1=>tb σ H1 λy H2=>R x y H2) {Q:Value->Shared->Prop} {f:Value->Value->Sem Value}
  (hf:∀v u s2 x y H2,Inv X pins σ H2 s2->RelV x v->RelV y u->R x y H2->wpAny (model X.prog X.w) X.A (f v u) Q X.xe s2) :
  wpAny (model X.prog X.w) X.A (eval a X.env) (λv s₁=>wpAny (model X.prog X.w) X.A (eval b X.env) (λu s₂=>wpAny (model X.prog X.w) X.A (f v u) Q X.xe s₂) X.xe s₁) X.xe s:=by
 refine thn (ha pins s σ H _ I h) λv s1 ⟨x,H1,I1,r1,q1⟩=>?_
 refine thn (hb pins s1 σ H1 _ I1 q1) λu s2 ⟨y,H2,I2,r2,q2⟩=>?_
 exact hf v u s2 x y H2 I2 r1 r2 q2
theorem bO(ho:OpR X (binaryOp op) r)(ha:PE X a ta)(hb:PE X b tb):PE X (.BinOp a op b pos) (tOp r ta tb):=by
 intro pins s σ H Q I h;exact wpAny_BinOp (IK ha hb I h λv u s2 x y H2 I2 rx ry q=>ho pins s2 σ H2 x y v u Q I2 rx ry q)
theorem KW(ho:UnR X (unaryOp op) r)(ha:PE X a ta):PE X (.UnaryOp op a pos) (tUn r ta):=by
 intro pins s σ H Q I h;exact UnaryOp_ (thn (ha pins s σ H _ I h) λv s1 ⟨x,H1,I1,r1,q1⟩=>ho pins s1 σ H1 x v Q I1 r1 q1)
theorem opI{f:Value->Value->Sem Value}{C:Int->Int->Prop}{g:Int->Int->Int}
  (rule:∀(i j:Int) (t u:Tok) (s:Shared) (Q:Value->Shared->Prop) (E:Value->Shared->Prop),C i j->Q (.int (g i j) s.toks) {s with toks:=s.toks+1}->wpAny (model X.prog X.w) X.A (f (.int i t) (.int j u)) Q E s) :
  OpR X f (rI C λi j=>.int (g i j)):=by
 intro pins s σ H x y v u Q I rx ry h;obtain⟨i,j,rfl,rfl,hc,q⟩:=h;obtain⟨t,rfl⟩:=rx;obtain⟨t',rfl⟩:=ry;exact rule i j t t' s _ _ hc ⟨.int (g i j),H,I.tok _,⟨_,rfl⟩,q⟩
theorem KY{f:Value->Value->Sem Value}{g:Int->Int->Int}
  (rule:∀(i j:Int) (t u:Tok) (s:Shared) (Q:Value->Shared->Prop) (E:Value->Shared->Prop),Q (.int (g i j) s.toks) {s with toks:=s.toks+1}->wpAny (model X.prog X.w) X.A (f (.int i t) (.int j u)) Q E s) :
  OpR X f (rI0 λi j=>.int (g i j)):=by
 intro pins s σ H x y v u Q I rx ry h;obtain⟨i,j,rfl,rfl,q⟩:=h;obtain⟨t,rfl⟩:=rx;obtain⟨t',rfl⟩:=ry;exact rule i j t t' s _ _ ⟨.int (g i j),H,I.tok _,⟨_,rfl⟩,q⟩
theorem IL{f:Value->Value->Sem Value}{g:Int->Int->Bool}
  (rule:∀(i j:Int) (t u:Tok) (s:Shared) (Q:Value->Shared->Prop) (E:Value->Shared->Prop),Q (.bool (g i j)) s->wpAny (model X.prog X.w) X.A (f (.int i t) (.int j u)) Q E s) :
  OpR X f (rI0 λi j=>.bl (g i j)):=by
 intro pins s σ H x y v u Q I rx ry h;obtain⟨i,j,rfl,rfl,q⟩:=h;obtain⟨t,rfl⟩:=rx;obtain⟨t',rfl⟩:=ry;exact rule i j t t' s _ _ ⟨.bl (g i j),H,I,rfl,q⟩
def ER(i j:Int):Prop:=0<j/\j<1073741824
def IM(i j:Int):Prop:=0<=j/\j<=1000000/\i.natAbs<2^64
def IQ(i j:Int):Prop:=(-(2^64)<i/\i<2^64)\/(-(2^64)<j/\j<2^64)
theorem IQ.ok(h:IQ i j):IntMulOk i j:=by
 rcases h with⟨h1,h2⟩|⟨h1,h2⟩
 ·exact .of_left (intBits_le_64 h1 h2)
 ·exact .of_right (intBits_le_64 h1 h2)
theorem IS:OpR X (binaryOp .Add) (rI0 λi j=>.int (i+j)):=KY λ_ _ _ _ _ _ _ q=>add_int q
theorem pz:OpR X (binaryOp .Sub) (rI0 λi j=>.int (i-j)):=KY λ_ _ _ _ _ _ _ q=>sub_int q
theorem fY:OpR X (binaryOp .FloorDiv) (rI ER λi j=>.int (i/j)):=opI λi j _ _ _ _ _ hc q=>by
 have h1:(0:Int)<j:=hc.1;have h2:j<1073741824:=hc.2;exact floordiv_int (by omega) (by rw[Int.fdiv_eq_ediv_of_nonneg i (by omega)];exact q) (.inl (PyProof.noPylong_small (by omega)))
theorem d3:OpR X (binaryOp .Mod) (rI (λ_ j=>0<j) λi j=>.int (i%j)):=opI λi j _ _ _ _ _ hc q=>by
 have h1:(0:Int)<j:=hc;exact mod_int' (by omega) (by rw[Int.fmod_eq_emod_of_nonneg i (by omega)];exact q)
theorem xp:OpR X (binaryOp .Pow) (rI IM λi j=>.int (i^j.toNat)):=opI λ_ _ _ _ _ _ _ hc q=>pow_int_small hc.1 hc.2.1 hc.2.2 q
theorem unI{f:Value->Sem Value}{g:Int->Int}
  (rule:∀(i:Int) (t:Tok) (s:Shared) (Q:Value->Shared->Prop) (E:Value->Shared->Prop),Q (.int (g i) s.toks) {s with toks:=s.toks+1}->wpAny (model X.prog X.w) X.A (f (.int i t)) Q E s) :
  UnR X f (rU λi=>.int (g i)):=by
 intro pins s σ H x v Q I rx h;obtain⟨i,rfl,q⟩:=h;obtain⟨t,rfl⟩:=rx;exact rule i t s _ _ ⟨.int (g i),H,I.tok _,⟨_,rfl⟩,q⟩
theorem IT:UnR X (unaryOp .USub) (rU λi=>.int (-i)):=unI λ_ _ _ _ _ q=>neg_int q
theorem BZ{pins:List (Addr×Obj)}{σ:St}{H:Hp}{s:Shared}{Q:VK}{k k':Bool}(I:Inv X pins σ H s)(q:Q (.bl k) H)(e:k=k'):EP X pins σ Q (.bool k') s:=by
 subst e;exact⟨.bl k,H,I,rfl,q⟩
theorem Hm:OpR X (compareOp .Lt) (rI0 λi j=>.bl (decide (i<j))):=IL λ_ _ _ _ _ _ _ q=>lt_int q
theorem KZ:OpR X (compareOp .Gt) (rI0 λi j=>.bl (decide (j<i))):=IL λ_ _ _ _ _ _ _ q=>gt_int q
theorem K0:OpR X (compareOp .GtE) (rI0 λi j=>.bl (decide (j<=i))):=IL λ_ _ _ _ _ _ _ q=>ge_int q
theorem sM:OpR X (compareOp .Is) (λx y H Q=>y=.non/\Q (.bl (decide (x=.non))) H):=by
 intro pins s σ H x y v u Q I rx ry h;obtain⟨rfl,q⟩:=h;cases ry;refine is_none_gen (BZ I q ?_);cases x<;>first
  |(cases rx;rfl)
  |(obtain⟨t,rfl⟩:=rx;rfl)
theorem sN:OpR X (compareOp .IsNot) (λx y H Q=>y=.non/\Q (.bl (!decide (x=.non))) H):=by
 intro pins s σ H x y v u Q I rx ry h;obtain⟨rfl,q⟩:=h;cases ry;refine isnot_none_gen (BZ I q ?_);cases x<;>first
  |(cases rx;rfl)
  |(obtain⟨t,rfl⟩:=rx;rfl)
theorem OpR.or(h:OpR X f r)(h':OpR X f r'):OpR X f (λx y H Q=>r x y H Q\/r' x y H Q):=by
 intro pins s σ H x y v u Q I rx ry q;rcases q with q|q
 ·exact h pins s σ H x y v u Q I rx ry q
 ·exact h' pins s σ H x y v u Q I rx ry q
theorem cF(b:Expr)(h:op≠.In:=by decide)(h2:op≠.NotIn:=by decide):behindInMarks op b=false:=by
 have e1:(op==CmpOp.In)=false:=by cases op<;>first|rfl|exact absurd rfl h
 have e2:(op==CmpOp.NotIn)=false:=by cases op<;>first|rfl|exact absurd rfl h2
 cases b<;>simp[behindInMarks,e1,e2]
theorem oO(ho:OpR X (compareOp op) r)(ha:PE X a ta)(hb:PE X b tb)(hm:behindInMarks op b=false):PE X (.Compare a [op] [b] pos) (tOp r ta tb):=by
 intro pins s σ H Q I h;exact wpAny_Compare1 (IK ha hb I h λv u s2 x y H2 I2 rx ry q=>ho pins s2 σ H2 x y v u Q I2 rx ry q) hm
def Hn(t:TE):TT:=fun σ H Q=>t σ H λx H'=>∃k,x=.bl k/\Q k H'
theorem cu(ho:OpR X (compareOp op) r)(ha:PE X a ta)(hb:PE X b tb)(hm:behindInMarks op b=false):PT X (.Compare a [op] [b] pos) (Hn (tOp r ta tb)):=by
 intro pins s σ H Q I h;refine wpAny_isTrue_Compare1 (thn (ha pins s σ H _ I h) λv s1 ⟨x,H1,I1,r1,q1⟩=>thn (hb pins s1 σ H1 _ I1 q1) λu s2 ⟨y,H2,I2,r2,q2⟩=>
  thn (ho pins s2 σ H2 x y v u _ I2 r1 r2 q2) λc s3 ⟨z,H3,I3,r3,k,e,q3⟩=>?_) hm
 subst e;cases r3;exact wpAny_truthy_bool ⟨H3,I3,q3⟩
def B6(r r':R2)(ta tb tc:TE):TE:=fun σ H Q=>ta σ H λx H1=>tb σ H1 λy H2=>r x y H2 λz H3=>∃k,z=.bl k/\
 (if k=true then tc σ H3 λw' H4=>r' y w' H4 Q else Q (.bl false) H3)
theorem B7(ho:OpR X (compareOp op) r)(ho':OpR X (compareOp op') r')(ha:PE X a ta)(hb:PE X b tb)(hc:PE X c tc)
  (hm:lastMarks [op,op'] [b,c]=false:=by with_unfolding_all rfl):PE X (.Compare a [op,op'] [b,c] pos) (B6 r r' ta tb tc):=by
 intro pins s σ H Q I h;refine Compare_chain (thn (ha pins s σ H _ I h) λv s1 ⟨x,H1,I1,r1,q1⟩=>chain_link (thn (hb pins s1 σ H1 _ I1 q1) λu s2 ⟨y,H2,I2,r2,q2⟩=>
  thn (ho pins s2 σ H2 x y v u _ I2 r1 r2 q2) λd s3 ⟨z,H3,I3,r3,k,e,q3⟩=>?_)) hm
 subst e;cases r3;refine wpAny_truthy_bool ?_;cases k with
 |false=>exact ite_ff ⟨.bl false,H3,I3,rfl,q3⟩
 |true=>exact ite_tt (chain_last (thn (hc pins s3 σ H3 _ I3 q3) λw' s4 ⟨z',H4,I4,r4,q4⟩=>ho' pins s4 σ H4 y z' u w' Q I4 r2 r4 q4))
theorem pA:(sizeLine:Nat)<2^63:=by rw[sizeLine_eq];decide
theorem xq:OpR X (binaryOp .Add) (λx y H Q=>∃i j,x=.str i/\y=.str j/\i.length+j.length<=sizeLine/\Q (.str (i++j)) H):=by
 intro pins s σ H x y v u Q I rx ry h;obtain⟨i,j,rfl,rfl,hz,q⟩:=h;obtain⟨t,rfl⟩:=rx;obtain⟨t',rfl⟩:=ry;exact add_str (λt' tk=>⟨.str (i++j),H,I.tok _,⟨_,rfl⟩,q⟩) hz
theorem vals1(r:Vals [x] us):∃u,us=[u]/\RelV x u:=by
 cases r with
 |cons r1 r2=>cases r2;exact⟨_,rfl,r1⟩
theorem vals2(r:Vals [x,y] us):∃u w',us=[u,w']/\RelV x u/\RelV y w':=by
 cases r with
 |cons r1 r2=>
  cases r2 with
  |cons r3 r4=>cases r4;exact⟨_,_,rfl,r1,r3⟩
end
structure IU(h:Heap)(x dx C:Addr)(mA:Str->Option Value):Prop where
 obj:h.get? x=some (PySem.W.instObj C dx)
 ns:h.Ns1 dx mA
 ne:dx≠x
theorem Aq{h:Heap}{dx:Addr}{mA:Str->Option Value}(n:h.Ns1 dx mA):∃od,h.get? dx=some od/\∀name,PySem.W.lookIn name od=some (mA name):=by
 obtain⟨o,es,ep,ho,hd,hk,_,hm⟩:=n;refine⟨o,ho,λname=>?_⟩
 have e:=hm name;unfold nsFind findBy at e;rw[<-Array.find?_toList]at e;unfold PySem.W.lookIn;rw[hd];dsimp only;split
 ·rename_i y q
  rw[q]at e;exact congrArg some e
 ·rename_i q
  rw[q]at e;have a:es.toList.any (·.refKey)=false:=by
   rw[List.any_eq_false];intro y hy;obtain⟨z,t,hkey⟩:=hk y (Array.mem_toList_iff.mp hy);simp[DictEntry.refKey,hkey]
  have a' : ¬es.toList.any (·.refKey)=true:=by rw[a];exact zam
  rw[if_neg a'];exact congrArg some e
theorem IU.look(I:IU h x dx C mA):∃od,PySem.W.InstAt h x (PySem.W.instObj C dx) C (some od)/\∀name,PySem.W.lookIn name od=some (mA name) :=
 let⟨od,ho,hl⟩:=Aq I.ns
 ⟨od,⟨I.obj,rfl,rfl,ho⟩,hl⟩
def IV(f:Str)(v:V):List (Str×V)->List (Str×V)
 | []=>[(f,v)]
 |(g,x)::r=>if g=f then(g,v)::r else(g,x)::IV f v r
theorem kW.some_of(r:kW (some v) o):∃u,o=some u/\RelV v u:=by
 cases o with
 |none=>exact(show False from r).elim
 |some u=>exact⟨u,rfl,r⟩
section
variable{P:Program}{w:World}{H H':Hp}{h h':Heap}{a C dx:Addr}{fs fs':List (Str×V)}
theorem ES(hok:HOk P w H h)(e:H a=some (.ins C dx fs)):∃mA,IU h a dx C mA/\(∀f,kW (fs.lookup f) (mA f))/\PySem.Within mA (fs.map (·.1))/\fs.length<=1000/\H dx=some (.own a):=by
 obtain⟨d,z,ne,ob,mA,n,r,q⟩:=(show bR P w H h a (.ins C dx fs)from hok a _ e);exact⟨mA,⟨ob,n,ne⟩,r,q,z,d⟩
end
structure Cls(K:zag)(C:Addr):Prop where
 pg:PySem.W.plainGet K C Str.empty=true
 hd:PySem.W.hasDictIn K C=true
 po:PySem.W.plainOver K C=true
 sa:PySem.W.findIn K (.ref C) "__setattr__"=some (some (.builtin "object.__setattr__"))
theorem Cls.get{K:zag}{C:Addr}(c:Cls K C)(f:Str):PySem.W.plainGet K C f=true:=c.pg
structure Con(K:zag)(C:Addr)(f:Str)(v:V)(u:Value):Prop where
 at_:PySem.W.findIn K (.ref C) f=some (some u)
 rel:RelV v u
 get:PySem.W.specialIn K u "__get__"=some none
 cp:PySem.W.copiedNames.contains f=false
structure Meth(K:zag)(C:Addr)(m:Str)(f:Addr):Prop where
 at_:PySem.W.findIn K (.ref C) m=some (some (.ref f))
 fn:PySem.W.isFn K (.ref f)=true
 kp:PySem.W.keepIn K (.ref f)=true
section
variable{X:Cx}{pins:List (Addr×Obj)}{σ:St}{H:Hp}{s:Shared}{A:Around}{E:Value->Shared->Prop}{Q:Value->Shared->Prop}{c:Value}{b:Bool}
inductive m4(K:zag)(H:Hp):V->Value->Prop where
 |non:m4 K H .non (.type "NoneType")
 |bl (x:Bool):m4 K H (.bl x) (.type "bool")
 |int (i:Int):m4 K H (.int i) (.type "int")
 |str (x:Str):m4 K H (.str x) (.type "str")
 |flt (x:UInt64):m4 K H (.flt x) (.type "float")
 |lst {a:Addr} {xs:List V} (e:H a=some (.lst xs)):m4 K H (.ref a) (.type "list")
 |frz {a:Addr} {o:Obj} {xs:List V} (e:H a=some (.frz o (.lst xs))):m4 K H (.ref a) (.type "list")
 |tup {a:Addr} {xs:List V} (e:H a=some (.tup xs)):m4 K H (.ref a) (.type "tuple")
 |dK {a:Addr} {kvs:List (Key×V)} (e:H a=some (.dK kvs)):m4 K H (.ref a) (.type "dict")
 |dT {a:Addr} {kvs:List (List Key×V)} (e:H a=some (.dT kvs)):m4 K H (.ref a) (.type "dict")
 |ins {a C dx:Addr} {fs:List (Str×V)} (e:H a=some (.ins C dx fs)) (cl:Cls K C) (ha:PySem.W.findIn K (.ref C) "__class__"=some (some (.builtin "object.__class__")))
   (hn:PySem.W.specialIn K (.builtin "object.__class__") "__get__"=some (some (.builtin "getset_descriptor.__get__"))) (htk:PySem.W.takesIn K (.builtin "object.__class__")=some true)
   (hm:PySem.W.mroIn K C (.type "object")=some true):m4 K H (.ref a) (.ref C)
theorem Ar(I:Inv X pins σ H s)(rx:RelV x u)(ty:m4 X.K H x t)(e:PySem.W.kitOne X.K t c=some b)(h:∀tk,Q (.bool b) {s with toks:=tk}) :
  wpAny (model X.prog X.w) A (call (.builtin "isinstance") [u,c]) Q E s:=by
 cases ty with
 |non=>cases(show u=Value.none from rx);exact za4 PySem.W.kitx_none I.kIn True.intro e (λz=>nomatch z) h
 |bl y=>cases(show u=Value.bool y from rx);exact za4 PySem.W.kitx_bool I.kIn True.intro e (λz=>nomatch z) h
 |int i=>obtain⟨t,q⟩:=(show∃t,u=Value.int i t from rx);cases q;exact za4 PySem.W.kitx_int I.kIn True.intro e (λz=>nomatch z) h
 |str y=>obtain⟨t,q⟩:=(show∃t,u=Value.str y t from rx);cases q;exact za4 PySem.W.kitx_str I.kIn True.intro e (λz=>nomatch z) h
 |flt y=>obtain⟨t,q⟩:=(show∃t,u=Value.float y t from rx);cases q;exact za4 PySem.W.kitx_float I.kIn True.intro e (λz=>nomatch z) h
 | @lst a xs ea=>
  cases(show u=Value.ref a from rx);obtain⟨_,_,n,_,h1⟩:=(show bR X.prog X.w H s.heap a (.lst xs)from I.hok a _ ea);exact za4 PySem.W.kitx_list I.kIn ⟨_,h1,rfl⟩ e (λz=>nomatch z) h
 | @frz a ob xs ea=>
  cases(show u=Value.ref a from rx);obtain⟨_,_,_,n,_,h1⟩:=(show bR X.prog X.w H s.heap a (.frz ob (.lst xs))from I.hok a _ ea);exact za4 PySem.W.kitx_list I.kIn ⟨_,h1,rfl⟩ e (λz=>nomatch z) h
 | @tup a xs ea=>
  cases(show u=Value.ref a from rx);obtain⟨_,_,_,p⟩:=(show bR X.prog X.w H s.heap a (.tup xs)from I.hok a _ ea);obtain⟨o,h1,h2,_⟩:=p;exact za4 PySem.W.kitx_tuple I.kIn ⟨o,h1,h2⟩ e (λz=>nomatch z) h
 | @dK a kvs ea=>
  cases(show u=Value.ref a from rx);obtain⟨_,_,vs,_,p⟩:=(show bR X.prog X.w H s.heap a (.dK kvs)from I.hok a _ ea);obtain⟨o,es,ep,h1,h2,_⟩:=p;exact za4 PySem.W.kitx_dict I.kIn ⟨o,h1,h2.1⟩ e (λz=>nomatch z) h
 | @dT a kvs ea=>
  cases(show u=Value.ref a from rx);obtain⟨_,_,xs,_,o,es,ep,h1,h2,_⟩:=(show bR X.prog X.w H s.heap a (.dT kvs)from I.hok a _ ea);exact za4 PySem.W.kitx_dict I.kIn ⟨o,h1,h2.1⟩ e (λz=>nomatch z) h
 | @ins a C dx fs ea cl ha hn htk hm=>
  cases(show u=Value.ref a from rx);obtain⟨mA,O,_⟩:=ES I.hok ea;obtain⟨od,J,_⟩:=O.look;exact za4 (PySem.W.kitx_own (cl.get _) cl.hd ha hn htk hm) I.kIn J e (λz=>nomatch z) h
end
structure dh(k:Nat)(A:Around):Prop where
 hd:A.handled=none
 dp:A.depth+3*k+5<recursionLimit
 un:A.units+16*k+200<cLine
theorem dh.mono(r:dh k A)(h:j<=k):dh j A:=⟨r.hd,by have:=r.dp;omega,by have:=r.un;omega⟩
theorem dh.deeper(r:dh (k+1) A)(env:Env):dh k (A.deeper env) :=
 ⟨r.hd,by have:=r.dp;show A.depth+1+3*k+5<_;omega,by have:=r.un;show A.units+3+16*k+200<_;omega⟩
theorem dh.in1(r:dh (k+1) A):dh k A.in1 :=
 ⟨r.hd,by have:=r.dp;show A.depth+3*k+5<_;omega,by have:=r.un;show A.units+1+16*k+200<_;omega⟩
theorem dh.depth(r:dh k A):A.depth<recursionLimit:=by have:=r.dp;omega
theorem dh.units(r:dh k A):A.units+64<cLine:=by have:=r.un;omega
def vf:TA:=λ_ H Q=>Q [] H
def nZ(ta:TE)(tr:TA):TA:=fun σ H Q=>ta σ H λx H1=>tr σ H1 λxs H2=>Q (x::xs) H2
section
variable{X:Cx}{e:Expr}{es:List Expr}{te:TE}{t:TA}{pos:Pos}
theorem ax:PA X [] vf:=λ_ _ _ _ H Q I h=>Calls.spliced_nil ⟨[],H,I,.nil,h⟩
theorem aa(ha:PE X e te)(hr:PA X es t)(hs:starEach (e::es) X.env=(false,eval e X.env)::starEach es X.env:=by rfl):PA X (e::es) (nZ te t):=by
 intro pos pins s σ H Q I h;rw[hs];show wpAny _ _ (spliced ((false,eval e X.env)::backTo pos (starEach es X.env))) _ _ s;refine Calls.spliced_cons (thn (ha pins s σ H _ I h) λu s1 ⟨x,H1,I1,r1,q1⟩=>?_)
 exact thn (hr pos pins s1 σ H1 _ I1 q1) λus s2 ⟨xs,H2,I2,r2,q2⟩=>⟨x::xs,H2,I2,.cons r1 r2,q2⟩
def ET(t:TA):TE:=fun σ H Q=>t σ H λxs H1=>xs.length<=sizeLine/\∀p,H1 p=none->Q (.ref p) (upd H1 p (.tup xs))
def IW(t:TA):TE:=fun σ H Q=>t σ H λxs H1=>xs.length<=sizeLine/\∀p,H1 p=none->Q (.ref p) (upd H1 p (.lst xs))
theorem bG(h:PA X es t):PE X (.Tuple es x1 pos) (ET t):=by
 intro pins s σ H Q I hq;refine wpAny_Tuple_spliced (thn (h pos pins s σ H _ I hq) λus s1 ⟨xs,H1,I1,r,z,q⟩=>⟨by rw[<-r.length];exact z,?_⟩)
 have hf:H1 s1.heap.objs.size=none:=I1.hok.fresh (zap _);refine⟨.ref s1.heap.objs.size,upd H1 s1.heap.objs.size (.tup xs),I1.laid (t':=s1.toks) (λb u e=>zar _ e) (zap _) ?_,rfl,q _ hf⟩
 exact⟨z,us,r,⟨_,zaL _ rfl,rfl,_,rfl⟩⟩
theorem jk(h:PA X es t):PE X (.List es pos) (IW t):=by
 intro pins s σ H Q I hq;refine wpAny_List_spliced (thn (h pos pins s σ H _ I hq) λus s1 ⟨xs,H1,I1,r,z,q⟩=>⟨by rw[<-r.length];exact z,?_⟩)
 have hf:H1 s1.heap.objs.size=none:=I1.hok.fresh (zap _);refine⟨.ref s1.heap.objs.size,upd H1 s1.heap.objs.size (.lst xs),I1.laid (t':=s1.toks) (λb u e=>zar _ e) (zap _) ?_,rfl,q _ hf⟩
 exact⟨z,us,0,r,zaL _ rfl⟩
end
abbrev Sp:=List V->Hp->VK->XK->Prop
abbrev CXT:=List Env->Hp->Shared->XK->Value->Shared->Prop
structure qL(P:Program)(w:World)(K:zag)(mg:Str->Option Value)(base:Heap)(A:Around)(outer:List Env)(s:Shared)(H:Hp):Prop where
 frames:A.frames=some outer
 mod:Mod K mg base
 bs:∀b o,base.get? b=some o->s.heap.get? b=some o/\H b=none
 bsz:base.objs.size<=s.heap.objs.size
 kX:s.heap.FunFrames base outer
 frf:∀b∈frs outer,H b=none
 hok:HOk P w H s.heap
 bare:AllBare s.gens
 tab:∀c T ps,gk K=some (c,T,ps)->∃more,H T=some (.tbl (ps++more))
def CE(outer:List Env)(P:Program)(w:World)(H:Hp)(s:Shared)(Q:VK)(u:Value)(s':Shared):Prop :=
 ∃v H',s'.os=s.os/\AllBare s'.gens/\Un (frs outer) [] H H' s.heap s'.heap/\HOk P w H' s'.heap/\RelV v u/\Q v H'
def CR(CX:CXT)(outer:List Env)(P:Program)(w:World)(H:Hp)(s:Shared)(Q:VK)(E:XK)(r:Result)(s':Shared):Prop :=
 match r with
 | .ok (.ret u)=>CE outer P w H s Q u s'
 | .ok _=>False
 | .error e=>CX outer H s E e s'
structure iz(P:Program)(w:World)(K:zag)(mg:Str->Option Value)(base:Heap)(CX:CXT)(k:Nat)(f:Addr)(fd:FuncData)(ps:List Str)(sp:Sp):Prop where
 len:∀vs H Q E,sp vs H Q E->vs.length=ps.length
 run:∀(A:Around) (outer:List Env) (s:Shared) (H:Hp) (args:Args) (us:List Value) (vs:List V) (Q:VK) (E:XK),dh k A->qL P w K mg base A outer s H->BindsTo s fd args (ps.zip us)->Vals vs us->sp vs H Q E->
  codeAny (model P w) A (.call (.ref f) args) (CR CX outer P w H s Q E) s
theorem iz.imp{P:Program}{w:World}{K:zag}{mg:Str->Option Value}{base:Heap}{CX:CXT}{k:Nat}{f:Addr}{fd:FuncData}{ps:List Str}{sp sp':Sp}(F:iz P w K mg base CX k f fd ps sp)
  (h:∀vs H Q E,sp' vs H Q E->sp vs H Q E):iz P w K mg base CX k f fd ps sp' :=
 ⟨λvs H Q E q=>F.len vs H Q E (h _ _ _ _ q),λA outer s H args us vs Q E hr he hb hv hs=>F.run A outer s H args us vs Q E hr he hb hv (h _ _ _ _ hs)⟩
section
variable{X:Cx}{pins:List (Addr×Obj)}{σ:St}{H:Hp}{s s':Shared}
theorem Inv.env0(I:Inv X pins σ H s):qL X.prog X.w X.K X.mg X.base X.A X.stack s H :=
 ⟨I.ok.frames,I.ok.mod,I.bs,zaX I.ok.bsz I.sz,I.stack,I.lY,I.hok,I.bare,I.tab⟩
theorem Inv.after(I:Inv X pins σ H s)(h:CE X.stack X.prog X.w H s Q u s'):EP X pins σ Q u s':=by
 obtain⟨v,H',os,bare,un,hok,r,q⟩:=h;obtain⟨hh,g,d,t,os'⟩:=s';obtain rfl:os'=s.os:=os;exact⟨v,H',I.call (h':=hh) (g':=g) (d':=d) (t':=t) (ch:=[]) un hok bare (λb z=>absurd z (by simp)),r,q⟩
end
def n4(sp:Sp)(dvs:List V)(E:XK)(t:TA):TE:=fun σ H Q=>t σ H λvs H1=>sp (vs++dvs) H1 Q E
def Binds(K:zag)(fd:FuncData)(ps:List Str)(ds:List Value):Prop :=
 ∀(s:Shared) (us:List Value),K.In s.heap->(us++ds).length=ps.length->BindsTo s fd ⟨us,[]⟩ (ps.zip (us++ds))
theorem Binds.all{K:zag}{fd:FuncData}{ps:List Str}(h:∀us:List Value,us.length=ps.length->bindArgs fd ⟨us,[]⟩=pure (ps.zip us)):Binds K fd ps []:=λs us _ hl=>by
 rw[zaR]at hl⊢;exact .of_eq (h us hl)
def Passes(CX:CXT)(X:Cx)(E:XK):Prop:=∀(pins:List (Addr×Obj)) (σ:St) (H:Hp) (s:Shared) (e:Value) (s':Shared),Inv X pins σ H s->CX X.stack H s E e s'->X.xe e s'
section
variable{X:Cx}{CX:CXT}{k:Nat}{f C:Addr}{fd:FuncData}{ps:List Str}{sp:Sp}{dvs:List V}{ds:List Value}{E:XK}{x m:Str}{p pos apos:Pos}{e o:Expr}{es:List Expr}{ta:TE}{t:TA}
theorem B8{pins:List (Addr×Obj)}{σ:St}{H:Hp}{s:Shared}{Q:VK}{us:List Value}{vs:List V}(F:iz X.prog X.w X.K X.mg X.base CX k f fd ps sp)(hr:dh k X.A)(hb:Binds X.K fd ps ds)(hd:Vals dvs ds)(hx:Passes CX X E)
  (I:Inv X pins σ H s) (r:Vals vs us) (h:sp (vs++dvs) H Q E):wpAny (model X.prog X.w) X.A (call (.ref f) us) (EP X pins σ Q) X.xe s:=by
 have r2:Vals (vs++dvs) (us++ds):=r.append hd;have hl:(us++ds).length=ps.length:=by rw[<-r2.length];exact F.len _ _ _ _ h
 refine wpAny_call (codeAny_mono (F.run X.A X.stack s H ⟨us,[]⟩ (us++ds) (vs++dvs) Q E hr I.env0 (hb s us I.kIn hl) r2 h) λr s' hq=>?_)
 cases r with
 |error e=>exact hx pins σ H s e s' I hq
 |ok fl=>
  cases fl with
  |ret u=>exact I.after hq
  |next=>exact False.elim hq
  |brk=>exact False.elim hq
  |cont=>exact False.elim hq
theorem EU(F:iz X.prog X.w X.K X.mg X.base CX k f fd ps sp)(hr:dh k X.A)(hg:Gl X x)(hm:X.mg x=some (.ref f))(hk:PySem.W.keepIn X.K (.ref f)=true)(hb:Binds X.K fd ps ds)(hd:Vals dvs ds)(hx:Passes CX X E)
  (ha:PA X (e::es) t) (hdb:(x==("__debug__":Str))=false:=by decide) (he:starEach (e::es) X.env=(false,eval e X.env)::starEach es X.env:=by rfl) (hpl:(backTo pos (starEach es X.env)).any (·.1)=false:=by rfl) :
  PE X (.Call (.Name x p) (e::es) [] pos) (n4 sp dvs E t):=by
 intro pins s σ H Q I h;refine wpAny_Call_Name_kw (lZ I hg hm ?_ hdb);refine PySem.W.callWith_K (h₀:=X.base) I.ok.mod.kin hk (thn (ha pos pins s σ H _ I h) λus s1 ⟨vs,H1,I1,r,q⟩=>⟨I1.kIn,?_⟩) he hpl
 exact B8 F hr hb hd hx I1 r q
theorem B9(F:iz X.prog X.w X.K X.mg X.base CX k f fd ps sp)(hr:dh k X.A)(hg:Gl X x)(hm:X.mg x=some (.ref f))(hk:PySem.W.keepIn X.K (.ref f)=true)(hb:Binds X.K fd ps ds)(hd:Vals dvs ds)(hx:Passes CX X E)
  (hdb:(x==("__debug__":Str))=false:=by decide):PE X (.Call (.Name x p) [] [] pos) (n4 sp dvs E vf):=by
 intro pins s σ H Q I h;refine wpAny_Call_Name_kw (lZ I hg hm ?_ hdb);exact PySem.W.callWith_K0 I.kIn hk (B8 (us:=[]) F hr hb hd hx I .nil h)
structure Mk(K:zag)(C f:Addr):Prop where
 makes:PySem.W.makesIn K C=true
 init:PySem.W.findIn K (.ref C) "__init__"=some (some (.ref f))
 fn:PySem.W.isFn K (.ref f)=true
 kp:PySem.W.keepIn K (.ref C)=true
end
section
variable{X:Cx}{CX:CXT}{k:Nat}{f C:Addr}{fd:FuncData}{ps ks:List Str}{sp:Sp}{E:XK}{x m:Str}{p pos apos kpos:Pos}{e o:Expr}{es:List Expr}{kws:List Keyword}{te ta:TE}{t tk:TA}{nm:Option Str}
structure IX(K:zag)(fd:FuncData)(ps ks:List Str)(g:List Value->List Value->List Value)(gV:List V->List V->List V):Prop where
 to:∀(s:Shared) (us ws:List Value),K.In s.heap->(g us ws).length=ps.length->BindsTo s fd ⟨us,ks.zip ws⟩ (ps.zip (g us ws))
 rel:∀{vs:List V} {us:List Value} {zs:List V} {ws:List Value},Vals vs us->Vals zs ws->Vals (gV vs zs) (g us ws)
variable{g:List Value->List Value->List Value}{gV:List V->List V->List V}
end
structure bw(N P:List Str)(sc:Scope):Prop where
 kind:sc.kind=.function
 co:sc.isCoroutine=false
 gen:sc.isGenerator=false
 nd:N.Nodup
 pre:N.take P.length=P
 par:∀x∈P,sc.names.lookup x=some .local\/sc.names.lookup x=some .cell
 IY:∀y∈sc.names,y.2≠.free
theorem rn{kindOf:Str->Option NameKind}{x:Str}:∀{binds:List (Str×Value)} {m:Str->Option Value},(∀v,(x,v)∉binds)->bindL kindOf binds m x=m x
 | [],_,_=>rfl
 |(n,v)::r,m,h=>by
  unfold bindL;rw[rn λw hw=>h w (zak _ hw)]
  split
  ·have:x≠n:=by rintro rfl;exact h v zas
   simp[this]
  ·rfl
theorem rq{kindOf:Str->Option NameKind}{x:Str}:∀{binds:List (Str×Value)} {m:Str->Option Value},(∀v,(x,v)∉binds)->bindC kindOf binds m x=m x
 | [],_,_=>rfl
 |(n,v)::r,m,h=>by
  unfold bindC;rw[rq λw hw=>h w (zak _ hw)]
  split
  ·rfl
  ·have:x≠n:=by rintro rfl;exact h v zas
   simp[this]
theorem rA{kindOf:Str->Option NameKind}{x:Str}{v:Value}:∀{P:List Str} {vs:List Value} {i:Nat} {m:Str->Option Value},P.Nodup->P[i]?=some x->vs[i]?=some v->kindOf x=some .local->
  bindL kindOf (P.zip vs) m x=some v
 | [],_,_,_,_,h,_,_=>by simp at h
 |_::_,[],_,_,_,_,h,_=>by simp at h
 |p::P,w::vs,0,m,nd,h1,h2,hk=>by
  simp at h1 h2;subst h1;subst h2
  show bindL kindOf ((p,w)::P.zip vs) m p=_;unfold bindL;rw[rn λv hv=>(List.nodup_cons.mp nd).1 (List.of_mem_zip hv).1,if_pos hk]
  simp
 |p::P,w::vs,i+1,m,nd,h1,h2,hk=>by
  show bindL kindOf ((p,w)::P.zip vs) m x=_;unfold bindL;exact rA (i:=i) (List.nodup_cons.mp nd).2 (by simpa using h1) (by simpa using h2) hk
theorem rB{kindOf:Str->Option NameKind}{x:Str}{v:Value}:∀{P:List Str} {vs:List Value} {i:Nat} {m:Str->Option Value},P.Nodup->P[i]?=some x->vs[i]?=some v->kindOf x≠some .local->
  bindC kindOf (P.zip vs) m x=some v
 | [],_,_,_,_,h,_,_=>by simp at h
 |_::_,[],_,_,_,_,h,_=>by simp at h
 |p::P,w::vs,0,m,nd,h1,h2,hk=>by
  simp at h1 h2;subst h1;subst h2
  show bindC kindOf ((p,w)::P.zip vs) m p=_;unfold bindC;rw[rq λv hv=>(List.nodup_cons.mp nd).1 (List.of_mem_zip hv).1,if_neg hk]
  simp
 |p::P,w::vs,i+1,m,nd,h1,h2,hk=>by
  show bindC kindOf ((p,w)::P.zip vs) m x=_;unfold bindC;exact rB (i:=i) (List.nodup_cons.mp nd).2 (by simpa using h1) (by simpa using h2) hk
def start(N:List Str)(vs:List V):St:=vs.map some++List.replicate (N.length-vs.length) none
def ly(CX:CXT)(P:Program)(w:World)(K:zag)(mg:Str->Option Value)(base:Heap)(N:List Str)(qual:Str)(scope:Scope)(f:Addr)(cd:Value)(A:Around)(outer:List Env)(s:Shared)(H:Hp)(E:XK):Cx where
 prog:=P
 w:=w
 K:=K
 mg:=mg
 base:=base
 A:=A.deeper (envOfC qual scope s.heap.objs.size f cd)
 N:=N
 s₀:=s
 H₀:=H
 env:=envOfC qual scope s.heap.objs.size f cd
 outer:=outer
 stack:=envOfC qual scope s.heap.objs.size f cd::outer
 ex:=[]
 calm:=true
 fn:=λ_=>true
 pn:=[]
 xe:=λe s'=>wpAny (model P w) (A.deeper (envOfC qual scope s.heap.objs.size f cd)) (leaving (envOfC qual scope s.heap.objs.size f cd) e) (λ_ s''=>CX outer H s E e s'') (λe' s''=>CX outer H s E e' s'') s'
theorem vg{sc:Scope}{n:Nat}{x:Str}(h:sc.names.lookup x=some .cell):∃c,(cellsFrom n sc.names []).lookup x=some c:=by
 have q:=PySem.W.cellsFrom_some sc.names n [] (.inl h);exact Option.isSome_iff_exists.mp q
theorem As{CX:CXT}{P:Program}{w:World}{K:zag}{mg:Str->Option Value}{base:Heap}{N ps:List Str}{qual:Str}{scope:Scope}{f:Addr}{cd:Value}{A:Around}{outer:List Env}{s s1:Shared}{H:Hp}{E:XK}{us:List Value}{vs:List V}
  (S:bw N ps scope) (hd:A.handled=none) (e0:qL P w K mg base A outer s H) (hl:vs.length=ps.length) (r:Vals vs us)
  (x:InCallC s s.heap.objs.size (bindL (envOfC qual scope s.heap.objs.size f cd).kindOf (ps.zip us) λ_=>none) (cellsFrom (s.heap.objs.size+1) scope.names []) (bindC (envOfC qual scope s.heap.objs.size f cd).kindOf (ps.zip us) λ_=>none) s1) :
  Inv (ly CX P w K mg base N qual scope f cd A outer s H E) [] (start N vs) H s1:=by
 have hpl:ps.length<=N.length:=by have:=congrArg List.length S.pre;rw[List.length_take]at this;omega
 obtain⟨h1,tk,rfl,hk⟩:=x.done;have noA:∀b:Addr,b∉(ly CX P w K mg base N qual scope f cd A outer s H E).ex:=λb z=>absurd (show b∈([]:List Addr)from z) (by simp)
 refine⟨⟨e0.mod,S.kind,rfl,rfl,zap _,λy z c h1 h2=>?_,λy hy=>?_,λy c _ h=>?_,λ_=>hd,Around.frames_deeper e0.frames,.inr ⟨rfl,rfl⟩,λb z=>absurd z (noA b),e0.bs,e0.bsz,λb _ _=>noA b,λb z=>absurd z (noA b),e0.kX,e0.frf,e0.tab⟩,
  rfl,e0.bare,Un.kept hk,⟨_,x.toInCall.ns,λi y v h1 h2 h3=>?_⟩,λy c h=>⟨_,x.cell y c h⟩,e0.hok.fresh (zap _),λy c h=>?_,λp hp=>absurd (show p∈([]:List (Addr×Obj))from hp) (by simp),e0.hok.kept hk,?_⟩
 ·exact name_of_addr x.apart (za5 h1) (za5 h2)
 ·have hy:scope.names.lookup y=some .cell\/scope.names.lookup y=some .free:=hy
  rcases hy with hy|hy
  ·exact vg hy
  ·exact absurd rfl (S.IY _ (za5 hy))
 ·exact Nat.le_of_lt (x.above y c (za5 h))
 ·have hi:i<vs.length:=by
   unfold start at h2
   by_cases hi:i<vs.length
   ·exact hi
   ·rw[zaN (by simpa using hi)]at h2
    rw[List.getElem?_replicate]at h2;split at h2<;>cases h2
  have ha:vs[i]?=some v:=by
   unfold start at h2;rw[zax (by simpa using hi),zao]at h2
   cases e:vs[i]? with
   |none=>rw[e]at h2;cases h2
   |some a=>rw[e]at h2;cases h2;rfl
  obtain⟨u,hu,rv⟩:=r.get ha;have hp:ps[i]?=some y:=by
   rw[<-S.pre,List.getElem?_take_of_lt (by omega)];exact h1
  have ndP:ps.Nodup:=by rw[<-S.pre];exact S.nd.sublist (List.take_sublist _ _)
  refine⟨u,rv,?_⟩;rcases S.par y (zaj hp)with k|k
  ·exact .inl ⟨k,rA ndP hp hu k⟩
  ·obtain⟨c,e⟩:=vg (n:=s.heap.objs.size+1) k
   refine .inr ⟨.inl k,c,e,?_⟩;have q:=x.cell y c e;rw[rB ndP hp hu (by show scope.names.lookup y≠_;rw[k];decide)]at q
   exact q
 ·exact e0.hok.fresh (Nat.le_of_lt (x.above y c (za5 h)))
 ·unfold start
  show _=N.length;rw[zau,zal,List.length_replicate];omega
theorem d4{CX:CXT}{P:Program}{w:World}{K:zag}{mg:Str->Option Value}{base:Heap}{k:Nat}{f:Addr}{name qual:Str}{params:Arguments}{body:List Stmt}{scope:Scope}{dV kV doc pm cdv ct oc:Value}{an od:Option Addr}
  {osl:Array (Option Value)} {N ps:List Str} {sp:Sp} (lk:K.lookup f=some ⟨oc,od,.func (PySem.W.fnOf name qual params body scope dV kV doc pm an cdv ct),osl⟩) (hcd:PySem.W.codeIn K cdv qual=true) (S:bw N ps scope)
  (len:∀vs H Q E,sp vs H Q E->vs.length=ps.length)
  (hbody:∀(A:Around) (outer:List Env) (s:Shared) (H:Hp) (vs:List V) (Q:VK) (E:XK),dh k (A.deeper (envOfC qual scope s.heap.objs.size f cdv))->sp vs H Q E->
   ∃t,PSs (ly CX P w K mg base N qual scope f cdv A outer s H E) body t/\t {nx:=λ_ H'=>Q .non H',rt:=Q} (start N vs) H) :
  iz P w K mg base CX (k+1) f (PySem.W.fnOf name qual params body scope dV kV doc pm an cdv ct) ps sp:=by
 refine⟨len,λA outer s H args us vs Q E hr e0 hb r hsp=>?_⟩
 have hl:=len _ _ _ _ hsp;have KX:K.In s.heap:=e0.mod.kin.keeps λb o e=>(e0.bs b o e).1
 have lim:s.heap.NoLimit:=e0.mod.nolimit.keeps λb o e=>(e0.bs b o e).1
 have hkind:∀y∈ps.zip us,scope.names.lookup y.1=some .local\/(scope.names.lookup y.1=some .cell/\((cellsFrom (s.heap.objs.size+1) scope.names []).lookup y.1).isSome=true):=λ⟨n,v⟩ hy=>by
  rcases S.par n (List.of_mem_zip hy).1 with q|q
  ·exact .inl q
  ·exact .inr ⟨q,PySem.W.cellsFrom_some _ _ _ (.inl q)⟩
 refine codeAny_call_function hr.depth (KX _ _ lk) rfl S.co S.gen rfl (PySem.W.codeRec_of KX hcd) (hb _ _ _ _ ?_)
 refine wpAny_newFunctionEnv_cells S.kind hkind λenv he s1 x=>?_
 subst he;refine⟨lim.keeps x.toInCall.keep,codeAny_func ?_⟩
 obtain⟨t,ht,hq⟩:=hbody A outer s H vs Q E (hr.deeper _) hsp;have I:Inv (ly CX P w K mg base N qual scope f cdv A outer s H E) [] (start N vs) H s1:=As S hr.hd e0 hl r x;refine za6 (ht [] s1 (start N vs) H _ I hq) (λfl s' hs=>?_) λe s' hs=>hs
 have fin:∀{σ':St} {H':Hp} {v:V} {u:Value},Inv (ly CX P w K mg base N qual scope f cdv A outer s H E) [] σ' H' s'->RelV v u->Q v H'->CE outer P w H s Q u s' :=
  fun{σ' H' v u} J rv q=>⟨v,H',J.os,J.bare,J.base,J.hok,rv,q⟩
 cases fl with
 |ret u=>
  obtain⟨v,σ',H',J,rv,q⟩:=hs;exact fin J rv q
 |next=>
  obtain⟨σ',H',J,q⟩:=hs;exact fin (v:=V.non) (u:=Value.none) J rfl q
 |brk=>
  obtain⟨_,_,_,q⟩:=hs;exact False.elim q
 |cont=>
  obtain⟨_,_,_,q⟩:=hs;exact False.elim q
section
variable{X:Cx}{x:Str}{p pos:Pos}{e:Expr}{es:List Expr}{t:TA}{id T:String}{r:List V->Hp->VK->Prop}
def tCB(r:List V->Hp->VK->Prop)(t:TA):TE:=fun σ H Q=>t σ H λvs H1=>r vs H1 Q
theorem cG(hc:dZ X (.builtin id) r)(hg:Gl X x)(hm:X.mg x=none)(hv:bootBuiltins x=some (.builtin id))(ha:PA X (e::es) t)(hn:x≠"__name__":=by decide)(hdb:(x==("__debug__":Str))=false:=by decide)
  (he:starEach (e::es) X.env=(false,eval e X.env)::starEach es X.env:=by rfl) (hpl:(backTo pos (starEach es X.env)).any (·.1)=false:=by rfl):PE X (.Call (.Name x p) (e::es) [] pos) (tCB r t):=by
 intro pins s σ H Q I h;refine wpAny_Call_Name_kw (ph I hg hm hv ?_ hn hdb);exact PyProof.Rows.callWith_builtin1 (thn (ha pos pins s σ H _ I h) λus s1 ⟨vs,H1,I1,r1,q1⟩=>hc pins s1 σ H1 vs us Q I1 r1 q1) he hpl
theorem cQ(hc:dZ X (.type T) r)(hg:Gl X x)(hm:X.mg x=none)(hv:bootBuiltins x=some (.type T))(ha:PA X (e::es) t)(hn:x≠"__name__":=by decide)(hdb:(x==("__debug__":Str))=false:=by decide)
  (he:starEach (e::es) X.env=(false,eval e X.env)::starEach es X.env:=by rfl) (hpl:(backTo pos (starEach es X.env)).any (·.1)=false:=by rfl):PE X (.Call (.Name x p) (e::es) [] pos) (tCB r t):=by
 intro pins s σ H Q I h;refine wpAny_Call_Name_kw (ph I hg hm hv ?_ hn hdb);exact PyProof.Rows.callWith_type1 (thn (ha pos pins s σ H _ I h) λus s1 ⟨vs,H1,I1,r1,q1⟩=>hc pins s1 σ H1 vs us Q I1 r1 q1) he hpl
end
end L2
namespace HT
open PySem PyProof.Rows
theorem Ca(A:Around)(s:Shared)(a:Int)(t:Tok)(c:Int)(u:Tok)(prog:Program)(w:World)(E:Value->Shared->Prop)(Q:Value->Shared->Prop)(h:Q (.bool (decide (a<c))) s) :
  wpAny (model prog w) A (richCompare .Lt (.int a t) (.int c u)) Q E s :=
 (PyProof.Rows.lt_int h:wpAny (model prog w) A (compareOp .Lt (.int a t) (.int c u)) Q E s)
section
open PySem.SeqAt
open PySem.AutoSeq1 (wpAny_loadPart')
open PySem.MeetsSeq PySem.MeetsSeq2 PySem.MeetsSeq3
end
section
variable{prog:Program}{w:World}{A:Around}{E:Value->Shared->Prop}{s:Shared}
theorem EV(ht:IsTup s.heap t vs.toArray)(hb:IsTup s.heap b ws.toArray)(hv:vs≠[])
  (h1:ws=[]->Q (.ref t) s) (h2:ws≠[]->Q (.ref s.heap.objs.size) {s with heap:=s.heap.push {cls:=.type "tuple",data:=.seq (vs++ws).toArray}})
  (hsz:vs.length+ws.length<=sizeLine):wpAny (model prog w) A (binaryOp .Add (.ref t) (.ref b)) Q E s:=by
 obtain⟨⟨cls,dd,data,sl⟩,ho,hc,n,hd⟩:=id ht;obtain⟨⟨cls2,dd2,data2,sl2⟩,ho2,hc2,n2,hd2⟩:=id hb;simp only at hc hd hc2 hd2;subst hc hd hc2 hd2;have e:vs.toArray++ws.toArray=(vs++ws).toArray:=by simp
 by_cases hw:ws=[]
 ·exact concat_meets ⟨_,ho,rfl⟩ ⟨_,ho2,rfl⟩ noFill_tuple_add seq_tuple_add PySem.F.slot_tuple_add PySem.F.entry_tuple_add (PySem.F.args_tuple_add_2 _ _)
   (tuple_addW1 t b vs.toArray ws.toArray n n2 dd dd2 sl sl2 (by simpa using hv) (by simp[hw])) ⟨ho,ho2,h1 hw⟩
 ·refine concat_meets ⟨_,ho,rfl⟩ ⟨_,ho2,rfl⟩ noFill_tuple_add seq_tuple_add PySem.F.slot_tuple_add PySem.F.entry_tuple_add (PySem.F.args_tuple_add_2 _ _)
   (tuple_addW2 t b vs.toArray ws.toArray n n2 dd dd2 sl sl2 (by simpa using hv) (by simpa using hw) (by rw[zaK,zaK];exact hsz)) ⟨ho,ho2,?_⟩
  rw[e];exact h2 hw
def sIx(n d:Nat):Option Int->Nat
 |none=>d
 |some v=>if v<0 then(v+(n:Int)).toNat else min v.toNat n
end
end HT
namespace L2
open PySem PySem.Spec PyProof.Rows
abbrev TO:=St->Hp->(Option Int->Hp->Prop)->Prop
def PO(X:Cx)(e:Option Expr)(t:TO):Prop :=
 ∀(pins:List (Addr×Obj)) (s:Shared) (σ:St) (H:Hp) (Q:Option Int->Hp->Prop),Inv X pins σ H s->t σ H Q->
  wpAny (model X.prog X.w) X.A (evalPart e X.env) (λu s'=>∃o H',Inv X pins σ H' s'/\IsPart u o/\Q o H') X.xe s
def yZ:TO:=λ_ H Q=>Q none H
def Ho(t:TE):TO:=fun σ H Q=>t σ H λx H1=>∃i,x=.int i/\Q (some i) H1
section
variable{X:Cx}{e:Expr}{te:TE}{lo hi:Option Expr}{tl th:TO}{pos p2:Pos}
theorem EW:PO X none yZ:=by
 intro pins s σ H Q I h;rw[evalPart_none];exact zaZ ⟨none,H,I,.none,h⟩
theorem EX(h:PE X e te):PO X (some e) (Ho te):=by
 intro pins s σ H Q I hw;rw[evalPart_some];refine thn (h pins s σ H _ I hw) λu s1 ⟨x,H1,I1,r1,q1⟩=>?_
 obtain⟨i,rfl,q⟩:=q1;obtain⟨t,rfl⟩:=r1;exact⟨some i,H1,I1,.int i t,q⟩
def SlR(X:Cx)(r:V->Option Int->Option Int->Hp->VK->Prop):Prop :=
 ∀(pins:List (Addr×Obj)) (s:Shared) (σ:St) (H:Hp) (x:V) (v vl vu:Value) (lo hi:Option Int) (sl:Addr) (Q:VK),Inv X pins σ H s->RelV x v->s.heap.IsSliceOf sl vl vu .none->IsPart vl lo->IsPart vu hi->r x lo hi H Q->
  ∃T id,typeLookup (.type T) "__getitem__"=pure (some (.builtin id))/\s.TypeIs v T/\wpAny (model X.prog X.w) X.A (getItem v (.ref sl)) (EP X pins σ Q) X.xe s
def tSl(r:V->Option Int->Option Int->Hp->VK->Prop)(te:TE)(tl th:TO):TE:=fun σ H Q=>te σ H λx H1=>tl σ H1 λl H2=>th σ H2 λu H3=>r x l u H3 Q
theorem Cb(hr:SlR X r)(he:PE X e te)(hl:PO X lo tl)(hu:PO X hi th):PE X (.Subscript e (.Slice lo hi none p2) pos) (tSl r te tl th):=by
 intro pins s σ H Q I h;refine Subscript_ (thn (he pins s σ H _ I h) λv s1 ⟨x,H1,I1,r1,q1⟩=>?_)
 refine wpAny_Slice (thn (hl pins s1 σ H1 _ I1 q1) λvl s2 ⟨l,H2,I2,pl,q2⟩=>thn (hu pins s2 σ H2 _ I2 q2) λvu s3 ⟨u,H3,I3,pu,q3⟩=>?_)
 rw[evalPart_none];refine zaZ ?_;have I4:Inv X pins σ H3 {s3 with heap:=s3.heap.push {cls:=.type "slice",data:=.fields #[vl,vu,.none]}}:=I3.kept (t':=s3.toks) λb ob q=>zar _ q
 obtain⟨T,id,hT,ht,hg⟩:=hr pins {s3 with heap:=s3.heap.push {cls:=.type "slice",data:=.fields #[vl,vu,.none]}} σ H3 x v vl vu l u s3.heap.objs.size Q I4 r1 (Heap.IsSliceOf.new ..) pl pu q3
 show wpAny (model X.prog X.w) X.A (subscriptTail e (.Slice lo hi none p2) v (.ref s3.heap.objs.size)) (EP X pins σ Q) X.xe {s3 with heap:=s3.heap.push {cls:=.type "slice",data:=.fields #[vl,vu,.none]}}
 exact tail_any (ops:=[.ref s3.heap.objs.size,v]) ht hT hg (by with_unfolding_all rfl)
def Au(xs:List V)(lo hi:Option Int):List V:=(xs.drop (HT.sIx xs.length 0 lo)).take (HT.sIx xs.length xs.length hi-HT.sIx xs.length 0 lo)
theorem vh(xs:List V)(lo hi:Option Int):(Au xs lo hi).length<=xs.length:=by
 unfold Au;rw[List.length_take,List.length_drop];omega
def Hq(K:zag):R2:=λx y H Q=>∃a b xs ys,x=.ref a/\y=.ref b/\SqT K H a xs/\SqT K H b ys/\xs≠[]/\xs.length+ys.length<=sizeLine/\
 (ys=[]->Q (.ref a) H)/\(ys≠[]->∀p,H p=none->Q (.ref p) (upd H p (.tup (xs++ys))))
theorem Vals.sO(r:Vals xs us):us=[]↔xs=[]:=by
 cases r with
 |nil=>simp
 |cons _ _=>simp
theorem EY:OpR X (binaryOp .Add) (Hq X.K):=by
 intro pins s σ H x y v u Q I rx ry h;obtain⟨a,b,xs,ys,rfl,rfl,ha,hb,hx,hz,q1,q2⟩:=h;cases rx;cases ry;obtain⟨its,r1,p1,_⟩:=I.tuple ha;obtain⟨its2,r2,p2,_⟩:=I.tuple hb;refine HT.EV p1 p2 (λz=>hx (r1.sO.mp z)) (λz=>⟨.ref a,H,I,rfl,q1 (r2.sO.mp z)⟩) (λz=>?_) (by rw[<-r1.length,<-r2.length];exact hz)
 refine⟨.ref s.heap.objs.size,_,I.laid (t':=s.toks) (o:=.tup (xs++ys)) (λb ob q=>zar _ q) (zap _) ?_,rfl,q2 (λw=>z (r2.sO.mpr w)) _ (I.hok.fresh (zap _))⟩
 exact⟨by rw[zau];exact hz,_,r1.append r2,IsTup.new _ _⟩
end
def ixN(n:Nat)(i:Int):Option Nat:=if 0<=i then(if i<n then some i.toNat else none)else if-(n:Int)<=i then some (i+n).toNat else none
def atI{α:Type}(xs:List α)(i:Int):Option α:=(ixN xs.length i).bind λj=>xs[j]?
theorem EZ(h:ixN n i=some j):seqIndex? i n=some j/\j<n/\-(n:Int)<=i/\i<n:=by
 unfold ixN at h
 by_cases h0 : 0<=i
 ·rw[if_pos h0]at h
  by_cases h1:i<n
  ·rw[if_pos h1]at h
   have e:i.toNat=j:=zaQ h;exact⟨by rw[seqIndex_of h0 h1,e],by omega,by omega,h1⟩
  ·rw[if_neg h1]at h;cases h
 ·rw[if_neg h0]at h
  by_cases h1 : -(n:Int)<=i
  ·rw[if_pos h1]at h
   have e:(i+n).toNat=j:=zaQ h;exact⟨by rw[seqIndex_neg (by omega) h1,e],by omega,h1,by omega⟩
  ·rw[if_neg h1]at h;cases h
theorem sP(h:atI xs i=some v):∃j,seqIndex? i xs.length=some j/\xs[j]?=some v/\j<xs.length/\-(xs.length:Int)<=i/\i<xs.length:=by
 unfold atI at h;cases e:ixN xs.length i with
 |none=>rw[e]at h;cases h
 |some j=>
  rw[e]at h;obtain⟨h1,h2,h3,h4⟩:=EZ e;exact⟨j,h1,h,h2,h3,h4⟩
theorem y0{α:Type}{xs:List α}{j:Nat}{v : α}(h:xs[j]?=some v):atI xs (j:Int)=some v:=by
 have hj:j<xs.length:=(zac h).1;have e:ixN xs.length (j:Int)=some j:=by
  unfold ixN;rw[if_pos (by omega),if_pos (by omega)];simp
 unfold atI;rw[e];exact h
theorem vi(xs:List α)(v : α):atI (xs++[v]) (-1)=some v:=by
 have hl:(xs++[v]).length=xs.length+1:=by simp
 have e:ixN (xs++[v]).length (-1)=some xs.length:=by
  unfold ixN;rw[hl,if_neg (by decide),if_pos (by omega)]
  congr 1
  omega
 unfold atI;rw[e];show(xs++[v])[xs.length]?=some v;simp
def E6(b:Expr):Prop:=∀o i,subscripted b false o i=operate [o,i] (getItem o i)
def IxR(X:Cx)(r:R2):Prop :=
 ∀(value slice:Expr) (pins:List (Addr×Obj)) (s:Shared) (σ:St) (H:Hp) (x y:V) (v u:Value) (Q:VK),Inv X pins σ H s->RelV x v->RelV y u->r x y H Q->
  subscripted slice false v u=operate [v,u] (getItem v u)->wpAny (model X.prog X.w) X.A (subscriptTail value slice v u) (EP X pins σ Q) X.xe s
def MtR(X:Cx)(id:String)(r:V->List V->Hp->VK->Prop):Prop :=
 ∀(pins:List (Addr×Obj)) (s:Shared) (σ:St) (H:Hp) (x:V) (xs:List V) (v:Value) (us:List Value) (Q:VK),Inv X pins σ H s->RelV x v->Vals xs us->r x xs H Q->
  wpAny (model X.prog X.w) X.A (call (.builtin id) (v::us)) (EP X pins σ Q) X.xe s
section
variable{X:Cx}{a b:Expr}{ta tb:TE}{pos:Pos}
theorem IxR.or(h:IxR X r)(h':IxR X r'):IxR X (λx y H Q=>r x y H Q\/r' x y H Q):=by
 intro value slice pins s σ H x y v u Q I rx ry q hs;rcases q with q|q
 ·exact h value slice pins s σ H x y v u Q I rx ry q hs
 ·exact h' value slice pins s σ H x y v u Q I rx ry q hs
theorem aQ(hr:IxR X r)(ha:PE X a ta)(hb:PE X b tb)(hs:E6 b):PE X (.Subscript a b pos) (tOp r ta tb):=by
 intro pins s σ H Q I h;exact Subscript_ (IK ha hb I h λv u s2 x y H2 I2 rx ry q=>hr a b pins s2 σ H2 x y v u Q I2 rx ry q (hs _ _))
def K1(K:zag):R2:=λx y H Q=>∃p xs i v,x=.ref p/\y=.int i/\SqL K H p xs/\atI xs i=some v/\Q v H
def K3(K:zag):R2:=λx y H Q=>∃p xs i v,x=.ref p/\y=.int i/\SqT K H p xs/\atI xs i=some v/\Q v H
def K4:R2:=λx y H Q=>∃z i c,x=.str z/\y=.int i/\z.length<=sizeLine/\atI z.cps.toList i=some c/\Q (.str ⟨#[c]⟩) H
theorem E7:IxR X (K1 X.K):=by
 intro value slice pins s σ H x y v u Q I rx ry h hs;obtain⟨p,xs,i,z,rfl,rfl,hq,he,q⟩:=h;cases rx;obtain⟨t,rfl⟩:=ry;obtain⟨its,r,pl,hz⟩:=I.list hq;obtain⟨j,h1,h2,h3,h4,h5⟩:=sP he;obtain⟨w,ew,rw'⟩:=r.get h2;have hl:=r.length;have hn:=pA;have fin:EP X pins σ Q w s:=⟨z,H,I,rw',q⟩
 by_cases h0 : 0<=i
 ·have hj:i.toNat=j:=by
   rw[seqIndex_of h0 h5]at h1;exact zaQ h1
  exact item_listR pl.isList h0 (by omega) (by rw[hj];simpa using ew) fin hs
 ·have hj:(i+(its.toArray.size:Int)).toNat=j:=by
   rw[seqIndex_neg (by omega) h4]at h1
   rw[zaK,<-hl];exact zaQ h1
  exact subscriptTail_builtinR (x:=w) pl.isList.typeIs slot_list_getitem.lookup
   (wpAny_getItem_list_neg (Q:=λr s'=>r=w/\EP X pins σ Q r s') pl.isList (by omega) (by rw[zaK]<;>omega) (by omega) (by rw[hj];simpa using ew) ⟨rfl,fin⟩) hs
theorem IZ:IxR X (K3 X.K):=by
 intro value slice pins s σ H x y v u Q I rx ry h hs;obtain⟨p,xs,i,z,rfl,rfl,hq,he,q⟩:=h;cases rx;obtain⟨t,rfl⟩:=ry;obtain⟨its,r,pl,hz⟩:=I.tuple hq;obtain⟨j,h1,h2,h3,h4,h5⟩:=sP he;obtain⟨w,ew,rw'⟩:=r.get h2;have hl:=r.length;have hn:=pA;have fin:EP X pins σ Q w s:=⟨z,H,I,rw',q⟩;exact subscriptTail_builtinR (x:=w) pl.typeIs slot_tuple_getitem.lookup
  (getItem_tuple (j:=j) (Q:=λr s'=>r=w/\EP X pins σ Q r s') pl (by omega) (by omega) (by rw[zaK,<-hl];exact h1) (by simpa using ew) ⟨rfl,fin⟩) hs
theorem Ja:IxR X K4:=by
 intro value slice pins s σ H x y v u Q I rx ry h hs;obtain⟨z,i,c,rfl,rfl,hz,he,q⟩:=h;obtain⟨t,rfl⟩:=rx;obtain⟨t',rfl⟩:=ry;obtain⟨j,h1,h2,h3,h4,h5⟩:=sP he;have hl:z.cps.toList.length=z.length:=by simp[Str.length]
 rw[hl]at h1 h4 h5;have hn:=pA;exact tail_any (typeIs_str s z t) slot_str_getitem.lookup (getItem_str (c:=c) (by
  have e1:decide (i< -(2^63:Int))=false:=zaO (by omega)
  have e2:decide (i>=2^63)=false:=zaO (by omega)
  rw[e1,e2,Bool.or_false]) (by rw[h1];simpa using h2) ⟨.str ⟨#[c]⟩,H,I.tok _,⟨_,rfl⟩,q⟩) hs
def rIx(K:zag):R2:=λx y H Q=>K1 K x y H Q\/K3 K x y H Q\/K4 x y H Q
theorem Jb:IxR X (rIx X.K):=E7.or (IZ.or Ja)
theorem sQ(lo hi:Option Int)(n:Nat):(sliceBounds lo hi none n).1=((HT.sIx n 0 lo:Nat):Int)/\(sliceBounds lo hi none n).2.1=((HT.sIx n n hi:Nat):Int)/\(sliceBounds lo hi none n).2.2=1:=by
 refine⟨?_,?_,rfl⟩
 ·cases lo with
  |none=>simp[sliceBounds,HT.sIx]
  |some i=>
   simp only[sliceBounds,HT.sIx,Option.getD_none,show(1:Int)>0 by decide,if_true]
   by_cases h:i<0
   ·simp only[h,if_true]<;>omega
   ·simp only[h,if_false]<;>omega
 ·cases hi with
  |none=>simp[sliceBounds,HT.sIx]
  |some i=>
   simp only[sliceBounds,HT.sIx,Option.getD_none,show(1:Int)>0 by decide,if_true]
   by_cases h:i<0
   ·simp only[h,if_true]<;>omega
   ·simp only[h,if_false]<;>omega
theorem qM(its:List Value)(lo hi:Option Int):slicePick its.toArray lo hi none=((its.drop (HT.sIx its.length 0 lo)).take (HT.sIx its.length its.length hi-HT.sIx its.length 0 lo)).toArray:=by
 obtain⟨h1,h2,h3⟩:=sQ lo hi its.toArray.size;unfold slicePick;rw[h1,h2,h3];simp only[sliceRange_one,pick_run,List.size_toArray]<;>rfl
def Jc(K:zag):V->Option Int->Option Int->Hp->VK->Prop:=λx lo hi H Q=>∃a xs,x=.ref a/\SqL K H a xs/\∀p,H p=none->Q (.ref p) (upd H p (.lst (Au xs lo hi)))
theorem E8:SlR X (Jc X.K):=by
 intro pins s σ H x v vl vu lo hi sl Q I rx hs pl pu h;obtain⟨a,xs,rfl,hx,q⟩:=h;cases rx;obtain⟨its,r,ht,hz⟩:=I.list hx;have hlen:=r.length;refine⟨"list",_,slot_list_getitem.lookup,ht.isList.typeIs,?_⟩;refine wpAny_getItem_list_slice ht.isList hs pl pu .none (by simp) ?_ (by rw[zaK]<;>omega)
 rw[qM,<-hlen];refine⟨.ref s.heap.objs.size,_,I.laid (t':=s.toks) (o:=.lst (Au xs lo hi)) (λb ob q=>zar _ q) (zap _) ?_,rfl,q _ (I.hok.fresh (zap _))⟩
 exact⟨zaX (vh xs lo hi) hz,_,0,(r.drop (HT.sIx xs.length 0 lo)).take (HT.sIx xs.length xs.length hi-HT.sIx xs.length 0 lo),zaL _ rfl⟩
def K5:V->Bool
 | .non=>true
 | .bl _=>true
 | .int _=>true
 | .str _=>true
 |_=>false
def eqV:V->V->Bool
 | .non,.non=>true
 | .bl a,.bl b=>a==b
 | .bl a,.int b=>(if a then 1 else 0)==b
 | .int a,.bl b=>a==(if b then 1 else 0)
 | .int a,.int b=>a==b
 | .str a,.str b=>a==b
 |_,_=>false
def inV(x:V)(xs:List V):Bool:=xs.any λy=>eqV y x
theorem sR:dZ X (.builtin "len") (λxs H Q=>∃p ys,xs=[.ref p]/\(SqL X.K H p ys\/SqT X.K H p ys)/\Q (.int ys.length) H):=by
 intro pins s σ H xs us Q I r h;obtain⟨p,ys,rfl,hq,q⟩:=h;obtain⟨u,rfl,rx⟩:=vals1 r;cases rx;have hn:=pA;rcases hq with hq|hq
 ·obtain⟨its,r',pl,hz⟩:=I.list hq
  have hlen:=r'.length;exact Calls.call_len_list pl.isList (by simp only[List.size_toArray]<;>omega) ⟨.int ys.length,H,I.tok _,⟨s.toks+1,by rw[zaK,hlen]⟩,q⟩
 ·obtain⟨its,r',pl,hz⟩:=I.tuple hq
  have hlen:=r'.length;exact len_tuple pl (by simp only[List.size_toArray]<;>omega) ⟨.int ys.length,H,I.tok _,⟨s.toks+1,by rw[zaK,hlen]⟩,q⟩
theorem sS:dZ X (.builtin "len") (λxs H Q=>∃z,xs=[.str z]/\z.length<=sizeLine/\Q (.int z.length) H):=by
 intro pins s σ H xs us Q I r h;obtain⟨z,rfl,hz,q⟩:=h;obtain⟨u,rfl,t,rfl⟩:=vals1 r;have hn:=pA;exact len_str (by omega) ⟨.int z.length,H,I.tok _,⟨_,rfl⟩,q⟩
theorem dZ.or(h:dZ X f r)(h':dZ X f r'):dZ X f (λxs H Q=>r xs H Q\/r' xs H Q):=by
 intro pins s σ H xs us Q I rs q;rcases q with q|q
 ·exact h pins s σ H xs us Q I rs q
 ·exact h' pins s σ H xs us Q I rs q
theorem sT:dZ X (.type "list") (λxs H Q=>∃p ys,xs=[.ref p]/\(SqL X.K H p ys\/SqT X.K H p ys)/\∀l,H l=none->Q (.ref l) (upd H l (.lst ys))):=by
 intro pins s σ H xs us Q I r h;obtain⟨p,ys,rfl,hq,q⟩:=h;obtain⟨u,rfl,rx⟩:=vals1 r;cases rx;have fin:∀(its:List Value),Vals ys its->ys.length<=sizeLine->∀(h':Heap) (c':Nat),(∀b o',s.heap.get? b=some o'->h'.get? b=some o')->
   h'.get? s.heap.objs.size=some {cls:=.type "list",dict:=none,data:=.seq its.toArray c',slots:=#[]}->EP X pins σ Q (.ref s.heap.objs.size) {s with heap:=h'}:=λits r' hz h' c' kp e=>
  ⟨.ref s.heap.objs.size,_,I.laid (t':=s.toks) kp (zap _) (show bR X.prog X.w _ h' _ (.lst ys)from⟨hz,its,c',r',e⟩),rfl,q _ (I.hok.fresh (zap _))⟩
 rcases hq with hq|hq
 ·obtain⟨its,r',pl,hz⟩:=I.list hq
  have hlen:=r'.length;obtain⟨o,ho,hc,n,hd⟩:=pl.isList;exact call_list_seq p (.inl rfl) ho hc hd (λh' c' kp e=>fin its r' hz h' c' kp e) (by simp only[List.size_toArray]<;>omega)
 ·obtain⟨its,r',pl,hz⟩:=I.tuple hq
  have hlen:=r'.length;obtain⟨o,ho,hc,n,hd⟩:=pl;exact call_list_seq p (.inr rfl) ho hc hd (λh' c' kp e=>fin its r' hz h' c' kp e) (by simp only[List.size_toArray]<;>omega)
theorem qN:dZ X (.type "tuple") (λxs H Q=>∃p ys,xs=[.ref p]/\((SqL X.K H p ys/\∀l,H l=none->Q (.ref l) (upd H l (.tup ys)))\/(SqT X.K H p ys/\Q (.ref p) H))):=by
 intro pins s σ H xs us Q I r h;obtain⟨p,ys,rfl,h⟩:=h;obtain⟨u,rfl,rx⟩:=vals1 r;cases rx;rcases h with⟨hq,q⟩|⟨hq,q⟩
 ·obtain⟨its,r',pl,hz⟩:=I.list hq
  have hlen:=r'.length;refine call_tuple_list pl.isList (λh' kp=>?_) (by simp only[List.size_toArray]<;>omega)
  have I1:Inv X pins σ H {s with heap:=h'}:=I.kept (t':=s.toks) kp
  have I2:Inv X pins σ (upd H h'.objs.size (.tup ys)) {s with heap:=h'.push {cls:=.type "tuple",data:=.seq its.toArray}} :=
   I1.laid (t':=s.toks) (λb o e=>zar _ e) (zap _) (show bR X.prog X.w _ _ _ (.tup ys)from⟨hz,its,r',IsTup.new _ _⟩)
  exact⟨.ref h'.objs.size,_,I2,rfl,q _ (I1.hok.fresh (zap _))⟩
 ·obtain⟨its,r',pl,hz⟩:=I.tuple hq
  exact call_tuple_same pl ⟨.ref p,H,I,rfl,q⟩
def tyV(K:zag)(T:String)(x:V)(H:Hp):Prop:=match x with
 | .str _=>T="str"
 | .int _=>T="int"
 | .ref p=>(T="list"/\∃xs,SqL K H p xs)\/(T="tuple"/\∃o,K.lookup p=some o/\o.cls=.type "tuple"/\o.dict=none)\/
   (T="dict"/\((∃kvs,H p=some (.dK kvs))\/∃kvs,H p=some (.dT kvs)))\/(T="set"/\∃S n,H p=some (.set S n))
 |_=>False
theorem Jd{pins:List (Addr×Obj)}{σ:St}{H:Hp}{s:Shared}{T:String}{x:V}{v:Value}(I:Inv X pins σ H s)(r:RelV x v)(ty:tyV X.K T x H) :
  s.TypeIs v T/\∀a,v=.ref a->∃ob,s.heap.get? a=some ob/\ob.dict=none:=by
 cases x with
 |str z=>
  obtain⟨t,rfl⟩:=r;cases(show T="str"from ty);exact⟨typeIs_str s z t,λ_ e=>nomatch e⟩
 |int i=>
  obtain⟨t,rfl⟩:=r;cases(show T="int"from ty);exact⟨typeIs_int s i t,λ_ e=>nomatch e⟩
 |ref p=>
  cases r;rcases ty with⟨rfl,xs,hq⟩|⟨rfl,o,hk,hc,hd⟩|⟨rfl,hk⟩|⟨rfl,S,n,hk⟩
  ·obtain⟨its,_,pl,_⟩:=I.list hq
   refine⟨pl.isList.typeIs,λa e=>?_⟩
   cases e;obtain⟨o,n,e,c,hd,_⟩:=pl;exact⟨o,e,hd⟩
  ·refine⟨⟨o,I.kIn p o hk,hc⟩,λa e=>?_⟩
   cases e;exact⟨o,I.kIn _ o hk,hd⟩
  ·have z:∃o,s.heap.get? p=some o/\o.ExactDict:=by
    rcases hk with⟨kvs,hk⟩|⟨kvs,hk⟩
    ·obtain⟨_,_,_,_,o,_,_,e,ex,_⟩:=I.hok p _ hk
     exact⟨o,e,ex⟩
    ·obtain⟨_,_,_,_,o,_,_,e,ex,_⟩:=I.hok p _ hk
     exact⟨o,e,ex⟩
   obtain⟨o,e,ex⟩:=z;refine⟨⟨o,e,ex.1⟩,λa e2=>?_⟩
   cases e2;exact⟨o,e,ex.2.1⟩
  ·obtain⟨o,_,_,_,e,ex,_⟩:=I.hok p _ hk
   refine⟨⟨o,e,ex.1⟩,λa e2=>?_⟩
   cases e2;exact⟨o,e,ex.2.1⟩
 |_=>exact False.elim ty
def tBM(K:zag)(T:String)(r:V->List V->Hp->VK->Prop)(to:TE)(t:TA):TE:=fun σ H Q=>to σ H λx H1=>tyV K T x H1/\t σ H1 λxs H2=>r x xs H2 Q
variable{o e:Expr}{es:List Expr}{to:TE}{t:TA}{name:Str}{apos cpos:Pos}{T id:String}{r:V->List V->Hp->VK->Prop}
theorem K6(pa:PlainAttrs T)(slot:Slot T name id)(hty:typeOf (.builtin id)=pure (.type "method_descriptor"))(hm:MtR X id r)(ho:PE X o to)(ha:PA X (e::es) t)
  (hbase:attributeBase o name X.env (eval o X.env)=eval o X.env:=by rfl)
  (hfew:((backTo cpos (starEach (e::es) X.env)).all (λx=>!x.1)&&(backToKw cpos (keywordEach [] X.env)).all (λx=>x.1.isSome)
   &&decide ((e::es).length+([]:List Keyword).length+(if([]:List Keyword).isEmpty then 0 else 1)<30))=true:=by rfl)
  (hline:(apos.endLine==cpos.line)=true:=by rfl) (hs:starEach (e::es) X.env=(false,eval e X.env)::starEach es X.env:=by rfl) (hplain:(backTo cpos (starEach es X.env)).any (·.1)=false:=by rfl) :
  PE X (.Call (.Attribute o name apos) (e::es) [] cpos) (tBM X.K T r to t):=by
 intro pins s σ H Q I h;refine wpAny_Call_method_late hbase hfew hline rfl (thn (ho pins s σ H _ I h) λv s1 ⟨x,H1,I1,r1,ty,q1⟩=>?_)
 obtain⟨h1,h2⟩:=Jd I1 r1 ty;refine⟨T,id,pa,slot,hty,h1,h2,?_⟩;have hA:=ha cpos pins s1 σ H1 _ I1 q1;rw[hs]at hA⊢;refine Calls.callWith_builtin (by show(false||(backTo cpos (starEach es X.env)).any (·.1))=false;rw[hplain]<;>rfl) (Calls.evalArgs_plain ?_)
 exact thn hA λus s2 ⟨vs,H2,I2,r2,q2⟩=>hm pins s2 σ H2 x vs v us Q I2 r1 r2 q2
end
def MtM(X:Cx)(id:String)(r:V->List V->Hp->VK->Prop):Prop :=
 ∀(pins:List (Addr×Obj)) (s:Shared) (σ:St) (H:Hp) (x:V) (xs:List V) (v:Value) (us:List Value) (Q:VK),Inv X pins σ H s->RelV x v->Vals xs us->r x xs H Q->
  wpAny (model X.prog X.w) X.A (call (.builtin id) (v::us)) (EP X pins σ Q) X.xe s
theorem Vals.one:∀{x:V} {us:List Value},Vals [x] us->∃u,us=[u]/\RelV x u
 |_,_,.cons r .nil=>⟨_,rfl,r⟩
theorem Vals.two:∀{x y:V} {us:List Value},Vals [x,y] us->∃u v,us=[u,v]/\RelV x u/\RelV y v
 |_,_,_,.cons r (.cons q .nil)=>⟨_,_,rfl,r,q⟩
theorem Vals.rep(h:Vals xs us):∀k:Nat,Vals (List.replicate k xs).flatten (List.replicate k us).flatten
 |0=>.nil
 |k+1=>by
  rw[zbc,zbc,List.flatten_cons,List.flatten_cons];exact Vals.append h (Vals.rep h k)
theorem foldl_rep(its:List Value):∀(k:Nat) (acc:List Value),
  List.foldl (λx1 x2=>x1++x2) acc.toArray (List.replicate k its.toArray)=(acc++(List.replicate k its).flatten).toArray
 |0,acc=>by simp
 |k+1,acc=>by
  have e:acc.toArray++its.toArray=(acc++its).toArray:=by simp
  have e2:(acc++its)++(List.replicate k its).flatten=acc++(List.replicate (k+1) its).flatten:=by
   rw[zbc,List.flatten_cons,zaD]
  rw[<-e2,<-foldl_rep its k (acc++its),<-e,zbc,List.foldl_cons]
section
variable{X:Cx}{pins:List (Addr×Obj)}{σ:St}{H:Hp}{s:Shared}{l b:Addr}{xs ys zs:List V}
theorem Inv.Mv{its its':List Value}{n:Nat}{f:Array Value->Array Value}{t':Nat}(I:Inv X pins σ H s)(hH:H l=some (.lst xs))
  (e:s.heap.get? l=some {cls:=.type "list",data:=.seq its.toArray n}) (hf:f its.toArray=its'.toArray) (hv:Vals ys its') (hz:ys.length<=sizeLine) :
  Inv X pins σ (upd H l (.lst ys)) {s with heap:=s.heap.update l (Obj.mapSeq f),toks:=t'}:=by
 have q:=PySem.IsL.update e f;rw[hf]at q;refine I.write (x:=l) (e:=l) (by rw[hH];exact trivial) (.inl rfl) (λb' u hb hu=>(Heap.get?_update_other s.heap (Obj.mapSeq f) (Ne.symm hb)).trans hu) ⟨_,q⟩ ?_
 exact⟨hz,its',_,hv,q⟩
theorem Inv.K7(I:Inv X pins σ H s)(hv:Vals ys its)(hz:ys.length<=sizeLine) :
  Inv X pins σ (upd H s.heap.objs.size (.lst ys)) {s with heap:=s.heap.push {cls:=.type "list",data:=.seq its.toArray},toks:=t'} :=
 I.laid (λ_ _ q=>zar _ q) (zap _) ⟨hz,its,0,hv,zaL _ rfl⟩
theorem Inv.fresh(I:Inv X pins σ H s):H s.heap.objs.size=none:=I.hok.fresh (zap _)
theorem Inv.K8(I:Inv X pins σ H s)(hH:H l=some (.lst xs)):xs.length<=sizeLine/\∃(its:List Value) (n:Nat),Vals xs its/\xs.length=its.length/\s.heap.get? l=some {cls:=.type "list",data:=.seq its.toArray n}:=by
 obtain⟨z,its,n,r,e⟩:=I.hok l _ hH;exact⟨z,its,n,r,r.length,e⟩
theorem Cc(h:n<=sizeLine):Builtin.List.listTooLong n=false:=by
 unfold Builtin.List.listTooLong;exact zaO (by omega)
end
section
variable{X:Cx}
def l4:V->List V->Hp->VK->Prop:=λx vs H Q=>∃l xs y,x=.ref l/\vs=[y]/\H l=some (.lst xs)/\xs.length<sizeLine/\Q .non (upd H l (.lst (xs++[y])))
theorem iY:MtM X "list.append" l4:=by
 intro pins s σ H x vs v us Q I rx rv h;obtain⟨l,xs,y,rfl,rfl,hH,hz,q⟩:=h;cases rx;obtain⟨u,rfl,ru⟩:=rv.one;obtain⟨z,its,n,r,hl,e⟩:=I.K8 hH;refine call_meets F.slot_list_append ⟨_,e,rfl⟩ F.entry_list_append (F.args_list_append_2 _ _) (PySem.list_append l its.toArray n u (by rw[zaK];omega)) ⟨e,?_⟩
 refine⟨.non,_,I.Mv (its':=its++[u]) hH e (by simp) (r.append (.cons ru .nil)) ?_,rfl,q⟩
 rw[zau,za7];omega
def K9:R2:=λx y H Q=>∃l k xs,x=.ref l/\y=.int k/\H l=some (.lst xs)/\-(2^63)<=k/\k<2^63/\xs.length*k.toNat<=sizeLine/\
 ∀p,H p=none->Q (.ref p) (upd H p (.lst (List.replicate k.toNat xs).flatten))
theorem len_rep{α:Type}(xs:List α)(k:Nat):(List.replicate k xs).flatten.length=k*xs.length:=by
 induction k with
 |zero=>simp
 |succ k ih=>rw[zbc,List.flatten_cons,zau,ih,Nat.succ_mul,Nat.add_comm]
theorem Je:OpR X (binaryOp .Mult) K9:=by
 intro pins s σ H x y v u Q I rx ry h;obtain⟨l,k,xs,rfl,rfl,hH,h1,h2,hz,q⟩:=h;cases rx;obtain⟨t,rfl⟩:=ry;obtain⟨z,its,n,r,hl,e⟩:=I.K8 hH;have hlen:its.toArray.size*k.toNat<=sizeLine:=by rw[zaK,<-hl];exact hz
 have hcap : ¬its.toArray.size*k.toNat>(2^63-1)/8:=by
  have:(sizeLine:Nat)<=(2^63-1)/8:=by decide
  omega
 have hfit : ¬(!Builtin.List.listFitsIndex k)=true:=by
  rw[fitsIndex_both h1 h2];exact zam
 have La : ¬Builtin.List.listTooLong (its.toArray.size*k.toNat)=true:=by
  rw[Cc hlen];exact zam
 have hnew:List.foldl (λx1 x2=>x1++x2) #[] (List.replicate (if its.toArray.isEmpty=true then 0 else k.toNat) its.toArray)=(List.replicate k.toNat its).flatten.toArray:=by
  have f0:∀m:Nat,List.foldl (λx1 x2=>x1++x2) #[] (List.replicate m its.toArray)=(List.replicate m its).flatten.toArray:=λm=>by
   have:=foldl_rep its m [];rw[List.nil_append]at this;exact this
  rw[f0];cases its with
  |nil=>simp
  |cons a r'=>rw[if_neg (by simp)]
 refine wpAny_binaryOp_repeat_ref (T:="list") (U:="int") (by decide) ⟨_,e,rfl⟩ (λs'=>typeIs_int s' k t) noFill_list_mul F.fills_int_mul F.slot_int_rmul repeat_list F.slot_int_index.lookup
  (call_meets F.slot_int_rmul (typeIs_int s k t) F.entry_int_rmul (F.args_int_rmul_2 _ _) (int___rmul___int_list k t l its.toArray n)
   ⟨e,rfl,⟨_,e,rfl⟩,call_meets F.slot_list_mul ⟨_,e,rfl⟩ F.entry_list_mul (F.args_list_mul_2 _ _) (AutoListH.list___mul___list_int_3 l its.toArray n k t hfit hcap La) ⟨e,?_⟩⟩)
 rw[hnew];exact⟨.ref _,_,I.K7 (t':=s.toks) (r.rep k.toNat) (by rw[len_rep,Nat.mul_comm];exact hz),rfl,q _ I.fresh⟩
end
section
variable{prog:Program}{w:World}{A:Around}{E:Value->Shared->Prop}{s:Shared}
set_option maxRecDepth 100000 in
end
end L2
namespace Att
open PySem PySem.W PySem.Calls PyProof.Rows
theorem oE:∀(ns:List Int) (vs:List Value),WellAll P h vs (ns.map WData.int)->IntsAre vs ns:=by
 intro ns
 induction ns with
 |nil=>
  intro vs w;rw[List.map_nil]at w;cases w;exact .nil
 |cons n ns ih=>
  intro vs w;rw[zaz]at w;cases w with
  |cons a b=>
   cases a;exact .cons _ _ (ih _ b)
theorem Av{l:OpenLaw}{n:Nat}(hn:l.most=some n){P:Params}{h:Heap}{args:List WData}{vals:List Value}
  (hpre:l.row.toRowW.claim.pre args=true) (hwl:WellAll P h vals args) :
  ∃a vs ns,vals=[Value.ref a]/\args=[WData.list (ns.map WData.int)]/\h.get? a=some {cls:=.type "list",data:=.seq vs.toArray}/\IntsAre vs ns/\ns.length<=n:=by
 have hsh:WShape.hasAll [] args [.list .int]=true:=(pre_splitW hpre).1;have hc:l.pre.holds [] {args:=args}=true:=(pre_splitW hpre).2;obtain⟨d,r,rfl,h1,h2⟩:=hasAllW_cons hsh;obtain rfl:=hasAllW_nil h2;obtain⟨xs,rfl,h3⟩:=hasW_list h1;obtain⟨ns,rfl⟩:=items_int h3;have hlen:ns.length<=n:=by
  unfold OpenLaw.pre at hc;have h4:(WTm.not (.lt (.lit (.int (n:Int))) (.len (.arg 0)))).holds [] {args:=[.list (ns.map .int)]}=true:=by
   have h4:=(holds_andW hc).1;rw[hn]at h4;exact h4
  have h5:=condW_of h4 (w_not (w_lt w_lit (w_len_list (w_arg rfl))));rw[zal]at h5;refine zba λq=>?_
  have q':(n:Int)<((ns.length:Nat):Int):=by omega
  first
   |(rw[zaH q']at h5;exact absurd h5 (by decide))
   |(simp at h5;omega)
 cases hwl with
 |cons w1 w2=>
  cases w2;cases w1 with
  |list ho hall=>exact⟨_,_,ns,rfl,rfl,ho,oE ns _ hall,hlen⟩
theorem Aw(l:OpenLaw)(args:List WData):l.row.toRowW.claim.post args (.bool true) args=true :=
 postW_of (r:=l.row.toRowW) (X:=(true==true))
  (show WShape.has [] (.bool true) .bool=true by first|rfl|decide|simp[WShape.has,WShape.arms,WShape.armsAll])
  (show(WTm.eq .res (.lit (.bool true))).value [] {args:=args,res:=some (.bool true),after:=args}=some (.bool (true==true))from w_eq_bool (w_res rfl) w_lit) rfl
end Att
namespace L2
open PySem PySem.Spec PyProof.Rows
theorem rC:∀{vs:List Value} {ns:List Int},IntsAre vs ns->Vals (ns.map V.int) vs
 |_,_,.nil=>.nil
 |_,_,.cons n t h=>.cons ⟨t,rfl⟩ (rC h)
def Only(H:Hp):Prop:=∀b,H b=none\/(∃o xs,H b=some (.frz o (.lst xs)))\/∃ps,H b=some (.tbl ps)
theorem pB{K:zag}{c T:Addr}{ps:Array Value}(e:gk K=some (c,T,ps)):K.lookup T=none/\PySem.W.codeHdIn K c T=true:=by
 unfold gk at e;split at e
 ·rename_i c' T' ps' _
  split at e
  ·rename_i hc
   cases e;unfold xg at hc;simp only[Bool.and_eq_true]at hc;exact⟨by simpa using hc.1.2,hc.1.1⟩
  ·cases e
 ·cases e
theorem jV{β:Type}{a:Addr}{o : β}:∀{K:List (Addr×β)},K.lookup a=some o->(a,o)∈K
 | [],e=>by cases e
 |(b,u)::r,e=>by
  rw[za8]at e;split at e
  ·rename_i hb
   have hb':a=b:=by simpa using hb
   subst hb';cases e;exact zas
  ·exact zak _ (jV e)
theorem Jf{K:zag}{c T f:Addr}{ps:Array Value}{oc:Value}{od:Option Addr}{fd:FuncData}{osl:Array (Option Value)}{lp:Pos}(e:gk K=some (c,T,ps))(lk:K.lookup f=some ⟨oc,od,.func fd,osl⟩)(hp:sJ fd.body=some lp) :
  fd.code=.ref c/\ps=#[rawInt lp.line,rawInt lp.col,.str (fd.qualname++".<locals>.<lambda>") 0]:=by
 unfold gk at e;split at e
 ·split at e
  ·rename_i hc
   cases e;unfold xg at hc;simp only[Bool.and_eq_true]at hc;have h1:=List.all_eq_true.mp hc.2 _ (jV lk);have h2:BV fd=true:=by unfold BV;rw[hp];rfl
   simp only[h2,Bool.not_true,Bool.false_or]at h1;have h3:=beq_iff_eq.mp h1;unfold uY at h3;rw[hp]at h3;split at h3
   ·rename_i lp' c' e1 e2
    cases e1;split at h3
    ·split at h3
     ·cases h3;exact⟨e2,rfl⟩
     ·cases h3
    ·cases h3
   ·cases h3
  ·cases e
 ·cases e
theorem Cd{K:zag}{fd:FuncData}{c T:Addr}{ps:Array Value}(e:uY K fd=some (c,T,ps)):∃l k q,ps=#[rawInt l,rawInt k,.str q 0]:=by
 unfold uY at e;split at e
 ·split at e
  ·split at e
   ·cases e;exact⟨_,_,_,rfl⟩
   ·cases e
  ·cases e
 ·cases e
theorem y3{K:zag}{c T:Addr}{ps:Array Value}(e:gk K=some (c,T,ps)):∃l k q,ps=#[rawInt l,rawInt k,.str q 0]:=by
 unfold gk at e;split at e
 ·rename_i c' T' ps' hx
  split at e
  ·cases e
   obtain⟨p,_,hp⟩:=List.exists_of_findSome?_eq_some hx;split at hp
   ·exact Cd hp
   ·cases hp
  ·cases e
 ·cases e
theorem E9{K:zag}{c T:Addr}{ps:Array Value}(e:gk K=some (c,T,ps)):ps[0]?≠some .none:=by
 obtain⟨l,k,q,rfl⟩:=y3 e;intro z;cases z
theorem vm{K:zag}{c T:Addr}{ps:Array Value}(e:gk K=some (c,T,ps))(more:Array Value):(ps++more)[0]?≠some .none:=by
 obtain⟨l,k,q,rfl⟩:=y3 e;intro z;rw[Array.getElem?_append_left (by simp)]at z
 cases z
theorem Ce{P:Program}{w:World}{K:zag}{mg mb:Str->Option Value}{CX:CXT}{k:Nat}{fa a:Addr}{fd:FuncData}{x:Str}{sp:Sp}{s₁:Shared}{vs:List Value}{ns:List Int}
  (KX:K.In s₁.heap) (hTb:∀c T ps,gk K=some (c,T,ps)->s₁.heap.get? T=some (PySem.W.tabObj #[])) (hns:s₁.heap.Ns mainGlobals mg) (hb:s₁.heap.Ns builtinsNs mb) (hbb:∀x:Str,x≠"__name__"->mb x=bootBuiltins x) (hlim:s₁.heap.NoLimit) (hbm:∃bm ob,mg "__builtins__"=some (.ref bm)/\bm≠builtinsNs/\s₁.heap.get? bm=some ob/\ob.cls=.type "module"/\ob.dict=some builtinsNs/\ob.data=.plain) (hg:s₁.gens=#[])
  (ha:s₁.heap.get? a=some {cls:=.type "list",data:=.seq vs.toArray}) (hi:IntsAre vs ns) (hl:ns.length<=sizeLine) (hr:dh k callerA)
  (F:∀base:Heap,K.In base->base.Ns mainGlobals mg->iz P w K mg base CX k fa fd [x] sp) (hbind:∀(s:Shared) (u:Value),BindsTo s fd ⟨[u],[]⟩ [(x,u)])
  (hsp:∀H:Hp,Only H->SqL K H a (ns.map V.int)->sp [.ref a] H (λv _=>v=.bl true) λ_ _ _=>False)
  (hCX:∀H e s',CX [] H s₁ (λ_ _ _=>False) e s'->False) :
  codeAny (model P w) callerA (.call (.ref fa) ⟨[.ref a],[]⟩) (λr s'=>r=.ok (.ret (.bool true))/\OldK s₁.heap s'.heap/\s'.os=s₁.os/\AllBare s'.gens) s₁:=by
 have rv:=rC hi;have lenV:=hi.length;have core:∀H:Hp,Only H->SqL K H a (ns.map V.int)->HOk P w H s₁.heap->(∀b,H b≠none->b=a\/∃c ps,gk K=some (c,b,ps))->(H a≠none->K.lookup a=none)->(∀c T ps,gk K=some (c,T,ps)->H T=some (.tbl ps))->
   codeAny (model P w) callerA (.call (.ref fa) ⟨[.ref a],[]⟩) (λr s'=>r=.ok (.ret (.bool true))/\OldK s₁.heap s'.heap/\s'.os=s₁.os/\AllBare s'.gens) s₁:=by
  intro H hO hS hok hA hK hTH;have sU:∀{b:Addr} {o:Obj},s₁.heap.get? b=some o->H b=none->(sI s₁.heap H).get? b=some o:=λe n=>BU e n
  have noA:∀{b:Addr} {o:Obj} {es:Array DictEntry} {ep:Nat},s₁.heap.get? b=some o->o.data=.dict es ep->H b=none:=fun{b o es ep} e d=>by
   cases q:H b with
   |none=>rfl
   |some u=>
    rcases hA b (by rw[q];simp)with e'|⟨c,ps,e'⟩
    ·subst e'
     rw[ha]at e;cases e
     have d':Data.seq vs.toArray _=Data.dict es ep:=d;cases d'
    ·rw[hTb _ _ _ e']at e;cases e
     have d':Data.fields #[]=Data.dict es ep:=d;cases d'
  have nsK:∀{b:Addr} {m:Str->Option Value},s₁.heap.Ns b m->(sI s₁.heap H).Ns b m:=fun{b m} ⟨o,es,ep,e,d,r⟩=>⟨o,es,ep,sU e (noA e d),d,r⟩
  have hKb:K.In (sI s₁.heap H):=λb o e=>sU (KX b o e) (by
   cases q:H b with
   |none=>rfl
   |some u=>
    rcases hA b (by rw[q];simp)with e'|⟨c,ps,e'⟩
    ·subst e'
     rw[hK (by rw[q];simp)]at e;cases e
    ·rw[(pB e').1]at e;cases e)
  have hM:Mod K mg (sI s₁.heap H):=⟨hKb,nsK hns,⟨mb,nsK hb,hbb⟩,(let⟨mc,h1,h2⟩:=hlim;⟨mc,nsK h1,h2⟩),by
   obtain⟨bm,ob,b1,b2,b3,b4,b5,b6⟩:=hbm;refine⟨bm,ob,b1,b2,sU b3 ?_,b4,b5,b6⟩;cases q:H bm with
   |none=>rfl
   |some u=>
    rcases hA bm (by rw[q];simp)with e'|⟨c,ps,e'⟩
    ·rw[e',ha]at b3;cases b3;exact absurd (Value.type.inj b4) (by decide)
    ·rw[hTb _ _ _ e']at b3;cases b3;cases b4⟩
  have e0:qL P w K mg (sI s₁.heap H) callerA [] s₁ H:=⟨rfl,hM,λb o e=>EG e,Nat.le_of_eq (Aj _ _),trivial,λb hb=>absurd (show b∈([]:List Addr)from hb) (by simp),hok,.of_eq hg,λc T ps e=>⟨#[],by rw[hTH c T ps e];simp⟩⟩
  refine codeAny_mono ((F _ hKb (nsK hns)).run callerA [] s₁ H ⟨[.ref a],[]⟩ [.ref a] [.ref a] _ _ hr e0 (hbind s₁ (.ref a)) (.cons rfl .nil) (hsp H hO hS)) λr s' h=>?_
  cases r with
  |error e=>exact(hCX H e s' h).elim
  |ok fl=>
   cases fl with
   |next=>exact False.elim h
   |brk=>exact False.elim h
   |cont=>exact False.elim h
   |ret u=>
    obtain⟨v,H',os,bare,un,hok',r',q⟩:=h;have q':v=.bl true:=q;subst q';obtain rfl:u=Value.bool true:=r';refine⟨rfl,⟨λb o e=>?_,λb o e=>un.there b o e (by simp)⟩,os,bare⟩
    cases q:H b with
    |none=>exact .inl (un.keep b o e q (by intro z;exact absurd (show b∈([]:List Addr)from z) (by simp)) (by simp))
    |some u=>
     rcases hO b with z|⟨ob,xs,z⟩|⟨ps,z⟩
     ·rw[q]at z;cases z
     ·have z2:=un.iJ b ob _ z
      obtain⟨e1,_⟩:=hok b _ z;obtain⟨e2,_⟩:=hok' b _ z2;rw[e]at e1;cases e1
      exact .inl e2
     ·obtain⟨more,z2⟩:=un.iy b ps z
      obtain⟨qs1,e3,e0⟩:∃qs,s₁.heap.get? b=some {cls:=.none,data:=.fields qs}/\True:=by
       rcases hA b (by rw[q];simp)with e'|⟨c,ps',e'⟩
       ·rcases hok b _ z with⟨_,_,_,_,_,_,_,_,ec,eo,ed,_⟩|⟨_,qs1,e3,_⟩
        ·cases ec;rw[e',ha]at eo;cases eo;cases ed
        ·exact⟨qs1,e3,trivial⟩
       ·exact⟨_,hTb _ _ _ e',trivial⟩
      obtain⟨qs,e2⟩:∃qs,s'.heap.get? b=some {cls:=.none,data:=.fields qs}:=by
       rcases hA b (by rw[q];simp)with e'|⟨c,ps',e'⟩
       ·rw[e',ha]at e3;cases e3
       ·rcases hok' b _ z2 with⟨e4,_⟩|⟨_,qs,e2,_⟩
        ·have e5:=hTH _ _ _ e'
         rw[z]at e5;cases e5
         exact absurd e4 (vm e' more)
        ·exact⟨qs,e2⟩
      rcases hA b (by rw[q];simp)with e'|⟨c,ps',e'⟩
      ·rw[e',ha]at e3;cases e3
      ·have e3:=hTb _ _ _ e'
       rw[e]at e3;cases e3
       exact .inr (.inl ⟨(((PySem.W.codeHd_of_K KX (pB e').2).tab (hTb _ _ _ e')).isCodeTable),rfl,#[],qs,rfl,by rw[e2];simp⟩)
 have noT:∀c T ps,gk K=some (c,T,ps)->T≠a:=λc T ps e z=>by
  have e1:=hTb c T ps e;rw[z,ha]at e1;cases e1
 have tabs:∀H0:Hp,(∀b,H0 b≠none->b=a)->∃H:Hp,(∀b,H b=H0 b\/∃c ps,gk K=some (c,b,ps)/\H b=some (.tbl ps))/\(∀c T ps,gk K=some (c,T,ps)->H T=some (.tbl ps))/\∀b u,H0 b=some u->H b=some u:=λH0 h0=>by
  cases e:gk K with
  |none=>exact⟨H0,λb=>.inl rfl,λc T ps z=>(by cases z),λb u z=>z⟩
  |some x=>
   obtain⟨c,T,ps⟩:=x;refine⟨upd H0 T (.tbl ps),λb=>?_,λc' T' ps' z=>by cases z;exact au,λb u z=>?_⟩
   ·by_cases hb:b=T
    ·exact .inr ⟨c,ps,by rw[hb],by rw[hb];exact au⟩
    ·exact .inl (ah hb)
   ·rw[ah (λq=>noT c T ps e (q.symm.trans (h0 b (by rw[z];simp))))];exact z
 have wide:∀H0:Hp,(∀b,H0 b=none\/∃o xs,H0 b=some (.frz o (.lst xs)))->SqL K H0 a (ns.map V.int)->HOk P w H0 s₁.heap->(∀b,H0 b≠none->b=a)->(H0 a≠none->K.lookup a=none)->
   codeAny (model P w) callerA (.call (.ref fa) ⟨[.ref a],[]⟩) (λr s'=>r=.ok (.ret (.bool true))/\OldK s₁.heap s'.heap/\s'.os=s₁.os/\AllBare s'.gens) s₁:=λH0 hO hS hok h0 hK=>by
  obtain⟨H,t1,t2,t3⟩:=tabs H0 h0;have ha':H a=H0 a:=by
   rcases t1 a with z|⟨c,ps,e,_⟩
   ·exact z
   ·exact absurd rfl (noT c a ps e)
  refine core H (λb=>?_) ?_ (λb u z=>?_) (λb z=>?_) (λz=>hK (by rw[<-ha'];exact z)) t2
  ·rcases t1 b with z|⟨c,ps,_,z⟩
   ·rcases hO b with q|⟨o,xs,q⟩
    ·exact .inl (z.trans q)
    ·exact .inr (.inl ⟨o,xs,z.trans q⟩)
   ·exact .inr (.inr ⟨ps,z⟩)
  ·rcases hS with(q|⟨o,q⟩)|q
   ·exact .inl (.inl (ha'.trans q))
   ·exact .inl (.inr ⟨o,ha'.trans q⟩)
   ·exact .inr q
  ·rcases t1 b with q|⟨c,ps,e,q⟩
   ·rw[z]at q
    exact(hok b u q.symm).stay (λ_ _ _ x=>x) (λb' x=>t3 _ _ x) λb' xs _ x=>t3 _ _ x
   ·rw[z]at q;cases q
    exact .inr ⟨E9 e,#[],hTb _ _ _ e,.inl rfl⟩
  ·rcases t1 b with q|⟨c,ps,e,q⟩
   ·exact .inl (h0 b (by rw[<-q];exact z))
   ·exact .inr ⟨c,ps,e⟩
 cases hk:K.lookup a with
 |some o=>
  have e:=KX a o hk;rw[ha]at e;cases e;refine wide (λ_=>none) (λ_=>.inl rfl) (.inr ⟨_,vs.toArray,_,hk,rfl,rfl,rfl,by rw[zaK,lenV];exact hl,by simpa using rv⟩) (λb u z=>by have z':(none:Option HO)=some u:=z;cases z') (λb z=>absurd rfl z) λz=>absurd rfl z
 |none=>
  refine wide (λb=>if b=a then some (.frz {cls:=.type "list",data:=.seq vs.toArray} (.lst (ns.map V.int)))else none) (λb=>?_) (.inl (.inr ⟨{cls:=.type "list",data:=.seq vs.toArray},if_pos rfl⟩)) (λb u z=>?_) (λb z=>?_) λ_=>hk
  ·by_cases hb:b=a
   ·exact .inr ⟨_,_,if_pos hb⟩
   ·exact .inl (if_neg hb)
  ·by_cases hb:b=a
   ·have z':=(if_pos hb).symm.trans z
    cases z';subst hb;exact⟨ha,by rw[zal];exact hl,vs,_,rv,ha⟩
   ·have z':=(if_neg hb).symm.trans z
    cases z'
  ·by_cases hb:b=a
   ·exact hb
   ·exact absurd (if_neg hb) z
abbrev KOf{K:zag}{h:Heap}(_:K.In h):zag:=K
def fu(s:Stmt):Arguments:=match s with
 | .FunctionDef _ a _ _ _ _ _ _ _ _=>a
 |_=>{posonlyargs:=[],args:=[],vararg:=none,kwonlyargs:=[],kw_defaults:=[],kwarg:=none,defaults:=[]}
def cX(s:Stmt):List Stmt:=match s with
 | .FunctionDef _ _ b _ _ _ _ _ _ _=>b
 |_=>[]
def aK(s:Stmt):Scope:=match s with
 | .FunctionDef _ _ _ _ _ _ sc _ _ _=>sc
 |_=>{kind:=.function,names:=[],isGenerator:=false,isCoroutine:=false}
abbrev CX0:CXT:=λ_ _ _ _ _ _=>False
abbrev E0:XK:=λ_ _ _=>False
theorem Hr:Passes CX0 X E0:=λ_ _ _ _ _ _ _ h=>h.elim
structure Fun(K:zag)(x qual:Str)(st:Stmt)(f:Addr)(fd:FuncData):Prop where
 ex:∃(oc:Value) (od:Option Addr) (kV doc pm:Value) (an:Option Addr) (cdv ct:Value) (osl:Array (Option Value)),
  fd=PySem.W.fnOf x qual (fu st) (cX st) (aK st) .none kV doc pm an cdv ct/\K.lookup f=some ⟨oc,od,.func fd,osl⟩/\PySem.W.codeIn K cdv qual=true
 kp:PySem.W.keepIn K (.ref f)=true
section
variable{P:Program}{w:World}{K:zag}{mg:Str->Option Value}{base:Heap}
theorem Fun.ok{x qual:Str}{st:Stmt}{f:Addr}{fd:FuncData}{N ps:List Str}{k:Nat}{sp:Sp}(F:Fun K x qual st f fd)(S:bw N ps (aK st))(len:∀vs H Q E,sp vs H Q E->vs.length=ps.length)
  (hbody:∀(cdv:Value) (A:Around) (outer:List Env) (s:Shared) (H:Hp) (vs:List V) (Q:VK) (E:XK),dh k (A.deeper (envOfC qual (aK st) s.heap.objs.size f cdv))->sp vs H Q E->
   ∃t,PSs (ly CX0 P w K mg base N qual (aK st) f cdv A outer s H E).nox (cX st) t/\t {nx:=λ_ H'=>Q .non H',rt:=Q} (start N vs) H):iz P w K mg base CX0 (k+1) f fd ps sp:=by
 obtain⟨oc,od,kV,doc,pm,an,cdv,ct,osl,rfl,lk,hcd⟩:=F.ex;refine d4 lk hcd S len λA outer s H vs Q E hr hsp=>?_
 obtain⟨t,h,q⟩:=hbody cdv A outer s H vs Q E hr hsp;exact⟨t,h.nox,q⟩
theorem Fun.binds{x qual:Str}{st:Stmt}{f:Addr}{fd:FuncData}{ps:List Str}(F:Fun K x qual st f fd)
  (h:∀(kV doc pm:Value) (an:Option Addr) (cdv ct:Value) (us:List Value),us.length=ps.length->bindArgs (PySem.W.fnOf x qual (fu st) (cX st) (aK st) .none kV doc pm an cdv ct) ⟨us,[]⟩=pure (ps.zip us)):Binds K fd ps []:=by
 obtain⟨oc,od,kV,doc,pm,an,cdv,ct,osl,rfl,lk,hcd⟩:=F.ex;exact .all (h kV doc pm an cdv ct)
theorem Jg{x qual:Str}{st:Stmt}{f:Addr}{oc:Value}{od an:Option Addr}{osl:Array (Option Value)}{kV doc pm cdv ct:Value}(l:K.lookup f=some ⟨oc,od,.func (PySem.W.fnOf x qual (fu st) (cX st) (aK st) .none kV doc pm an cdv ct),osl⟩)
  (c:PySem.W.codeIn K cdv qual=true) (k:PySem.W.keepIn K (.ref f)=true):Fun K x qual st f (PySem.W.fnOf x qual (fu st) (cX st) (aK st) .none kV doc pm an cdv ct):=⟨⟨oc,od,kV,doc,pm,an,cdv,ct,osl,rfl,l,c⟩,k⟩
end
section
variable{X:Cx}
theorem pv(i:Nat){x:Str}{pos:Pos}(hN:X.N[i]?=some x:=by rfl)(hv:Vis X.env.scope x:=by first|exact Or.inl rfl|exact Or.inr (Or.inl rfl)|exact Or.inr (Or.inr rfl))(hd:(x==("__debug__":Str))=false:=by decide)
  (hcd:(x==("__classdict__":Str))=false:=by decide):PE X (.Name x pos) (u9 i):=ID hN hv hd hcd
end
theorem Mw{A B:Prop}(h:B):if false=true then A else B:=by
 rw[if_neg zam];exact h
theorem My{A B:Prop}(h:A):if true=true then A else B:=by
 rw[if_pos rfl];exact h
def aG(H H':Hp):Prop:=∀b o,H b=some o->H' b=some o
theorem aG.refl(H:Hp):aG H H:=λ_ _ h=>h
theorem aG.trans(a:aG H H1)(b:aG H1 H2):aG H H2:=λc o h=>b c o (a c o h)
theorem aG.free(e:aG H H')(h:H' l=Option.none):H l=Option.none:=by
 cases q:H l with
 |none=>rfl
 |some o=>
  rw[e l o q]at h;cases h
theorem Inv.track{X:Cx}{pins:List (Addr×Obj)}{σ:St}{H:Hp}{s:Shared}{D:Addr}{o:HO}(I:Inv X pins σ H s)(hn:H D=none)(hD:X.s₀.heap.objs.size<=D)(hL:D≠X.env.locals)
  (hc:∀x c,X.env.cells.lookup x=some c->c≠D) (hp:∀p∈X.pn++pins,p.1≠D) (new:bR X.prog X.w (upd H D o) s.heap D o):Inv X pins σ (upd H D o) s:=by
 have ne:∀b u,H b=some u->b≠D:=λb u e=>dX e hn
 refine⟨I.ok,I.os,I.bare,⟨I.base.keep,I.base.slot,λb ob e n hx=>?_,I.base.there,λb xs e=>?_,λb ob u e=>?_,λb ps e=>?_⟩,I.loc,I.cell,?_,λx c e=>?_,λp q=>?_,λb u e=>?_,I.len⟩
 ·have:b≠D:=zaS (zaF (zaq e) hD)
  rw[ah this];exact I.base.free b ob e n hx
 ·have z:=I.base.tups b xs e
  rw[ah (ne _ _ z)];exact z
 ·have z:=I.base.iJ b ob u e
  rw[ah (ne _ _ z)];exact z
 ·obtain⟨more,z⟩:=I.base.iy b ps e
  exact⟨more,by rw[ah (ne _ _ z)];exact z⟩
 ·rw[ah (Ne.symm hL)];exact I.free
 ·rw[ah (hc x c e)];exact I.fk x c e
 ·obtain⟨h1,h2,h3⟩:=I.pin p q
  exact⟨h1,by rw[ah (hp p q)];exact h2,h3⟩
 ·by_cases hb:b=D
  ·subst hb;rw[au]at e;cases e;exact new
  ·rw[ah hb]at e
   exact(I.hok b u e).stay (λ_ _ _ q=>q) (λc q=>by rw[ah (ne _ _ q)];exact q) λc xs _ q=>by rw[ah (ne _ _ q)];exact q
def eG(cells:List (Str×Addr)):List (Str×NameKind)->List (Str×Addr)->List (Str×Addr)
 | [],acc=>acc
 |(n,k)::r,acc=>eG cells r (if(k==NameKind.free)=true then(n,(cells.lookup n).getD 0)::acc else acc)
theorem za:∀(names:List (Str×NameKind)) (acc:List (Str×Addr)),(∀y∈names,y.2=.free->∃c,env.cells.lookup y.1=some c)->
  (forIn names acc λ(x:Str×NameKind) (r:List (Str×Addr))=>(if(x.2==NameKind.free)=true then do
    let c<-cellOf env x.1
    pure (ForInStep.yield ((x.1,c)::r))else pure (ForInStep.yield r):Sem (ForInStep (List (Str×Addr)))))=pure (eG env.cells names acc)
 | [],acc,_=>rfl
 |(n,k)::r,acc,h=>by
  have ih:=λacc'=>za (env:=env) r acc' λy hy=>h y (zak _ hy)
  rw[List.forIn_cons]
  by_cases hk:k=.free
  ·subst hk
   obtain⟨c,hc⟩:=h (n,.free) zas rfl;have hc':env.cells.lookup n=some c:=hc;have e:cellOf env n=pure c:=by
    unfold cellOf;rw[hc']
   show(if(NameKind.free==NameKind.free)=true then _ else _)>>=_=_
   rw[if_pos (by decide),e]
   simp only[pure_bind];rw[ih];simp only[eG,hc',Option.getD_some];rfl
  ·have hb:(k==NameKind.free)=false:=by simpa using hk
   show(if(k==NameKind.free)=true then _ else _)>>=_=_
   rw[hb,if_neg zam];simp only[pure_bind];rw[ih];simp only[eG,hb,Bool.false_eq_true,if_false]
theorem sV(h:∀y∈scope.names,y.2=.free->∃c,env.cells.lookup y.1=some c):closureFor scope env=pure (eG env.cells scope.names []):=by
 unfold closureFor;have e:=za (env:=env) scope.names [] h;simp only[bind_pure];exact e
theorem zb:∀(names:List (Str×NameKind)) (acc:List (Str×Addr)),(∀y∈names,y.2=.free->∃c,cells.lookup y.1=some c)->(∀y c,acc.lookup y=some c->cells.lookup y=some c)->
  ∀y c,(eG cells names acc).lookup y=some c->cells.lookup y=some c
 | [],_,_,ha=>ha
 |(n,k)::r,acc,h,ha=>by
  refine zb r _ (λy hy=>h y (zak _ hy)) λy c e=>?_
  by_cases hk:(k==NameKind.free)=true
  ·rw[if_pos hk]at e
   obtain⟨c',hc⟩:=h (n,k) zas (by simpa using hk)
   have hc':cells.lookup n=some c':=hc;rw[hc',Option.getD_some]at e;rw[za8]at e
   by_cases hy:(y==n)=true
   ·rw[hy]at e
    have:y=n:=by simpa using hy
    subst this;rw[hc'];exact e
   ·have hy':(y==n)=false:=by simpa using hy
    rw[hy']at e;exact ha y c e
  ·rw[if_neg hk]at e
   exact ha y c e
theorem l5:∀(names:List (Str×NameKind)) (acc:List (Str×Addr)) (y:Str),((y,NameKind.free)∈names\/∃c,acc.lookup y=some c)->∃c,(eG cells names acc).lookup y=some c
 | [],acc,y,h=>by
  rcases h with h|h
  ·cases h
  ·exact h
 |(n,k)::r,acc,y,h=>by
  refine l5 r _ y ?_;rcases h with h|⟨c,h⟩
  ·rcases zaf h with e|h
   ·cases e
    refine .inr ⟨(cells.lookup n).getD 0,?_⟩;rw[if_pos (by decide),za8]
    simp
   ·exact .inl h
  ·refine .inr ?_
   split
   ·rw[za8]
    cases y==n with
    |true=>exact⟨_,rfl⟩
    |false=>exact⟨c,h⟩
   ·exact⟨c,h⟩
theorem hU(env : Env) : ∀(names : List (Str×NameKind)) (y : Str),
  (names.map λ(n,k)=>if(k==NameKind.free&&env.scope.kind== .function&&env.kindOf n==some .cell)then(n,NameKind.cell)else(n,k)).lookup y
   =(names.lookup y).map λk=>if(k==NameKind.free&&env.scope.kind== .function&&env.kindOf y==some .cell)=true then NameKind.cell else k
 | [],_=>rfl
 |(n,k)::r,y=>by
  have ih :=hU env r y;show List.lookup y ((if(k==NameKind.free&&env.scope.kind== .function&&env.kindOf n==some .cell)=true then(n,NameKind.cell)else(n,k))::_)=_
  by_cases hy:(y==n)=true
  ·have:y=n:=by simpa using hy
   subst this
   by_cases hc:(k==NameKind.free&&env.scope.kind== .function&&env.kindOf y==some .cell)=true
   ·rw[if_pos hc];simp only[List.lookup_cons,hy,Option.map_some,hc,if_true]
   ·rw[if_neg hc];simp only[List.lookup_cons,hy,Option.map_some,hc];simp
  ·have hy':(y==n)=false:=by simpa using hy
   by_cases hc:(k==NameKind.free&&env.scope.kind== .function&&env.kindOf n==some .cell)=true
   ·rw[if_pos hc];simp only[List.lookup_cons,hy'];exact ih
   ·rw[if_neg hc];simp only[List.lookup_cons,hy'];exact ih
def bB(X:Cx)(scope:Scope)(N':List Str)(s₂:Shared)(H₂:Hp)(C:Addr)(fp:List Addr):Cx :=
 {X with N:=N',s₀:=s₂,H₀:=H₂,env:=compEnvC scope (eG X.env.cells scope.names []) C X.env,outer:=X.stack,ex:=fp,fn:=λ_=>false,pn:=[],xe:=λ_ _=>False}
def bL(x:Str)(fr:List (Str×Nat)):List Str:=x::fr.map (·.1)
def aP(σ:St)(fr:List (Str×Nat)):St:=fr.map λp=>σ.getD p.2 none
structure Blk(X:Cx)(scope:Scope)(x:Str)(fr:List (Str×Nat)):Prop where
 Jh:(scope.names.all λy=>y.2 != .cell)=true
 kind:scope.kind=.function
 names:(scope.names.all λy=>y.2 != .local||scope.names.lookup y.1==some .local)=true
 here:scope.names.lookup x=some .local
 free:(scope.names.all λy=>y.2 != .free||X.env.scope.names.lookup y.1==some .cell)=true
 seen:(fr.all λp=>scope.names.lookup p.1==some .free&&X.N[p.2]? ==some p.1)=true
 nd:(bL x fr).Nodup
section
variable{X:Cx}{scope:Scope}{x:Str}{fr:List (Str×Nat)}{pins:List (Addr×Obj)}{σ:St}{H:Hp}{s:Shared}
theorem Blk.cell(B:Blk X scope x fr):∀y∈scope.names,y.2≠.cell:=λy hy=>by
 have:=List.all_eq_true.mp B.Jh y hy;simpa using this
theorem Blk.loc(B:Blk X scope x fr):∀y∈scope.names,y.2=.local->scope.names.lookup y.1=some .local:=λy hy e=>by
 have:=List.all_eq_true.mp B.names y hy;rw[e]at this;simpa using this
theorem Blk.frees(B:Blk X scope x fr):∀y∈scope.names,y.2=.free->X.env.kindOf y.1=some .cell:=λy hy e=>by
 have:=List.all_eq_true.mp B.free y hy;rw[e]at this;have h:X.env.scope.names.lookup y.1=some .cell:=by simpa using this
 exact h
theorem Blk.clos(B:Blk X scope x fr)(ok:X.Ok):∀y∈scope.names,y.2=.free->∃c,X.env.cells.lookup y.1=some c:=λy hy e=>ok.has y.1 (.inl (B.frees y hy e))
theorem Blk.sub(B:Blk X scope x fr)(ok:X.Ok):∀y c,(eG X.env.cells scope.names []).lookup y=some c->X.env.cells.lookup y=some c :=
 zb scope.names [] (B.clos ok) λy c e=>by simp at e
theorem Blk.kinds(B : Blk X scope x fr)(h : (relabel scope X.env).names.lookup y=some .cell\/(relabel scope X.env).names.lookup y=some .free) : (y,NameKind.free)∈scope.names :=by
 have e : (relabel scope X.env).names.lookup y=_ :=hU X.env scope.names y;rw[e]at h;cases q:scope.names.lookup y with
 |none=>rw[q]at h;simp at h
 |some k=>
  have hm:=za5 q;rw[q]at h;have hk:k=.free:=by
   by_cases hk:k=.free
   ·exact hk
   ·have hb:(k==NameKind.free)=false:=by simpa using hk
    have hc:k≠.cell:=B.cell _ hm;rw[zaT,hb,Bool.false_and,Bool.false_and,if_neg zam]at h;rcases h with h|h
    ·exact absurd (zaQ h) hc
    ·exact zaQ h
  subst hk;exact hm
theorem Blk.sees(B : Blk X scope x fr)(hk : X.env.scope.kind= .function)(h : scope.names.lookup y=some .free) : (relabel scope X.env).names.lookup y=some .cell :=by
 have e : (relabel scope X.env).names.lookup y=_ :=hU X.env scope.names y;rw[e,h];have h2:X.env.kindOf y=some .cell:=B.frees _ (za5 h) rfl;simp[hk,h2]
theorem pC(I:Inv X pins σ H s)(B:Blk X scope x fr){C:Addr}{fp:List Addr}{h₁:Heap}{tk:Nat}{o:Option V}(hC:s.heap.objs.size<=C)(hfp:∀b∈fp,gK X pins H b)(hlt:∀b∈fp,b<s.heap.objs.size)
  (old:∀b ob,s.heap.get? b=some ob->h₁.get? b=some ob) (hns:h₁.Ns C λ_=>none):Inv (bB X scope (bL x fr) s H C fp) [] (none::aP σ fr) H {s with heap:=h₁,toks:=tk}:=by
 have neC:∀b,b<s.heap.objs.size->b≠C:=λb hb=>zaS (zaF hb hC)
 have cl:∀y c,X.env.cells.lookup y=some c->c<s.heap.objs.size:=λy c e=>by
  obtain⟨v,o,ho,_⟩:=I.cell y c e;exact zaq ho
 refine⟨⟨I.ok.mod,B.kind,I.ok.glob,I.ok.blt,hC,λy z c h1 h2=>I.ok.inj y z c (B.sub I.ok _ _ h1) (B.sub I.ok _ _ h2),λy hy=>l5 _ _ _ (.inl (B.kinds hy)),λy c h _=>(zam h).elim,I.ok.hd,I.ok.frames,.inl rfl,
  λb hb=>⟨neC b (hlt b hb),λy c e=>(hfp b hb).2.2.2.2.1 y c (B.sub I.ok _ _ e)⟩,I.bs,zaX I.ok.bsz I.sz,λb ob e hb=>?_,λb hb hs=>?_,I.stack,I.lY,I.tab⟩,
  rfl,I.bare,Un.kept old,⟨_,hns,λi y v h1 h2 h3=>?_⟩,λy c e=>?_,I.hok.fresh hC,λy c e=>I.fk y c (B.sub I.ok _ _ e),λp hp=>?_,I.hok.kept old,?_⟩
 ·rcases(hfp b hb).2.2.2.1 with z|z
  ·exact I.ok.uZ b ob e z
  ·have h1:b<X.base.objs.size:=zaq e
   have h2:=I.ok.bsz;exact absurd (zaF h1 h2) (Nat.not_lt.mpr z)
 ·have z:=I.xh b hs
  rcases zaf z with z|z
  ·exact(hfp b hb).2.1 z
  ·exact(hfp b hb).2.2.1 z
 ·cases i with
  |zero=>simp at h2
  |succ i=>
   have h1':(fr.map (·.1))[i]?=some y:=by
    have z:(x::fr.map (·.1))[i+1]?=some y:=h1
    rw[zat]at z;exact z
   have h2':(aP σ fr)[i]?=some (some v):=by simpa using h2
   rw[zao]at h1';unfold aP at h2';rw[zao]at h2';cases e:fr[i]? with
   |none=>rw[e]at h1';cases h1'
   |some p=>
    rw[e]at h1' h2';have e1:p.1=y:=by simpa using h1'
    have e2 : σ.getD p.2 none=some v:=by simpa using h2'
    have hs:=List.all_eq_true.mp B.seen p (zaj e);rw[Bool.and_eq_true]at hs;have hs1:scope.names.lookup p.1=some .free:=by simpa using hs.1
    have hs2:X.N[p.2]?=some p.1:=by simpa using hs.2
    rw[e1]at hs1 hs2;have hk:X.env.kindOf y=some .cell:=B.frees _ (za5 hs1) rfl;have e3 : σ[p.2]?=some (some v):=by
     rw[List.getD_eq_getElem?_getD]at e2;cases q : σ[p.2]? with
     |none=>rw[q]at e2;simp at e2
     |some z=>rw[q]at e2;simp at e2;rw[e2]
    obtain⟨m,hn,hl⟩:=I.loc;obtain⟨u,r,l⟩:=hl p.2 y v hs2 e3 (.inr (.inl hk));refine⟨u,r,.inr ⟨.inl (B.sees I.ok.kind hs1),?_⟩⟩;rcases l with⟨z,_⟩|⟨_,c,ec,z⟩
    ·rw[hk]at z;cases z
    ·obtain⟨c',hc'⟩:=l5 (cells:=X.env.cells) scope.names [] y (.inl (za5 hs1))
     have:=B.sub I.ok _ _ hc';rw[ec]at this;cases this;obtain⟨ob,ho,hd⟩:=z;exact⟨c,hc',ob,old _ _ ho,hd⟩
 ·obtain⟨v,ob,ho,hd⟩:=I.cell y c (B.sub I.ok _ _ e)
  exact⟨v,ob,old _ _ ho,hd⟩
 ·exact absurd (show p∈([]:List (Addr×Obj))from hp) (by simp)
 ·show _=(bL x fr).length
  simp[bL,aP]
end
def PIf(X:Cx)(ifs:List Expr)(t:TT):Prop :=
 ∀(pins:List (Addr×Obj)) (s:Shared) (σ:St) (H:Hp) (Q:Bool->Hp->Prop),Inv X pins σ H s->t σ H Q->
  wpAny (model X.prog X.w) X.A (forIn ifs true λc r=>if r=true then do let ok<-isTrue c X.env (eval c X.env);pure (ForInStep.yield ok)else pure (ForInStep.yield r)) (TP X pins σ Q) X.xe s
def Lb:TT:=λ_ H Q=>Q true H
theorem l6:PIf X [] Lb:=λ_ _ _ H _ I h=>wpAny_tests_nil ⟨H,I,h⟩
theorem oP(h:PT X c t):PIf X [c] t:=λpins s σ H Q I hw=>wpAny_tests_one (h pins s σ H Q I hw)
def tLC(fr:List (Str×Nat))(wi:TI)(tc:TT)(te:TE):TE:=fun σ H Q=>wi σ H λJ H1=>∃W:Nat->Nat->List V->Hp->Prop,(∃m,W 0 m [] H1)/\∀i m ys H2,W i m ys H2->ys.length<sizeLine/\
 ((J.stop i H2/\∀D,H2 D=none->Q (.ref D) (upd H2 D (.lst ys)))\/
  (J.go i H2/\∀v H3,J.yld i H2 v H3->tc (some v::aP σ fr) H3 λb H4=>
   if b=true then te (some v::aP σ fr) H4 λy H5=>∃m',m'<m/\W (i+1) m' (ys++[y]) H5 else∃m',m'<m/\W (i+1) m' ys H4))
section
variable{X:Cx}
theorem oF(h:wpAny M A t Q (λ_ _=>False) s):wpAny M A t Q E s:=za6 h (λ_ _ x=>x) λ_ _ x=>x.elim
theorem m5(J:Nat->Shared->Prop)
  (turn:∀n s,J n s->wpAny (model prog w) A (pyNext it) (λr s₁=>match r with
   |none=>R (.ok .next) s₁
   |some v=>wpAny (model prog w) A (letOwnedTupleGo target it v) (λ_ s₂=>wpAny (model prog w) A (assign target env v) (λ_ s₃=>
     wpAny (model prog w) A (forIn ifs true λc r=>if r=true then do let ok<-isTrue c env (eval c env);pure (ForInStep.yield ok)else pure (ForInStep.yield r)) (λok s₄=>
      if ok=true then wpAny (model prog w) A (eval elt env) (λy s₅=>
       wpAny (model prog w) A (call (.builtin "list.append") [acc,y]) (λ_ s₆=>∃m,m<n/\J m s₆) (λ_ _=>False) s₅) (λ_ _=>False) s₄
      else∃m,m<n/\J m s₄) (λ_ _=>False) s₃) (λ_ _=>False) s₂) (λ_ _=>False) s₁) (λ_ _=>False) s)
  (n:Nat) (h:J n s):codeAny (model prog w) A (.compLoop (.ListComp elt [⟨target,iter,ifs,0⟩] scope pos) 0 it acc env) R s:=by
 refine codeAny_loop rfl J (λk s' hJ=>?_) n h
 show wpAny (model prog w) A ((compTurn (.ListComp elt [⟨target,iter,ifs,0⟩] scope pos) 0 it acc env).onRaise (λx=>do noteFrame x env;theTreesLotGoes x)) _ _ s'
 refine wpAny_noted ?_;rw[compTurn_list];refine zaI (wpAny_standAt (zaI (za6 (turn k s' hJ) (λr s₁ h₁=>?_) λ_ _ z=>z.elim)))
 cases r with
 |none=>exact zaZ h₁
 |some v=>
  refine zaI (za6 h₁ (λ_ s₂ h₂=>zaI (za6 h₂ (λ_ s₃ h₃=>zaI (za6 h₃ (λok s₄ h₄=>?_) λ_ _ z=>z.elim)) λ_ _ z=>z.elim)) λ_ _ z=>z.elim)
  cases ok with
  |false=>exact zaZ ⟨rfl,h₄⟩
  |true=>
   exact zaI (zaI (za6 h₄ (λy s₅ h₅=>zaI (za6 h₅ (λ_ s₆ h₆=>zaZ (zaZ ⟨rfl,h₆⟩)) λ_ _ z=>z.elim)) λ_ _ z=>z.elim))
theorem rD(hc:X.calm=true)(B:Blk X scope x fr)
  (hi:PI X (.Name x px) iter wi) (ht:∀s₂ H₂ C fp,PIf (bB X scope (bL x fr) s₂ H₂ C fp) ifs tc) (he:∀s₂ H₂ C fp,PE (bB X scope (bL x fr) s₂ H₂ C fp) elt te)
  (hs:∀v,foldedSetIterable iter X.env v=pure v:=by intro _;rfl):PE X (.ListComp elt [⟨.Name x px,iter,ifs,0⟩] scope pos) (tLC fr wi tc te):=by
 intro pins s σ H Q I h;rw[eval_ListComp];have hclos:=sV (scope:=scope) (env:=X.env) (B.clos I.ok);refine wpAny_comprehension_free (use:=none) rfl hs hclos B.kind B.loc (thn (hi pins s σ H _ I h) λv s1 h1=>thn h1 λitv s2 h2=>?_)
 obtain⟨it,fp,tn,J,H2,rfl,I2,T,st2,f2,W,⟨m0,w0⟩,turn⟩:=h2;refine wpAny_newObj_type (wpAny_newFunctionEnv B.cell (by intro y hy;simp at hy) (λh₁ hns hsb=>?_) B.kind)
 dsimp only at hns hsb⊢;generalize hG:s2.heap.push {cls:=.type "list",dict:=none,data:=.seq ([]:List Value).toArray}=G at hns hsb⊢;have hC:G.objs.size=s2.heap.objs.size+1:=by rw[<-hG,Heap.size_push]
 have hDC:s2.heap.objs.size≠G.objs.size:=by omega
 have old:∀b ob,s2.heap.get? b=some ob->h₁.get? b=some ob:=λb ob e=>by
  have hb:=zaq e;refine hsb.extBut b ob (zaS (by rw[hC];exact Nat.lt_succ_of_lt hb)) (zar _ ?_)
  rw[<-hG];exact zar _ e
 have hacc:h₁.get? s2.heap.objs.size=some {cls:=.type "list",data:=.seq ([]:List Value).toArray 0}:=by
  refine hsb.extBut _ _ hDC (zar _ ?_);rw[<-hG];exact zaL _ rfl
 have hlt:∀b∈fp,b<s2.heap.objs.size:=λb hb=>by
  obtain⟨o,e,_⟩:=T.obj 0 _ st2 b hb;exact zaq e
 have I4:=pC (tk:=s2.toks+([]:List (Str×Value)).length) (o:=none) I2 B (show s2.heap.objs.size<=G.objs.size by omega) f2 hlt old hns
 have tn4:tn 0 h₁:=T.keep 0 _ _ st2 λb _ o e=>old b o e
 have Dfs:s2.heap.objs.size∉frs X.stack:=λz=>by
  obtain⟨_,o,ho,_⟩:=I2.stack.mem z;exact absurd (zaq ho) (za3 _)
 have Dcl:∀y c,X.env.cells.lookup y=some c->c≠s2.heap.objs.size:=λy c e=>by
  obtain⟨v,o,ho,_⟩:=I2.cell y c e;exact zaS (zaq ho)
 have DL:s2.heap.objs.size≠X.env.locals:=Nat.ne_of_gt I2.lt;have Dfp:s2.heap.objs.size∉fp:=λz=>absurd (hlt _ z) (za3 _)
 have loop:∀s₃:Shared,s₃={s2 with heap:=h₁,toks:=s2.toks+([]:List (Str×Value)).length}->
   codeAny (model X.prog X.w) X.A (.compLoop (.ListComp elt [⟨.Name x px,iter,ifs,0⟩] scope pos) 0 (.ref it) (.ref s2.heap.objs.size) (compEnvC scope (eG X.env.cells scope.names []) G.objs.size X.env))
    (compPost (model X.prog X.w) X.A X.xe none (EP X pins σ Q) (.ref s2.heap.objs.size) G.objs.size) s₃:=by
  rintro s₃ rfl
  refine m5
   (λn s'=>∃i o H' ys its k,Inv (bB X scope (bL x fr) s2 H2 G.objs.size fp) [] (o::aP σ fr) H' s'/\tn i s'.heap/\(∀b∈fp,H' b=none)/\H' s2.heap.objs.size=none/\
    s'.heap.get? s2.heap.objs.size=some {cls:=.type "list",data:=.seq (its:List Value).toArray k}/\Vals ys its/\W i n ys H') ?_ m0
   ⟨0,none,H2,[],[],0,I4,tn4,λb hb=>(f2 b hb).1,I2.hok.fresh (zap _),hacc,.nil,w0⟩
  rintro n s5 ⟨i,o,H5,ys,its,k,I5,st5,fr5,D5,hD5,r5,w5⟩
  have fok:∀{H':Hp},(∀b∈fp,H' b=none)->∀b∈fp,gK (bB X scope (bL x fr) s2 H2 G.objs.size fp) [] H' b:=λhn b hb=>
   ⟨hn b hb,(I5.ok.exf b hb).1,I5.ok.qK b hb,.inl hb,(I5.ok.exf b hb).2,λp hp=>absurd (show p∈([]:List (Addr×Obj))from hp) (by simp)⟩
  have dok:∀{H':Hp},H' s2.heap.objs.size=none->gK (bB X scope (bL x fr) s2 H2 G.objs.size fp) [] H' s2.heap.objs.size:=λhn=>
   ⟨hn,hDC,Dfs,.inr (zap _),λy c e=>Dcl y c (B.sub I2.ok _ _ e),λp hp=>absurd (show p∈([]:List (Addr×Obj))from hp) (by simp)⟩
  obtain⟨hz,alt⟩:=turn i n ys H5 w5;have hzl:its.length<=sizeLine:=by rw[<-r5.length];exact Nat.le_of_lt hz
  rcases alt with⟨stop,fin⟩|⟨go,step⟩
  ·refine thn (T.done (bB X scope (bL x fr) s2 H2 G.objs.size fp) rfl rfl rfl hc i (dG [s2.heap.objs.size] s5.heap) s5 (o::aP σ fr) H5 _ ?_ (λb hb=>?_) st5 stop) λr s6 ⟨hr,I6⟩=>?_
   ·exact(Inv.pinned I5 (fp:=[s2.heap.objs.size]) (λb hb=>by rw[zad hb];exact dok D5) λb hb=>by
     rw[zad hb];exact⟨_,hD5,λv z=>by cases z⟩)
   ·obtain⟨f0,f1,f2',f3,f4,f5⟩:=fok fr5 b hb
    refine⟨f0,f1,f2',f3,f4,λp hp=>?_⟩
    have hp':p∈dG [s2.heap.objs.size] s5.heap:=(zae hp).elim (λz=>absurd (show p∈([]:List (Addr×Obj))from z) (by simp)) id
    have:=(fT hp').1;rw[zad this];exact λe=>Dfp (by rw[e];exact hb)
   ·subst hr
    have hD6:=(I6.pin (s2.heap.objs.size,{cls:=.type "list",data:=.seq its.toArray k}) (zan _ (a7 (by simp) hD5))).1
    obtain⟨m6,hn6,_⟩:=I6.loc;refine⟨m6,hn6,λh' hs'=>?_⟩
    have hCn:s2.heap.get? G.objs.size=none:=by
     cases e:s2.heap.get? G.objs.size with
     |none=>rfl
     |some ob=>exact absurd (zaq e) (by rw[hC];exact Nat.not_lt.mpr (Nat.le_succ _))
    have neC:∀b ob,s2.heap.get? b=some ob->b≠G.objs.size:=λb ob e z=>by rw[z,hCn]at e;cases e
    have u6:Un (frs X.stack) fp H2 H5 s2.heap s6.heap:=I6.base;have u7:Un (frs X.stack) fp H2 H5 s2.heap h':=⟨λb ob e n hb hx=>hs'.extBut b ob (neC b ob e) (u6.keep b ob e n hb hx),λb ob e n hb hx=>by
      obtain⟨sl,q⟩:=u6.slot b ob e n hb hx;exact⟨sl,hs'.extBut b _ (neC b ob e) q⟩,u6.free,λb ob e hx=>by
      obtain⟨o',q⟩:=u6.there b ob e hx;exact⟨o',hs'.extBut b _ (neC b ob e) q⟩,u6.tups,u6.iJ,u6.iy⟩
    have hC5:H5 G.objs.size=none:=I6.free;have Ji:HOk X.prog X.w H5 h':=λb ob e=>(I6.hok b ob e).stay (λc u hc q=>hs'.extBut c u (by
      rintro rfl
      rcases hc with rfl|hc
      ·rw[hC5]at e;cases e
      ·rw[hC5]at hc;cases hc) q) (λ_ q=>q) λ_ _ _ q=>q
    have I7:Inv X pins σ H5 {s6 with heap:=h'}:=I2.call' (s':={s6 with heap:=h'}) (I6.os) u7 Ji I6.bare λb hb=>⟨(f2 b hb).2.2.2.1,(f2 b hb).2.1,(f2 b hb).2.2.2.2.1,(f2 b hb).2.2.2.2.2⟩
    refine⟨.ref s2.heap.objs.size,upd H5 s2.heap.objs.size (.lst ys),I7.track D5 I2.sz DL Dcl (λp hp z=>?_) ?_,rfl,fin _ D5⟩
    ·obtain⟨e,_⟩:=I2.pin p hp
     rw[z]at e;exact absurd (zaq e) (za3 _)
    ·exact⟨Nat.le_of_lt hz,its,k,r5,hs'.extBut _ _ hDC hD6⟩
  ·refine oF (thn (T.item (bB X scope (bL x fr) s2 H2 G.objs.size fp) rfl rfl rfl hc i (dG [s2.heap.objs.size] s5.heap) s5 (o::aP σ fr) H5 _ ?_ (λb hb=>?_) st5 go) λr s6 ⟨u,hr,h6⟩=>?_)
   ·exact(Inv.pinned I5 (fp:=[s2.heap.objs.size]) (λb hb=>by rw[zad hb];exact dok D5) λb hb=>by
     rw[zad hb];exact⟨_,hD5,λv z=>by cases z⟩)
   ·obtain⟨f0,f1,f2',f3,f4,f5⟩:=fok fr5 b hb
    refine⟨f0,f1,f2',f3,f4,λp hp=>?_⟩
    have hp':p∈dG [s2.heap.objs.size] s5.heap:=(zae hp).elim (λz=>absurd (show p∈([]:List (Addr×Obj))from z) (by simp)) id
    have:=(fT hp').1;rw[zad this];exact λe=>Dfp (by rw[e];exact hb)
   ·subst hr
    refine thn h6 λ_ s7 ⟨v,H7,I7,rv,y7,st7,fr7⟩=>?_
    have p7:=I7.pin (s2.heap.objs.size,{cls:=.type "list",data:=.seq its.toArray k}) (zan _ (a7 (by simp) hD5))
    have hD7:s7.heap.get? s2.heap.objs.size=some {cls:=.type "list",data:=.seq its.toArray k}:=p7.1;have D7:H7 s2.heap.objs.size=none:=p7.2.1;have I7u:Inv (bB X scope (bL x fr) s2 H2 G.objs.size fp) [] (o::aP σ fr) H7 s7:=Inv.cR (pins:=[]) I7;have I8:=Inv.pinned I7u (fp:=s2.heap.objs.size::fp) (λb hb=>by
      rcases zaf hb with e|hb
      ·rw[e];exact dok D7
      ·exact fok fr7 b hb) λb hb=>by
      rcases zaf hb with e|hb
      ·rw[e];exact⟨_,hD7,λv z=>by cases z⟩
      ·exact T.obj _ _ st7 b hb
    have hl : Loc (bB X scope (bL x fr) s2 H2 G.objs.size fp).env.scope x := .inl (lookup_relabel_local B.here);have pk:∀{σ':St} {H':Hp} {s':Shared},Inv (bB X scope (bL x fr) s2 H2 G.objs.size fp) ([]++dG (s2.heap.objs.size::fp) s7.heap) σ' H' s'->
      tn (i+1) s'.heap/\(∀b∈fp,H' b=none)/\H' s2.heap.objs.size=none/\s'.heap.get? s2.heap.objs.size=some {cls:=.type "list",data:=.seq its.toArray k}:=fun{σ' H' s'} I'=>by
     have pD:=I'.pin (s2.heap.objs.size,{cls:=.type "list",data:=.seq its.toArray k}) (zan _ (zan _ (a7 (by simp) hD7)))
     refine⟨T.keep _ _ _ st7 λb hb ob e=>(I'.pin (b,ob) (zan _ (zan _ (a7 (zak _ hb) e)))).1,λb hb=>?_,pD.2.1,pD.1⟩
     obtain⟨ob,e,_⟩:=T.obj _ _ st7 b hb;exact(I'.pin (b,ob) (zan _ (zan _ (a7 (zak _ hb) e)))).2.1
    refine oF (thn (bX (X :=bB X scope (bL x fr) s2 H2 G.objs.size fp) (i :=0) B.nd rfl hl (.inr (lookup_relabel_local B.here)) _ s7 _ H7 v u (fun σ' H'=>σ'=some v :: aP σ fr/\H'=H7) I8 rv ⟨rfl,rfl⟩) λ_ s8 ⟨σ8,H8,I9,e1,e2⟩=> ?_)
    subst e1 e2;refine oF (thn (ht s2 H2 G.objs.size fp _ s8 _ H8 _ I9 (step v H8 y7)) λok s9 ⟨H9,I10,q10⟩=>?_)
    cases ok with
    |false=>
     rw[if_neg zam]at q10;rw[if_neg zam];obtain⟨m',hm,w'⟩:=q10;obtain⟨k1,k2,k3,k4⟩:=pk I10;exact⟨m',hm,i+1,some v,H9,ys,its,k,Inv.cR (pins:=[]) I10,k1,k2,k3,k4,r5,w'⟩
    |true=>
     rw[if_pos rfl]at q10;rw[if_pos rfl];refine oF (thn (he s2 H2 G.objs.size fp _ s9 _ H9 _ I10 q10) λy' s10 ⟨y,H10,I11,ry,m',hm,w'⟩=>?_)
     obtain⟨k1,k2,k3,k4⟩:=pk I11;refine append_at k4 (λh' hs' hD'=>?_) (by rw[zaK];exact hzl)
     have I12:Inv (bB X scope (bL x fr) s2 H2 G.objs.size fp) [] (some v::aP σ fr) H10 {s10 with heap:=h'} :=
      (Inv.cR (pins:=[]) I11).turned (t':=s10.toks) (it:=s2.heap.objs.size) (λb ob hb e=>(hs'.2 b hb).trans e) k3 hDC (.inr (zap _)) (λz c e=>Dcl z c (B.sub I2.ok _ _ e)) λp hp=>absurd (show p∈([]:List (Addr×Obj))from hp) (by simp)
     refine⟨m',hm,i+1,some v,H10,ys++[y],its++[y'],k+1,I12,T.keep _ _ _ k1 λb hb ob e=>(hs'.2 b λz=>Dfp (by rw[<-z];exact hb)).trans e,k2,k3,?_,r5.append (.cons ry .nil),w'⟩
     rw[hD'];simp
 exact codeAny_compStart_list (loop _ rfl) (T.self _ 0 _ _ _ tn4 (loop _ rfl))
end
def tyN(H:Hp):V->String
 | .non=>"NoneType"
 | .bl _=>"bool"
 | .int _=>"int"
 | .str _=>"str"
 | .ref a=>match H a with
  |some (.lst _)=>"list"
  |some (.tup _)=>"tuple"
  |some (.dK _)=>"dict"
  |some (.frz _ (.lst _))=>"list"
  |_=>"?"
 |_=>"?"
def pE(T n:String):Bool:=T==n||(T=="bool"&&n=="int")
def eP:List String:=["NoneType","bool","int","str","list","tuple","dict"]
def eA:List String:=["bool","int","str","list","tuple","dict"]
theorem rE(K:zag):∀T∈eP,∀n∈eA,PySem.W.kitOne K (.type T) (.type n)=some (pE T n):=by
 intro T hT n hn;simp only[eP,eA,List.mem_cons,List.not_mem_nil,or_false]at hT hn;rcases hT with rfl|rfl|rfl|rfl|rfl|rfl|rfl<;>rcases hn with rfl|rfl|rfl|rfl|rfl|rfl<;>kernel_rfl
theorem Jj{K:zag}{H:Hp}{x:V}(h:tyN H x∈eP):m4 K H x (.type (tyN H x)):=by
 have no : ¬("?"∈eP):=by decide
 cases x with
 |non=>exact .non
 |bl b=>exact .bl b
 |int i=>exact .int i
 |str z=>exact .str z
 |ref a=>
  unfold tyN at h⊢;dsimp only at h⊢;cases e:H a with
  |none=>rw[e]at h;exact absurd h no
  |some o=>
   rw[e]at h;cases o with
   |lst xs=>exact .lst e
   |tup xs=>exact .tup e
   |dK kvs=>exact .dK e
   |frz ob u=>
    cases u with
    |lst xs=>exact .frz e
    |_=>exact absurd h no
   |_=>exact absurd h no
 |_=>exact absurd h no
def Lc(xs:List V)(H:Hp)(Q:VK):Prop:=∃x n,xs=[x,.ty n]/\tyN H x∈eP/\n∈eA/\Q (.bl (pE (tyN H x) n)) H
section
variable{X:Cx}
theorem Cf:dZ X (.builtin "isinstance") Lc:=by
 intro pins s σ H xs us Q I r h;obtain⟨x,n,rfl,h1,h2,q⟩:=h;obtain⟨u,v,rfl,ru,rv⟩:=vals2 r;cases rv;exact Ar I ru (Jj h1) (rE X.K _ h1 _ h2) λtk=>⟨.bl _,H,I.tok tk,rfl,q⟩
theorem n6:∀{us:List Value},Vals (bs.map V.bl) us->LSm.BoolsAre us bs:=by
 induction bs with
 |nil=>intro us r;rw[List.map_nil]at r;cases r;exact .nil
 |cons b bs ih=>
  intro us r;rw[zaz]at r;cases r with
  |cons r1 r2=>
   cases r1;exact .cons b (ih r2)
def Jk(K:zag)(xs:List V)(H:Hp)(Q:VK):Prop:=∃(p:Addr) (bs:List Bool),xs=[.ref p]/\SqL K H p (bs.map V.bl)/\Q (.bl (bs.all id)) H
theorem Cg(hc:X.calm=true):dZ X (.builtin "all") (Jk X.K):=by
 intro pins s σ H xs us Q I r h;obtain⟨p,bs,rfl,hq,q⟩:=h;obtain⟨u,rfl,rx⟩:=vals1 r;cases rx;obtain⟨its,r',pl,hz⟩:=I.list hq;have hb:=n6 r';have hl:=pl.isList;have hlt:p<s.heap.objs.size:=by obtain⟨_,e,_⟩:=hl;exact zaq e
 refine call_all_walk (wpAny_pyIter_list hl ?_);refine⟨s.heap.objs.size,[s.heap.objs.size,p],[s.heap.objs.size],its.toArray.size,_,_,λi=>(bs[i]?).getD true,rfl,Walks.list (A:=X.A.in1) (I.ok.hd hc) _ p (zaS hlt) its.toArray,
  ⟨⟨_,zaL _ rfl,rfl,rfl⟩,hl.push _⟩,λi v s' Q' E' hP hQ=>?_,λh' tk hk=>?_⟩
 ·obtain⟨b,e,rfl⟩:=hb.get i v (by simpa using hP)
  simp only[e,Option.getD_some]at hQ;exact wpAny_truthy_bool hQ
 ·have e:((List.range its.toArray.size).all λi=>(bs[i]?).getD true)=bs.all id:=by
   rw[zaK,hb.length];exact LSm.range_all bs
  rw[e];exact⟨.bl (bs.all id),H,I.kept (t':=tk) (LSm.kept_iter hk),rfl,q⟩
def Jl(K:zag)(xs:List V)(H:Hp)(Q:VK):Prop:=∃(p:Addr) (bs:List Bool),xs=[.ref p]/\SqL K H p (bs.map V.bl)/\Q (.bl (bs.any id)) H
theorem Ci(hc:X.calm=true):dZ X (.builtin "any") (Jl X.K):=by
 intro pins s σ H xs us Q I r h;obtain⟨p,bs,rfl,hq,q⟩:=h;obtain⟨u,rfl,rx⟩:=vals1 r;cases rx;obtain⟨its,r',pl,hz⟩:=I.list hq;have hb:=n6 r';have hl:=pl.isList;have hlt:p<s.heap.objs.size:=by obtain⟨_,e,_⟩:=hl;exact zaq e
 refine call_any_walk (wpAny_pyIter_list hl ?_);refine⟨s.heap.objs.size,[s.heap.objs.size,p],[s.heap.objs.size],its.toArray.size,_,_,λi=>(bs[i]?).getD false,rfl,Walks.list (A:=X.A.in1) (I.ok.hd hc) _ p (zaS hlt) its.toArray,
  ⟨⟨_,zaL _ rfl,rfl,rfl⟩,hl.push _⟩,λi v s' Q' E' hP hQ=>?_,λh' tk hk=>?_⟩
 ·obtain⟨b,e,rfl⟩:=hb.get i v (by simpa using hP)
  simp only[e,Option.getD_some]at hQ;exact wpAny_truthy_bool hQ
 ·have e:((List.range its.toArray.size).any λi=>(bs[i]?).getD false)=bs.any id:=by
   rw[zaK,hb.length];exact LSm.range_any bs
  rw[e];exact⟨.bl (bs.any id),H,I.kept (t':=tk) (LSm.kept_iter hk),rfl,q⟩
mutual
inductive gm(K:zag)(H:Hp):V->PyData->Prop
 |non:gm K H .non .none
 |bl (b:Bool):gm K H (.bl b) (.bool b)
 |int (i:Int):gm K H (.int i) (.int i)
 |str (x:Str):gm K H (.str x) (.str x)
 |lst {a:Addr} {xs:List V} {ds:List PyData}:SqL K H a xs->h8 K H xs ds->gm K H (.ref a) (.list ds)
 |tup {a:Addr} {xs:List V} {ds:List PyData}:SqT K H a xs->h8 K H xs ds->gm K H (.ref a) (.tuple ds)
inductive h8(K:zag)(H:Hp):List V->List PyData->Prop
 |nil:h8 K H [] []
 |cons {x:V} {xs:List V} {d:PyData} {ds:List PyData}:gm K H x d->h8 K H xs ds->h8 K H (x::xs) (d::ds)
end
mutual
theorem gm.reads{pins:List (Addr×Obj)}{s:Shared}{σ:St}{H:Hp}(I:Inv X pins σ H s):∀{x:V} {d:PyData},gm X.K H x d->∀{u:Value},RelV x u->∃as,Reads s.heap u d as
 |_,_,.non,_,r=>by cases r;exact⟨_,.none⟩
 |_,_,.bl b,_,r=>by cases r;exact⟨_,.bool b⟩
 |_,_,.int i,_,r=>by obtain⟨t,rfl⟩:=r;exact⟨_,.int i t⟩
 |_,_,.str z,_,r=>by obtain⟨t,rfl⟩:=r;exact⟨_,.str z t⟩
 |_,_,.lst hq hd,_,r=>by
  cases r;obtain⟨its,rv,pl,_⟩:=I.list hq;obtain⟨as,ha⟩:=h8.reads I hd rv;obtain⟨o,n,e,c,_,d⟩:=pl;exact⟨_,.list e c d ha⟩
 |_,_,.tup hq hd,_,r=>by
  cases r;obtain⟨its,rv,pl,_⟩:=I.tuple hq;obtain⟨as,ha⟩:=h8.reads I hd rv;obtain⟨o,e,c,n,d⟩:=pl;exact⟨_,.tuple e c d ha⟩
theorem h8.reads{pins:List (Addr×Obj)}{s:Shared}{σ:St}{H:Hp}(I:Inv X pins σ H s):∀{xs:List V} {ds:List PyData},h8 X.K H xs ds->∀{us:List Value},Vals xs us->∃as,ReadsAll s.heap us ds as
 |_,_,.nil,_,r=>by cases r;exact⟨_,.nil⟩
 |_,_,.cons h t,_,r=>by
  cases r with
  |cons r1 r2=>
   obtain⟨as,ha⟩:=gm.reads I h r1;obtain⟨bs,hb⟩:=h8.reads I t r2;exact⟨_,.cons ha hb⟩
end
def Jm(K:zag):R2:=λx y H Q=>∃da db,gm K H x da/\gm K H y db/\SeqAt.shaped da=true/\SeqAt.shaped db=true/\Q (.bl (PyData.eqv da db)) H
def Jn(K:zag):R2:=λx y H Q=>∃da db,gm K H x da/\gm K H y db/\SeqAt.shaped da=true/\SeqAt.shaped db=true/\Q (.bl (!PyData.eqv da db)) H
theorem Jo(hu:X.A.units+64<cLine):OpR X (compareOp .Eq) (Jm X.K):=by
 intro pins s σ H x y v u Q I rx ry h;obtain⟨da,db,ha,hb,sa,sb,q⟩:=h;obtain⟨as,ra⟩:=ha.reads I rx;obtain⟨bs,rb⟩:=hb.reads I ry;exact eq_dataH ra rb sa sb hu ⟨.bl _,H,I,rfl,q⟩
theorem Jp(hu:X.A.units+64<cLine):OpR X (compareOp .NotEq) (Jn X.K):=by
 intro pins s σ H x y v u Q I rx ry h;obtain⟨da,db,ha,hb,sa,sb,q⟩:=h;obtain⟨as,ra⟩:=ha.reads I rx;obtain⟨bs,rb⟩:=hb.reads I ry;exact ne_dataH ra rb sa sb hu ⟨.bl _,H,I,rfl,q⟩
theorem Fb:OpR X (binaryOp .Mult) (rI IntMulOk λi j=>.int (i*j)):=opI λ_ _ _ _ _ _ _ hc q=>mul_int q hc
def Fc(K:zag)(xs:List V)(H:Hp)(Q:VK):Prop:=(∃p ys,xs=[.ref p]/\(SqL K H p ys\/SqT K H p ys)/\Q (.int ys.length) H)\/(∃z,xs=[.str z]/\z.length<=sizeLine/\Q (.int z.length) H)
theorem Ax:dZ X (.builtin "len") (Fc X.K):=sR.or sS
end
structure Top(K:zag)(mg:Str->Option Value)(x:Str)(st:Stmt):Prop where
 ex:∃(f:Addr) (fd:FuncData),Fun K x x st f fd/\mg x=some (.ref f)
structure Def(P:Program)(w:World)(K:zag)(mg:Str->Option Value)(base:Heap)(CX:CXT)(k:Nat)(x:Str)(ps:List Str)(sp:Sp):Prop where
 ex:∃(f:Addr) (fd:FuncData),iz P w K mg base CX k f fd ps sp/\mg x=some (.ref f)/\PySem.W.keepIn K (.ref f)=true/\Binds K fd ps []
section
variable{P:Program}{w:World}{K:zag}{mg:Str->Option Value}{base:Heap}
theorem Top.mk'{x:Str}{st:Stmt}{h:Heap}{f:Addr}{oc:Value}{od an:Option Addr}{osl:Array (Option Value)}{kV doc pm cdv ct:Value}(X:K.In h)(G:h.Ns mainGlobals mg)(a:PySem.W.nsIn K mainGlobals x=some (some (.ref f)))
  (l:K.lookup f=some ⟨oc,od,.func (PySem.W.fnOf x x (fu st) (cX st) (aK st) .none kV doc pm an cdv ct),osl⟩) (c:PySem.W.codeIn K cdv x=true) (k:PySem.W.keepIn K (.ref f)=true):Top K mg x st :=
 ⟨⟨f,_,Jg l c k,PySem.W.mg_of X G a⟩⟩
theorem Top.def{x:Str}{st:Stmt}{N ps:List Str}{k:Nat}{sp:Sp}(T:Top K mg x st)(S:bw N ps (aK st))(len:∀vs H Q E,sp vs H Q E->vs.length=ps.length)
  (hb:∀(kV doc pm:Value) (an:Option Addr) (cdv ct:Value) (us:List Value),us.length=ps.length->bindArgs (PySem.W.fnOf x x (fu st) (cX st) (aK st) .none kV doc pm an cdv ct) ⟨us,[]⟩=pure (ps.zip us))
  (hbody:∀(f:Addr) (cdv:Value) (A:Around) (outer:List Env) (s:Shared) (H:Hp) (vs:List V) (Q:VK) (E:XK),dh k (A.deeper (envOfC x (aK st) s.heap.objs.size f cdv))->sp vs H Q E->
   ∃t,PSs (ly CX0 P w K mg base N x (aK st) f cdv A outer s H E).nox (cX st) t/\t {nx:=λ_ H'=>Q .non H',rt:=Q} (start N vs) H):Def P w K mg base CX0 (k+1) x ps sp:=by
 obtain⟨f,fd,F,m⟩:=T.ex;exact⟨⟨f,fd,F.ok S len (hbody f),m,F.kp,F.binds hb⟩⟩
theorem bQ{X:Cx}{k:Nat}{x:Str}{ps:List Str}{sp:Sp}{p pos:Pos}{e:Expr}{es:List Expr}{t:TA}(D:Def X.prog X.w X.K X.mg X.base CX0 k x ps sp)(hr:dh k X.A)(ha:PA X (e::es) t)(hg:Gl X x:=by rfl)
  (hdb:(x==("__debug__":Str))=false:=by decide) (he:starEach (e::es) X.env=(false,eval e X.env)::starEach es X.env:=by rfl) (hpl:(backTo pos (starEach es X.env)).any (·.1)=false:=by rfl) :
  PE X (.Call (.Name x p) (e::es) [] pos) (n4 sp [] E0 t):=by
 obtain⟨f,fd,F,m,kp,b⟩:=D.ex;exact EU F hr hg m kp b .nil Hr ha hdb he hpl
theorem Fd{X:Cx}{k:Nat}{x:Str}{ps:List Str}{sp:Sp}{p pos:Pos}(D:Def X.prog X.w X.K X.mg X.base CX0 k x ps sp)(hr:dh k X.A)(hg:Gl X x:=by rfl)
  (hdb:(x==("__debug__":Str))=false:=by decide):PE X (.Call (.Name x p) [] [] pos) (n4 sp [] E0 vf):=by
 obtain⟨f,fd,F,m,kp,b⟩:=D.ex;exact B9 F hr hg m kp b .nil Hr hdb
end
open PySem.W in
theorem n8:∀(ns:List Int) (n:Int),n∈ns->Builtin.Int.intBits n<=WData.weightAll (ns.map WData.int)
 |m::r,n,h=>by
  rw[zaz];have e:WData.weightAll (WData.int m::r.map WData.int)=WData.weight (.int m)+1+WData.weightAll (r.map WData.int):=by simp only[WData.weightAll]
  rw[e];rcases zaf h with rfl|h
  ·have:Builtin.Int.intBits n=WData.weight (.int n):=by simp only[WData.weight,Builtin.Int.intBits]
   omega
  ·have:=n8 r n h
   omega
open PySem.W in
theorem vn{ns:List Int}(h:WData.layableAll [WData.list (ns.map WData.int)]=true):∀n∈ns,Builtin.Int.intBits n<=1048576:=λn hn=>by
 have h1:(WData.list (ns.map WData.int)).layable=true:=PySem.W.layableW_arg h _ (by simp)
 have h2:=(PySem.W.layableW_iff.mp h1).2.2;have h3:WData.weight (.list (ns.map WData.int))=WData.weightAll (ns.map WData.int):=by simp only[WData.weight]
 have h4:=n8 ns n hn;have h5:(2:Nat)^20=1048576:=by decide
 omega
open PySem.W PySem.Calls in
theorem Fe{l:OpenLaw}{n:Nat}{q:Program}{loose:List Str}{XP:(Str->Option Value)->Heap->Prop}{YP:World->Heap->Prop}{d:DefRec}
  (hn:l.most=some n) (hdf:d.params.defaults=[])
  (call:∀(w:World) (s₀ s₁:Shared) (mg mb:Str->Option Value) (fa a:Addr) (vs:List Value) (ns:List Int),
   Ground q loose [] XP w s₀ mg mb s₁.heap->YP w s₁.heap->mg d.name=some (.ref fa)->
   s₁.heap.get? a=some {cls:=.type "list",data:=.seq vs.toArray}->IntsAre vs ns->ns.length<=n->(∀k∈ns,Builtin.Int.intBits k<=1048576)->s₁.gens=#[]->
   codeAny (model l.prog w) callerA (.call (.ref fa) ⟨[.ref a],[]⟩) (λr s'=>r=.ok (.ret (.bool true))/\OldK s₁.heap s'.heap/\s'.os=s₁.os/\AllBare s'.gens) s₁) :
  WalkO q loose XP YP l.row.toRowW d [] (λf vs=>PySem.call f vs):=by
 intro w s₀ s₁ mg mb G Y fa o pm cd doc dV kV ho hd hcd hD hmg hg args vals as' hpre hlay hrd hwl hlo;obtain rfl:dV=.none:=Dflts.none hD hdf;obtain⟨a,vs,ns,rfl,rfl,hobj,hints,hlen⟩:=Att.Av hn hpre hwl;refine enter_call (codeAny_mono (call w s₀ s₁ mg mb fa a vs ns G Y hmg hobj hints hlen (vn hlay) hg) λr s' hq=>?_)
 obtain⟨rfl,h2,h3,h4⟩:=hq;exact⟨.inl ⟨.bool true,.bool true,[],rfl,λ_=>rfl,.bool true,Att.Aw l _,λ_=>⟨List.Pairwise.nil,λ_ hm=>(nomatch hm)⟩⟩,h2,h3,h4⟩
def Cj(K:zag):Sp:=λvs H Q _=>∃(a:Addr) (ns:List Int),vs=[.ref a]/\SqL K H a (ns.map V.int)/\ns.length<=63/\(∀k∈ns,Builtin.Int.intBits k<=1048576)/\∀H',Q (.bl true) H'
theorem Ck{l:PySem.W.OpenLaw}{k:Nat}{q:Program}{loose:List Str}{XP:(Str->Option Value)->Heap->Prop}{YP:World->Heap->Prop}{d:DefRec}{K:Params->zag}{x:Str}{st:Stmt}
  (hn:l.most=some 63) (hdf:d.params.defaults=[]) (hr:dh k callerA) (hY:∀(w:World) (h:Heap),YP w h->(K w.params).In h/\∀c T ps,gk (K w.params)=some (c,T,ps)->h.get? T=some (PySem.W.tabObj #[]))
  (hb:∀(kV doc pm:Value) (an:Option Addr) (cdv ct u:Value),bindArgs (PySem.W.fnOf d.name d.name (fu st) (cX st) (aK st) .none kV doc pm an cdv ct) ⟨[u],[]⟩=pure [(x,u)])
  (F:∀(w:World) (mg:Str->Option Value) (h:Heap),(K w.params).In h->h.Ns mainGlobals mg->Top (K w.params) mg d.name st/\
   ∀(f:Addr) (fd:FuncData),Fun (K w.params) d.name d.name st f fd->∀base:Heap,(K w.params).In base->base.Ns mainGlobals mg->iz l.prog w (K w.params) mg base CX0 k f fd [x] (Cj (K w.params))) :
  PySem.W.WalkO q loose XP YP l.row.toRowW d [] (λf vs=>PySem.call f vs):=by
 refine Fe hn hdf λw s₀ s₁ mg mb fa a vs ns G Y hmg hobj hints hlen Ld hg=>?_
 obtain⟨KX,hTb⟩:=hY w _ Y;obtain⟨T,FF⟩:=F w mg _ KX G.T.g;obtain⟨f,fd,Ff,m⟩:=T.ex;have e:=m.symm.trans hmg;cases e;have hbd:∀(s:Shared) (u:Value),BindsTo s fd ⟨[u],[]⟩ [(x,u)]:=by
  obtain⟨oc,od,kV,doc,pm,an,cdv,ct,osl,rfl,lk,hcd⟩:=Ff.ex;exact λs u=>.of_eq (hb kV doc pm an cdv ct u)
 exact Ce KX hTb G.T.g G.T.b G.T.builtins G.T.nolimit G.T.bmain hg hobj hints (zaX hlen (by decide)) hr (FF _ fd Ff) hbd (λH hO hS=>⟨a,ns,rfl,hS,hlen,Ld,λ_=>rfl⟩) λH e s' h=>h
section
variable{σ:St}{H:Hp}{Q:VK}{K:zag}{fr:List (Str×Nat)}
instance:Inhabited V:=⟨.non⟩
end
theorem d5(h:H p=none):aG H (upd H p o):=λb u e=>by rw[ah (dX e h)];exact e
theorem Le{X:Cx}{x:Str}{n:String}{pos:Pos}(hm:X.mg x=none)(hv:bootBuiltins x=some (.type n))(hg:Gl X x:=by rfl)(hn:x≠"__name__":=by decide)(hd:(x==("__debug__":Str))=false:=by decide):PE X (.Name x pos) (tC (.ty n)) :=
 EI hg hm hv (show RelV (.ty n) (.type n)from rfl) hn hd
section
variable{X:Cx}
theorem vo{elt iter:Expr}{x y:Str}{px py:Pos}{ifs:List Expr}{scope:Scope}{pos spos:Pos}{fr:List (Str×Nat)}{wi:TI}{tc:TT}{te:TE}{i0:Nat}(hc:X.calm=true)(hN:X.N.Nodup)(hi0:X.N[i0]?=some y)(hx0:Loc X.env.scope y)(B:Blk X scope x fr)
  (hi:PI X (.Name x px) iter wi) (ht:∀s₂ H₂ C fp,PIf (bB X scope (bL x fr) s₂ H₂ C fp) ifs tc) (he:∀s₂ H₂ C fp,PE (bB X scope (bL x fr) s₂ H₂ C fp) elt te)
  (hsw:swapsWith (.ListComp elt [⟨.Name x px,iter,ifs,0⟩] scope pos) (some (.Name y py)) spos.line X.env=pure true:=by rfl)
  (hf0:X.fn y=true\/X.env.scope.names.lookup y=some .local:=by first|exact .inl rfl|exact .inr rfl|assumption)
  (hs:∀v,foldedSetIterable iter X.env v=pure v:=by intro _;rfl):PS X (.Assign [.Name y py] (.ListComp elt [⟨.Name x px,iter,ifs,0⟩] scope pos) spos) (xm (tLC fr wi tc te) (jR i0)):=by
 intro pins s σ H D0 I h;rw[exec_Assign_Name_used _ _ _ _ hsw];refine zaI (wpAny_standAt (zaI ?_));have hclos:=sV (scope:=scope) (env:=X.env) (B.clos I.ok);show wpAny _ X.A (do let _<-comprehension (.ListComp elt [⟨.Name x px,iter,ifs,0⟩] scope pos) scope X.env _ (newList []) false (eval iter X.env) (some (assign (.Name y py) X.env))) _ _ s
 refine zaI (za6 (wpAny_comprehension_free (use:=some (assign (.Name y py) X.env)) (Q:=λ_ s'=>SP X pins D0 .next s') rfl hs hclos B.kind B.loc
  (thn (hi pins s σ H _ I h) λv s1 h1=>thn h1 λitv s2 h2=>?_)) (λ_ s' hq=>zaZ (zaZ hq)) λ_ _ e=>e)
 obtain⟨it,fp,tn,J,H2,rfl,I2,T,st2,f2,W,⟨m0,w0⟩,turn⟩:=h2;refine wpAny_newObj_type (wpAny_newFunctionEnv B.cell (by intro y hy;simp at hy) (λh₁ hns hsb=>?_) B.kind)
 dsimp only at hns hsb⊢;generalize hG:s2.heap.push {cls:=.type "list",dict:=none,data:=.seq ([]:List Value).toArray}=G at hns hsb⊢;have hC:G.objs.size=s2.heap.objs.size+1:=by rw[<-hG,Heap.size_push]
 have hDC:s2.heap.objs.size≠G.objs.size:=by omega
 have old:∀b ob,s2.heap.get? b=some ob->h₁.get? b=some ob:=λb ob e=>by
  have hb:=zaq e;refine hsb.extBut b ob (zaS (by rw[hC];exact Nat.lt_succ_of_lt hb)) (zar _ ?_)
  rw[<-hG];exact zar _ e
 have hacc:h₁.get? s2.heap.objs.size=some {cls:=.type "list",data:=.seq ([]:List Value).toArray 0}:=by
  refine hsb.extBut _ _ hDC (zar _ ?_);rw[<-hG];exact zaL _ rfl
 have hlt:∀b∈fp,b<s2.heap.objs.size:=λb hb=>by
  obtain⟨o,e,_⟩:=T.obj 0 _ st2 b hb;exact zaq e
 have I4:=pC (tk:=s2.toks+([]:List (Str×Value)).length) (o:=none) I2 B (show s2.heap.objs.size<=G.objs.size by omega) f2 hlt old hns
 have tn4:tn 0 h₁:=T.keep 0 _ _ st2 λb _ o e=>old b o e
 have Dfs:s2.heap.objs.size∉frs X.stack:=λz=>by
  obtain⟨_,o,ho,_⟩:=I2.stack.mem z;exact absurd (zaq ho) (za3 _)
 have Dcl:∀y c,X.env.cells.lookup y=some c->c≠s2.heap.objs.size:=λy c e=>by
  obtain⟨v,o,ho,_⟩:=I2.cell y c e;exact zaS (zaq ho)
 have DL:s2.heap.objs.size≠X.env.locals:=Nat.ne_of_gt I2.lt;have Dfp:s2.heap.objs.size∉fp:=λz=>absurd (hlt _ z) (za3 _)
 have loop:∀s₃:Shared,s₃={s2 with heap:=h₁,toks:=s2.toks+([]:List (Str×Value)).length}->
   codeAny (model X.prog X.w) X.A (.compLoop (.ListComp elt [⟨.Name x px,iter,ifs,0⟩] scope pos) 0 (.ref it) (.ref s2.heap.objs.size) (compEnvC scope (eG X.env.cells scope.names []) G.objs.size X.env))
    (compPost (model X.prog X.w) X.A X.xe (some (assign (.Name y py) X.env)) (λ_ s'=>SP X pins D0 .next s') (.ref s2.heap.objs.size) G.objs.size) s₃:=by
  rintro s₃ rfl
  refine m5
   (λn s'=>∃i o H' ys its k,Inv (bB X scope (bL x fr) s2 H2 G.objs.size fp) [] (o::aP σ fr) H' s'/\tn i s'.heap/\(∀b∈fp,H' b=none)/\H' s2.heap.objs.size=none/\
    s'.heap.get? s2.heap.objs.size=some {cls:=.type "list",data:=.seq (its:List Value).toArray k}/\Vals ys its/\W i n ys H') ?_ m0
   ⟨0,none,H2,[],[],0,I4,tn4,λb hb=>(f2 b hb).1,I2.hok.fresh (zap _),hacc,.nil,w0⟩
  rintro n s5 ⟨i,o,H5,ys,its,k,I5,st5,fr5,D5,hD5,r5,w5⟩
  have fok:∀{H':Hp},(∀b∈fp,H' b=none)->∀b∈fp,gK (bB X scope (bL x fr) s2 H2 G.objs.size fp) [] H' b:=λhn b hb=>
   ⟨hn b hb,(I5.ok.exf b hb).1,I5.ok.qK b hb,.inl hb,(I5.ok.exf b hb).2,λp hp=>absurd (show p∈([]:List (Addr×Obj))from hp) (by simp)⟩
  have dok:∀{H':Hp},H' s2.heap.objs.size=none->gK (bB X scope (bL x fr) s2 H2 G.objs.size fp) [] H' s2.heap.objs.size:=λhn=>
   ⟨hn,hDC,Dfs,.inr (zap _),λy c e=>Dcl y c (B.sub I2.ok _ _ e),λp hp=>absurd (show p∈([]:List (Addr×Obj))from hp) (by simp)⟩
  obtain⟨hz,alt⟩:=turn i n ys H5 w5;have hzl:its.length<=sizeLine:=by rw[<-r5.length];exact Nat.le_of_lt hz
  rcases alt with⟨stop,fin⟩|⟨go,step⟩
  ·refine thn (T.done (bB X scope (bL x fr) s2 H2 G.objs.size fp) rfl rfl rfl hc i (dG [s2.heap.objs.size] s5.heap) s5 (o::aP σ fr) H5 _ ?_ (λb hb=>?_) st5 stop) λr s6 ⟨hr,I6⟩=>?_
   ·exact(Inv.pinned I5 (fp:=[s2.heap.objs.size]) (λb hb=>by rw[zad hb];exact dok D5) λb hb=>by
     rw[zad hb];exact⟨_,hD5,λv z=>by cases z⟩)
   ·obtain⟨f0,f1,f2',f3,f4,f5⟩:=fok fr5 b hb
    refine⟨f0,f1,f2',f3,f4,λp hp=>?_⟩
    have hp':p∈dG [s2.heap.objs.size] s5.heap:=(zae hp).elim (λz=>absurd (show p∈([]:List (Addr×Obj))from z) (by simp)) id
    have:=(fT hp').1;rw[zad this];exact λe=>Dfp (by rw[e];exact hb)
   ·subst hr
    have hD6:=(I6.pin (s2.heap.objs.size,{cls:=.type "list",data:=.seq its.toArray k}) (zan _ (a7 (by simp) hD5))).1
    obtain⟨m6,hn6,_⟩:=I6.loc;have u6:Un (frs X.stack) fp H2 H5 s2.heap s6.heap:=I6.base;have hC5:H5 G.objs.size=none:=I6.free;have hCD:G.objs.size≠s2.heap.objs.size:=λz=>hDC z.symm
    have I7:Inv X pins σ H5 s6:=I2.call' (s':=s6) (I6.os) u6 I6.hok I6.bare λb hb=>⟨(f2 b hb).2.2.2.1,(f2 b hb).2.1,(f2 b hb).2.2.2.2.1,(f2 b hb).2.2.2.2.2⟩
    have pD:∀p∈X.pn++pins,p.1≠s2.heap.objs.size:=λp hp z=>by
     obtain⟨e,_⟩:=I2.pin p hp;rw[z]at e;exact absurd (zaq e) (za3 _)
    have I8:Inv X pins σ (upd H5 s2.heap.objs.size (.lst ys)) s6:=I7.track D5 I2.sz DL Dcl pD ⟨Nat.le_of_lt hz,its,k,r5,hD6⟩;have hlt:s2.heap.objs.size<G.objs.size:=by rw[hC];exact Nat.lt_succ_self _
    have hCu:upd H5 s2.heap.objs.size (.lst ys) G.objs.size=none:=by rw[ah hCD];exact hC5
    obtain⟨g0,g1,g2,g3,g4,g5⟩:=I2.pq (H':=upd H5 s2.heap.objs.size (.lst ys)) (Nat.le_of_lt hlt) hCu;obtain⟨oC,esC,epC,hoC,Ht⟩:=id hn6;have I9:=Inv.pinned I8 (fp:=[G.objs.size]) (λb hb=>by
     rw[zad hb];exact⟨g0,g1,g2,g3,g4,g5⟩) λb hb=>by
     rw[zad hb];refine⟨oC,hoC,λv z=>?_⟩
     have dd:=Ht;simp[z]at dd
    refine thn (bX (X:=X) (i:=i0) hN hi0 hx0 hf0 _ s6 σ _ (.ref s2.heap.objs.size) (.ref s2.heap.objs.size) (fun σ' H'=>σ'=σ.set i0 (some (.ref s2.heap.objs.size))/\H'=upd H5 s2.heap.objs.size (.lst ys)) I9 rfl ⟨rfl,rfl⟩) λ_ s8 ⟨σ8,H8,I10,e1,e2⟩=>?_
    subst e1 e2;have hC8:=(I10.pin (G.objs.size,oC) (zan _ (zan _ (a7 (by simp) hoC)))).1
    refine⟨m6,⟨oC,esC,epC,hC8,Ht⟩,λh' hs'=>?_⟩
    exact⟨_,_,(Inv.cR (pins:=pins) I10).turned (t':=s8.toks) (it:=G.objs.size) (λb ob hb e=>hs'.extBut b ob hb e) g0 g1 g3 g4 g5,fin _ D5⟩
  ·refine oF (thn (T.item (bB X scope (bL x fr) s2 H2 G.objs.size fp) rfl rfl rfl hc i (dG [s2.heap.objs.size] s5.heap) s5 (o::aP σ fr) H5 _ ?_ (λb hb=>?_) st5 go) λr s6 ⟨u,hr,h6⟩=>?_)
   ·exact(Inv.pinned I5 (fp:=[s2.heap.objs.size]) (λb hb=>by rw[zad hb];exact dok D5) λb hb=>by
     rw[zad hb];exact⟨_,hD5,λv z=>by cases z⟩)
   ·obtain⟨f0,f1,f2',f3,f4,f5⟩:=fok fr5 b hb
    refine⟨f0,f1,f2',f3,f4,λp hp=>?_⟩
    have hp':p∈dG [s2.heap.objs.size] s5.heap:=(zae hp).elim (λz=>absurd (show p∈([]:List (Addr×Obj))from z) (by simp)) id
    have:=(fT hp').1;rw[zad this];exact λe=>Dfp (by rw[e];exact hb)
   ·subst hr
    refine thn h6 λ_ s7 ⟨v,H7,I7,rv,y7,st7,fr7⟩=>?_
    have p7:=I7.pin (s2.heap.objs.size,{cls:=.type "list",data:=.seq its.toArray k}) (zan _ (a7 (by simp) hD5))
    have hD7:s7.heap.get? s2.heap.objs.size=some {cls:=.type "list",data:=.seq its.toArray k}:=p7.1;have D7:H7 s2.heap.objs.size=none:=p7.2.1;have I7u:Inv (bB X scope (bL x fr) s2 H2 G.objs.size fp) [] (o::aP σ fr) H7 s7:=Inv.cR (pins:=[]) I7;have I8:=Inv.pinned I7u (fp:=s2.heap.objs.size::fp) (λb hb=>by
      rcases zaf hb with e|hb
      ·rw[e];exact dok D7
      ·exact fok fr7 b hb) λb hb=>by
      rcases zaf hb with e|hb
      ·rw[e];exact⟨_,hD7,λv z=>by cases z⟩
      ·exact T.obj _ _ st7 b hb
    have hl : Loc (bB X scope (bL x fr) s2 H2 G.objs.size fp).env.scope x := .inl (lookup_relabel_local B.here);have pk:∀{σ':St} {H':Hp} {s':Shared},Inv (bB X scope (bL x fr) s2 H2 G.objs.size fp) ([]++dG (s2.heap.objs.size::fp) s7.heap) σ' H' s'->
      tn (i+1) s'.heap/\(∀b∈fp,H' b=none)/\H' s2.heap.objs.size=none/\s'.heap.get? s2.heap.objs.size=some {cls:=.type "list",data:=.seq its.toArray k}:=fun{σ' H' s'} I'=>by
     have pD:=I'.pin (s2.heap.objs.size,{cls:=.type "list",data:=.seq its.toArray k}) (zan _ (zan _ (a7 (by simp) hD7)))
     refine⟨T.keep _ _ _ st7 λb hb ob e=>(I'.pin (b,ob) (zan _ (zan _ (a7 (zak _ hb) e)))).1,λb hb=>?_,pD.2.1,pD.1⟩
     obtain⟨ob,e,_⟩:=T.obj _ _ st7 b hb;exact(I'.pin (b,ob) (zan _ (zan _ (a7 (zak _ hb) e)))).2.1
    refine oF (thn (bX (X :=bB X scope (bL x fr) s2 H2 G.objs.size fp) (i :=0) B.nd rfl hl (.inr (lookup_relabel_local B.here)) _ s7 _ H7 v u (fun σ' H'=>σ'=some v :: aP σ fr/\H'=H7) I8 rv ⟨rfl,rfl⟩) λ_ s8 ⟨σ8,H8,I9,e1,e2⟩=> ?_)
    subst e1 e2;refine oF (thn (ht s2 H2 G.objs.size fp _ s8 _ H8 _ I9 (step v H8 y7)) λok s9 ⟨H9,I10,q10⟩=>?_)
    cases ok with
    |false=>
     rw[if_neg zam]at q10;rw[if_neg zam];obtain⟨m',hm,w'⟩:=q10;obtain⟨k1,k2,k3,k4⟩:=pk I10;exact⟨m',hm,i+1,some v,H9,ys,its,k,Inv.cR (pins:=[]) I10,k1,k2,k3,k4,r5,w'⟩
    |true=>
     rw[if_pos rfl]at q10;rw[if_pos rfl];refine oF (thn (he s2 H2 G.objs.size fp _ s9 _ H9 _ I10 q10) λy' s10 ⟨y,H10,I11,ry,m',hm,w'⟩=>?_)
     obtain⟨k1,k2,k3,k4⟩:=pk I11;refine append_at k4 (λh' hs' hD'=>?_) (by rw[zaK];exact hzl)
     have I12:Inv (bB X scope (bL x fr) s2 H2 G.objs.size fp) [] (some v::aP σ fr) H10 {s10 with heap:=h'} :=
      (Inv.cR (pins:=[]) I11).turned (t':=s10.toks) (it:=s2.heap.objs.size) (λb ob hb e=>(hs'.2 b hb).trans e) k3 hDC (.inr (zap _)) (λz c e=>Dcl z c (B.sub I2.ok _ _ e)) λp hp=>absurd (show p∈([]:List (Addr×Obj))from hp) (by simp)
     refine⟨m',hm,i+1,some v,H10,ys++[y],its++[y'],k+1,I12,T.keep _ _ _ k1 λb hb ob e=>(hs'.2 b λz=>Dfp (by rw[<-z];exact hb)).trans e,k2,k3,?_,r5.append (.cons ry .nil),w'⟩
     rw[hD'];simp
 exact codeAny_compStart_list (loop _ rfl) (T.self _ 0 _ _ _ tn4 (loop _ rfl))
end
section
variable{X:Cx}
theorem Cm{pins:List (Addr×Obj)}{s:Shared}{σ:St}{H:Hp}{Q:VK}{ys:List V}(I:Inv X pins σ H s)(hz:ys.length<=sizeLine)(q:∀l,H l=none->Q (.ref l) (upd H l (.lst ys)))
  {l:Addr} (hl:s.heap.objs.size<=l) {h':Heap} {k c:Nat} {acc:Array Value} (kp:∀b o,s.heap.get? b=some o->h'.get? b=some o) (ho:h'.get? l=some {cls:=.type "list",dict:=none,data:=.seq acc c,slots:=#[]}) (rv:Vals ys acc.toList) :
  EP X pins σ Q (.ref l) {s with heap:=h',toks:=k} :=
 ⟨.ref l,_,I.laid kp hl (show bR X.prog X.w _ h' _ (.lst ys)from⟨hz,acc.toList,c,rv,by simpa using ho⟩),rfl,q _ (I.hok.fresh hl)⟩
end
section
variable{prog:Program}{w:World}{A:Around}{E:Value->Shared->Prop}{s:Shared}
theorem rF(hne:t≠it):∀(n i:Nat) (s:Shared) (Q:List Value->Shared->Prop),s.heap.IsListIter it t i->s.heap.IsList t items->i+n<=items.size->
  (∀h':Heap,h'.IsListIter it t (i+n)->Heap.SameBut it s.heap h'->Q ((items.toList.drop i).take n) {s with heap:=h'})->wpAny (model prog w) A (draw (.ref it) n) Q E s
 |0,i,s,Q,hit,_,_,hQ=>by
  show wpAny _ _ (pure []) Q E s;exact zaZ (by simpa using hQ s.heap hit (Heap.SameBut.refl ..))
 |n+1,i,s,Q,hit,ht,hle,hQ=>by
  have hlt:i<items.size:=by omega
  show wpAny _ _ (pyNext (.ref it)>>=_) Q E s;refine zaI (wpAny_pyNext_list_item hit ht (x:=items[i]) (by simp[hlt]) λh1 hit1 hs1=>?_)
  refine zaI (wpAny_holding (rF hne n (i+1) _ _ hit1 (ht.extBut hs1.extBut hne) (by omega) λh2 hit2 hs2=>zaZ ?_))
  have hd:items.toList.drop i=items[i]::items.toList.drop (i+1):=by simp[List.drop_eq_getElem_cons,hlt]
  have:=hQ h2 (by rw[show i+(n+1)=i+1+n by omega];exact hit2) (hs1.trans hs2)
  rw[hd,List.take_succ_cons]at this;exact this
theorem oG(hh:A.handled=none)(ht:s.heap.IsList t items)
  (hQ:∀h',Heap.ExtBut s.heap.objs.size s.heap h'->Q items.toList {s with heap:=h'}):wpAny (model prog w) A (unpackItems (.ref t) items.size none) Q E s:=by
 have hlt:t≠s.heap.objs.size:=by obtain⟨o,ho,_⟩:=ht;exact zaS (zaq ho)
 unfold unpackItems;refine zaI ?_
 ·unfold notIterableAtAll
  refine zaI (wpAny_specialOf ht.typeIs slot_list_iter.lookup ?_);refine zaZ ?_;simp only[Bool.false_eq_true,if_false];refine zaI (wpAny_holding (wpAny_pyIter_list ht ?_));refine zaI (wpAny_holding (rF hlt items.size 0 _ _ ⟨_,zaL _ rfl,rfl,rfl⟩ (ht.push _) (by omega) λh1 hit1 hs1=>?_))
  have hall:List.take items.size (List.drop 0 items.toList)=items.toList:=by
   rw[List.drop_zero];exact List.take_of_length_le (by simp)
  rw[hall];rw[if_neg (by simp)]
  have ht1:h1.IsList t items:=(ht.push _).extBut hs1.extBut hlt;refine zaI (wpAny_holding (wpAny_pyNext_list_end hh hit1 ht1 (by simp) λh2 he2=>?_))
  simp only[Option.isSome_none,Bool.false_eq_true,if_false];refine zaZ (hQ h2 λb o hb e=>he2 b o hb (hs1.extBut b o hb (zar _ e)))
theorem m7(hh:A.handled=none)(ht:s.heap.IsList t items)
  (hn:(assignEach elts env).length=items.size) (hstar:(assignEach elts env).findIdx? (·.1)=none)
  (h:∀h',Heap.ExtBut s.heap.objs.size s.heap h'->wpAny (model prog w) A (assignInOrder ((assignEach elts env).map (·.2)) items.toList) Q E {s with heap:=h'}) :
  wpAny (model prog w) A (assign (.Tuple elts x1 pos) env (.ref t)) Q E s:=by
 rw[assign_Tuple];refine zaI (wpAny_standAt ?_);unfold unpack;rw[hn,hstar];exact zaI (wpAny_holding (oG hh ht h))
end
variable{X:Cx}
def Cn(K:zag)(n:Nat)(t:TGs):TG:=λv σ H Q=>∃a xs,v=.ref a/\(SqT K H a xs\/SqL K H a xs)/\xs.length=n/\t xs σ H Q
theorem kF{es:List Expr}{k:Nat}{pos:Pos}{t:TGs}{n:Nat}(hc:X.calm=true)(h:PGs X es t)
  (hn:(assignEach es X.env).length=n:=by rfl) (hst:(assignEach es X.env).findIdx? (·.1)=none:=by rfl):PG X (.Tuple es k pos) (Cn X.K n t):=by
 intro pins s σ H v u Q I r hw;obtain⟨a,xs,e1,hq,hl,hw⟩:=hw;subst e1;cases r;rcases hq with hq|hq
 ·obtain⟨its,rv,ht,hz⟩:=I.tuple hq
  refine assign_Tuple_tuple (I.ok.hd hc) ht (by simp[hn,<-hl,rv.length]) hst λh' hx=>?_
  have I1:Inv X pins σ H {s with heap:=h'}:=I.kept (t':=s.toks) λb o e=>hx b o (zaS (zaq e)) e
  exact h pins _ σ H xs _ Q I1 (by simpa using rv) hw
 ·obtain⟨its,rv,ht,hz⟩:=I.list hq
  refine m7 (I.ok.hd hc) ht.isList (by simp[hn,<-hl,rv.length]) hst λh' hx=>?_
  have I1:Inv X pins σ H {s with heap:=h'}:=I.kept (t':=s.toks) λb o e=>hx b o (zaS (zaq e)) e
  exact h pins _ σ H xs _ Q I1 (by simpa using rv) hw
end L2
namespace L2
open PySem PySem.Spec PyProof.Rows
structure zc(P:Program)(w:World)(outer:List Env)(H:Hp)(s:Shared)(E:XK)(ea t:Addr)(cls:Value)(B:Heap)(H':Hp)(s':Shared):Prop where
 os:s'.os=s.os
 bare:AllBare s'.gens
 fly:Heap.FlyingW B outer ea cls (.ref t) s'.heap
 keep:∀b o,s.heap.get? b=some o->H b=none->b∉frs outer->B.get? b=some o
 there:∀b o,s.heap.get? b=some o->b∉frs outer->∃o',B.get? b=some o'
 slot:∀b o,s.heap.get? b=some o->b∈frs outer->H b=none->∃sl,s'.heap.get? b=some {o with slots:=sl}
 free:∀b o,s.heap.get? b=some o->H b=none->H' b=none
 tups:∀b xs,H b=some (.tup xs)->H' b=some (.tup xs)
 iJ:∀b o u,H b=some (.frz o u)->H' b=some (.frz o u)
 iy:∀b ps,H b=some (.tbl ps)->∃more,H' b=some (.tbl (ps++more))
 hok:HOk P w H' B
 wish:E cls none H'
def CXW(P:Program)(w:World):CXT:=λouter H s E e s'=>∃ea t cls B H',e=.ref ea/\zc P w outer H s E ea t cls B H' s'
def zd(X:Cx)(cls:Value)(W:Hp->Prop):Prop:=∀(pins:List (Addr×Obj)) (σ:St) (H:Hp) (s:Shared) (e:Addr) (h':Heap) (vs:List Value),Inv X pins σ H s->Heap.MadeExcOf s.heap h' e cls vs->W H->X.xe (.ref e) {s with heap:=h'}
def Co(W:Hp->Prop)(t:TA):TS:=λ_ σ H=>t σ H λvs H1=>vs.length<=100/\W H1
theorem Fg{K:zag}{h₀:Heap}{C:Addr}{bmB:List Value}{newId:String}(X:K.In h₀)(q:PySem.W.excIn K C bmB newId=true) :
  ∃bm N nm q bs hdct sn sub ab col dd k0 k1 k2 k3 k5 mN,h₀.get? C=some (excClassObj nm q C N bs bm hdct sn sub ab col dd k0 k1 k2 k3 k5 newId)/\h₀.Ns N mN/\mN "__init__"=none/\OwnTail h₀ bmB bm:=by
 unfold PySem.W.excIn at q;split at q
 ·rename_i dd cd sl ho
  split at q
  ·rename_i C' bm k0 k1 k2 k3 n k5 hm hs
   simp only[Bool.and_eq_true,beq_iff_eq,Bool.not_eq_true']at q;obtain⟨⟨⟨⟨⟨rfl,rfl⟩,hdel⟩,ht⟩,hok⟩,hni⟩:=q;obtain⟨nm,bs,mro,ns,qn,hd,sn,sub,ab,col,del⟩:=cd;dsimp only at hm hdel hok hni;subst hm hdel;have hsl:sl=#[k0,k1,k2,k3,some (.builtin n),k5]:=by
    obtain⟨l⟩:=sl;simp only at hs;rw[hs]
   subst hsl;exact⟨bm,ns,nm,qn,bs,hd,sn,sub,ab,col,dd,k0,k1,k2,k3,k5,_,X _ _ ho,.of_isNs (PySem.W.isNs_of_in X hok),PySem.W.nsMap_none_of_in X hok hni,PySem.W.tail_of_in X ht⟩
  ·cases q
 ·cases q
section
variable{X:Cx}
theorem Cp{x:Str}{C:Addr}{Bn newId initId:String}{bm:List Value}{np cpos pos:Pos}{e:Expr}{es:List Expr}{t:TA}{W:Hp->Prop}(hc:X.calm=true)(hg:Gl X x)(hm:X.mg x=some (.ref C))(hq:PySem.W.excIn X.K C bm newId=true)
  (FB:ExcBaseFacts Bn newId initId bm) (hx:zd X (.ref C) W) (ha:PA X (e::es) t) (hdb:(x==("__debug__":Str))=false:=by decide)
  (he:starEach (e::es) X.env=(false,eval e X.env)::starEach es X.env:=by rfl) (hpl:(backTo cpos (starEach es X.env)).any (·.1)=false:=by rfl) :
  PS X (.Raise (some (.Call (.Name x np) (e::es) [] cpos)) none pos) (Co W t):=by
 intro pins s σ H D I h;obtain⟨tl,N,nm,q,bs,hdct,sn,sub,ab,col,dd,k0,k1,k2,k3,k5,mN,hC,hN,hni,T⟩:=Fg I.mod.kin hq;refine wpAny_Raise_call_subT (C:=C) (nm:=nm) (q:=q) (N:=N) (bs:=bs) (bm:=tl) (hdct:=hdct) (sn:=sn) (sub:=sub) (ab:=ab) (col:=col) (dd:=dd) (k0:=k0) (k1:=k1) (k2:=k2) (k3:=k3) (k5:=k5)
  FB (mN:=mN) (T.hasType FB.hasBase) (I.ok.hd hc) (by rw[he];show(false||(backTo cpos (starEach es X.env)).any (·.1))=false;rw[hpl];rfl) hni (lZ I hg hm ⟨rfl,?_⟩ hdb)
 have hp:=ha cpos pins s σ H _ I h;rw[he]at hp⊢;refine Calls.evalArgs_plain (za6 hp (λvs s₂ h₂=>?_) λ_ _ y=>y)
 obtain⟨us,H1,I1,r1,hl,w1⟩:=h₂;exact⟨rfl,by rw[<-r1.length];exact zaX hl (by simp only[sizeLine];omega),I1.bk _ _ hC,hN.keeps I1.bk,T.keeps I1.bk,λh' e' hm'=>hx pins σ H1 s₂ e' h' vs I1 hm' w1⟩
theorem qO{P:Program}{w:World}{K:zag}{mg:Str->Option Value}{base:Heap}{N:List Str}{qual:Str}{scope:Scope}{f:Addr}{cd:Value}{A:Around}{outer:List Env}{s₀:Shared}{H₀:Hp}{E:XK}{cls:Value}
  (hk:scope.kind=.function) (hex:(envOfC qual scope s₀.heap.objs.size f cd).frame=some s₀.heap.objs.size):zd (ly (CXW P w) P w K mg base N qual scope f cd A outer s₀ H₀ E) cls (λH'=>E cls none H'):=by
 intro pins σ H s e h' vs I hx hw;have noA:∀b:Addr,b∉(ly (CXW P w) P w K mg base N qual scope f cd A outer s₀ H₀ E).ex:=λb z=>absurd (show b∈([]:List Addr)from z) (by simp)
 have hst:=I.stack;have frL:(ly (CXW P w) P w K mg base N qual scope f cd A outer s₀ H₀ E).stack=envOfC qual scope s₀.heap.objs.size f cd::outer:=rfl;rw[frL]at hst;have hfr:=I.ok.frames;have hin:∀env∈(envOfC qual scope s₀.heap.objs.size f cd::outer),∀b,env.frame=some b->b∈frs (envOfC qual scope s₀.heap.objs.size f cd::outer):=λenv he b hb=>List.mem_filterMap.mpr ⟨env,he,hb⟩
 have noH:∀b∈frs (envOfC qual scope s₀.heap.objs.size f cd::outer),H b=none:=λb hb=>I.lY b hb
 show wpAny _ _ (leaving _ (.ref e)) _ _ _;refine wpAny_leaves_madeW (base:=PySem.W.hideAll s.heap (frs (envOfC qual scope s₀.heap.objs.size f cd::outer))) hfr hex (λb o q=>PySem.W.of_hideAll _ q) (PySem.W.funFrames_hide hst hin) hx λh2 t x1 x2 x3 x4=>?_
 have sub:∀b∈frs outer,b∈frs (envOfC qual scope s₀.heap.objs.size f cd::outer):=λb hb=>by
  obtain⟨env,he,hf⟩:=List.mem_filterMap.mp hb;exact hin env (zak _ he) b hf
 have out:∀b o,s₀.heap.get? b=some o->b∉frs outer->b∉frs (envOfC qual scope s₀.heap.objs.size f cd::outer):=λb o q hb hm=>by
  obtain⟨env,he,hf⟩:=List.mem_filterMap.mp hm;rcases zaf he with rfl|he
  ·rw[hex]at hf
   cases hf;exact absurd (zaq q) (za3 _)
  ·exact hb (List.mem_filterMap.mpr ⟨env,he,hf⟩)
 refine⟨e,t,cls,_,H,rfl,⟨I.os,I.bare,x1,λb o q n hb=>?_,λb o q hb=>?_,λb o q hb n=>?_,λb o q n=>?_,I.base.tups,I.base.iJ,I.base.iy,λb u q=>?_,hw⟩⟩
 ·exact PySem.W.hideAll_get _ (I.base.keep b o q n hb (noA b)) (out b o q hb)
 ·obtain⟨o',q'⟩:=I.base.there b o q (noA b)
  exact⟨o',PySem.W.hideAll_get _ q' (out b o q hb)⟩
 ·obtain⟨sl,q'⟩:=I.base.slot b o q n hb (noA b)
  obtain⟨_,o2,q2,hd⟩:=hst.mem (sub b hb);rw[q']at q2;cases q2;obtain⟨sl',q3⟩:=x4 b _ (hx.keeps b _ q') hd;exact⟨sl',q3⟩
 ·exact I.base.free b o q n (noA b)
 ·refine(I.hok b u q).stay (λc v hc q'=>PySem.W.hideAll_get _ q' λhm=>?_) (λ_ q'=>q') λ_ _ _ q'=>q'
  have hn:=noH c hm;rcases hc with z|z
  ·rw[z,q]at hn;cases hn
  ·rw[z]at hn;cases hn
theorem bR.is(x:bR P w H h a o):∃u,h.get? a=some u:=by
 induction o with
 |lst xs=>obtain⟨z,its,n,r,e⟩:=x;exact⟨_,e⟩
 |tup xs=>first|(obtain⟨z,its,r,ob,e,c⟩:=x;exact⟨_,e⟩)|(obtain⟨z,its,r,⟨ob,e,c⟩,_⟩:=x;exact⟨_,e⟩)
 |dK kvs=>obtain⟨z,y,vs,r,ob,es,ep,e,c⟩:=x;exact⟨_,e⟩
 |dT kvs=>obtain⟨z,y,xs,r,ob,es,ep,e,c⟩:=x;exact⟨_,e⟩
 |set S n=>obtain⟨ob,es,ep,t,e,c⟩:=x;exact⟨_,e⟩
 |ins C dx fs=>obtain⟨_,_,_,e,_⟩:=x;exact⟨_,e⟩
 |own _=>exact x
 |xd fs=>obtain⟨_,⟨_,_,_,e,_⟩,_⟩:=x;exact⟨_,e⟩
 |rng lo hi=>obtain⟨_,_,_,e⟩:=x;exact⟨_,e⟩
 |frz ob u=>obtain⟨e,_⟩:=x;exact⟨_,e⟩
 |tbl ps=>
  rcases x with⟨_,_,_,_,_,_,_,_,ec,e,_⟩|⟨_,_,e,_⟩
  ·cases ec;exact⟨_,e⟩
  ·exact⟨_,e⟩
 |met f y=>exact⟨_,x⟩
 |ext φ=>obtain⟨_,e,_⟩:=x;exact e
theorem bR.Lf(x:bR P w H h a (.tup xs)):xs.length<=sizeLine/\∃its:List Value,Vals xs its/\IsTup h a its.toArray:=by
 first|exact x|(obtain⟨z,its,r,p,_⟩:=x;exact⟨z,its,r,p⟩)
theorem bR.Cq{P:Program}{w:World}{H:Hp}{h:Heap}{xs:List V}{its:List Value}(hz:xs.length<=sizeLine)(r:Vals xs its):bR P w H (h.push {cls:=.type "tuple",data:=.seq its.toArray}) h.objs.size (.tup xs):=by
 first|exact⟨hz,its,r,⟨_,zaL _ rfl,rfl,_,rfl⟩⟩|exact⟨hz,its,r,⟨_,zaL _ rfl,rfl,_,rfl⟩,_,zaL _ rfl,rfl⟩
theorem zc.inv{pins:List (Addr×Obj)}{σ:St}{H H':Hp}{s s':Shared}{E:XK}{ea t:Addr}{cls:Value}{B h2:Heap}(fl:zc X.prog X.w X.stack H s E ea t cls B H' s')(I:Inv X pins σ H s)(f2:Heap.FlyingW B X.stack ea cls (.ref t) h2)(sm:s'.heap.UpToSlots h2) :
  Inv X pins σ H' {s' with heap:=h2}:=by
 refine I.call' (ch:=[]) fl.os ⟨λb o q n hb _=>f2.1 b o (fl.keep b o q n hb),λb o q n hb _=>?_,λb o q n _=>fl.free b o q n,λb o q _=>?_,fl.tups,fl.iJ,fl.iy⟩ (fl.hok.kept f2.1) fl.bare (λb z=>absurd z (by simp))
 ·obtain⟨sl,q1⟩:=fl.slot b o q hb n
  obtain⟨_,o2,q2,hd⟩:=fl.fly.2.2.1.mem hb;rw[q1]at q2;cases q2;obtain⟨sl',q3⟩:=sm b _ q1 hd;exact⟨sl',q3⟩
 ·by_cases hb:b∈frs X.stack
  ·obtain⟨sl,q1⟩:=fl.slot b o q hb (I.lY b hb)
   obtain⟨_,o2,q2,hd⟩:=fl.fly.2.2.1.mem hb;rw[q1]at q2;cases q2;obtain⟨sl',q3⟩:=sm b _ q1 hd;exact⟨_,q3⟩
  ·obtain⟨o',q1⟩:=fl.there b o q hb
   exact⟨o',f2.1 b o' q1⟩
end
def Cx.mkd(X:Cx)(e:Addr):Cx:={X with A:=X.A.mark (some (.ref e)),calm:=false,xe:=λ_ _=>False}
def Cx.inX(X:Cx)(e:Addr)(oe:Obj):Cx:={X with A:=X.A.mark (some (.ref e)),calm:=false,pn:=(e,oe)::X.pn,xe:=λ_ _=>False}
section
variable{X:Cx}{pins:List (Addr×Obj)}{σ:St}{H:Hp}{s:Shared}{e:Addr}{oe:Obj}
theorem Cx.Ok.mkd(ok:X.Ok):(X.mkd e).Ok:=⟨ok.mod,ok.kind,ok.glob,ok.blt,ok.above,ok.inj,ok.has,ok.cab,λh=>absurd (show false=true from h) zam,ok.frames,ok.stk,ok.exf,ok.bs,ok.bsz,ok.uZ,ok.qK,ok.kX,ok.frf,ok.tab⟩
theorem Inv.mkd(I:Inv X pins σ H s):Inv (X.mkd e) pins σ H s:=⟨I.ok.mkd,I.os,I.bare,I.base,I.loc,I.cell,I.free,I.fk,I.pin,I.hok,I.len⟩
theorem Cx.Ok.inX(ok:X.Ok):(X.inX e oe).Ok:=⟨ok.mod,ok.kind,ok.glob,ok.blt,ok.above,ok.inj,ok.has,ok.cab,λh=>absurd (show false=true from h) zam,ok.frames,ok.stk,ok.exf,ok.bs,ok.bsz,ok.uZ,ok.qK,ok.kX,ok.frf,ok.tab⟩
theorem Inv.inX(I:Inv X pins σ H s)(h1:s.heap.get? e=some oe)(h2:H e=none)(h3:e≠X.env.locals)(h4:e∉X.fs)(h5:∀v,oe.data≠.cell v):Inv (X.inX e oe) pins σ H s :=
 ⟨I.ok.inX,I.os,I.bare,I.base,I.loc,I.cell,I.free,I.fk,λp hp=>by
  rcases zaf (show p∈(e,oe)::(X.pn++pins)from hp)with rfl|hp
  ·exact⟨h1,h2,h3,h4,h5⟩
  ·exact I.pin p hp,I.hok,I.len⟩
theorem Inv.Fh(ok:X.Ok)(I:Inv (X.inX e oe) pins σ H s):Inv X pins σ H s :=
 ⟨ok,I.os,I.bare,I.base,I.loc,I.cell,I.free,I.fk,λp hp=>I.pin p (show p∈(e,oe)::(X.pn++pins)from zak _ hp),I.hok,I.len⟩
def Ends.drop(D:Ends)(i:Nat):Ends:={nx:=fun σ H=>D.nx (σ.set i none) H,rt:=D.rt,bk:=fun σ H=>D.bk (σ.set i none) H,ct:=fun σ H=>D.ct (σ.set i none) H}
end
end L2
namespace L2
open PySem PySem.Spec PyProof.Rows PySem.W Builtin Builtin.ObjectAttr Builtin.Getset_descriptor
section
variable{prog:Program}{w:World}{A:Around}{E:Value->Shared->Prop}{K:zag}{a D:Addr}{o:Obj}{h:Heap}{g:Array GenState}{d:Drawn}{t:Nat}{os:OsState}
structure Lg(K:zag)(D:Addr):Prop where
 ga:findIn K (.ref D) "__getattribute__"=some (some (.builtin "BaseException.__getattribute__"))
 gn:findIn K (.ref D) "__getattr__"=some none
 ca:findIn K (.ref D) "__class__"=some (some (.builtin "object.__class__"))
 sub:subIn K (.ref D) (.type "BaseException")=some true
 mro:mroIn K D (.type "object")=some true
 gs:specialIn K (.builtin "object.__class__") "__get__"=some (some (.builtin "getset_descriptor.__get__"))
 tk:takesIn K (.builtin "object.__class__")=some true
 cls:(clsIn K D).isSome=true
end
end L2
namespace Mir
open PySem L2
class Zc where
 e:Addr
instance (priority:=10) zc0:Zc:=⟨0⟩
variable [Zc]
def cIf{α:Type}(c:Prop)(a b : α) : α:=@ite α c (Classical.propDecidable c) a b
theorem bg(h:c):cIf c a b=a:=by unfold cIf;rw[if_pos h]
theorem Fi(h : ¬c):cIf c a b=b:=by unfold cIf;rw[if_neg h]
theorem Cr:cIf True a b=a:=bg trivial
theorem cK(h:cIf c a none=some x):c/\a=some x:=by
 by_cases hc:c
 ·rw[bg hc]at h;exact⟨hc,h⟩
 ·rw[Fi hc]at h;cases h
abbrev D:=PyData
def l7:Key->D->Prop
 | .inl i,c=>c=.int i
 | .inr x,c=>c=.str x
mutual
inductive Rep(H:Hp):V->D->Prop
 |non:Rep H .non .none
 |bl (b:Bool):Rep H (.bl b) (.bool b)
 |int (i:Int):Rep H (.int i) (.int i)
 |str (x:Str):Rep H (.str x) (.str x)
 |lst {a:Addr} {xs:List V} {ds:List D}:Rd H a (.lst xs)->aR H xs ds->Rep H (.ref a) (.list ds)
 |tup {a:Addr} {xs:List V} {ds:List D}:H a=some (.tup xs)->aR H xs ds->Rep H (.ref a) (.tuple ds)
 |dct {a:Addr} {kvs:List (Key×V)} {es:List (D×D)}:Rd H a (.dK kvs)->a0 H kvs es->Rep H (.ref a) (.dict es)
inductive aR(H:Hp):List V->List D->Prop
 |nil:aR H [] []
 |cons {x:V} {xs:List V} {d:D} {ds:List D}:Rep H x d->aR H xs ds->aR H (x::xs) (d::ds)
inductive a0(H:Hp):List (Key×V)->List (D×D)->Prop
 |nil:a0 H [] []
 |cons {k:Key} {x:V} {kvs:List (Key×V)} {c d:D} {es:List (D×D)}:l7 k c->Rep H x d->a0 H kvs es->a0 H ((k,x)::kvs) ((c,d)::es)
end
theorem dH(e:aG H H')(h:Rd H a u):Rd H' a u:=by
 rcases h with h|⟨o,h⟩
 ·exact .inl (e _ _ h)
 ·exact .inr ⟨o,e _ _ h⟩
mutual
theorem Rep.mono(e:aG H H'):∀{v:V} {d:D},Rep H v d->Rep H' v d
 |_,_,.non=>.non
 |_,_,.bl b=>.bl b
 |_,_,.int i=>.int i
 |_,_,.str x=>.str x
 |_,_,.lst h r=>.lst (dH e h) (aR.mono e r)
 |_,_,.tup h r=>.tup (e _ _ h) (aR.mono e r)
 |_,_,.dct h r=>.dct (dH e h) (a0.mono e r)
theorem aR.mono(e:aG H H'):∀{v:List V} {d:List D},aR H v d->aR H' v d
 |_,_,.nil=>.nil
 |_,_,.cons a b=>.cons (Rep.mono e a) (aR.mono e b)
theorem a0.mono(e:aG H H'):∀{v:List (Key×V)} {d:List (D×D)},a0 H v d->a0 H' v d
 |_,_,.nil=>.nil
 |_,_,.cons k a b=>.cons k (Rep.mono e a) (a0.mono e b)
end
theorem aR.length:∀{v:List V} {d:List D},aR H v d->v.length=d.length
 |_,_,.nil=>rfl
 |_,_,.cons _ b=>by simp[aR.length b]
theorem aR.get:∀{v:List V} {d:List D} (i:Nat),aR H v d->∀c,d[i]?=some c->∃x,v[i]?=some x/\Rep H x c
 |_,_,_,.nil,c,e=>by simp at e
 |_,_,0,.cons a _,c,e=>by simp at e;subst e;exact⟨_,rfl,a⟩
 |_,_,i+1,.cons _ b,c,e=>by
  obtain⟨x,h1,h2⟩:=aR.get i b c (by simpa using e)
  exact⟨x,by simpa using h1,h2⟩
theorem aR.Jq:∀{v:List V} {d:List D} (i:Nat),aR H v d->∀x,v[i]?=some x->∃c,d[i]?=some c/\Rep H x c
 |_,_,_,.nil,c,e=>by simp at e
 |_,_,0,.cons a _,c,e=>by simp at e;subst e;exact⟨_,rfl,a⟩
 |_,_,i+1,.cons _ b,c,e=>by
  obtain⟨x,h1,h2⟩:=aR.Jq i b c (by simpa using e)
  exact⟨x,by simpa using h1,h2⟩
theorem aR.append:∀{v w:List V} {d c:List D},aR H v d->aR H w c->aR H (v++w) (d++c)
 |_,_,_,_,.nil,r=>r
 |_,_,_,_,.cons a b,r=>.cons a (aR.append b r)
theorem aR.take:∀{v:List V} {d:List D} (n:Nat),aR H v d->aR H (v.take n) (d.take n)
 |_,_,0,_=>.nil
 |_,_,_+1,.nil=>.nil
 |_,_,n+1,.cons a b=>.cons a (aR.take n b)
theorem aR.drop:∀{v:List V} {d:List D} (n:Nat),aR H v d->aR H (v.drop n) (d.drop n)
 |_,_,0,r=>r
 |_,_,_+1,.nil=>.nil
 |_,_,n+1,.cons _ b=>aR.drop n b
inductive Sl where
 |no|fz (d:D)|own (d:D)|io (d:D)|ro (d:D)|ex
def Sl.eM:Sl->Bool
 | .own _=>true
 | .io _=>true
 |_=>false
def Sl.isRef:Sl->Bool
 | .own _=>true
 | .io _=>true
 | .ro _=>true
 |_=>false
theorem Sl.m8{s:Sl}(h:s.eM=true):s.isRef=true:=by cases s<;>first|rfl|cases h
abbrev Rho:=List Sl
inductive Kd where
 |fz|new|at(i:Nat)|ro
abbrev RV:=D×Kd
inductive Own(B H:Hp)(p:Addr):D->Prop
 |lst {xs:List V} {ds:List D}:H p=some (.lst xs)->aR B xs ds->Own B H p (.list ds)
 |dct {kvs:List (Key×V)} {es:List (D×D)}:H p=some (.dK kvs)->a0 B kvs es->Own B H p (.dict es)
theorem Own.there(h:Own B H p d):∃o,H p=some o:=by cases h with
 |lst h _=>exact⟨_,h⟩
 |dct h _=>exact⟨_,h⟩
theorem Own.jl(h:Own B H p d):H p≠none:=by
 obtain⟨o,e⟩:=h.there;rw[e];simp
theorem Own.mono(h:Own B H p d)(e:aG B B')(k:∀o,H p=some o->H' p=some o):Own B' H' p d:=by cases h with
 |lst h r=>exact .lst (k _ h) (r.mono e)
 |dct h r=>exact .dct (k _ h) (r.mono e)
theorem Own.rG(h:Own B H p d)(xs:List V):H p≠some (.tup xs):=by cases h with
 |lst h _=>rw[h];simp
 |dct h _=>rw[h];simp
theorem Own.rep(h:Own B H p d)(e:aG B H):Rep H (.ref p) d:=by cases h with
 |lst h r=>exact .lst (.inl h) (r.mono e)
 |dct h r=>exact .dct (.inl h) (r.mono e)
theorem Own.frozen(h:Own B H p d)(e:aG B B')(k:∀o,H p=some o->B' p=some o):Rep B' (.ref p) d:=by cases h with
 |lst h r=>exact .lst (.inl (k _ h)) (r.mono e)
 |dct h r=>exact .dct (.inl (k _ h)) (r.mono e)
structure Fr where
 B:Hp
 H:Hp
 io:List (Nat×Addr)
 Z:Addr->Prop
def pF(B H:Hp)(σ:St)(i:Nat):Sl->Prop
 | .no=>True
 | .ex=>True
 | .fz d=>∃v,σ[i]?=some (some v)/\Rep B v d
 | .own d=>∃p,σ[i]?=some (some (.ref p))/\B p=none/\Own B H p d
 | .io d=>∃p,σ[i]?=some (some (.ref p))/\B p=none/\Own B H p d
 | .ro d=>∃p,σ[i]?=some (some (.ref p))/\Own B H p d
structure Rel(F:Fr)(B H:Hp)(σ:St)(ρ:Rho):Prop where
 sub:aG B H
 sB:aG F.B B
 sH:∀q o,F.H q=some o->(∀x∈F.io,x.2≠q)->H q=some o
 nB:∀q,F.H q≠none->F.B q=none->B q=none
 len : ρ.length=σ.length
 slot:∀(i:Nat) (s:Sl),ρ[i]?=some s->pF B H σ i s
 dist:∀(i j:Nat) (s t:Sl) (p:Addr),ρ[i]?=some s->s.eM=true->ρ[j]?=some t->t.isRef=true->σ[i]?=some (some (.ref p))->σ[j]?=some (some (.ref p))->i=j
 jW:∀(i:Nat) (d:D) (p:Addr),ρ[i]?=some (.own d)->σ[i]?=some (some (.ref p))->F.H p=none
 fx:∀x∈F.io,σ[x.1]?=some (some (.ref x.2))/\∃d,ρ[x.1]?=some (.io d)
 ioN:∀(i:Nat) (d:D),ρ[i]?=some (.io d)->∃p,(i,p)∈F.io
 cJ:∀q xs,H q=some (.tup xs)->B q=some (.tup xs)
 exv:∀i:Nat,ρ[i]?=some .ex->σ[i]?=some (some (.ref Zc.e))
 nz:∀q o u,H q=some (.frz o u)->F.Z q
structure Ext(σ:St)(ρ:Rho)(B H:Hp)(ρ':Rho)(B' H':Hp):Prop where
 sB:aG B B'
 keep:∀q o,H q=some o->(∀(i:Nat) (s:Sl),ρ[i]?=some s->s.eM=true->σ[i]?≠some (some (.ref q)))->H' q=some o/\(B q=none->B' q=none)
 own:∀(i:Nat) (s':Sl),ρ'[i]?=some s'->s'.eM=true->∃s,ρ[i]?=some s/\s.eM=true
 ref:∀(i:Nat) (s':Sl),ρ'[i]?=some s'->s'.isRef=true->∃s,ρ[i]?=some s/\s.isRef=true
 live:∀q,H' q=none->H q=none
theorem Ext.refl(σ:St)(ρ:Rho)(B H:Hp):Ext σ ρ B H ρ B H:=⟨aG.refl _,λ_ _ h _=>⟨h,id⟩,λ_ s h e=>⟨s,h,e⟩,λ_ s h e=>⟨s,h,e⟩,λ_ h=>h⟩
theorem Ext.trans(a:Ext σ ρ B H ρ1 B1 H1)(b:Ext σ ρ1 B1 H1 ρ2 B2 H2):Ext σ ρ B H ρ2 B2 H2:=by
 refine⟨a.sB.trans b.sB,λq o h n=>?_,λi s h e=>?_,λi s h e=>?_,λq h=>a.live q (b.live q h)⟩
 ·obtain⟨h1,h2⟩:=a.keep q o h n
  obtain⟨h3,h4⟩:=b.keep q o h1 λi s e1 e2=>by
   obtain⟨s',e3,e4⟩:=a.own i s e1 e2;exact n i s' e3 e4
  exact⟨h3,λz=>h4 (h2 z)⟩
 ·obtain⟨s1,h1,e1⟩:=b.own i s h e
  exact a.own i s1 h1 e1
 ·obtain⟨s1,h1,e1⟩:=b.ref i s h e
  exact a.ref i s1 h1 e1
def slD:Sl->D
 | .own d=>d
 | .io d=>d
 | .ro d=>d
 | .fz d=>d
 | .no=>.none
 | .ex=>.none
def Val(F:Fr)(B H:Hp)(σ:St)(ρ:Rho)(v:V)(r:RV):Prop:=match r.2 with
 | .fz=>Rep B v r.1
 | .new=>∃p,v=.ref p/\B p=none/\F.H p=none/\Own B H p r.1/\∀(i:Nat) (s:Sl),ρ[i]?=some s->s.isRef=true->σ[i]?≠some (some (.ref p))
 | .at i=>∃s,ρ[i]?=some s/\s.eM=true/\slD s=r.1/\σ[i]?=some (some v)
 | .ro=>∃p,v=.ref p/\Own B H p r.1/\∀(i:Nat) (s:Sl),ρ[i]?=some s->s.eM=true->σ[i]?≠some (some (.ref p))
def View(B H:Hp)(v:V)(d:D):Prop:=Rep B v d\/∃p,v=.ref p/\Own B H p d
theorem View.rep(h:View B H v d)(e:aG B H):Rep H v d:=by
 rcases h with h|⟨p,rfl,h⟩
 ·exact h.mono e
 ·exact h.rep e
theorem View.list{B H:Hp}{v:V}{ds:List D}(h:View B H v (.list ds))(e:aG B H):∃p xs,v=.ref p/\Rd H p (.lst xs)/\aR B xs ds:=by
 rcases h with h|⟨p,rfl,h⟩
 ·cases h with
  |lst h r=>exact⟨_,_,rfl,dH e h,r⟩
 ·cases h with
  |lst h r=>exact⟨_,_,rfl,.inl h,r⟩
theorem View.tuple{B H:Hp}{v:V}{ds:List D}(h:View B H v (.tuple ds))(e:aG B H):∃p xs,v=.ref p/\H p=some (.tup xs)/\aR B xs ds:=by
 rcases h with h|⟨p,rfl,h⟩
 ·cases h with
  |tup h r=>exact⟨_,_,rfl,e _ _ h,r⟩
 ·cases h
theorem View.dict{B H:Hp}{v:V}{es:List (D×D)}(h:View B H v (.dict es))(e:aG B H):∃p kvs,v=.ref p/\Rd H p (.dK kvs)/\a0 B kvs es:=by
 rcases h with h|⟨p,rfl,h⟩
 ·cases h with
  |dct h r=>exact⟨_,_,rfl,dH e h,r⟩
 ·cases h with
  |dct h r=>exact⟨_,_,rfl,.inl h,r⟩
theorem View.int(h:View B H v (.int i)):v=.int i:=by
 rcases h with h|⟨p,rfl,h⟩
 ·cases h;rfl
 ·cases h
theorem View.bool(h:View B H v (.bool b)):v=.bl b:=by
 rcases h with h|⟨p,rfl,h⟩
 ·cases h;rfl
 ·cases h
theorem View.str(h:View B H v (.str x)):v=.str x:=by
 rcases h with h|⟨p,rfl,h⟩
 ·cases h;rfl
 ·cases h
theorem View.none(h:View B H v .none):v=.non:=by
 rcases h with h|⟨p,rfl,h⟩
 ·cases h;rfl
 ·cases h
section
variable{F:Fr}{B H B' H':Hp}{σ:St}{ρ ρ':Rho}{v:V}{r:RV}
theorem Rel.ownAt(R:Rel F B H σ ρ){i:Nat}{s:Sl}(h : ρ[i]?=some s)(e:s.eM=true):∃p,σ[i]?=some (some (.ref p))/\B p=Option.none/\Own B H p (slD s):=by
 have:=R.slot i s h;cases s with
 |own d=>exact this
 |io d=>exact this
 |_=>cases e
theorem Val.view(R:Rel F B H σ ρ)(h:Val F B H σ ρ v r):View B H v r.1:=by
 obtain⟨d,k⟩:=r;cases k with
 |fz=>exact .inl h
 |new=>obtain⟨p,rfl,_,_,o,_⟩:=h;exact .inr ⟨p,rfl,o⟩
 | «at» i=>
  obtain⟨s,h1,h2,h3,h4⟩:=h;obtain⟨p,e1,e2,e3⟩:=R.ownAt h1 h2;rw[h4]at e1;cases e1;exact .inr ⟨p,rfl,h3▸e3⟩
 |ro=>obtain⟨p,rfl,o,_⟩:=h;exact .inr ⟨p,rfl,o⟩
theorem Rel.rH(R:Rel F B H σ ρ)(h:Val F B H σ ρ v (d,.new)):∃B',Rel F B' H σ ρ/\Rep B' v d/\aG B B'/\∀q,v≠.ref q->B' q=B q:=by
 obtain⟨p,rfl,hB,hF,o,nn⟩:=h;obtain⟨ob,hp⟩:=o.there;have e:aG B (upd B p ob):=d5 hB;have ne:∀(i:Nat) (s:Sl) (q:Addr),ρ[i]?=some s->s.isRef=true->σ[i]?=some (some (.ref q))->q≠p:=λi s q h1 h2 h3 z=>nn i s h1 h2 (z▸h3)
 refine⟨upd B p ob,⟨?_,R.sB.trans e,R.sH,?_,R.len,?_,R.dist,R.jW,R.fx,R.ioN,(λq xs h=>e _ _ (R.cJ q xs h)),R.exv,R.nz⟩,?_,e,λq hq=>ah λz=>hq (z▸rfl)⟩
 ·intro q u hq
  by_cases z:q=p
  ·subst z;rw[au]at hq;cases hq;exact hp
  ·rw[ah z]at hq;exact R.sub q u hq
 ·intro q h1 h2
  have z:q≠p:=λz=>h1 (z▸hF)
  rw[ah z];exact R.nB q h1 h2
 ·intro i s hs
  have q:=R.slot i s hs;cases s with
  |no=>trivial
  |ex=>trivial
  |fz d=>obtain⟨x,h1,h2⟩:=q;exact⟨x,h1,h2.mono e⟩
  |own d=>obtain⟨q,h1,h2,h3⟩:=q;exact⟨q,h1,by rw[ah (ne i _ q hs rfl h1)];exact h2,h3.mono e λ_ z=>z⟩
  |io d=>obtain⟨q,h1,h2,h3⟩:=q;exact⟨q,h1,by rw[ah (ne i _ q hs rfl h1)];exact h2,h3.mono e λ_ z=>z⟩
  |ro d=>obtain⟨q,h1,h3⟩:=q;exact⟨q,h1,h3.mono e λ_ z=>z⟩
 ·exact o.frozen e λu h=>by rw[au,<-h,hp]
theorem get_set(h:(ρ.set i s)[j]?=some t):(j=i/\t=s/\i<ρ.length)\/(j≠i/\ρ[j]?=some t):=by
 by_cases z:j=i
 ·subst z
  have hl:j<ρ.length:=by
   have:=zac h;obtain⟨hh,_⟩:=this;simpa using hh
  rw[zav hl]at h;exact .inl ⟨rfl,(zaQ h).symm,hl⟩
 ·rw[zaA (λe=>z e.symm)]at h
  exact .inr ⟨z,h⟩
theorem sW(hs:s≠.ex)(h:(ρ.set i s)[j]?=some .ex) : ρ[j]?=some .ex/\j≠i:=by
 rcases get_set h with⟨_,z,_⟩|⟨hj,h⟩
 ·exact absurd z.symm hs
 ·exact⟨h,hj⟩
theorem Rel.Cs(R:Rel F B H σ ρ)(hi : ρ[i]?=some (.own d))(hv : σ[i]?=some (some v)):∃B',Rel F B' H σ (ρ.set i (.fz d))/\Rep B' v d/\Ext σ ρ B H (ρ.set i (.fz d)) B' H:=by
 obtain⟨p,h1,hB,o⟩:=R.slot i _ hi;rw[hv]at h1;cases h1;have hF:=R.jW i d p hi hv;obtain⟨ob,hp⟩:=o.there;have e:aG B (upd B p ob):=d5 hB;have rp:Rep (upd B p ob) (.ref p) d:=o.frozen e λu h=>by rw[au,<-h,hp]
 have ne:∀(j:Nat) (s:Sl) (q:Addr),j≠i->ρ[j]?=some s->s.isRef=true->σ[j]?=some (some (.ref q))->q≠p:=λj s q hj h1 h2 h3 z=>hj (R.dist i j _ s p hi rfl h1 h2 hv (z▸h3)).symm
 refine⟨upd B p ob,⟨?_,R.sB.trans e,R.sH,?_,by rw[zaM];exact R.len,?_,?_,?_,?_,?_,(λq xs h=>e _ _ (R.cJ q xs h)),(λj h=>R.exv j (sW (by simp) h).1),R.nz⟩,rp,⟨e,?_,?_,?_,λ_ h=>h⟩⟩
 ·intro q u hq
  by_cases z:q=p
  ·subst z;rw[au]at hq;cases hq;exact hp
  ·rw[ah z]at hq;exact R.sub q u hq
 ·intro q h1 h2
  have z:q≠p:=λz=>h1 (z▸hF)
  rw[ah z];exact R.nB q h1 h2
 ·intro j s hs
  rcases get_set hs with⟨rfl,rfl,_⟩|⟨hj,hs⟩
  ·exact⟨_,hv,rp⟩
  ·have q:=R.slot j s hs
   cases s with
   |no=>trivial
   |ex=>trivial
   |fz d=>obtain⟨x,h1,h2⟩:=q;exact⟨x,h1,h2.mono e⟩
   |own d=>obtain⟨q,h1,h2,h3⟩:=q;exact⟨q,h1,by rw[ah (ne j _ q hj hs rfl h1)];exact h2,h3.mono e λ_ z=>z⟩
   |io d=>obtain⟨q,h1,h2,h3⟩:=q;exact⟨q,h1,by rw[ah (ne j _ q hj hs rfl h1)];exact h2,h3.mono e λ_ z=>z⟩
   |ro d=>obtain⟨q,h1,h3⟩:=q;exact⟨q,h1,h3.mono e λ_ z=>z⟩
 ·intro a b s t q h1 h2 h3 h4 h5 h6
  rcases get_set h1 with⟨rfl,rfl,_⟩|⟨ha,h1⟩
  ·cases h2
  ·rcases get_set h3 with⟨rfl,rfl,_⟩|⟨hb,h3⟩
   ·cases h4
   ·exact R.dist a b s t q h1 h2 h3 h4 h5 h6
 ·intro j c q h1 h2
  rcases get_set h1 with⟨rfl,h,_⟩|⟨_,h1⟩
  ·cases h
  ·exact R.jW j c q h1 h2
 ·intro x hx
  obtain⟨h1,c,h2⟩:=R.fx x hx;refine⟨h1,c,?_⟩
  by_cases z:i=x.1
  ·subst z;rw[hi]at h2;cases h2
  ·rw[zaA z];exact h2
 ·intro j c h1
  rcases get_set h1 with⟨rfl,h,_⟩|⟨_,h1⟩
  ·cases h
  ·exact R.ioN j c h1
 ·intro q u hq hn
  refine⟨hq,λz=>?_⟩
  rw[ah (show q≠p from λy=>hn i _ hi rfl (by rw[y];exact hv))];exact z
 ·intro j s h1 h2
  rcases get_set h1 with⟨rfl,rfl,_⟩|⟨_,h1⟩
  ·cases h2
  ·exact⟨s,h1,h2⟩
 ·intro j s h1 h2
  rcases get_set h1 with⟨rfl,rfl,_⟩|⟨_,h1⟩
  ·cases h2
  ·exact⟨s,h1,h2⟩
theorem Rel.free(R:Rel F B H σ ρ)(hp:H p=none):B p=none/\F.H p=none/\∀(i:Nat) (s:Sl),ρ[i]?=some s->s.isRef=true->σ[i]?≠some (some (.ref p)):=by
 have hB:B p=none:=R.sub.free hp;have nn:∀(i:Nat) (s:Sl),ρ[i]?=some s->s.isRef=true->σ[i]?≠some (some (.ref p)):=λi s h1 h2 h3=>by
  have q:=R.slot i s h1;cases s with
  |own d=>obtain⟨q,e1,_,e3⟩:=q;rw[h3]at e1;cases e1;exact e3.jl hp
  |io d=>obtain⟨q,e1,_,e3⟩:=q;rw[h3]at e1;cases e1;exact e3.jl hp
  |ro d=>obtain⟨q,e1,e3⟩:=q;rw[h3]at e1;cases e1;exact e3.jl hp
  |no=>cases h2
  |ex=>cases h2
  |fz d=>cases h2
 refine⟨hB,?_,nn⟩;cases q:F.H p with
 |none=>rfl
 |some u=>
  by_cases z:∃x∈F.io,x.2=p
  ·obtain⟨x,hx,rfl⟩:=z
   obtain⟨h1,d,h2⟩:=R.fx x hx;exact absurd h1 (nn _ _ h2 rfl)
  ·have:=R.sH p u q λx hx y=>z ⟨x,hx,y⟩
   rw[hp]at this;cases this
theorem Rel.grow(R:Rel F B H σ ρ)(eB:aG B B')(eH:aG H H')(sub:aG B' H')(nb:∀q,H q≠none->B q=none->B' q=none)(tB:∀q xs,H' q=some (.tup xs)->B' q=some (.tup xs))(nf:∀q o u,H' q=some (.frz o u)->H q≠none):Rel F B' H' σ ρ:=by
 have lv:∀q,F.H q≠none->H q≠none:=λq h z=>h (R.free z).2.1
 refine⟨sub,R.sB.trans eB,λq u h1 h2=>eH _ _ (R.sH q u h1 h2),λq h1 h2=>nb q (lv q h1) (R.nB q h1 h2),R.len,λi s hs=>?_,R.dist,R.jW,R.fx,R.ioN,tB,R.exv,λq o u h=>by
  cases y:H q with
  |none=>exact absurd y (nf q o u h)
  |some x=>
   have:=eH q x y;rw[h]at this;cases this;exact R.nz q o u y⟩
 have q:=R.slot i s hs;cases s with
 |no=>trivial
 |ex=>trivial
 |fz d=>obtain⟨x,h1,h2⟩:=q;exact⟨x,h1,h2.mono eB⟩
 |own d=>obtain⟨q,h1,h2,h3⟩:=q;exact⟨q,h1,nb q h3.jl h2,h3.mono eB λ_ z=>eH _ _ z⟩
 |io d=>obtain⟨q,h1,h2,h3⟩:=q;exact⟨q,h1,nb q h3.jl h2,h3.mono eB λ_ z=>eH _ _ z⟩
 |ro d=>obtain⟨q,h1,h3⟩:=q;exact⟨q,h1,h3.mono eB λ_ z=>eH _ _ z⟩
theorem Ext.grow(eB:aG B B')(eH:aG H H')(nb:∀q,H q≠none->B q=none->B' q=none):Ext σ ρ B H ρ B' H' :=
 ⟨eB,λq u h _=>⟨eH _ _ h,λz=>nb q (by rw[h];simp) z⟩,λ_ s h z=>⟨s,h,z⟩,λ_ s h z=>⟨s,h,z⟩,λq h=>eH.free h⟩
theorem Rel.lay(R:Rel F B H σ ρ)(hp:H p=none)(no:(∀xs,o≠.tup xs)/\∀a u,o≠.frz a u):Rel F B (upd H p o) σ ρ/\Ext σ ρ B H ρ B (upd H p o):=by
 have e:aG H (upd H p o):=d5 hp;refine⟨R.grow (aG.refl _) e (R.sub.trans e) (λ_ _ z=>z) (λq xs h=>?_) (λq a u h y=>?_),Ext.grow (aG.refl _) e λ_ _ z=>z⟩
 ·by_cases z:q=p
  ·subst z;rw[au]at h;cases h;exact absurd rfl (no.1 xs)
  ·rw[ah z]at h;exact R.cJ q xs h
 ·by_cases z:q=p
  ·subst z;rw[au]at h;cases h;exact no.2 _ _ rfl
  ·rw[ah z,y]at h;cases h
theorem Rel.pG(R:Rel F B H σ ρ)(hp:H p=none):Rel F (upd B p (.tup xs)) (upd H p (.tup xs)) σ ρ/\Ext σ ρ B H ρ (upd B p (.tup xs)) (upd H p (.tup xs))/\aG B (upd B p (.tup xs)):=by
 have hB:=(R.free hp).1;have eH:aG H (upd H p (.tup xs)):=d5 hp;have eB:aG B (upd B p (.tup xs)):=d5 hB;have nb:∀q,H q≠none->B q=none->upd B p (.tup xs) q=none:=λq h z=>by rw[ah (show q≠p from λy=>h (by rw[y];exact hp))];exact z
 refine⟨R.grow eB eH (λq u h=>?_) nb (λq ys h=>?_) (λq a u h y=>?_),Ext.grow eB eH nb,eB⟩
 ·by_cases z:q=p
  ·subst z;rw[au]at h⊢;exact h
  ·rw[ah z]at h⊢;exact R.sub q u h
 ·by_cases z:q=p
  ·subst z;rw[au]at h⊢;exact h
  ·rw[ah z]at h⊢;exact R.cJ q ys h
 ·by_cases z:q=p
  ·subst z;rw[au]at h;cases h
  ·rw[ah z,y]at h;cases h
end
end Mir
namespace Mir
open PySem L2
variable [Zc]
abbrev PM:=Rho->Option (RV×Rho)
def ME(t:TE)(m:PM):Prop :=
 ∀(F:Fr) (B H:Hp) (σ:St) (ρ:Rho) (r:RV) (ρ':Rho) (Q:VK),Rel F B H σ ρ->m ρ=some (r,ρ')->
  (∀v B' H',Ext σ ρ B H ρ' B' H'->Rel F B' H' σ ρ'->Val F B' H' σ ρ' v r->(∀p,r.2=.new->v=.ref p->H p=none)->Q v H')->t σ H Q
def MT(t:TT)(m:Rho->Option (Bool×Rho)):Prop :=
 ∀(F:Fr) (B H:Hp) (σ:St) (ρ:Rho) (b:Bool) (ρ':Rho) (Q:Bool->Hp->Prop),Rel F B H σ ρ->m ρ=some (b,ρ')->
  (∀B' H',Ext σ ρ B H ρ' B' H'->Rel F B' H' σ ρ'->Q b H')->t σ H Q
def Vl(F:Fr)(B H:Hp)(σ:St)(ρ:Rho):List V->List RV->Prop
 | [],[]=>True
 |v::vs,r::rs=>(Val F B H σ ρ v r/\r.2≠.new)/\Vl F B H σ ρ vs rs
 |_,_=>False
def MA(t:TA)(m:Rho->Option (List RV×Rho)):Prop :=
 ∀(F:Fr) (B H:Hp) (σ:St) (ρ:Rho) (rs:List RV) (ρ':Rho) (Q:List V->Hp->Prop),Rel F B H σ ρ->m ρ=some (rs,ρ')->
  (∀vs B' H',Ext σ ρ B H ρ' B' H'->Rel F B' H' σ ρ'->Vl F B' H' σ ρ' vs rs->Q vs H')->t σ H Q
def sv(m:PM):PM:=fun ρ=>match m ρ with
 |some ((d,.new),ρ')=>some ((d,.fz),ρ')
 |x=>x
theorem kG(h:sv m ρ=some (r,ρ')):r.2≠.new:=by
 unfold sv at h;split at h
 ·cases h;simp
 ·rename_i hx
  intro e;obtain⟨d,k⟩:=r;cases(show k=.new from e);exact hx d ρ' h
theorem ME.sv(h:ME t m):ME t (sv m):=by
 intro F B H σ ρ r ρ' Q R e q;unfold Mir.sv at e;split at e
 ·rename_i d ρ1 e1
  cases e;refine h F B H σ ρ _ _ Q R e1 λv B' H' E R' V' N=>?_
  obtain⟨B2,R2,rp,s2,k2⟩:=R'.rH V';refine q v B2 H' ⟨E.sB.trans s2,λq o h1 h2=>?_,E.own,E.ref,E.live⟩ R2 rp (λ_ z=>by cases z)
  obtain⟨h3,h4⟩:=E.keep q o h1 h2;refine⟨h3,λz=>?_⟩
  rw[k2 q λy=>by
   have:=N q rfl y;rw[h1]at this;cases this]
  exact h4 z
 ·exact h F B H σ ρ r ρ' Q R e q
def lA(ρ:Rho)(r:RV):Option RV:=match r.2 with
 | .at i=>match ρ[i]? with
  |some (.own d)=>some (d,.at i)
  |some (.io d)=>some (d,.at i)
  |some (.fz d)=>some (d,.fz)
  |_=>none
 |_=>some r
section
variable{F:Fr}{B H B' H':Hp}{σ:St}{ρ ρ':Rho}{v:V}{r r':RV}
theorem Val.next(E:Ext σ ρ B H ρ' B' H')(R':Rel F B' H' σ ρ')(h:Val F B H σ ρ v r)(nn:r.2≠.new)(e:lA ρ' r=some r'):Val F B' H' σ ρ' v r'/\r'.2≠.new:=by
 obtain⟨d,k⟩:=r;cases k with
 |fz=>cases e;exact⟨Rep.mono E.sB h,nn⟩
 |new=>exact absurd rfl nn
 | «at» i=>
  obtain⟨s,h1,h2,h3,h4⟩:=h;have e':(match ρ'[i]? with
   |some (.own d)=>some (d,Kd.at i)
   |some (.io d)=>some (d,Kd.at i)
   |some (.fz d)=>some (d,Kd.fz)
   |_=>none)=some r':=e
  cases q : ρ'[i]? with
  |none=>rw[q]at e';cases e'
  |some s'=>
   rw[q]at e';cases s' with
   |own c=>cases e';exact⟨⟨_,q,rfl,rfl,h4⟩,by simp⟩
   |io c=>cases e';exact⟨⟨_,q,rfl,rfl,h4⟩,by simp⟩
   |fz c=>
    cases e';obtain⟨x,y1,y2⟩:=R'.slot i _ q;rw[h4]at y1;cases y1
    exact⟨y2,by simp⟩
   |no=>cases e'
   |ex=>cases e'
   |ro c=>cases e'
 |ro=>
  cases e;obtain⟨p,rfl,o,n⟩:=h;obtain⟨ob,hp⟩:=o.there;refine⟨⟨p,rfl,o.mono E.sB λu hu=>(E.keep p u hu n).1,λi s h1 h2=>?_⟩,nn⟩
  obtain⟨s0,h3,h4⟩:=E.own i s h1 h2;exact n i s0 h3 h4
end
def kY(B H:Hp)(res:D×Bool)(k:VK->Prop):Prop:=match res with
 |(d,false)=>∃v,Rep B v d/\∀Q:VK,Q v H->k Q
 |(.list ds,true)=>∃vs,aR B vs ds/\∀Q:VK,(∀p,H p=none->Q (.ref p) (upd H p (.lst vs)))->k Q
 |(.tuple ds,true)=>∃vs,aR B vs ds/\∀Q:VK,(∀p,H p=none->Q (.ref p) (upd H p (.tup vs)))->k Q
 |(.dict es,true)=>∃kvs,a0 B kvs es/\∀Q:VK,(∀p,H p=none->Q (.ref p) (upd H p (.dK kvs)))->k Q
 |_=>False
def jm:D×Bool->RV
 |(d,false)=>(d,.fz)
 |(.tuple ds,true)=>(.tuple ds,.fz)
 |(d,true)=>(d,.new)
theorem fv(R:Rel F B H σ ρ)(h:kY B H res k)
  (q:∀v B' H',Ext σ ρ B H ρ B' H'->Rel F B' H' σ ρ->Val F B' H' σ ρ v (jm res)->(∀p,(jm res).2=.new->v=.ref p->H p=none)->Q v H'):k Q:=by
 obtain⟨d,b⟩:=res;cases b with
 |false=>
  obtain⟨v,rp,hk⟩:=h;exact hk Q (q v B H (Ext.refl _ _ _ _) R rp λp z=>by cases z)
 |true=>
  cases d with
  |list ds=>
   obtain⟨vs,rp,hk⟩:=h;refine hk Q λp hp=>?_
   obtain⟨R',E⟩:=R.lay (o:=.lst vs) hp ⟨(λ_ z=>by cases z),λ_ _ z=>by cases z⟩
   obtain⟨hB,hF,nn⟩:=R.free hp;exact q _ B _ E R' ⟨p,rfl,hB,hF,.lst au rp,nn⟩ λq _ z=>by cases z;exact hp
  |dict es=>
   obtain⟨kvs,rp,hk⟩:=h;refine hk Q λp hp=>?_
   obtain⟨R',E⟩:=R.lay (o:=.dK kvs) hp ⟨(λ_ z=>by cases z),λ_ _ z=>by cases z⟩
   obtain⟨hB,hF,nn⟩:=R.free hp;exact q _ B _ E R' ⟨p,rfl,hB,hF,.dct au rp,nn⟩ λq _ z=>by cases z;exact hp
  |tuple ds=>
   obtain⟨vs,rp,hk⟩:=h;refine hk Q λp hp=>?_
   obtain⟨R',E,e⟩:=R.pG (xs:=vs) hp;exact q _ _ _ E R' (show Rep _ _ _ from .tup au (rp.mono e)) λq z=>by cases z
  |none=>exact h.elim
  |bool _=>exact h.elim
  |int _=>exact h.elim
  |str _=>exact h.elim
def mC(d:D):PM:=fun ρ=>some ((d,.fz),ρ)
theorem Fj(h:∀B,Rep B v d):ME (tC v) (mC d):=by
 intro F B H σ ρ r ρ' Q R e q;cases e;exact q v B H (Ext.refl _ _ _ _) R (h B) λp z=>by cases z
theorem aH:ME (tC (.int i)) (mC (.int i)):=Fj λ_=>.int i
theorem ze:ME (tC (.bl b)) (mC (.bool b)):=Fj λ_=>.bl b
theorem jn:ME (tC .non) (mC .none):=Fj λ_=>.non
theorem iL:ME (tC (.str x)) (mC (.str x)):=Fj λ_=>.str x
def ai(i:Nat):PM:=fun ρ=>match ρ[i]? with
 |some (.fz d)=>some ((d,.fz),ρ)
 |some (.own d)=>some ((d,.at i),ρ)
 |some (.io d)=>some ((d,.at i),ρ)
 |some (.ro d)=>some ((d,.ro),ρ)
 |_=>none
theorem af:ME (u9 i) (ai i):=by
 intro F B H σ ρ r ρ' Q R e q;unfold ai at e;cases hs : ρ[i]? with
 |none=>rw[hs]at e;cases e
 |some s=>
  rw[hs]at e;have sl:=R.slot i s hs;cases s with
  |no=>cases e
  |ex=>cases e
  |fz d=>
   cases e;obtain⟨v,h1,h2⟩:=sl;exact⟨v,h1,q v B H (Ext.refl _ _ _ _) R h2 λp z=>by cases z⟩
  |own d=>
   cases e;obtain⟨p,h1,h2,h3⟩:=sl;exact⟨_,h1,q _ B H (Ext.refl _ _ _ _) R ⟨_,hs,rfl,rfl,h1⟩ λp z=>by cases z⟩
  |io d=>
   cases e;obtain⟨p,h1,h2,h3⟩:=sl;exact⟨_,h1,q _ B H (Ext.refl _ _ _ _) R ⟨_,hs,rfl,rfl,h1⟩ λp z=>by cases z⟩
  |ro d=>
   cases e;obtain⟨p,h1,h3⟩:=sl;refine⟨_,h1,q _ B H (Ext.refl _ _ _ _) R ⟨p,rfl,h3,λj s h4 h5 h6=>?_⟩ λp z=>by cases z⟩
   have:=R.dist j i s _ p h4 h5 hs rfl h6 h1;subst this;rw[hs]at h4;cases h4;cases h5
def OpJ(r:R2)(g:D->D->Option (D×Bool)):Prop :=
 ∀(B H:Hp) (x y:V) (c d:D) (res:D×Bool),aG B H->View B H x c->View B H y d->g c d=some res->kY B H res λQ=>r x y H Q
def mOp(g:D->D->Option (D×Bool))(a b:PM):PM:=fun ρ=>(sv a ρ).bind λx=>(sv b x.2).bind λy=>(lA y.2 x.1).bind λr=>(g r.1 y.1.1).map λres=>(jm res,y.2)
theorem ay(J:OpJ r g)(ha:ME ta a)(hb:ME tb b):ME (tOp r ta tb) (mOp g a b):=by
 intro F B H σ ρ r0 ρ' Q R e q;obtain⟨x,e1,e⟩:=zaa e;obtain⟨y,e2,e⟩:=zaa e;obtain⟨r',e3,e⟩:=zaa e;obtain⟨res,e4,e⟩:=zab e;cases e;refine ha.sv F B H σ ρ x.1 x.2 _ R e1 λv B1 H1 E1 R1 V1 N1=>?_
 refine hb.sv F B1 H1 σ x.2 y.1 y.2 _ R1 e2 λu B2 H2 E2 R2 V2 N2=>?_
 obtain⟨V3,n3⟩:=V1.next E2 R2 (kG e1) e3;refine fv R2 (J B2 H2 v u r'.1 y.1.1 res R2.sub (V3.view R2) (V2.view R2) e4) λw B3 H3 E3 R3 V4 N4=>?_
 refine q w B3 H3 (E1.trans (E2.trans E3)) R3 V4 λp z1 z2=>?_
 exact E1.live p (E2.live p (N4 p z1 z2))
end Mir
namespace Mir
open PySem L2
variable [Zc]
def UnJ(r:V->Hp->VK->Prop)(g:D->Option (D×Bool)):Prop:=∀(B H:Hp) (x:V) (c:D) (res:D×Bool),aG B H->View B H x c->g c=some res->kY B H res λQ=>r x H Q
def mUn(g:D->Option (D×Bool))(a:PM):PM:=fun ρ=>(sv a ρ).bind λx=>(g x.1.1).map λres=>(jm res,x.2)
theorem Lh(J:UnJ r g)(ha:ME ta a):ME (tUn r ta) (mUn g a):=by
 intro F B H σ ρ r0 ρ' Q R e q;obtain⟨x,e1,e⟩:=zaa e;obtain⟨res,e4,e⟩:=zab e;cases e;refine ha.sv F B H σ ρ x.1 x.2 _ R e1 λv B1 H1 E1 R1 V1 N1=>?_
 exact fv R1 (J B1 H1 v x.1.1 res R1.sub (V1.view R1) e4) λw B3 H3 E3 R3 V4 N4=>q w B3 H3 (E1.trans E3) R3 V4 λp z1 z2=>E1.live p (N4 p z1 z2)
def asB:RV×Rho->Option (Bool×Rho)
 |((.bool b,_),ρ)=>some (b,ρ)
 |_=>none
theorem Jr(h:asB x=some (b,ρ)):x.1.1=.bool b/\x.2=ρ:=by
 obtain⟨⟨d,k⟩,ρ0⟩:=x;cases d with
 |bool c=>cases h;exact⟨rfl,rfl⟩
 |_=>cases h
def bc(a:PM):Rho->Option (Bool×Rho):=fun ρ=>(sv a ρ).bind asB
theorem bH(ha:ME ta a):MT (Hn ta) (bc a):=by
 intro F B H σ ρ b ρ' Q R e q;obtain⟨x,e1,e⟩:=zaa e;obtain⟨h1,h2⟩:=Jr e;refine ha.sv F B H σ ρ x.1 x.2 _ R e1 λv B1 H1 E1 R1 V1 N1=>?_
 have:=V1.view R1;rw[h1]at this;rw[h2]at E1 R1;exact⟨b,this.bool,q B1 H1 E1 R1⟩
theorem rJ(ha:ME ta a):MT (tB ta) (bc a):=bH ha
def Mz(a b:Rho->Option (Bool×Rho)):Rho->Option (Bool×Rho):=fun ρ=>(a ρ).bind λx=>if x.1=true then b x.2 else some (false,x.2)
def mOr(a b:Rho->Option (Bool×Rho)):Rho->Option (Bool×Rho):=fun ρ=>(a ρ).bind λx=>if x.1=true then some (true,x.2)else b x.2
def vp(a:Rho->Option (Bool×Rho)):Rho->Option (Bool×Rho):=fun ρ=>(a ρ).map λx=>(!x.1,x.2)
section
variable{ta tb:TT}{a b:Rho->Option (Bool×Rho)}
theorem zf(ha:MT ta a)(hb:MT tb b):MT (tOr ta tb) (mOr a b):=by
 intro F B H σ ρ c ρ' Q R e q;obtain⟨x,e1,e⟩:=zaa e;refine ha F B H σ ρ x.1 x.2 _ R e1 λB1 H1 E1 R1=>?_
 by_cases h:x.1=true
 ·rw[if_pos h]at e⊢
  cases e;exact q B1 H1 E1 R1
 ·rw[if_neg h]at e⊢
  exact hb F B1 H1 σ x.2 c ρ' Q R1 e λB2 H2 E2 R2=>q B2 H2 (E1.trans E2) R2
theorem xu(ha:MT ta a):MT (KS ta) (vp a):=by
 intro F B H σ ρ c ρ' Q R e q;obtain⟨x,e1,e⟩:=zab e;cases e;exact ha F B H σ ρ x.1 x.2 _ R e1 λB1 H1 E1 R1=>q B1 H1 E1 R1
end
section
variable{ta tb:TE}{a b:PM}
def vq(a b:PM):PM:=fun ρ=>(bc a ρ).bind λx=>if x.1=true then b x.2 else some ((.bool false,.fz),x.2)
def MB(a b:PM):PM:=fun ρ=>(bc a ρ).bind λx=>if x.1=true then some ((.bool true,.fz),x.2)else b x.2
def Li(a:PM):PM:=fun ρ=>(bc a ρ).map λx=>((.bool !x.1,.fz),x.2)
theorem Fl(ha:ME ta a)(hb:ME tb b):ME (Hl ta tb) (vq a b):=by
 intro F B H σ ρ c ρ' Q R e q;obtain⟨x,e1,e⟩:=zaa e;refine bH ha F B H σ ρ x.1 x.2 (λc H1=>if c=true then tb σ H1 Q else Q (.bl false) H1) R e1 λB1 H1 E1 R1=>?_
 by_cases h:x.1=true
 ·rw[if_pos h]at e⊢
  exact hb F B1 H1 σ x.2 c ρ' Q R1 e λv B2 H2 E2 R2 V2 N2=>q v B2 H2 (E1.trans E2) R2 V2 λp z1 z2=>E1.live p (N2 p z1 z2)
 ·rw[if_neg h]at e⊢
  cases e;exact q _ B1 H1 E1 R1 (.bl false) λp z=>by cases z
def MC(c:Rho->Option (Bool×Rho))(a b:PM):PM:=fun ρ=>(c ρ).bind λx=>if x.1=true then a x.2 else b x.2
def sX(g g':D->D->Option (D×Bool))(a b c:PM):PM:=fun ρ=>(sv a ρ).bind λx=>(sv b x.2).bind λy=>(lA y.2 x.1).bind λr=>(g r.1 y.1.1).bind λres=>match res with
 |(.bool true,false)=>(sv c y.2).bind λz=>(lA z.2 y.1).bind λs=>(g' s.1 z.1.1).map λres=>(jm res,z.2)
 |(.bool false,false)=>some ((.bool false,.fz),y.2)
 |_=>none
end
def a9:Rho->Option (List RV×Rho):=fun ρ=>some ([],ρ)
def aF(a:PM)(m:Rho->Option (List RV×Rho)):Rho->Option (List RV×Rho):=fun ρ=>(sv a ρ).bind λx=>(m x.2).bind λy=>(lA y.2 x.1).map λr=>(r::y.1,y.2)
theorem aV:MA vf a9:=by
 intro F B H σ ρ rs ρ' Q R e q;cases e;exact q [] B H (Ext.refl _ _ _ _) R trivial
theorem aC(ha:ME ta a)(hr:MA tr m):MA (nZ ta tr) (aF a m):=by
 intro F B H σ ρ rs ρ' Q R e q;obtain⟨x,e1,e⟩:=zaa e;obtain⟨y,e2,e⟩:=zaa e;obtain⟨r,e3,e⟩:=zab e;cases e;refine ha.sv F B H σ ρ x.1 x.2 _ R e1 λv B1 H1 E1 R1 V1 N1=>?_
 refine hr F B1 H1 σ x.2 y.1 y.2 _ R1 e2 λvs B2 H2 E2 R2 V2=>?_
 exact q (v::vs) B2 H2 (E1.trans E2) R2 ⟨V1.next E2 R2 (kG e1) e3,V2⟩
def Fn(B:Hp)(σ:St)(v:V)(r:RV):Prop:=match r.2 with
 | .fz=>Rep B v r.1
 | .at i=>σ[i]?=some (some v)
 |_=>True
def WVl(B:Hp)(σ:St):List V->List RV->Prop
 | [],[]=>True
 |v::vs,r::rs=>Fn B σ v r/\WVl B σ vs rs
 |_,_=>False
theorem Vl.weak:∀{vs:List V} {rs:List RV},Vl F B H σ ρ vs rs->WVl B σ vs rs
 | [],[],_=>trivial
 |v::vs,r::rs,⟨⟨h,n⟩,t⟩=>by
  refine⟨?_,Vl.weak t⟩;obtain⟨d,k⟩:=r;cases k with
  |fz=>exact h
  | «at» i=>obtain⟨_,_,_,_,e⟩:=h;exact e
  |new=>trivial
  |ro=>trivial
theorem WVl.mono(e:aG B B'):∀{vs:List V} {rs:List RV},WVl B σ vs rs->WVl B' σ vs rs
 | [],[],_=>trivial
 |v::vs,r::rs,⟨h,t⟩=>by
  refine⟨?_,WVl.mono e t⟩;obtain⟨d,k⟩:=r;cases k with
  |fz=>exact Rep.mono e h
  | «at» i=>exact h
  |new=>trivial
  |ro=>trivial
def jX(r:RV)(ρ:Rho):Option (D×Rho):=match r.2 with
 | .fz=>some (r.1,ρ)
 | .at i=>match ρ[i]? with
  |some (.own d)=>some (d,ρ.set i (.fz d))
  |some (.fz d)=>some (d,ρ)
  |_=>none
 |_=>none
def jY:List RV->Rho->Option (List D×Rho)
 | [],ρ=>some ([],ρ)
 |r::rs,ρ=>(jX r ρ).bind λx=>(jY rs x.2).map λy=>(x.1::y.1,y.2)
section
variable{F:Fr}{B H:Hp}{σ:St}{ρ ρ':Rho}
theorem Rel.frz(R:Rel F B H σ ρ)(w:Fn B σ v r)(e:jX r ρ=some (d,ρ')):∃B',Rel F B' H σ ρ'/\Rep B' v d/\Ext σ ρ B H ρ' B' H:=by
 obtain⟨c,k⟩:=r;cases k with
 |fz=>cases e;exact⟨B,R,w,Ext.refl _ _ _ _⟩
 |new=>cases e
 |ro=>cases e
 | «at» i=>
  have e':(match ρ[i]? with
   |some (.own d)=>some (d,ρ.set i (.fz d))
   |some (.fz d)=>some (d,ρ)
   |_=>none)=some (d,ρ'):=e
  cases q : ρ[i]? with
  |none=>rw[q]at e';cases e'
  |some s=>
   rw[q]at e';cases s with
   |own c=>cases e';exact R.Cs q w
   |fz c=>
    cases e';obtain⟨x,h1,h2⟩:=R.slot i _ q;have w' : σ[i]?=some (some v):=w;rw[w']at h1;cases h1
    exact⟨B,R,h2,Ext.refl _ _ _ _⟩
   |no=>cases e'
   |ex=>cases e'
   |io c=>cases e'
   |ro c=>cases e'
theorem Rel.Ct:∀{rs:List RV} {vs:List V} {ds:List D} {B:Hp} {ρ ρ':Rho},Rel F B H σ ρ->WVl B σ vs rs->jY rs ρ=some (ds,ρ')->∃B',Rel F B' H σ ρ'/\aR B' vs ds/\Ext σ ρ B H ρ' B' H
 | [],[],ds,B,ρ,ρ',R,_,e=>by cases e;exact⟨B,R,.nil,Ext.refl _ _ _ _⟩
 |r::rs,v::vs,ds,B,ρ,ρ',R,⟨w,ws⟩,e=>by
  obtain⟨x,e1,e⟩:=zaa e;obtain⟨y,e2,e⟩:=zab e;cases e;obtain⟨B1,R1,rp,E1⟩:=R.frz w e1;obtain⟨B2,R2,rps,E2⟩:=Rel.Ct R1 (ws.mono E1.sB) e2;exact⟨B2,R2,.cons (rp.mono E2.sB) rps,E1.trans E2⟩
 | [],_::_,_,_,_,_,_,h,_=>h.elim
 |_::_,[],_,_,_,_,_,h,_=>h.elim
end
def l8(m:Rho->Option (List RV×Rho)):PM:=fun ρ=>(m ρ).bind λx=>(jY x.1 x.2).bind λy=>cIf (y.1.length<=sizeLine) (some ((.tuple y.1,.fz),y.2)) none
def vt(m:Rho->Option (List RV×Rho)):PM:=fun ρ=>(m ρ).bind λx=>(jY x.1 x.2).bind λy=>cIf (y.1.length<=sizeLine) (some ((.list y.1,.new),y.2)) none
theorem iM(h:MA t m):ME (ET t) (l8 m):=by
 intro F B H σ ρ r ρ' Q R e q;obtain⟨x,e1,e⟩:=zaa e;obtain⟨y,e2,e⟩:=zaa e;obtain⟨hz,e⟩:=cK e
 ·cases e
  refine h F B H σ ρ x.1 x.2 _ R e1 λvs B1 H1 E1 R1 V1=>?_
  obtain⟨B2,R2,rp,E2⟩:=Rel.Ct R1 V1.weak e2;refine⟨by rw[rp.length];exact hz,λp hp=>?_⟩
  have:=fv (res:=(.tuple y.1,true)) (k:=λQ=>∀p,H1 p=none->Q (.ref p) (upd H1 p (.tup vs))) (Q:=Q) R2 ⟨vs,rp,λQ h=>h⟩ λv B' H' E R' V' N=>q v B' H' (E1.trans (E2.trans E)) R' V' λp z=>by cases z
  exact this p hp
theorem xw(h:MA t m):ME (IW t) (vt m):=by
 intro F B H σ ρ r ρ' Q R e q;obtain⟨x,e1,e⟩:=zaa e;obtain⟨y,e2,e⟩:=zaa e;obtain⟨hz,e⟩:=cK e
 ·cases e
  refine h F B H σ ρ x.1 x.2 _ R e1 λvs B1 H1 E1 R1 V1=>?_
  obtain⟨B2,R2,rp,E2⟩:=Rel.Ct R1 V1.weak e2;refine⟨by rw[rp.length];exact hz,λp hp=>?_⟩
  have:=fv (res:=(.list y.1,true)) (k:=λQ=>∀p,H1 p=none->Q (.ref p) (upd H1 p (.lst vs))) (Q:=Q) R2 ⟨vs,rp,λQ h=>h⟩ λv B' H' E R' V' N=>q v B' H' (E1.trans (E2.trans E)) R' V' λp z1 z2=>E1.live p (N p z1 z2)
  exact this p hp
def Views(B H:Hp):List V->List D->Prop
 | [],[]=>True
 |v::vs,d::ds=>View B H v d/\Views B H vs ds
 |_,_=>False
theorem Vl.views(R:Rel F B H σ ρ):∀{vs:List V} {rs:List RV},Vl F B H σ ρ vs rs->Views B H vs (rs.map (·.1))
 | [],[],_=>trivial
 |v::vs,r::rs,⟨⟨h,n⟩,t⟩=>⟨h.view R,Vl.views R t⟩
def kZ(r:List V->Hp->VK->Prop)(g:List D->Option (D×Bool)):Prop:=∀(B H:Hp) (vs:List V) (ds:List D) (res:D×Bool),aG B H->Views B H vs ds->g ds=some res->kY B H res λQ=>r vs H Q
def mCB(g:List D->Option (D×Bool))(m:Rho->Option (List RV×Rho)):PM:=fun ρ=>(m ρ).bind λx=>(g (x.1.map (·.1))).map λres=>(jm res,x.2)
theorem dE(J:kZ r g)(h:MA t m):ME (tCB r t) (mCB g m):=by
 intro F B H σ ρ r0 ρ' Q R e q;obtain⟨x,e1,e⟩:=zaa e;obtain⟨res,e4,e⟩:=zab e;cases e;refine h F B H σ ρ x.1 x.2 _ R e1 λvs B1 H1 E1 R1 V1=>?_
 exact fv R1 (J B1 H1 vs _ res R1.sub (V1.views R1) e4) λw B3 H3 E3 R3 V4 N4=>q w B3 H3 (E1.trans E3) R3 V4 λp z1 z2=>E1.live p (N4 p z1 z2)
def oQ:Rho->Option (Option Int×Rho):=fun ρ=>some (none,ρ)
def asI:RV×Rho->Option (Int×Rho)
 |((.int i,_),ρ)=>some (i,ρ)
 |_=>none
theorem Js(h:asI x=some (b,ρ)):x.1.1=.int b/\x.2=ρ:=by
 obtain⟨⟨d,k⟩,ρ0⟩:=x;cases d with
 |int c=>cases h;exact⟨rfl,rfl⟩
 |_=>cases h
def zg(a:PM):Rho->Option (Option Int×Rho):=fun ρ=>((sv a ρ).bind asI).map λx=>(some x.1,x.2)
def MO(t:TO)(m:Rho->Option (Option Int×Rho)):Prop :=
 ∀(F:Fr) (B H:Hp) (σ:St) (ρ:Rho) (b:Option Int) (ρ':Rho) (Q:Option Int->Hp->Prop),Rel F B H σ ρ->m ρ=some (b,ρ')->
  (∀B' H',Ext σ ρ B H ρ' B' H'->Rel F B' H' σ ρ'->Q b H')->t σ H Q
theorem Fo:MO yZ oQ:=by
 intro F B H σ ρ b ρ' Q R e q;cases e;exact q B H (Ext.refl _ _ _ _) R
theorem Fp(ha:ME ta a):MO (Ho ta) (zg a):=by
 intro F B H σ ρ b ρ' Q R e q;obtain⟨y,e1,e⟩:=zab e;obtain⟨x,e2,e3⟩:=zaa e1;cases e;obtain⟨h1,h2⟩:=Js (b:=y.1) (ρ:=y.2) e3;refine ha.sv F B H σ ρ x.1 x.2 _ R e2 λv B1 H1 E1 R1 V1 N1=>?_
 have:=V1.view R1;rw[h1]at this;rw[h2]at E1 R1;exact⟨y.1,this.int,q B1 H1 E1 R1⟩
def SlJ(r:V->Option Int->Option Int->Hp->VK->Prop)(g:D->Option Int->Option Int->Option (D×Bool)):Prop :=
 ∀(B H:Hp) (x:V) (c:D) (l u:Option Int) (res:D×Bool),aG B H->View B H x c->g c l u=some res->kY B H res λQ=>r x l u H Q
def mSl(g:D->Option Int->Option Int->Option (D×Bool))(a:PM)(l u:Rho->Option (Option Int×Rho)):PM:=fun ρ=>(sv a ρ).bind λx=>(l x.2).bind λy=>(u y.2).bind λz=>(lA z.2 x.1).bind λr=>(g r.1 y.1 z.1).map λres=>(jm res,z.2)
theorem Lj(J:SlJ r g)(ha:ME ta a)(hl:MO tl l)(hu:MO tu u):ME (tSl r ta tl tu) (mSl g a l u):=by
 intro F B H σ ρ r0 ρ' Q R e q;obtain⟨x,e1,e⟩:=zaa e;obtain⟨y,e2,e⟩:=zaa e;obtain⟨z,e3,e⟩:=zaa e;obtain⟨r',e4,e⟩:=zaa e;obtain⟨res,e5,e⟩:=zab e;cases e;refine ha.sv F B H σ ρ x.1 x.2 _ R e1 λv B1 H1 E1 R1 V1 N1=>?_
 refine hl F B1 H1 σ x.2 y.1 y.2 _ R1 e2 λB2 H2 E2 R2=>?_
 refine hu F B2 H2 σ y.2 z.1 z.2 _ R2 e3 λB3 H3 E3 R3=>?_
 obtain⟨V3,n3⟩:=V1.next (E2.trans E3) R3 (kG e1) e4;exact fv R3 (J B3 H3 v r'.1 y.1 z.1 res R3.sub (V3.view R3) e5) λw B4 H4 E4 R4 V4 N4=>q w B4 H4 ((E1.trans (E2.trans E3)).trans E4) R4 V4 λp z1 z2=>(E1.trans (E2.trans E3)).live p (N4 p z1 z2)
end Mir
namespace Mir
open PySem L2
variable [Zc]
mutual
def dU:D->Bool
 | .none=>true
 | .bool _=>true
 | .int _=>true
 | .str _=>true
 | .list _=>false
 | .tuple ds=>a6 ds
 | .dict _=>false
def a6:List D->Bool
 | []=>true
 |d::ds=>dU d&&a6 ds
end
mutual
theorem Rep.cH(k:∀q xs,B q=some (.tup xs)->B' q=some (.tup xs)):∀{v:V} {d:D},Rep B v d->dU d=true->Rep B' v d
 |_,_,.non,_=>.non
 |_,_,.bl b,_=>.bl b
 |_,_,.int i,_=>.int i
 |_,_,.str x,_=>.str x
 |_,_,.lst _ _,h=>by simp[dU]at h
 |_,_,.dct _ _,h=>by simp[dU]at h
 |_,_,.tup h r,e=>.tup (k _ _ h) (aR.cH k r (by simpa[dU]using e))
theorem aR.cH(k:∀q xs,B q=some (.tup xs)->B' q=some (.tup xs)):∀{v:List V} {d:List D},aR B v d->a6 d=true->aR B' v d
 |_,_,.nil,_=>.nil
 |_,_,.cons a b,e=>by
  simp only[a6,Bool.and_eq_true]at e;exact .cons (Rep.cH k a e.1) (aR.cH k b e.2)
end
theorem a0.cH(k:∀q xs,B q=some (.tup xs)->B' q=some (.tup xs)):∀{v:List (Key×V)} {d:List (D×D)},a0 B v d->a6 (d.map (·.2))=true->a0 B' v d
 |_,_,.nil,_=>.nil
 |_,_,.cons c a b,e=>by
  simp only[List.map_cons,a6,Bool.and_eq_true]at e;exact .cons c (Rep.cH k a e.1) (a0.cH k b e.2)
def cI(d:D)(o:Bool):Bool:=match o,d with
 |true,.list ds=>a6 ds
 |true,.dict es=>a6 (es.map (·.2))
 |true,_=>false
 |false,d=>dU d
structure Post(B H:Hp)(v:V)(B' H':Hp)(d:D)(o:Bool):Prop where
 eH:aG H H'
 eB:aG B B'
 sub:aG B' H'
 nb:∀q,H q≠none->B q=none->B' q=none
 tB:∀q xs,H' q=some (.tup xs)->B' q=some (.tup xs)
 nz:∀q o u,H' q=some (.frz o u)->H q≠none
 val:if o=true then∃p,v=.ref p/\H p=none/\B' p=none/\Own B' H' p d else Rep B' v d
def spM(f:List D->Option (D×Bool)):Sp:=λvs H Q _=>∃B ds d o,aG B H/\(∀q xs,H q=some (.tup xs)->B q=some (.tup xs))/\aR B vs ds/\f ds=some (d,o)/\∀v B' H',Post B H v B' H' d o->Q v H'
def kO(d:D)(o:Bool):RV:=(d,if o=true then .new else .fz)
def cb(f:List D->Option (D×Bool))(m:Rho->Option (List RV×Rho)):PM:=fun ρ=>(m ρ).bind λx=>(f (x.1.map (·.1))).bind λw=>
 if cI w.1 w.2=true then some (kO w.1 w.2,x.2)else(jY x.1 x.2).map λy=>(kO w.1 w.2,y.2)
theorem Views.reps(e:aG B H):∀{vs:List V} {ds:List D},Views B H vs ds->aR H vs ds
 | [],[],_=>.nil
 |v::vs,d::ds,⟨h,t⟩=>.cons (h.rep e) (Views.reps e t)
theorem vv:∀{rs:List RV} {ρ ρ':Rho} {ds:List D},(∀r∈rs,∀i,r.2=.at i->∃s,ρ[i]?=some s/\slD s=r.1)->jY rs ρ=some (ds,ρ')->ds=rs.map (·.1)
 | [],_,_,_,_,e=>by cases e;rfl
 |r::rs,ρ,ρ',ds,h,e=>by
  obtain⟨x,e1,e⟩:=zaa e;obtain⟨y,e2,e⟩:=zab e;cases e;have hx:x.1=r.1/\∀(i:Nat) (s:Sl),ρ[i]?=some s->∃s',x.2[i]?=some s'/\slD s'=slD s:=by
   obtain⟨d,k⟩:=r;cases k with
   |fz=>cases e1;exact⟨rfl,λi s h=>⟨s,h,rfl⟩⟩
   |new=>cases e1
   |ro=>cases e1
   | «at» i=>
    obtain⟨s,h1,h2⟩:=h (d,.at i) (by simp) i rfl
    have e':(match ρ[i]? with
     |some (.own d)=>some (d,ρ.set i (.fz d))
     |some (.fz d)=>some (d,ρ)
     |_=>none)=some x:=e1
    rw[h1]at e';cases s with
    |own c=>
     cases e';refine⟨h2,λj t hj=>?_⟩
     by_cases z:j=i
     ·subst z
      rw[h1]at hj;cases hj
      obtain⟨hl,_⟩:=zac h1;exact⟨.fz c,by rw[zav hl],rfl⟩
     ·exact⟨t,by rw[zaA (λe=>z e.symm)];exact hj,rfl⟩
    |fz c=>cases e';exact⟨h2,λi s h=>⟨s,h,rfl⟩⟩
    |no=>cases e'
    |ex=>cases e'
    |io c=>cases e'
    |ro c=>cases e'
  rw[zaz,hx.1,vv (ρ:=x.2) (λr hr i hi=>?_) e2]
  obtain⟨s,h1,h2⟩:=h r (zak _ hr) i hi;obtain⟨s',h3,h4⟩:=hx.2 i s h1;exact⟨s',h3,h4.trans h2⟩
theorem Vl.at:∀{vs:List V} {rs:List RV},Vl F B H σ ρ vs rs->∀r∈rs,∀i,r.2=.at i->∃s,ρ[i]?=some s/\slD s=r.1
 | [],[],_,r',hr,i,hi=>by cases hr
 |v::vs,r::rs,⟨⟨h,_⟩,t⟩,r',hr,i,hi=>by
  rcases zaf hr with rfl|hr
  ·obtain⟨d,k⟩:=r'
   cases(show k=.at i from hi);obtain⟨s,h1,_,h2,_⟩:=h;exact⟨s,h1,h2⟩
  ·exact Vl.at t r' hr i hi
theorem cC(h:MA t m):ME (n4 (spM f) [] E t) (cb f m):=by
 intro F B H σ ρ r0 ρ' Q R e q;obtain⟨x,e1,e⟩:=zaa e;obtain⟨w,e2,e⟩:=zaa e;refine h F B H σ ρ x.1 x.2 _ R e1 λvs B1 H1 E1 R1 V1=>?_
 rw[zaR]
 by_cases hp:cI w.1 w.2=true
 ·rw[if_pos hp]at e
  cases e;refine⟨H1,_,w.1,w.2,aG.refl _,λ_ _ z=>z,(V1.views R1).reps R1.sub,e2,λv B' H' P=>?_⟩
  let B2:Hp:=λq=>if H1 q=none then B' q else B1 q
  have old:∀q,H1 q≠none->B2 q=B1 q:=λq z=>if_neg z
  have new:∀q,H1 q=none->B2 q=B' q:=λq z=>if_pos z
  have eB:aG B1 B2:=λq o z=>by rw[old q (by rw[R1.sub q o z];simp)];exact z
  have sub:aG B2 H':=λq o z=>by
   by_cases y:H1 q=none
   ·rw[new q y]at z;exact P.sub q o z
   ·rw[old q y]at z;exact P.eH q o (R1.sub q o z)
  have nb:∀q,H1 q≠none->B1 q=none->B2 q=none:=λq y z=>by rw[old q y];exact z
  have tB:∀q xs,H' q=some (.tup xs)->B2 q=some (.tup xs):=λq xs z=>by
   cases y:H1 q with
   |none=>rw[new q y];exact P.tB q xs z
   |some o=>
    have:=P.eH q o y;rw[z]at this;cases this;rw[old q (by rw[y];simp)];exact R1.cJ q xs y
  have kt:∀q xs,B' q=some (.tup xs)->B2 q=some (.tup xs):=λq xs z=>tB q xs (P.sub q _ z)
  have R2:=R1.grow eB P.eH sub nb tB P.nz;have E2:Ext σ x.2 B1 H1 x.2 B2 H':=Ext.grow eB P.eH nb;obtain⟨d,o⟩:=w;cases o with
  |false=>
   have pv:Rep B' v d:=P.val;exact q v B2 H' (E1.trans E2) R2 (show Rep B2 v d from pv.cH kt hp) λp z=>by cases z
  |true=>
   obtain⟨p,rfl,h1,h2,h3⟩:∃p,v=.ref p/\H1 p=none/\B' p=none/\Own B' H' p d:=P.val;have fr:=R1.free h1;refine q _ B2 H' (E1.trans E2) R2 ⟨p,rfl,by rw[new p h1];exact h2,fr.2.1,?_,fr.2.2⟩ λp' _ z=>by cases z;exact E1.live p h1
   cases h3 with
   |lst h r=>exact .lst h (r.cH kt hp)
   |dct h r=>exact .dct h (r.cH kt hp)
 ·rw[if_neg hp]at e
  obtain⟨y,e3,e⟩:=zab e;cases e;obtain⟨B2,R2,rp,E2⟩:=Rel.Ct R1 V1.weak e3;have hd:=vv V1.at e3;rw[hd]at rp;refine⟨B2,_,w.1,w.2,R2.sub,R2.cJ,rp,e2,λv B' H' P=>?_⟩
  have R3:=R2.grow P.eB P.eH P.sub P.nb P.tB P.nz;have E3:Ext σ y.2 B2 H1 y.2 B' H':=Ext.grow P.eB P.eH P.nb;obtain⟨d,o⟩:=w;cases o with
  |false=>
   have pv:Rep B' v d:=P.val;exact q v B' H' (E1.trans (E2.trans E3)) R3 pv λp z=>by cases z
  |true=>
   obtain⟨p,rfl,h1,h2,h3⟩:∃p,v=.ref p/\H1 p=none/\B' p=none/\Own B' H' p d:=P.val;have fr:=R2.free h1;exact q _ B' H' (E1.trans (E2.trans E3)) R3 ⟨p,rfl,h2,fr.2.1,h3,fr.2.2⟩ λp' _ z=>by cases z;exact E1.live p h1
def vx(B H:Hp)(x:V)(H':Hp)(d:D):Prop:=(H'=H/\Rep B x d)\/∃p xs cs,d=.tuple cs/\x=.ref p/\H p=none/\H'=upd H p (.tup xs)/\aR B xs cs
def lB(G B:Hp)(J:It)(ds:List D):Prop:=∀H,aG G H->J.stop ds.length H/\∀(i:Nat) (d:D),ds[i]?=some d->J.go i H/\∀x H',J.yld i H x H'->vx B H x H' d
def MI(t:TI)(m:Rho->Option (List D×Rho)):Prop :=
 ∀(F:Fr) (B H:Hp) (σ:St) (ρ:Rho) (ds:List D) (ρ':Rho) (Q:It->Hp->Prop),Rel F B H σ ρ->m ρ=some (ds,ρ')->
  (∀J B' H',Ext σ ρ B H ρ' B' H'->Rel F B' H' σ ρ'->lB H' B' J ds->Q J H')->t σ H Q
def MF(t:TI)(m:Rho->Option (List D×Rho)):Prop :=
 ∀(F:Fr) (B H:Hp) (σ:St) (ρ:Rho) (ds:List D) (ρ':Rho) (Q:It->Hp->Prop),Rel F B H σ ρ->m ρ=some (ds,ρ')->
  (∀J B' H',Ext σ ρ B H ρ' B' H'->Rel F B' H' σ ρ'->lB B' B' J ds->Q J H')->t σ H Q
theorem fw(h:Rd H p (.lst xs)):SqL K H p xs:=.inl h
theorem Cu(h:Rd G p (.lst xs))(r:aR B xs ds):lB G B (Itl K p) ds:=λH s=>by
 have h':SqL K H p xs:=fw (dH s h);refine⟨⟨xs,h',by rw[r.length];exact zap _⟩,λi d hd=>?_⟩
 obtain⟨x,h1,h2⟩:=r.get i d hd;refine⟨⟨xs,x,h',h1⟩,λy H' hy=>.inl ⟨hy.1,?_⟩⟩
 have:=hy.2 xs h';rw[h1]at this;cases this;exact h2
theorem Cv(h:G p=some (.tup xs))(r:aR B xs ds):lB G B (Itt K p) ds:=λH s=>by
 have h':SqT K H p xs:=.inl (.inl (s _ _ h));refine⟨⟨xs,h',by rw[r.length];exact zap _⟩,λi d hd=>?_⟩
 obtain⟨x,h1,h2⟩:=r.get i d hd;refine⟨⟨xs,x,h',h1⟩,λy H' hy=>.inl ⟨hy.1,?_⟩⟩
 have:=hy.2 xs h';rw[h1]at this;cases this;exact h2
def asL:D->Option (List D)
 | .list ds=>some ds
 |_=>none
def asT:D->Option (List D)
 | .tuple ds=>some ds
 |_=>none
theorem Cw(h:asL d=some ds):d=.list ds:=by cases d<;>first|cases h;rfl|cases h
theorem Cy(h:asT d=some ds):d=.tuple ds:=by cases d<;>first|cases h;rfl|cases h
def sY(a:PM):Rho->Option (List D×Rho):=fun ρ=>(sv a ρ).bind λx=>(asL x.1.1).map λds=>(ds,x.2)
def Ay(a:PM):Rho->Option (List D×Rho):=fun ρ=>(sv a ρ).bind λx=>(asT x.1.1).map λds=>(ds,x.2)
def MH(a:PM):Rho->Option (List D×Rho):=fun ρ=>(sv a ρ).bind λx=>(jX x.1 x.2).bind λy=>(asL y.1).map λds=>(ds,y.2)
section
variable{K:zag}{ta:TE}{a:PM}
theorem sZ(ha:ME ta a):MI (ve K ta) (sY a):=by
 intro F B H σ ρ ds ρ' Q R e q;obtain⟨x,e1,e⟩:=zaa e;obtain⟨ds',e2,e⟩:=zab e;cases e;refine ha.sv F B H σ ρ x.1 x.2 _ R e1 λv B1 H1 E1 R1 V1 N1=>?_
 have w:=V1.view R1;rw[Cw e2]at w;obtain⟨p,xs,rfl,h1,h2⟩:=w.list R1.sub;exact⟨p,rfl,⟨xs,fw h1⟩,q _ B1 H1 E1 R1 (Cu h1 h2)⟩
theorem Jt(ha:ME ta a):MI (EO K ta) (Ay a):=by
 intro F B H σ ρ ds ρ' Q R e q;obtain⟨x,e1,e⟩:=zaa e;obtain⟨ds',e2,e⟩:=zab e;cases e;refine ha.sv F B H σ ρ x.1 x.2 _ R e1 λv B1 H1 E1 R1 V1 N1=>?_
 have w:=V1.view R1;rw[Cy e2]at w;obtain⟨p,xs,rfl,h1,h2⟩:=w.tuple R1.sub;exact⟨p,rfl,⟨xs,.inl (.inl h1)⟩,q _ B1 H1 E1 R1 (Cv h1 h2)⟩
theorem Ju(ha:ME ta a):MF (EO K ta) (Ay a):=by
 intro F B H σ ρ ds ρ' Q R e q;obtain⟨x,e1,e⟩:=zaa e;obtain⟨ds',e2,e⟩:=zab e;cases e;refine ha.sv F B H σ ρ x.1 x.2 _ R e1 λv B1 H1 E1 R1 V1 N1=>?_
 have w:=V1.view R1;rw[Cy e2]at w;obtain⟨p,xs,rfl,h1,h2⟩:=w.tuple R1.sub;exact⟨p,rfl,⟨xs,.inl (.inl h1)⟩,q _ B1 H1 E1 R1 (Cv (R1.cJ _ _ h1) h2)⟩
end
def Lk(lo:Int)(n:Nat):List D:=(List.range n).map λ(k:Nat)=>PyData.int (lo+(k:Int))
def rg1:List RV×Rho->Option (List D×Rho)
 |([(.int j,_)],ρ)=>cIf (-(2^62)<=j/\j<2^62) (some (Lk 0 j.toNat,ρ)) none
 |_=>none
def rg2:List RV×Rho->Option (List D×Rho)
 |([(.int i,_),(.int j,_)],ρ)=>cIf (-(2^62)<=i/\i<2^62/\-(2^62)<=j/\j<2^62) (some (Lk i (j-i).toNat,ρ)) none
 |_=>none
def MJ(m:Rho->Option (List RV×Rho)):Rho->Option (List D×Rho):=fun ρ=>(m ρ).bind rg1
def MK(m:Rho->Option (List RV×Rho)):Rho->Option (List D×Rho):=fun ρ=>(m ρ).bind rg2
end Mir
namespace Mir
open PySem L2
variable [Zc]
def Jv:List RV×Rho->Option (RV×Rho)
 |([r],ρ)=>some (r,ρ)
 |_=>none
theorem Fq(h:Jv x=some y):x=([y.1],y.2):=by
 obtain⟨rs,ρ⟩:=x;unfold Jv at h;split at h
 ·rename_i heq;cases heq;cases h;rfl
 ·cases h
def bh(ρ:Rho)(i:Nat):Sl:=match ρ[i]? with
 |some (.own d)=>.ro d
 |some (.io d)=>.ro d
 |some .ex=>.no
 |some s=>s
 |none=>.no
def asF:RV->Option D
 |(d,.fz)=>some d
 |_=>none
theorem xx(h:asF r=some d):r=(d,.fz):=by
 obtain⟨c,k⟩:=r;cases k with
 |fz=>cases h;rfl
 |_=>cases h
def gp(c:Rho->Option (Bool×Rho))(e:PM)(ρn:Rho):List D->Option (List D)
 | []=>some []
 |d::ds=>(c (.fz d::ρn)).bind λb=>if b.1=true then(sv e (.fz d::ρn)).bind λy=>(asF y.1).bind λz=>(gp c e ρn ds).map (z::·)else gp c e ρn ds
def mLC(fr:List (Str×Nat))(it:Rho->Option (List D×Rho))(c:Rho->Option (Bool×Rho))(e:PM):PM:=fun ρ=>(it ρ).bind λx=>(gp c e (fr.map λp=>bh x.2 p.2) x.1).bind λys=>cIf (ys.length<sizeLine) (some ((.list ys,.new),x.2)) none
def jo:Rho->Option (Bool×Rho):=fun ρ=>some (true,ρ)
theorem pH:MT Lb jo:=by
 intro F B H σ ρ b ρ' Q R e q;cases e;exact q B H (Ext.refl _ _ _ _) R
def F0(H:Hp):Fr:=⟨λ_=>none,λ_=>none,[],λq=>H q≠none⟩
theorem Az:bh ρ i≠.ex:=by
 unfold bh;cases h : ρ[i]? with
 |none=>simp
 |some s=>cases s<;>simp
theorem pI:(bh ρ i).eM=false:=by
 unfold bh;cases h : ρ[i]? with
 |none=>rfl
 |some s=>cases s<;>rfl
theorem Rel.inner(R:Rel F B H σ ρ)(fr:List (Str×Nat))(h:Rep B v d):Rel (F0 H) B H (some v::aP σ fr) (.fz d::fr.map λp=>bh ρ p.2):=by
 have uX:∀(i:Nat) (s:Sl),(Sl.fz d::fr.map λp=>bh ρ p.2)[i]?=some s->s.eM=true->False:=λi s h1 h2=>by
  cases i with
  |zero=>cases h1;cases h2
  |succ i=>
   have h1':(fr.map λp=>bh ρ p.2)[i]?=some s:=by simpa using h1
   rw[zao]at h1';obtain⟨p,_,e⟩:=zab h1';rw[<-e,pI]at h2;cases h2
 have nex:∀i:Nat,(Sl.fz d::fr.map λp=>bh ρ p.2)[i]?=some Sl.ex->False:=λi h1=>by
  cases i with
  |zero=>cases h1
  |succ i=>
   have h1':(fr.map λp=>bh ρ p.2)[i]?=some Sl.ex:=by simpa using h1
   rw[zao]at h1';obtain⟨p,_,e⟩:=zab h1';exact absurd e Az
 refine⟨R.sub,(λ_ _ z=>by cases z),(λ_ _ z=>by cases z),λ_ z _=>absurd rfl z,by simp[aP],λi s hs=>?_,λi j s t p h1 h2=>(uX i s h1 h2).elim,λi d p h1=>(uX i _ h1 rfl).elim,(λx hx=>by cases hx),λi d h1=>(uX i _ h1 rfl).elim,R.cJ,(λi h1=>(nex i h1).elim),λq o u h z=>by rw[z]at h;cases h⟩
 cases i with
 |zero=>cases hs;exact⟨v,rfl,h⟩
 |succ i=>
  have hs':(fr.map λp=>bh ρ p.2)[i]?=some s:=by simpa using hs
  rw[zao]at hs';obtain⟨p,hp,e⟩:=zab hs';have hσ:∀x,σ[p.2]?=some (some x)->(some v::aP σ fr)[i+1]?=some (some x):=λx hx=>by
   rw[zat];unfold aP;rw[zao,hp,zaT,List.getD_eq_getElem?_getD,hx];rfl
  unfold bh at e;cases q : ρ[p.2]? with
  |none=>rw[q]at e;subst e;trivial
  |some s0=>
   rw[q]at e;have sl:=R.slot p.2 s0 q;cases s0 with
   |no=>subst e;trivial
   |ex=>subst e;trivial
   |fz c=>subst e;obtain⟨x,h1,h2⟩:=sl;exact⟨x,hσ _ h1,h2⟩
   |own c=>subst e;obtain⟨x,h1,_,h2⟩:=sl;exact⟨x,hσ _ h1,h2⟩
   |io c=>subst e;obtain⟨x,h1,_,h2⟩:=sl;exact⟨x,hσ _ h1,h2⟩
   |ro c=>subst e;obtain⟨x,h1,h2⟩:=sl;exact⟨x,hσ _ h1,h2⟩
theorem fe(uX:∀(i:Nat) (s:Sl),ρ[i]?=some s->s.eM=true->False)(E:Ext σ ρ B H ρ' B' H'):aG H H'/\∀q,H q≠none->B q=none->B' q=none:=by
 have k:∀q o,H q=some o->H' q=some o/\(B q=none->B' q=none):=λq o h=>E.keep q o h λi s h1 h2=>(uX i s h1 h2).elim
 refine⟨λq o h=>(k q o h).1,λq h z=>?_⟩
 cases e:H q with
 |none=>exact absurd e h
 |some o=>exact(k q o e).2 z
theorem eV{fr:List (Str×Nat)}{ρ:Rho}{d:D}(i:Nat)(s:Sl)(h1:(Sl.fz d::fr.map λp=>bh ρ p.2)[i]?=some s)(h2:s.eM=true):False:=by
 cases i with
 |zero=>cases h1;cases h2
 |succ i=>
  have h1':(fr.map λp=>bh ρ p.2)[i]?=some s:=by simpa using h1
  rw[zao]at h1';obtain⟨p,_,e⟩:=zab h1';rw[<-e,pI]at h2;cases h2
theorem vy(hi:MI wi it)(hc:MT tc c)(he:ME te e):ME (tLC fr wi tc te) (mLC fr it c e):=by
 intro F B H σ ρ r0 ρ' Q R e0 q;obtain⟨x,e1,e0⟩:=zaa e0;obtain⟨out,e2,e0⟩:=zaa e0;obtain⟨hz,e0⟩:=cK e0;cases e0;refine hi F B H σ ρ x.1 x.2 _ R e1 λJ B1 H1 E1 R1 I1=>?_
 obtain⟨ds,ρ1⟩:=x;refine⟨λi m ys H2=>m=ds.length-i/\i<=ds.length/\∃B2 done rest,aG B1 B2/\aG H1 H2/\(∀q,H1 q≠none->B1 q=none->B2 q=none)/\Rel F B2 H2 σ ρ1/\aR B2 ys done/\gp c e (fr.map λp=>bh ρ1 p.2) (ds.drop i)=some rest/\done++rest=out,
  ⟨ds.length,rfl,Nat.zero_le _,B1,[],out,aG.refl _,aG.refl _,λ_ _ z=>z,R1,.nil,e2,rfl⟩,?_⟩
 rintro i m ys H2 ⟨rfl,hil,B2,done,rest,eB,eH,nb,R2,rp,hcl,hdr⟩
 have hlen:ys.length<=out.length:=by rw[<-hdr,zau,rp.length];omega
 refine⟨by omega,?_⟩
 by_cases hlt:i<ds.length
 ·refine .inr ?_
  obtain⟨go,yl⟩:=(I1 H2 eH).2 i ds[i] (zaC hlt);refine⟨go,λv H3 hy=>?_⟩
  rw[zbb hlt]at hcl;obtain⟨b,c1,c2⟩:=zaa (show(c (.fz ds[i]::fr.map λp=>bh ρ1 p.2)).bind _=some rest from hcl)
  have had:∃B3,aG B2 B3/\aG H2 H3/\(∀q,H2 q≠none->B2 q=none->B3 q=none)/\Rel F B3 H3 σ ρ1/\Rep B3 v ds[i]:=by
   rcases yl v H3 hy with⟨rfl,h2⟩|⟨p,xs,cs,h1,rfl,h3,rfl,h5⟩
   ·exact⟨B2,aG.refl _,aG.refl _,λ_ _ z=>z,R2,h2.mono eB⟩
   ·obtain⟨R3,E3,e3⟩:=R2.pG (xs:=xs) h3
    refine⟨_,e3,d5 h3,λq h z=>?_,R3,?_⟩
    ·rw[ah (show q≠p from λy=>h (by rw[y];exact h3))];exact z
    ·rw[h1];exact .tup au (h5.mono (eB.trans e3))
  obtain⟨B3,eB3,eH3,nb3,R3,rv⟩:=had;have Ri:=R3.inner fr rv;refine hc (F0 H3) B3 H3 _ _ b.1 b.2 _ Ri c1 λB4 H4 E4 R4=>?_
  obtain⟨eH4,nb4⟩:=fe eV E4;have R4o:Rel F B4 H4 σ ρ1:=R3.grow E4.sB eH4 R4.sub nb4 R4.cJ R4.nz;have nbA:∀q,H1 q≠none->B1 q=none->B4 q=none:=λq h z=>by
   have h2:H2 q≠none:=λy=>h (eH.free y)
   have h3:H3 q≠none:=λy=>h2 (eH3.free y)
   exact nb4 q h3 (nb3 q h2 (nb q h z))
  cases hb:b.1 with
  |false=>
   rw[hb,if_neg zam]at c2;rw[if_neg zam];exact⟨ds.length-(i+1),by omega,rfl,hlt,B4,done,rest,eB.trans (eB3.trans E4.sB),eH.trans (eH3.trans eH4),nbA,R4o,rp.mono (eB3.trans E4.sB),c2,hdr⟩
  |true=>
   rw[hb,if_pos rfl]at c2;rw[if_pos rfl];obtain⟨y,c3,c2⟩:=zaa c2;obtain⟨z,c4,c2⟩:=zaa c2;obtain⟨rest',c5,c6⟩:=zab c2;subst c6;have Ri4:=R4o.inner fr (rv.mono E4.sB);refine he.sv (F0 H4) B4 H4 _ _ y.1 y.2 _ Ri4 c3 λu B5 H5 E5 R5 V5 N5=>?_
   obtain⟨eH5,nb5⟩:=fe eV E5;have R5o:Rel F B5 H5 σ ρ1:=R4o.grow E5.sB eH5 R5.sub nb5 R5.cJ R5.nz;rw[xx c4]at V5;refine⟨ds.length-(i+1),by omega,rfl,hlt,B5,done++[z],rest',eB.trans (eB3.trans (E4.sB.trans E5.sB)),eH.trans (eH3.trans (eH4.trans eH5)),λq h w=>?_,R5o,(rp.mono (eB3.trans (E4.sB.trans E5.sB))).append (.cons V5 .nil),c5,by rw[zaD];exact hdr⟩
   have h2:H2 q≠none:=λy=>h (eH.free y)
   have h3:H3 q≠none:=λy=>h2 (eH3.free y)
   have h4:H4 q≠none:=λy=>h3 (eH4.free y)
   exact nb5 q h4 (nbA q h w)
 ·have hi':i=ds.length:=by omega
  subst hi';refine .inl ⟨(I1 H2 eH).1,λp hp=>?_⟩
  rw[List.drop_length]at hcl;cases hcl;rw[zaR]at hdr;subst hdr;have E2:Ext σ ρ1 B1 H1 ρ1 B2 H2:=Ext.grow eB eH nb;have:=fv (res:=(.list done,true)) (k:=λQ=>∀p,H2 p=none->Q (.ref p) (upd H2 p (.lst ys))) (Q:=Q) R2 ⟨ys,rp,λQ h=>h⟩ λv B' H' E R' V' N=>q v B' H' ((E1.trans E2).trans E) R' V' λp z1 z2=>(E1.trans E2).live p (N p z1 z2)
  exact this p hp
end Mir
namespace Mir
open PySem L2
variable [Zc]
def Sl.put:Sl->D->Sl
 | .own _,d=>.own d
 | .io _,d=>.io d
 |s,_=>s
section
variable{F:Fr}{B H:Hp}{σ:St}{ρ ρ':Rho}{v:V}
theorem pF.at(e : σ'[i]?=σ[i]?)(h:pF B H σ i s):pF B H σ' i s:=by
 unfold pF at h⊢;rw[e];exact h
theorem Rel.write(R:Rel F B H σ ρ)(hi : ρ[i]?=some s)(hs:s.eM=true)(hv : σ[i]?=some (some (.ref p)))(no:(∀xs,o≠.tup xs)/\∀a u,o≠.frz a u)(ow:Own B (upd H p o) p d) :
  Rel F B (upd H p o) σ (ρ.set i (s.put d))/\Ext σ ρ B H (ρ.set i (s.put d)) B (upd H p o):=by
 obtain⟨p',e1,hB,o0⟩:=R.ownAt hi hs;rw[hv]at e1;cases e1;have hl:i<ρ.length:=(zac hi).1;have pO:(s.put d).eM=true/\slD (s.put d)=d:=by cases s<;>first|exact⟨rfl,rfl⟩|cases hs
 have ne:∀(j:Nat) (t:Sl) (q:Addr),j≠i->ρ[j]?=some t->t.isRef=true->σ[j]?=some (some (.ref q))->q≠p:=λj t q hj h1 h2 h3 z=>hj (R.dist i j s t p hi hs h1 h2 hv (z▸h3)).symm
 have nio:∀(j:Nat) (t:Sl),(ρ.set i (s.put d))[j]?=some t->∃t0,ρ[j]?=some t0/\t.eM=t0.eM/\t.isRef=t0.isRef/\(∀c,t=.own c->∃c0,t0=.own c0)/\∀c,t=.io c->∃c0,t0=.io c0:=λj t h=>by
  rcases get_set h with⟨rfl,rfl,_⟩|⟨_,h⟩
  ·refine⟨s,hi,?_⟩
   cases s with
   |own c=>exact⟨rfl,rfl,λ_ _=>⟨_,rfl⟩,λ_ z=>by cases z⟩
   |io c=>exact⟨rfl,rfl,(λ_ z=>by cases z),λ_ _=>⟨_,rfl⟩⟩
   |_=>cases hs
  ·exact⟨t,h,rfl,rfl,λc z=>⟨c,z⟩,λc z=>⟨c,z⟩⟩
 have hF:F.H p=none\/∃x∈F.io,x.2=p:=by
  cases s with
  |own c=>exact .inl (R.jW i c p hi hv)
  |io c=>
   obtain⟨p',hp⟩:=R.ioN i c hi;obtain⟨h1,_⟩:=R.fx _ hp;have h1' : σ[i]?=some (some (.ref p')):=h1;rw[hv]at h1';cases h1';exact .inr ⟨_,hp,rfl⟩
  |_=>cases hs
 have ML:s.put d≠.ex:=by
  cases s with
  |own c=>simp[Sl.put]
  |io c=>simp[Sl.put]
  |_=>cases hs
 refine⟨⟨?_,R.sB,?_,R.nB,by rw[zaM];exact R.len,?_,?_,?_,?_,?_,?_,(λj h=>R.exv j (sW ML h).1),λq a u h=>by
  by_cases z:q=p
  ·subst z;rw[au]at h;cases h;exact absurd rfl (no.2 _ _)
  ·rw[ah z]at h;exact R.nz q a u h⟩,⟨aG.refl _,?_,?_,?_,?_⟩⟩
 ·intro q u hq
  rw[ah (show q≠p from λz=>by rw[z,hB]at hq;cases hq)];exact R.sub q u hq
 ·intro q u h1 h2
  have z:q≠p:=λz=>by
   rcases hF with h|⟨x,hx,h⟩
   ·rw[z,h]at h1;cases h1
   ·exact h2 x hx (h.trans z.symm)
  rw[ah z];exact R.sH q u h1 h2
 ·intro j t ht
  rcases get_set ht with⟨rfl,rfl,_⟩|⟨hj,ht⟩
  ·cases s with
   |own c=>exact⟨p,hv,hB,ow⟩
   |io c=>exact⟨p,hv,hB,ow⟩
   |_=>cases hs
  ·have q:=R.slot j t ht
   have k:∀q,q≠p->∀u,H q=some u->upd H p o q=some u:=λq z u h=>by rw[ah z];exact h
   cases t with
   |no=>trivial
   |ex=>trivial
   |fz c=>exact q
   |own c=>obtain⟨q,h1,h2,h3⟩:=q;exact⟨q,h1,h2,h3.mono (aG.refl _) (k q (ne j _ q hj ht rfl h1))⟩
   |io c=>obtain⟨q,h1,h2,h3⟩:=q;exact⟨q,h1,h2,h3.mono (aG.refl _) (k q (ne j _ q hj ht rfl h1))⟩
   |ro c=>obtain⟨q,h1,h3⟩:=q;exact⟨q,h1,h3.mono (aG.refl _) (k q (ne j _ q hj ht rfl h1))⟩
 ·intro a b t u q h1 h2 h3 h4 h5 h6
  obtain⟨t0,h1',e1,_,_,_⟩:=nio a t h1;obtain⟨u0,h3',_,e3,_,_⟩:=nio b u h3;exact R.dist a b t0 u0 q h1' (e1▸h2) h3' (e3▸h4) h5 h6
 ·intro j c q h1 h2
  obtain⟨t0,h1',_,_,e1,_⟩:=nio j _ h1;obtain⟨c0,rfl⟩:=e1 c rfl;exact R.jW j c0 q h1' h2
 ·intro x hx
  obtain⟨h1,c,h2⟩:=R.fx x hx;refine⟨h1,?_⟩
  by_cases z:i=x.1
  ·subst z
   rw[hi]at h2;cases h2;exact⟨d,by rw[zav hl];rfl⟩
  ·exact⟨c,by rw[zaA z];exact h2⟩
 ·intro j c h1
  obtain⟨t0,h1',_,_,_,e1⟩:=nio j _ h1;obtain⟨c0,rfl⟩:=e1 c rfl;exact R.ioN j c0 h1'
 ·intro q xs h
  by_cases z:q=p
  ·subst z;rw[au]at h;cases h;exact absurd rfl (no.1 xs)
  ·rw[ah z]at h;exact R.cJ q xs h
 ·intro q u h n
  refine⟨?_,id⟩;rw[ah (show q≠p from λz=>n i s hi hs (by rw[z];exact hv))];exact h
 ·intro j t h1 h2
  obtain⟨t0,h1',e1,_,_,_⟩:=nio j t h1;exact⟨t0,h1',e1▸h2⟩
 ·intro j t h1 h2
  obtain⟨t0,h1',_,e1,_,_⟩:=nio j t h1;exact⟨t0,h1',e1▸h2⟩
 ·intro q h
  by_cases z:q=p
  ·subst z;rw[au]at h;cases h
  ·rw[ah z]at h;exact h
end
def qP:Option Sl->Option (List D)
 |some (.own (.list ds))=>some ds
 |some (.io (.list ds))=>some ds
 |_=>none
theorem zi(h:qP s=some ds):∃t,s=some t/\t.eM=true/\slD t=.list ds:=by
 unfold qP at h;split at h
 ·cases h;exact⟨_,rfl,rfl,rfl⟩
 ·cases h;exact⟨_,rfl,rfl,rfl⟩
 ·cases h
def putAt(ρ:Rho)(i:Nat)(d:D):Rho:=match ρ[i]? with
 |some s=>ρ.set i (s.put d)
 |none=>ρ
def Ll(r:V->List V->Hp->VK->Prop)(f:List D->List D->Option (List D×D)):Prop :=
 ∀(B H:Hp) (p:Addr) (xs:List V) (ds:List D) (vs:List V) (as:List D) (w:List D×D),H p=some (.lst xs)->aR B xs ds->aG B H->aR B vs as->f ds as=some w->
  ∃xs' v,aR B xs' w.1/\Rep B v w.2/\∀Q:VK,Q v (upd H p (.lst xs'))->r (.ref p) vs H Q
def Cz(i:Nat)(f:List D->List D->Option (List D×D))(m:Rho->Option (List RV×Rho)):PM:=fun ρ=>(qP ρ[i]?).bind λ_=>(m ρ).bind λx=>(jY x.1 x.2).bind λy=>(qP y.2[i]?).bind λds=>(f ds y.1).map λw=>((w.2,.fz),putAt y.2 i (.list w.1))
theorem Own.list{B H:Hp}{p:Addr}{ds:List D}(h:Own B H p (.list ds)):∃xs,H p=some (.lst xs)/\aR B xs ds:=by
 cases h with
 |lst h r=>exact⟨_,h,r⟩
theorem Jw(J:Ll r f)(h:MA t m):ME (tBM K "list" r (u9 i) t) (Cz i f m):=by
 intro F B H σ ρ r0 ρ' Q R e q;obtain⟨ds0,e0,e⟩:=zaa e;obtain⟨x,e1,e⟩:=zaa e;obtain⟨y,e2,e⟩:=zaa e;obtain⟨ds,e3,e⟩:=zaa e;obtain⟨w,e4,e⟩:=zab e;cases e;obtain⟨s0,hs0,ho0,hd0⟩:=zi e0;obtain⟨p,hv,hB,ow⟩:=R.ownAt hs0 ho0;rw[hd0]at ow;obtain⟨xs0,hp0,_⟩:=ow.list;refine⟨_,hv,.inl ⟨rfl,xs0,SqL.of hp0⟩,?_⟩;refine h F B H σ ρ x.1 x.2 _ R e1 λvs B1 H1 E1 R1 V1=>?_
 obtain⟨B2,R2,rp,E2⟩:=Rel.Ct R1 V1.weak e2;obtain⟨s,hs,ho,hd⟩:=zi e3;obtain⟨p',hv',hB',ow'⟩:=R2.ownAt hs ho;rw[hv]at hv';cases hv';rw[hd]at ow';obtain⟨xs,hp,rx⟩:=ow'.list;obtain⟨xs',u,rx',ru,hr⟩:=J B2 H1 p xs ds vs y.1 w hp rx R2.sub rp e4;obtain⟨R3,E3⟩:=R2.write (o:=.lst xs') (d:=.list w.1) hs ho hv ⟨(λ_ z=>by cases z),λ_ _ z=>by cases z⟩ (.lst au rx')
 have ep:putAt y.2 i (.list w.1)=y.2.set i (s.put (.list w.1)):=by unfold putAt;rw[hs]
 rw[ep]at q;exact hr Q (q u B2 _ (E1.trans (E2.trans E3)) R3 ru λp z=>by cases z)
def Lm(i:Nat)(f:List D->List D->Option (List D×D)):PM:=fun ρ=>(qP ρ[i]?).bind λds=>(f ds []).map λw=>((w.2,.fz),putAt ρ i (.list w.1))
end Mir
namespace Mir
open PySem L2
variable [Zc]
inductive Out where
 |nx (ρ:Rho)|rt (r:RV) (ρ:Rho)|bk (ρ:Rho)|ct (ρ:Rho)
abbrev SM:=Rho->Option Out
def k6(F:Fr)(D:Ends):Out->Prop
 | .nx ρ=>∀B H σ,Rel F B H σ ρ->D.nx σ H
 | .rt r ρ=>∀v B H σ,Rel F B H σ ρ->Val F B H σ ρ v r->D.rt v H
 | .bk ρ=>∀B H σ,Rel F B H σ ρ->D.bk σ H
 | .ct ρ=>∀B H σ,Rel F B H σ ρ->D.ct σ H
def MS(t:TS)(m:SM):Prop:=∀(F:Fr) (B H:Hp) (σ:St) (ρ:Rho) (o:Out) (D:Ends),Rel F B H σ ρ->m ρ=some o->k6 F D o->t D σ H
def gM(a b:SM):SM:=fun ρ=>(a ρ).bind λo=>match o with
 | .nx ρ'=>b ρ'
 |o=>some o
theorem eW(ha:MS t a)(hb:MS u b):MS (BX t u) (gM a b):=by
 intro F B H σ ρ o D R e q;obtain⟨x,e1,e⟩:=zaa e;refine ha F B H σ ρ x _ R e1 ?_;cases x with
 |nx ρ'=>exact λB' H' σ' R'=>hb F B' H' σ' ρ' o D R' e q
 |rt r ρ'=>cases e;exact q
 |bk ρ'=>cases e;exact q
 |ct ρ'=>cases e;exact q
def iZ:SM:=fun ρ=>some (.nx ρ)
theorem fZ:MS BW iZ:=by
 intro F B H σ ρ o D R e q;cases e;exact q B H σ R
def m9:SM:=λ_=>none
theorem jZ:MS xk m9:=by
 intro F B H σ ρ o D R e q;cases e
def jq(a:PM):SM:=fun ρ=>(a ρ).map λx=>.rt x.1 x.2
theorem eX(ha:ME t a):MS (EJ t) (jq a):=by
 intro F B H σ ρ o D R e q;obtain⟨x,e1,e⟩:=zab e;cases e;exact ha F B H σ ρ x.1 x.2 _ R e1 λv B' H' E R' V' N=>q v B' H' σ R' V'
def Ln:SM:=fun ρ=>some (.rt (.none,.fz) ρ)
def vz(a:PM):SM:=fun ρ=>(a ρ).map λx=>.nx x.2
theorem Fs(ha:ME t a):MS (BY t) (vz a):=by
 intro F B H σ ρ o D R e q;obtain⟨x,e1,e⟩:=zab e;cases e;exact ha F B H σ ρ x.1 x.2 _ R e1 λv B' H' E R' V' N=>q B' H' σ R'
def lC(c:Rho->Option (Bool×Rho))(a b:SM):SM:=fun ρ=>(c ρ).bind λx=>if x.1=true then a x.2 else b x.2
theorem l9(hc:MT tc c)(ha:MS t a)(hb:MS u b):MS (EK tc t u) (lC c a b):=by
 intro F B H σ ρ o D R e q;obtain⟨x,e1,e⟩:=zaa e;refine hc F B H σ ρ x.1 x.2 _ R e1 λB' H' E R'=>?_
 by_cases h:x.1=true
 ·rw[if_pos h]at e⊢;exact ha F B' H' σ x.2 o D R' e q
 ·rw[if_neg h]at e⊢;exact hb F B' H' σ x.2 o D R' e q
def h9(ρ:Rho)(i:Nat)(s:Sl):Option Rho:=match ρ[i]? with
 |none=>none
 |some (.io _)=>none
 |some _=>some (ρ.set i s)
theorem vA(h:h9 ρ i s=some ρ') : ρ'=ρ.set i s/\∃s0,ρ[i]?=some s0/\∀d,s0≠.io d:=by
 unfold h9 at h;cases q : ρ[i]? with
 |none=>rw[q]at h;cases h
 |some s0=>
  rw[q]at h;cases s0 with
  |io d=>cases h
  |no=>cases h;exact⟨rfl,_,rfl,λ_ z=>by cases z⟩
  |ex=>cases h;exact⟨rfl,_,rfl,λ_ z=>by cases z⟩
  |fz _=>cases h;exact⟨rfl,_,rfl,λ_ z=>by cases z⟩
  |own _=>cases h;exact⟨rfl,_,rfl,λ_ z=>by cases z⟩
  |ro _=>cases h;exact⟨rfl,_,rfl,λ_ z=>by cases z⟩
section
variable{F:Fr}{B H:Hp}{σ:St}{ρ ρ':Rho}{v:V}
theorem Rel.pJ(R:Rel F B H σ ρ)(rp:Rep B v d)(h:h9 ρ i (.fz d)=some ρ'):Rel F B H (σ.set i (some v)) ρ':=by
 obtain⟨rfl,s0,h0,nio⟩:=vA h;have hl:i<ρ.length:=(zac h0).1;have hls:i<σ.length:=R.len▸hl;have so:∀j,j≠i->(σ.set i (some v))[j]?=σ[j]?:=λj hj=>zaA λe=>hj e.symm
 refine⟨R.sub,R.sB,R.sH,R.nB,by rw[zaM,zaM];exact R.len,?_,?_,?_,?_,?_,R.cJ,(λj h=>by obtain⟨h1,h2⟩:=sW (by simp) h;rw[so j h2];exact R.exv j h1),R.nz⟩
 ·intro j s hs
  rcases get_set hs with⟨rfl,rfl,_⟩|⟨hj,hs⟩
  ·exact⟨v,zav hls,rp⟩
  ·exact(R.slot j s hs).at (so j hj)
 ·intro a b s t p h1 h2 h3 h4 h5 h6
  rcases get_set h1 with⟨rfl,rfl,_⟩|⟨ha,h1⟩
  ·cases h2
  ·rcases get_set h3 with⟨rfl,rfl,_⟩|⟨hb,h3⟩
   ·cases h4
   ·rw[so a ha]at h5;rw[so b hb]at h6;exact R.dist a b s t p h1 h2 h3 h4 h5 h6
 ·intro j c p h1 h2
  rcases get_set h1 with⟨rfl,e,_⟩|⟨hj,h1⟩
  ·cases e
  ·rw[so j hj]at h2;exact R.jW j c p h1 h2
 ·intro x hx
  obtain⟨h1,c,h2⟩:=R.fx x hx;have z:x.1≠i:=λz=>by rw[z,h0]at h2;cases h2;exact nio _ rfl
  exact⟨by rw[so _ z];exact h1,c,by rw[zaA λe=>z e.symm];exact h2⟩
 ·intro j c h1
  rcases get_set h1 with⟨rfl,e,_⟩|⟨hj,h1⟩
  ·cases e
  ·exact R.ioN j c h1
theorem Rel.AA(R:Rel F B H σ ρ)(vl:Val F B H σ ρ v (d,.new))(h:h9 ρ i (.own d)=some ρ'):Rel F B H (σ.set i (some v)) ρ':=by
 obtain⟨rfl,s0,h0,nio⟩:=vA h;obtain⟨p,rfl,hB,hF,ow,nn⟩:=vl;have hl:i<ρ.length:=(zac h0).1;have hls:i<σ.length:=R.len▸hl;have so:∀j,j≠i->(σ.set i (some (.ref p)))[j]?=σ[j]?:=λj hj=>zaA λe=>hj e.symm
 have si:(σ.set i (some (.ref p)))[i]?=some (some (.ref p)):=zav hls;refine⟨R.sub,R.sB,R.sH,R.nB,by rw[zaM,zaM];exact R.len,?_,?_,?_,?_,?_,R.cJ,(λj h=>by obtain⟨h1,h2⟩:=sW (by simp) h;rw[so j h2];exact R.exv j h1),R.nz⟩
 ·intro j s hs
  rcases get_set hs with⟨rfl,rfl,_⟩|⟨hj,hs⟩
  ·exact⟨p,si,hB,ow⟩
  ·exact(R.slot j s hs).at (so j hj)
 ·intro a b s t q h1 h2 h3 h4 h5 h6
  rcases get_set h1 with⟨rfl,rfl,_⟩|⟨ha,h1'⟩
  ·rcases get_set h3 with⟨rfl,rfl,_⟩|⟨hb,h3⟩
   ·rfl
   ·rw[si]at h5
    cases h5;rw[so b hb]at h6;exact absurd h6 (nn b t h3 h4)
  ·rcases get_set h3 with⟨rfl,rfl,_⟩|⟨hb,h3⟩
   ·rw[si]at h6
    cases h6;rw[so a ha]at h5;exact absurd h5 (nn a s h1' (Sl.m8 h2))
   ·rw[so a ha]at h5;rw[so b hb]at h6;exact R.dist a b s t q h1' h2 h3 h4 h5 h6
 ·intro j c q h1 h2
  rcases get_set h1 with⟨rfl,e,_⟩|⟨hj,h1⟩
  ·rw[si]at h2;cases h2;exact hF
  ·rw[so j hj]at h2;exact R.jW j c q h1 h2
 ·intro x hx
  obtain⟨h1,c,h2⟩:=R.fx x hx;have z:x.1≠i:=λz=>by rw[z,h0]at h2;cases h2;exact nio _ rfl
  exact⟨by rw[so _ z];exact h1,c,by rw[zaA λe=>z e.symm];exact h2⟩
 ·intro j c h1
  rcases get_set h1 with⟨rfl,e,_⟩|⟨hj,h1⟩
  ·cases e
  ·exact R.ioN j c h1
end
def sto(i:Nat)(x:RV×Rho):Option Rho:=match x.1.2 with
 | .fz=>h9 x.2 i (.fz x.1.1)
 | .new=>h9 x.2 i (.own x.1.1)
 | .at j=>if j=i then some x.2 else(jX x.1 x.2).bind λy=>h9 y.2 i (.fz y.1)
 | .ro=>none
def jr(i:Nat)(a:PM):SM:=fun ρ=>(a ρ).bind λx=>(sto i x).map .nx
theorem ia(ha:ME t a):MS (xm t (jR i)) (jr i a):=by
 intro F B H σ ρ o D R e q;obtain⟨x,e1,e⟩:=zaa e;obtain⟨ρ2,e2,e⟩:=zab e;cases e;refine ha F B H σ ρ x.1 x.2 _ R e1 λv B1 H1 E1 R1 V1 N1=>?_
 show D.nx (σ.set i (some v)) H1;obtain⟨⟨d,k⟩,ρ1⟩:=x;cases k with
 |fz=>exact q B1 H1 _ (R1.pJ V1 e2)
 |new=>exact q B1 H1 _ (R1.AA V1 e2)
 |ro=>cases e2
 | «at» j=>
  have e2':(if j=i then some ρ1 else(jX (d,.at j) ρ1).bind λy=>h9 y.2 i (.fz y.1))=some ρ2:=e2
  obtain⟨s,h1,h2,h3,h4⟩:=V1;have h4' : σ[j]?=some (some v):=h4
  by_cases z:j=i
  ·rw[if_pos z]at e2'
   cases e2';subst z;have : σ.set j (some v)=σ:=by
    apply List.ext_getElem?;intro k
    by_cases hk:k=j
    ·subst hk
     obtain⟨hl,_⟩:=zac h4';rw[zav hl,h4']
    ·rw[zaA λe=>hk e.symm]
   rw[this];exact q B1 H1 _ R1
  ·rw[if_neg z]at e2'
   obtain⟨y,e3,e4⟩:=zaa e2';obtain⟨B2,R2,rp,E2⟩:=R1.frz (v:=v) (r:=(d,.at j)) (show Fn B1 σ v (d,.at j)from h4') e3;exact q B2 H1 _ (R2.pJ rp e4)
def MM(i:Nat)(f:Int->Int->Int)(a:PM):SM:=fun ρ=>match ρ[i]? with
 |some (.fz (.int x))=>((sv a ρ).bind asI).bind λy=>(h9 y.2 i (.fz (.int (f x y.1)))).map .nx
 |_=>none
def MG(g:TG)(mg:D->Rho->Option Rho):Prop:=∀(F:Fr) (B H:Hp) (σ:St) (ρ:Rho) (v:V) (d:D) (ρ':Rho) (Q:St->Hp->Prop),Rel F B H σ ρ->Rep B v d->mg d ρ=some ρ'->(∀B' H' σ',Rel F B' H' σ' ρ'->aG B B'->Q σ' H')->g v σ H Q
def MGs(g:TGs)(mg:List D->Rho->Option Rho):Prop:=∀(F:Fr) (B H:Hp) (σ:St) (ρ:Rho) (vs:List V) (ds:List D) (ρ':Rho) (Q:St->Hp->Prop),Rel F B H σ ρ->aR B vs ds->mg ds ρ=some ρ'->(∀B' H' σ',Rel F B' H' σ' ρ'->aG B B'->Q σ' H')->g vs σ H Q
def mgN(i:Nat):D->Rho->Option Rho:=λd ρ=>h9 ρ i (.fz d)
theorem oR:MG (jR i) (mgN i):=λF B H σ ρ v d ρ' Q R rp e q=>q B H _ (R.pJ rp e) (aG.refl _)
def tf:List D->Rho->Option Rho:=λds ρ=>match ds with
 | []=>some ρ
 |_=>none
def kH(g:D->Rho->Option Rho)(gs:List D->Rho->Option Rho):List D->Rho->Option Rho:=λds ρ=>match ds with
 |d::ds=>(g d ρ).bind fun ρ1=>gs ds ρ1
 |_=>none
theorem Ft:MGs EL tf:=λF B H σ ρ vs ds ρ' Q R rp e q=>by
 cases rp with
 |nil=>cases e;exact⟨rfl,q B H σ R (aG.refl _)⟩
 |cons _ _=>cases e
theorem vB(h:MG g m)(hs:MGs gs ms):MGs (rl g gs) (kH m ms):=λF B H σ ρ vs ds ρ' Q R rp e q=>by
 cases rp with
 |nil=>cases e
 |cons r rs=>
  obtain⟨ρ1,e1,e2⟩:=zaa e;exact⟨_,_,rfl,h F B H σ ρ _ _ ρ1 _ R r e1 λB1 H1 σ1 R1 s1=>hs F B1 H1 σ1 ρ1 _ _ ρ' Q R1 (rs.mono s1) e2 λB2 H2 σ2 R2 s2=>q B2 H2 σ2 R2 (s1.trans s2)⟩
def mgT(n:Nat)(ms:List D->Rho->Option Rho):D->Rho->Option Rho:=λd ρ=>(asT d).bind λds=>if ds.length=n then ms ds ρ else none
def Lo(a:PM)(g:D->Rho->Option Rho):SM:=fun ρ=>(sv a ρ).bind λx=>(jX x.1 x.2).bind λy=>(g y.1 y.2).map .nx
def Lp(i:Nat)(a:PM):D->Rho->Option Rho:=λd ρ=>(qP ρ[i]?).bind λ_=>((sv a ρ).bind asI).bind λy=>(qP y.2[i]?).bind λds=>(ixN ds.length y.1).map λj=>putAt y.2 i (.list (ds.set j d))
def gC(c:Rho->Option (Bool×Rho))(b:SM):Nat->SM
 |0=>λ_=>none
 |n+1=>fun ρ=>(c ρ).bind λx=>if x.1=true then(b x.2).bind λo=>match o with
   | .nx ρ'=>gC c b n ρ'
   | .ct ρ'=>gC c b n ρ'
   | .bk ρ'=>some (.nx ρ')
   | .rt r ρ'=>some (.rt r ρ')
  else some (.nx x.2)
theorem CA(hc:MT tc c)(hb:MS tb b):MS (xn tc tb) (gC c b n):=by
 intro F B H σ ρ o D R e q;refine⟨λm σ H=>∃B ρ,Rel F B H σ ρ/\gC c b m ρ=some o,⟨n,B,ρ,R,e⟩,?_⟩
 rintro m σ1 H1 ⟨B1,ρ1,R1,e1⟩
 cases m with
 |zero=>cases e1
 |succ m=>
  obtain⟨x,e2,e3⟩:=zaa (show(c ρ1).bind _=some o from e1);refine hc F B1 H1 σ1 ρ1 x.1 x.2 _ R1 e2 λB2 H2 E2 R2=>?_
  by_cases h:x.1=true
  ·rw[if_pos h]at e3⊢
   obtain⟨w,e4,e5⟩:=zaa e3;refine⟨fun σ' H'=>∃B' ρ',Rel F B' H' σ' ρ'/\gC c b m ρ'=some o,fun σ' H' h'=>⟨m,Nat.lt_succ_self _,h'⟩,?_⟩
   refine hb F B2 H2 σ1 x.2 w _ R2 e4 ?_;cases w with
   |nx ρ'=>exact λB' H' σ' R'=>⟨B',ρ',R',e5⟩
   |ct ρ'=>exact λB' H' σ' R'=>⟨B',ρ',R',e5⟩
   |bk ρ'=>cases e5;exact q
   |rt r ρ'=>cases e5;exact q
  ·rw[if_neg h]at e3⊢
   cases e3;exact q B2 H2 σ1 R2
def forL(g:D->Rho->Option Rho)(b:SM):List D->SM
 | []=>fun ρ=>some (.nx ρ)
 |d::ds=>fun ρ=>(g d ρ).bind fun ρ1=>(b ρ1).bind λo=>match o with
   | .nx ρ'=>forL g b ds ρ'
   | .ct ρ'=>forL g b ds ρ'
   | .bk ρ'=>some (.nx ρ')
   | .rt r ρ'=>some (.rt r ρ')
def MP(it:Rho->Option (List D×Rho))(g:D->Rho->Option Rho)(b:SM):SM:=fun ρ=>(it ρ).bind λx=>forL g b x.1 x.2
section
variable{F:Fr}{B B1 H H1:Hp}{σ σ1:St}{ρ ρ1:Rho}
theorem Rel.up(R1:Rel F B1 H1 σ1 ρ1)(R:Rel ⟨B1,F.H,F.io,F.Z⟩ B H σ ρ):Rel F B H σ ρ :=
 ⟨R.sub,R1.sB.trans R.sB,R.sH,λq h z=>R.nB q h (R1.nB q h z),R.len,R.slot,R.dist,R.jW,R.fx,R.ioN,R.cJ,R.exv,R.nz⟩
theorem Rel.down(R1:Rel F B1 H1 σ1 ρ1):Rel ⟨B1,F.H,F.io,F.Z⟩ B1 H1 σ1 ρ1 :=
 ⟨R1.sub,aG.refl _,R1.sH,λq h z=>z,R1.len,R1.slot,R1.dist,R1.jW,R1.fx,R1.ioN,R1.cJ,R1.exv,R1.nz⟩
end
theorem k6.down{F:Fr}{B1 H1:Hp}{σ1:St}{ρ1:Rho}(R1:Rel F B1 H1 σ1 ρ1){D:Ends}{o:Out}(h:k6 F D o):k6 ⟨B1,F.H,F.io,F.Z⟩ D o:=by
 cases o with
 |nx ρ=>exact λB H σ R=>h B H σ (R1.up R)
 |bk ρ=>exact λB H σ R=>h B H σ (R1.up R)
 |ct ρ=>exact λB H σ R=>h B H σ (R1.up R)
 |rt r ρ=>exact λv B H σ R V=>h v B H σ (R1.up R) V
def Fu:Out->Option (D×Bool)
 | .rt (d,.fz) _=>some (d,false)
 | .rt (d,.new) _=>some (d,true)
 | .rt (_,.at i) ρ=>match ρ[i]? with
  |some (.own d)=>some (d,true)
  |_=>none
 | .nx _=>some (.none,false)
 |_=>none
def fnM(n k:Nat)(b:SM)(ds:List D):Option (D×Bool):=if ds.length=n then(b (ds.map .fz++List.replicate k .no)).bind Fu else none
theorem gD(hb:MS t b)(hN:N.length=n+k)(h:spM (fnM n k b) vs H Q E):t {nx:=λ_ H'=>Q .non H',rt:=Q} (L2.start N vs) H:=by
 obtain⟨B,ds,d,o,sub,tB,rp,e,q⟩:=h;unfold fnM at e;split at e
 case isFalse=>cases e
 rename_i hl
 obtain⟨w,e1,e2⟩:=zaa e;have hvl:vs.length=n:=rp.length.trans hl;have pK:∀(i:Nat) (s:Sl),(ds.map Sl.fz++List.replicate k .no)[i]?=some s->s.isRef=true->False:=λi s h1 h2=>by
  have:=zaj h1;rcases zae this with h|h
  ·obtain⟨c,_,rfl⟩:=List.mem_map.mp h;cases h2
  ·rw[zaG h]at h2;cases h2
 have ex0:∀i:Nat,(ds.map Sl.fz++List.replicate k .no)[i]?=some Sl.ex->False:=λi h1=>by
  have:=zaj h1;rcases zae this with h|h
  ·obtain⟨c,_,z⟩:=List.mem_map.mp h;cases z
  ·have:=zaG h;cases this
 have R:Rel ⟨B,H,[],λq=>H q≠none⟩ B H (L2.start N vs) (ds.map .fz++List.replicate k .no):=by
  refine⟨sub,aG.refl _,λ_ _ z _=>z,λ_ _ z=>z,?_,λi s hs=>?_,λi j s t p h1 h2=>(pK i s h1 (Sl.m8 h2)).elim,λi c p h1=>(pK i _ h1 rfl).elim,(λx hx=>by cases hx),λi c h1=>(pK i _ h1 rfl).elim,tB,(λi h1=>(ex0 i h1).elim),λq o u h z=>by rw[z]at h;cases h⟩
  ·simp[L2.start,hl,hvl,hN]
  ·by_cases hi:i<n
   ·rw[zax (by simpa[hl]using hi),zao]at hs
    obtain⟨c,h1,rfl⟩:=zab hs;obtain⟨x,h2,h3⟩:=rp.get i c h1;refine⟨x,?_,h3⟩;unfold L2.start;rw[zax (by simpa[hvl]using hi),zao,h2]
    rfl
   ·rw[zaN (by simpa[hl]using zba hi)]at hs
    have:=zaG (zaj hs);subst this;trivial
 refine hb _ B H _ _ w _ R e1 ?_;have post:∀{B' H':Hp} {σ':St} {ρ':Rho},Rel ⟨B,H,[],λq=>H q≠none⟩ B' H' σ' ρ'->aG H H'/\aG B B'/\aG B' H'/\(∀q,H q≠none->B q=none->B' q=none)/\(∀q xs,H' q=some (.tup xs)->B' q=some (.tup xs))/\∀q o u,H' q=some (.frz o u)->H q≠none:=λR'=>
  ⟨λq u z=>R'.sH q u z (λx hx=>by cases hx),R'.sB,R'.sub,R'.nB,R'.cJ,R'.nz⟩
 cases w with
 |nx ρ'=>
  cases e2;intro B' H' σ' R';obtain⟨p1,p2,p3,p4,p5,p6⟩:=post R';exact q _ B' H' ⟨p1,p2,p3,p4,p5,p6,.non⟩
 |bk ρ'=>cases e2
 |ct ρ'=>cases e2
 |rt r ρ'=>
  intro v B' H' σ' R' V';obtain⟨p1,p2,p3,p4,p5,p6⟩:=post R';obtain⟨c,kd⟩:=r;cases kd with
  |fz=>cases e2;exact q v B' H' ⟨p1,p2,p3,p4,p5,p6,V'⟩
  |new=>
   cases e2;obtain⟨p,rfl,h1,h2,h3,_⟩:=V';exact q _ B' H' ⟨p1,p2,p3,p4,p5,p6,⟨p,rfl,h2,h1,h3⟩⟩
  |ro=>cases e2
  | «at» i=>
   obtain⟨s,h1,h2,h3,h4⟩:=V';have e2':(match ρ'[i]? with
    |some (.own d)=>some (d,true)
    |_=>none)=some (d,o):=e2
   rw[h1]at e2';cases s with
   |own c'=>
    cases e2';obtain⟨p,g1,g2,g3⟩:=R'.slot i _ h1;have h4' : σ'[i]?=some (some v):=h4;rw[h4']at g1;cases g1;exact q _ B' H' ⟨p1,p2,p3,p4,p5,p6,⟨p,rfl,R'.jW i _ p h1 h4',g2,g3⟩⟩
   |_=>cases e2'
theorem eQ(h:spM (fnM n k b) vs H Q E):vs.length=n:=by
 obtain⟨B,ds,d,o,sub,tB,rp,e,q⟩:=h;unfold fnM at e;split at e
 ·rename_i hl;exact rp.length.trans hl
 ·cases e
end Mir
namespace Mir
open PySem L2 PySem.Spec PyProof.Rows
variable [Zc]
section
variable{X:Cx}
def Hu:R2:=λx y H Q=>∃l b xs zs,x=.ref l/\y=.ref b/\Rd H l (.lst xs)/\Rd H b (.lst zs)/\xs.length+zs.length<=sizeLine/\∀p,H p=none->Q (.ref p) (upd H p (.lst (xs++zs)))
theorem Fv:OpR X (binaryOp .Add) Hu:=by
 intro pins s σ H x y v u Q I rx ry h;obtain⟨l,b,xs,zs,rfl,rfl,hH,hB,hz,q⟩:=h;cases rx;cases ry;obtain⟨z,its,n,r,e⟩:=hH.ok I.hok;obtain⟨z2,its2,n2,r2,e2⟩:=hB.ok I.hok;have hl:=r.length;have hl2:=r2.length;refine PySem.P.add_list e e2 ?_ (by rw[zaK,zaK];omega)
 have ea:its.toArray++its2.toArray=(its++its2).toArray:=by simp
 rw[ea];exact⟨.ref _,_,I.K7 (t':=s.toks) (r.append r2) (by rw[zau];omega),rfl,q _ I.fresh⟩
def tj(K:zag):R2:=λx y H Q=>rI0 (λi j=>.int (i+j)) x y H Q\/Hu x y H Q\/(∃i j,x=.str i/\y=.str j/\i.length+j.length<=sizeLine/\Q (.str (i++j)) H)\/Hq K x y H Q
theorem zj:OpR X (binaryOp .Add) (tj X.K):=IS.or (Fv.or (xq.or EY))
end
theorem iB(h:∀Q:VK,Q (.int i) H->k Q):kY B H (.int i,false) k:=⟨_,.int i,h⟩
theorem d6(h:∀Q:VK,Q (.bl i) H->k Q):kY B H (.bool i,false) k:=⟨_,.bl i,h⟩
theorem Fw(h:∀Q:VK,Q (.str i) H->k Q):kY B H (.str i,false) k:=⟨_,.str i,h⟩
def ib:D->D->Option (D×Bool)
 | .int i,.int j=>some (.int (i+j),false)
 | .list a,.list b=>cIf (a.length+b.length<=sizeLine) (some (.list (a++b),true)) none
 | .str a,.str b=>cIf (a.length+b.length<=sizeLine) (some (.str (a++b),false)) none
 | .tuple (c::a),.tuple b=>cIf ((c::a).length+b.length<=sizeLine/\b≠[]) (some (.tuple ((c::a)++b),true)) none
 |_,_=>none
theorem j0{K:zag}:OpJ (tj K) ib:=by
 intro B H x y c d res s hx hy e;unfold ib at e;split at e
 ·cases e
  have h1:=hx.int;have h2:=hy.int;subst h1 h2
  exact iB λQ q=>.inl ⟨_,_,rfl,rfl,q⟩
 ·obtain⟨hz,e⟩:=cK e
  ·cases e
   obtain⟨p,xs,rfl,r1,rp1⟩:=hx.list s;obtain⟨p2,ys,rfl,r2,rp2⟩:=hy.list s;exact⟨xs++ys,rp1.append rp2,λQ q=>.inr (.inl ⟨_,_,_,_,rfl,rfl,r1,r2,by rw[rp1.length,rp2.length];exact hz,q⟩)⟩
 ·obtain⟨hz,e⟩:=cK e
  ·cases e
   have h1:=hx.str;have h2:=hy.str;subst h1 h2
   exact Fw λQ q=>.inr (.inr (.inl ⟨_,_,rfl,rfl,hz,q⟩))
 ·obtain⟨hz,e⟩:=cK e
  ·cases e
   obtain⟨p,xs,rfl,r1,rp1⟩:=hx.tuple s;obtain⟨p2,ys,rfl,r2,rp2⟩:=hy.tuple s;have hne:xs≠[]:=by intro z;subst z;cases rp1
   have MQ:ys≠[]:=by intro z;subst z;cases rp2;exact hz.2 rfl
   refine⟨xs++ys,rp1.append rp2,λQ q=>.inr (.inr (.inr ⟨_,_,xs,ys,rfl,rfl,.inl (.inl r1),.inl (.inl r2),?_⟩))⟩
   exact⟨hne,by rw[rp1.length,rp2.length];exact hz.1,λz=>absurd z MQ,λ_=>q⟩
 ·cases e
def gI(C:Int->Int->Prop)(f:Int->Int->Int):D->D->Option (D×Bool)
 | .int i,.int j=>cIf (C i j) (some (.int (f i j),false)) none
 |_,_=>none
theorem J_I:OpJ (rI C λi j=>.int (f i j)) (gI C f):=by
 intro B H x y c d res s hx hy e;unfold gI at e;split at e
 ·obtain⟨hc,e⟩:=cK e
  ·cases e
   have h1:=hx.int;have h2:=hy.int;subst h1 h2
   exact iB λQ q=>⟨_,_,rfl,rfl,hc,q⟩
 ·cases e
def gI0(f:Int->Int->Int):D->D->Option (D×Bool)
 | .int i,.int j=>some (.int (f i j),false)
 |_,_=>none
theorem CB:OpJ (rI0 λi j=>.int (f i j)) (gI0 f):=by
 intro B H x y c d res s hx hy e;unfold gI0 at e;split at e
 ·cases e
  have h1:=hx.int;have h2:=hy.int;subst h1 h2
  exact iB λQ q=>⟨_,_,rfl,rfl,q⟩
 ·cases e
def gB0(f:Int->Int->Bool):D->D->Option (D×Bool)
 | .int i,.int j=>some (.bool (f i j),false)
 |_,_=>none
theorem Fx:OpJ (rI0 λi j=>.bl (f i j)) (gB0 f):=by
 intro B H x y c d res s hx hy e;unfold gB0 at e;split at e
 ·cases e
  have h1:=hx.int;have h2:=hy.int;subst h1 h2
  exact d6 λQ q=>⟨_,_,rfl,rfl,q⟩
 ·cases e
abbrev xl:=gI0 λi j=>i-j
abbrev gLt:=gB0 λi j=>decide (i<j)
abbrev gGt:=gB0 λi j=>decide (j<i)
abbrev gGe:=gB0 λi j=>decide (j<=i)
abbrev iN:=gI ER λi j=>i/j
abbrev eI:=gI (λ_ j=>0<j) λi j=>i%j
abbrev AB:=gI IM λi j=>i^j.toNat
section
variable{X:Cx}
def zk:R2:=λx y H Q=>rI IntMulOk (λi j=>.int (i*j)) x y H Q\/K9 x y H Q
theorem zl:OpR X (binaryOp .Mult) zk:=Fb.or Je
end
def xA:D->D->Option (D×Bool)
 | .int i,.int j=>cIf (IntMulOk i j) (some (.int (i*j),false)) none
 |_,_=>none
theorem Hv:OpJ zk xA:=by
 intro B H x y c d res s hx hy e;unfold xA at e;split at e
 ·obtain⟨hc,e⟩:=cK e
  ·cases e
   have h1:=hx.int;have h2:=hy.int;subst h1 h2
   exact iB λQ q=>.inl ⟨_,_,rfl,rfl,hc,q⟩
 ·cases e
mutual
theorem Rep.data{K:zag}{H:Hp}:∀{v:V} {d:D},Rep H v d->d.canLay0=true->gm K H v d
 |_,_,.non,_=>.non
 |_,_,.bl b,_=>.bl b
 |_,_,.int i,_=>.int i
 |_,_,.str x,_=>.str x
 |_,_,.lst h r,e=>.lst (fw h) (aR.data r (by simpa[PyData.canLay0]using e))
 |_,_,.tup h r,e=>.tup (.inl (.inl h)) (aR.data r (by simpa[PyData.canLay0]using e))
 |_,_,.dct _ _,e=>by simp[PyData.canLay0]at e
theorem aR.data{K:zag}{H:Hp}:∀{v:List V} {d:List D},aR H v d->PyData.canLayAll0 d=true->h8 K H v d
 |_,_,.nil,_=>.nil
 |_,_,.cons a b,e=>by
  simp only[PyData.canLayAll0,Bool.and_eq_true]at e;exact .cons (Rep.data a e.1) (aR.data b e.2)
end
def gEq:D->D->Option (D×Bool):=λc d=>if SeqAt.shaped c=true/\SeqAt.shaped d=true then some (.bool (PyData.eqv c d),false)else none
def gNe:D->D->Option (D×Bool):=λc d=>if SeqAt.shaped c=true/\SeqAt.shaped d=true then some (.bool (!PyData.eqv c d),false)else none
theorem vC{K:zag}:OpJ (Jm K) gEq:=by
 intro B H x y c d res s hx hy e;unfold gEq at e;split at e
 ·rename_i h
  cases e;exact d6 λQ q=>⟨_,_,(hx.rep s).data (SeqAt.canLay_of_shaped h.1),(hy.rep s).data (SeqAt.canLay_of_shaped h.2),h.1,h.2,q⟩
 ·cases e
theorem Lq{K:zag}:OpJ (Jn K) gNe:=by
 intro B H x y c d res s hx hy e;unfold gNe at e;split at e
 ·rename_i h
  cases e;exact d6 λQ q=>⟨_,_,(hx.rep s).data (SeqAt.canLay_of_shaped h.1),(hy.rep s).data (SeqAt.canLay_of_shaped h.2),h.1,h.2,q⟩
 ·cases e
def isNone:D->Bool
 | .none=>true
 |_=>false
theorem Rep.isNone(h:Rep H v d):decide (v=.non)=Mir.isNone d:=by cases h<;>rfl
def gIs:D->D->Option (D×Bool)
 |c,.none=>some (.bool (isNone c),false)
 |_,_=>none
def js:D->D->Option (D×Bool)
 |c,.none=>some (.bool (!isNone c),false)
 |_,_=>none
theorem Fy:OpJ (λx y H Q=>y=.non/\Q (.bl (decide (x=.non))) H) gIs:=by
 intro B H x y c d res s hx hy e;unfold gIs at e;split at e
 ·cases e
  exact d6 λQ q=>⟨hy.none,by rw[(hx.rep s).isNone];exact q⟩
 ·cases e
theorem tm:OpJ (λx y H Q=>y=.non/\Q (.bl (!decide (x=.non))) H) js:=by
 intro B H x y c d res s hx hy e;unfold js at e;split at e
 ·cases e
  exact d6 λQ q=>⟨hy.none,by rw[(hx.rep s).isNone];exact q⟩
 ·cases e
def AD:D->Option (D×Bool)
 | .int i=>some (.int (-i),false)
 |_=>none
theorem Lr:UnJ (rU λi=>.int (-i)) AD:=by
 intro B H x c res s hx e;unfold AD at e;split at e
 ·cases e
  have h1:=hx.int;subst h1
  exact iB λQ q=>⟨_,rfl,q⟩
 ·cases e
def gIx:D->D->Option (D×Bool)
 | .list ds,.int i=>(atI ds i).map λd=>(d,false)
 | .tuple ds,.int i=>(atI ds i).map λd=>(d,false)
 |_,_=>none
theorem aR.atI(r:aR H vs ds)(h:L2.atI ds i=some d):∃v,L2.atI vs i=some v/\Rep H v d:=by
 unfold L2.atI at h⊢;rw[r.length];obtain⟨j,h1,h2⟩:=zaa h;obtain⟨v,h3,h4⟩:=r.get j d h2;exact⟨v,by rw[h1];exact h3,h4⟩
theorem b7{K:zag}:OpJ (rIx K) gIx:=by
 intro B H x y c d res s hx hy e;unfold gIx at e;split at e
 ·obtain⟨w,h1,h2⟩:=zab e
  cases h2;obtain⟨p,xs,rfl,r1,rp1⟩:=hx.list s;have h2:=hy.int;subst h2
  obtain⟨v,h3,h4⟩:=rp1.atI h1;exact⟨v,h4,λQ q=>.inl ⟨_,_,_,_,rfl,rfl,fw r1,h3,q⟩⟩
 ·obtain⟨w,h1,h2⟩:=zab e
  cases h2;obtain⟨p,xs,rfl,r1,rp1⟩:=hx.tuple s;have h2:=hy.int;subst h2
  obtain⟨v,h3,h4⟩:=rp1.atI h1;exact⟨v,h4,λQ q=>.inr (.inl ⟨_,_,_,_,rfl,rfl,.inl (.inl r1),h3,q⟩)⟩
 ·cases e
def cutD(ds:List D)(lo hi:Option Int):List D:=(ds.drop (HT.sIx ds.length 0 lo)).take (HT.sIx ds.length ds.length hi-HT.sIx ds.length 0 lo)
theorem aR.cut(r:aR H vs ds)(lo hi:Option Int):aR H (Au vs lo hi) (cutD ds lo hi):=by
 unfold Au cutD;rw[r.length];exact(r.drop _).take _
def gSl:D->Option Int->Option Int->Option (D×Bool)
 | .list ds,lo,hi=>some (.list (cutD ds lo hi),true)
 |_,_,_=>none
theorem MR{K:zag}:SlJ (Jc K) gSl:=by
 intro B H x c l u res s hx e;unfold gSl at e;split at e
 ·cases e
  obtain⟨p,xs,rfl,r1,rp1⟩:=hx.list s;exact⟨_,rp1.cut _ _,λQ q=>⟨_,_,rfl,fw r1,q⟩⟩
 ·cases e
def iO:List D->Option (D×Bool)
 | [.list ds]=>some (.int ds.length,false)
 | [.tuple ds]=>some (.int ds.length,false)
 | [.str x]=>cIf (x.length<=sizeLine) (some (.int x.length,false)) none
 |_=>none
theorem gE(h:Views B H vs [d]):∃v,vs=[v]/\View B H v d:=by
 match vs,h with
 | [v],⟨h,_⟩=>exact⟨v,rfl,h⟩
theorem ma{K:zag}:kZ (Fc K) iO:=by
 intro B H vs ds res s h e;unfold iO at e;split at e
 ·cases e
  obtain⟨v,rfl,hh⟩:=gE h;obtain⟨p,xs,rfl,r1,rp1⟩:=hh.list s;exact iB λQ q=>.inl ⟨_,_,rfl,.inl (fw r1),by rw[rp1.length];exact q⟩
 ·cases e
  obtain⟨v,rfl,hh⟩:=gE h;obtain⟨p,xs,rfl,r1,rp1⟩:=hh.tuple s;exact iB λQ q=>.inl ⟨_,_,rfl,.inr (.inl (.inl r1)),by rw[rp1.length];exact q⟩
 ·obtain⟨hz,e⟩:=cK e
  ·cases e
   obtain⟨v,rfl,hh⟩:=gE h;have:=hh.str;subst this
   exact iB λQ q=>.inr ⟨_,rfl,hz,q⟩
 ·cases e
def MU:List D->Option (D×Bool)
 | [.int i,.int j]=>some (.int (if j>i then j else i),false)
 |_=>none
def MV:List D->Option (D×Bool)
 | [.int i,.int j]=>some (.int (if j<i then j else i),false)
 |_=>none
def MW:List D->Option (D×Bool)
 | [.int i]=>some (.int (if i<0 then-i else i),false)
 |_=>none
def MX:List D->Option (D×Bool)
 | [.int i]=>some (.int i,false)
 | [.bool b]=>some (.int (if b then 1 else 0),false)
 |_=>none
def boolsOf:List D->Option (List Bool)
 | []=>some []
 | .bool i::ds=>(boolsOf ds).map (i::·)
 |_=>none
theorem aR.bools:∀{vs:List V} {ds:List D} {ns:List Bool},aR H vs ds->boolsOf ds=some ns->vs=ns.map V.bl
 |_,_,_,.nil,e=>by cases e;rfl
 |_,_,_,.cons (d:=d) a b,e=>by
  cases d with
  |bool i=>
   obtain⟨ms,h1,h2⟩:=zab (show(boolsOf _).map _=some _ from e);cases h2;cases a;rw[zaz,aR.bools b h1]
  |_=>cases e
def Fz:List D->Option (D×Bool)
 | [.list ds]=>(boolsOf ds).map λns=>(.bool (ns.all id),false)
 |_=>none
def FA:List D->Option (D×Bool)
 | [.list ds]=>(boolsOf ds).map λns=>(.bool (ns.any id),false)
 |_=>none
theorem Hw{K:zag}:kZ (Jk K) Fz:=by
 intro B H vs ds res s h e;unfold Fz at e;split at e
 ·obtain⟨ns,h1,h2⟩:=zab e
  cases h2;obtain⟨v,rfl,hh⟩:=gE h;obtain⟨p,xs,rfl,r1,rp1⟩:=hh.list s;have:=rp1.bools h1;subst this
  exact d6 λQ q=>⟨_,_,rfl,fw r1,q⟩
 ·cases e
theorem Ls{K:zag}:kZ (Jl K) FA:=by
 intro B H vs ds res s h e;unfold FA at e;split at e
 ·obtain⟨ns,h1,h2⟩:=zab e
  cases h2;obtain⟨v,rfl,hh⟩:=gE h;obtain⟨p,xs,rfl,r1,rp1⟩:=hh.list s;have:=rp1.bools h1;subst this
  exact d6 λQ q=>⟨_,_,rfl,fw r1,q⟩
 ·cases e
def vD:List D->Option (D×Bool)
 | [.list ds]=>some (.list ds,true)
 | [.tuple ds]=>some (.list ds,true)
 |_=>none
theorem CC{K:zag}:kZ (λxs H Q=>∃p ys,xs=[.ref p]/\(SqL K H p ys\/SqT K H p ys)/\∀l,H l=none->Q (.ref l) (upd H l (.lst ys))) vD:=by
 intro B H vs ds res s h e;unfold vD at e;split at e
 ·cases e
  obtain⟨v,rfl,hh⟩:=gE h;obtain⟨p,xs,rfl,r1,rp1⟩:=hh.list s;exact⟨xs,rp1,λQ q=>⟨_,_,rfl,.inl (fw r1),q⟩⟩
 ·cases e
  obtain⟨v,rfl,hh⟩:=gE h;obtain⟨p,xs,rfl,r1,rp1⟩:=hh.tuple s;exact⟨xs,rp1,λQ q=>⟨_,_,rfl,.inr (.inl (.inl r1)),q⟩⟩
 ·cases e
def tyD:D->String
 | .none=>"NoneType"
 | .bool _=>"bool"
 | .int _=>"int"
 | .str _=>"str"
 | .list _=>"list"
 | .tuple _=>"tuple"
 | .dict _=>"?"
theorem Rep.ty(h:Rep H v d)(hd:tyD d≠"?"):tyN H v=tyD d:=by
 cases h with
 |non=>rfl
 |bl _=>rfl
 |int _=>rfl
 |str _=>rfl
 |lst h _=>
  rcases h with h|⟨o,h⟩
  ·unfold tyN;simp only[h];rfl
  ·unfold tyN;simp only[h];rfl
 |tup h _=>unfold tyN;simp only[h];rfl
 |dct _ _=>exact absurd rfl hd
def ng(n:String):D->Option (D×Bool):=λd=>if tyD d≠"?"/\n∈eA then some (.bool (pE (tyD d) n),false)else none
def MY(n:String)(a:PM):PM:=mUn (ng n) a
def pL:D->Bool
 | .none=>true
 | .bool _=>true
 | .int _=>true
 | .str _=>true
 |_=>false
def me:List D->List D->Option (List D×D):=λds as=>match as with
 | [d]=>cIf (ds.length<sizeLine) (some (ds++[d],.none)) none
 |_=>none
theorem CD:Ll l4 me:=by
 intro B H p xs ds vs as w hp rx s rv e;unfold me at e;split at e
 ·obtain⟨hz,e⟩:=cK e
  ·cases e
   cases rv with
   |cons a b=>
    cases b;exact⟨_,_,rx.append (.cons a .nil),.non,λQ q=>⟨_,_,_,rfl,rfl,hp,by rw[rx.length];exact hz,q⟩⟩
 ·cases e
def MZ:List D->List D->Option (List D×D):=λds as=>match as with
 | []=>(ds[ds.length-1]?).map λd=>(ds.dropLast,d)
 |_=>none
def Jx:List D->List D->Option (List D×D):=λds as=>match as with
 | []=>some ([],.none)
 |_=>none
end Mir
namespace Mir
open PySem L2 PySem.Spec PyProof.Rows
variable [Zc]
section
variable{X:Cx}{K:zag}
theorem f6(h:X.K=K):OpR X (binaryOp .Add) (tj K):=h▸zj
theorem j1(h:X.K=K)(hu:X.A.units+64<cLine):OpR X (compareOp .Eq) (Jm K):=h▸Jo hu
theorem CG(h:X.K=K)(hu:X.A.units+64<cLine):OpR X (compareOp .NotEq) (Jn K):=h▸Jp hu
theorem aB(h:X.K=K):IxR X (rIx K):=h▸Jb
theorem CH(h:X.K=K):SlR X (Jc K):=h▸E8
theorem dw(h:X.K=K):dZ X (.builtin "len") (Fc K):=h▸Ax
theorem rK(h:X.K=K)(hc:X.calm=true):dZ X (.builtin "all") (Jk K):=h▸Cg hc
theorem AE(h:X.K=K)(hc:X.calm=true):dZ X (.builtin "any") (Jl K):=h▸Ci hc
theorem pM(h:X.K=K):dZ X (.type "list") (λxs H Q=>∃p ys,xs=[.ref p]/\(SqL K H p ys\/SqT K H p ys)/\∀l,H l=none->Q (.ref l) (upd H l (.lst ys))):=h▸sT
variable{tg l o e:Expr}{es:List Expr}{tl to:TE}{t:TA}{name:Str}{apos cpos:Pos}{T id:String}{r:V->List V->Hp->VK->Prop}
theorem j2(h:X.K=K)(hl:PE X l tl):PI X tg l (ve K tl):=h▸yY hl
theorem zm(h:X.K=K)(hl:PE X l tl):PI X tg l (EO K tl):=h▸IJ hl
theorem iP(h:X.K=K)(pa:PlainAttrs T)(slot:Slot T name id)(hty:typeOf (.builtin id)=pure (.type "method_descriptor"))(hm:MtR X id r)(ho:PE X o to)(ha:PA X (e::es) t)
  (hbase:attributeBase o name X.env (eval o X.env)=eval o X.env:=by rfl)
  (hfew:((backTo cpos (starEach (e::es) X.env)).all (λx=>!x.1)&&(backToKw cpos (keywordEach [] X.env)).all (λx=>x.1.isSome)
   &&decide ((e::es).length+([]:List Keyword).length+(if([]:List Keyword).isEmpty then 0 else 1)<30))=true:=by rfl)
  (hline:(apos.endLine==cpos.line)=true:=by rfl) (hs:starEach (e::es) X.env=(false,eval e X.env)::starEach es X.env:=by rfl) (hplain:(backTo cpos (starEach es X.env)).any (·.1)=false:=by rfl) :
  PE X (.Call (.Attribute o name apos) (e::es) [] cpos) (tBM K T r to t):=h▸K6 pa slot hty hm ho ha hbase hfew hline hs hplain
end
theorem CI(J:OpJ r g)(J':OpJ r' g')(ha:ME ta a)(hb:ME tb b)(hc:ME tc c)(hr:∀x y H Q Q',(∀v H,Q v H->Q' v H)->r x y H Q->r x y H Q') :
  ME (B6 r r' ta tb tc) (sX g g' a b c):=by
 intro F B H σ ρ r0 ρ' Q R e q;obtain⟨x,e1,e⟩:=zaa e;obtain⟨y,e2,e⟩:=zaa e;obtain⟨s1,e3,e⟩:=zaa e;obtain⟨res,e4,e⟩:=zaa e;refine ha.sv F B H σ ρ x.1 x.2 _ R e1 λv B1 H1 E1 R1 V1 N1=>?_
 refine hb.sv F B1 H1 σ x.2 y.1 y.2 _ R1 e2 λu B2 H2 E2 R2 V2 N2=>?_
 obtain⟨V3,n3⟩:=V1.next E2 R2 (kG e1) e3;have J1:=J B2 H2 v u s1.1 y.1.1 res R2.sub (V3.view R2) (V2.view R2) e4;split at e
 ·rename_i heq
  obtain⟨w,rw',hk⟩:=J1;cases rw';refine hk _ ⟨true,rfl,?_⟩;obtain⟨z,e5,e⟩:=zaa e;obtain⟨s2,e6,e⟩:=zaa e;obtain⟨res',e7,e⟩:=zab e;cases e;refine My ?_;refine hc.sv F B2 H2 σ y.2 z.1 z.2 _ R2 e5 λt B3 H3 E3 R3 V4 N4=>?_
  obtain⟨V5,n5⟩:=V2.next E3 R3 (kG e2) e6;exact fv R3 (J' B3 H3 u t s2.1 z.1.1 res' R3.sub (V5.view R3) (V4.view R3) e7) λw B4 H4 E4 R4 V6 N6=>q w B4 H4 ((E1.trans (E2.trans E3)).trans E4) R4 V6 λp z1 z2=>(E1.trans (E2.trans E3)).live p (N6 p z1 z2)
 ·rename_i heq
  obtain⟨w,rw',hk⟩:=J1;cases rw';cases e;exact hk _ ⟨false,rfl,Mw (q _ B2 H2 (E1.trans E2) R2 (.bl false) λp z=>by cases z)⟩
 ·cases e
def oS(K:zag):Bool:=K.all λp=>match p.2.cls with
 | .type n=>n !="list"
 |_=>true
theorem jV{α:Type}:∀{l:List (Addr×α)} {a:Addr} {o : α},l.lookup a=some o->(a,o)∈l
 |(b,c)::l,a,o,h=>by
  rw[za8]at h
  by_cases z:a=b
  ·subst z
   rw[beq_self_eq_true]at h;cases h;exact zas
  ·rw[beq_eq_false_iff_ne.mpr z]at h
   exact zak _ (jV h)
theorem Lu{K:zag}(h:oS K=true){H:Hp}{a:Addr}{xs:List V}(s:SqL K H a xs):Rd H a (.lst xs):=by
 rcases s with s|⟨o,its,n,hk,hc,_⟩
 ·exact s
 ·have:=List.all_eq_true.mp h _ (jV hk)
  dsimp only at this;rw[hc]at this;simp at this
theorem rM:∀ns:List Int,aR H (ns.map V.int) (ns.map PyData.int)
 | []=>.nil
 |n::ns=>.cons (.int n) (rM ns)
theorem Jy{K:zag}(h:oS K=true){f:List D->Option (D×Bool)}(T:∀ns:List Int,ns.length<=63->(∀k∈ns,Builtin.Int.intBits k<=1048576)->f [.list (ns.map .int)]=some (.bool true,false))
  (vs:List V) (H:Hp) (Q:VK) (E:XK) (s:Cj K vs H Q E):spM f vs H Q E:=by
 obtain⟨a,ns,rfl,hS,hl,hb,q⟩:=s;refine⟨H,_,_,_,aG.refl _,λ_ _ z=>z,.cons (.lst (Lu h hS) (rM ns)) .nil,T ns hl hb,λv B' H' P=>?_⟩
 have pv:Rep B' v (.bool true):=P.val;cases pv;exact q _
end Mir
namespace Mir
open PySem L2
variable [Zc]
abbrev dI(l:List Int):D:=.list (l.map .int)
theorem Lv(i j:Int):(i==j)=decide (i=j):=by by_cases h:i=j<;>simp[h]
theorem zo(i j:Int):gEq (.int i) (.int j)=some (.bool (decide (i=j)),false):=by
 unfold gEq;rw[if_pos ⟨rfl,rfl⟩];simp only[PyData.eqv,Lv]
theorem FC(i j:Int):gNe (.int i) (.int j)=some (.bool (!decide (i=j)),false):=by
 unfold gNe;rw[if_pos ⟨rfl,rfl⟩];simp only[PyData.eqv,Lv]
theorem CJ(i j:Bool):gEq (.bool i) (.bool j)=some (.bool (i==j),false):=by
 unfold gEq;rw[if_pos ⟨rfl,rfl⟩];simp only[PyData.eqv]
theorem CK(i j:Bool):gNe (.bool i) (.bool j)=some (.bool (!(i==j)),false):=by
 unfold gNe;rw[if_pos ⟨rfl,rfl⟩];simp only[PyData.eqv]
theorem n9:∀l:List Int,PyData.canLayAll0 (l.map .int)=true
 | []=>rfl
 |_::l=>by simp only[List.map_cons,PyData.canLayAll0,PyData.canLay0,n9 l,Bool.and_self]
theorem xB(l:List Int):(dI l).depth<=2:=by
 have h:∀l:List Int,PyData.depthAll (l.map .int)<=1:=by
  intro l
  induction l with
  |nil=>simp[PyData.depthAll]
  |cons a l ih=>simp only[List.map_cons,PyData.depthAll,PyData.depth];omega
 have:=h l;simp only[dI,PyData.depth];omega
theorem shaped_ints(l:List Int):SeqAt.shaped (dI l)=true:=by
 unfold SeqAt.shaped;have h:=xB l;rw[zaH (by omega),Bool.and_true]
 simp only[dI,PyData.canLay0,n9]
theorem oa:∀a b:List Int,PyData.eqvAll (a.map .int) (b.map .int)=decide (a=b)
 | [],[]=>by simp[PyData.eqvAll]
 | [],_::_=>by simp[PyData.eqvAll]
 |_::_,[]=>by simp[PyData.eqvAll]
 |x::a,y::b=>by
  simp only[List.map_cons,PyData.eqvAll,PyData.eqv,oa a b]
  by_cases h:x=y<;>by_cases g:a=b<;>simp[h,g]
theorem vE(a b:List Int):PyData.eqv (dI a) (dI b)=decide (a=b):=by simp only[dI,PyData.eqv,oa]
theorem CL(a b:List Int):gEq (dI a) (dI b)=some (.bool (decide (a=b)),false):=by
 unfold gEq;rw[if_pos ⟨shaped_ints a,shaped_ints b⟩,vE]
theorem CM(a b:List Int):gNe (dI a) (dI b)=some (.bool (!decide (a=b)),false):=by
 unfold gNe;rw[if_pos ⟨shaped_ints a,shaped_ints b⟩,vE]
theorem vF(i:Int):ng "int" (.int i)=some (.bool true,false):=by simp[ng,tyD,eA,pE]
theorem tq(i:Int):ng "bool" (.int i)=some (.bool false,false):=by simp[ng,tyD,eA,pE]
theorem qQ(i:List D):ng "list" (.list i)=some (.bool true,false):=by simp[ng,tyD,eA,pE]
theorem oH(i:List D):ng "tuple" (.tuple i)=some (.bool true,false):=by simp[ng,tyD,eA,pE]
theorem y0(xs:List α)(i:Nat):atI xs (i:Int)=xs[i]?:=by
 unfold atI ixN;rw[if_pos (by omega)]
 split
 ·simp
 ·rename_i h
  rw[Option.bind_none,List.getElem?_eq_none (by omega)]
theorem vi(xs:List α):atI xs (-1)=xs.getLast?:=by
 unfold atI ixN;rw[if_neg (by omega)]
 cases xs with
 |nil=>simp
 |cons a l=>
  rw[if_pos (by simp only[List.length_cons];omega),zai,List.getLast?_eq_getElem?]
  congr 1
  simp only[List.length_cons];omega
theorem FD(f : α->β)(xs:List α)(i:Int):atI (xs.map f) i=(atI xs i).map f:=by
 simp only[atI,List.length_map,List.getElem?_map];cases ixN xs.length i with
 |none=>rfl
 |some j=>simp only[Option.bind_some]
theorem CN(h1:c ρ=some (true,ρ1))(h2:b ρ1=some (.nx ρ2))(h3:gC c b n ρ2=o):gC c b (n+1) ρ=o:=by
 unfold gC;simp only[h1,h2,Option.bind_some,if_true,h3]
theorem AF(h1:c ρ=some (false,ρ1)):gC c b (n+1) ρ=some (.nx ρ1):=by
 unfold gC;simp only[h1,Option.bind_some,Bool.false_eq_true,if_false]
theorem AG(i:Int):cI (.int i) false=true:=rfl
theorem xD(i:Bool):cI (.bool i) false=true:=rfl
theorem AH(i:Str):cI (.str i) false=true:=rfl
theorem xE:cI .none false=true:=rfl
theorem xF(l:List D):cI (.list l) false=false:=rfl
theorem AI(l:List D):cI (.tuple l) false=a6 l:=by simp only[cI,dU]
theorem AJ(l:List D):cI (.list l) true=a6 l:=rfl
theorem pN:a6 []=true:=by simp only[a6]
theorem pP(i:Int)(l:List D):a6 (.int i::l)=a6 l:=by simp only[a6,dU,Bool.true_and]
theorem vG(i:Bool)(l:List D):a6 (.bool i::l)=a6 l:=by simp only[a6,dU,Bool.true_and]
theorem vH(i l:List D):a6 (.list i::l)=false:=by simp only[a6,dU,Bool.false_and]
theorem og:∀l:List Int,a6 (l.map .int)=true
 | []=>pN
 |i::l=>by rw[zaz,pP,og l]
theorem Jz(d:D):jm (d,false)=(d,.fz):=rfl
theorem JA(l:List D):jm (.list l,true)=(.list l,.new):=rfl
theorem JB(l:List D):jm (.tuple l,true)=(.tuple l,.fz):=rfl
theorem M5(d:D):kO d false=(d,.fz):=rfl
theorem M6(d:D):kO d true=(d,.new):=rfl
theorem dJ(h1:a ρ=some (.nx ρ1))(h2:b ρ1=o):gM a b ρ=o:=by
 unfold gM;simp only[h1,Option.bind_some,h2]
theorem tw(h1:a ρ=some (.rt r ρ1)):gM a b ρ=some (.rt r ρ1):=by
 unfold gM;simp only[h1,Option.bind_some]
theorem d4(h0:ds.length=n)(h1:b (ds.map .fz++List.replicate k .no)=some o)(h2:Fu o=some w):fnM n k b ds=some w:=by
 unfold fnM;rw[if_pos h0,h1,zai,h2]
theorem b8(h1:m ρ=some (rs,ρ1))(h2:f (rs.map (·.1))=some (d,o))(h3:cI d o=true):cb f m ρ=some (kO d o,ρ1):=by
 unfold cb;rw[h1,zai];dsimp only;rw[h2,zai,if_pos h3]
theorem fy(h:a ρ=some (r,ρ1)):jq a ρ=some (.rt r ρ1):=by
 unfold jq;rw[h,zaT]
end Mir
namespace Mir
open PySem L2
variable [Zc]
def SF(s:Sl):Prop:=s=.no\/∃d,s=.fz d
theorem FE(h:k<n):ixN n (k:Int)=some k:=by
 unfold ixN;rw[if_pos (by omega),if_pos (by omega),Int.toNat_natCast]
theorem pQ(h:n<=100000):n<=sizeLine:=zaX h (by decide)
theorem pR(h:n<=100000):n<sizeLine:=Nat.lt_of_le_of_lt h (by decide)
end Mir
namespace Mir
open PySem L2 PySem.Spec PyProof.Rows
variable [Zc]
end Mir
namespace Mir
open PySem L2
variable [Zc]
def inD(x:D)(ds:List D):Bool:=ds.any λd=>PyData.eqv d x
end Mir
namespace Mir
open PySem L2
variable [Zc]
section
variable{a b:PM}{ρ ρ1 ρ2 ρ3:Rho}{x y d:D}{r:RV}{res:D×Bool}
theorem jt(h:a ρ=some ((d,.new),ρ1)):sv a ρ=some ((d,.fz),ρ1):=by unfold sv;rw[h]
theorem aj(h:a ρ=some ((d,.fz),ρ1)):sv a ρ=some ((d,.fz),ρ1):=by unfold sv;rw[h]
theorem pT(h:a ρ=some ((d,.at i),ρ1)):sv a ρ=some ((d,.at i),ρ1):=by unfold sv;rw[h]
theorem bD(h1:sv a ρ=some ((x,.fz),ρ1))(h2:sv b ρ1=some (r,ρ2))(h3:g x r.1=some res):mOp g a b ρ=some (jm res,ρ2):=by
 unfold mOp;rw[h1,zai];dsimp only;rw[h2,zai];dsimp only[lA,Option.bind_some];rw[h3,zaT]
theorem Lw(h1:sv a ρ=some ((x,.at i),ρ1))(h2:sv b ρ1=some (r,ρ2))(h4 : ρ2[i]?=some (.own y))(h3:g y r.1=some res):mOp g a b ρ=some (jm res,ρ2):=by
 unfold mOp;rw[h1,zai];dsimp only;rw[h2,zai];dsimp only[lA];rw[h4];dsimp only[Option.bind_some];rw[h3,zaT]
theorem aJ{m:Rho->Option (List RV×Rho)}{rs:List RV}(h1:sv a ρ=some ((x,.fz),ρ1))(h2:m ρ1=some (rs,ρ2)):aF a m ρ=some ((x,.fz)::rs,ρ2):=by
 unfold aF;rw[h1,zai];dsimp only;rw[h2,zai];rfl
theorem FG{m:Rho->Option (List RV×Rho)}{rs:List RV}{i:Nat}(h1:sv a ρ=some ((x,.at i),ρ1))(h2:m ρ1=some (rs,ρ2))(h4 : ρ2[i]?=some (.own y)):aF a m ρ=some ((y,.at i)::rs,ρ2):=by
 unfold aF;rw[h1,zai];dsimp only;rw[h2,zai];dsimp only[lA];rw[h4];rfl
theorem a8:a9 ρ=some ([],ρ):=rfl
theorem az(h : ρ[i]?=some (.fz d)):ai i ρ=some ((d,.fz),ρ):=by unfold ai;rw[h]
theorem ju(h : ρ[i]?=some (.own d)):ai i ρ=some ((d,.at i),ρ):=by unfold ai;rw[h]
theorem d7(h1:m ρ=some (rs,ρ1))(h2:g (rs.map (·.1))=some res):mCB g m ρ=some (jm res,ρ1):=by
 unfold mCB;rw[h1,zai];dsimp only;rw[h2,zaT]
theorem pU(h1:a ρ=some ((d,.fz),ρ1))(h2:h9 ρ1 i (.fz d)=some ρ2):jr i a ρ=some (.nx ρ2):=by
 unfold jr;rw[h1,zai];dsimp only[sto];rw[h2,zaT]
theorem jv(h1:a ρ=some ((d,.new),ρ1))(h2:h9 ρ1 i (.own d)=some ρ2):jr i a ρ=some (.nx ρ2):=by
 unfold jr;rw[h1,zai];dsimp only[sto];rw[h2,zaT]
theorem AK(h1:c ρ=some (true,ρ1))(h2:s ρ1=o):lC c s t ρ=o:=by
 unfold lC;rw[h1,zai];dsimp only;rw[if_pos rfl,h2]
theorem pV(h1:c ρ=some (false,ρ1))(h2:t ρ1=o):lC c s t ρ=o:=by
 unfold lC;rw[h1,zai];dsimp only;rw[if_neg zam,h2]
theorem test_ev{k:Kd}{v:Bool}(h:a ρ=some ((.bool v,.fz),ρ1)):bc a ρ=some (v,ρ1):=by
 unfold bc;rw[aj h];rfl
theorem tD(h:c ρ=some (v,ρ1)):vp c ρ=some (!v,ρ1):=by unfold vp;rw[h];rfl
theorem JC(h:c ρ=some (true,ρ1)):mOr c e ρ=some (true,ρ1):=by unfold mOr;rw[h];rfl
theorem xG(h:c ρ=some (false,ρ1))(h2:e ρ1=o):mOr c e ρ=o:=by unfold mOr;rw[h];simpa using h2
theorem nh(a b:List D)(h:a.length+b.length<=100000):ib (.list a) (.list b)=some (.list (a++b),true):=by
 show cIf _ _ _=_;rw[bg (pQ h)]
theorem xH(h1:m ρ=some (rs,ρ1))(h2:jY rs ρ1=some (ds,ρ2))(h3:ds.length<=100000):vt m ρ=some ((.list ds,.new),ρ2):=by
 unfold vt;rw[h1,zai];dsimp only;rw[h2,zai];dsimp only;rw[bg (pQ h3)]
theorem jw(h1:m ρ=some (rs,ρ1))(h2:jY rs ρ1=some (ds,ρ2))(h3:ds.length<=100000):l8 m ρ=some ((.tuple ds,.fz),ρ2):=by
 unfold l8;rw[h1,zai];dsimp only;rw[h2,zai];dsimp only;rw[bg (pQ h3)]
theorem vI(h1:it ρ=some (ds,ρ1))(h2:gp c e (fr.map λp=>bh ρ1 p.2) ds=some ys)(h3:ys.length<=100000) :
  mLC fr it c e ρ=some ((.list ys,.new),ρ1):=by
 unfold mLC;rw[h1,zai];dsimp only;rw[h2,zai,bg (pR h3)]
theorem xI{d:List D}{k:Kd}(h1:sv a ρ=some ((.list d,k),ρ1)):sY a ρ=some (d,ρ1):=by
 unfold sY;rw[h1];rfl
theorem FH(h:a ρ=some (r,ρ1)):vz a ρ=some (.nx ρ1):=by unfold vz;rw[h];rfl
end
theorem fU{e:PM}{ρn:Rho}{α:Type}{f : α->D}{g : α->D}:∀l:List α,(∀x∈l,∃ρ,sv e (.fz (f x)::ρn)=some ((g x,.fz),ρ))->gp jo e ρn (l.map f)=some (l.map g)
 | [],_=>rfl
 |x::l,h=>by
  obtain⟨ρ,h1⟩:=h x zas;have h2:=fU l λy hy=>h y (zak _ hy)
  rw[zaz,zaz];unfold gp;simp only[jo,h1,h2,asF,Option.bind_some,Option.map_some,if_true]
theorem Lx(h:(-(2^64)<i/\i<2^64)\/(-(2^64)<j/\j<2^64)):IntMulOk i j:=IQ.ok h
def IE(m:PM)(ρ:Rho)(v:Int):Prop:=m ρ=some ((.int v,.fz),ρ)
def BE(m:PM)(ρ:Rho)(v:Bool):Prop:=m ρ=some ((.bool v,.fz),ρ)
section
variable{a b:PM}{ρ:Rho}{i j:Int}{u v:Bool}
theorem AM(h1:IE a ρ i)(h2:IE b ρ j)(h3:g (.int i) (.int j)=some (.int k,false)):IE (mOp g a b) ρ k:=bD (aj h1) (aj h2) h3
theorem FI(h1:IE a ρ i)(h2:IE b ρ j)(h3:g (.int i) (.int j)=some (.bool k,false)):BE (mOp g a b) ρ k:=bD (aj h1) (aj h2) h3
theorem cZ:IE (mC (.int i)) ρ i:=rfl
theorem eY(h : ρ[k]?=some (.fz (.int i))):IE (ai k) ρ i:=az h
theorem CO(h1:IE a ρ i)(h2:IE b ρ j):IE (mOp ib a b) ρ (i+j):=AM h1 h2 rfl
theorem pW(h1:IE a ρ i)(h2:IE b ρ j):IE (mOp xl a b) ρ (i-j):=AM h1 h2 rfl
theorem zp(h:C i j):gI C f (.int i) (.int j)=some (.int (f i j),false):=by show cIf _ _ _=_;rw[bg h]
theorem CP(h1:IE a ρ i)(h2:IE b ρ j)(h:IntMulOk i j):IE (mOp xA a b) ρ (i*j):=AM h1 h2 (by show cIf _ _ _=_;rw[bg h])
theorem pX(h1:IE a ρ i)(h2:IE b ρ j)(h:ER i j):IE (mOp iN a b) ρ (i/j):=AM h1 h2 (zp h)
theorem ic(h1:IE a ρ i)(h2:IE b ρ j)(h : 0<j):IE (mOp eI a b) ρ (i%j):=AM h1 h2 (zp (C:=λ_ j=>0<j) h)
theorem CQ(h1:IE a ρ i)(h2:IE b ρ j)(h:IM i j):IE (mOp AB a b) ρ (i^j.toNat):=AM h1 h2 (zp h)
theorem JD(h1:IE a ρ i):IE (mUn AD a) ρ (-i):=by unfold IE mUn;rw[aj h1];rfl
theorem zq(h1:IE a ρ i)(h2:IE b ρ j):BE (mOp gEq a b) ρ (decide (i=j)):=FI h1 h2 (zo i j)
theorem zr(h1:IE a ρ i)(h2:IE b ρ j):BE (mOp gLt a b) ρ (decide (i<j)):=FI h1 h2 rfl
theorem Hx(h1:IE a ρ i)(h2:IE b ρ j):BE (mOp gGt a b) ρ (decide (j<i)):=FI h1 h2 rfl
theorem Ly(h1:IE a ρ i)(h2:IE b ρ j):BE (mOp gGe a b) ρ (decide (j<=i)):=FI h1 h2 rfl
theorem BE.t(h:BE a ρ v):bc a ρ=some (v,ρ):=test_ev (k:=.fz) h
theorem IE.is(h:IE a ρ i)(e:i=j):IE a ρ j:=e▸h
theorem tF(h1:m ρ=some (rs,ρ))(h2:f (rs.map (·.1))=some (.int i,false)):IE (cb f m) ρ i:=b8 h1 h2 rfl
theorem FJ(h1:m ρ=some (rs,ρ))(h2:f (rs.map (·.1))=some (.bool v,false)):BE (cb f m) ρ v:=b8 h1 h2 rfl
theorem JE(h1:BE a ρ u)(h2:u=true->BE b ρ v)(h3:u=false->v=false):BE (vq a b) ρ v:=by
 unfold BE vq;rw[h1.t];cases u with
 |true=>exact h2 rfl
 |false=>rw[h3 rfl];rfl
theorem pY(h:BE a ρ u)(e:u=v):bc a ρ=some (v,ρ):=e▸h.t
theorem CS{m:Rho->Option (List RV×Rho)}{rs:List RV}(h:IE a ρ i)(h2:m ρ=some (rs,ρ)):aF a m ρ=some ((.int i,.fz)::rs,ρ):=aJ (aj h) h2
theorem tEq(h1:IE a ρ i)(h2:IE b ρ j)(h:i=j):bc (mOp gEq a b) ρ=some (true,ρ):=pY (zq h1 h2) (zaH h)
theorem tNe(h1:IE a ρ i)(h2:IE b ρ j)(h:i≠j):bc (mOp gEq a b) ρ=some (false,ρ):=pY (zq h1 h2) (zaO h)
end
theorem nj(h1:g d ρ=some ρ1)(h2:b ρ1=some (.nx ρ2))(h3:forL g b ds ρ2=o):forL g b (d::ds) ρ=o:=by
 show((g d ρ).bind _)=_;rw[h1,zai,h2];exact h3
end Mir
namespace Mir
open PySem L2
variable [Zc]
def asS:D->Option (List D)
 | .list ds=>some ds
 | .tuple ds=>some ds
 |_=>none
def mgU(n:Nat)(ms:List D->Rho->Option Rho):D->Rho->Option Rho:=λd ρ=>(asS d).bind λds=>if ds.length=n then ms ds ρ else none
theorem FK(h:MGs gs ms):MG (Cn K n gs) (mgU n ms):=λF B H σ ρ v d ρ' Q R rp e q=>by
 obtain⟨ds,e1,e2⟩:=zaa e;cases rp with
 |tup hp rs=>
  cases e1;split at e2
  ·rename_i hn
   exact⟨_,_,rfl,.inl (.inl (.inl (R.sub _ _ hp))),by rw[rs.length];exact hn,h F B H σ ρ _ _ ρ' Q R rs e2 q⟩
  ·cases e2
 |lst hp rs=>
  cases e1;split at e2
  ·rename_i hn
   exact⟨_,_,rfl,.inr (fw (dH R.sub hp)),by rw[rs.length];exact hn,h F B H σ ρ _ _ ρ' Q R rs e2 q⟩
  ·cases e2
 |_=>cases e1
end Mir
namespace L2
open PySem PySem.Spec PyProof.Rows
variable{X:Cx}
end L2
namespace Mir
open PySem L2
variable [Zc]
end Mir
namespace Mir
open PySem L2
inductive pZ where
 |ok (o:Out)|er (c:Str) (ρ:Rho)
abbrev EM:=Rho->Option pZ
section
variable [Zc]
def lD(F:Fr)(D:Ends)(W:Str->Hp->Prop):pZ->Prop
 | .ok o=>k6 F D o
 | .er c ρ=>∀B H σ,Rel F B H σ ρ->W c H
def MSE(W:Str->Hp->Prop)(t:TS)(m:EM):Prop:=∀(F:Fr) (B H:Hp) (σ:St) (ρ:Rho) (o:pZ) (D:Ends),Rel F B H σ ρ->m ρ=some o->lD F D W o->t D σ H
def mf(m:SM):EM:=fun ρ=>(m ρ).map .ok
theorem mh(h:MS t m):MSE W t (mf m):=by
 intro F B H σ ρ o D R e q;obtain⟨x,e1,e⟩:=zab e;cases e;exact h F B H σ ρ x D R e1 q
def tG(a b:EM):EM:=fun ρ=>(a ρ).bind λo=>match o with
 | .ok (.nx ρ')=>b ρ'
 |o=>some o
theorem tH(ha:MSE W t a)(hb:MSE W u b):MSE W (BX t u) (tG a b):=by
 intro F B H σ ρ o D R e q;obtain⟨x,e1,e⟩:=zaa e;refine ha F B H σ ρ x _ R e1 ?_;cases x with
 |er c ρ1=>cases e;exact q
 |ok x=>
  cases x with
  |nx ρ1=>exact λB1 H1 σ1 R1=>hb F B1 H1 σ1 ρ1 o D R1 e q
  |rt r ρ1=>cases e;exact q
  |bk ρ1=>cases e;exact q
  |ct ρ1=>cases e;exact q
def eIf(c:Rho->Option (Bool×Rho))(a b:EM):EM:=fun ρ=>(c ρ).bind λx=>if x.1=true then a x.2 else b x.2
theorem JF(hc:MT tc c)(ha:MSE W t a)(hb:MSE W u b):MSE W (EK tc t u) (eIf c a b):=by
 intro F B H σ ρ o D R e q;obtain⟨x,e1,e⟩:=zaa e;refine hc F B H σ ρ x.1 x.2 _ R e1 λB' H' E R'=>?_
 by_cases h:x.1=true
 ·rw[if_pos h]at e⊢;exact ha F B' H' σ x.2 o D R' e q
 ·rw[if_neg h]at e⊢;exact hb F B' H' σ x.2 o D R' e q
def fnX(n k:Nat)(b:EM)(ds:List D):Option ((D×Bool) ⊕ Str):=if ds.length=n then(b (ds.map .fz++List.replicate k .no)).bind λo=>match o with
 | .ok o=>(Fu o).map .inl
 | .er c _=>some (.inr c)
 else none
def spX(cl:Str->Value)(f:List D->Option ((D×Bool) ⊕ Str)):Sp:=λvs H Q E=>∃B ds w,aG B H/\(∀q xs,H q=some (.tup xs)->B q=some (.tup xs))/\aR B vs ds/\f ds=some w/\
 match w with
 | .inl (d,o)=>∀v B' H',Post B H v B' H' d o->Q v H'
 | .inr c=>∀B' H',Post B H .non B' H' .none false->E (cl c) none H'
theorem FL(hb:MSE (λc H=>E (cl c) none H) t b)(hN:N.length=n+k)(h:spX cl (fnX n k b) vs H Q E):t {nx:=λ_ H'=>Q .non H',rt:=Q} (L2.start N vs) H:=by
 obtain⟨B,ds,w0,sub,tB,rp,e,q⟩:=h;unfold fnX at e;split at e
 case isFalse=>cases e
 rename_i hl
 obtain⟨w,e1,e2⟩:=zaa e;have hvl:vs.length=n:=rp.length.trans hl;have pK:∀(i:Nat) (s:Sl),(ds.map Sl.fz++List.replicate k .no)[i]?=some s->s.isRef=true->False:=λi s h1 h2=>by
  have:=zaj h1;rcases zae this with h|h
  ·obtain⟨c,_,rfl⟩:=List.mem_map.mp h;cases h2
  ·rw[zaG h]at h2;cases h2
 have ex0:∀i:Nat,(ds.map Sl.fz++List.replicate k .no)[i]?=some Sl.ex->False:=λi h1=>by
  have:=zaj h1;rcases zae this with h|h
  ·obtain⟨c,_,z⟩:=List.mem_map.mp h;cases z
  ·have:=zaG h;cases this
 have R:Rel ⟨B,H,[],λq=>H q≠none⟩ B H (L2.start N vs) (ds.map .fz++List.replicate k .no):=by
  refine⟨sub,aG.refl _,λ_ _ z _=>z,λ_ _ z=>z,?_,λi s hs=>?_,λi j s t p h1 h2=>(pK i s h1 (Sl.m8 h2)).elim,λi c p h1=>(pK i _ h1 rfl).elim,(λx hx=>by cases hx),λi c h1=>(pK i _ h1 rfl).elim,tB,(λi h1=>(ex0 i h1).elim),λq o u h z=>by rw[z]at h;cases h⟩
  ·simp[L2.start,hl,hvl,hN]
  ·by_cases hi:i<n
   ·rw[zax (by simpa[hl]using hi),zao]at hs
    obtain⟨c,h1,rfl⟩:=zab hs;obtain⟨x,h2,h3⟩:=rp.get i c h1;refine⟨x,?_,h3⟩;unfold L2.start;rw[zax (by simpa[hvl]using hi),zao,h2]
    rfl
   ·rw[zaN (by simpa[hl]using zba hi)]at hs
    have:=zaG (zaj hs);subst this;trivial
 refine hb _ B H _ _ w _ R e1 ?_;have post:∀{B' H':Hp} {σ':St} {ρ':Rho},Rel ⟨B,H,[],λq=>H q≠none⟩ B' H' σ' ρ'->aG H H'/\aG B B'/\aG B' H'/\(∀q,H q≠none->B q=none->B' q=none)/\(∀q xs,H' q=some (.tup xs)->B' q=some (.tup xs))/\∀q o u,H' q=some (.frz o u)->H q≠none:=λR'=>
  ⟨λq u z=>R'.sH q u z (λx hx=>by cases hx),R'.sB,R'.sub,R'.nB,R'.cJ,R'.nz⟩
 cases w with
 |er c ρ'=>
  cases e2;intro B' H' σ' R';obtain⟨p1,p2,p3,p4,p5,p6⟩:=post R';exact q B' H' ⟨p1,p2,p3,p4,p5,p6,.non⟩
 |ok w=>
 replace e2:=zab e2
 obtain⟨⟨d,o⟩,e2,e3⟩:=e2;subst e3;cases w with
 |nx ρ'=>
  cases e2;intro B' H' σ' R';obtain⟨p1,p2,p3,p4,p5,p6⟩:=post R';exact q _ B' H' ⟨p1,p2,p3,p4,p5,p6,.non⟩
 |bk ρ'=>cases e2
 |ct ρ'=>cases e2
 |rt r ρ'=>
  intro v B' H' σ' R' V';obtain⟨p1,p2,p3,p4,p5,p6⟩:=post R';obtain⟨c,kd⟩:=r;cases kd with
  |fz=>cases e2;exact q v B' H' ⟨p1,p2,p3,p4,p5,p6,V'⟩
  |new=>
   cases e2;obtain⟨p,rfl,h1,h2,h3,_⟩:=V';exact q _ B' H' ⟨p1,p2,p3,p4,p5,p6,⟨p,rfl,h2,h1,h3⟩⟩
  |ro=>cases e2
  | «at» i=>
   obtain⟨s,h1,h2,h3,h4⟩:=V';have e2':(match ρ'[i]? with
    |some (.own d)=>some (d,true)
    |_=>none)=some (d,o):=e2
   rw[h1]at e2';cases s with
   |own c'=>
    cases e2';obtain⟨p,g1,g2,g3⟩:=R'.slot i _ h1;have h4' : σ'[i]?=some (some v):=h4;rw[h4']at g1;cases g1;exact q _ B' H' ⟨p1,p2,p3,p4,p5,p6,⟨p,rfl,R'.jW i _ p h1 h4',g2,g3⟩⟩
   |_=>cases e2'
theorem FO(h:spX cl (fnX n k b) vs H Q E):vs.length=n:=by
 obtain⟨B,ds,w,sub,tB,rp,e,q⟩:=h;unfold fnX at e;split at e
 ·rename_i hl;exact rp.length.trans hl
 ·cases e
end
end Mir
namespace L2
open PySem PySem.Spec PyProof.Rows
theorem Top.M7{P:Program}{w:World}{K:zag}{mg:Str->Option Value}{base:Heap}{x:Str}{st:Stmt}{N ps:List Str}{k:Nat}{sp:Sp}(T:Top K mg x st)(S:bw N ps (aK st))(len:∀vs H Q E,sp vs H Q E->vs.length=ps.length)
  (hb:∀(kV doc pm:Value) (an:Option Addr) (cdv ct:Value) (us:List Value),us.length=ps.length->bindArgs (PySem.W.fnOf x x (fu st) (cX st) (aK st) .none kV doc pm an cdv ct) ⟨us,[]⟩=pure (ps.zip us))
  (hbody:∀(f:Addr) (cdv:Value) (A:Around) (outer:List Env) (s:Shared) (H:Hp) (vs:List V) (Q:VK) (E:XK),dh k (A.deeper (envOfC x (aK st) s.heap.objs.size f cdv))->sp vs H Q E->
   ∃t,PSs (ly (CXW P w) P w K mg base N x (aK st) f cdv A outer s H E) (cX st) t/\t {nx:=λ_ H'=>Q .non H',rt:=Q} (start N vs) H):Def P w K mg base (CXW P w) (k+1) x ps sp:=by
 obtain⟨f,fd,F,m⟩:=T.ex;refine⟨⟨f,fd,?_,m,F.kp,F.binds hb⟩⟩;obtain⟨oc,od,kV,doc,pm,an,cdv,ct,osl,rfl,lk,hcd⟩:=F.ex;exact d4 lk hcd S len λA outer s H vs Q E hr hsp=>hbody f cdv A outer s H vs Q E hr hsp
def clM(mg:Str->Option Value)(c:Str):Value:=(mg c).getD .none
theorem CT(h:mg c=some v):clM mg c=v:=by unfold clM;rw[h];rfl
def okX(K:zag)(C:Addr)(cls:Value):Prop:=∃D,cls=.ref D/\Lg K D/\PySem.W.exmOne K cls (.ref C)=some true
end L2
namespace Mir
open PySem L2
variable [Zc]
end Mir
namespace Mir
open PySem L2
section
variable [Zc]
def LF(B:Hp):Prop:=∀q o,B q=some o->∃xs,o=.tup xs
structure FrP(F:Fr):Prop where
 lf:LF F.B
 io:F.io=[]
 zh:∀q,F.Z q->F.H q≠none
def MSP(t:TS)(m:SM):Prop:=∀(F:Fr) (B H:Hp) (σ:St) (ρ:Rho) (o:Out) (D:Ends),FrP F->Rel F B H σ ρ->m ρ=some o->k6 F D o->t D σ H
def tups(H:Hp):Hp:=λq=>match H q with
 |some (.tup xs)=>some (.tup xs)
 |_=>none
theorem vJ{α:Type}{xs:List α}{j:Nat}{x : α}(h:xs[j]?=some x):L2.atI xs (j:Int)=some x:=by
 rw[Mir.y0];exact h
structure Ni(B H:Hp)(p:Addr)(v:V)(B' H':Hp)(d:D)(o:Bool)(d1:D):Prop where
 eH:∀q u,q≠p->H q=some u->H' q=some u
 eB:aG B B'
 sub:aG B' H'
 nb:∀q,H q≠none->B q=none->B' q=none
 tB:∀q xs,H' q=some (.tup xs)->B' q=some (.tup xs)
 nz:∀q o u,H' q=some (.frz o u)->H q≠none
 own:Own B' H' p d1
 val:if o=true then∃p,v=.ref p/\H p=none/\B' p=none/\Own B' H' p d else Rep B' v d
def ownAt(ρ:Rho)(i:Nat):Option Sl:=match ρ[i]? with
 |some s=>if s.eM=true then some s else none
 |none=>none
theorem xJ(h : ρ[i]?=some (.io d)):ai i ρ=some ((d,.at i),ρ):=by unfold ai;rw[h]
def Two(H0 B' H':Hp)(v:V)(c:D×D):Prop:=∃a p q,v=.ref a/\H' a=some (.tup [.ref p,.ref q])/\p≠q/\H0 p=none/\H0 q=none/\B' p=none/\B' q=none/\Own B' H' p c.1/\Own B' H' q c.2
structure LA(B H:Hp)(v:V)(B' H':Hp)(c:D×D):Prop where
 eH:aG H H'
 eB:aG B B'
 sub:aG B' H'
 nb:∀q,H q≠none->B q=none->B' q=none
 tB:∀q xs,H' q=some (.tup xs)->B' q=some (.tup xs)
 nz:∀q o u,H' q=some (.frz o u)->H q≠none
 val:Two H B' H' v c
def spD(f:List D->Option (D×D)):Sp:=λvs H Q _=>∃B ds c,aG B H/\(∀q xs,H q=some (.tup xs)->B q=some (.tup xs))/\aR B vs ds/\f ds=some c/\∀v B' H',LA B H v B' H' c->Q v H'
def OkD(F:Fr)(E:Ends)(c:D×D):Prop:=∀v B' H' σ' ρ',Rel F B' H' σ' ρ'->Two F.H B' H' v c->E.rt v H'
def MD(t:TS)(m:Rho->Option (D×D)):Prop:=∀(F:Fr) (B H:Hp) (σ:St) (ρ:Rho) (c:D×D) (E:Ends),Rel F B H σ ρ->m ρ=some c->OkD F E c->t E σ H
def k7(a:SM)(b:Rho->Option (D×D)):Rho->Option (D×D):=fun ρ=>(a ρ).bind λo=>match o with
 | .nx ρ'=>b ρ'
 |_=>none
theorem nq(ha:MS t a)(hb:MD u b):MD (BX t u) (k7 a b):=by
 intro F B H σ ρ c E R e q;obtain⟨x,e1,e⟩:=zaa e;cases x with
 |nx ρ'=>exact ha F B H σ ρ _ {E with nx:=u E} R e1 λB' H' σ' R'=>hb F B' H' σ' ρ' c E R' e q
 |rt r ρ'=>cases e
 |bk ρ'=>cases e
 |ct ρ'=>cases e
def fnD(n k:Nat)(b:Rho->Option (D×D))(ds:List D):Option (D×D):=if ds.length=n then b (ds.map .fz++List.replicate k .no)else none
theorem zt(hb:MD t b)(hN:N.length=n+k)(h:spD (fnD n k b) vs H Q E):t {nx:=λ_ H'=>Q .non H',rt:=Q} (L2.start N vs) H:=by
 obtain⟨B,ds,c,sub,tB,rp,e,q⟩:=h;unfold fnD at e;split at e
 case isFalse=>cases e
 rename_i hl
 have hvl:vs.length=n:=rp.length.trans hl;have pK:∀(i:Nat) (s:Sl),(ds.map Sl.fz++List.replicate k .no)[i]?=some s->s.isRef=true->False:=λi s h1 h2=>by
  have:=zaj h1;rcases zae this with h|h
  ·obtain⟨c,_,rfl⟩:=List.mem_map.mp h;cases h2
  ·rw[zaG h]at h2;cases h2
 have ex0:∀i:Nat,(ds.map Sl.fz++List.replicate k .no)[i]?=some Sl.ex->False:=λi h1=>by
  have:=zaj h1;rcases zae this with h|h
  ·obtain⟨c,_,z⟩:=List.mem_map.mp h;cases z
  ·have:=zaG h;cases this
 have R:Rel ⟨B,H,[],λq=>H q≠none⟩ B H (L2.start N vs) (ds.map .fz++List.replicate k .no):=by
  refine⟨sub,aG.refl _,λ_ _ z _=>z,λ_ _ z=>z,?_,λi s hs=>?_,λi j s t p h1 h2=>(pK i s h1 (Sl.m8 h2)).elim,λi c p h1=>(pK i _ h1 rfl).elim,(λx hx=>by cases hx),λi c h1=>(pK i _ h1 rfl).elim,tB,(λi h1=>(ex0 i h1).elim),λq o u h z=>by rw[z]at h;cases h⟩
  ·simp[L2.start,hl,hvl,hN]
  ·by_cases hi:i<n
   ·rw[zax (by simpa[hl]using hi),zao]at hs
    obtain⟨c,h1,rfl⟩:=zab hs;obtain⟨x,h2,h3⟩:=rp.get i c h1;refine⟨x,?_,h3⟩;unfold L2.start;rw[zax (by simpa[hvl]using hi),zao,h2]
    rfl
   ·rw[zaN (by simpa[hl]using zba hi)]at hs
    have:=zaG (zaj hs);subst this;trivial
 refine hb _ B H _ _ c _ R e λv B' H' σ' ρ' R' T=>?_
 exact q v B' H' ⟨λq u z=>R'.sH q u z (λx hx=>by cases hx),R'.sB,R'.sub,R'.nB,R'.cJ,R'.nz,T⟩
theorem zu(h:spD (fnD n k b) vs H Q E):vs.length=n:=by
 obtain⟨B,ds,c,sub,tB,rp,e,q⟩:=h;unfold fnD at e;split at e
 ·rename_i hl;exact rp.length.trans hl
 ·cases e
end
end Mir
namespace L2
open PySem PySem.Spec PyProof.Rows
section
variable{X:Cx}{pins:List (Addr×Obj)}{σ:St}{H:Hp}{s:Shared}{h':Heap}
theorem Inv.tJ{t':Nat}{fp:List Addr}(I:Inv X pins σ H s)(k:∀b o,b∉fp->s.heap.get? b=some o->h'.get? b=some o)(f:∀b∈fp,gK X pins H b):Inv X pins σ H {s with heap:=h',toks:=t'}:=by
 have nit:∀b u,H b=some u->b∉fp:=λb u e z=>by rw[(f b z).1]at e;cases e
 have hL:X.env.locals∉fp:=λz=>(f _ z).2.1 rfl
 refine I.step (g':=s.gens) (d':=s.drawn) (ch:=fp) (λb hb=>?_) (λb o _ _ hc e _=>k b o hc e) (λb o _ _ hc e _=>⟨o.slots,k b o hc e⟩) (λ_ _ _ _ n=>n)
  (λb o hc e=>⟨o,k b o hc e⟩) (λ_ _ e=>e) (λ_ _ _ e=>e) (λb ps e=>⟨#[],by rw[e];simp⟩) (λm hm=>?_) (λb u e=>?_) I.bare
 ·obtain⟨_,f1,_,f3,f4,f5⟩:=f b hb
  exact⟨f3,f1,f4,f5⟩
 ·obtain⟨o,es,ep,ho,r⟩:=hm
  exact⟨o,es,ep,k _ o hL ho,r⟩
 ·refine(I.hok b u e).stay (λc v hc q=>k c v ?_ q) (λ_ q=>q) λ_ _ _ q=>q
  rcases hc with z|z
  ·rw[z];exact nit b u e
  ·exact nit c _ z
end
section
variable{prog:Program}{w:World}{A:Around}{E:Value->Shared->Prop}{s:Shared}
def CU(l:Addr)(it:Addr)(items:Array Value)(n:Nat)(h:Heap):Prop:=h.IsTupleIter it l n/\h.IsTuple l items
end
def FP(x y:Str)(fr:List (Str×Nat)):List Str:=x::y::fr.map (·.1)
structure Np(X:Cx)(scope:Scope)(x y:Str)(fr:List (Str×Nat)):Prop where
 b:Blk X scope x fr
 CV:scope.names.lookup y=some .local
 nd2:(FP x y fr).Nodup
abbrev XE:=St->Value->Hp->Prop
abbrev TX:=XE->TS
abbrev TEX:=XE->TE
def XP(X:Cx)(pins:List (Addr×Obj))(E:XE)(ev:Value)(s':Shared):Prop :=
 ∃(ea t:Addr) (cls:Value) (B:Heap) (H':Hp) (s1:Shared) (H1:Hp) (σ1:St),ev=.ref ea/\Inv X pins σ1 H1 s1/\zc X.prog X.w X.stack H1 s1 (λcls _ H'=>E σ1 cls H') ea t cls B H' s'
def PX(X:Cx)(st:Stmt)(t:TX):Prop :=
 ∀(pins:List (Addr×Obj)) (s:Shared) (σ:St) (H:Hp) (D:Ends) (E:XE),Inv X pins σ H s->t E D σ H->wpAny (model X.prog X.w) X.A (exec st X.env) (SP X pins D) (XP X pins E) s
def PXs(X:Cx)(st:List Stmt)(t:TX):Prop :=
 ∀(pins:List (Addr×Obj)) (s:Shared) (σ:St) (H:Hp) (D:Ends) (E:XE),Inv X pins σ H s->t E D σ H->wpAny (model X.prog X.w) X.A (execs st X.env) (SP X pins D) (XP X pins E) s
def PEX(X:Cx)(e:Expr)(t:TEX):Prop :=
 ∀(pins:List (Addr×Obj)) (s:Shared) (σ:St) (H:Hp) (Q:VK) (E:XE),Inv X pins σ H s->t E σ H Q->wpAny (model X.prog X.w) X.A (eval e X.env) (EP X pins σ Q) (XP X pins E) s
def HA(te:TEX)(i:Nat):TX:=λE=>xm (te E) (jR i)
section
variable{X:Cx}{st:Stmt}{rest:List Stmt}{t:TX}{u:TX}{pos:Pos}
theorem FQ(h1:PX X st t):PXs X [st] t:=by
 intro pins s σ H D E I h;refine wpAny_execs_cons (thn (h1 pins s σ H D E I h) λf s1 q=>?_)
 cases f with
 |next=>exact wpAny_execs_nil q
 |ret v=>exact q
 |brk=>exact q
 |cont=>exact q
theorem JG(hN:X.N.Nodup)(hi:X.N[i]?=some x)(hx:Loc X.env.scope x)(he:PEX X e te)(hs:swapsWith e (some (.Name x pos')) pos.line X.env=pure false:=by rfl)(hf:X.fn x=true\/X.env.scope.names.lookup x=some .local:=by first|exact .inl rfl|exact .inr rfl|assumption) :
  PX X (.Assign [.Name x pos'] e pos) (HA te i):=by
 intro pins s σ H D E I h;refine wpAny_Assign_Name (thn (he pins s σ H _ E I h) λv s1 ⟨y,H1,I1,r1,q1⟩=>?_) hs
 exact pd I1 hN hi hx r1 (λs2 I2=>⟨_,H1,I2,q1⟩) hf
end
def HB(tb:TX)(ok:Value->Prop)(th:Value->Addr->TS):TS:=λD σ H=>tb (fun σ1 cls H2=>ok cls/\∀e:Addr,H2 e=none->th cls e D σ1 H2) D σ H
section
variable{X:Cx}
theorem FT{K:zag}{C:Addr}{xC:Str}{np pos hpos:Pos}{body:List Stmt}{tb:TX}{th:Value->Addr->TS}{b₀:Stmt}{suite:List Stmt}(hK:X.K=K)(hb:PXs X body tb)
  (hst:X.stack=X.env::X.outer) (hfr:X.env.frame=some X.env.locals) (hgC:Gl X xC) (hmC:X.mg xC=some (.ref C)) (hS:∀(cls:Value) (e:Addr) (oe:Obj),oe.cls=cls->L2.okX K C cls->PSs (X.inX e oe) (b₀::suite) (th cls e))
  (hdC:(xC==("__debug__":Str))=false:=by decide):PS X (.Try body [.ExceptHandler (some (.Name xC np)) none (b₀::suite) hpos] [] [] pos) (HB tb (L2.okX K C) th):=by
 subst hK;intro pins s σ H D I h;refine wpAny_Try_except ?_;refine za6 (hb pins s σ H D _ I h) (λf s1 q=>?_) λev s' hq=>?_
 ·cases f with
  |next=>exact wpAny_execs_nil q
  |ret v=>exact q
  |brk=>exact q
  |cont=>exact q
 ·obtain⟨ea,t',cls,B,H2,s1,H1,σ1,rfl,I1,fl⟩:=hq
  obtain⟨okc,hth⟩:=fl.wish;have fly:=fl.fly;rw[hst]at fly;refine wpAny_looks_onW (by rw[I.ok.frames,hst]) hfr fly λh4 LB sm4=>?_
  refine wpAny_landsW LB λh5 JH sm5=>?_
  have sm:s'.heap.UpToSlots h5:=sm4.trans sm5;have I5:Inv X pins σ1 H2 {s' with heap:=h5}:=fl.inv I1 (by rw[hst];exact JH) sm
  have I5m:=I5.mkd (e:=ea);refine wpAny_handleBy_cons (codeAny_handlers_test (lZ I5m hgC hmC ?_ hdC)) (by intro q;cases q)
  have LT:PySem.W.Looks (model X.prog X.w) h5 (typeOf (.ref ea)) cls:=by
   obtain⟨ob,hob,hobc⟩:=JH.there;exact hobc▸(PySem.W.Looks.ld hob).andThen .now
  have hex:PySem.W.exmOne X.K cls (.ref C)=some true:=by obtain⟨_,_,_,z⟩:=id okc;exact z
  refine(PySem.W.exm_one I5.kIn LT hex) _ _ _ _ (λ_ _ z=>z) ?_
  refine codeAny_handlers_suite ?_;refine lands_againW JH λh6 FU sm6=>?_
  have I6:Inv X pins σ1 H2 {s' with heap:=h6}:=fl.inv I1 (by rw[hst];exact FU) (sm.trans sm6)
  obtain⟨oe,ws,hoe,hoec,hoed,_⟩:=FU.first;have hHe:H2 ea=none:=by
   cases z:H2 ea with
   |none=>rfl
   |some u=>
    obtain⟨o',q'⟩:=(fl.hok ea u z).is;rw[FU.2.1]at q';cases q'
  have nfr:ea∉frs (X.env::X.outer):=λhm'=>by
   obtain⟨_,o',q',hd⟩:=FU.2.2.1.mem hm';rw[hoe]at q';cases q';exact hd ws hoed
  have I6x:Inv (X.inX ea oe) pins σ1 H2 {s' with heap:=h6}:=I6.inX hoe hHe (λz=>nfr (List.mem_filterMap.mpr ⟨X.env,zas,by rw[hfr,z]⟩)) (λz=>nfr (by
   obtain⟨env,he',hf'⟩:=List.mem_filterMap.mp z;exact List.mem_filterMap.mpr ⟨env,zak _ he',hf'⟩)) (λv z=>by rw[hoed]at z;cases z)
  refine za6 (hS cls ea oe hoec okc pins _ σ1 H2 D I6x (hth ea hHe)) (λfl' s8 q8=>?_) (λ_ _ z=>z.elim)
  cases fl' with
  |next=>
   obtain⟨σ8,H8,I8,q8⟩:=q8;exact⟨σ8,H8,I8.Fh I.ok,q8⟩
  |brk=>
   obtain⟨σ8,H8,I8,q8⟩:=q8;exact⟨σ8,H8,I8.Fh I.ok,q8⟩
  |cont=>
   obtain⟨σ8,H8,I8,q8⟩:=q8;exact⟨σ8,H8,I8.Fh I.ok,q8⟩
  |ret u=>
   obtain⟨v8,σ8,H8,I8,r8,q8⟩:=q8;exact⟨v8,σ8,H8,I8.Fh I.ok,r8,q8⟩
end
end L2
namespace Mir
open PySem L2
section
variable [Zc]
theorem iC{fr:List (Str×Nat)}{ρ:Rho}{d d':D}(i:Nat)(s:Sl)(h1:(Sl.fz d::Sl.fz d'::fr.map λp=>bh ρ p.2)[i]?=some s)(h2:s.eM=true):False:=by
 cases i with
 |zero=>cases h1;cases h2
 |succ i=>exact eV (d:=d') (ρ:=ρ) (fr:=fr) i s (by rw[zat]at h1;exact h1) h2
theorem Rel.JI(R:Rel F B H σ ρ)(fr:List (Str×Nat))(h:Rep B v d)(h':Rep B v' d'):Rel (F0 H) B H (some v::some v'::aP σ fr) (.fz d::.fz d'::fr.map λp=>bh ρ p.2):=by
 obtain⟨r1,r2,r3,r4,r5,r6,r7,r8,r9,r10,r11,r12,r13⟩:=R.inner fr h';refine⟨r1,r2,r3,r4,by simpa using r5,λi s hs=>?_,λi j s t p h1 h2=>(iC i s h1 h2).elim,λi d p h1=>(iC i _ h1 rfl).elim,(λx hx=>by cases hx),λi d h1=>(iC i _ h1 rfl).elim,r11,(λi h1=>?_),r13⟩
 ·cases i with
  |zero=>cases hs;exact⟨v,rfl,h⟩
  |succ i=>
   rw[zat]at hs;have q:=r6 i s hs;cases s with
   |no=>trivial
   |ex=>trivial
   |fz c=>obtain⟨x,g1,g2⟩:=q;exact⟨x,by rw[zat];exact g1,g2⟩
   |own c=>obtain⟨x,g1,g2⟩:=q;exact⟨x,by rw[zat];exact g1,g2⟩
   |io c=>obtain⟨x,g1,g2⟩:=q;exact⟨x,by rw[zat];exact g1,g2⟩
   |ro c=>obtain⟨x,g1,g2⟩:=q;exact⟨x,by rw[zat];exact g1,g2⟩
 ·cases i with
  |zero=>cases h1
  |succ i=>
   rw[zat]at h1⊢;exact r12 i h1
abbrev XM:=Rho->Option ((RV×Rho) ⊕ (Str×Rho))
variable{cl:Str->Value}
def mOk(m:XM):PM:=fun ρ=>match m ρ with
 |some (.inl x)=>some x
 |_=>none
structure MEX(cl:Str->Value)(t:TEX)(m:XM):Prop where
 ok:∀E,ME (t E) (mOk m)
 er:∀(F:Fr) (B H:Hp) (σ:St) (ρ:Rho) (c:Str) (ρ':Rho) (Q:VK) (E:XE),Rel F B H σ ρ->m ρ=some (.inr (c,ρ'))->(∀B' H',Rel F B' H' σ ρ'->E σ (cl c) H')->t E σ H Q
end
section
variable [Zc]
structure Nj(B H:Hp)(p p2:Addr)(v:V)(B' H':Hp)(d:D)(o:Bool)(d1 d2:D):Prop where
 eH:∀q u,q≠p->q≠p2->H q=some u->H' q=some u
 eB:aG B B'
 sub:aG B' H'
 nb:∀q,H q≠none->B q=none->B' q=none
 tB:∀q xs,H' q=some (.tup xs)->B' q=some (.tup xs)
 nz:∀q o u,H' q=some (.frz o u)->H q≠none
 own:Own B' H' p d1
 Nq:Own B' H' p2 d2
 val:if o=true then∃p,v=.ref p/\H p=none/\B' p=none/\Own B' H' p d else Rep B' v d
end
end Mir
namespace L2
open PySem PySem.Spec PyProof.Rows
end L2
namespace Mir
open PySem L2
end Mir
namespace L2
open PySem PySem.Spec PyProof.Rows PySem.W
def excAt(e:Addr)(cls:Value):Heap->Prop:=λh=>∃oe,h.get? e=some oe/\oe.cls=cls
end L2
namespace Mir
open PySem L2
end Mir
namespace L2
open PySem
def M8(e:Addr)(cls:Value)(dx:Addr):Heap->Prop:=λh=>∃oe vs,h.get? e=some oe/\oe.cls=cls/\oe.dict=some dx/\oe.data=.fields vs
end L2
namespace Mir
open PySem L2
class Zl where
 cl:Str->Value
instance (priority:=10) zl0:Zl:=⟨λ_=>.none⟩
section
variable [Zc] [Zl]
inductive SV where
 |pl (d:D)|lc (k:Nat)|tp (xs:List SV)
inductive Cl where
 |dat (d:D)|obj (C:Addr) (fs:List (Str×SV))|lst (xs:List SV)|dct (es:List (Key×SV))|exc (c:Str) (n:Option Int)
structure SS where
 S:List (Option Cl)
 t:List (Option SV)
mutual
inductive c8(A:List Addr)(B:Hp):V->SV->Prop
 |pl {v:V} {d:D}:Rep B v d->c8 A B v (.pl d)
 |lc {k:Nat} {a:Addr}:A[k]?=some a->c8 A B (.ref a) (.lc k)
 |tp {t:Addr} {vs:List V} {xs:List SV}:B t=some (.tup vs)->bT A B vs xs->c8 A B (.ref t) (.tp xs)
inductive bT(A:List Addr)(B:Hp):List V->List SV->Prop
 |nil:bT A B [] []
 |cons {v:V} {x:SV} {vs:List V} {xs:List SV}:c8 A B v x->bT A B vs xs->bT A B (v::vs) (x::xs)
end
def Gro(A A':List Addr):Prop:=∀(k:Nat) (a:Addr),A[k]?=some a->A'[k]?=some a
theorem Gro.refl(A:List Addr):Gro A A:=λ_ _ h=>h
theorem Gro.trans(a:Gro A A1)(b:Gro A1 A2):Gro A A2:=λk x h=>b k x (a k x h)
theorem Gro.app(A N:List Addr):Gro A (A++N):=λk a h=>by rw[zax (zac h).1];exact h
mutual
theorem c8.mono(g:Gro A A')(e:aG B B'):∀{v:V} {x:SV},c8 A B v x->c8 A' B' v x
 |_,_,.pl r=>.pl (r.mono e)
 |_,_,.lc h=>.lc (g _ _ h)
 |_,_,.tp h r=>.tp (e _ _ h) (bT.mono g e r)
theorem bT.mono(g:Gro A A')(e:aG B B'):∀{v:List V} {x:List SV},bT A B v x->bT A' B' v x
 |_,_,.nil=>.nil
 |_,_,.cons a b=>.cons (c8.mono g e a) (bT.mono g e b)
end
theorem bT.length:∀{v:List V} {x:List SV},bT A B v x->v.length=x.length
 |_,_,.nil=>rfl
 |_,_,.cons _ b=>by rw[zaw,zaw,bT.length b]
theorem bT.get:∀{v:List V} {x:List SV} (i:Nat),bT A B v x->∀c,x[i]?=some c->∃y,v[i]?=some y/\c8 A B y c
 |_,_,i,.nil,c,h=>by simp at h
 |_,_,0,.cons a _,c,h=>by simp at h;subst h;exact⟨_,rfl,a⟩
 |_,_,i+1,.cons _ b,c,h=>by
  rw[zat]at h;rw[zat];exact bT.get i b c h
inductive d8(A:List Addr)(B:Hp):List (Str×V)->List (Str×SV)->Prop
 |nil:d8 A B [] []
 |cons {f:Str} {v:V} {x:SV} {gs:List (Str×V)} {fs:List (Str×SV)}:c8 A B v x->d8 A B gs fs->d8 A B ((f,v)::gs) ((f,x)::fs)
theorem d8.mono(g:Gro A A')(e:aG B B'):∀{v:List (Str×V)} {x:List (Str×SV)},d8 A B v x->d8 A' B' v x
 |_,_,.nil=>.nil
 |_,_,.cons a b=>.cons (a.mono g e) (d8.mono g e b)
inductive jS(A:List Addr)(B:Hp):List (Key×V)->List (Key×SV)->Prop
 |nil:jS A B [] []
 |cons {f:Key} {v:V} {x:SV} {gs:List (Key×V)} {fs:List (Key×SV)}:c8 A B v x->jS A B gs fs->jS A B ((f,v)::gs) ((f,x)::fs)
theorem jS.mono(g:Gro A A')(e:aG B B'):∀{v:List (Key×V)} {x:List (Key×SV)},jS A B v x->jS A' B' v x
 |_,_,.nil=>.nil
 |_,_,.cons a b=>.cons (a.mono g e) (jS.mono g e b)
def CW(f:Str)(x:SV):List (Str×SV)->List (Str×SV)
 | []=>[(f,x)]
 |(k,y)::r=>if k=f then(k,x)::r else(k,y)::CW f x r
def Mx:HO->Prop
 | .lst _=>True
 | .dK _=>True
 | .ins _ _ _=>True
 | .ext _=>True
 |_=>False
def MxF(o:HO):Prop:=Mx o\/∃ob φ,o=.frz ob (.ext φ)
def AN(H:Hp)(a:Addr)(φ:Heap->Prop):Prop:=H a=some (.ext φ)\/∃o,H a=some (.frz o (.ext φ))
theorem AN.mono(h:AN H a φ)(k:∀o,H a=some o->H' a=some o):AN H' a φ:=h.elim (λh=>.inl (k _ h)) λ⟨o,h⟩=>.inr ⟨o,k _ h⟩
theorem FV : ¬MxF (.own x):=λz=>by rcases z with z|⟨_,_,z⟩;exact z;cases z
theorem JJ : ¬MxF (.xd fs):=λz=>by rcases z with z|⟨_,_,z⟩;exact z;cases z
inductive eJ(A:List Addr)(B H:Hp)(a:Addr):Cl->Prop
 |dat {d:D}:Own B H a d->eJ A B H a (.dat d)
 |obj {C dx:Addr} {gs:List (Str×V)} {fs:List (Str×SV)}:H a=some (.ins C dx gs)->H dx=some (.own a)->d8 A B gs fs->eJ A B H a (.obj C fs)
 |lst {vs:List V} {xs:List SV}:H a=some (.lst vs)->bT A B vs xs->eJ A B H a (.lst xs)
 |dct {kvs:List (Key×V)} {es:List (Key×SV)}:H a=some (.dK kvs)->jS A B kvs es->eJ A B H a (.dct es)
 |exc {c:Str} {n:Option Int} {φ:Heap->Prop}:AN H a φ->(∀h,φ h->excAt a (Zl.cl c) h)->(∀k,n=some k->∃dx,(∀h,φ h->M8 a (Zl.cl c) dx h)/\H dx=some (.xd [("by",.int k)]))->eJ A B H a (.exc c n)
theorem eJ.mono(h:eJ A B H a c)(g:Gro A A')(e:aG B B')(k:∀o,H a=some o->H' a=some o)(ko:∀q o,H q=some o->¬MxF o->H' q=some o):eJ A' B' H' a c:=by
 cases h with
 |dat h=>exact .dat (h.mono e k)
 |obj h1 h2 h3=>exact .obj (k _ h1) (ko _ _ h2 FV) (h3.mono g e)
 |lst h1 h2=>exact .lst (k _ h1) (h2.mono g e)
 |dct h1 h2=>exact .dct (k _ h1) (h2.mono g e)
 |exc h1 h2 h3=>exact .exc (h1.mono k) h2 λn e=>(let⟨dx,p1,p2⟩:=h3 n e;⟨dx,p1,ko _ _ p2 JJ⟩)
structure StO(A:List Addr)(B H:Hp)(S:List (Option Cl)):Prop where
 len:A.length=S.length
 nd:A.Nodup
 dis:∀a∈A,B a=none
 mx:∀a∈A,∃o,H a=some o/\MxF o
 cell:∀(k:Nat) (c:Cl) (a:Addr),S[k]?=some (some c)->A[k]?=some a->eJ A B H a c
structure FrN where
 B:Hp
 H:Hp
 io:List Addr
 Z:Addr->Prop
structure bf(G:FrN)(A:List Addr)(B H:Hp)(σ:St)(s:SS):Prop where
 sub:aG B H
 sB:aG G.B B
 cJ:∀q xs,H q=some (.tup xs)->B q=some (.tup xs)
 kept:∀q o,G.H q=some o->q∉G.io->H q=some o
 nB:∀q,G.H q≠none->G.B q=none->B q=none
 pre:Gro G.io A
 fresh:∀a∈A,a∈G.io\/G.H a=none
 st:StO A B H s.S
 len:s.t.length=σ.length
 slot:∀(i:Nat) (x:SV),s.t[i]?=some (some x)->∃v,σ[i]?=some (some v)/\c8 A B v x
 nz:∀q o u,H q=some (.frz o u)->G.Z q
section
variable{G:FrN}{A A':List Addr}{B H B' H':Hp}{σ:St}{s:SS}
theorem StO.mono(O:StO A B H s.S)(eB:aG B B')(eH:aG H H')(nb:∀q,H q≠none->B q=none->B' q=none):StO A B' H' s.S where
 len:=O.len
 nd:=O.nd
 dis:=λa ha=>by obtain⟨o,h,_⟩:=O.mx a ha;exact nb a (by rw[h];simp) (O.dis a ha)
 mx:=λa ha=>by obtain⟨o,h,m⟩:=O.mx a ha;exact⟨o,eH _ _ h,m⟩
 cell:=λk c a h1 h2=>(O.cell k c a h1 h2).mono (Gro.refl _) eB (λo h=>eH _ _ h) λq o h _=>eH _ _ h
theorem bf.grow(R:bf G A B H σ s)(eB:aG B B')(eH:aG H H')(sub:aG B' H')(nb:∀q,H q≠none->B q=none->B' q=none)(tB:∀q xs,H' q=some (.tup xs)->B' q=some (.tup xs))(nz:∀q o u,H' q=some (.frz o u)->G.Z q):bf G A B' H' σ s where
 sub:=sub
 sB:=R.sB.trans eB
 cJ:=tB
 kept:=λq o h n=>eH _ _ (R.kept q o h n)
 nB:=λq h z=>by
  have z1:=R.nB q h z
  by_cases hq:H q=none
  ·by_cases hi:q∈G.io
   ·obtain⟨k,hk⟩:=List.mem_iff_getElem?.mp hi
    obtain⟨o,h2,_⟩:=R.st.mx q (zaj (R.pre k q hk));rw[hq]at h2;cases h2
   ·cases h3:G.H q with
    |none=>exact absurd h3 h
    |some o=>rw[R.kept q o h3 hi]at hq;cases hq
  ·exact nb q hq z1
 pre:=R.pre
 fresh:=R.fresh
 st:=R.st.mono eB eH nb
 len:=R.len
 slot:=λi x h=>by obtain⟨v,h1,h2⟩:=R.slot i x h;exact⟨v,h1,h2.mono (Gro.refl _) eB⟩
 nz:=nz
theorem bf.nu(R:bf G A B H σ s)(h:H p=none):G.H p=none/\p∉A/\B p=none:=by
 have hA:p∉A:=λz=>by obtain⟨o,h2,_⟩:=R.st.mx p z;rw[h]at h2;cases h2
 refine⟨?_,hA,?_⟩
 ·cases h3:G.H p with
  |none=>rfl
  |some o=>
   have:p∉G.io:=λz=>by
    obtain⟨k,hk⟩:=List.mem_iff_getElem?.mp z;exact hA (zaj (R.pre k p hk))
   rw[R.kept p o h3 this]at h;cases h
 ·cases h3:B p with
  |none=>rfl
  |some o=>rw[R.sub p o h3]at h;cases h
theorem bf.write(R:bf G A B H σ s)(hk:A[k]?=some a)(mo:Mx o)(ok:eJ A B (upd H a o) a c):bf G A B (upd H a o) σ ⟨s.S.set k (some c),s.t⟩:=by
 have ha:a∈A:=zaj hk;have hB:=R.st.dis a ha;obtain⟨o0,h0,m0⟩:=R.st.mx a ha;have kl:=(zac hk).1;refine⟨λq u h=>?_,R.sB,λq xs h=>?_,λq u h n=>?_,R.nB,R.pre,R.fresh,⟨?_,R.st.nd,R.st.dis,λb hb=>?_,λj d b h1 h2=>?_⟩,R.len,R.slot,λq u w h=>?_⟩
 ·rw[ah (λz=>by rw[z,hB]at h;cases h)];exact R.sub q u h
 ·by_cases z:q=a
  ·subst z;rw[au]at h;cases h;cases mo
  ·rw[ah z]at h;exact R.cJ q xs h
 ·have z:q≠a:=λz=>by
   subst z;rcases R.fresh q ha with g|g
   ·exact n g
   ·rw[g]at h;cases h
  rw[ah z];exact R.kept q u h n
 ·show A.length=(s.S.set k (some c)).length
  rw[zaM];exact R.st.len
 ·by_cases z:b=a
  ·subst z;exact⟨o,au,.inl mo⟩
  ·rw[ah z];exact R.st.mx b hb
 ·have h1':(s.S.set k (some c))[j]?=some (some d):=h1
  by_cases z:j=k
  ·subst z
   rw[hk]at h2;cases h2
   rw[zav (by rw[<-R.st.len];exact kl)]at h1'
   cases h1';exact ok
  ·rw[zaA λe=>z e.symm]at h1'
   have nb:b≠a:=λe=>by
    subst e;exact z ((List.getElem?_inj (zac h2).1 R.st.nd).mp (h2.trans hk.symm))
   refine(R.st.cell j d b h1' h2).mono (Gro.refl _) (aG.refl _) (λu h=>by rw[ah nb];exact h) λq o h hm=>?_
   rw[ah (λe=>by subst e;rw[h0]at h;cases h;exact hm m0)];exact h
 ·by_cases z:q=a
  ·subst z;rw[au]at h;cases h;cases mo
  ·rw[ah z]at h;exact R.nz q u w h
theorem bf.take(R:bf G A B H σ s)(hG:G.H p=none)(hA:p∉A)(hB:B p=none)(hp:H p=some o)(mo:Mx o)(ok:eJ (A++[p]) B H p c):bf G (A++[p]) B H σ ⟨s.S++[some c],s.t⟩:=by
 refine⟨R.sub,R.sB,R.cJ,R.kept,R.nB,R.pre.trans (Gro.app _ _),λb hb=>?_,⟨?_,?_,λb hb=>?_,λb hb=>?_,λj d b h1 h2=>?_⟩,R.len,λi x h=>?_,R.nz⟩
 ·rcases zae hb with h|h
  ·exact R.fresh b h
  ·simp only[List.mem_singleton]at h;subst h;exact .inr hG
 ·show(A++[p]).length=(s.S++[some c]).length
  rw[zau,zau,R.st.len];rfl
 ·rw[List.nodup_append]
  refine⟨R.st.nd,by simp,λx hx y hy=>?_⟩
  simp only[List.mem_singleton]at hy;subst hy
  exact λz=>hA (z▸hx)
 ·rcases zae hb with h|h
  ·exact R.st.dis b h
  ·simp only[List.mem_singleton]at h;subst h;exact hB
 ·rcases zae hb with h|h
  ·exact R.st.mx b h
  ·simp only[List.mem_singleton]at h;subst h;exact⟨o,hp,.inl mo⟩
 ·have h1':(s.S++[some c])[j]?=some (some d):=h1
  by_cases z:j<s.S.length
  ·rw[zax z]at h1'
   rw[zax (by rw[R.st.len];exact z)]at h2
   exact(R.st.cell j d b h1' h2).mono (Gro.app _ _) (aG.refl _) (λ_ h=>h) λ_ _ h _=>h
  ·rw[zaN (zba z)]at h1'
   rw[zaN (by rw[R.st.len];exact zba z),R.st.len]at h2
   cases hz:j-s.S.length with
   |zero=>
    rw[hz]at h1' h2;simp at h1' h2;subst h1' h2;exact ok
   |succ n=>rw[hz]at h1';simp at h1'
 ·obtain⟨v,h1,h2⟩:=R.slot i x h
  exact⟨v,h1,h2.mono (Gro.app _ _) (aG.refl _)⟩
theorem bf.pG(R:bf G A B H σ s)(hp:H p=none):bf G A (upd B p (.tup xs)) (upd H p (.tup xs)) σ s/\aG B (upd B p (.tup xs)):=by
 obtain⟨_,_,hB⟩:=R.nu hp;have eB:aG B (upd B p (.tup xs)):=λq u h=>by rw[ah (λz=>by rw[z,hB]at h;cases h)];exact h
 refine⟨R.grow eB (λq u h=>by rw[ah (λz=>by rw[z,hp]at h;cases h)];exact h) (λq u h=>?_) (λq h z=>?_) (λq ys h=>?_) λq u w h=>?_,eB⟩
 ·by_cases z:q=p
  ·subst z;rw[au]at h⊢;exact h
  ·rw[ah z]at h⊢;exact R.sub q u h
 ·rw[ah (λe=>by rw[e]at h;exact h hp)];exact z
 ·by_cases z:q=p
  ·subst z;rw[au]at h⊢;exact h
  ·rw[ah z]at h⊢;exact R.cJ q ys h
 ·by_cases z:q=p
  ·subst z;rw[au]at h;cases h
  ·rw[ah z]at h;exact R.nz q u w h
theorem bf.set(R:bf G A B H σ s)(h:i<s.t.length)(rv:c8 A B v x):bf G A B H (σ.set i (some v)) ⟨s.S,s.t.set i (some x)⟩:=by
 refine⟨R.sub,R.sB,R.cJ,R.kept,R.nB,R.pre,R.fresh,R.st,?_,λj y hj=>?_,R.nz⟩
 ·show(s.t.set i (some x)).length=_
  rw[zaM,zaM];exact R.len
 ·have hj':(s.t.set i (some x))[j]?=some (some y):=hj
  by_cases z:j=i
  ·subst z
   rw[zav h]at hj';cases hj';exact⟨v,zav (R.len▸h),rv⟩
  ·rw[zaA λe=>z e.symm]at hj'
   rw[zaA λe=>z e.symm]
   exact R.slot j y hj'
mutual
def blV(n:Nat):SV->Bool
 | .pl _=>true
 | .lc k=>decide (k<n)
 | .tp xs=>fM n xs
def fM(n:Nat):List SV->Bool
 | []=>true
 |x::xs=>blV n x&&fM n xs
end
theorem vK(h:A[k]?=some a)(hk:k<n):(A.take n)[k]?=some a:=by rw[List.getElem?_take,if_pos hk];exact h
mutual
theorem c8.take(n:Nat):∀{v:V} {x:SV},c8 A B v x->blV n x=true->c8 (A.take n) B v x
 |_,_,.pl r,_=>.pl r
 |_,_,.lc h,e=>.lc (vK h (by simpa[blV]using e))
 |_,_,.tp h r,e=>.tp h (bT.take n r (by simpa[blV]using e))
theorem bT.take(n:Nat):∀{v:List V} {x:List SV},bT A B v x->fM n x=true->bT (A.take n) B v x
 |_,_,.nil,_=>.nil
 |_,_,.cons a b,e=>by
  simp only[fM,Bool.and_eq_true]at e;exact .cons (c8.take n a e.1) (bT.take n b e.2)
end
def xK{α:Type}(n:Nat):List (α×SV)->Bool
 | []=>true
 |x::xs=>blV n x.2&&xK n xs
theorem d8.take(n:Nat):∀{v:List (Str×V)} {x:List (Str×SV)},d8 A B v x->xK n x=true->d8 (A.take n) B v x
 |_,_,.nil,_=>.nil
 |_,_,.cons a b,e=>by
  simp only[xK,Bool.and_eq_true]at e;exact .cons (a.take n e.1) (d8.take n b e.2)
theorem jS.take(n:Nat):∀{v:List (Key×V)} {x:List (Key×SV)},jS A B v x->xK n x=true->jS (A.take n) B v x
 |_,_,.nil,_=>.nil
 |_,_,.cons a b,e=>by
  simp only[xK,Bool.and_eq_true]at e;exact .cons (a.take n e.1) (jS.take n b e.2)
def blC(n:Nat):Cl->Bool
 | .dat _=>true
 | .obj _ fs=>xK n fs
 | .lst xs=>fM n xs
 | .dct es=>xK n es
 | .exc _ _=>true
theorem eJ.take(n:Nat)(h:eJ A B H a c)(e:blC n c=true):eJ (A.take n) B H a c:=by
 cases h with
 |dat h=>exact .dat h
 |obj h1 h2 h3=>exact .obj h1 h2 (h3.take n e)
 |lst h1 h2=>exact .lst h1 (h2.take n e)
 |dct h1 h2=>exact .dct h1 (h2.take n e)
 |exc h1 h2 h3=>exact .exc h1 h2 h3
def gcC(n:Nat)(c:Option Cl):Option Cl:=match c with
 |some c=>if blC n c=true then some c else none
 |none=>none
def gcV(n:Nat)(x:Option SV):Option SV:=match x with
 |some x=>if blV n x=true then some x else none
 |none=>none
def gcS(n:Nat)(S:List (Option Cl)):List (Option Cl):=(S.take n).map (gcC n)
def gcT(n:Nat)(t:List (Option SV)):List (Option SV):=t.map (gcV n)
def gc(n:Nat)(s:SS):SS:=⟨gcS n s.S,gcT n s.t⟩
theorem JK(h:gcC n c=some d):c=some d/\blC n d=true:=by
 cases c with
 |none=>cases h
 |some c=>
  simp only[gcC]at h;split at h
  ·rename_i e;cases h;exact⟨rfl,e⟩
  ·cases h
theorem JL(h:gcV n c=some d):c=some d/\blV n d=true:=by
 cases c with
 |none=>cases h
 |some c=>
  simp only[gcV]at h;split at h
  ·rename_i e;cases h;exact⟨rfl,e⟩
  ·cases h
theorem StO.gc(O:StO A B H S)(n:Nat):StO (A.take n) B H (gcS n S):=by
 refine⟨?_,O.nd.sublist (List.take_sublist _ _),λa ha=>O.dis a (List.mem_of_mem_take ha),λa ha=>O.mx a (List.mem_of_mem_take ha),λk c a h1 h2=>?_⟩
 ·unfold gcS;rw[zal,List.length_take,List.length_take,O.len]
 ·unfold gcS at h1
  rw[zao]at h1;obtain⟨c',h3,h4⟩:=zab h1;obtain⟨rfl,h5⟩:=JK h4;rw[List.getElem?_take]at h3 h2;split at h2
  ·rename_i hk
   rw[if_pos hk]at h3;exact(O.cell k c a h3 h2).take n h5
  ·cases h2
theorem bf.gc(R:bf G A B H σ s)(hn:G.io.length<=n):bf G (A.take n) B H σ (gc n s):=by
 refine⟨R.sub,R.sB,R.cJ,R.kept,R.nB,λk a h=>?_,λa ha=>R.fresh a (List.mem_of_mem_take ha),R.st.gc n,?_,λi x h=>?_,R.nz⟩
 ·exact vK (R.pre k a h) (zaF (zac h).1 hn)
 ·show(gcT n s.t).length=_
  unfold gcT;rw[zal];exact R.len
 ·have h':(gcT n s.t)[i]?=some (some x):=h
  unfold gcT at h';rw[zao]at h';obtain⟨c',h3,h4⟩:=zab h';obtain⟨rfl,h5⟩:=JL h4;obtain⟨v,h6,h7⟩:=R.slot i x h3;exact⟨v,h6,h7.take n h5⟩
def zw(n:Nat)(S:List (Option Cl)):Bool:=(S.take n).all λc=>match c with
 |some c=>blC n c
 |none=>true
def LC(n:Nat)(t:List (Option SV))(i:Nat):Bool:=match t[i]? with
 |some (some x)=>blV n x
 |_=>true
def gcE(n:Nat)(kp:List Nat)(s:SS):SS:=if(zw n s.S&&kp.all (LC n s.t))=true then gc n s else s
theorem bf.gcE(R:bf G A B H σ s)(hn:G.io.length<=n):∃A',bf G A' B H σ (gcE n kp s):=by
 unfold Mir.gcE;split
 ·exact⟨_,R.gc hn⟩
 ·exact⟨_,R⟩
theorem Gro.len(g:Gro A A'):A.length<=A'.length:=by
 cases h:A.length with
 |zero=>omega
 |succ k=>
  have hk:k<A.length:=by omega
  have:=g k A[k] (zaC hk);exact(zac this).1
end
mutual
def rdV(S:List (Option Cl)):SV->Option D
 | .pl d=>some d
 | .lc k=>match S[k]? with
  |some (some (.dat d))=>some d
  |_=>none
 | .tp xs=>(gF S xs).map .tuple
def gF(S:List (Option Cl)):List SV->Option (List D)
 | []=>some []
 |x::xs=>(rdV S x).bind λd=>(gF S xs).map λds=>d::ds
end
section
variable{G:FrN}{A:List Addr}{B H:Hp}{σ:St}{s:SS}
mutual
theorem oT(O:StO A B H s.S)(sub:aG B H):∀{v:V} {x:SV} {d:D},c8 A B v x->rdV s.S x=some d->Rep H v d
 |_,_,d,.pl r,e=>by
  simp only[rdV]at e;cases e;exact r.mono sub
 |_,_,d,.lc (k:=k) h,e=>by
  simp only[rdV]at e;split at e
  ·rename_i d' hc
   cases e;cases O.cell k _ _ hc h with
   |dat o=>exact o.rep sub
  ·cases e
 |_,_,d,.tp h r,e=>by
  simp only[rdV]at e;obtain⟨ds,e1,rfl⟩:=zab e;exact .tup (sub _ _ h) (ie O sub r e1)
theorem ie(O:StO A B H s.S)(sub:aG B H):∀{v:List V} {x:List SV} {d:List D},bT A B v x->gF s.S x=some d->aR H v d
 |_,_,d,.nil,e=>by
  simp only[gF]at e;cases e;exact .nil
 |_,_,d,.cons a b,e=>by
  simp only[gF]at e;obtain⟨c,e1,e⟩:=zaa e;obtain⟨ds,e2,rfl⟩:=zab e;exact .cons (oT O sub a e1) (ie O sub b e2)
end
def AO(S:List (Option Cl)):Option SV->Sl
 |none=>.no
 |some x=>match rdV S x with
  |some d=>.fz d
  |none=>.no
def vw(s:SS):Rho:=s.t.map (AO s.S)
def slC:Option SV->Sl
 |some (.pl d)=>.fz d
 |_=>.no
def vwC(s:SS):Rho:=s.t.map slC
theorem rN(S:List (Option Cl))(y:Option SV):AO S y=.no\/∃d x,AO S y=.fz d/\y=some x/\rdV S x=some d:=by
 cases y with
 |none=>exact .inl rfl
 |some x=>
  cases h:rdV S x with
  |none=>exact .inl (by simp only[AO,h])
  |some d=>exact .inr ⟨d,x,by simp only[AO,h],rfl,h⟩
theorem CY(y:Option SV):slC y=.no\/∃d,slC y=.fz d/\y=some (.pl d):=by
 cases y with
 |none=>exact .inl rfl
 |some x=>cases x with
  |pl d=>exact .inr ⟨d,rfl,rfl⟩
  |lc _=>exact .inl rfl
  |tp _=>exact .inl rfl
theorem xM{i:Nat}{x:Sl}(h:(vw s)[i]?=some x):x=.no\/∃d y,x=.fz d/\s.t[i]?=some (some y)/\rdV s.S y=some d:=by
 unfold vw at h;rw[zao]at h;obtain⟨y,h1,rfl⟩:=zab h;rcases rN s.S y with e|⟨d,z,e,rfl,e2⟩
 ·exact .inl e
 ·exact .inr ⟨d,z,e,h1,e2⟩
theorem tK{i:Nat}{x:Sl}(h:(vwC s)[i]?=some x):x=.no\/∃d,x=.fz d/\s.t[i]?=some (some (.pl d)):=by
 unfold vwC at h;rw[zao]at h;obtain⟨y,h1,rfl⟩:=zab h;rcases CY y with e|⟨d,e,rfl⟩
 ·exact .inl e
 ·exact .inr ⟨d,e,h1⟩
theorem bf.opn(R:bf G A B H σ s):Rel ⟨H,H,[],G.Z⟩ H H σ (vw s):=by
 have nk:∀(i:Nat) (x:Sl),(vw s)[i]?=some x->x.isRef=true->False:=λi x h e=>by
  rcases xM h with rfl|⟨d,y,rfl,_⟩<;>cases e
 refine⟨aG.refl _,aG.refl _,λ_ _ h _=>h,λ_ h z=>absurd z h,?_,λi x h=>?_,λi j x t p h1 h2=>(nk i x h1 (Sl.m8 h2)).elim,λi d p h=>(nk i _ h rfl).elim,(λx hx=>by cases hx),λi d h=>(nk i _ h rfl).elim,λ_ _ h=>h,λi h=>?_,R.nz⟩
 ·unfold vw;rw[zal];exact R.len
 ·rcases xM h with rfl|⟨d,y,rfl,h1,h2⟩
  ·trivial
  ·obtain⟨v,h3,h4⟩:=R.slot i y h1
   exact⟨v,h3,oT R.st R.sub h4 h2⟩
 ·rcases xM h with z|⟨d,y,z,_⟩<;>cases z
theorem bf.cls(R:bf G A B H σ s):Rel ⟨B,H,[],G.Z⟩ B H σ (vwC s):=by
 have nk:∀(i:Nat) (x:Sl),(vwC s)[i]?=some x->x.isRef=true->False:=λi x h e=>by
  rcases tK h with rfl|⟨d,rfl,_⟩<;>cases e
 refine⟨R.sub,aG.refl _,λ_ _ h _=>h,λ_ _ z=>z,?_,λi x h=>?_,λi j x t p h1 h2=>(nk i x h1 (Sl.m8 h2)).elim,λi d p h=>(nk i _ h rfl).elim,(λx hx=>by cases hx),λi d h=>(nk i _ h rfl).elim,R.cJ,λi h=>?_,R.nz⟩
 ·unfold vwC;rw[zal];exact R.len
 ·rcases tK h with rfl|⟨d,rfl,h1⟩
  ·trivial
  ·obtain⟨v,h3,h4⟩:=R.slot i _ h1
   cases h4 with
   |pl r=>exact⟨v,h3,r⟩
 ·rcases tK h with z|⟨d,z,_⟩<;>cases z
def tbu(B H:Hp):Hp:=λq=>match B q with
 |some o=>some o
 |none=>match H q with
  |some (.tup xs)=>some (.tup xs)
  |_=>none
theorem j3:aG B (tbu B H):=λq o h=>by unfold tbu;rw[h]
theorem jx(sub:aG B H)(h:H q=some (.tup xs)):tbu B H q=some (.tup xs):=by
 unfold tbu;cases hb:B q with
 |none=>rw[h]
 |some o=>
  have:=sub q o hb;rw[h]at this;exact this.symm
theorem lE(h:tbu B H q=some o):B q=some o\/(B q=none/\∃xs,o=.tup xs/\H q=some (.tup xs)):=by
 unfold tbu at h;cases hb:B q with
 |some o'=>rw[hb]at h;exact .inl h
 |none=>
  rw[hb]at h;refine .inr ⟨rfl,?_⟩;dsimp only at h;split at h
  ·rename_i xs hx;cases h;exact⟨xs,rfl,hx⟩
  ·cases h
theorem bf.back(R:bf G A B H σ s)(R1:Rel ⟨H,H,[],G.Z⟩ B1 H1 σ ρ):bf G A (tbu B H1) H1 σ s/\aG B (tbu B H1)/\aG H H1/\∀q xs,B1 q=some (.tup xs)->tbu B H1 q=some (.tup xs):=by
 have eH:aG H H1:=λq o h=>R1.sH q o h λx hx=>by cases hx
 have oI:aG B H1:=R.sub.trans eH;refine⟨R.grow j3 eH (λq o h=>?_) (λq h z=>?_) (λq xs h=>jx oI h) R1.nz,j3,eH,λq xs h=>jx oI (R1.sub _ _ h)⟩
 ·rcases lE h with h|⟨_,xs,rfl,h'⟩
  ·exact oI q o h
  ·exact h'
 ·cases h2:tbu B H1 q with
  |none=>rfl
  |some o=>
   rcases lE h2 with h3|⟨_,xs,rfl,h3⟩
   ·rw[z]at h3;cases h3
   ·cases h4:H q with
    |none=>exact absurd h4 h
    |some u=>
     have:=eH q u h4;rw[h3]at this;cases this;rw[R.cJ q xs h4]at z;cases z
theorem bf.LD(R:bf G A B H σ s)(R1:Rel ⟨B,H,[],G.Z⟩ B1 H1 σ ρ):bf G A B1 H1 σ s/\aG B B1/\aG H H1:=by
 have eH:aG H H1:=λq o h=>R1.sH q o h λx hx=>by cases hx
 exact⟨R.grow R1.sB eH R1.sub (λq h z=>R1.nB q h z) R1.cJ R1.nz,R1.sB,eH⟩
end
theorem Own.cH(k:∀q xs,B q=some (.tup xs)->B' q=some (.tup xs))(h:Own B H p d)(e:cI d true=true):Own B' H p d:=by
 cases h with
 |lst h r=>exact .lst h (r.cH k e)
 |dct h r=>exact .dct h (r.cH k e)
theorem Own.mx(h:Own B H p d):∃o,H p=some o/\Mx o:=by
 cases h with
 |lst h r=>exact⟨_,h,trivial⟩
 |dct h r=>exact⟨_,h,trivial⟩
structure Xc where
 c:Str
 by_:Option Int
inductive RR(α:Type) where
 |ok (v : α) (s:SS)|er (x:Xc) (s:SS)
abbrev MN(α:Type):=SS->Option (RR α)
abbrev EN:=MN SV
def bN{α β:Type}(m:MN α)(k : α->MN β):MN β:=λs=>match m s with
 |some (.ok v s')=>k v s'
 |some (.er x s')=>some (.er x s')
 |none=>none
abbrev WX:=Xc->St->Hp->Prop
abbrev RL(β α:Type):=List Addr->Hp->β->α->Prop
def ROk{α β:Type}(G:FrN)(A:List Addr)(B:Hp)(σ:St)(W:WX)(Rl:RL β α)(Q : β->Hp->Prop):RR α->Prop
 | .ok v s'=>∀x A' B' H',Gro A A'->aG B B'->bf G A' B' H' σ s'->Rl A' B' x v->Q x H'
 | .er y s'=>∀A' B' H',bf G A' B' H' σ s'->W y σ H'
def NM{α β:Type}(W:WX)(Rl:RL β α)(t:St->Hp->(β->Hp->Prop)->Prop)(m:MN α):Prop :=
 ∀(G:FrN) (A:List Addr) (B H:Hp) (σ:St) (s:SS) (r:RR α) (Q : β->Hp->Prop),bf G A B H σ s->m s=some r->ROk G A B σ W Rl Q r->t σ H Q
abbrev NE(W:WX)(t:TE)(m:EN):Prop:=NM W c8 t m
abbrev NT(W:WX)(t:TT)(m:MN Bool):Prop:=NM W (λ_ _ (b c:Bool)=>b=c) t m
abbrev NA(W:WX)(t:TA)(m:MN (List SV)):Prop:=NM W bT t m
section
variable{W:WX}{G:FrN}{A:List Addr}{B H:Hp}{σ:St}{s:SS}
theorem ROk.up(q:ROk G A B σ W Rl Q r)(g:Gro A A1)(e:aG B B1):ROk G A1 B1 σ W Rl Q r:=by
 cases r with
 |ok v s'=>exact λx A' B' H' g' e'=>q x A' B' H' (g.trans g') (e.trans e')
 |er y s'=>exact q
theorem dM(h:NM W Rl t m)(R:bf G A B H σ s)(e:bN m k s=some r)(q:ROk G A B σ W Rl' Q r)
  (c:∀x v A' B' H' s',Gro A A'->aG B B'->bf G A' B' H' σ s'->Rl A' B' x v->k v s'=some r->ROk G A' B' σ W Rl' Q r->C x H'):t σ H C:=by
 unfold bN at e;split at e
 ·rename_i v s' h1
  exact h G A B H σ s _ C R h1 λx A' B' H' g eB R' V=>c x v A' B' H' s' g eB R' V e (q.up g eB)
 ·rename_i y s' h1
  cases e;exact h G A B H σ s _ C R h1 q
 ·cases e
end
def rdC(S:List (Option Cl)):SV->Option D
 | .pl d=>some d
 | .lc k=>match S[k]? with
  |some (some (.dat d))=>some d
  |_=>none
 | .tp _=>none
def xN(S:List (Option Cl)):List SV->Option (List D)
 | []=>some []
 |x::xs=>(rdC S x).bind λd=>(xN S xs).map λds=>d::ds
section
variable{W:WX}{G:FrN}{A:List Addr}{B H:Hp}{σ:St}{s:SS}
theorem p8(O:StO A B H S)(h:c8 A B v x)(e:rdC S x=some d):View B H v d:=by
 cases h with
 |pl r=>cases e;exact .inl r
 |lc h=>
  simp only[rdC]at e;split at e
  ·rename_i d' hc
   cases e;cases O.cell _ _ _ hc h with
   |dat o=>exact .inr ⟨_,rfl,o⟩
  ·cases e
 |tp _ _=>cases e
theorem p9(O:StO A B H S):∀{vs:List V} {xs:List SV} {ds:List D},bT A B vs xs->xN S xs=some ds->Views B H vs ds
 |_,_,ds,.nil,e=>by
  simp only[xN]at e;cases e;trivial
 |_,_,ds,.cons a b,e=>by
  simp only[xN]at e;obtain⟨c,e1,e⟩:=zaa e;obtain⟨cs,e2,rfl⟩:=zab e;exact⟨p8 O a e1,p9 O b e2⟩
theorem vL:∀{vs:List V} {ds:List D},aR H vs ds->Views H H vs ds
 |_,_,.nil=>trivial
 |_,_,.cons a b=>⟨.inl a,vL b⟩
def newD(d:D)(s:SS):RR SV:=.ok (.lc s.S.length) ⟨s.S++[some (.dat d)],s.t⟩
theorem mi{d:D}{p:Addr}{o:HO}{Q:VK}(R:bf G A B H σ s)(hp:H p=none)(mo:Mx o)(ok:∀H',H' p=some o->Own B H' p d)(q:ROk G A B σ W c8 Q (newD d s)):Q (.ref p) (upd H p o):=by
 obtain⟨g1,g2,g3⟩:=R.nu hp;have eH:aG H (upd H p o):=λq u h=>by rw[ah (λz=>by rw[z,hp]at h;cases h)];exact h
 have R2:bf G A B (upd H p o) σ s:=R.grow (aG.refl _) eH (R.sub.trans eH) (λ_ _ z=>z) (λq xs h=>by
  by_cases z:q=p
  ·subst z;rw[au]at h;cases h;cases mo
  ·rw[ah z]at h;exact R.cJ q xs h) λq u w h=>by
  by_cases z:q=p
  ·subst z;rw[au]at h;cases h;cases mo
  ·rw[ah z]at h;exact R.nz q u w h
 have R3:=R2.take (c:=.dat d) g1 g2 g3 au mo (.dat (ok _ au));exact q _ _ _ _ (Gro.app _ _) (aG.refl _) R3 (.lc (by rw[<-R.st.len];exact List.getElem?_concat_length))
theorem zx{ds:List D}{p:Addr}{vs:List V}{Q:VK}(R:bf G A B H σ s)(hp:H p=none)(rp:aR B vs ds)(q:ROk G A B σ W c8 Q (.ok (.pl (.tuple ds)) s)):Q (.ref p) (upd H p (.tup vs)):=by
 obtain⟨R2,eB⟩:=R.pG (xs:=vs) hp;exact q _ A _ _ (Gro.refl _) eB R2 (.pl (.tup au (rp.mono eB)))
def JM(w:D×Bool)(s:SS):Option (RR SV):=match w with
 |(d,false)=>some (.ok (.pl d) s)
 |(.tuple ds,true)=>some (.ok (.pl (.tuple ds)) s)
 |(d,true)=>some (newD d s)
theorem vM{w:D×Bool}{k:VK->Prop}{r:RR SV}{Q:VK}(R:bf G A B H σ s)(h:kY B H w k)(e:JM w s=some r)(q:ROk G A B σ W c8 Q r):k Q:=by
 obtain⟨d,b⟩:=w;cases b with
 |false=>
  cases e;obtain⟨v,rp,hk⟩:=h;exact hk Q (q v A B H (Gro.refl _) (aG.refl _) R (.pl rp))
 |true=>
  cases d with
  |list ds=>
   cases e;obtain⟨vs,rp,hk⟩:=h;exact hk Q λp hp=>mi R hp trivial (λH' h'=>.lst h' rp) q
  |dict es=>
   cases e;obtain⟨kvs,rp,hk⟩:=h;exact hk Q λp hp=>mi R hp trivial (λH' h'=>.dct h' rp) q
  |tuple ds=>
   cases e;obtain⟨vs,rp,hk⟩:=h;exact hk Q λp hp=>zx R hp rp q
  |none=>exact h.elim
  |bool _=>exact h.elim
  |int _=>exact h.elim
  |str _=>exact h.elim
def xO(w:D×Bool)(s:SS):Option (RR SV):=match w with
 |(d,false)=>if dU d=true then some (.ok (.pl d) s)else none
 |(.tuple ds,true)=>if a6 ds=true then some (.ok (.pl (.tuple ds)) s)else none
 |(d,true)=>if cI d true=true then some (newD d s)else none
theorem vN{w:D×Bool}{k:VK->Prop}{r:RR SV}{Q:VK}(R:bf G A B H σ s)(h:kY H H w k)(e:xO w s=some r)(q:ROk G A B σ W c8 Q r):k Q:=by
 obtain⟨d,b⟩:=w;cases b with
 |false=>
  simp only[xO]at e;split at e
  ·rename_i hp
   cases e;obtain⟨v,rp,hk⟩:=h;exact hk Q (q v A B H (Gro.refl _) (aG.refl _) R (.pl (rp.cH R.cJ hp)))
  ·cases e
 |true=>
  cases d with
  |list ds=>
   simp only[xO]at e;split at e
   ·rename_i hpu
    cases e;obtain⟨vs,rp,hk⟩:=h;exact hk Q λp hp=>mi R hp trivial (λH' h'=>.lst h' (rp.cH R.cJ hpu)) q
   ·cases e
  |dict es=>
   simp only[xO]at e;split at e
   ·rename_i hpu
    cases e;obtain⟨kvs,rp,hk⟩:=h;exact hk Q λp hp=>mi R hp trivial (λH' h'=>.dct h' (rp.cH R.cJ hpu)) q
   ·cases e
  |tuple ds=>
   simp only[xO]at e;split at e
   ·rename_i hpu
    cases e;obtain⟨vs,rp,hk⟩:=h;exact hk Q λp hp=>zx R hp (rp.cH R.cJ hpu) q
   ·cases e
  |none=>exact h.elim
  |bool _=>exact h.elim
  |int _=>exact h.elim
  |str _=>exact h.elim
end
section
variable{W:WX}
def nO(m:PM):EN:=λs=>(m (vw s)).bind λx=>match x.1 with
 |(d,.fz)=>if dU d=true then some (.ok (.pl d) s)else none
 |(d,.new)=>if cI d true=true then some (newD d s)else none
 |_=>none
theorem cM(h:ME t m):NE W t (nO m):=by
 intro G A B H σ s r Q R e q;obtain⟨x,e1,e⟩:=zaa e;refine h _ H H σ (vw s) x.1 x.2 _ R.opn e1 λv B1 H1 E1 R1 V1 N1=>?_
 obtain⟨R2,eB,eH,kt⟩:=R.back R1;obtain⟨⟨d,k⟩,ρ1⟩:=x;cases k with
 |fz=>
  dsimp only at e;split at e
  ·rename_i hp
   cases e;have V1':Rep B1 v d:=V1;exact q v A _ H1 (Gro.refl _) eB R2 (.pl (V1'.cH kt hp))
  ·cases e
 |new=>
  dsimp only at e;split at e
  ·rename_i hp
   cases e;obtain⟨p,rfl,hB,hF,ow,_⟩:=V1;have hF':H p=none:=hF;obtain⟨g1,g2,g3⟩:=R.nu hF';have ow':=ow.cH kt hp;obtain⟨o,ho,mo⟩:=ow'.mx;have hB2:tbu B H1 p=none:=by
    cases h2:tbu B H1 p with
    |none=>rfl
    |some o'=>
     rcases lE h2 with h3|⟨_,xs,rfl,h3⟩
     ·rw[g3]at h3;cases h3
     ·exact absurd h3 (ow.rG xs)
   have R3:=R2.take (c:=.dat d) g1 g2 hB2 ho mo (.dat ow');refine q _ _ _ H1 (Gro.app _ _) eB R3 (.lc ?_);rw[<-R.st.len];exact List.getElem?_concat_length
  ·cases e
 |ro=>cases e
 | «at» j=>cases e
def nTo(m:Rho->Option (Bool×Rho)):MN Bool:=λs=>(m (vw s)).map λx=>.ok x.1 s
theorem mj(h:MT t m):NT W t (nTo m):=by
 intro G A B H σ s r Q R e q;obtain⟨x,e1,e⟩:=zab e;cases e;refine h _ H H σ (vw s) x.1 x.2 _ R.opn e1 λB1 H1 E1 R1=>?_
 obtain⟨R2,eB,eH,kt⟩:=R.back R1;exact q _ A _ H1 (Gro.refl _) eB R2 rfl
def aS(i:Nat):EN:=λs=>match s.t[i]? with
 |some (some x)=>some (.ok x s)
 |_=>none
theorem aE:NE W (u9 i) (aS i):=by
 intro G A B H σ s r Q R e q;unfold aS at e;split at e
 ·rename_i x hx
  cases e;obtain⟨v,h1,h2⟩:=R.slot i _ hx;exact⟨v,h1,q v A B H (Gro.refl _) (aG.refl _) R h2⟩
 ·cases e
def nLit(d:D):EN:=λs=>some (.ok (.pl d) s)
theorem b9(h:∀B,Rep B v d):NE W (tC v) (nLit d):=by
 intro G A B H σ s r Q R e q;cases e;exact q v A B H (Gro.refl _) (aG.refl _) R (.pl (h B))
def nOp(g:D->D->Option (D×Bool))(a b:EN):EN:=bN a λx=>bN b λy s=>match rdC s.S x,rdC s.S y with
 |some c,some d=>(g c d).bind λw=>JM w s
 |_,_=>(rdV s.S x).bind λc=>(rdV s.S y).bind λd=>(g c d).bind λw=>xO w s
theorem HC(J:OpJ r g)(ha:NE W ta a)(hb:NE W tb b):NE W (tOp r ta tb) (nOp g a b):=by
 intro G A B H σ s r0 Q R e q;refine dM (t:=ta) ha R e q λx v A1 B1 H1 s1 g1 eB1 R1 V1 e1 q1=>?_
 refine dM (t:=tb) hb R1 e1 q1 λy u A2 B2 H2 s2 g2 eB2 R2 V2 e2 q2=>?_
 have V1':=V1.mono g2 eB2;split at e2
 ·rename_i c d h1 h2
  obtain⟨w,e3,e4⟩:=zaa e2;exact vM R2 (J B2 H2 x y c d w R2.sub (p8 R2.st V1' h1) (p8 R2.st V2 h2) e3) e4 q2
 ·obtain⟨c,h1,e2⟩:=zaa e2
  obtain⟨d,h2,e2⟩:=zaa e2;obtain⟨w,e3,e4⟩:=zaa e2;exact vN R2 (J H2 H2 x y c d w (aG.refl _) (.inl (oT R2.st R2.sub V1' h1)) (.inl (oT R2.st R2.sub V2 h2)) e3) e4 q2
def ixV(S:List (Option Cl))(x:SV)(i:Int):Option SV:=match x with
 | .tp xs=>L2.atI xs i
 | .pl (.tuple ds)=>(L2.atI ds i).map .pl
 | .pl (.list ds)=>(L2.atI ds i).map .pl
 | .lc k=>match S[k]? with
  |some (some (.dat (.list ds)))=>(L2.atI ds i).map .pl
  |some (some (.lst xs))=>L2.atI xs i
  |_=>none
 |_=>none
theorem ml{α β:Type}{P : α->β->Prop}{xs:List α}{ys:List β}(hl:xs.length=ys.length)(h:∀(n:Nat) (y : β),ys[n]?=some y->∃x,xs[n]?=some x/\P x y){i:Int}{y : β}(e:L2.atI ys i=some y):∃x,L2.atI xs i=some x/\P x y:=by
 unfold L2.atI at e⊢;rw[hl];obtain⟨j,e1,e2⟩:=zaa e;obtain⟨x,h1,h2⟩:=h j y e2;exact⟨x,by rw[e1,zai];exact h1,h2⟩
theorem JN(R:bf G A B H σ s)(hV:c8 A B v x)(e:ixV s.S x i=some y):∃u,c8 A B u y/\∀Q:VK,Q u H->rIx K v (.int i) H Q:=by
 have lst:∀{a:Addr} {xs:List V} {u:V},H a=some (.lst xs)\/Rd H a (.lst xs)->L2.atI xs i=some u->∀Q:VK,Q u H->rIx K (.ref a) (.int i) H Q:=λh h1 Q q=>
  .inl ⟨_,_,_,_,rfl,rfl,.inl (h.elim .inl id),h1,q⟩
 cases x with
 |tp xs=>
  cases hV with
  |tp ht rs=>
   obtain⟨u,h1,h2⟩:=ml rs.length (λn y hy=>rs.get n y hy) e
   exact⟨u,h2,λQ q=>.inr (.inl ⟨_,_,_,_,rfl,rfl,.inl (.inl (R.sub _ _ ht)),h1,q⟩)⟩
 |pl d=>
  cases d with
  |tuple ds=>
   obtain⟨c,e1,rfl⟩:=zab e;cases hV with
   |pl rp=>
    cases rp with
    |tup ht rs=>
     obtain⟨u,h1,h2⟩:=ml rs.length (λn y hy=>rs.get n y hy) e1
     exact⟨u,.pl h2,λQ q=>.inr (.inl ⟨_,_,_,_,rfl,rfl,.inl (.inl (R.sub _ _ ht)),h1,q⟩)⟩
  |list ds=>
   obtain⟨c,e1,rfl⟩:=zab e;cases hV with
   |pl rp=>
    cases rp with
    |lst ht rs=>
     obtain⟨u,h1,h2⟩:=ml rs.length (λn y hy=>rs.get n y hy) e1
     exact⟨u,.pl h2,lst (.inr (dH R.sub ht)) h1⟩
  |_=>cases e
 |lc k=>
  simp only[ixV]at e;cases hV with
  |lc hA=>
   split at e
   ·rename_i ds hk
    obtain⟨c,e1,rfl⟩:=zab e;cases R.st.cell k _ _ hk hA with
    |dat ow=>
     obtain⟨xs,hp,rs⟩:=ow.list;obtain⟨u,h1,h2⟩:=ml rs.length (λn y hy=>rs.get n y hy) e1
     exact⟨u,.pl h2,lst (.inl hp) h1⟩
   ·rename_i xs hk
    cases R.st.cell k _ _ hk hA with
    |lst hp rs=>
     obtain⟨u,h1,h2⟩:=ml rs.length (λn y hy=>rs.get n y hy) e
     exact⟨u,h2,lst (.inl hp) h1⟩
   ·cases e
def nIx(a b:EN):EN:=bN a λx=>bN b λy s=>match y with
 | .pl (.int i)=>(ixV s.S x i).map λz=>.ok z s
 |_=>none
theorem dF(ha:NE W ta a)(hb:NE W tb b):NE W (tOp (rIx K) ta tb) (nIx a b):=by
 intro G A B H σ s r0 Q R e q;refine dM (t:=ta) ha R e q λx v A1 B1 H1 s1 g1 eB1 R1 V1 e1 q1=>?_
 refine dM (t:=tb) hb R1 e1 q1 λy u A2 B2 H2 s2 g2 eB2 R2 V2 e2 q2=>?_
 split at e2
 ·obtain⟨z,e3,e4⟩:=zab e2
  cases e4;cases V2 with
  |pl rp=>
   cases rp;obtain⟨w,h1,h2⟩:=JN (K:=K) R2 (V1.mono g2 eB2) e3;exact h2 Q (q2 w A2 B2 H2 (Gro.refl _) (aG.refl _) R2 h1)
 ·cases e2
def aZ:MN (List SV):=λs=>some (.ok [] s)
theorem aW:NA W vf aZ:=by
 intro G A B H σ s rs Q R e q;cases e;exact q [] A B H (Gro.refl _) (aG.refl _) R .nil
def ar(a:EN)(m:MN (List SV)):MN (List SV):=bN a λx=>bN m λxs s=>some (.ok (x::xs) s)
theorem ak(ha:NE W ta a)(hr:NA W tr m):NA W (nZ ta tr) (ar a m):=by
 intro G A B H σ s r0 Q R e q;refine dM (t:=ta) ha R e q λx v A1 B1 H1 s1 g1 eB1 R1 V1 e1 q1=>?_
 refine dM (t:=tr) hr R1 e1 q1 λy u A2 B2 H2 s2 g2 eB2 R2 V2 e2 q2=>?_
 cases e2;exact q2 _ A2 B2 H2 (Gro.refl _) (aG.refl _) R2 (.cons (V1.mono g2 eB2) V2)
def k8:List SV->Option (List D)
 | []=>some []
 | .pl d::xs=>(k8 xs).map λds=>d::ds
 |_=>none
theorem nv:∀{vs:List V} {xs:List SV} {ds:List D},bT A B vs xs->k8 xs=some ds->aR B vs ds
 |_,_,ds,.nil,e=>by
  simp only[k8]at e;cases e;exact .nil
 |_,_,ds,.cons (x:=x) a b,e=>by
  cases x with
  |pl d=>
   simp only[k8]at e;obtain⟨ds',e1,rfl⟩:=zab e;cases a with
   |pl r=>exact .cons r (nv b e1)
  |lc k=>simp[k8]at e
  |tp k=>simp[k8]at e
def mkT(xs:List SV):SV:=match k8 xs with
 |some ds=>.pl (.tuple ds)
 |none=>.tp xs
theorem FW(h:B t=some (.tup vs))(r:bT A B vs xs):c8 A B (.ref t) (mkT xs):=by
 unfold mkT;split
 ·rename_i ds e;exact .pl (.tup h (nv r e))
 ·exact .tp h r
def d9(m:MN (List SV)):EN:=bN m λxs s=>cIf (xs.length<=sizeLine) (some (.ok (mkT xs) s)) none
theorem cA(h:NA W t m):NE W (ET t) (d9 m):=by
 intro G A B H σ s r0 Q R e q;refine dM (t:=t) h R e q λvs xs A1 B1 H1 s1 g1 eB1 R1 V1 e1 q1=>?_
 obtain⟨hz,e1⟩:=cK e1;cases e1;refine⟨by rw[V1.length];exact hz,λp hp=>?_⟩
 obtain⟨R2,eB2⟩:=R1.pG (xs:=vs) hp;exact q1 _ A1 _ _ (Gro.refl _) eB2 R2 (FW au (V1.mono (Gro.refl _) eB2))
def mkL(xs:List SV):Cl:=match k8 xs with
 |some ds=>.dat (.list ds)
 |none=>.lst xs
def JO(c:Cl)(s:SS):RR SV:=.ok (.lc s.S.length) ⟨s.S++[some c],s.t⟩
theorem CZ{G:FrN}{A:List Addr}{B H:Hp}{σ:St}{s:SS}{c:Cl}{p:Addr}{o:HO}{Q:VK}(R:bf G A B H σ s)(hp:H p=none)(mo:Mx o)(ok:∀H',H' p=some o->eJ (A++[p]) B H' p c)(q:ROk G A B σ W c8 Q (JO c s)):Q (.ref p) (upd H p o):=by
 obtain⟨g1,g2,g3⟩:=R.nu hp;have eH:aG H (upd H p o):=λq u h=>by rw[ah (λz=>by rw[z,hp]at h;cases h)];exact h
 have R2:bf G A B (upd H p o) σ s:=R.grow (aG.refl _) eH (R.sub.trans eH) (λ_ _ z=>z) (λq xs h=>by
  by_cases z:q=p
  ·subst z;rw[au]at h;cases h;cases mo
  ·rw[ah z]at h;exact R.cJ q xs h) λq u w h=>by
  by_cases z:q=p
  ·subst z;rw[au]at h;cases h;cases mo
  ·rw[ah z]at h;exact R.nz q u w h
 have R3:=R2.take (c:=c) g1 g2 g3 au mo (ok _ au);exact q _ _ _ _ (Gro.app _ _) (aG.refl _) R3 (.lc (by rw[<-R.st.len];exact List.getElem?_concat_length))
def oJ(m:MN (List SV)):EN:=bN m λxs s=>cIf (xs.length<=sizeLine) (some (JO (mkL xs) s)) none
theorem ny(h:NA W t m):NE W (IW t) (oJ m):=by
 intro G A B H σ s r0 Q R e q;refine dM (t:=t) h R e q λvs xs A1 B1 H1 s1 g1 eB1 R1 V1 e1 q1=>?_
 obtain⟨hz,e1⟩:=cK e1;cases e1;refine⟨by rw[V1.length];exact hz,λp hp=>CZ R1 hp trivial (λH' h'=>?_) q1⟩
 unfold mkL;split
 ·rename_i ds ea;exact .dat (.lst h' (nv V1 ea))
 ·exact .lst h' (V1.mono (Gro.app _ _) (aG.refl _))
def nCB(g:List D->Option (D×Bool))(m:MN (List SV)):EN:=bN m λxs s=>match xN s.S xs with
 |some ds=>(g ds).bind λw=>JM w s
 |none=>(gF s.S xs).bind λds=>(g ds).bind λw=>xO w s
theorem LG(J:kZ r g)(h:NA W t m):NE W (tCB r t) (nCB g m):=by
 intro G A B H σ s r0 Q R e q;refine dM (t:=t) h R e q λvs xs A1 B1 H1 s1 g1 eB1 R1 V1 e1 q1=>?_
 split at e1
 ·rename_i ds h1
  obtain⟨w,e3,e4⟩:=zaa e1;exact vM R1 (J B1 H1 vs ds w R1.sub (p9 R1.st V1 h1) e3) e4 q1
 ·obtain⟨ds,h1,e1⟩:=zaa e1
  obtain⟨w,e3,e4⟩:=zaa e1;exact vN R1 (J H1 H1 vs ds w (aG.refl _) (vL (ie R1.st R1.sub V1 h1)) e3) e4 q1
structure vO(A:List Addr)(B H:Hp)(A':List Addr)(B' H':Hp)(S':List (Option Cl))(v:V)(r:SV):Prop where
 gro:Gro A A'
 eB:aG B B'
 sub:aG B' H'
 tB:∀q xs,H' q=some (.tup xs)->B' q=some (.tup xs)
 kept:∀q o,H q=some o->q∉A->H' q=some o
 nb:∀q,H q≠none->B q=none->B' q=none
 fresh:∀a∈A',a∈A\/H a=none
 st:StO A' B' H' S'
 nz:∀q o u,H' q=some (.frz o u)->∃o0 u0,H q=some (.frz o0 u0)
 val:c8 A' B' v r
inductive FR where
 |ok (r:SV) (S:List (Option Cl))|er (x:Xc) (S:List (Option Cl))
abbrev FN:=List (Option Cl)->List SV->Option FR
def spS(f:FN):Sp:=λvs H Q E=>∃A B S xs w,aG B H/\(∀q xs,H q=some (.tup xs)->B q=some (.tup xs))/\StO A B H S/\bT A B vs xs/\f S xs=some w/\
 match w with
 | .ok r S'=>∀v A' B' H',vO A B H A' B' H' S' v r->Q v H'
 | .er x S'=>∀A' B' H',vO A B H A' B' H' S' .non (.pl .none)->E (Zl.cl x.c) none H'
def spQ(f:FN):Sp:=λvs H Q _=>spS f vs H Q E0
theorem bf.post(R:bf G A B H σ s)(P:vO A B H A' B' H' S' v r):bf G A' B' H' σ ⟨S',s.t⟩:=by
 refine⟨P.sub,R.sB.trans P.eB,P.tB,λq o h n=>?_,λq h z=>?_,R.pre.trans P.gro,λa ha=>?_,P.st,R.len,λi x h=>?_,λq o u h=>?_⟩
 ·refine P.kept q o (R.kept q o h n) λhq=>?_
  rcases R.fresh q hq with h1|h1
  ·exact n h1
  ·rw[h1]at h;cases h
 ·refine P.nb q (λhq=>?_) (R.nB q h z)
  have:=(R.nu hq).1;exact h this
 ·rcases P.fresh a ha with h|h
  ·exact R.fresh a h
  ·exact .inr (R.nu h).1
 ·obtain⟨w,h1,h2⟩:=R.slot i x h
  exact⟨w,h1,h2.mono P.gro P.eB⟩
 ·obtain⟨o0,u0,h0⟩:=P.nz q o u h
  exact R.nz q o0 u0 h0
def frR(w:FR)(t:List (Option SV)):RR SV:=match w with
 | .ok r S=>.ok r ⟨S,t⟩
 | .er x S=>.er x ⟨S,t⟩
def fg(f:FN)(m:MN (List SV)):EN:=bN m λxs s=>(f s.S xs).map λw=>frR w s.t
theorem C0{f:FN}{G:FrN}{A:List Addr}{B H:Hp}{σ:St}{s:SS}{vs:List V}{xs:List SV}{r0:RR SV}{Q:VK}{E:XK}(R:bf G A B H σ s)(V:bT A B vs xs)(e:((f s.S xs).map λw=>frR w s.t)=some r0)(q:ROk G A B σ W c8 Q r0)
  (hw:∀x H',W x σ H'->E (Zl.cl x.c) none H'):spS f vs H Q E:=by
 obtain⟨w,e2,e3⟩:=zab e;refine⟨A,B,s.S,xs,w,R.sub,R.cJ,R.st,V,e2,?_⟩;cases w with
 |ok r S'=>
  cases e3;exact λv A' B' H' P=>q v A' B' H' P.gro P.eB (R.post P) P.val
 |er x S'=>
  cases e3;exact λA' B' H' P=>hw x H' (q A' B' H' (R.post P))
theorem FX(hw:∀x σ H',W x σ H'->E (Zl.cl x.c) none H')(h:NA W t m):NE W (n4 (spS f) [] E t) (fg f m):=by
 intro G A B H σ s r0 Q R e q;refine dM (t:=t) h R e q λvs xs A1 B1 H1 s1 g1 eB1 R1 V1 e1 q1=>?_
 rw[zaR];exact C0 R1 V1 e1 q1 λx H'=>hw x σ H'
def W0:WX:=λ_ _ _=>False
theorem c9(h:NA W0 t m):NE W0 (n4 (spQ f) [] E0 t) (fg f m):=FX (λ_ _ _ z=>z.elim) h
end
inductive fN where
 |nx (s:SS)|rt (r:SV) (s:SS)|bk (s:SS)|ct (s:SS)|er (x:Xc) (s:SS)
abbrev SN:=SS->Option fN
def NOk(G:FrN)(W:WX)(D:Ends):fN->Prop
 | .nx s=>∀A B H σ,bf G A B H σ s->D.nx σ H
 | .rt r s=>∀v A B H σ,bf G A B H σ s->c8 A B v r->D.rt v H
 | .bk s=>∀A B H σ,bf G A B H σ s->D.bk σ H
 | .ct s=>∀A B H σ,bf G A B H σ s->D.ct σ H
 | .er x s=>∀A B H σ,bf G A B H σ s->W x σ H
def NS(W:WX)(t:TS)(m:SN):Prop:=∀(G:FrN) (A:List Addr) (B H:Hp) (σ:St) (s:SS) (o:fN) (D:Ends),bf G A B H σ s->m s=some o->NOk G W D o->t D σ H
def bS{α:Type}(m:MN α)(k : α->SN):SN:=λs=>match m s with
 |some (.ok v s')=>k v s'
 |some (.er x s')=>some (.er x s')
 |none=>none
section
variable{W:WX}
theorem nA{α β:Type}{Rl:RL β α}{t:St->Hp->(β->Hp->Prop)->Prop}{m:MN α}{k : α->SN}{G:FrN}{A:List Addr}{B H:Hp}{σ:St}{s:SS}{o:fN}{D:Ends}{C : β->Hp->Prop}(h:NM W Rl t m)(R:bf G A B H σ s)(e:bS m k s=some o)(q:NOk G W D o)
  (c:∀x v A' B' H' s',bf G A' B' H' σ s'->Rl A' B' x v->k v s'=some o->C x H'):t σ H C:=by
 unfold bS at e;split at e
 ·rename_i v s' h1
  exact h G A B H σ s _ C R h1 λx A' B' H' g eB R' V=>c x v A' B' H' s' R' V e
 ·rename_i y s' h1
  cases e;exact h G A B H σ s _ C R h1 λA' B' H' R'=>q A' B' H' σ R'
 ·cases e
def bA(a b:SN):SN:=λs=>match a s with
 |some (.nx s')=>b s'
 |o=>o
theorem aU(ha:NS W t a)(hb:NS W u b):NS W (BX t u) (bA a b):=by
 intro G A B H σ s o D R e q;unfold bA at e;split at e
 ·rename_i s' e1
  exact ha G A B H σ s _ _ R e1 λA' B' H' σ' R'=>hb G A' B' H' σ' s' o D R' e q
 ·rename_i o' hn
  refine ha G A B H σ s o _ R e ?_;cases o with
  |nx s'=>exact absurd e (hn s')
  |rt r s'=>exact q
  |bk s'=>exact q
  |ct s'=>exact q
  |er x s'=>exact q
def gq:SN:=λs=>some (.nx s)
theorem eR:NS W BW gq:=by
 intro G A B H σ s o D R e q;cases e;exact q A B H σ R
def xP:SN:=λ_=>none
theorem C1:NS W xk xP:=by
 intro G A B H σ s o D R e q;cases e
def ik(a:EN):SN:=bS a λx s=>some (.rt x s)
theorem dN(ha:NE W t a):NS W (EJ t) (ik a):=by
 intro G A B H σ s o D R e q;refine nA (t:=t) ha R e q λx v A' B' H' s' R' V' e1=>?_
 cases e1;exact q x A' B' H' σ R' V'
def gH(a:EN):SN:=bS a λ_ s=>some (.nx s)
theorem f7(ha:NE W t a):NS W (BY t) (gH a):=by
 intro G A B H σ s o D R e q;refine nA (t:=t) ha R e q λx v A' B' H' s' R' V' e1=>?_
 cases e1;exact q A' B' H' σ R'
def iA(c:MN Bool)(a b:SN):SN:=bS c λx=>if x=true then a else b
theorem i4(hc:NT W tc c)(ha:NS W t a)(hb:NS W u b):NS W (EK tc t u) (iA c a b):=by
 intro G A B H σ s o D R e q;refine nA (t:=tc) hc R e q λx v A' B' H' s' R' V' e1=>?_
 subst V'
 by_cases h:x=true
 ·rw[if_pos h]at e1⊢;exact ha G A' B' H' σ s' o D R' e1 q
 ·rw[if_neg h]at e1⊢;exact hb G A' B' H' σ s' o D R' e1 q
def NG(W:WX)(g:TG)(mg:SV->SN):Prop:=∀(G:FrN) (A:List Addr) (B H:Hp) (σ:St) (s:SS) (v:V) (x:SV) (o:fN) (D:Ends),bf G A B H σ s->c8 A B v x->mg x s=some o->NOk G W D o->g v σ H D.nx
def ngN(i:Nat):SV->SN:=λx s=>if i<s.t.length then some (.nx ⟨s.S,s.t.set i (some x)⟩)else none
theorem bq:NG W (jR i) (ngN i):=λG A B H σ s v x o D R rv e q=>by
 unfold ngN at e;split at e
 ·rename_i h;cases e;exact q A B H _ (R.set h rv)
 ·cases e
def NGs(g:TGs)(mg:List SV->SS->Option SS):Prop:=∀(G:FrN) (A:List Addr) (B H:Hp) (σ:St) (s:SS) (vs:List V) (xs:List SV) (s':SS) (Q:St->Hp->Prop),bf G A B H σ s->bT A B vs xs->mg xs s=some s'->(∀σ',bf G A B H σ' s'->Q σ' H)->g vs σ H Q
def il:List SV->SS->Option SS:=λxs s=>match xs with
 | []=>some s
 |_=>none
def bI(i:Nat)(gs:List SV->SS->Option SS):List SV->SS->Option SS:=λxs s=>match xs with
 |x::xs=>if i<s.t.length then gs xs ⟨s.S,s.t.set i (some x)⟩else none
 |_=>none
theorem mm:NGs EL il:=λG A B H σ s vs xs s' Q R rv e q=>by
 cases rv with
 |nil=>cases e;exact⟨rfl,q σ R⟩
 |cons _ _=>cases e
theorem dy(hs:NGs gs ms):NGs (rl (jR i) gs) (bI i ms):=λG A B H σ s vs xs s' Q R rv e q=>by
 cases rv with
 |nil=>cases e
 |cons r rs=>
  simp only[bI]at e;split at e
  ·rename_i h
   exact⟨_,_,rfl,hs G A B H _ _ _ _ s' Q (R.set h r) rs e fun σ2 R2=>q σ2 R2⟩
  ·cases e
theorem aR.plV:∀{vs:List V} {ds:List D},aR B vs ds->bT A B vs (ds.map .pl)
 |_,_,.nil=>.nil
 |_,_,.cons a b=>.cons (.pl a) (aR.plV b)
def oK(S:List (Option Cl)):SV->Option (List SV)
 | .tp xs=>some xs
 | .pl (.tuple ds)=>some (ds.map .pl)
 | .pl (.list ds)=>some (ds.map .pl)
 | .lc k=>match S[k]? with
  |some (some (.dat (.list ds)))=>some (ds.map .pl)
  |some (some (.lst xs))=>some xs
  |_=>none
 |_=>none
theorem C2(R:bf G A B H σ s)(h:c8 A B v x)(e:oK s.S x=some xs):∃t vs,v=.ref t/\(SqT K H t vs\/SqL K H t vs)/\bT A B vs xs:=by
 cases x with
 |lc k=>
  simp only[oK]at e;cases h with
  |lc hA=>
   split at e
   ·rename_i ds hk
    cases e;cases R.st.cell k _ _ hk hA with
    |dat ow=>
     obtain⟨ys,hp,rs⟩:=ow.list;exact⟨_,_,rfl,.inr (SqL.of hp),rs.plV⟩
   ·rename_i ys hk
    cases e;cases R.st.cell k _ _ hk hA with
    |lst hp rs=>exact⟨_,_,rfl,.inr (SqL.of hp),rs⟩
   ·cases e
 |tp ys=>cases e;cases h with|tp h1 h2=>exact⟨_,_,rfl,.inl (.inl (.inl (R.sub _ _ h1))),h2⟩
 |pl d=>
  cases d with
  |tuple ds=>cases e;cases h with|pl r=>cases r with|tup h1 h2=>exact⟨_,_,rfl,.inl (.inl (.inl (R.sub _ _ h1))),h2.plV⟩
  |list ds=>cases e;cases h with|pl r=>cases r with|lst h1 h2=>exact⟨_,_,rfl,.inr (.inl (dH R.sub h1)),h2.plV⟩
  |_=>cases e
def ngT(n:Nat)(ms:List SV->SS->Option SS):SV->SN:=λx s=>(oK s.S x).bind λxs=>if xs.length=n then(ms xs s).map .nx else none
theorem mn(h:NGs gs ms):NG W (Cn K n gs) (ngT n ms):=λG A B H σ s v x o D R rv e q=>by
 obtain⟨xs,e1,e⟩:=zaa e;obtain⟨t,vs,rfl,h1,h2⟩:=C2 (K:=K) R rv e1;split at e
 ·rename_i hn
  obtain⟨s2,e2,e3⟩:=zab e;cases e3;exact⟨_,_,rfl,h1,by rw[h2.length];exact hn,h G A B H σ s _ _ s2 _ R h2 e2 fun σ' R'=>q A B H σ' R'⟩
 ·cases e
def cD(a:EN)(g:SV->SN):SN:=bS a g
theorem bM(ha:NE W t a)(hg:NG W tg g):NS W (xm t tg) (cD a g):=by
 intro G A B H σ s o D R e q;exact nA (t:=t) ha R e q λx v A' B' H' s' R' V' e1=>hg G A' B' H' σ s' x v o D R' V' e1 q
def gG(kp:List Nat)(c:MN Bool)(b:SN):Nat->SN
 |0=>λ_=>none
 |n+1=>bS c λx s=>if x=true then(match b s with
   |some (.nx s')=>gG kp c b n (gcE s.S.length kp s')
   |some (.ct s')=>gG kp c b n (gcE s.S.length kp s')
   |some (.bk s')=>some (.nx s')
   |some (.rt r s')=>some (.rt r s')
   |some (.er x s')=>some (.er x s')
   |none=>none)
  else some (.nx s)
theorem HE(R:bf G A B H σ s):G.io.length<=s.S.length:=by rw[<-R.st.len];exact R.pre.len
theorem C3(hc:NT W tc c)(hb:NS W tb b):NS W (xn tc tb) (gG kp c b n):=by
 intro G A B H σ s o D R e q;refine⟨λm σ H=>∃A B s,bf G A B H σ s/\gG kp c b m s=some o,⟨n,A,B,s,R,e⟩,?_⟩
 rintro m σ1 H1 ⟨A1,B1,s1,R1,e1⟩
 cases m with
 |zero=>cases e1
 |succ m=>
  refine nA (t:=tc) hc R1 e1 q λx v A2 B2 H2 s2 R2 V2 e2=>?_
  subst V2
  by_cases h:x=true
  ·rw[if_pos h]at e2⊢
   refine⟨fun σ' H'=>∃A' B' s',bf G A' B' H' σ' s'/\gG kp c b m s'=some o,fun σ' H' h'=>⟨m,Nat.lt_succ_self _,h'⟩,?_⟩
   split at e2
   ·rename_i s' e4;exact hb G A2 B2 H2 σ1 s2 _ _ R2 e4 λA' B' H' σ' R'=>(let⟨A3,R3⟩:=R'.gcE (HE R2);⟨A3,B',_,R3,e2⟩)
   ·rename_i s' e4;exact hb G A2 B2 H2 σ1 s2 _ _ R2 e4 λA' B' H' σ' R'=>(let⟨A3,R3⟩:=R'.gcE (HE R2);⟨A3,B',_,R3,e2⟩)
   ·rename_i s' e4;cases e2;exact hb G A2 B2 H2 σ1 s2 _ _ R2 e4 q
   ·rename_i r s' e4;cases e2;exact hb G A2 B2 H2 σ1 s2 _ _ R2 e4 q
   ·rename_i r s' e4;cases e2;exact hb G A2 B2 H2 σ1 s2 _ _ R2 e4 q
   ·cases e2
  ·rw[if_neg h]at e2⊢
   cases e2;exact q A2 B2 H2 σ1 R2
def fO(n:Nat)(kp:List Nat)(ok:SS->Prop)(g:SV->SN)(b:SN):List SV->SN
 | []=>λs=>cIf (ok s) (some (.nx s)) none
 |d::ds=>λs=>cIf (ok s) (match g d s with
   |some (.nx s1)=>(match b s1 with
    |some (.nx s')=>fO n kp ok g b ds (gcE n kp s')
    |some (.ct s')=>fO n kp ok g b ds (gcE n kp s')
    |some (.bk s')=>some (.nx s')
    |some (.rt r s')=>some (.rt r s')
    |some (.er x s')=>some (.er x s')
    |none=>none)
   |_=>none) none
theorem bf.down(R1:bf G A1 B1 H1 σ1 s1)(R:bf ⟨B1,H1,A1,G.Z⟩ A B H σ s):bf G A B H σ s:=by
 refine⟨R.sub,R1.sB.trans R.sB,R.cJ,λq o h n=>R.kept q o (R1.kept q o h n) λhq=>?_,λq h z=>R.nB q (λhq=>h (R1.nu hq).1) (R1.nB q h z),R1.pre.trans R.pre,λa ha=>?_,R.st,R.len,R.slot,R.nz⟩
 ·rcases R1.fresh q hq with h1|h1
  ·exact n h1
  ·rw[h1]at h;cases h
 ·rcases R.fresh a ha with h|h
  ·exact R1.fresh a h
  ·exact .inr (R1.nu h).1
theorem bf.up(R1:bf G A1 B1 H1 σ1 s1):bf ⟨B1,H1,A1,G.Z⟩ A1 B1 H1 σ1 s1 :=
 ⟨R1.sub,aG.refl _,R1.cJ,λ_ _ h _=>h,λ_ _ z=>z,Gro.refl _,λ_ h=>.inl h,R1.st,R1.len,R1.slot,R1.nz⟩
theorem NOk.up{G:FrN}{A1:List Addr}{B1 H1:Hp}{σ1:St}{s1:SS}(R1:bf G A1 B1 H1 σ1 s1){D:Ends}{o:fN}(h:NOk G W D o):NOk ⟨B1,H1,A1,G.Z⟩ W D o:=by
 cases o with
 |nx s=>exact λA B H σ R=>h A B H σ (R1.down R)
 |bk s=>exact λA B H σ R=>h A B H σ (R1.down R)
 |ct s=>exact λA B H σ R=>h A B H σ (R1.down R)
 |rt r s=>exact λv A B H σ R V=>h v A B H σ (R1.down R) V
 |er x s=>exact λA B H σ R=>h A B H σ (R1.down R)
def JP(A:List Addr)(B H:Hp)(x:V)(H':Hp)(y:SV):Prop:=(H'=H/\c8 A B x y)\/∃p xs cs,y=.pl (.tuple cs)/\x=.ref p/\H p=none/\H'=upd H p (.tup xs)/\aR B xs cs
theorem tL{kp:List Nat}{tg:TG}{tb:TS}{g:SV->SN}{b:SN}{ok:SS->Prop}{G:FrN}{J:It}{ds:List SV}{A1:List Addr}{B1 H1:Hp}{σ1:St}{s1:SS}{W0:Ends}{o:fN}
  (hg:NG W tg g) (hb:NS W tb b) (R1:bf G A1 B1 H1 σ1 s1) (e:fO s1.S.length kp ok g b ds s1=some o) (q:NOk G W W0 o)
  (I:∀A B H σ s,bf ⟨B1,H1,A1,G.Z⟩ A B H σ s->ok s->J.stop ds.length H/\∀(i:Nat) (d:SV),ds[i]?=some d->J.go i H/\∀x H',J.yld i H x H'->JP A B H x H' d) :
  ∃W:Nat->Nat->St->Hp->Prop,(∃m,W 0 m σ1 H1)/\∀i m σ H,W i m σ H->
   (J.stop i H/\W0.nx σ H)\/(J.go i H/\∃N:St->Hp->Prop,(∀σ' H',N σ' H'->∃m',m'<m/\W (i+1) m' σ' H')/\∀x H',J.yld i H x H'->tg x σ H' fun σ2 H2=>tb {W0 with nx:=N,ct:=N,bk:=W0.nx} σ2 H2):=by
 have q':=q.up R1;have hio:(FrN.mk B1 H1 A1 G.Z).io.length<=s1.S.length:=Nat.le_of_eq R1.st.len;refine⟨λi m σ H=>m=ds.length-i/\i<=ds.length/\∃A B s,bf ⟨B1,H1,A1,G.Z⟩ A B H σ s/\fO s1.S.length kp ok g b (ds.drop i) s=some o,⟨ds.length,rfl,Nat.zero_le _,A1,B1,s1,R1.up,e⟩,?_⟩
 rintro i m σ2 H2 ⟨rfl,hil,A2,B2,s2,R2,e2⟩
 by_cases hlt:i<ds.length
 ·refine .inr ?_
  rw[zbb hlt]at e2;obtain⟨hok,e2⟩:=cK (show cIf (ok s2) _ none=some o from e2);obtain⟨go,yl⟩:=(I A2 B2 H2 σ2 s2 R2 hok).2 i ds[i] (zaC hlt);refine⟨go,fun σ' H'=>∃A' B' s',bf ⟨B1,H1,A1,G.Z⟩ A' B' H' σ' s'/\fO s1.S.length kp ok g b (ds.drop (i+1)) s'=some o,fun σ' H' h'=>⟨ds.length-(i+1),by omega,rfl,hlt,h'⟩,λy H3 hy=>?_⟩
  have had:∃B3,bf ⟨B1,H1,A1,G.Z⟩ A2 B3 H3 σ2 s2/\c8 A2 B3 y ds[i]:=by
   rcases yl y H3 hy with⟨rfl,h2⟩|⟨p,xs,cs,h1,rfl,h3,rfl,h5⟩
   ·exact⟨B2,R2,h2⟩
   ·obtain⟨R3,e3⟩:=R2.pG (xs:=xs) h3
    exact⟨_,R3,by rw[h1];exact .pl (.tup au (h5.mono e3))⟩
  obtain⟨B3,R3,rp⟩:=had;split at e2
  ·rename_i s3 e3
   refine hg _ A2 B3 H3 σ2 s2 y ds[i] (.nx s3) ⟨fun σ2 H2=>tb {W0 with nx:=fun σ' H'=>∃A' B' s',bf ⟨B1,H1,A1,G.Z⟩ A' B' H' σ' s'/\fO s1.S.length kp ok g b (ds.drop (i+1)) s'=some o,ct:=fun σ' H'=>∃A' B' s',bf ⟨B1,H1,A1,G.Z⟩ A' B' H' σ' s'/\fO s1.S.length kp ok g b (ds.drop (i+1)) s'=some o,bk:=W0.nx} σ2 H2,W0.rt,W0.bk,W0.ct⟩ R3 rp e3 λA4 B4 H4 σ4 R4=>?_
   split at e2
   ·rename_i s' e5;exact hb _ A4 B4 H4 σ4 s3 _ _ R4 e5 λA' B' H' σ' R'=>(let⟨A3,R3⟩:=R'.gcE hio;⟨A3,B',_,R3,e2⟩)
   ·rename_i s' e5;exact hb _ A4 B4 H4 σ4 s3 _ _ R4 e5 λA' B' H' σ' R'=>(let⟨A3,R3⟩:=R'.gcE hio;⟨A3,B',_,R3,e2⟩)
   ·rename_i s' e5;cases e2;exact hb _ A4 B4 H4 σ4 s3 _ _ R4 e5 q'
   ·rename_i r s' e5;cases e2;exact hb _ A4 B4 H4 σ4 s3 _ _ R4 e5 q'
   ·rename_i r s' e5;cases e2;exact hb _ A4 B4 H4 σ4 s3 _ _ R4 e5 q'
   ·cases e2
  ·cases e2
 ·have hi':i=ds.length:=by omega
  subst hi';rw[List.drop_length]at e2;obtain⟨hok,e2⟩:=cK (show cIf (ok s2) _ none=some o from e2);cases e2;exact .inl ⟨(I A2 B2 H2 σ2 s2 R2 hok).1,q' A2 B2 H2 σ2 R2⟩
theorem FY(h:vx B H x H' d):JP A B H x H' (.pl d):=by
 rcases h with⟨h1,h2⟩|⟨p,xs,cs,h1,h2,h3,h4,h5⟩
 ·exact .inl ⟨h1,.pl h2⟩
 ·exact .inr ⟨p,xs,cs,by rw[h1],h2,h3,h4,h5⟩
theorem vx.mono(h:vx B H x H' d)(e:aG B B'):vx B' H x H' d:=by
 rcases h with⟨h1,h2⟩|⟨p,xs,cs,h1,h2,h3,h4,h5⟩
 ·exact .inl ⟨h1,h2.mono e⟩
 ·exact .inr ⟨p,xs,cs,h1,h2,h3,h4,h5.mono e⟩
theorem xQ{ds:List D}{i:Nat}{x:SV}(h:(ds.map SV.pl)[i]?=some x):∃d,ds[i]?=some d/\x=.pl d:=by
 rw[zao]at h;obtain⟨d,h1,h2⟩:=zab h;exact⟨d,h1,h2.symm⟩
def C4(kp:List Nat)(it:Rho->Option (List D×Rho))(g:SV->SN)(b:SN):SN:=λs=>(it (vwC s)).bind λx=>fO s.S.length kp (λ_=>True) g b (x.1.map .pl) s
theorem C5(hi:MF ti it)(hg:NG W tg g)(hb:NS W tb b):NS W (Ap ti tg tb) (C4 kp it g b):=by
 intro G A B H σ s o D R e q;obtain⟨x,e1,e⟩:=zaa e;refine hi _ B H σ (vwC s) x.1 x.2 _ R.cls e1 λJ B1 H1 E1 R1 I1=>?_
 obtain⟨R2,eB,eH⟩:=R.LD R1;refine tL hg hb R2 e q λA' B' H' σ' s' R' _=>?_
 have I2:=I1 H' (R'.sB.trans R'.sub);rw[zal];refine⟨I2.1,λi d hd=>?_⟩
 obtain⟨c,h1,rfl⟩:=xQ hd;exact⟨(I2.2 i c h1).1,λy H2 hy=>FY (((I2.2 i c h1).2 y H2 hy).mono R'.sB)⟩
def stays(k:SV)(xs:List SV)(s:SS):Prop:=oK s.S k=some xs
def vP(kp:List Nat)(a:EN)(g:SV->SN)(b:SN):SN:=bS a λy s=>match y with
 | .lc k=>(oK s.S (.lc k)).bind λxs=>fO s.S.length kp (stays (.lc k) xs) g b xs s
 | .pl (.list ds)=>fO s.S.length kp (λ_=>True) g b (ds.map .pl) s
 |_=>none
theorem zy(h:SqL K H p xs)(r:bT A B xs ys):(Itl K p).stop ys.length H/\∀(i:Nat) (d:SV),ys[i]?=some d->(Itl K p).go i H/\∀x H',(Itl K p).yld i H x H'->JP A B H x H' d:=by
 refine⟨⟨xs,h,by rw[r.length];exact zap _⟩,λi d hd=>?_⟩
 obtain⟨u,h1,h2⟩:=r.get i d hd;refine⟨⟨xs,u,h,h1⟩,λx H' hy=>.inl ⟨hy.1,?_⟩⟩
 have:=hy.2 xs h;rw[h1]at this;cases this;exact h2
theorem zz(ha:NE W te a)(hg:NG W tg g)(hb:NS W tb b):NS W (Ap (ve K te) tg tb) (vP kp a g b):=by
 intro G A B H σ s o D R e q;refine nA (t:=te) ha R e q λx v A1 B1 H1 s1 R1 V1 e1=>?_
 split at e1
 ·rename_i k
  obtain⟨xs,e2,e3⟩:=zaa e1;cases V1 with
  | @lc _ p hA=>
   have lst:∀{A':List Addr} {B' H':Hp} {σ':St} {s':SS} {G':FrN},bf G' A' B' H' σ' s'->A'[k]?=some p->oK s'.S (.lc k)=some xs->∃vs,H' p=some (.lst vs)/\bT A' B' vs xs:=fun{A' B' H' σ' s' G'} R' hA' e'=>by
    simp only[oK]at e';split at e'
    ·rename_i ds hk
     cases e';cases R'.st.cell k _ _ hk hA' with
     |dat ow=>
      obtain⟨ys,hp,rs⟩:=ow.list;exact⟨_,hp,rs.plV⟩
    ·rename_i ys hk
     cases e';cases R'.st.cell k _ _ hk hA' with
     |lst hp rs=>exact⟨_,hp,rs⟩
    ·cases e'
   obtain⟨vs,hp,rs⟩:=lst R1 hA e2;refine⟨_,rfl,⟨vs,SqL.of hp⟩,?_⟩;refine tL hg hb R1 e3 q λA' B' H' σ' s' R' hok=>?_
   obtain⟨vs',hp',rs'⟩:=lst R' (R'.pre k _ hA) hok;exact zy (SqL.of hp') rs'
 ·rename_i ds
  cases V1 with
  |pl r=>
   cases r with
   |lst hp rs=>
    refine⟨_,rfl,⟨_,.inl (dH R1.sub hp)⟩,?_⟩;refine tL hg hb R1 e1 q λA' B' H' σ' s' R' hok=>?_
    exact zy (.inl (dH (R'.sB.trans R'.sub) hp)) (rs.mono R'.sB).plV
 ·cases e1
def vQ(S:List (Option Cl))(k:Nat):Bool:=match S[k]? with
 |some (some (.dat (.list _)))=>true
 |some (some (.lst _))=>true
 |_=>false
theorem C6(R:bf G A B H σ s)(hA:A[k]?=some a)(e:vQ s.S k=true):tyV K "list" (.ref a) H:=by
 unfold vQ at e;split at e
 ·rename_i ds hk
  cases R.st.cell k _ _ hk hA with
  |dat ow=>obtain⟨xs,hp,_⟩:=ow.list;exact .inl ⟨rfl,xs,SqL.of hp⟩
 ·rename_i ds hk
  cases R.st.cell k _ _ hk hA with
  |lst hp _=>exact .inl ⟨rfl,_,SqL.of hp⟩
 ·cases e
def zA(a:EN)(m:MN (List SV))(u:Nat->List SV->SS->Option (RR SV)):EN:=bN a λx s=>match x with
 | .lc k=>if vQ s.S k=true then bN m (λxs s2=>u k xs s2) s else none
 |_=>none
theorem FZ(ha:NE W te a)(h:NA W t m)
  (hu:∀(G:FrN) (A:List Addr) (B H:Hp) (σ:St) (s:SS) (p:Addr) (k:Nat) (vs:List V) (xs:List SV) (r0:RR SV) (Q:VK),bf G A B H σ s->A[k]?=some p->bT A B vs xs->u k xs s=some r0->ROk G A B σ W c8 Q r0->r (.ref p) vs H Q):NE W (tBM K "list" r te t) (zA a m u):=by
 intro G A B H σ s r0 Q R e q;refine dM (t:=te) ha R e q λx v A1 B1 H1 s1 g1 eB1 R1 V1 e1 q1=>?_
 split at e1
 ·rename_i k
  split at e1
  ·rename_i hl
   cases V1 with
   |lc hA=>
    refine⟨C6 R1 hA hl,?_⟩;refine dM (t:=t) h R1 e1 q1 λvs xs A2 B2 H2 s2 g2 eB2 R2 V2 e2 q2=>?_
    exact hu G A2 B2 H2 σ s2 _ k vs xs r0 Q R2 (g2 _ _ hA) V2 e2 q2
  ·cases e1
 ·cases e1
def C7(k:Nat)(xs:List SV)(s:SS):Option (RR SV):=match xs,s.S[k]? with
 | [.pl d],some (some (.dat (.list ds)))=>cIf (ds.length<sizeLine) (some (.ok (.pl .none) ⟨s.S.set k (some (.dat (.list (ds++[d])))),s.t⟩)) none
 | [x],some (some (.dat (.list ds)))=>cIf (ds.length<sizeLine) (some (.ok (.pl .none) ⟨s.S.set k (some (.lst (ds.map .pl++[x]))),s.t⟩)) none
 | [x],some (some (.lst ys))=>cIf (ys.length<sizeLine) (some (.ok (.pl .none) ⟨s.S.set k (some (.lst (ys++[x]))),s.t⟩)) none
 |_,_=>none
theorem bT.append:∀{v w:List V} {d c:List SV},bT A B v d->bT A B w c->bT A B (v++w) (d++c)
 |_,_,_,_,.nil,r=>r
 |_,_,_,_,.cons a b,r=>.cons a (bT.append b r)
theorem F1(G:FrN)(A:List Addr)(B H:Hp)(σ:St)(s:SS)(p:Addr)(k:Nat)(vs:List V)(xs:List SV)(r0:RR SV)(Q:VK)(R:bf G A B H σ s)(hA:A[k]?=some p)(hV:bT A B vs xs)(e:C7 k xs s=some r0)(q:ROk G A B σ W c8 Q r0):l4 (.ref p) vs H Q:=by
 have go:∀{x:SV} {y:V} {ys:List V} {c:Cl},vs=[y]->H p=some (.lst ys)->ys.length<sizeLine->eJ A B (upd H p (.lst (ys++[y]))) p c->r0=.ok (.pl .none) ⟨s.S.set k (some c),s.t⟩->l4 (.ref p) vs H Q:=fun{x y ys c} h1 h2 h3 ok er=>by
  subst er h1;exact⟨p,ys,y,rfl,rfl,h2,h3,q .non A B _ (Gro.refl _) (aG.refl _) (R.write (o:=.lst (ys++[y])) hA trivial ok) (.pl .non)⟩
 unfold C7 at e;split at e
 ·rename_i d ds hk
  obtain⟨hz,e⟩:=cK e;cases e;cases hV with
  |cons a b=>
   cases b;cases a with
   |pl r=>
    cases R.st.cell k _ _ hk hA with
    |dat ow=>
     obtain⟨ys,hp,rs⟩:=ow.list;exact go (x:=.pl d) rfl hp (by rw[rs.length];exact hz) (.dat (.lst au (rs.append (.cons r .nil)))) rfl
 ·rename_i x ds _ hk
  obtain⟨hz,e⟩:=cK e;cases e;cases hV with
  |cons a b=>
   cases b;cases R.st.cell k _ _ hk hA with
   |dat ow=>
    obtain⟨ys,hp,rs⟩:=ow.list;exact go (x:=x) rfl hp (by rw[rs.length];exact hz) (.lst au (rs.plV.append (.cons a .nil))) rfl
 ·rename_i x ys hk
  obtain⟨hz,e⟩:=cK e;cases e;cases hV with
  |cons a b=>
   cases b;cases R.st.cell k _ _ hk hA with
   |lst hp rs=>exact go (x:=x) rfl hp (by rw[rs.length];exact hz) (.lst au (rs.append (.cons a .nil))) rfl
 ·cases e
def qR(a:EN)(m:MN (List SV)):EN:=zA a m C7
theorem tM(ha:NE W te a)(h:NA W t m):NE W (tBM K "list" l4 te t) (qR a m):=FZ ha h F1
end
def fS(n:Nat)(S:List (Option Cl)):List (Option Cl):=if zw n S=true then gcS n S else S
def retS(n:Nat):fN->Option FR
 | .rt r s=>if blV n r=true then some (.ok r (fS n s.S))else some (.ok r s.S)
 | .nx s=>some (.ok (.pl .none) (fS n s.S))
 | .er x s=>some (.er x (fS n s.S))
 |_=>none
def fnS(n k:Nat)(b:SN):FN:=λS xs=>if xs.length=n then(b ⟨S,xs.map some++List.replicate k none⟩).bind (retS S.length)else none
theorem rO(sub:aG B H)(tB:∀q xs,H q=some (.tup xs)->B q=some (.tup xs))(O:StO A B H S)(rv:bT A B vs xs)(hl:xs.length=n)(hN:N.length=n+k) :
  bf ⟨B,H,A,λq=>∃o u,H q=some (.frz o u)⟩ A B H (L2.start N vs) ⟨S,xs.map some++List.replicate k none⟩:=by
 have hvl:vs.length=n:=rv.length.trans hl;refine⟨sub,aG.refl _,tB,λ_ _ h _=>h,λ_ _ z=>z,Gro.refl _,λ_ h=>.inl h,O,?_,λi x h=>?_,λq o u h=>⟨o,u,h⟩⟩
 ·simp[L2.start,hl,hvl,hN]
 ·have h':(xs.map some++List.replicate k none)[i]?=some (some x):=h
  by_cases hi:i<n
  ·rw[zax (by simpa[hl]using hi),zao]at h'
   obtain⟨c,h1,h2⟩:=zab h';cases h2;obtain⟨y,h3,h4⟩:=rv.get i _ h1;refine⟨y,?_,h4⟩;unfold L2.start;rw[zax (by simpa[hvl]using hi),zao,h3]
   rfl
  ·rw[zaN (by simpa[hl]using zba hi)]at h'
   have:=zaG (zaj h');cases this
theorem post_of(R':bf ⟨B,H,A,λq=>∃o u,H q=some (.frz o u)⟩ A' B' H' σ' s')(V':c8 A' B' v r):vO A B H A' B' H' s'.S v r:=⟨R'.pre,R'.sB,R'.sub,R'.cJ,R'.kept,R'.nB,R'.fresh,R'.st,R'.nz,V'⟩
theorem qa(hn:A.length<=n)(R':bf ⟨B,H,A,λq=>∃o u,H q=some (.frz o u)⟩ A' B' H' σ' s')(V':c8 A' B' v r)(hb:blV n r=true):∃A'',vO A B H A'' B' H' (fS n s'.S) v r:=by
 unfold fS;split
 ·exact⟨_,post_of (R'.gc hn) (V'.take _ hb)⟩
 ·exact⟨_,post_of R' V'⟩
theorem F2(hb:NS (λx _ H=>E (Zl.cl x.c) none H) t b)(hN:N.length=n+k)(h:spS (fnS n k b) vs H Q E):t {nx:=λ_ H'=>Q .non H',rt:=Q} (L2.start N vs) H:=by
 obtain⟨A,B,S,xs,w0,sub,tB,O,rv,e,q⟩:=h;unfold fnS at e;split at e
 case isFalse=>cases e
 rename_i hl
 obtain⟨w,e1,e2⟩:=zaa e;have R:=rO (k:=k) sub tB O rv hl hN;refine hb _ A B H _ _ w _ R e1 ?_;have hn:A.length<=S.length:=Nat.le_of_eq O.len;cases w with
 |nx s'=>cases e2;exact λA' B' H' σ' R'=>(let⟨A2,p⟩:=qa hn R' (.pl .non) rfl;q _ A2 B' H' p)
 |bk s'=>cases e2
 |ct s'=>cases e2
 |er x s'=>cases e2;exact λA' B' H' σ' R'=>(let⟨A2,p⟩:=qa hn R' (.pl .non) rfl;q A2 B' H' p)
 |rt r' s'=>
  simp only[retS]at e2;split at e2
  ·rename_i hbl
   cases e2;exact λv A' B' H' σ' R' V'=>(let⟨A2,p⟩:=qa hn R' V' hbl;q v A2 B' H' p)
  ·cases e2
   exact λv A' B' H' σ' R' V'=>q v A' B' H' (post_of R' V')
theorem fA(hb:NS W0 t b)(hN:N.length=n+k)(h:spQ (fnS n k b) vs H Q E):t {nx:=λ_ H'=>Q .non H',rt:=Q} (L2.start N vs) H:=F2 (E:=E0) hb hN h
theorem F3(h:spS (fnS n k b) vs H Q E):vs.length=n:=by
 obtain⟨A,B,S,xs,w,sub,tB,O,rv,e,q⟩:=h;unfold fnS at e;split at e
 ·rename_i hl;exact rv.length.trans hl
 ·cases e
theorem fB(h:spQ (fnS n k b) vs H Q E):vs.length=n:=F3 (E:=E0) h
def LH:fN->Option (D×Bool)
 | .rt (.pl d) _=>some (d,false)
 | .rt (.lc k) s=>match s.S[k]? with
  |some (some (.dat d))=>some (d,true)
  |_=>none
 | .nx _=>some (.none,false)
 |_=>none
def fnO(n k:Nat)(b:SN)(ds:List D):Option (D×Bool):=if ds.length=n then(b ⟨[],ds.map (λd=>some (.pl d))++List.replicate k none⟩).bind LH else none
theorem F4(hb:NS W0 t b)(hN:N.length=n+k)(h:spM (fnO n k b) vs H Q E):t {nx:=λ_ H'=>Q .non H',rt:=Q} (L2.start N vs) H:=by
 obtain⟨B,ds,d,o,sub,tB,rp,e,q⟩:=h;unfold fnO at e;split at e
 case isFalse=>cases e
 rename_i hl
 obtain⟨w,e1,e2⟩:=zaa e;have O:StO [] B H ([]:List (Option Cl)):=⟨rfl,List.nodup_nil,(λa h=>by cases h),(λa h=>by cases h),λk c a h=>by simp at h⟩
 have R:=rO (k:=k) (xs:=ds.map .pl) sub tB O (aR.plV rp) (by simpa using hl) hN
 rw[List.map_map]at R;refine hb _ [] B H _ _ w _ R e1 ?_;have post:∀{A':List Addr} {B' H':Hp} {σ':St} {s':SS},bf ⟨B,H,[],λq=>∃o u,H q=some (.frz o u)⟩ A' B' H' σ' s'->aG H H'/\aG B B'/\aG B' H'/\(∀q,H q≠none->B q=none->B' q=none)/\(∀q xs,H' q=some (.tup xs)->B' q=some (.tup xs))/\∀q o u,H' q=some (.frz o u)->H q≠none:=λR'=>
  ⟨λq u z=>R'.kept q u z (by simp),R'.sB,R'.sub,R'.nB,R'.cJ,λq o u z=>(let⟨_,_,y⟩:=R'.nz q o u z;by rw[y];simp)⟩
 cases w with
 |nx s'=>
  cases e2;intro A' B' H' σ' R';obtain⟨p1,p2,p3,p4,p5,p6⟩:=post R';exact q _ B' H' ⟨p1,p2,p3,p4,p5,p6,.non⟩
 |bk s'=>cases e2
 |ct s'=>cases e2
 |er x s'=>cases e2
 |rt r s'=>
  intro v A' B' H' σ' R' V';obtain⟨p1,p2,p3,p4,p5,p6⟩:=post R';cases r with
  |pl c=>
   cases e2;cases V' with
   |pl rv=>exact q v B' H' ⟨p1,p2,p3,p4,p5,p6,rv⟩
  |tp xs=>cases e2
  |lc j=>
   have e2':(match s'.S[j]? with
    |some (some (.dat d))=>some (d,true)
    |_=>none)=some (d,o):=e2
   split at e2'
   ·rename_i d' hj
    cases e2';obtain⟨a,rfl,hA⟩:∃a,v=.ref a/\A'[j]?=some a:=by cases V' with|lc h=>exact⟨_,rfl,h⟩
    ·have ha:=zaj hA
     cases R'.st.cell j _ _ hj hA with
     |dat ow=>
      have hn:H a=none:=by
       rcases R'.fresh a ha with z|z
       ·cases z
       ·exact z
      exact q _ B' H' ⟨p1,p2,p3,p4,p5,p6,⟨_,rfl,hn,R'.st.dis _ ha,ow⟩⟩
   ·cases e2'
theorem F5(h:spM (fnO n k b) vs H Q E):vs.length=n:=by
 obtain⟨B,ds,d,o,sub,tB,rp,e,q⟩:=h;unfold fnO at e;split at e
 ·rename_i hl;exact rp.length.trans hl
 ·cases e
end
end Mir
namespace L2
open PySem PySem.Spec PyProof.Rows
section
variable{κ:Type} [DecidableEq κ]
def ip(kvs:List (κ×V))(k : κ):Option V:=(kvs.find? λkv=>decide (kv.1=k)).map (·.2)
def putK(kvs:List (κ×V))(k : κ)(v:V):List (κ×V) :=
 if(kvs.any λkv=>decide (kv.1=k))=true then kvs.map (λkv=>if kv.1=k then(kv.1,v)else kv)else kvs++[(k,v)]
def oh(kvs:List (κ×V))(k : κ):List (κ×V):=kvs.filter λkv=>decide (kv.1≠k)
theorem j4{p : κ×V}{r:List (κ×V)}{k : κ}(e:p.1=k):ip (p::r) k=some p.2:=by simp[ip,List.find?_cons,e]
theorem j5{p : κ×V}{r:List (κ×V)}{k : κ}(e : ¬p.1=k):ip (p::r) k=ip r k:=by simp[ip,List.find?_cons,e]
theorem qb(k : κ):∀kvs:List (κ×V),(kvs.any λkv=>decide (kv.1=k))=(ip kvs k).isSome
 | []=>rfl
 |p::r=>by
  rw[List.any_cons]
  by_cases e:p.1=k
  ·simp only[j4 e,decide_eq_true e,Bool.true_or,Option.isSome_some]
  ·rw[j5 e,zaO e,Bool.false_or];exact qb k r
theorem om(kvs:List (κ×V))(k : κ)(v:V):(putK kvs k v).length<=kvs.length+1:=by
 unfold putK;split
 ·rw[zal];omega
 ·rw[zau,zaw,List.length_nil];omega
theorem kW.i5(r:kW o u):o.isSome=u.isSome:=by
 cases o with
 |none=>cases u with
  |none=>rfl
  |some _=>exact(show False from r).elim
 |some _=>cases u with
  |none=>exact(show False from r).elim
  |some _=>rfl
theorem KV.val(r:KV kvs vs)(k : κ):kW (ip kvs k) (valueAt vs k):=by
 unfold KV at r
 induction r with
 |nil=>exact True.intro
 | @cons p q ps qs h t ih=>
  obtain⟨h1,h2⟩:=h
  by_cases e:p.1=k
  ·have e':q.1=k:=h1.symm.trans e
   have b:valueAt (q::qs) k=some q.2:=by simp[valueAt,List.find?_cons,e']
   rw[j4 e,b];exact h2
  ·have e' : ¬q.1=k:=λz=>e (h1.trans z)
   have b:valueAt (q::qs) k=valueAt qs k:=by simp[valueAt,List.find?_cons,e']
   rw[j5 e,b];exact ih
theorem KV.any(r:KV kvs vs)(k : κ):(kvs.any λkv=>decide (kv.1=k))=vs.any λkv=>decide (kv.1=k):=by
 unfold KV at r
 induction r with
 |nil=>rfl
 |cons h t ih=>rw[List.any_cons,List.any_cons,ih,h.1]
theorem KV.repl(r:KV kvs vs)(k : κ)(ry:RelV y u) :
  KV (kvs.map λkv=>if kv.1=k then(kv.1,y)else kv) (vs.map λkv=>if kv.1=k then(kv.1,u)else kv):=by
 unfold KV at r⊢
 induction r with
 |nil=>exact .nil
 | @cons p q ps qs h t ih=>
  rw[zaz,zaz];refine .cons ?_ ih;obtain⟨h1,h2⟩:=h
  by_cases e:p.1=k
  ·rw[if_pos e,if_pos (h1.symm.trans e)];exact⟨h1,ry⟩
  ·rw[if_neg e,if_neg (λz=>e (h1.trans z))];exact⟨h1,h2⟩
theorem KV.put(r:KV kvs vs)(k : κ)(ry:RelV y u):KV (putK kvs k y) (stored vs k u):=by
 unfold putK stored;rw[r.any k]
 by_cases e:(vs.any λkv=>decide (kv.1=k))=true
 ·rw[if_pos e,if_pos e];exact r.repl k ry
 ·rw[if_neg e,if_neg e];exact Paired.snoc r ⟨rfl,ry⟩
theorem KV.drop(r:KV kvs vs)(k : κ):KV (oh kvs k) (without vs k):=by
 unfold KV at r⊢;unfold oh without
 induction r with
 |nil=>exact .nil
 | @cons p q ps qs h t ih=>
  obtain⟨h1,h2⟩:=h;rw[List.filter_cons,List.filter_cons]
  by_cases e:p.1=k
  ·have a : ¬decide (p.1≠k)=true:=by simp[e]
   have b : ¬decide (q.1≠k)=true:=by simp[h1.symm.trans e]
   rw[if_neg a,if_neg b];exact ih
  ·have e' : ¬q.1=k:=λz=>e (h1.trans z)
   have a:decide (p.1≠k)=true:=by simp[e]
   have b:decide (q.1≠k)=true:=by simp[e']
   rw[if_pos a,if_pos b];exact .cons ⟨h1,h2⟩ ih
theorem KV.length{kvs:List (κ×V)}{vs:List (κ×Value)}(r:KV kvs vs):kvs.length=vs.length:=Paired.length r
theorem C9(kvs:List (κ×V))(k : κ):(oh kvs k).length<=kvs.length:=zaY _ _
end
theorem rP(r:RelV (kV k) u):(bU P w).is k u=true:=by
 cases k with
 |inl i=>obtain⟨t,e⟩:=(show∃t,u=Value.int i t from r);subst e;exact uV P w i t
 |inr x=>obtain⟨t,e⟩:=(show∃t,u=Value.str x t from r);subst e;exact uW P w x t
theorem rQ:∀{ks:List Key} {us:List Value},Vals (ks.map kV) us->ItemsAre (bU P w) ks us
 | [],_,r=>by rw[List.map_nil]at r;cases r;exact .nil
 |k::ks,_,r=>by
  rw[zaz]at r;cases r with
  |cons h t=>exact .cons (rP h) (rQ t)
abbrev KT(H:Hp):List (List Key×V)->List (List Key×Addr×Value)->Prop:=Paired λp q=>p.1=q.1/\H q.2.1=some (.tup (p.1.map kV))/\RelV p.2 q.2.2
theorem KT.val(r:KT H kvs xs)(k:List Key):kW (ip kvs k) ((atKey xs k).map (·.2)):=by
 induction r with
 |nil=>exact True.intro
 | @cons p q ps qs h t ih=>
  obtain⟨h1,_,h2⟩:=h
  by_cases e:p.1=k
  ·have e':q.1=k:=h1.symm.trans e
   have b:atKey (q::qs) k=some q.2:=by simp[atKey,List.find?_cons,e']
   rw[j4 e,b];exact h2
  ·have e' : ¬q.1=k:=λz=>e (h1.trans z)
   have b:atKey (q::qs) k=atKey qs k:=by simp[atKey,List.find?_cons,e']
   rw[j5 e,b];exact ih
theorem KT.repl(r:KT H kvs xs)(k:List Key)(ry:RelV y u) :
  KT H (kvs.map λkv=>if kv.1=k then(kv.1,y)else kv) (xs.map (putAt k u)):=by
 induction r with
 |nil=>exact .nil
 | @cons p q ps qs h t ih=>
  rw[zaz,zaz];refine .cons ?_ ih;obtain⟨h1,h2,h3⟩:=h;unfold putAt
  by_cases e:p.1=k
  ·rw[if_pos e,if_pos (h1.symm.trans e)];exact⟨h1,h2,ry⟩
  ·rw[if_neg e,if_neg (λz=>e (h1.trans z))];exact⟨h1,h2,h3⟩
theorem KT.put(r:KT H kvs xs)(k:List Key)(hb:H b=some (.tup (k.map kV)))(ry:RelV y u) :
  KT H (putK kvs k y) (storedH xs k b u):=by
 have e:(kvs.any λkv=>decide (kv.1=k))=(atKey xs k).isSome:=by
  rw[qb,(r.val k).i5,Option.isSome_map]
 unfold putK storedH;rw[e]
 by_cases q:(atKey xs k).isSome=true
 ·rw[if_pos q,if_pos q];exact r.repl k ry
 ·rw[if_neg q,if_neg q];exact Paired.snoc r ⟨rfl,hb,ry⟩
theorem KT.keeps(r:KT H kvs xs)(ht:∀b ys,H b=some (.tup ys)->H' b=some (.tup ys)):KT H' kvs xs :=
 Paired.IC r λ_ _ z=>⟨z.1,ht _ _ z.2.1,z.2.2⟩
section
variable{P:Program}{w:World}{H:Hp}{h:Heap}{a:Addr}
theorem HF(ok:HOk P w H h)(e:Rd H a u):bR P w H h a u:=e.ok ok
theorem oq(ok:HOk P w H h)(e:Rd H a (.dK kvs)):kvs.length<=sizeLine/\(a==sysModules)=false/\∃vs,KV kvs vs/\h.DictOf (bU P w) a vs :=
 show bR P w H h a (.dK kvs)from HF ok e
theorem zB(ok:HOk P w H h)(e:H a=some (.dK kvs)):kvs.length<=sizeLine/\(a==sysModules)=false/\∃vs,KV kvs vs/\h.DictOf (bU P w) a vs:=oq ok (.inl e)
theorem qc(ok:HOk P w H h)(e:H a=some (.tup (ks.map kV))):(tupleKind (bU P w)).is h ks a:=by
 obtain⟨_,its,r,o,h1,h2,n,h3⟩:=bR.Lf (P:=P) (w:=w) (H:=H) (ok a _ e);exact⟨o,its.toArray,n,h1,h2,h3,by simpa using rQ r⟩
theorem vR(ok:HOk P w H h)(e:Rd H a (.dT kvs)):kvs.length<=sizeLine/\(a==sysModules)=false/\
  ∃xs,KT H kvs xs/\h.DictOfH (tupleKind (bU P w)) a xs:=by
 obtain⟨z,y,xs,r,o,es,ep,h1,h2,h3,h4,h5⟩:=(show bR P w H h a (.dT kvs)from HF ok e);refine⟨z,y,xs,r,o,es,ep,h1,h2,h3,h4,λx hx=>?_,h5⟩
 have all:∀{l:List (List Key×V)} {m:List (List Key×Addr×Value)},KT H l m->∀x∈m,(tupleKind (bU P w)).is h x.1 x.2.1:=by
  intro l m q
  induction q with
  |nil=>intro x hx;exact nomatch hx
  | @cons p q ps qs hq t ih=>
   intro x hx;rcases zaf hx with e|hx
   ·subst e
    exact qc ok (by rw[<-hq.1];exact hq.2.1)
   ·exact ih x hx
 exact all r x hx
theorem LI(ok:HOk P w H h)(e:H a=some (.dT kvs)):kvs.length<=sizeLine/\(a==sysModules)=false/\
  ∃xs,KT H kvs xs/\h.DictOfH (tupleKind (bU P w)) a xs:=vR ok (.inl e)
end
def mq(H:Hp)(a:Addr)(y:V)(r:Option V):Prop :=
 (∃kvs k,Rd H a (.dK kvs)/\y=kV k/\r=ip kvs k)\/∃kvs k b,Rd H a (.dT kvs)/\y=.ref b/\H b=some (.tup (k.map kV))/\r=ip kvs k
def AQ(H:Hp)(a:Addr)(y v:V)(H':Hp):Prop :=
 (∃kvs k,H a=some (.dK kvs)/\y=kV k/\kvs.length<sizeLine/\H'=upd H a (.dK (putK kvs k v)))\/
 ∃kvs k b,H a=some (.dT kvs)/\y=.ref b/\H b=some (.tup (k.map kV))/\kvs.length<sizeLine/\H'=upd H a (.dT (putK kvs k v))
section
variable{X:Cx}{pins:List (Addr×Obj)}{σ:St}{H:Hp}{s:Shared}{a:Addr}{y v:V}{u r:Value}{o:Option V}{A:Around}{E:Value->Shared->Prop}
theorem Inv.big(I:Inv X pins σ H s):sysModules<s.heap.objs.size:=by
 have h:mainGlobals<s.heap.objs.size:=(I.mod.glob.keeps I.bk).lt;exact Nat.lt_trans (by decide) h
theorem AR(hu:A.units+1<cLine)(I:Inv X pins σ H s)(g:mq H a y (some v))(ry:RelV y u)(h:∀w' s',Inv X pins σ H s'->RelV v w'->Q w' s') :
  wpAny (model X.prog X.w) A (getItem (.ref a) u) Q E s:=by
 rcases g with⟨kvs,k,e,ey,l⟩|⟨kvs,k,b,e,ey,eb,l⟩
 ·subst ey
  obtain⟨z,hd,vs,rel,dd⟩:=oq I.hok e;obtain⟨w',hw,rw'⟩:=kW.some_of (v:=v) (o:=valueAt vs k) (by rw[l];exact rel.val k)
  exact wpAny_getItem_of (rP ry) dd.mapOf hw (h w' _ (I.tok _) rw')
 ·subst ey
  cases(show u=Value.ref b from ry);obtain⟨z,hd,xs,rel,dd⟩:=vR I.hok e;obtain⟨w',hw,rw'⟩:=kW.some_of (v:=v) (o:=(atKey xs k).map (·.2)) (by rw[l];exact rel.val k)
  obtain⟨p,hp,hp2⟩:=zab hw;refine wpAny_getItem_heap (tupleKind_room_in1 hu) (qc I.hok eb) dd hp ?_;rw[hp2];exact h w' _ (I.tok _) rw'
theorem M9(hu:A.units+1<cLine)(I:Inv X pins σ H s)(g:mq H a y o)(ry:RelV y u)(h:∀s',Inv X pins σ H s'->Q (.bool o.isSome) s') :
  wpAny (model X.prog X.w) A (compareOp .In u (.ref a)) Q E s:=by
 rcases g with⟨kvs,k,e,ey,l⟩|⟨kvs,k,b,e,ey,eb,l⟩
 ·subst ey
  obtain⟨z,hd,vs,rel,dd⟩:=oq I.hok e;refine wpAny_in_of (rP ry) hd dd.mapOf ?_;rw[<-(rel.val k).i5,<-l];exact h _ (I.tok _)
 ·subst ey
  cases(show u=Value.ref b from ry);obtain⟨z,hd,xs,rel,dd⟩:=vR I.hok e;refine wpAny_in_heap (tupleKind_room_in1 hu) (qc I.hok eb) hd dd ?_;have q:=(rel.val k).i5;rw[Option.isSome_map]at q;rw[<-q,<-l];exact h _ (I.tok _)
theorem F6(hu:A.units+1<cLine)(I:Inv X pins σ H s)(g:mq H a y o)(ry:RelV y u)(h:∀s',Inv X pins σ H s'->Q (.bool (!o.isSome)) s') :
  wpAny (model X.prog X.w) A (compareOp .NotIn u (.ref a)) Q E s:=by
 rcases g with⟨kvs,k,e,ey,l⟩|⟨kvs,k,b,e,ey,eb,l⟩
 ·subst ey
  obtain⟨z,hd,vs,rel,dd⟩:=oq I.hok e;refine wpAny_notIn_of (rP ry) hd dd.mapOf ?_;rw[<-(rel.val k).i5,<-l];exact h _ (I.tok _)
 ·subst ey
  cases(show u=Value.ref b from ry);obtain⟨z,hd,xs,rel,dd⟩:=vR I.hok e;refine wpAny_notIn_heap (tupleKind_room_in1 hu) (qc I.hok eb) hd dd ?_;have q:=(rel.val k).i5;rw[Option.isSome_map]at q;rw[<-q,<-l];exact h _ (I.tok _)
theorem oU(I:Inv X pins σ H s)(mu:Mut (H a))(hs:Heap.SameBut a s.heap h')(he:∃q,h'.get? a=some q)(new:bR X.prog X.w (upd H a ob) h' a ob) :
  Inv X pins σ (upd H a ob) {s with heap:=h',toks:=t'} :=
 I.write (x:=a) (e:=a) mu (.inl rfl) (λb q hb z=>(hs.2 b hb).trans z) he new
theorem tN(z:kvs.length<=sizeLine)(hd:(a==sysModules)=false)(rel:KV kvs vs)(dd:h'.DictOf (bU P w) a vs) :
  bR P w H' h' a (.dK kvs):=⟨z,hd,vs,rel,dd⟩
theorem AS(hu:A.units+1<cLine)(I:Inv X pins σ H s)(g:AQ H a y v H')(ry:RelV y u)(rv:RelV v r)(h:∀s',Inv X pins σ H' s'->Q () s') :
  wpAny (model X.prog X.w) A (setItem (.ref a) u r) Q E s:=by
 rcases g with⟨kvs,k,e,ey,l,eH⟩|⟨kvs,k,b,e,ey,eb,l,eH⟩
 ·subst ey eH
  obtain⟨z,hd,vs,rel,dd⟩:=zB I.hok e;have hz:vs.length<=sizeLine:=by rw[<-rel.length];exact z
  have hl:(putK kvs k v).length<=sizeLine:=by have:=om kvs k v;omega
  refine wpAny_setItem_pairs (hsz:=hz) (rP ry) dd λh' dd' hs=>h _ ?_
  have he:∃q,h'.get? a=some q:=let⟨q,_,_,hq,_⟩:=dd';⟨q,hq⟩
  exact oU I (by rw[e];exact True.intro) hs he (tN hl hd (rel.put k rv) dd')
 ·subst ey eH
  cases(show u=Value.ref b from ry);obtain⟨z,hd,xs,rel,dd⟩:=LI I.hok e;have hz:xs.length<=sizeLine:=by rw[<-Paired.length rel];exact z
  have hl:(putK kvs k v).length<=sizeLine:=by have:=om kvs k v;omega
  refine wpAny_setItem_heap (hsz:=hz) (tupleKind_room_in1 hu) (qc I.hok eb) dd λh' dd' hs=>h _ ?_
  obtain⟨q,es,ep,hq,h2,h3,h4,_,h5⟩:=dd';refine oU I (by rw[e];exact True.intro) hs ⟨q,hq⟩ ⟨hl,hd,_,(rel.put k eb rv).keeps λc ys ec=>?_,q,es,ep,hq,h2,h3,h4,h5⟩
  rw[ah (KR ec e (λz=>nomatch z))]
  exact ec
end
section
variable{X:Cx}{pins:List (Addr×Obj)}{σ:St}{H:Hp}{s:Shared}{a:Addr}{kvs:List (Key×V)}{k:Key}{u:Value}{A:Around}{E:Value->Shared->Prop}
theorem LJ(I:Inv X pins σ H s)(e:H a=some (.dK kvs))(ry:RelV (kV k) u)(l:ip kvs k=some v)(hm:more=[]\/∃x,more=[x])
  (h:∀w' s',Inv X pins σ (upd H a (.dK (oh kvs k))) s'->RelV v w'->Q w' s'):wpAny (model X.prog X.w) A (call (.builtin "dict.pop") (.ref a::u::more)) Q E s:=by
 obtain⟨z,hd,vs,rel,dd⟩:=zB I.hok e;obtain⟨w',hw,rw'⟩:=kW.some_of (v:=v) (o:=valueAt vs k) (by rw[<-l];exact rel.val k)
 have hp:(keyPart u).isSome=true:=by
  cases k with
  |inl i=>obtain⟨t,q⟩:=(show∃t,u=Value.int i t from ry);subst q;rfl
  |inr x=>obtain⟨t,q⟩:=(show∃t,u=Value.str x t from ry);subst q;rfl
 have ha:argsOk "dict.pop" ⟨.ref a::u::more,[]⟩:=by
  rcases hm with q|⟨x,q⟩
  ·subst q;exact PySem.F.args_dict_pop_2 _ _
  ·subst q;exact PySem.F.args_dict_pop_3 _ _ _
 refine call_meetsIn PySem.F.slot_dict_pop dd.typeIs PySem.F.entry_dict_pop ha (meets_dict_pop_there (bU X.prog X.w) a (rP ry) more hm hp)
  ⟨vs,w',dd,by rw[<-rel.length];exact z,hw,λh' dd' hs=>h w' _ ?_ rw'⟩
 have he:∃q,h'.get? a=some q:=let⟨q,_,_,hq,_⟩:=dd';⟨q,hq⟩
 exact oU I (by rw[e];exact True.intro) hs he (tN (zaX (C9 kvs k) z) hd (rel.drop k) dd')
end
def LK(i:Expr):Prop:=∀ov iv,subscripted i false ov iv=operate [ov,iv] (getItem ov iv)
theorem F7{prog:Program}{w:World}{A:Around}{E:Value->Shared->Prop}{s:Shared}{env:Env}{value slice:Expr}{pos:Pos}{T id:String}{Q:Value->Shared->Prop}
  (hl:typeLookup (.type T) "__getitem__"=pure (some (.builtin id))) (hs:LK slice)
  (h:wpAny (model prog w) A (eval value env) (λo s₁=>wpAny (model prog w) A (eval slice env) (λi s₂=>s₂.TypeIs o T/\wpAny (model prog w) A (getItem o i) Q E s₂) E s₁) E s) :
  wpAny (model prog w) A (eval (.Subscript value slice pos) env) Q E s:=by
 refine Subscript_ (za6 h (λo s₁ h₁=>za6 h₁ (λi s₂ h₂=>?_) λ_ _ x=>x) λ_ _ x=>x)
 obtain⟨hT,h₂⟩:=h₂;unfold subscriptTail;refine zaI ?_;rw[getitemInPython_of_ne hT.not_modules];refine zaI (wpAny_specialOf hT hl ?_);have fin:wpAny (model prog w) A (subscripted slice false o i) (λr s₃=>wpAny (model prog w) A (letTemporaryGo value o r>>=λ_=>pure r) Q E s₃) E s₂:=by
  rw[hs o i];exact wpAny_operating (za6 h₂ (λr s₃ h₃=>zaI (wpAny_letTemporaryGo (zaZ h₃))) λ_ _ x=>x)
 first
  |exact zaZ (zaI fin)
  |exact zaI (zaZ (zaI fin))
  |exact zaI fin
theorem vS{X:Cx}{pins:List (Addr×Obj)}{σ:St}{H:Hp}{s:Shared}{a:Addr}{y:V}{o:Option V}(I:Inv X pins σ H s)(g:mq H a y o):s.TypeIs (.ref a) "dict":=by
 rcases g with⟨kvs,k,e,_,_⟩|⟨kvs,k,b,e,_,_,_⟩
 ·obtain⟨_,_,vs,_,dd⟩:=oq I.hok e
  exact dd.typeIs
 ·obtain⟨_,_,xs,_,dd⟩:=vR I.hok e
  exact dd.typeIs
def LL(td ty:TE):TE:=fun σ H Q=>td σ H λx H1=>ty σ H1 λy H2=>∃a v,x=.ref a/\mq H2 a y (some v)/\Q v H2
def Na(ty td:TE):TE:=fun σ H Q=>ty σ H λy H1=>td σ H1 λx H2=>∃a o,x=.ref a/\mq H2 a y o/\Q (.bl o.isSome) H2
def F8(ty td:TE):TE:=fun σ H Q=>ty σ H λy H1=>td σ H1 λx H2=>∃a o,x=.ref a/\mq H2 a y o/\Q (.bl (!o.isSome)) H2
def Dc(td ty tv:TE):TS:=λD σ H=>tv σ H λv H1=>td σ H1 λx H2=>ty σ H2 λy H3=>∃a H4,x=.ref a/\AQ H3 a y v H4/\D.nx σ H4
section
variable{X:Cx}{o i e value:Expr}{pos pos' tpos:Pos}{td ty tv:TE}
theorem bZ(hu:X.A.units+1<cLine)(ho:PE X o td)(hi:PE X i ty)(hs:LK i):PE X (.Subscript o i pos) (LL td ty):=by
 intro pins s σ H Q I h;refine F7 PySem.F.slot_dict_getitem.lookup hs (thn (ho pins s σ H _ I h) λu s1 ⟨x,H1,I1,rx,q1⟩=>thn (hi pins s1 σ H1 _ I1 q1) λiv s2 ⟨y,H2,I2,ry,a,v,ex,g,q2⟩=>?_)
 subst ex;obtain rfl:u=Value.ref a:=rx;exact⟨vS I2 g,AR hu I2 g ry λw' s3 I3 rw'=>⟨v,H2,I3,rw',q2⟩⟩
theorem qd(hu:X.A.units+1<cLine)(hi:PE X i ty)(ho:PE X o td):PC X .In i o (Na ty td):=by
 intro pins s σ H Q I h;refine thn (hi pins s σ H _ I h) λiv s1 ⟨y,H1,I1,ry,q1⟩=>thn (ho pins s1 σ H1 _ I1 q1) λu s2 ⟨x,H2,I2,rx,a,ov,ex,g,q2⟩=>?_
 subst ex;obtain rfl:u=Value.ref a:=rx;exact M9 hu I2 g ry λs3 I3=>⟨.bl ov.isSome,H2,I3,rfl,q2⟩
theorem AU(hu:X.A.units+1<cLine)(hi:PE X i ty)(ho:PE X o td):PC X .NotIn i o (F8 ty td):=by
 intro pins s σ H Q I h;refine thn (hi pins s σ H _ I h) λiv s1 ⟨y,H1,I1,ry,q1⟩=>thn (ho pins s1 σ H1 _ I1 q1) λu s2 ⟨x,H2,I2,rx,a,ov,ex,g,q2⟩=>?_
 subst ex;obtain rfl:u=Value.ref a:=rx;exact F6 hu I2 g ry λs3 I3=>⟨.bl (!ov.isSome),H2,I3,rfl,q2⟩
theorem dW(hu:X.A.units+1<cLine)(ho:PE X o td)(hi:PE X i ty)(hv:PE X value tv)(hs:swapsWith value (some (.Subscript o i pos')) pos.line X.env=pure false) :
  PS X (.Assign [.Subscript o i pos'] value pos) (Dc td ty tv):=by
 intro pins s σ H D I h;refine wpAny_Assign_Subscript (thn (hv pins s σ H _ I h) λr s1 ⟨v,H1,I1,rv,q1⟩=>thn (ho pins s1 σ H1 _ I1 q1) λu s2 ⟨x,H2,I2,rx,q2⟩=>thn (hi pins s2 σ H2 _ I2 q2) λiv s3 ⟨y,H3,I3,ry,a,H4,ex,g,q3⟩=>?_) hs
 subst ex;obtain rfl:u=Value.ref a:=rx;exact AS hu I3 g ry rv λs4 I4=>⟨σ,H4,I4,q3⟩
end
theorem De(h:Heap)(hb:sysModules<h.objs.size):bR P w H (h.push {cls:=.type "dict",data:=.dict #[]}) h.objs.size (.dK []) :=
 ⟨Nat.zero_le _,beq_eq_false_iff_ne.mpr (Ne.symm (zaS hb)),[],.nil,Heap.DictOf.new h⟩
def Df:TE:=λ_ H Q=>∀p,H p=none->Q (.ref p) (upd H p (.dK []))
section
variable{X:Cx}{pos:Pos}
theorem i6:PE X (.Dict [] [] pos) Df:=λpins s σ H Q I h=>
 wpAny_Dict_empty ⟨.ref s.heap.objs.size,_,I.laid (a:=s.heap.objs.size) (o:=.dK []) (t':=s.toks) (λ_ _ q=>zar _ q) (zap _) (De s.heap I.big),rfl,h _ (I.hok.fresh (zap _))⟩
end
structure M1(X:Cx)(o:Expr)(m:Str)(apos:Pos)(e:Expr)(cpos:Pos):Prop where
 base:attributeBase o m X.env (eval o X.env)=eval o X.env
 few:((backTo cpos (starEach [e] X.env)).all (λx=>!x.1)&&(backToKw cpos (keywordEach [] X.env)).all (λx=>x.1.isSome)
  &&decide (([e]:List Expr).length+([]:List Keyword).length+(if([]:List Keyword).isEmpty then 0 else 1)<30))=true
 line:(apos.endLine==cpos.line)=true
 trees:backTo cpos (starEach [e] X.env)=[(false,eval e X.env)]
structure M2(X:Cx)(o:Expr)(m:Str)(apos:Pos)(e f:Expr)(cpos:Pos):Prop where
 base:attributeBase o m X.env (eval o X.env)=eval o X.env
 few:((backTo cpos (starEach [e,f] X.env)).all (λx=>!x.1)&&(backToKw cpos (keywordEach [] X.env)).all (λx=>x.1.isSome)
  &&decide (([e,f]:List Expr).length+([]:List Keyword).length+(if([]:List Keyword).isEmpty then 0 else 1)<30))=true
 line:(apos.endLine==cpos.line)=true
 trees:backTo cpos (starEach [e,f] X.env)=[(false,eval e X.env),(false,eval f X.env)]
section
variable{X:Cx}{pins:List (Addr×Obj)}{σ:St}{H:Hp}{s:Shared}{a:Addr}{kvs:List (Key×V)}{A:Around}{E:Value->Shared->Prop}
theorem Dg(I:Inv X pins σ H s)(e:Rd H a (.dK kvs))(h:∀p s',H p=none->Inv X pins σ (upd H p (.dK kvs)) s'->Q (.ref p) s'):wpAny (model X.prog X.w) A (call (.type "dict") [.ref a]) Q E s:=by
 obtain⟨z,hd,vs,rel,dd⟩:=oq I.hok e;refine kt_call_dict hd dd (by rw[<-rel.length];exact z) λh' dd' hs=>?_
 refine h _ _ (I.hok.fresh (zap _)) (I.laid (a:=s.heap.objs.size) (o:=.dK kvs) (t':=s.toks) (λb q hq=>?_) (zap _) (tN z (beq_eq_false_iff_ne.mpr (Ne.symm (zaS I.big))) rel dd'))
 exact(hs.2 b (zaS (zaq hq))).trans (zar _ hq)
end
section
variable{X:Cx}
end
end L2
namespace Mir
open PySem L2
variable [Zc]
def k9:PM:=fun ρ=>some ((.dict [],.new),ρ)
theorem kI:ME Df k9:=by
 intro F B H σ ρ r ρ' Q R e q;cases e;exact fv (res:=(.dict [],true)) (k:=λQ=>∀p,H p=none->Q (.ref p) (upd H p (.dK []))) (Q:=Q) R ⟨[],.nil,λQ h=>h⟩ λv B' H' E R' V' N=>q v B' H' E R' V' N
def xR:Option Sl->Option (List (D×D))
 |some (.own (.dict es))=>some es
 |some (.io (.dict es))=>some es
 |_=>none
theorem zC(h:xR s=some es):∃t,s=some t/\t.eM=true/\slD t=.dict es:=by
 unfold xR at h;split at h
 ·cases h;exact⟨_,rfl,rfl,rfl⟩
 ·cases h;exact⟨_,rfl,rfl,rfl⟩
 ·cases h
theorem Own.dict{B H:Hp}{p:Addr}{es:List (D×D)}(h:Own B H p (.dict es)):∃kvs,H p=some (.dK kvs)/\a0 B kvs es:=by
 cases h with
 |dct h r=>exact⟨_,h,r⟩
theorem a0.snoc(hk:l7 k c)(hx:Rep B x d):∀{kvs:List (Key×V)} {es:List (D×D)},a0 B kvs es->a0 B (kvs++[(k,x)]) (es++[(c,d)])
 |_,_,.nil=>.cons hk hx .nil
 |_,_,.cons h1 h2 r=>.cons h1 h2 (a0.snoc hk hx r)
theorem a0.length:∀{kvs:List (Key×V)} {es:List (D×D)},a0 B kvs es->kvs.length=es.length
 |_,_,.nil=>rfl
 |_,_,.cons _ _ r=>by rw[zaw,zaw,a0.length r]
def Dh:List (D×D)->Option (List Int)
 | []=>some []
 |(_,.int i)::r=>(Dh r).map (i::·)
 |_=>none
end Mir
namespace L2
open PySem PySem.Spec PyProof.Rows
section
variable{X:Cx}
def Di:List V->Hp->VK->Prop:=λxs H Q=>∃a kvs,xs=[V.ref a]/\Rd H a (.dK kvs)/\∀p,H p=none->Q (.ref p) (upd H p (.dK kvs))
theorem dk:dZ X (.type "dict") Di:=by
 intro pins s σ H xs us Q I r h;obtain⟨a,kvs,rfl,ha,q⟩:=h;cases r with
 |cons r1 r=>
  cases r;obtain rfl:=r1;exact Dg I ha λp s' hp I'=>⟨.ref p,_,I',rfl,q p hp⟩
theorem Dk(h:(bU P w).is k u=true):RelV (kV k) u:=by
 rw[xf]at h;rcases cP h with⟨i,t,rfl,rfl⟩|⟨x,t,rfl,rfl⟩
 ·exact⟨t,rfl⟩
 ·exact⟨t,rfl⟩
theorem AV(us:List Value)(r:KV kvs vs)(hl:us.length=vs.length)(hv:∀(j:Nat) (v:Value),us[j]?=some v->∃k x,vs[j]?=some (k,x)/\(bU P w).is k v=true):Vals (kvs.map λq=>kV q.1) us:=by
 induction r generalizing us with
 |nil=>
  cases us with
  |nil=>exact .nil
  |cons u us=>cases hl
 | @cons a b l1 l2 h t ih=>
  cases us with
  |nil=>cases hl
  |cons u us=>
   obtain⟨k,x,e1,e2⟩:=hv 0 u rfl;have e3:b=(k,x):=by simpa using e1
   subst e3;have e4:a.1=k:=h.1;refine .cons ?_ (ih us (by simpa using hl) λj v e=>hv (j+1) v (by simpa using e))
   show RelV (kV a.1) u;rw[e4];exact Dk e2
end
end L2
namespace Mir
open PySem L2
variable [Zc]
def keyOf:D->Option Key
 | .int i=>some (.inl i)
 | .str x=>some (.inr x)
 |_=>none
theorem l7.of(h:l7 k c):keyOf c=some k:=by
 cases k with
 |inl i=>obtain rfl:=(show c=.int i from h);rfl
 |inr x=>obtain rfl:=(show c=.str x from h);rfl
theorem zD(h:keyOf c=some k):l7 k c:=by
 unfold keyOf at h;split at h
 ·cases h;exact rfl
 ·cases h;exact rfl
 ·cases h
def dO:List (D×D)->Key->Option D
 | [],_=>none
 |(c,d)::r,k=>if keyOf c=some k then some d else dO r k
theorem i7:∀{kvs:List (Key×V)} {es:List (D×D)},a0 B kvs es->(∀d,dO es k=some d->∃u,ip kvs k=some u/\Rep B u d)/\(dO es k=none->ip kvs k=none)
 |_,_,.nil=>⟨λd h=>(by cases h),λ_=>rfl⟩
 |_,_,.cons (k:=k') (x:=x) (c:=c) (d:=d) (kvs:=kvs) (es:=es) hk hx r=>by
  have ih:=i7 (k:=k) r
  by_cases e:k'=k
  ·subst e
   have hl:dO ((c,d)::es) k'=some d:=if_pos hk.of;refine⟨λd' h=>?_,λh=>?_⟩
   ·rw[hl]at h;cases h
    exact⟨x,j4 rfl,hx⟩
   ·rw[hl]at h;cases h
  ·have hv:ip ((k',x)::kvs) k=ip kvs k:=j5 e
   have hl:dO ((c,d)::es) k=dO es k:=if_neg λz=>e (by rw[hk.of]at z;exact zaQ z)
   rw[hv,hl];exact ih
theorem View.key(h:View B H y d)(e:keyOf d=some k):y=kV k:=by
 unfold keyOf at e;split at e
 ·cases e
  rcases h with h|⟨p,_,h⟩
  ·cases h;rfl
  ·cases h
 ·cases e
  rcases h with h|⟨p,_,h⟩
  ·cases h;rfl
  ·cases h
 ·cases e
def LM:R2:=λx y H Q=>∃a v,x=.ref a/\mq H a y (some v)/\Q v H
def Nb:R2:=λy x H Q=>∃a o,x=.ref a/\mq H a y o/\Q (.bl o.isSome) H
def F9:R2:=λy x H Q=>∃a o,x=.ref a/\mq H a y o/\Q (.bl (!o.isSome)) H
def dP:D->D->Option (D×Bool)
 | .dict es,c=>(keyOf c).bind λk=>(dO es k).map λd=>(d,false)
 |_,_=>none
theorem dQ:OpJ LM dP:=by
 intro B H x y c d res s hx hy e;unfold dP at e;split at e
 ·obtain⟨k,h1,e⟩:=zaa e
  obtain⟨v,h2,e⟩:=zab e;cases e;obtain rfl:=hy.key h1;obtain⟨a,kvs,rfl,r1,rk⟩:=hx.dict s;obtain⟨u,h3,h4⟩:=(i7 rk).1 v h2;exact⟨u,h4,λQ q=>⟨a,u,rfl,.inl ⟨kvs,k,r1,rfl,h3.symm⟩,q⟩⟩
 ·cases e
def mr:D->D->Option (D×Bool)
 |c,.dict es=>(keyOf c).map λk=>(.bool (dO es k).isSome,false)
 |_,_=>none
def mv:D->D->Option (D×Bool)
 |c,.dict es=>(keyOf c).map λk=>(.bool (!(dO es k).isSome),false)
 |_,_=>none
theorem tO(r:a0 B kvs es):(ip kvs k).isSome=(dO es k).isSome:=by
 cases h:dO es k with
 |none=>rw[(i7 r).2 h];rfl
 |some d=>obtain⟨u,h1,_⟩:=(i7 r).1 d h;rw[h1];rfl
theorem vT:OpJ Nb mr:=by
 intro B H y x c d res s hy hx e;unfold mr at e;split at e
 ·obtain⟨k,h1,e⟩:=zab e
  cases e;obtain rfl:=hy.key h1;obtain⟨a,kvs,rfl,r1,rk⟩:=hx.dict s;exact⟨.bl _,.bl _,λQ q=>⟨a,_,rfl,.inl ⟨kvs,k,r1,rfl,rfl⟩,by rw[tO rk];exact q⟩⟩
 ·cases e
theorem Dl:OpJ F9 mv:=by
 intro B H y x c d res s hy hx e;unfold mv at e;split at e
 ·obtain⟨k,h1,e⟩:=zab e
  cases e;obtain rfl:=hy.key h1;obtain⟨a,kvs,rfl,r1,rk⟩:=hx.dict s;exact⟨.bl _,.bl _,λQ q=>⟨a,_,rfl,.inl ⟨kvs,k,r1,rfl,rfl⟩,by rw[tO rk];exact q⟩⟩
 ·cases e
def eK:List D->Option (D×Bool)
 | [.dict es]=>some (.dict es,true)
 |_=>none
theorem f9:kZ Di eK:=by
 intro B H vs ds res s h e;unfold eK at e;split at e
 ·cases e
  obtain⟨v,rfl,hh⟩:=gE h;obtain⟨a,kvs,rfl,r1,rk⟩:=hh.dict s;exact⟨kvs,rk,λQ q=>⟨a,kvs,rfl,r1,q⟩⟩
 ·cases e
theorem qe:∀{kvs:List (Key×V)} {es:List (D×D)},a0 B kvs es->aR B (kvs.map λq=>kV q.1) (es.map (·.1))
 |_,_,.nil=>.nil
 |_,_,.cons (k:=k) (c:=c) hk hx r=>by
  refine .cons ?_ (qe r);cases k with
  |inl i=>obtain rfl:=(show c=.int i from hk);exact .int i
  |inr x=>obtain rfl:=(show c=.str x from hk);exact .str x
def putD(es:List (D×D))(c d:D)(k:Key):List (D×D):=if(dO es k).isSome then es.map λp=>if keyOf p.1=some k then(p.1,d)else p else es++[(c,d)]
theorem zE(k:Key):∀kvs:List (Key×V),(kvs.any λkv=>decide (kv.1=k))=(ip kvs k).isSome
 | []=>rfl
 |p::l=>by
  rw[List.any_cons,zE k l]
  by_cases h:p.1=k
  ·rw[j4 h,zaH h];rfl
  ·rw[j5 h,zaO h];rfl
theorem a0.map(hv:Rep B v d):∀{kvs:List (Key×V)} {es:List (D×D)},a0 B kvs es->a0 B (kvs.map λp=>if p.1=k then(p.1,v)else p) (es.map λp=>if keyOf p.1=some k then(p.1,d)else p)
 |_,_,.nil=>.nil
 |_,_,.cons (k:=k') h1 h2 t=>by
  rw[zaz,zaz]
  by_cases e:k'=k
  ·subst e
   rw[if_pos rfl,if_pos h1.of];exact .cons h1 hv (a0.map hv t)
  ·rw[if_neg e,if_neg λz=>e (by rw[h1.of]at z;exact zaQ z)]
   exact .cons h1 h2 (a0.map hv t)
theorem a0.put(hk:l7 k c)(hv:Rep B v d)(r:a0 B kvs es):a0 B (putK kvs k v) (putD es c d k):=by
 unfold putK putD;rw[zE,tO r];split
 ·exact a0.map hv r
 ·exact a0.snoc hk hv r
def la(i:Nat)(a b:PM):SM:=fun ρ=>(sv a ρ).bind λx=>(jX x.1 x.2).bind λy=>(xR y.2[i]?).bind λ_=>(sv b y.2).bind λz=>(keyOf z.1.1).bind λk=>(xR z.2[i]?).bind λes=>cIf (es.length<100000) (some (.nx (Mir.putAt z.2 i (.dict (putD es z.1.1 y.1 k))))) none
theorem oV(ha:ME tv a)(hb:ME ty b):MS (Dc (u9 i) ty tv) (la i a b):=by
 intro F B H σ ρ o D R e q;obtain⟨x,e1,e⟩:=zaa e;obtain⟨y,e2,e⟩:=zaa e;obtain⟨es0,e3,e⟩:=zaa e;obtain⟨z,e4,e⟩:=zaa e;obtain⟨k,e5,e⟩:=zaa e;obtain⟨es,e6,e⟩:=zaa e;obtain⟨hz,e⟩:=cK e;cases e;refine ha.sv F B H σ ρ x.1 x.2 _ R e1 λv B1 H1 E1 R1 V1 N1=>?_
 have w:Fn B1 σ v x.1:=(Vl.weak (F:=F) (H:=H1) (ρ:=x.2) (vs:=[v]) (rs:=[x.1]) ⟨⟨V1,kG e1⟩,trivial⟩).1;obtain⟨B2,R2,rp,E2⟩:=R1.frz w e2;obtain⟨s0,hs0,ho0,hd0⟩:=zC e3;obtain⟨p,hv,hB,ow⟩:=R2.ownAt hs0 ho0;refine⟨_,hv,?_⟩;refine hb.sv F B2 H1 σ y.2 z.1 z.2 _ R2 e4 λu B3 H3 E3 R3 V3 N3=>?_
 obtain rfl:=(V3.view R3).key e5;obtain⟨s,hs,ho,hd⟩:=zC e6;obtain⟨p',hv',hB',ow'⟩:=R3.ownAt hs ho;rw[hv]at hv';cases hv';rw[hd]at ow';obtain⟨kvs,hp,rk⟩:=ow'.dict;obtain⟨R4,E4⟩:=R3.write (o:=.dK (putK kvs k v)) (d:=.dict (putD es z.1.1 y.1 k)) hs ho hv ⟨(λ_ z=>by cases z),λ_ _ z=>by cases z⟩ (.dct au (a0.put (zD e5) (rp.mono E3.sB) rk))
 have ep:Mir.putAt z.2 i (.dict (putD es z.1.1 y.1 k))=z.2.set i (s.put (.dict (putD es z.1.1 y.1 k))):=by unfold Mir.putAt;rw[hs]
 rw[ep]at q;exact⟨p,_,rfl,.inl ⟨kvs,k,hp,rfl,by rw[rk.length,sizeLine_eq];omega,rfl⟩,q B3 _ σ R4⟩
end Mir
namespace L2
open PySem PySem.Spec PyProof.Rows
section
variable{X:Cx}{pins:List (Addr×Obj)}{σ:St}{H:Hp}{s:Shared}{a:Addr}{kvs:List (Key×V)}
theorem Inv.view(I:Inv X pins σ H s)(e:H a=some u)(nt:∀xs,u≠.tup xs)(no:∀x,u≠.own x)(nz:∀o v,X.H₀ a≠some (.frz o v))(nb:∀ps,u≠.tbl ps)(new:bR X.prog X.w (upd H a u') s.heap a u'):Inv X pins σ (upd H a u') s:=by
 have nn:∀b,H b=none->b≠a:=λb z y=>by rw[y,e]at z;cases z
 refine⟨I.ok,I.os,I.bare,⟨I.base.keep,I.base.slot,λb o q n hx=>?_,I.base.there,λb xs q=>?_,λb o v q=>?_,λb ps q=>?_⟩,I.loc,I.cell,?_,λx c hc=>?_,λp hp=>?_,λb v q=>?_,I.len⟩
 ·have:=I.base.free b o q n hx
  rw[ah (nn b this)];exact this
 ·have z:=I.base.tups b xs q
  rw[ah (λy=>by rw[y,e]at z;exact nt xs (zaQ z))];exact z
 ·have z:=I.base.iJ b o v q
  rw[ah (λy=>nz o v (by rw[<-y];exact q))];exact z
 ·obtain⟨m,z⟩:=I.base.iy b ps q
  exact⟨m,by rw[ah (λy=>by rw[y,e]at z;exact nb _ (zaQ z))];exact z⟩
 ·rw[ah (nn _ I.free)];exact I.free
 ·have z:=I.fk x c hc
  rw[ah (nn _ z)];exact z
 ·obtain⟨a1,a2,a3,a4,a5⟩:=I.pin p hp
  exact⟨a1,by rw[ah (nn _ a2)];exact a2,a3,a4,a5⟩
 ·by_cases z:b=a
  ·subst z
   rw[au]at q;cases q;exact new
  ·rw[ah z]at q
   refine(I.hok b v q).stay (λ_ _ _ r=>r) (λc r=>?_) λc xs hk r=>?_
   ·rw[ah (λy=>by rw[y,e]at r;exact no b (zaQ r))];exact r
   ·rw[ah (λy=>by
     rw[y,e]at r;cases xs with
     |tup l=>exact nt l (zaQ r)
     |tbl l=>exact nb l (zaQ r)
     |_=>exact hk)];exact r
theorem Inv.zF(I:Inv X pins σ H s)(e:H a=some (.dK kvs)):∀o v,X.H₀ a≠some (.frz o v):=λo v z=>by
 have:=I.base.iJ a o v z;rw[e]at this;cases this
theorem Inv.JR(I:Inv X pins σ H s)(e:H a=some (.dK kvs)):∃o,Inv X pins σ (upd H a (.frz o (.dK kvs))) s:=by
 obtain⟨z,hd,vs,rel,dd⟩:=zB I.hok e;obtain⟨o,es,ep,ho,r⟩:=id dd;exact⟨o,I.view e (λ_ z=>by cases z) (λ_ z=>by cases z) (I.zF e) (λ_ z=>by cases z) ⟨ho,z,hd,vs,rel,dd⟩⟩
theorem Inv.iQ(I:Inv X pins σ H s)(e:H a=some (.frz o (.dK kvs)))(nz:∀o v,X.H₀ a≠some (.frz o v)):Inv X pins σ (upd H a (.dK kvs)) s:=by
 obtain⟨_,z,hd,vs,rel,dd⟩:=I.hok a _ e;exact I.view e (λ_ z=>by cases z) (λ_ z=>by cases z) nz (λ_ z=>by cases z) ⟨z,hd,vs,rel,dd⟩
def Ga(a:Addr)(o:Obj)(kvs:List (Key×V))(D:Ends):Ends where
 nx:=fun σ H=>H a=some (.frz o (.dK kvs))/\D.nx σ (upd H a (.dK kvs))
 rt:=λv H=>H a=some (.frz o (.dK kvs))/\D.rt v (upd H a (.dK kvs))
 bk:=fun σ H=>H a=some (.frz o (.dK kvs))/\D.bk σ (upd H a (.dK kvs))
 ct:=fun σ H=>H a=some (.frz o (.dK kvs))/\D.ct σ (upd H a (.dK kvs))
def HG(t:TS):TS:=λD σ H=>∃a kvs,H a=some (.dK kvs)/\∀o,t (Ga a o kvs D) σ (upd H a (.frz o (.dK kvs)))
theorem JS{st:Stmt}{t:TS}(h:PS X st t):PS X st (HG t):=by
 intro pins s σ H D I hw;obtain⟨a,kvs,e,q⟩:=hw;obtain⟨o,I1⟩:=I.JR e;have nz:=I.zF e;refine za6 (h pins s σ _ _ I1 (q o)) (λf s1 z=>?_) λ_ _ z=>z
 cases f with
 |next=>obtain⟨σ',H',I',e',z⟩:=z;exact⟨σ',_,I'.iQ e' nz,z⟩
 |brk=>obtain⟨σ',H',I',e',z⟩:=z;exact⟨σ',_,I'.iQ e' nz,z⟩
 |cont=>obtain⟨σ',H',I',e',z⟩:=z;exact⟨σ',_,I'.iQ e' nz,z⟩
 |ret u=>obtain⟨v,σ',H',I',r,e',z⟩:=z;exact⟨v,σ',_,I'.iQ e' nz,r,z⟩
def HH(t:TE):TE:=fun σ H Q=>∃a kvs,H a=some (.dK kvs)/\∀o,t σ (upd H a (.frz o (.dK kvs))) λv H'=>H' a=some (.frz o (.dK kvs))/\Q v (upd H' a (.dK kvs))
theorem JT(h:PE X ex t):PE X ex (HH t):=by
 intro pins s σ H Q I hw;obtain⟨a,kvs,e,q⟩:=hw;obtain⟨o,I1⟩:=I.JR e;have nz:=I.zF e;refine za6 (h pins s σ _ _ I1 (q o)) (λu s1 z=>?_) λ_ _ z=>z
 obtain⟨v,H',I',r,e',z⟩:=z;exact⟨v,_,I'.iQ e' nz,r,z⟩
def ItD(a:Addr)(o:Obj)(kvs:List (Key×V)):It where
 go:=λi H=>H a=some (.frz o (.dK kvs))/\i<kvs.length
 yld:=λi H x H'=>H'=H/\∃k v,kvs[i]?=some (k,v)/\x=kV k
 stop:=λi H=>H a=some (.frz o (.dK kvs))/\kvs.length<=i
theorem LN(r:KV kvs vs)(i:Nat)(h:vs[i]?=some (k,x)):∃v,kvs[i]?=some (k,v):=by
 induction r generalizing i with
 |nil=>simp at h
 |cons h1 t ih=>
  cases i with
  |zero=>
   rename_i p q l l'
   have e:q=(k,x):=by simpa using h
   subst e;exact⟨p.2,by show some p=_;exact congrArg some (Prod.ext h1.1 rfl)⟩
  |succ i=>simpa using ih i (by simpa using h)
theorem AW{P:Program}{w:World}{K:zag}{tg:Expr}{a it:Addr}{o:Obj}{kvs:List (Key×V)}{vs:List (Key×Value)}{ep:Nat}{h₁:Heap}(rel:KV kvs vs)(ho:h₁.get? a=some o)(hat:h₁.DictAt (bU P w) a vs ep) :
  Turn P w K tg (ItD a o kvs) [it] it (λi h=>h.IsKeyIter it a i vs.length ep) where
 mem:=by simp
 obj:=λi h st b hb=>by
  have e:b=it:=by simpa using hb
  subst e;obtain⟨o,e,c,d⟩:=st;exact⟨o,e,λv z=>by rw[d]at z;cases z⟩
 keep:=λi h h' st k=>st.at λo e=>k it (by simp) o e
 item:=by
  intro X hP hw hK hc i pins s σ H E I hf st hg;subst hP hw hK;obtain⟨hH,hi⟩:=hg;obtain⟨hg,_⟩:=I.hok a _ hH;have hd:s.heap.DictAt (bU X.prog X.w) a vs ep:=hat.at' λo' e=>by rw[ho]at e;cases e;exact hg
  obtain⟨f0,f1,f2,f3,f4,f5⟩:=hf it (by simp)
  have hl:=rel.length;obtain⟨⟨k,x⟩,hx⟩:∃p,vs[i]?=some p:=⟨vs[i]'(by omega),by simp⟩
  refine wpAny_pyNext_dict_item st hd hx λkey h' hkey st' sb=>?_
  have I1:Inv X pins σ H {s with heap:=h'}:=I.turned (t':=s.toks) (λb o hb e=>(sb.2 b hb).trans e) f0 f1 f3 f4 f5
  obtain⟨oi,e,c,d⟩:=id st';obtain⟨v,hv⟩:=LN rel i hx;exact⟨key,rfl,yX (s:={s with heap:=h'}) e c d (by decide) ⟨kV k,H,I1,Dk hkey,⟨rfl,k,v,hv,rfl⟩,st',λb hb=>(hf b hb).1⟩⟩
 done:=by
  intro X hP hw hK hc i pins s σ H E I hf st hg;subst hP hw hK;obtain⟨hH,hi⟩:=hg;obtain⟨hg,_⟩:=I.hok a _ hH;have hd:s.heap.DictAt (bU X.prog X.w) a vs ep:=hat.at' λo' e=>by rw[ho]at e;cases e;exact hg
  obtain⟨f0,f1,f2,f3,f4,f5⟩:=hf it (by simp)
  have hl:=rel.length;exact wpAny_pyNext_dict_end (I.ok.hd hc) st hd (by simp;omega) λh' eb=>⟨rfl,I.turned (t':=s.toks) (λb o hb e=>eb b o hb e) f0 f1 f3 f4 f5⟩
 self:=λA i s Q E st q=>wpAny_pyIter_keyiter st q
def Gb(tl:TE):TI:=fun σ H R=>tl σ H λx H1=>∃a o kvs,x=.ref a/\H1 a=some (.frz o (.dK kvs))/\R (ItD a o kvs) H1
theorem mw(hl:PE X l tl):PI X tg l (Gb tl):=by
 intro pins s σ H R I h;refine thn (hl pins s σ H _ I h) λv s1 ⟨x,H1,I1,r1,q1⟩=>?_
 obtain⟨a,o,kvs,e,hH,q⟩:=q1;subst e;cases r1;obtain⟨ho,z,hd,vs,rel,dd⟩:=I1.hok a _ hH;obtain⟨ep,hat⟩:=dd.dictAt;refine wpAny_pyIter_dict hd hat ?_;refine⟨s1.heap.objs.size,[s1.heap.objs.size],_,_,H1,rfl,I1.kept (t':=s1.toks) λb o e=>zar _ e,AW rel ho hat,⟨_,zaL _ rfl,rfl,rfl⟩,λb hb=>?_,q⟩
 have e:b=s1.heap.objs.size:=by simpa using hb
 subst e;exact I1.pq (zap _) (I1.hok.fresh (zap _))
end
end L2
namespace Mir
open PySem L2
variable [Zc]
mutual
theorem Rep.map(hL:∀p xs,Rd B p (.lst xs)->Rd B' p (.lst xs))(hT:∀p xs,B p=some (.tup xs)->B' p=some (.tup xs))(hD:∀p kvs,Rd B p (.dK kvs)->Rd B' p (.dK kvs)):∀{v:V} {d:D},Rep B v d->Rep B' v d
 |_,_,.non=>.non
 |_,_,.bl b=>.bl b
 |_,_,.int i=>.int i
 |_,_,.str x=>.str x
 |_,_,.lst h r=>.lst (hL _ _ h) (aR.map hL hT hD r)
 |_,_,.tup h r=>.tup (hT _ _ h) (aR.map hL hT hD r)
 |_,_,.dct h r=>.dct (hD _ _ h) (a0.map' hL hT hD r)
theorem aR.map(hL:∀p xs,Rd B p (.lst xs)->Rd B' p (.lst xs))(hT:∀p xs,B p=some (.tup xs)->B' p=some (.tup xs))(hD:∀p kvs,Rd B p (.dK kvs)->Rd B' p (.dK kvs)):∀{vs:List V} {ds:List D},aR B vs ds->aR B' vs ds
 |_,_,.nil=>.nil
 |_,_,.cons h r=>.cons (Rep.map hL hT hD h) (aR.map hL hT hD r)
theorem a0.map'(hL:∀p xs,Rd B p (.lst xs)->Rd B' p (.lst xs))(hT:∀p xs,B p=some (.tup xs)->B' p=some (.tup xs))(hD:∀p kvs,Rd B p (.dK kvs)->Rd B' p (.dK kvs)):∀{kvs:List (Key×V)} {es:List (D×D)},a0 B kvs es->a0 B' kvs es
 |_,_,.nil=>.nil
 |_,_,.cons hk h r=>.cons hk (Rep.map hL hT hD h) (a0.map' hL hT hD r)
end
section
variable{B:Hp}{a:Addr}{o:Obj}{kvs:List (Key×V)}
theorem lF(hB:B a=some (.dK kvs)):∀p xs,Rd B p (.lst xs)->Rd (upd B a (.frz o (.dK kvs))) p (.lst xs):=λp xs h=>by
 by_cases z:p=a
 ·subst z
  rcases h with h|⟨o',h⟩<;>(rw[hB]at h;cases h)
 ·rcases h with h|⟨o',h⟩
  ·exact .inl (by rw[ah z];exact h)
  ·exact .inr ⟨o',by rw[ah z];exact h⟩
theorem lG(hB:B a=some (.dK kvs)):∀p xs,B p=some (.tup xs)->upd B a (.frz o (.dK kvs)) p=some (.tup xs):=λp xs h=>by
 rw[ah (λz=>by rw[z,hB]at h;cases h)];exact h
theorem lH(hB:B a=some (.dK kvs)):∀p kvs',Rd B p (.dK kvs')->Rd (upd B a (.frz o (.dK kvs))) p (.dK kvs'):=λp xs h=>by
 by_cases z:p=a
 ·subst z
  rcases h with h|⟨o',h⟩
  ·rw[hB]at h;cases h
   exact .inr ⟨o,au⟩
  ·rw[hB]at h;cases h
 ·rcases h with h|⟨o',h⟩
  ·exact .inl (by rw[ah z];exact h)
  ·exact .inr ⟨o',by rw[ah z];exact h⟩
theorem nD(hB:B a=some (.frz o (.dK kvs))):∀p xs,Rd B p (.lst xs)->Rd (upd B a (.dK kvs)) p (.lst xs):=λp xs h=>by
 by_cases z:p=a
 ·subst z
  rcases h with h|⟨o',h⟩<;>(rw[hB]at h;cases h)
 ·rcases h with h|⟨o',h⟩
  ·exact .inl (by rw[ah z];exact h)
  ·exact .inr ⟨o',by rw[ah z];exact h⟩
theorem nE(hB:B a=some (.frz o (.dK kvs))):∀p xs,B p=some (.tup xs)->upd B a (.dK kvs) p=some (.tup xs):=λp xs h=>by
 rw[ah (λz=>by rw[z,hB]at h;cases h)];exact h
theorem nF(hB:B a=some (.frz o (.dK kvs))):∀p kvs',Rd B p (.dK kvs')->Rd (upd B a (.dK kvs)) p (.dK kvs'):=λp xs h=>by
 by_cases z:p=a
 ·subst z
  rcases h with h|⟨o',h⟩
  ·rw[hB]at h;cases h
  ·rw[hB]at h;cases h
   exact .inl au
 ·rcases h with h|⟨o',h⟩
  ·exact .inl (by rw[ah z];exact h)
  ·exact .inr ⟨o',by rw[ah z];exact h⟩
end
def gr(ρ:Rho):Bool:=ρ.all λs=>match s with
 | .ro _=>false
 |_=>true
theorem zG{ρ:Rho}(h:gr ρ=true){i:Nat}{d:D}(z : ρ[i]?=some (.ro d)):False:=by
 have:=(List.all_eq_true.mp h) _ (zaj z);cases this
def Fr.hide(F:Fr)(a:Addr)(u:HO):Fr:=⟨λq=>if q=a then(F.B a).map λ_=>u else F.B q,λq=>if q=a then(F.H a).map λ_=>u else F.H q,F.io,λq=>F.Z q\/q=a⟩
section
variable{F:Fr}{B H:Hp}{σ:St}{ρ:Rho}{a:Addr}{o:Obj}{kvs:List (Key×V)}
theorem Own.ne(hp:B p=none)(hB:B a=some u):p≠a:=λz=>by rw[z,hB]at hp;cases hp
theorem Rel.hide(R:Rel F B H σ ρ)(hB:B a=some (.dK kvs))(nr:gr ρ=true):Rel (F.hide a (.frz o (.dK kvs))) (upd B a (.frz o (.dK kvs))) (upd H a (.frz o (.dK kvs))) σ ρ:=by
 have own:∀{p:Addr} {d:D},B p=none->Own B H p d->Own (upd B a (.frz o (.dK kvs))) (upd H a (.frz o (.dK kvs))) p d:=fun{p d} hp h=>by
  have z:=Own.ne hp hB;cases h with
  |lst h r=>exact .lst (by rw[ah z];exact h) (aR.map (lF hB) (lG hB) (lH hB) r)
  |dct h r=>exact .dct (by rw[ah z];exact h) (a0.map' (lF hB) (lG hB) (lH hB) r)
 refine⟨λq u h=>?_,λq u h=>?_,λq u h n=>?_,λq h1 h2=>?_,R.len,λi s hs=>?_,R.dist,λi d p h1 h2=>?_,R.fx,R.ioN,λq xs h=>?_,R.exv,λq o' u h=>?_⟩
 ·by_cases z:q=a
  ·subst z;rw[au]at h⊢;exact h
  ·rw[ah z]at h⊢;exact R.sub q u h
 ·by_cases z:q=a
  ·subst z
   have e:(∃x,F.B q=some x)/\HO.frz o (HO.dK kvs)=u:=by simpa[Fr.hide]using h
   rw[au,e.2]
  ·rw[ah z];exact R.sB q u (by simpa[Fr.hide,z]using h)
 ·by_cases z:q=a
  ·subst z
   have e:(∃x,F.H q=some x)/\HO.frz o (HO.dK kvs)=u:=by simpa[Fr.hide]using h
   rw[au,e.2]
  ·rw[ah z];exact R.sH q u (by simpa[Fr.hide,z]using h) n
 ·by_cases z:q=a
  ·subst z
   have g1:F.H q≠none:=λy=>h1 (by simp[Fr.hide,y])
   have g2:F.B q=none:=by simpa[Fr.hide]using h2
   have:=R.nB q g1 g2;rw[hB]at this;cases this
  ·rw[ah z];exact R.nB q (by simpa[Fr.hide,z]using h1) (by simpa[Fr.hide,z]using h2)
 ·have:=R.slot i s hs
  cases s with
  |no=>trivial
  |ex=>trivial
  |fz d=>obtain⟨v,h1,h2⟩:=this;exact⟨v,h1,Rep.map (lF hB) (lG hB) (lH hB) h2⟩
  |own d=>obtain⟨p,h1,h2,h3⟩:=this;exact⟨p,h1,by rw[ah (Own.ne h2 hB)];exact h2,own h2 h3⟩
  |io d=>obtain⟨p,h1,h2,h3⟩:=this;exact⟨p,h1,by rw[ah (Own.ne h2 hB)];exact h2,own h2 h3⟩
  |ro d=>exact(zG nr hs).elim
 ·have h3:=R.jW i d p h1 h2
  obtain⟨p',g1,g2,_⟩:=R.slot i _ h1;rw[h2]at g1;cases g1
  have z:=Own.ne g2 hB;show(if p=a then _ else F.H p)=none
  rw[if_neg z];exact h3
 ·have z:q≠a:=λz=>by rw[z,au]at h;cases h
  rw[ah z]at h⊢;exact R.cJ q xs h
 ·by_cases z:q=a
  ·exact .inr z
  ·rw[ah z]at h;exact .inl (R.nz q o' u h)
theorem Rel.show(R0:∃B0 H0 σ0 ρ0,Rel F B0 H0 σ0 ρ0/\B0 a=some (.dK kvs))(R:Rel (F.hide a (.frz o (.dK kvs))) B H σ ρ)(hB:B a=some (.frz o (.dK kvs)))(nr:gr ρ=true):Rel F (upd B a (.dK kvs)) (upd H a (.dK kvs)) σ ρ:=by
 obtain⟨B0,H0,σ0,ρ0,R0,hB0⟩:=R0;have own:∀{p:Addr} {d:D},B p=none->Own B H p d->Own (upd B a (.dK kvs)) (upd H a (.dK kvs)) p d:=fun{p d} hp h=>by
  have z:=Own.ne hp hB;cases h with
  |lst h r=>exact .lst (by rw[ah z];exact h) (aR.map (nD hB) (nE hB) (nF hB) r)
  |dct h r=>exact .dct (by rw[ah z];exact h) (a0.map' (nD hB) (nE hB) (nF hB) r)
 refine⟨λq u h=>?_,λq u h=>?_,λq u h n=>?_,λq h1 h2=>?_,R.len,λi s hs=>?_,R.dist,λi d p h1 h2=>?_,R.fx,R.ioN,λq xs h=>?_,R.exv,λq o' u h=>?_⟩
 ·by_cases z:q=a
  ·subst z;rw[au]at h⊢;exact h
  ·rw[ah z]at h⊢;exact R.sub q u h
 ·by_cases z:q=a
  ·subst z
   have:=R0.sB q u h;rw[hB0]at this;rw[au];exact this
  ·rw[ah z];exact R.sB q u (by simpa[Fr.hide,z]using h)
 ·by_cases z:q=a
  ·subst z
   have:=R0.sH q u h n;rw[R0.sub q _ hB0]at this;rw[au];exact this
  ·rw[ah z];exact R.sH q u (by simpa[Fr.hide,z]using h) n
 ·by_cases z:q=a
  ·subst z
   have:=R0.nB q h1 h2;rw[hB0]at this;cases this
  ·rw[ah z];exact R.nB q (by simpa[Fr.hide,z]using h1) (by simpa[Fr.hide,z]using h2)
 ·have:=R.slot i s hs
  cases s with
  |no=>trivial
  |ex=>trivial
  |fz d=>obtain⟨v,h1,h2⟩:=this;exact⟨v,h1,Rep.map (nD hB) (nE hB) (nF hB) h2⟩
  |own d=>obtain⟨p,h1,h2,h3⟩:=this;exact⟨p,h1,by rw[ah (Own.ne h2 hB)];exact h2,own h2 h3⟩
  |io d=>obtain⟨p,h1,h2,h3⟩:=this;exact⟨p,h1,by rw[ah (Own.ne h2 hB)];exact h2,own h2 h3⟩
  |ro d=>exact(zG nr hs).elim
 ·have h3:=R.jW i d p h1 h2
  obtain⟨p',g1,g2,_⟩:=R.slot i _ h1;rw[h2]at g1;cases g1
  have z:=Own.ne g2 hB;have:(if p=a then(F.H a).map λ_=>HO.frz o (.dK kvs)else F.H p)=none:=h3
  rw[if_neg z]at this;exact this
 ·have z:q≠a:=λz=>by rw[z,au]at h;cases h
  rw[ah z]at h⊢;exact R.cJ q xs h
 ·have z:q≠a:=λz=>by rw[z,au]at h;cases h
  rw[ah z]at h;rcases R.nz q o' u h with w|w
  ·exact w
  ·exact absurd w z
end
theorem nG(h:G a=some (.frz o (.dK kvs)))(r:a0 B kvs es):lB G B (ItD a o kvs) (es.map (·.1)):=λH s=>by
 have h':=s _ _ h;have hl:=r.length;refine⟨⟨h',by rw[zal];omega⟩,λi d hd=>?_⟩
 have hi:i<es.length:=by have:=(zac hd).1;rwa[zal]at this
 refine⟨⟨h',by omega⟩,λx H' hy=>?_⟩
 obtain⟨rfl,k,v,hk,rfl⟩:=hy;refine .inl ⟨rfl,?_⟩;have kr:=qe r;obtain⟨w,h1,h2⟩:=kr.get i d hd;have e:(kvs.map λq=>kV q.1)[i]?=some (kV k):=by rw[zao,hk];rfl
 rw[e]at h1;cases h1;exact h2
theorem tP{tg:TG}{tb:TS}{g:D->Rho->Option Rho}{b:SM}(hg:MG tg g)(hb:MS tb b){F:Fr}{B1 H1:Hp}{σ:St}{ρ1:Rho}{J:It}{ds:List D}{o:Out}{D:Ends}(R1:Rel F B1 H1 σ ρ1)(I1:lB B1 B1 J ds)(e:forL g b ds ρ1=some o)(q:k6 F D o) :
  ∃W:Nat->Nat->St->Hp->Prop,(∃m,W 0 m σ H1)/\∀i m σ H,W i m σ H->(J.stop i H/\D.nx σ H)\/(J.go i H/\∃N:St->Hp->Prop,(∀σ' H',N σ' H'->∃m',m'<m/\W (i+1) m' σ' H')/\∀x H',J.yld i H x H'->tg x σ H' fun σ2 H2=>tb {D with nx:=N,ct:=N,bk:=D.nx} σ2 H2):=by
 have q':=q.down R1;refine⟨λi m σ H=>m=ds.length-i/\i<=ds.length/\∃B ρ,Rel ⟨B1,F.H,F.io,F.Z⟩ B H σ ρ/\forL g b (ds.drop i) ρ=some o,⟨ds.length,rfl,Nat.zero_le _,B1,ρ1,R1.down,e⟩,?_⟩
 rintro i m σ2 H2 ⟨rfl,hil,B2,ρ2,R2,e2⟩
 have sH:aG B1 H2:=R2.sB.trans R2.sub
 by_cases hlt:i<ds.length
 ·refine .inr ?_
  obtain⟨go,yl⟩:=(I1 H2 sH).2 i ds[i] (zaC hlt);rw[zbb hlt]at e2;obtain⟨ρ3,e3,e4⟩:=zaa (show(g ds[i] ρ2).bind _=some o from e2);obtain⟨w,e5,e6⟩:=zaa e4;refine⟨go,fun σ' H'=>∃B' ρ',Rel ⟨B1,F.H,F.io,F.Z⟩ B' H' σ' ρ'/\forL g b (ds.drop (i+1)) ρ'=some o,fun σ' H' h'=>⟨ds.length-(i+1),by omega,rfl,hlt,h'⟩,λy H3 hy=>?_⟩
  have had:∃B3,Rel ⟨B1,F.H,F.io,F.Z⟩ B3 H3 σ2 ρ2/\Rep B3 y ds[i]:=by
   rcases yl y H3 hy with⟨rfl,h2⟩|⟨p,xs,cs,h1,rfl,h3,rfl,h5⟩
   ·exact⟨B2,R2,h2.mono R2.sB⟩
   ·obtain⟨R3,E3,e3⟩:=R2.pG (xs:=xs) h3
    exact⟨_,R3,by rw[h1];exact .tup au (h5.mono (R2.sB.trans e3))⟩
  obtain⟨B3,R3,rp⟩:=had;refine hg _ B3 H3 σ2 ρ2 y ds[i] ρ3 _ R3 rp e3 λB4 H4 σ4 R4 _=>?_
  refine hb _ B4 H4 σ4 ρ3 w _ R4 e5 ?_;cases w with
  |nx ρ'=>exact λB' H' σ' R'=>⟨B',ρ',R',e6⟩
  |ct ρ'=>exact λB' H' σ' R'=>⟨B',ρ',R',e6⟩
  |bk ρ'=>cases e6;exact q'
  |rt r ρ'=>cases e6;exact q'
 ·have hi':i=ds.length:=by omega
  subst hi';rw[List.drop_length]at e2;cases e2;exact .inl ⟨(I1 H2 sH).1,q' B2 H2 σ2 R2⟩
def AX:Out->Rho
 | .nx ρ=>ρ
 | .rt _ ρ=>ρ
 | .bk ρ=>ρ
 | .ct ρ=>ρ
def my:RV->Option (List (D×D))
 |(.dict es,.fz)=>some es
 |_=>none
theorem mz(h:my r=some es):r=(.dict es,.fz):=by
 unfold my at h;split at h
 ·cases h;rfl
 ·cases h
def rR(dv:PM)(g:D->Rho->Option Rho)(b:SM):SM:=fun ρ=>(dv ρ).bind λx=>(my x.1).bind λes=>if gr ρ=true then(forL g b (es.map (·.1)) x.2).bind λo=>if gr (AX o)=true then some o else none else none
def Calm(tl:TE)(dv:PM):Prop:=∀(F:Fr) (B H:Hp) (σ:St) (ρ:Rho) (r:RV) (ρ':Rho),Rel F B H σ ρ->dv ρ=some (r,ρ')->ρ'=ρ/\∃v,Rep B v r.1/\(∀Q:VK,Q v H->tl σ H Q)/\∀a o kvs,B a=some (.dK kvs)->∀Q:VK,Q v (upd H a (.frz o (.dK kvs)))->tl σ (upd H a (.frz o (.dK kvs))) Q
def gJ(i:Nat):PM:=fun ρ=>match ρ[i]? with
 |some (.fz d)=>some ((d,.fz),ρ)
 |_=>none
theorem i8:Calm (u9 i) (gJ i):=by
 intro F B H σ ρ r ρ' R e;unfold gJ at e;split at e
 ·rename_i d h
  cases e;obtain⟨v,h1,h2⟩:=R.slot i _ h;exact⟨rfl,v,h2,λQ q=>⟨v,h1,q⟩,λa o kvs _ Q q=>⟨v,h1,q⟩⟩
 ·cases e
def tQ(dv:PM)(j:Nat):PM:=fun ρ=>(dv ρ).bind λx=>match x.1.1 with
 | .tuple ds=>(ds[j]?).map λd=>((d,.fz),x.2)
 |_=>none
theorem oW{K:zag}{tl:TE}{dv:PM}{j:Nat}(h:Calm tl dv):Calm (tOp (rIx K) tl (tC (.int (j:Int)))) (tQ dv j):=by
 intro F B H σ ρ r ρ' R e;obtain⟨x,e1,e⟩:=zaa e;obtain⟨⟨c,k⟩,ρ1⟩:=x;cases c with
 |tuple ds=>
  obtain⟨d,e2,e⟩:=zab (show(ds[j]?).map _=some (r,ρ')from e);cases e;obtain⟨rfl,v,rv,h1,h2⟩:=h F B H σ ρ _ _ R e1;refine⟨rfl,?_⟩;cases rv with
  | @tup p xs _ hp rp=>
   obtain⟨w,g1,g2⟩:=rp.get j d e2;have at1:atI xs (j:Int)=some w:=by
    have hl:j<xs.length:=(zac g1).1;unfold atI;have:ixN xs.length (j:Int)=some j:=FE hl;rw[this];exact g1
   refine⟨w,g2,λQ q=>h1 _ (.inr (.inl ⟨p,xs,(j:Int),w,rfl,rfl,.inl (.inl (R.sub _ _ hp)),at1,q⟩)),λa o kvs ha Q q=>h2 a o kvs ha _ (.inr (.inl ⟨p,xs,(j:Int),w,rfl,rfl,.inl (.inl ?_),at1,q⟩))⟩
   rw[ah (λz=>by rw[z,ha]at hp;cases hp)]
   exact R.sub _ _ hp
 |_=>cases e
theorem Own.show(hB:B a=some (.frz o (.dK kvs)))(z:p≠a)(h:Own B H p d):Own (upd B a (.dK kvs)) (upd H a (.dK kvs)) p d:=by
 cases h with
 |lst h r=>exact .lst (by rw[ah z];exact h) (aR.map (nD hB) (nE hB) (nF hB) r)
 |dct h r=>exact .dct (by rw[ah z];exact h) (a0.map' (nD hB) (nE hB) (nF hB) r)
theorem vU(hB:B a=some (.frz o (.dK kvs)))(hH:H a=some (.frz o (.dK kvs)))(V:Val (F.hide a (.frz o (.dK kvs))) B H σ ρ v r):Val F (upd B a (.dK kvs)) (upd H a (.dK kvs)) σ ρ v r:=by
 obtain⟨c,k⟩:=r;cases k with
 |fz=>exact Rep.map (nD hB) (nE hB) (nF hB) V
 |new=>
  obtain⟨p,rfl,h1,h2,h3,h4⟩:=V;have z:=Own.ne h1 hB;refine⟨p,rfl,by rw[ah z];exact h1,?_,Own.show hB z h3,h4⟩
  have:(if p=a then(F.H a).map λ_=>HO.frz o (.dK kvs)else F.H p)=none:=h2
  rw[if_neg z]at this;exact this
 | «at» i=>exact V
 |ro=>
  obtain⟨p,rfl,h1,h2⟩:=V;have z:p≠a:=λz=>by
   subst z;cases h1 with
   |lst h _=>rw[hH]at h;cases h
   |dct h _=>rw[hH]at h;cases h
  exact⟨p,rfl,Own.show hB z h1,h2⟩
theorem mB{F:Fr}{B0 H0:Hp}{σ0:St}{ρ0:Rho}{a:Addr}{ob:Obj}{kvs:List (Key×V)}(R0:Rel F B0 H0 σ0 ρ0)(hB:B0 a=some (.dK kvs)){o:Out}{D:Ends}(nr:gr (AX o)=true)(q:k6 F D o):k6 ⟨upd B0 a (.frz ob (.dK kvs)),(F.hide a (.frz ob (.dK kvs))).H,F.io,(F.hide a (.frz ob (.dK kvs))).Z⟩ (Ga a ob kvs D) o:=by
 have up:∀{B H σ ρ},Rel ⟨upd B0 a (.frz ob (.dK kvs)),(F.hide a (.frz ob (.dK kvs))).H,F.io,(F.hide a (.frz ob (.dK kvs))).Z⟩ B H σ ρ->Rel (F.hide a (.frz ob (.dK kvs))) B H σ ρ/\B a=some (.frz ob (.dK kvs)):=fun{B H σ ρ} R=>by
  refine⟨⟨R.sub,λq u h=>R.sB q u ?_,R.sH,λq h z=>R.nB q h ?_,R.len,R.slot,R.dist,R.jW,R.fx,R.ioN,R.cJ,R.exv,R.nz⟩,R.sB a _ au⟩
  ·show upd B0 a _ q=some u
   by_cases w:q=a
   ·subst w
    have e:(∃x,F.B q=some x)/\HO.frz ob (HO.dK kvs)=u:=by simpa[Fr.hide]using h
    rw[au,e.2]
   ·rw[ah w];exact R0.sB q u (by simpa[Fr.hide,w]using h)
  ·show upd B0 a _ q=none
   by_cases w:q=a
   ·subst w
    have g1:F.H q≠none:=λy=>h (by simp[Fr.hide,y])
    have g2:F.B q=none:=by simpa[Fr.hide]using z
    have:=R0.nB q g1 g2;rw[hB]at this;cases this
   ·rw[ah w];exact R0.nB q (by simpa[Fr.hide,w]using h) (by simpa[Fr.hide,w]using z)
 cases o with
 |nx ρ=>exact λB H σ R=>⟨R.sub a _ (up R).2,q _ _ _ (Rel.show ⟨_,_,_,_,R0,hB⟩ (up R).1 (up R).2 nr)⟩
 |bk ρ=>exact λB H σ R=>⟨R.sub a _ (up R).2,q _ _ _ (Rel.show ⟨_,_,_,_,R0,hB⟩ (up R).1 (up R).2 nr)⟩
 |ct ρ=>exact λB H σ R=>⟨R.sub a _ (up R).2,q _ _ _ (Rel.show ⟨_,_,_,_,R0,hB⟩ (up R).1 (up R).2 nr)⟩
 |rt r ρ=>exact λv B H σ R V=>⟨R.sub a _ (up R).2,q _ _ _ _ (Rel.show ⟨_,_,_,_,R0,hB⟩ (up R).1 (up R).2 nr) (vU (up R).2 (R.sub a _ (up R).2) V)⟩
def xS(t:TS):TS:=λD σ H=>HG t D σ H\/t D σ H
theorem _root_.L2.tR{X:Cx}{st:Stmt}{t:TS}(h:PS X st t):PS X st (xS t):=by
 intro pins s σ H D I hw;rcases hw with hw|hw
 ·exact JS h pins s σ H D I hw
 ·exact h pins s σ H D I hw
theorem Gd(hc:Calm tl dv)(hg:MG tg g)(hb:MS tb b):MS (xS (Ap (Gb tl) tg tb)) (rR dv g b):=by
 intro F B H σ ρ o D R e q;obtain⟨x,e1,e⟩:=zaa e;obtain⟨es,e2,e⟩:=zaa e;split at e
 rotate_left
 ·cases e
 rename_i nr
 obtain⟨o',e3,e⟩:=zaa e;split at e
 rotate_left
 ·cases e
 rename_i nr2
 cases e;obtain⟨r,ρ1⟩:=x;obtain⟨rfl,v,rv,h1,h2⟩:=hc F B H σ ρ r ρ1 R e1;obtain rfl:=mz e2;cases rv with
 | @dct a kvs _ hd rk=>
  rcases hd with hd|⟨ob,hd⟩
  ·refine .inl ⟨a,kvs,R.sub a _ hd,λob=>?_⟩
   have R':=R.hide (o:=ob) hd nr;refine h2 a ob kvs hd _ ⟨a,ob,kvs,rfl,au,?_⟩;exact tP hg hb R'.down (nG au (a0.map' (lF hd) (lG hd) (lH hd) rk)) e3 (mB R hd nr2 q)
  ·exact .inr (h1 _ ⟨a,ob,kvs,rfl,R.sub a _ hd,tP hg hb R (nG hd rk) e3 q⟩)
end Mir
namespace Mir
open PySem L2
variable [Zc]
theorem HI{fr:List (Str×Nat)}{tc:TT}{te:TE}{c:Rho->Option (Bool×Rho)}{e:PM}(hc:MT tc c)(he:ME te e){F:Fr}{B1 H1:Hp}{σ:St}{ρ1:Rho}{J:It}{ds out:List D}{Q:VK}(R1:Rel F B1 H1 σ ρ1)(I1:lB H1 B1 J ds)(e2:gp c e (fr.map λp=>bh ρ1 p.2) ds=some out)(hz:out.length<sizeLine)
  (q:∀v B' H',Ext σ ρ1 B1 H1 ρ1 B' H'->Rel F B' H' σ ρ1->Val F B' H' σ ρ1 v (.list out,.new)->(∀p,Kd.new=Kd.new->v=.ref p->H1 p=none)->Q v H') :
  ∃W:Nat->Nat->List V->Hp->Prop,(∃m,W 0 m [] H1)/\∀i m ys H2,W i m ys H2->ys.length<sizeLine/\
 ((J.stop i H2/\∀D,H2 D=none->Q (.ref D) (upd H2 D (.lst ys)))\/
  (J.go i H2/\∀v H3,J.yld i H2 v H3->tc (some v::aP σ fr) H3 λb H4=>
   if b=true then te (some v::aP σ fr) H4 λy H5=>∃m',m'<m/\W (i+1) m' (ys++[y]) H5 else∃m',m'<m/\W (i+1) m' ys H4)):=by
 refine⟨λi m ys H2=>m=ds.length-i/\i<=ds.length/\∃B2 done rest,aG B1 B2/\aG H1 H2/\(∀q,H1 q≠none->B1 q=none->B2 q=none)/\Rel F B2 H2 σ ρ1/\aR B2 ys done/\gp c e (fr.map λp=>bh ρ1 p.2) (ds.drop i)=some rest/\done++rest=out,
  ⟨ds.length,rfl,Nat.zero_le _,B1,[],out,aG.refl _,aG.refl _,λ_ _ z=>z,R1,.nil,e2,rfl⟩,?_⟩
 rintro i m ys H2 ⟨rfl,hil,B2,done,rest,eB,eH,nb,R2,rp,hcl,hdr⟩
 have hlen:ys.length<=out.length:=by rw[<-hdr,zau,rp.length];omega
 refine⟨by omega,?_⟩
 by_cases hlt:i<ds.length
 ·refine .inr ?_
  obtain⟨go,yl⟩:=(I1 H2 eH).2 i ds[i] (zaC hlt);refine⟨go,λv H3 hy=>?_⟩
  rw[zbb hlt]at hcl;obtain⟨b,c1,c2⟩:=zaa (show(c (.fz ds[i]::fr.map λp=>bh ρ1 p.2)).bind _=some rest from hcl)
  have had:∃B3,aG B2 B3/\aG H2 H3/\(∀q,H2 q≠none->B2 q=none->B3 q=none)/\Rel F B3 H3 σ ρ1/\Rep B3 v ds[i]:=by
   rcases yl v H3 hy with⟨rfl,h2⟩|⟨p,xs,cs,h1,rfl,h3,rfl,h5⟩
   ·exact⟨B2,aG.refl _,aG.refl _,λ_ _ z=>z,R2,h2.mono eB⟩
   ·obtain⟨R3,E3,e3⟩:=R2.pG (xs:=xs) h3
    refine⟨_,e3,d5 h3,λq h z=>?_,R3,?_⟩
    ·rw[ah (show q≠p from λy=>h (by rw[y];exact h3))];exact z
    ·rw[h1];exact .tup au (h5.mono (eB.trans e3))
  obtain⟨B3,eB3,eH3,nb3,R3,rv⟩:=had;have Ri:=R3.inner fr rv;refine hc (F0 H3) B3 H3 _ _ b.1 b.2 _ Ri c1 λB4 H4 E4 R4=>?_
  obtain⟨eH4,nb4⟩:=fe eV E4;have R4o:Rel F B4 H4 σ ρ1:=R3.grow E4.sB eH4 R4.sub nb4 R4.cJ R4.nz;have nbA:∀q,H1 q≠none->B1 q=none->B4 q=none:=λq h z=>by
   have h2:H2 q≠none:=λy=>h (eH.free y)
   have h3:H3 q≠none:=λy=>h2 (eH3.free y)
   exact nb4 q h3 (nb3 q h2 (nb q h z))
  cases hb:b.1 with
  |false=>
   rw[hb,if_neg zam]at c2;rw[if_neg zam];exact⟨ds.length-(i+1),by omega,rfl,hlt,B4,done,rest,eB.trans (eB3.trans E4.sB),eH.trans (eH3.trans eH4),nbA,R4o,rp.mono (eB3.trans E4.sB),c2,hdr⟩
  |true=>
   rw[hb,if_pos rfl]at c2;rw[if_pos rfl];obtain⟨y,c3,c2⟩:=zaa c2;obtain⟨z,c4,c2⟩:=zaa c2;obtain⟨rest',c5,c6⟩:=zab c2;subst c6;have Ri4:=R4o.inner fr (rv.mono E4.sB);refine he.sv (F0 H4) B4 H4 _ _ y.1 y.2 _ Ri4 c3 λu B5 H5 E5 R5 V5 N5=>?_
   obtain⟨eH5,nb5⟩:=fe eV E5;have R5o:Rel F B5 H5 σ ρ1:=R4o.grow E5.sB eH5 R5.sub nb5 R5.cJ R5.nz;rw[xx c4]at V5;refine⟨ds.length-(i+1),by omega,rfl,hlt,B5,done++[z],rest',eB.trans (eB3.trans (E4.sB.trans E5.sB)),eH.trans (eH3.trans (eH4.trans eH5)),λq h w=>?_,R5o,(rp.mono (eB3.trans (E4.sB.trans E5.sB))).append (.cons V5 .nil),c5,by rw[zaD];exact hdr⟩
   have h2:H2 q≠none:=λy=>h (eH.free y)
   have h3:H3 q≠none:=λy=>h2 (eH3.free y)
   have h4:H4 q≠none:=λy=>h3 (eH4.free y)
   exact nb5 q h4 (nbA q h w)
 ·have hi':i=ds.length:=by omega
  subst hi';refine .inl ⟨(I1 H2 eH).1,λp hp=>?_⟩
  rw[List.drop_length]at hcl;cases hcl;rw[zaR]at hdr;subst hdr;have E2:Ext σ ρ1 B1 H1 ρ1 B2 H2:=Ext.grow eB eH nb;have:=fv (res:=(.list done,true)) (k:=λQ=>∀p,H2 p=none->Q (.ref p) (upd H2 p (.lst ys))) (Q:=Q) R2 ⟨ys,rp,λQ h=>h⟩ λv B' H' E R' V' N=>q v B' H' (E2.trans E) R' V' λp z1 z2=>E2.live p (N p z1 z2)
  exact this p hp
def qf(fr:List (Str×Nat))(dv:PM)(c:Rho->Option (Bool×Rho))(e:PM):PM:=fun ρ=>(dv ρ).bind λx=>(my x.1).bind λes=>if gr ρ=true then(gp c e (fr.map λp=>bh ρ p.2) (es.map (·.1))).bind λout=>cIf (out.length<sizeLine) (some ((.list out,.new),ρ)) none else none
def Dm(t:TE):TE:=fun σ H Q=>HH t σ H Q\/t σ H Q
theorem _root_.L2.zH{X:Cx}{ex:Expr}{t:TE}(h:PE X ex t):PE X ex (Dm t):=by
 intro pins s σ H Q I hw;rcases hw with hw|hw
 ·exact JT h pins s σ H Q I hw
 ·exact h pins s σ H Q I hw
theorem xT(hd:Calm tl dv)(hc:MT tc c)(he:ME te e):ME (Dm (tLC fr (Gb tl) tc te)) (qf fr dv c e):=by
 intro F B H σ ρ r0 ρ' Q R e0 q;obtain⟨x,e1,e0⟩:=zaa e0;obtain⟨es,e2,e0⟩:=zaa e0;split at e0
 rotate_left
 ·cases e0
 rename_i nr
 obtain⟨out,e3,e0⟩:=zaa e0;obtain⟨hz,e0⟩:=cK e0;cases e0;obtain⟨r,ρ1⟩:=x;obtain⟨_,v,rv,h1,h2⟩:=hd F B H σ ρ r ρ1 R e1;obtain rfl:=mz e2;cases rv with
 | @dct a kvs _ hdd rk=>
  rcases hdd with hdd|⟨ob,hdd⟩
  ·refine .inl ⟨a,kvs,R.sub a _ hdd,λob=>?_⟩
   have R':=R.hide (o:=ob) hdd nr;refine h2 a ob kvs hdd _ ⟨a,ob,kvs,rfl,au,?_⟩;refine HI (Q:=λv H'=>H' a=some (.frz ob (.dK kvs))/\Q v (upd H' a (.dK kvs))) hc he R' (nG au (a0.map' (lF hdd) (lG hdd) (lH hdd) rk)) e3 hz λw B' H' E' RR V' N'=>?_
   have hB':B' a=some (.frz ob (.dK kvs)):=E'.sB a _ au;have hH':=RR.sub a _ hB';refine⟨hH',q w _ _ ?_ (Rel.show ⟨_,_,_,_,R,hdd⟩ RR hB' nr) (vU hB' hH' V') λp z1 z2=>?_⟩
   ·refine⟨λp u h=>?_,λp u h n=>?_,E'.own,E'.ref,λp h=>?_⟩
    ·by_cases z:p=a
     ·subst z;rw[au,<-hdd];exact h
     ·rw[ah z];exact E'.sB p u (by rw[ah z];exact h)
    ·by_cases z:p=a
     ·subst z
      rw[R.sub p _ hdd]at h;exact⟨by rw[au];exact h,λy=>by rw[hdd]at y;cases y⟩
     ·obtain⟨k1,k2⟩:=E'.keep p u (by rw[ah z];exact h) n
      exact⟨by rw[ah z];exact k1,λy=>by rw[ah z];exact k2 (by rw[ah z];exact y)⟩
    ·have z:p≠a:=λz=>by rw[z,au]at h;cases h
     rw[ah z]at h;have:=E'.live p h;rw[ah z]at this;exact this
   ·have:=N' p rfl z2
    have z:p≠a:=λz=>by rw[z,au]at this;cases this
    rw[ah z]at this;exact this
  ·exact .inr (h1 _ ⟨a,ob,kvs,rfl,R.sub a _ hdd,HI hc he R (nG (R.sub a _ hdd) rk) e3 hz q⟩)
end Mir
namespace L2
open PySem PySem.Spec PyProof.Rows
section
variable{X:Cx}{K:zag}
def HJ(K:zag):List V->Hp->VK->Prop:=λxs H Q=>∃p ys,xs=[V.ref p]/\((SqL K H p ys/\∀l,H l=none->Q (.ref l) (upd H l (.tup ys)))\/(SqT K H p ys/\Q (.ref p) H))
theorem vV(h:X.K=K):dZ X (.type "tuple") (HJ K):=h▸qN
end
end L2
namespace Mir
open PySem L2
variable [Zc]
def lb:List D->Option (List Str)
 | []=>some []
 | .str z::r=>(lb r).map (z::·)
 |_=>none
theorem vW:∀{xs:List V} {ds:List D} {zs:List Str},aR B xs ds->lb ds=some zs->xs=zs.map V.str
 |_,_,_,.nil,h=>by cases h;rfl
 |_,_,zs,.cons (d:=d) hx r,h=>by
  cases d with
  |str z=>
   obtain⟨ms,h1,h2⟩:=zab (show(lb _).map (z::·)=some zs from h)
   subst h2;cases hx;rw[zaz,vW r h1]
  |_=>cases h
def xU:List D->Option (D×Bool)
 | [.list ds]=>some (.tuple ds,true)
 | [.tuple ds]=>some (.tuple ds,false)
 |_=>none
theorem Ge:kZ (HJ K) xU:=by
 intro B H vs ds res s h e;unfold xU at e;split at e
 ·cases e
  obtain⟨v,rfl,hh⟩:=gE h;obtain⟨p,xs,rfl,r1,rp1⟩:=hh.list s;exact⟨xs,rp1,λQ q=>⟨p,xs,rfl,.inl ⟨fw r1,q⟩⟩⟩
 ·cases e
  obtain⟨v,rfl,hh⟩:=gE h;rcases hh with hh|⟨p,rfl,hh⟩
  ·cases hh with
   | @tup p xs _ h1 h2=>exact⟨.ref p,.tup h1 h2,λQ q=>⟨p,xs,rfl,.inr ⟨.inl (.inl (s _ _ h1)),q⟩⟩⟩
  ·cases hh
 ·cases e
def tS:D->D->Option (D×Bool)
 | .str z,.int i=>cIf (z.length<=sizeLine) ((atI z.cps.toList i).map λc=>(.str ⟨#[c]⟩,false)) none
 |c,d=>gIx c d
theorem HK:OpJ (rIx K) tS:=by
 intro B H x y c d res s hx hy e;unfold tS at e;split at e
 ·obtain⟨hz,e⟩:=cK e
  obtain⟨w,h1,h2⟩:=zab e;cases h2;rcases hx with hx|⟨p,_,hx⟩
  ·cases hx
   rcases hy with hy|⟨p,_,hy⟩
   ·cases hy
    exact⟨.str ⟨#[w]⟩,.str _,λQ q=>.inr (.inr ⟨_,_,w,rfl,rfl,hz,h1,q⟩)⟩
   ·cases hy
  ·cases hx
 ·exact b7 B H x y _ _ res s hx hy e
end Mir
namespace L2
open PySem PySem.Spec PyProof.Rows
def Ite(K:zag)(a:Addr):It :=
 ⟨λi H=>∃xs x,SqL K H a xs/\xs[i]?=some x,
  λi H v H'=>∃p x,v=.ref p/\H p=none/\H'=upd H p (.tup [.int i,x])/\∀xs,SqL K H a xs->xs[i]?=some x,
  λi H=>∃xs,SqL K H a xs/\xs.length<=i⟩
theorem AY{P:Program}{w:World}{K:zag}{elts:List Expr}{cx}{pos:Pos}{e it l:Addr}(hei:e≠it) :
  Turn P w K (.Tuple elts cx pos) (Ite K l) [e,it] e (λi h=>(∃old,IsEnum h e it ((i:Nat):Int) old)/\h.IsListIter it l i) where
 mem:=by simp
 obj:=λi h st b hb=>by
  obtain⟨⟨old,he⟩,⟨o1,g1,c1,d1⟩⟩:=st;simp only[List.mem_cons,List.not_mem_nil,or_false]at hb;rcases hb with rfl|rfl
  ·exact⟨_,he,λv e=>by cases e⟩
  ·exact⟨_,g1,λv e=>by rw[d1]at e;cases e⟩
 keep:=λi h h' st k=>by
  obtain⟨⟨old,he⟩,h1⟩:=st;exact⟨⟨old,k e (by simp) _ he⟩,h1.at λo x=>k it (by simp) o x⟩
 item:=by
  intro X hP hw hK hc i pins s σ H E I hf st hg;subst hP hw hK;obtain⟨⟨old,he⟩,h1⟩:=st;obtain⟨xs,x,q1,hx⟩:=hg;obtain⟨us,r1,p1,_⟩:=I.list q1;obtain⟨u,hu,ru⟩:=r1.get hx;have lt:∀b∈[e,it],b<s.heap.objs.size:=λb hb=>by
   obtain⟨o1,g1,_,_⟩:=id h1;simp only[List.mem_cons,List.not_mem_nil,or_false]at hb;rcases hb with rfl|rfl
   ·exact zaq he
   ·exact zaq g1
  refine wpAny_pyNext_enum_item he h1 p1.isList (x:=u) (by simpa using hu) hei λh' heo h1' hT hsz hk=>?_
  refine⟨_,rfl,wpAny_letOwnedTupleGo_enum (s:={s with heap:=h',toks:=s.toks+1}) heo λh3 he3 sb=>?_⟩
  have hfr:H s.heap.objs.size=none:=I.hok.fresh (zap _);have up:∀b o,b≠e->h'.get? b=some o->h3.get? b=some o:=λb o hb x=>(sb.2 b hb).trans x
  have IA:Inv X pins σ (upd H s.heap.objs.size (.tup [.int i,x])) {s with heap:=s.heap.push {cls:=.type "tuple",data:=.seq #[.int i s.toks,u]},toks:=s.toks+1} :=
   I.laid (λb o e=>zar _ e) (zap _) (bR.Cq (its:=[.int i s.toks,u]) (by simp only[List.length_cons,List.length_nil,sizeLine];omega) (.cons ⟨_,rfl⟩ (.cons ru .nil)))
  have IB:Inv X pins σ (upd H s.heap.objs.size (.tup [.int i,x])) {s with heap:=h3,toks:=s.toks+1}:=by
   refine Inv.tJ (s:={s with heap:=s.heap.push {cls:=.type "tuple",data:=.seq #[.int i s.toks,u]},toks:=s.toks+1}) (h':=h3) (t':=s.toks+1) (fp:=[e,it]) IA (λb o hb g=>?_) (λb hb=>?_)
   ·simp only[List.mem_cons,List.not_mem_nil,or_false,not_or]at hb
    obtain⟨b1,b2⟩:=hb;refine up b o b1 ?_
    by_cases eb:b=s.heap.objs.size
    ·subst eb
     have e':(s.heap.push {cls:=.type "tuple",data:=.seq #[.int i s.toks,u]}).get? s.heap.objs.size=some {cls:=.type "tuple",data:=.seq #[.int i s.toks,u]}:=zaL _ rfl;rw[e']at g;cases g;exact hT
    ·have e0:(s.heap.push {cls:=.type "tuple",data:=.seq #[.int i s.toks,u]}).get? b=s.heap.get? b:=Heap.get?_push_ne _ _ _ eb
     exact hk b o b1 b2 (e0▸g)
   ·obtain⟨f0,f1⟩:=hf b hb
    exact⟨by rw[ah (λe=>absurd (lt b hb) (by rw[e];exact za3 _))];exact f0,f1⟩
  have ec:((i+1:Nat):Int)=(i:Int)+1:=by push_cast;rfl
  refine⟨.ref s.heap.objs.size,_,IB,rfl,⟨_,x,rfl,hfr,rfl,λxs' h=>by rw[I.vc h q1];exact hx⟩,⟨⟨u,ec▸he3⟩,h1'.at λo x=>up it o (Ne.symm hei) x⟩,λb hb=>?_⟩
  rw[ah (λe=>absurd (lt b hb) (by rw[e];exact za3 _))]
  exact(hf b hb).1
 done:=by
  intro X hP hw hK hc i pins s σ H E I hf st hg;subst hP hw hK;obtain⟨⟨old,he⟩,h1⟩:=st;obtain⟨xs,q1,hl⟩:=hg;obtain⟨us,r1,p1,_⟩:=I.list q1;have l1:=r1.length;refine wpAny_pyNext_enum_end (I.ok.hd hc) he h1 p1.isList (by simp;omega) λh' hk=>⟨rfl,?_⟩
  refine Inv.tJ (t':=s.toks) (fp:=[e,it]) I (λb o hb g=>?_) hf
  simp only[List.mem_cons,List.not_mem_nil,or_false,not_or]at hb;exact hk b o hb.2 g
 self:=λ_ _ _ _ _ st h=>by obtain⟨⟨old,he⟩,_⟩:=st;exact wpAny_pyIter_enum he h
def HL(K:zag)(ta:TA):TI:=fun σ H R=>ta σ H λvs H1=>∃a xs,vs=[.ref a]/\SqL K H1 a xs/\R (Ite K a) H1
section
variable{X:Cx}
theorem Gf(hg:Gl X "enumerate")(hm:X.mg "enumerate"=none)(ha:PA X [a] ta)(hs:starEach [a] X.env=[(false,eval a X.env)]:=by rfl) :
  PI X (.Tuple elts cx tp) (.Call (.Name "enumerate" p) [a] [] pos) (HL X.K ta):=by
 intro pins s σ H R I h;refine Call_ (ph I hg hm boot_enumerate (PyProof.Rows.callWith_type1 (thn (ha pos pins s σ H _ I h) λus s1 ⟨vs,H1,I1,r1,q1⟩=>?_) (by rw[hs];rfl) (by rfl)))
 obtain⟨l1,xs,e,g1,q⟩:=q1;subst e;cases r1 with
 |cons r rr=>
  cases rr;cases r;obtain⟨us,rv1,p1,_⟩:=I1.list g1;have k1:l1<s1.heap.objs.size:=by obtain⟨o,_,e,_⟩:=id p1;exact zaq e
  refine call_enumerate_list p1.isList λh' he h1 hsz hk=>?_
  refine wpAny_pyIter_enum he ?_;refine⟨s1.heap.objs.size+1,[s1.heap.objs.size+1,s1.heap.objs.size],_,_,H1,rfl,I1.kept (t':=s1.toks) hk,AY (Nat.succ_ne_self _),⟨⟨_,he⟩,h1⟩,λb hb=>?_,q⟩
  have hb':s1.heap.objs.size<=b:=by
   simp only[List.mem_cons,List.not_mem_nil,or_false]at hb;rcases hb with rfl|rfl
   ·exact Nat.le_add_right _ _
   ·exact zap _
  exact I1.pq hb' (I1.hok.fresh hb')
end
def ItI(a:Addr)(o:Obj)(kvs:List (Key×V)):It where
 go:=λi H=>H a=some (.frz o (.dK kvs))/\i<kvs.length
 yld:=λi H x H'=>∃p k v,x=.ref p/\H p=none/\H'=upd H p (.tup [kV k,v])/\kvs[i]?=some (k,v)
 stop:=λi H=>H a=some (.frz o (.dK kvs))/\kvs.length<=i
theorem Gg{kvs:List (Key×V)}{vs:List (Key×Value)}(r:KV kvs vs)(i:Nat){k:Key}{x:Value}(h:vs[i]?=some (k,x)):∃v,kvs[i]?=some (k,v)/\RelV v x:=by
 induction r generalizing i with
 |nil=>simp at h
 |cons h1 t ih=>
  cases i with
  |zero=>
   rename_i p q l l'
   have e:q=(k,x):=by simpa using h
   subst e;exact⟨p.2,congrArg some (Prod.ext h1.1 rfl),h1.2⟩
  |succ i=>simpa using ih i (by simpa using h)
theorem qg:entryFor table "dict_itemiterator.__iter__"=some Builtin.«dict_keyiterator.__iter__»:=entryFor_alias (id':="dict_keyiterator.__iter__") (by kernel_rfl) rfl (by decide+kernel) (by kernel_rfl)
theorem xV{P:Program}{w:World}{K:zag}{elts:List Expr}{cx}{pos:Pos}{a it:Addr}{o:Obj}{kvs:List (Key×V)}{vs:List (Key×Value)}{ep:Nat}{h₁:Heap}(rel:KV kvs vs)(ho:h₁.get? a=some o)(hat:h₁.DictAt (bU P w) a vs ep) :
  Turn P w K (.Tuple elts cx pos) (ItI a o kvs) [it] it (λi h=>∃ok ov,IsItemIter h it a i vs.length ep ok ov) where
 mem:=by simp
 obj:=λi h st b hb=>by
  have e:b=it:=by simpa using hb
  subst e;obtain⟨ok,ov,st⟩:=st;exact⟨_,st,λv e=>by cases e⟩
 keep:=λi h h' st k=>by
  obtain⟨ok,ov,st⟩:=st;exact⟨ok,ov,k it (by simp) _ st⟩
 item:=by
  intro X hP hw hK hc i pins s σ H E I hf st hg;subst hP hw hK;obtain⟨ok,ov,st⟩:=st;obtain⟨hH,hi⟩:=hg;obtain⟨hg,_⟩:=I.hok a _ hH;have hd:s.heap.DictAt (bU X.prog X.w) a vs ep:=hat.at' λo' e=>by rw[ho]at e;cases e;exact hg
  have hl:=rel.length;obtain⟨⟨k,x⟩,hx⟩:∃p,vs[i]?=some p:=⟨vs[i]'(by omega),by simp⟩
  obtain⟨v,hv,rv⟩:=Gg rel i hx;have lt:it<s.heap.objs.size:=zaq st;refine wpAny_pyNext_items_item st hd hx λkey h' hkey heo hT hsz hk=>?_
  refine⟨_,rfl,wpAny_letOwnedTupleGo_items (s:={s with heap:=h'}) heo λh3 he3 sb=>?_⟩
  have hfr:H s.heap.objs.size=none:=I.hok.fresh (zap _);have up:∀b o,b≠it->h'.get? b=some o->h3.get? b=some o:=λb o hb x=>(sb.2 b hb).trans x
  have IA:Inv X pins σ (upd H s.heap.objs.size (.tup [kV k,v])) {s with heap:=s.heap.push {cls:=.type "tuple",data:=.seq #[key,x]},toks:=s.toks} :=
   I.laid (λb o e=>zar _ e) (zap _) (bR.Cq (its:=[key,x]) (by simp only[List.length_cons,List.length_nil,sizeLine];omega) (.cons (Dk hkey) (.cons rv .nil)))
  have IB:Inv X pins σ (upd H s.heap.objs.size (.tup [kV k,v])) {s with heap:=h3,toks:=s.toks}:=by
   refine Inv.tJ (s:={s with heap:=s.heap.push {cls:=.type "tuple",data:=.seq #[key,x]},toks:=s.toks}) (h':=h3) (t':=s.toks) (fp:=[it]) IA (λb o hb g=>?_) (λb hb=>?_)
   ·have b1:b≠it:=by simpa using hb
    refine up b o b1 ?_
    by_cases eb:b=s.heap.objs.size
    ·subst eb
     have e':(s.heap.push {cls:=.type "tuple",data:=.seq #[key,x]}).get? s.heap.objs.size=some {cls:=.type "tuple",data:=.seq #[key,x]}:=zaL _ rfl;rw[e']at g;cases g;exact hT
    ·have e0:(s.heap.push {cls:=.type "tuple",data:=.seq #[key,x]}).get? b=s.heap.get? b:=Heap.get?_push_ne _ _ _ eb
     exact hk b o b1 (e0▸g)
   ·have eb:b=it:=by simpa using hb
    subst eb;obtain⟨f0,f1⟩:=hf b hb;exact⟨by rw[ah (zaS lt)];exact f0,f1⟩
  refine⟨.ref s.heap.objs.size,_,IB,rfl,⟨_,k,v,rfl,hfr,rfl,hv⟩,⟨_,_,he3⟩,λb hb=>?_⟩
  have eb:b=it:=by simpa using hb
  subst eb;rw[ah (zaS lt)];exact(hf b hb).1
 done:=by
  intro X hP hw hK hc i pins s σ H E I hf st hg;subst hP hw hK;obtain⟨ok,ov,st⟩:=st;obtain⟨hH,hi⟩:=hg;obtain⟨hg,_⟩:=I.hok a _ hH;have hd:s.heap.DictAt (bU X.prog X.w) a vs ep:=hat.at' λo' e=>by rw[ho]at e;cases e;exact hg
  obtain⟨f0,f1,f2,f3,f4,f5⟩:=hf it (by simp)
  have hl:=rel.length;exact wpAny_pyNext_items_end (I.ok.hd hc) st hd (by simp;omega) λh' eb=>⟨rfl,I.turned (t':=s.toks) (λb o hb e=>eb b o hb e) f0 f1 f3 f4 f5⟩
 self:=λA i s Q E st q=>by
  obtain⟨ok,ov,st⟩:=st;refine wpAny_pyIter_slot (id:="dict_itemiterator.__iter__") ⟨_,st,rfl⟩ F.slot_dict_itemiterator_iter (wpAny_call_entry F.slot_dict_itemiterator_iter ⟨_,st,rfl⟩ qg ?_ (F.args_dict_itemiterator_iter_1 _));show wpAny _ _ (ret (.ref it)) _ _ s;exact zaZ ⟨_,rfl,"dict_itemiterator",_,⟨_,st,rfl⟩,F.slot_dict_itemiterator_next.lookup,q⟩
def LO(tl:TE):TI:=fun σ H R=>tl σ H λx H1=>∃a o kvs,x=.ref a/\H1 a=some (.frz o (.dK kvs))/\R (ItI a o kvs) H1
section
variable{X:Cx}
theorem Dn{elts:List Expr}{cx}{tp:Pos}{l:Expr}{tl:TE}{apos cpos:Pos}(hl:PE X l tl)(hbase:attributeBase l "items" X.env (eval l X.env)=eval l X.env:=by rfl)(hline:(apos.endLine==cpos.line)=true:=by rfl) :
  PI X (.Tuple elts cx tp) (.Call (.Attribute l "items" apos) [] [] cpos) (LO tl):=by
 intro pins s σ H R I h;refine wpAny_Call_method0_late hbase hline (thn (hl pins s σ H _ I h) λv s1 ⟨x,H1,I1,r1,q1⟩=>?_)
 obtain⟨a,o,kvs,e,hH,q⟩:=q1;subst e;cases r1;obtain⟨ho,z,hd,vs,rel,dd⟩:=I1.hok a _ hH;obtain⟨ob,_,_,g1,g2,_⟩:=id dd;obtain⟨ep,hat⟩:=dd.dictAt;refine⟨"dict","dict.items",PySem.F.plainAttrs_dict,PySem.F.slot_dict_items,PySem.F.type_dict_items,dd.typeIs,λb eb=>by cases eb;exact⟨ob,g1,g2.2.1⟩,Calls.callWith_builtin rfl (PySem.evalArgs_none ?_)⟩
 refine call_meetsIn PySem.F.slot_dict_items dd.typeIs PySem.F.entry_dict_items (PySem.F.args_dict_items_1 _) (meets_dict_items (bU X.prog X.w) a hd) ⟨⟨vs,dd⟩,?_⟩;have LP:(s1.heap.push {cls:=.type "dict_items",data:=.fields #[.ref a]}).IsItemsView s1.heap.objs.size a:=⟨_,zaL _ rfl,rfl,rfl⟩;have I2:Inv X pins σ H1 {s1 with heap:=s1.heap.push {cls:=.type "dict_items",data:=.fields #[.ref a]}}:=I1.kept (t':=s1.toks) λb o e=>zar _ e
 refine wpAny_pyIter_items (s:={s1 with heap:=s1.heap.push {cls:=.type "dict_items",data:=.fields #[.ref a]}}) LP (hat.push _) ?_
 refine⟨_,[_],_,_,H1,rfl,I2.kept (t':=s1.toks) λb o e=>zar _ e,xV rel ho hat,⟨_,_,zaL _ rfl⟩,λb hb=>?_,q⟩
 have e:b=(s1.heap.push {cls:=.type "dict_items",data:=.fields #[.ref a]}).objs.size:=by simpa using hb
 subst e;exact I2.pq (zap _) (I2.hok.fresh (zap _))
end
end L2
namespace Mir
open PySem L2
variable [Zc]
def j6(es:List (D×D)):List D:=es.map λp=>PyData.tuple [p.1,p.2]
theorem HM:∀{kvs:List (Key×V)} {es:List (D×D)} (_:a0 B kvs es) (i:Nat) {k:Key} {v:V} {p:D×D},kvs[i]?=some (k,v)->es[i]?=some p->l7 k p.1/\Rep B v p.2
 |_,_,.nil,i,k,v,p,h,_=>by simp at h
 |_,_,.cons hk hx r,0,k,v,p,h1,h2=>by
  simp only[List.getElem?_cons_zero,Option.some.injEq]at h1 h2;subst h2;cases h1;exact⟨hk,hx⟩
 |_,_,.cons hk hx r,i+1,k,v,p,h1,h2=>HM r i (by simpa using h1) (by simpa using h2)
theorem l7.rep(h:l7 k c):Rep B (kV k) c:=by
 cases k with
 |inl i=>obtain rfl:=(show c=.int i from h);exact .int i
 |inr x=>obtain rfl:=(show c=.str x from h);exact .str x
theorem Dp(h:G a=some (.frz o (.dK kvs)))(r:a0 B kvs es):lB G B (ItI a o kvs) (j6 es):=λH s=>by
 have h':=s _ _ h;have hl:=r.length;have hp:(j6 es).length=es.length:=by unfold j6;rw[zal]
 refine⟨⟨h',by omega⟩,λi d hd=>?_⟩
 have hi:i<es.length:=by have:=(zac hd).1;omega
 refine⟨⟨h',by omega⟩,λx H' hy=>?_⟩
 obtain⟨p,k,v,rfl,hn,rfl,hk⟩:=hy;have e:(j6 es)[i]?=(es[i]?).map λp=>PyData.tuple [p.1,p.2]:=by unfold j6;rw[zao]
 rw[e]at hd;obtain⟨q,h1,rfl⟩:=zab hd;obtain⟨g1,g2⟩:=HM r i hk h1;exact .inr ⟨p,[kV k,v],[q.1,q.2],rfl,rfl,hn,rfl,.cons g1.rep (.cons g2 .nil)⟩
def zI(dv:PM)(g:D->Rho->Option Rho)(b:SM):SM:=fun ρ=>(dv ρ).bind λx=>(my x.1).bind λes=>if gr ρ=true then(forL g b (j6 es) x.2).bind λo=>if gr (AX o)=true then some o else none else none
theorem Gh(hc:Calm tl dv)(hg:MG tg g)(hb:MS tb b):MS (xS (Ap (LO tl) tg tb)) (zI dv g b):=by
 intro F B H σ ρ o D R e q;obtain⟨x,e1,e⟩:=zaa e;obtain⟨es,e2,e⟩:=zaa e;split at e
 rotate_left
 ·cases e
 rename_i nr
 obtain⟨o',e3,e⟩:=zaa e;split at e
 rotate_left
 ·cases e
 rename_i nr2
 cases e;obtain⟨r,ρ1⟩:=x;obtain⟨rfl,v,rv,h1,h2⟩:=hc F B H σ ρ r ρ1 R e1;obtain rfl:=mz e2;cases rv with
 | @dct a kvs _ hd rk=>
  rcases hd with hd|⟨ob,hd⟩
  ·refine .inl ⟨a,kvs,R.sub a _ hd,λob=>?_⟩
   have R':=R.hide (o:=ob) hd nr;refine h2 a ob kvs hd _ ⟨a,ob,kvs,rfl,au,?_⟩;exact tP hg hb R'.down (Dp au (a0.map' (lF hd) (lG hd) (lH hd) rk)) e3 (mB R hd nr2 q)
  ·exact .inr (h1 _ ⟨a,ob,kvs,rfl,R.sub a _ hd,tP hg hb R (Dp hd rk) e3 q⟩)
end Mir
set_option maxHeartbeats 1000000
namespace L2
open PySem PySem.Spec PyProof.Rows
def aT(a:Int)(x:Str)(c:Int)(y:Str):Bool:=if a=c then(if x=y then false else decide (x.cps.toList<y.cps.toList))else decide (a<c)
section
open PySem.SeqAt
open PySem.AutoSeq1 (wpAny_loadPart')
open PySem.MeetsSeq PySem.MeetsSeq2 PySem.MeetsSeq3
theorem vX(l b:Addr)(n n2:Nat)(dd dd2:Option Addr)(sl sl2:Array (Option Value))(a c:Int)(x y:Str)(t t2 u u2:Tok) :
  Meets (Builtin.«tuple.__lt__» ⟨[.ref l,.ref b],[]⟩)
   (λ_ R s=>s.heap.get? l=some {cls:=.type "tuple",dict:=dd,data:=.seq #[.int a t,.str x u] n,slots:=sl}/\s.heap.get? b=some {cls:=.type "tuple",dict:=dd2,data:=.seq #[.int c t2,.str y u2] n2,slots:=sl2}/\
    R (.ok (.ret (.bool (aT a x c y)))) s) :=
 .of_wp λprog w A R s h=>by
  obtain⟨hp,g,d,tk,os⟩:=s;obtain⟨hl,hb,h⟩:=h;have f2:=AutoSeq1.sub_tuple_tuple
  wp_walk using wpAny_loadPart' hl,wpAny_loadPart' hb,wpAny_forIn_list _ (λrest b s'=>b.1=none/\s'=⟨hp,g,d,tk,os⟩/\
   ((rest=[(.int a t,.int c t2),(.str x u,.str y u2)])\/(rest=[(.str x u,.str y u2)]/\a=c)\/(rest=[]/\a=c/\x=y))) _
  case turn=>
   rintro⟨p,q⟩ rest b s' ⟨hb',rfl,hz⟩
   rcases hz with hz|⟨hz,e0⟩|⟨hz,_,_⟩
   ·cases hz
    refine zaI ((EqAt.int_int a t c t2) prog w _ _ ?_);cases hac:(a==c)with
    |true=>
     have e:a=c:=by simpa using hac
     wp_walk
     exact⟨rfl,rfl,.inr (.inl ⟨rfl,e⟩)⟩
    |false=>
     have e:a≠c:=by simpa using hac
     have hri:=HT.Ca A.in1 ⟨hp,g,d,tk,os⟩ a t c t2 prog w;have hR:R (.ok (.ret (.bool (decide (a<c))))) ⟨hp,g,d,tk,os⟩:=by
      unfold aT at h
      rwa[if_neg e]at h
     wp_walk using hri
     exact⟨_,rfl,by simpa using hR⟩
   ·cases hz
    refine zaI ((EqAt.str_str x u y u2) prog w _ _ ?_);cases hxy:(x==y)with
    |true=>
     have e:x=y:=by simpa using hxy
     wp_walk
     exact⟨rfl,rfl,.inr (.inr ⟨rfl,e0,e⟩)⟩
    |false=>
     have e:x≠y:=by simpa using hxy
     have hri:∀(E:Value->Shared->Prop) (Q:Value->Shared->Prop),Q (.bool (decide (x.cps.toList<y.cps.toList))) ⟨hp,g,d,tk,os⟩->wpAny (model prog w) A.in1 (richCompare .Lt (.str x u) (.str y u2)) Q E ⟨hp,g,d,tk,os⟩:=λE Q hq=>(PyProof.Rows.lt_str hq:wpAny (model prog w) A.in1 (compareOp .Lt (.str x u) (.str y u2)) Q E ⟨hp,g,d,tk,os⟩)
     have hR:R (.ok (.ret (.bool (decide (x.cps.toList<y.cps.toList))))) ⟨hp,g,d,tk,os⟩:=by
      unfold aT at h
      rwa[if_pos e0,if_neg e]at h
     wp_walk using hri
     exact⟨_,rfl,by simpa using hR⟩
   ·cases hz
  case fin=>
   rintro⟨b1,b2⟩ s' ⟨hb',rfl,hz⟩
   simp only at hb';subst hb';rcases hz with hz|⟨hz,_⟩|⟨_,e1,e2⟩
   ·cases hz
   ·cases hz
   ·have hR:R (.ok (.ret (.bool false))) ⟨hp,g,d,tk,os⟩:=by
     unfold aT at h
     rwa[if_pos e1,if_pos e2]at h
    wp_walk
    exact⟨_,rfl,by simpa[Builtin.Tuple.tupleCompareSizes]using hR⟩
  case h=>exact⟨rfl,rfl,.inl rfl⟩
end
section
variable{prog:Program}{w:World}{A:Around}{E:Value->Shared->Prop}{s:Shared}
theorem vY(hl:IsTup s.heap l #[.int a t,.str x u])(hb:IsTup s.heap b #[.int c t2,.str y u2])(hu:A.units<cLine)(h:Q (.bool (aT a x c y)) s) :
  wpAny (model prog w) A (compareOp .Lt (.ref l) (.ref b)) Q E s:=by
 obtain⟨⟨cls,dd,data,sl⟩,ho,hc,n,hd⟩:=id hl;obtain⟨⟨cls2,dd2,data2,sl2⟩,ho2,hc2,n2,hd2⟩:=id hb;simp only at hc hd hc2 hd2;subst hc hd hc2 hd2;exact richCompare_meets_room (op:=.Lt) ⟨_,ho,rfl⟩ ⟨_,ho2,rfl⟩ PySem.F.slot_tuple_lt PySem.F.entry_tuple_lt (PySem.F.args_tuple_lt_2 _ _) (vX l b n n2 dd dd2 sl sl2 a c x y t t2 u u2)
  ⟨ho,ho2,show Value.bool (aT a x c y)≠Value.notImplemented/\Q (.bool (aT a x c y)) s from⟨(λx=>nomatch x),h⟩⟩ hu
end
section
variable{X:Cx}{K:zag}
def Dq(K:zag):R2:=λx y H Q=>∃a b i z j v,x=.ref a/\y=.ref b/\SqT K H a [.int i,.str z]/\SqT K H b [.int j,.str v]/\Q (.bl (aT i z j v)) H
theorem JU(h:X.K=K)(hu:X.A.units<cLine):OpR X (compareOp .Lt) (Dq K):=by
 subst h;intro pins s σ H x y v u Q I rx ry h;obtain⟨a,b,i,z,j,w,rfl,rfl,ha,hb,q⟩:=h;cases rx;cases ry;obtain⟨its,r1,p1,_⟩:=I.tuple ha;obtain⟨its2,r2,p2,_⟩:=I.tuple hb;cases r1 with
 |cons e1 r1=>
  cases r1 with
  |cons e2 r1=>
   cases r1;cases r2 with
   |cons f1 r2=>
    cases r2 with
    |cons f2 r2=>
     cases r2;obtain⟨t1,rfl⟩:=e1;obtain⟨t2,rfl⟩:=e2;obtain⟨t3,rfl⟩:=f1;obtain⟨t4,rfl⟩:=f2;exact vY p1 p2 hu ⟨.bl _,H,I,rfl,q⟩
end
end L2
namespace Mir
open PySem L2
variable [Zc]
def Dr:D->D->Option (D×Bool)
 | .tuple [.int i,.str z],.tuple [.int j,.str w]=>some (.bool (aT i z j w),false)
 |_,_=>none
theorem LQ:OpJ (Dq K) Dr:=by
 intro B H x y c d res s hx hy e;unfold Dr at e;split at e
 ·cases e
  obtain⟨p,xs,rfl,h1,r1⟩:=hx.tuple s;obtain⟨q,ys,rfl,h2,r2⟩:=hy.tuple s;cases r1 with
  |cons a1 r1=>
   cases r1 with
   |cons a2 r1=>
    cases r1;cases r2 with
    |cons b1 r2=>
     cases r2 with
     |cons b2 r2=>
      cases r2;cases a1;cases a2;cases b1;cases b2
      exact⟨.bl _,.bl _,λQ q'=>⟨p,q,_,_,_,_,rfl,rfl,.inl (.inl h1),.inl (.inl h2),q'⟩⟩
 ·cases e
end Mir
set_option maxHeartbeats 1000000
namespace L2
open PySem PySem.Spec PyProof.Rows
theorem Ds(A:Around)(s:Shared)(a:Int)(t:Tok)(c:Int)(u:Tok)(prog:Program)(w:World)(E:Value->Shared->Prop)(Q:Value->Shared->Prop)(h:Q (.bool (decide (c<a))) s) :
  wpAny (model prog w) A (richCompare .Gt (.int a t) (.int c u)) Q E s :=
 (PyProof.Rows.gt_int h:wpAny (model prog w) A (compareOp .Gt (.int a t) (.int c u)) Q E s)
section
open PySem.SeqAt
open PySem.AutoSeq1 (wpAny_loadPart')
open PySem.MeetsSeq PySem.MeetsSeq2 PySem.MeetsSeq3
theorem vZ(l b:Addr)(n n2:Nat)(dd dd2:Option Addr)(sl sl2:Array (Option Value))(a c:Int)(x y:Str)(t t2 u u2:Tok) :
  Meets (Builtin.«tuple.__gt__» ⟨[.ref l,.ref b],[]⟩)
   (λ_ R s=>s.heap.get? l=some {cls:=.type "tuple",dict:=dd,data:=.seq #[.int a t,.str x u] n,slots:=sl}/\s.heap.get? b=some {cls:=.type "tuple",dict:=dd2,data:=.seq #[.int c t2,.str y u2] n2,slots:=sl2}/\
    R (.ok (.ret (.bool (aT c y a x)))) s) :=
 .of_wp λprog w A R s h=>by
  obtain⟨hp,g,d,tk,os⟩:=s;obtain⟨hl,hb,h⟩:=h;have f2:=AutoSeq1.sub_tuple_tuple
  wp_walk using wpAny_loadPart' hl,wpAny_loadPart' hb,wpAny_forIn_list _ (λrest b s'=>b.1=none/\s'=⟨hp,g,d,tk,os⟩/\
   ((rest=[(.int a t,.int c t2),(.str x u,.str y u2)])\/(rest=[(.str x u,.str y u2)]/\a=c)\/(rest=[]/\a=c/\x=y))) _
  case turn=>
   rintro⟨p,q⟩ rest b s' ⟨hb',rfl,hz⟩
   rcases hz with hz|⟨hz,e0⟩|⟨hz,_,_⟩
   ·cases hz
    refine zaI ((EqAt.int_int a t c t2) prog w _ _ ?_);cases hac:(a==c)with
    |true=>
     have e:a=c:=by simpa using hac
     wp_walk
     exact⟨rfl,rfl,.inr (.inl ⟨rfl,e⟩)⟩
    |false=>
     have e:a≠c:=by simpa using hac
     have hri:=Ds A.in1 ⟨hp,g,d,tk,os⟩ a t c t2 prog w;have hR:R (.ok (.ret (.bool (decide (c<a))))) ⟨hp,g,d,tk,os⟩:=by
      unfold aT at h
      rwa[if_neg (λz=>e z.symm)]at h
     wp_walk using hri
     exact⟨_,rfl,by simpa using hR⟩
   ·cases hz
    refine zaI ((EqAt.str_str x u y u2) prog w _ _ ?_);cases hxy:(x==y)with
    |true=>
     have e:x=y:=by simpa using hxy
     wp_walk
     exact⟨rfl,rfl,.inr (.inr ⟨rfl,e0,e⟩)⟩
    |false=>
     have e:x≠y:=by simpa using hxy
     have hri:∀(E:Value->Shared->Prop) (Q:Value->Shared->Prop),Q (.bool (decide (y.cps.toList<x.cps.toList))) ⟨hp,g,d,tk,os⟩->wpAny (model prog w) A.in1 (richCompare .Gt (.str x u) (.str y u2)) Q E ⟨hp,g,d,tk,os⟩:=λE Q hq=>(PySem.P.gt_str hq:wpAny (model prog w) A.in1 (compareOp .Gt (.str x u) (.str y u2)) Q E ⟨hp,g,d,tk,os⟩)
     have hR:R (.ok (.ret (.bool (decide (y.cps.toList<x.cps.toList))))) ⟨hp,g,d,tk,os⟩:=by
      unfold aT at h
      rwa[if_pos e0.symm,if_neg (λz=>e z.symm)]at h
     wp_walk using hri
     exact⟨_,rfl,by simpa using hR⟩
   ·cases hz
  case fin=>
   rintro⟨b1,b2⟩ s' ⟨hb',rfl,hz⟩
   simp only at hb';subst hb';rcases hz with hz|⟨hz,_⟩|⟨_,e1,e2⟩
   ·cases hz
   ·cases hz
   ·have hR:R (.ok (.ret (.bool false))) ⟨hp,g,d,tk,os⟩:=by
     unfold aT at h
     rwa[if_pos e1.symm,if_pos e2.symm]at h
    wp_walk
    exact⟨_,rfl,by simpa[Builtin.Tuple.tupleCompareSizes]using hR⟩
  case h=>exact⟨rfl,rfl,.inl rfl⟩
end
section
variable{prog:Program}{w:World}{A:Around}{E:Value->Shared->Prop}{s:Shared}
theorem Dt(hl:IsTup s.heap l #[.int a t,.str x u])(hb:IsTup s.heap b #[.int c t2,.str y u2])(hu:A.units<cLine)(h:Q (.bool (aT c y a x)) s) :
  wpAny (model prog w) A (compareOp .Gt (.ref l) (.ref b)) Q E s:=by
 obtain⟨⟨cls,dd,data,sl⟩,ho,hc,n,hd⟩:=id hl;obtain⟨⟨cls2,dd2,data2,sl2⟩,ho2,hc2,n2,hd2⟩:=id hb;simp only at hc hd hc2 hd2;subst hc hd hc2 hd2;exact richCompare_meets_room (op:=.Gt) ⟨_,ho,rfl⟩ ⟨_,ho2,rfl⟩ PySem.F.slot_tuple_gt PySem.F.entry_tuple_gt (PySem.F.args_tuple_gt_2 _ _) (vZ l b n n2 dd dd2 sl sl2 a c x y t t2 u u2)
  ⟨ho,ho2,show Value.bool (aT c y a x)≠Value.notImplemented/\Q (.bool (aT c y a x)) s from⟨(λx=>nomatch x),h⟩⟩ hu
end
section
variable{X:Cx}{K:zag}
def LR(K:zag):R2:=λx y H Q=>∃a b i z j v,x=.ref a/\y=.ref b/\SqT K H a [.int i,.str z]/\SqT K H b [.int j,.str v]/\Q (.bl (aT j v i z)) H
theorem JV(h:X.K=K)(hu:X.A.units<cLine):OpR X (compareOp .Gt) (LR K):=by
 subst h;intro pins s σ H x y v u Q I rx ry h;obtain⟨a,b,i,z,j,w,rfl,rfl,ha,hb,q⟩:=h;cases rx;cases ry;obtain⟨its,r1,p1,_⟩:=I.tuple ha;obtain⟨its2,r2,p2,_⟩:=I.tuple hb;cases r1 with
 |cons e1 r1=>
  cases r1 with
  |cons e2 r1=>
   cases r1;cases r2 with
   |cons f1 r2=>
    cases r2 with
    |cons f2 r2=>
     cases r2;obtain⟨t1,rfl⟩:=e1;obtain⟨t2,rfl⟩:=e2;obtain⟨t3,rfl⟩:=f1;obtain⟨t4,rfl⟩:=f2;exact Dt p1 p2 hu ⟨.bl _,H,I,rfl,q⟩
end
end L2
namespace Mir
open PySem L2
variable [Zc]
def Gi:D->D->Option (D×Bool)
 | .tuple [.int i,.str z],.tuple [.int j,.str w]=>some (.bool (aT j w i z),false)
 |_,_=>none
theorem LS:OpJ (LR K) Gi:=by
 intro B H x y c d res s hx hy e;unfold Gi at e;split at e
 ·cases e
  obtain⟨p,xs,rfl,h1,r1⟩:=hx.tuple s;obtain⟨q,ys,rfl,h2,r2⟩:=hy.tuple s;cases r1 with
  |cons a1 r1=>
   cases r1 with
   |cons a2 r1=>
    cases r1;cases r2 with
    |cons b1 r2=>
     cases r2 with
     |cons b2 r2=>
      cases r2;cases a1;cases a2;cases b1;cases b2
      exact⟨.bl _,.bl _,λQ q'=>⟨p,q,_,_,_,_,rfl,rfl,.inl (.inl h1),.inl (.inl h2),q'⟩⟩
 ·cases e
end Mir
namespace L2
open PySem PySem.Spec PyProof.Rows
end L2
namespace Mir
open PySem L2
section
variable [Zc] [Zl]{W:WX}
theorem tT{α β:Type}{Rl:RL β α}{t:St->Hp->(β->Hp->Prop)->Prop}{m:MN α}{k : α->SN}{G:FrN}{A:List Addr}{B H:Hp}{σ:St}{s:SS}{o:fN}{D:Ends}{C : β->Hp->Prop}(h:NM W Rl t m)(R:bf G A B H σ s)(e:bS m k s=some o)(q:NOk G W D o)
  (c:∀x v A' B' H' s',Gro A A'->aG B B'->bf G A' B' H' σ s'->Rl A' B' x v->k v s'=some o->C x H'):t σ H C:=by
 unfold bS at e;split at e
 ·rename_i v s' h1
  exact h G A B H σ s _ C R h1 λx A' B' H' g eB R' V=>c x v A' B' H' s' g eB R' V e
 ·rename_i y s' h1
  cases e;exact h G A B H σ s _ C R h1 λA' B' H' R'=>q A' B' H' σ R'
 ·cases e
def Du(x y k:SV)(s:SS):Option fN:=match x,y,k with
 | .lc j,.pl yd,.pl kd=>(keyOf kd).bind λkey=>match s.S[j]? with
  |some (some (.dat (.dict es)))=>cIf (es.length<100000) (some (.nx ⟨s.S.set j (some (.dat (.dict (putD es kd yd key)))),s.t⟩)) none
  |_=>none
 |_,_,_=>none
def fQ(d k v:EN):SN:=bS v λy=>bS d λx=>bS k λz=>Du x y z
theorem gg(hd:NE W td d)(hk:NE W ty k)(hv:NE W tv v):NS W (Dc td ty tv) (fQ d k v):=by
 intro G A B H σ s o D R e q;refine tT (t:=tv) hv R e q λy yv A1 B1 H1 s1 g1 eB1 R1 V1 e1=>?_
 refine tT (t:=td) hd R1 e1 q λx xv A2 B2 H2 s2 g2 eB2 R2 V2 e2=>?_
 refine tT (t:=ty) hk R2 e2 q λz zv A3 B3 H3 s3 g3 eB3 R3 V3 e3=>?_
 unfold Du at e3;split at e3
 ·rename_i j yd kd
  obtain⟨key,e4,e5⟩:=zaa e3;split at e5
  ·rename_i es hj
   obtain⟨hz,e6⟩:=cK e5;cases e6;have V2':=V2.mono g3 eB3;cases V1 with
   |pl ry=>
    cases V3 with
    |pl rz=>
     cases V2' with
     |lc hA=>
      cases R3.st.cell j _ _ hj hA with
      |dat ow=>
       obtain⟨kvs,hp,rk⟩:=ow.dict;obtain rfl:z=kV key:=View.key (H:=H3) (.inl rz) e4;have R4:=R3.write (o:=.dK (putK kvs key y)) (c:=.dat (.dict (putD es kd yd key))) hA trivial (.dat (.dct au (a0.put (zD e4) (ry.mono (eB2.trans eB3)) rk)));exact⟨_,_,rfl,.inl ⟨kvs,key,hp,rfl,by rw[rk.length,sizeLine_eq];omega,rfl⟩,q A3 B3 _ σ R4⟩
  ·cases e5
 ·cases e3
def tU(f:List D->Option (D×D))(m:MN (List SV)):EN:=bN m λxs s=>(gF s.S xs).bind λds=>(f ds).bind λc=>if(cI c.1 true&&cI c.2 true)=true then some (.ok (.tp [.lc s.S.length,.lc (s.S.length+1)]) ⟨s.S++[some (.dat c.1)]++[some (.dat c.2)],s.t⟩)else none
theorem bf.opened{G:FrN}{A:List Addr}{B H B' H':Hp}{σ:St}{s:SS}(R:bf G A B H σ s)(eH:aG H H')(nz:∀q o u,H' q=some (.frz o u)->H q≠none):bf G A (tbu B H') H' σ s:=by
 have oI:aG B H':=R.sub.trans eH;refine R.grow j3 eH (λq u h=>?_) (λq h z=>?_) (λq xs h=>jx oI h) λq u w h=>?_
 ·rcases lE h with h|⟨_,xs,rfl,h'⟩
  ·exact oI q u h
  ·exact h'
 ·cases h2:tbu B H' q with
  |none=>rfl
  |some u=>
   rcases lE h2 with h3|⟨_,xs,rfl,h3⟩
   ·rw[z]at h3;cases h3
   ·cases h4:H q with
    |none=>exact absurd h4 h
    |some u4=>
     have:=eH q u4 h4;rw[h3]at this;cases this;rw[R.cJ q xs h4]at z;cases z
 ·have hq:=nz q u w h
  cases h2:H q with
  |none=>exact absurd h2 hq
  |some o2=>
   have:=eH q o2 h2;rw[h]at this;cases this;exact R.nz q u w h2
theorem mD(h:B p=none)(n:∀xs,H p≠some (.tup xs)):tbu B H p=none:=by
 cases h2:tbu B H p with
 |none=>rfl
 |some o'=>
  rcases lE h2 with h3|⟨_,xs,rfl,h3⟩
  ·rw[h]at h3;cases h3
  ·exact absurd h3 (n xs)
theorem Dv(h:NA W t m):NE W (n4 (spD f) [] E t) (tU f m):=by
 intro G A B H σ s r0 Q R e q;refine dM (t:=t) h R e q λvs xs A1 B1 H1 s1 g1 eB1 R1 V1 e1 q1=>?_
 rw[zaR];obtain⟨ds,h1,e1⟩:=zaa e1;obtain⟨c,h2,e1⟩:=zaa e1;split at e1
 case isFalse=>cases e1
 rename_i hp
 rw[Bool.and_eq_true]at hp;cases e1;refine⟨H1,ds,c,aG.refl _,λ_ _ z=>z,ie R1.st R1.sub V1 h1,h2,λv B' H' P=>?_⟩
 obtain⟨a,p,r,rfl,ha,hpr,hp0,hr0,hBp,hBr,op,or⟩:=P.val;have R2:=R1.opened (B':=B') P.eH P.nz;have oI:aG B1 H':=R1.sub.trans P.eH;have kt:∀q xs,B' q=some (.tup xs)->tbu B1 H' q=some (.tup xs):=λq xs h=>jx oI (P.sub _ _ h)
 have op':=op.cH kt hp.1;have or':=or.cH kt hp.2;obtain⟨o1,ho1,mo1⟩:=op'.mx;obtain⟨o2,ho2,mo2⟩:=or'.mx;obtain⟨gp1,gp2,gp3⟩:=R1.nu hp0;obtain⟨gr1,gr2,gr3⟩:=R1.nu hr0;have R3:=R2.take (c:=.dat c.1) gp1 gp2 (mD gp3 (op.rG)) ho1 mo1 (.dat op');have R4:=R3.take (c:=.dat c.2) gr1 (λz=>by
  rcases zae z with z|z
  ·exact gr2 z
  ·exact hpr (zad z).symm) (mD gr3 (or.rG)) ho2 mo2 (.dat or')
 refine q1 _ _ _ H' ((Gro.app _ _).trans (Gro.app _ _)) j3 R4 (.tp (jx oI ha) (.cons (.lc ?_) (.cons (.lc ?_) .nil)))
 ·rw[<-R1.st.len]
  exact Gro.app _ _ _ _ List.getElem?_concat_length
 ·rw[<-R1.st.len]
  have:(A1++[p]).length=A1.length+1:=by simp
  rw[<-this];exact List.getElem?_concat_length
end
end Mir
namespace L2
open PySem PySem.Spec PyProof.Rows
section
variable{X:Cx}
def HN:V->List V->Hp->VK->Prop:=λx xs H Q=>∃a kvs k v,x=.ref a/\xs=[kV k]/\H a=some (.dK kvs)/\ip kvs k=some v/\Q v (upd H a (.dK (oh kvs k)))
theorem oX:MtR X "dict.pop" HN:=by
 intro pins s σ H x xs v us Q I rx rv h;obtain⟨a,kvs,k,y,rfl,rfl,e,l,q⟩:=h;cases rx;cases rv with
 |cons r1 rv=>
  cases rv;exact LJ I e r1 l (.inl rfl) λw' s' I' rw'=>⟨y,_,I',rw',q⟩
end
end L2
namespace Mir
open PySem L2
section
variable [Zc] [Zl]{W:WX}
def lg(es:List (D×D))(k:Key):List (D×D):=es.filter λp=>decide (keyOf p.1≠some k)
theorem a0.drop:∀{kvs:List (Key×V)} {es:List (D×D)},a0 B kvs es->a0 B (oh kvs k) (lg es k)
 |_,_,.nil=>.nil
 |_,_,.cons (k:=k') (c:=c') hk hv r=>by
  have ih:=a0.drop (k:=k) r;unfold oh lg at ih⊢;rw[List.filter_cons,List.filter_cons];have e:(decide (keyOf c'≠some k))=decide (k'≠k):=by
   rw[hk.of];simp
  dsimp only;rw[e];split
  ·exact .cons hk hv ih
  ·exact ih
def v5(k:Nat)(xs:List SV)(s:SS):Option (RR SV):=match xs with
 | [.pl kd]=>(keyOf kd).bind λkey=>match s.S[k]? with
  |some (some (.dat (.dict es)))=>(dO es key).map λd=>.ok (.pl d) ⟨s.S.set k (some (.dat (.dict (lg es key)))),s.t⟩
  |_=>none
 |_=>none
def mE(S:List (Option Cl))(k:Nat):Bool:=match S[k]? with
 |some (some (.dat (.dict _)))=>true
 |_=>false
def j7(a:EN)(m:MN (List SV)):EN:=bN a λx s=>match x with
 | .lc k=>if mE s.S k=true then bN m (λxs s2=>v5 k xs s2) s else none
 |_=>none
theorem oY(ha:NE W te a)(h:NA W t m):NE W (tBM K "dict" HN te t) (j7 a m):=by
 intro G A B H σ s r0 Q R e q;refine dM (t:=te) ha R e q λx v A1 B1 H1 s1 g1 eB1 R1 V1 e1 q1=>?_
 split at e1
 ·rename_i k
  split at e1
  ·rename_i hl
   cases V1 with
   |lc hA=>
    refine⟨?_,?_⟩
    ·unfold mE at hl
     split at hl
     ·rename_i es hk
      cases R1.st.cell k _ _ hk hA with
      |dat ow=>obtain⟨kvs,hp,_⟩:=ow.dict;exact .inr (.inr (.inl ⟨rfl,.inl ⟨kvs,hp⟩⟩))
     ·cases hl
    ·refine dM (t:=t) h R1 e1 q1 λvs xs A2 B2 H2 s2 g2 eB2 R2 V2 e2 q2=>?_
     unfold v5 at e2;split at e2
     ·rename_i kd
      obtain⟨key,e3,e4⟩:=zaa e2;split at e4
      ·rename_i es hk
       obtain⟨d,e5,e6⟩:=zab e4;cases e6;cases V2 with
       |cons va V2=>
        cases V2;cases va with
        |pl rz=>
         cases R2.st.cell k _ _ hk (g2 _ _ hA)with
         |dat ow=>
          obtain⟨kvs,hp,rk⟩:=ow.dict;obtain⟨u,hu,ru⟩:=(i7 (k:=key) rk).1 d e5;have ez:=View.key (H:=H2) (.inl rz) e3;subst ez;have R3:=R2.write (o:=.dK (oh kvs key)) (c:=.dat (.dict (lg es key))) (g2 _ _ hA) trivial (.dat (.dct au (a0.drop rk)));exact⟨_,kvs,key,u,rfl,rfl,hp,hu,q2 u A2 B2 _ (Gro.refl _) (aG.refl _) R3 (.pl ru)⟩
      ·cases e4
     ·cases e2
  ·cases e1
 ·cases e1
end
end Mir
namespace L2
open PySem
def HP(xs:List V)(H:Hp)(Q:VK):Prop:=Lc xs H Q\/∃a o kvs n,xs=[.ref a,.ty n]/\(H a=some (.dK kvs)\/H a=some (.frz o (.dK kvs)))/\n∈eA/\Q (.bl (pE "dict" n)) H
theorem AZ:dZ X (.builtin "isinstance") HP:=by
 intro pins s σ H xs us Q I r h;rcases h with h|⟨a,o,kvs,n,rfl,hd,h2,q⟩
 ·exact Cf pins s σ H xs us Q I r h
 ·obtain⟨u,v,rfl,ru,rv⟩:=vals2 r
  cases rv;have fin:∀{vs} {h:Heap},h=s.heap->h.DictOf (bU X.prog X.w) a vs->wpAny (model X.prog X.w) X.A (call (.builtin "isinstance") [u,.type n]) (EP X pins σ Q) X.xe s:=fun{vs h} eh p=>by
   subst eh;cases(show u=Value.ref a from ru);obtain⟨o,es,ep,h1,h3,_⟩:=p;exact za4 PySem.W.kitx_dict I.kIn ⟨o,h1,h3.1⟩ (rE X.K "dict" (by decide) n h2) (λz=>nomatch z) λtk=>⟨.bl _,H,I.tok tk,rfl,q⟩
  rcases hd with hd|hd
  ·obtain⟨_,_,vs,_,p⟩:=(show bR X.prog X.w H s.heap a (.dK kvs)from I.hok a _ hd)
   exact fin rfl p
  ·obtain⟨_,_,_,vs,_,p⟩:=(show bR X.prog X.w H s.heap a (.frz o (.dK kvs))from I.hok a _ hd)
   exact fin rfl p
end L2
namespace Mir
open PySem L2
section
variable [Zc]
def Dw(n:String):D->Option (D×Bool)
 | .dict _=>if n∈eA then some (.bool (pE "dict" n),false)else none
 |d=>ng n d
def v7(n:String)(a:PM):PM:=mUn (Dw n) a
theorem Gj(ha:ME ta a):ME (tCB HP (nZ ta (nZ (tC (.ty n)) vf))) (v7 n a):=by
 intro F B H σ ρ r0 ρ' Q R e q;obtain⟨x,e1,e⟩:=zaa e;obtain⟨res,e4,e⟩:=zab e;cases e
 by_cases hd:∃es,x.1.1=.dict es
 ·obtain⟨es,hd⟩:=hd
  refine ha.sv F B H σ ρ x.1 x.2 _ R e1 λv B1 H1 E1 R1 V1 N1=>?_
  rw[hd]at e4;have e4':(if n∈eA then some ((PyData.bool (pE "dict" n),false):D×Bool)else none)=some res:=e4
  by_cases hn:n∈eA
  ·rw[if_pos hn]at e4'
   cases e4';have rp:=(V1.view R1).rep R1.sub;rw[hd]at rp;cases rp with
   |dct h _=>
    rcases h with h|⟨o,h⟩
    ·exact .inr ⟨_,⟨.none,none,.plain,#[]⟩,_,n,rfl,.inl h,hn,q _ B1 H1 E1 R1 (.bl _) λp z=>by cases z⟩
    ·exact .inr ⟨_,o,_,n,rfl,.inr h,hn,q _ B1 H1 E1 R1 (.bl _) λp z=>by cases z⟩
  ·rw[if_neg hn]at e4';cases e4'
 ·have e5:ng n x.1.1=some res:=by
   revert e4 hd
   cases x.1.1 with
   |dict es=>intro _ hd;exact absurd ⟨es,rfl⟩ hd
   |_=>intro e4 _;exact e4
  refine ha.sv F B H σ ρ x.1 x.2 _ R e1 λv B1 H1 E1 R1 V1 N1=>.inl ?_
  unfold ng at e5;split at e5
  ·rename_i hd'
   cases e5;have rp:=(V1.view R1).rep R1.sub;have ht:=rp.ty hd'.1;have hk:tyD x.1.1∈eP:=by
    have h2:=hd'.1
    revert h2
    cases x.1.1 with
    |none=>intro _;show "NoneType"∈eP;decide
    |bool _=>intro _;show "bool"∈eP;decide
    |int _=>intro _;show "int"∈eP;decide
    |str _=>intro _;show "str"∈eP;decide
    |list _=>intro _;show "list"∈eP;decide
    |tuple _=>intro _;show "tuple"∈eP;decide
    |dict _=>intro h2;exact absurd rfl h2
   exact⟨v,n,rfl,by rw[ht];exact hk,hd'.2,by rw[ht];exact q _ B1 H1 E1 R1 (.bl _) λp z=>by cases z⟩
  ·cases e5
end
end Mir
namespace L2
open PySem
theorem hv1(h:a+b<c)(hb : 1<=b:=by decide):a+1<c:=by omega
end L2
namespace Mir
open PySem L2
end Mir
namespace L2
open PySem PySem.Spec PyProof.Rows PySem.W
abbrev xW(X:Cx)(qual:Str)(scope:Scope)(L f:Addr)(cd:Value):Env:=envX qual scope L f cd (eG X.env.cells scope.names [])
def rS(X:Cx)(A:Around)(qual:Str)(scope:Scope)(N':List Str)(s₂:Shared)(H₂:Hp)(f:Addr)(cd:Value):Cx where
 prog:=X.prog
 w:=X.w
 K:=X.K
 mg:=X.mg
 base:=X.base
 A:=A.deeper (xW X qual scope s₂.heap.objs.size f cd)
 N:=N'
 s₀:=s₂
 H₀:=H₂
 env:=xW X qual scope s₂.heap.objs.size f cd
 outer:=X.stack
 stack:=xW X qual scope s₂.heap.objs.size f cd::X.stack
 ex:=[]
 calm:=true
 fn:=λ_=>false
 pn:=[]
 xe:=λ_ _=>False
section
variable{X:Cx}{scope:Scope}{x:Str}{fr:List (Str×Nat)}{pins:List (Addr×Obj)}{σ:St}{H:Hp}{s:Shared}
theorem Blk.kinds'(B:Blk X scope x fr)(h:scope.names.lookup y=some .cell\/scope.names.lookup y=some .free):(y,NameKind.free)∈scope.names:=by
 rcases h with h|h
 ·exact absurd rfl (B.cell _ (za5 h))
 ·exact za5 h
theorem Gk(I:Inv X pins σ H s)(B:Blk X scope x fr)(hA:A.frames=some X.stack)(hd:A.handled=none)(rv:RelV v u)
  (old:∀b ob,s.heap.get? b=some ob->h₁.get? b=some ob) (hns:h₁.Ns s.heap.objs.size λy=>[(x,u)].reverse.lookup y) :
  Inv (rS X A qual scope (bL x fr) s H f cd) [] (some v::aP σ fr) H {s with heap:=h₁,toks:=tk}:=by
 have e0:=I.env0;have noA:∀b:Addr,b∉([]:List Addr):=λb=>by simp
 refine⟨⟨I.ok.mod,B.kind,rfl,rfl,zap _,λy z c h1 h2=>I.ok.inj y z c (B.sub I.ok _ _ h1) (B.sub I.ok _ _ h2),λy hy=>l5 _ _ _ (.inl (B.kinds' hy)),λy c h _=>(zam h).elim,λ_=>hd,Around.frames_deeper hA,.inr ⟨rfl,rfl⟩,
  λb z=>absurd z (noA b),I.bs,zaX I.ok.bsz I.sz,λb _ _=>noA b,λb z=>absurd z (noA b),I.stack,I.lY,I.tab⟩,
  rfl,I.bare,Un.kept old,⟨_,hns,λi y w' h1 h2 h3=>?_⟩,λy c e=>?_,I.hok.fresh (zap _),λy c e=>I.fk y c (B.sub I.ok _ _ e),λp hp=>absurd (show p∈([]:List (Addr×Obj))from hp) (by simp),I.hok.kept old,?_⟩
 ·cases i with
  |zero=>
   simp only[List.getElem?_cons_zero,Option.some.injEq]at h2;subst h2;have e1:x=y:=by simpa[bL,rS]using h1
   subst e1;exact⟨u,rv,.inl ⟨B.here,by simp⟩⟩
  |succ i=>
   have h1':(fr.map (·.1))[i]?=some y:=by
    have z:(x::fr.map (·.1))[i+1]?=some y:=h1
    rw[zat]at z;exact z
   have h2':(aP σ fr)[i]?=some (some w'):=by simpa using h2
   rw[zao]at h1';unfold aP at h2';rw[zao]at h2';cases e:fr[i]? with
   |none=>rw[e]at h1';cases h1'
   |some p=>
    rw[e]at h1' h2';have e1:p.1=y:=by simpa using h1'
    have e2 : σ.getD p.2 none=some w':=by simpa using h2'
    have hs:=List.all_eq_true.mp B.seen p (zaj e);rw[Bool.and_eq_true]at hs;have hs1:scope.names.lookup p.1=some .free:=by simpa using hs.1
    have hs2:X.N[p.2]?=some p.1:=by simpa using hs.2
    rw[e1]at hs1 hs2;have hk:X.env.kindOf y=some .cell:=B.frees _ (za5 hs1) rfl;have e3 : σ[p.2]?=some (some w'):=by
     rw[List.getD_eq_getElem?_getD]at e2;cases q : σ[p.2]? with
     |none=>rw[q]at e2;simp at e2
     |some z=>rw[q]at e2;simp at e2;rw[e2]
    obtain⟨m,hn,hl⟩:=I.loc;obtain⟨u,r,l⟩:=hl p.2 y w' hs2 e3 (.inr (.inl hk));refine⟨u,r,.inr ⟨.inr hs1,?_⟩⟩;rcases l with⟨z,_⟩|⟨_,c,ec,z⟩
    ·rw[hk]at z;cases z
    ·obtain⟨c',hc'⟩:=l5 (cells:=X.env.cells) scope.names [] y (.inl (za5 hs1))
     have:=B.sub I.ok _ _ hc';rw[ec]at this;cases this;obtain⟨ob,ho,hd⟩:=z;exact⟨c,hc',ob,old _ _ ho,hd⟩
 ·obtain⟨v,ob,ho,hd⟩:=I.cell y c (B.sub I.ok _ _ e)
  exact⟨v,ob,old _ _ ho,hd⟩
 ·show _=(bL x fr).length
  simp[bL,aP]
theorem Dx(I:Inv X pins σ H s)(B:Blk X scope x fr)(hco:scope.isCoroutine=false)(hgen:scope.isGenerator=false)
  (hA:A.frames=some X.stack) (hr:dh (k+1) A) (ho:s.heap.get? f=some (kla_obj name qual params body scope (eG X.env.cells scope.names []) pm c' ctv)) (hcd:s.heap.CodeRec (.ref c') qual)
  (hbind:bindArgs (kla_fn name qual params body scope (eG X.env.cells scope.names []) pm (.ref c') ctv) ⟨[u],[]⟩=pure [(x,u)]) (rv:RelV v u)
  (he:∀s₂ H₂,PE (rS X A qual scope (bL x fr) s₂ H₂ f (.ref c')) body te) (q:te (some v::aP σ fr) H Q) :
  codeAny (model X.prog X.w) A (.call (.ref f) ⟨[u],[]⟩) (λr s'=>match r with| .ok (.ret u')=>∃v' H',Inv X pins σ H' s'/\RelV v' u'/\(∀b ps,H b=some (.tbl ps)->∃more,H' b=some (.tbl (ps++more)))/\Q v' H'|_=>False) s:=by
 refine kla_callFunE hr.depth ho rfl hco hgen rfl hcd ?_;rw[hbind];refine zaZ (wpAny_newFunctionEnv B.cell (λy hy=>?_) (λh₁ hns hsb=>⟨?_,?_⟩) B.kind)
 ·have e:y=(x,u):=by simpa using hy
  rw[e];exact B.here
 ·exact(I.nolimit).fresh _ hsb
 ·have old:∀b ob,s.heap.get? b=some ob->h₁.get? b=some ob:=λb ob e=>hsb.extBut b ob (zaS (zaq e)) (zar _ e)
  have J:=Gk (tk:=s.toks+1) (f:=f) (cd:=.ref c') (qual:=qual) I B hA hr.hd rv old hns;refine kla_codeExpr (za6 (he s H [] _ _ H Q J q) (λu' s' h=>?_) λ_ _ z=>z.elim)
  obtain⟨v',H',J',r',q'⟩:=h;obtain⟨hh,g,d,t,os'⟩:=s';obtain rfl:os'=s.os:=J'.os;exact⟨v',H',I.call (h':=hh) (g':=g) (d':=d) (t':=t) (ch:=[]) J'.base J'.hok J'.bare (λb z=>absurd z (by simp)),r',J'.base.iy,q'⟩
theorem Dy(I:Inv X pins σ H s)(B:Blk X scope x fr)
  (hl:gk X.K=some (c,T,ps)) (hp:ps=#[rawInt pos.line,rawInt pos.col,.str qual t]) (hcode:X.env.code=.ref c)
  (h:∀f c' H' pm ctv s',Inv X pins σ H' s'->aG H H'->(∀b,H b=none->H' b=none\/∃m,H' b=some (.tbl m))->s'.heap.get? f=some (kla_obj name qual params body scope (eG X.env.cells scope.names []) pm c' ctv)->gK X pins H' f->
   (∃more,H' c'=some (.tbl (#[.none,.str qual t]++more)))->Q (.ref f) s') :
  wpAny M A (makeFunction name qual params (.expr body) scope X.env [] [] [] pos fl) Q E s:=by
 obtain⟨more,hT⟩:=I.tab c T ps hl;have hcl:=sV (scope:=scope) (env:=X.env) (B.clos I.ok);have hg:s.heap.Ns mainGlobals X.mg:=I.ok.mod.glob.keeps I.bk;have C:CodeHd s.heap c T:=codeHd_of_K I.kIn (pB hl).2;have nT:∀b o,X.base.get? b=some o->b≠T:=λb o e z=>by
  have:=(I.bs b o e).2;rw[z,hT]at this;cases this
 have hgT:mainGlobals≠T:=by
  obtain⟨o,es,ep,e,_⟩:=I.ok.mod.glob;exact nT _ _ e
 have hb:s.heap.BuiltinsAt X.mg T:=by
  obtain⟨bm,ob,b1,b2,b3,b4,b5,b6⟩:=I.ok.mod.bmain;refine⟨bm,ob,b1,b2,λz=>?_,nT _ _ b3,I.bk _ _ b3,b4,b5,b6⟩
  obtain⟨o,es,ep,e,d,_⟩:=I.ok.mod.glob;rw[z,e]at b3;cases b3;rw[d]at b6;cases b6
 subst hp;have g2:(#[rawInt pos.line,rawInt pos.col,Value.str qual t]++more)[2]?=some (.str qual t):=by rw[Array.getElem?_append_left (by simp)];rfl
 have d0:(#[rawInt pos.line,rawInt pos.col,Value.str qual t]++more).getD 0 .none=rawInt pos.line:=by rw[Array.getD_eq_getD_getElem?,Array.getElem?_append_left (by simp)];rfl
 have d1:(#[rawInt pos.line,rawInt pos.col,Value.str qual t]++more).getD 1 .none=rawInt pos.col:=by rw[Array.getD_eq_getD_getElem?,Array.getElem?_append_left (by simp)];rfl
 rcases I.hok T _ hT with⟨e0,_⟩|⟨e0,qs,hq,hc⟩
 ·exact absurd e0 (vm hl more)
 rcases hc with rfl|⟨c',q,t',m',rfl,e2,e3⟩
 ·refine kla_makeFunction (mg:=X.mg) hcl I.ok.glob hg hcode C hq trivial rfl hgT hb λc' ctv h' tk hx hge hlt hrec htb=>?_
  have hc0:H c'=none:=I.hok.fresh hge;have old:∀b o,b≠T->s.heap.get? b=some o->(h'.push (kla_obj name qual params body scope (eG X.env.cells scope.names []) ((X.mg "__name__").getD .none) c' ctv)).get? b=some o:=λb o hb' e=>zar _ (hx b o hb' e)
  have tn:∀b,H b=none->b≠T:=λb e z=>by rw[z,hT]at e;cases e
  have nc:∀b o,H b=some o->b≠c':=λb o e=>dX e hc0
  have J:Inv X pins σ (upd H c' (.tbl #[.none,.str qual t])) {s with heap:=h'.push (kla_obj name qual params body scope (eG X.env.cells scope.names []) ((X.mg "__name__").getD .none) c' ctv),toks:=tk}:=by
   refine I.step (g':=s.gens) (d':=s.drawn) (ch:=[]) (λ_ z=>nomatch z) (λb o _ _ _ e n=>old b o (tn b n) e) (λb o _ _ _ e n=>⟨o.slots,old b o (tn b n) e⟩) (λb o _ e n=>?_) (λb o _ e=>?_) (λb xs e=>?_) (λb o u e=>?_) (λb ps' e=>⟨#[],?_⟩) (λm hm=>?_) (λb u e=>?_) I.bare
   ·rw[ah (zaS (zaF (zaq e) hge))];exact n
   ·by_cases hb':b=T
    ·exact⟨_,by rw[hb'];exact zar _ htb⟩
    ·exact⟨o,old b o hb' e⟩
   ·rw[ah (nc _ _ e)];exact e
   ·rw[ah (nc _ _ e)];exact e
   ·rw[ah (nc _ _ e),e];simp
   ·obtain⟨o,es,ep,ho,r⟩:=hm
    exact⟨o,es,ep,old _ o (tn _ I.free) ho,r⟩
   ·by_cases hbc:b=c'
    ·subst hbc
     rw[au]at e;cases e;obtain⟨c2,oc,vs,tk2,ec,eo,ed⟩:=hrec;cases ec;exact .inl ⟨rfl,qual,t,rfl,b,oc,vs,tk2,rfl,zar _ eo,ed⟩
    ·rw[ah hbc]at e
     by_cases hbT:b=T
     ·subst hbT
      rw[hT]at e;cases e;refine .inr ⟨e0,_,zar _ htb,.inr ⟨c',qual,t,#[],?_,g2,?_⟩⟩
      ·rw[d0,d1];rfl
      ·rw[au];rfl
     ·refine(I.hok b u e).stay (λb' u' hb' q=>old b' u' ?_ q) (λb' q=>by rw[ah (nc _ _ q)];exact q) λb' v' _ q=>by rw[ah (nc _ _ q)];exact q
      rintro rfl
      rcases hb' with z|z
      ·exact hbT z.symm
      ·rw[hT]at z;cases z
  have hf0:(upd H c' (.tbl #[.none,.str qual t])) h'.objs.size=none:=by
   rw[ah (Nat.ne_of_gt hlt)];exact I.hok.fresh (zaX hge (Nat.le_of_lt hlt))
  refine h h'.objs.size c' _ _ ctv _ J (λb o e=>by rw[ah (nc _ _ e)];exact e) (λb e=>?_) (zaL _ rfl) (I.pq (zaX hge (Nat.le_of_lt hlt)) hf0) ⟨#[],by rw[au];rfl⟩
  by_cases z:b=c'
  ·exact .inr ⟨_,by rw[z];exact au⟩
  ·exact .inl (by rw[ah z];exact e)
 ·rw[g2]at e2
  cases e2;rw[d0,d1]at hq;refine kla_makeFunctionHit (mg:=X.mg) (cv:=.ref c') hcl I.ok.glob hg hcode C hq trivial (by simp[codeAmong,rawInt]) hb λctv h' tk hk hsz=>?_
  have J:Inv X pins σ H {s with heap:=h'.push (kla_obj name qual params body scope (eG X.env.cells scope.names []) ((X.mg "__name__").getD .none) c' ctv),toks:=tk}:=I.kept λb o e=>zar _ (hk b o e)
  exact h h'.objs.size c' H _ ctv _ J (aG.refl _) (λb e=>.inl e) (zaL _ rfl) (I.pq hsz (I.hok.fresh hsz)) ⟨m',e3⟩
end
def HQ(K:zag)(fr:List (Str×Nat))(tl te:TE):TE:=fun σ H Q=>tl σ H λx H1=>∃a xs v0,x=.ref a/\SqL K H1 a xs/\xs[0]?=some v0/\
 ∀H2,aG H1 H2->(∀b,H1 b=none->H2 b=none\/∃m,H2 b=some (.tbl m))->te (some v0::aP σ fr) H2 λk0 H3=>∃W:Nat->V->V->Hp->Prop,W 1 v0 k0 H3/\
  ∀i b kb H4,W i b kb H4->SqL K H4 a xs/\(xs.length<=i->Q b H4)/\∀v,xs[i]?=some v->te (some v::aP σ fr) H4 λk H5=>Dq K k kb H5 λr H6=>∃c,r=.bl c/\if c=true then W (i+1) v k H6 else W (i+1) b kb H6
section
variable{X:Cx}{scope:Scope}{x:Str}{fr:List (Str×Nat)}{pins:List (Addr×Obj)}{σ:St}{H:Hp}{s:Shared}
theorem code_at(I:Inv X pins σ H s)(h:H c=some (.tbl (#[.none,.str q t]++more))):s.heap.CodeRec (.ref c) q:=by
 have e0:(#[Value.none,.str q t]++more)[0]?=some .none:=by rw[Array.getElem?_append_left (by simp)];rfl
 have e1:(#[Value.none,.str q t]++more)[1]?=some (.str q t):=by rw[Array.getElem?_append_left (by simp)];rfl
 rcases I.hok c _ h with⟨_,q',t',z,r⟩|⟨z,_⟩
 ·rw[e1]at z;cases z;exact r
 ·exact absurd e0 z
theorem rT(hl:IsTup s.heap l #[.int a t,.str x u])(hb:IsTup s.heap b #[.int c t2,.str y u2])(hu:A.units<cLine)(h:Q (.bool (aT a x c y)) s) :
  wpAny (model prog w) A (richCompare .Lt (.ref l) (.ref b)) Q E s:=vY hl hb hu h
theorem v9(I:Inv X pins σ H s)(B:Blk X scope x fr)(hco:scope.isCoroutine=false)(hgen:scope.isGenerator=false)
  (hr:dh (k+2) X.A) (ho:s.heap.get? f=some (kla_obj name qual params body scope (eG X.env.cells scope.names []) pm c' ctv)) (hc:H c'=some (.tbl (#[.none,.str qual t]++more)))
  (hbind:∀(pm ctv:Value) (c':Addr) (cl:List (Str×Addr)) (u:Value),bindArgs (kla_fn name qual params body scope cl pm (.ref c') ctv) ⟨[u],[]⟩=pure [(x,u)]) (rv:RelV v u)
  (he:∀s₂ H₂ f c',PE (rS X X.A.in1 qual scope (bL x fr) s₂ H₂ f (.ref c')) body te) (q:te (some v::aP σ fr) H Q)
  (h:∀u' s' v' H',Inv X pins σ H' s'->RelV v' u'->(∃more,H' c'=some (.tbl (#[.none,.str qual t]++more)))->Q v' H'->P u' s') :
  wpAny (model X.prog X.w) X.A.in1 (call (.ref f) [u]) P E s:=by
 refine wpAny_call (codeAny_mono (Dx I B hco hgen I.ok.frames hr.in1 ho (code_at I hc) (hbind _ _ _ _ _) rv (λs₂ H₂=>he s₂ H₂ f c') q) λr s' hq=>?_)
 cases r with
 |error e=>exact hq.elim
 |ok fl=>
  cases fl with
  |next=>exact hq.elim
  |brk=>exact hq.elim
  |cont=>exact hq.elim
  |ret u'=>
   obtain⟨v',H',J,r',tb,q'⟩:=hq;obtain⟨m2,z⟩:=tb _ _ hc;exact h u' s' v' H' J r' ⟨more++m2,by rw[z,Array.append_assoc]⟩ q'
structure HR(X:Cx)(pins:List (Addr×Obj))(σ:St)(a it S f c':Addr)(fo:Obj)(qual:Str)(t:Tok)(i:Nat)(H:Hp)(s:Shared):Prop where
 inv:Inv X pins σ H s
 fi:gK X pins H it
 fs:gK X pins H S
 ff:gK X pins H f
 n1:it≠S
 n2:it≠f
 n3:S≠f
 li:s.heap.IsListIter it a i
 lf:s.heap.get? f=some fo
 nf:∀v,fo.data≠.cell v
 lc:∃more,H c'=some (.tbl (#[.none,.str qual t]++more))
theorem gK.to(h:gK X pins H b)(e:H' b=none):gK X pins H' b:=⟨e,h.2⟩
theorem Dz{k:Nat}{qual name:Str}{t:Tok}{params:Arguments}{body:Expr}{pm ctv:Value}{a it S f c':Addr}{te:TE}{xs:List V}{Q:VK}{W:Nat->V->V->Hp->Prop}{R:Result->Shared->Prop}(B:Blk X scope x fr)(hco:scope.isCoroutine=false)(hgen:scope.isGenerator=false)
  (hr:dh (k+2) X.A) (hbind:∀(pm ctv:Value) (c':Addr) (cl:List (Str×Addr)) (u:Value),bindArgs (kla_fn name qual params body scope cl pm (.ref c') ctv) ⟨[u],[]⟩=pure [(x,u)])
  (he:∀s₂ H₂ f c',PE (rS X X.A.in1 qual scope (bL x fr) s₂ H₂ f (.ref c')) body te)
  (turn:∀i b kb H4,W i b kb H4->SqL X.K H4 a xs/\(xs.length<=i->Q b H4)/\∀v,xs[i]?=some v->te (some v::aP σ fr) H4 λk H5=>Dq X.K k kb H5 λr H6=>∃c,r=.bl c/\if c=true then W (i+1) v k H6 else W (i+1) b kb H6)
  (hR:∀u s',EP X pins σ Q u s'->R (.ok (.ret u)) s') :
  ∀(n i:Nat) (H:Hp) (s:Shared) (b kb:V) (ub uk:Value) (cn:Nat),xs.length-i=n->HR X pins σ a it S f c' (kla_obj name qual params body scope (eG X.env.cells scope.names []) pm c' ctv) qual t i H s->
   s.heap.get? S=some (seqObj "list" #[ub,uk] cn)->RelV b ub->RelV kb uk->W i b kb H->codeAny (model X.prog X.w) X.A (.builtin "min.loop" ⟨[.ref it,.ref f,.ref S],[]⟩) R s:=by
 have hname:(toString "min"++toString ".loop":String)="min.loop":=by decide
 intro n
 induction n with
 |zero=>
  intro i H s b kb ub uk cn hn L hS rb rk w;obtain⟨sq,fin,_⟩:=turn i b kb H w;obtain⟨its,rv,p,hz⟩:=L.inv.list sq;have hl:=rv.length;refine codeAny_builtin PySem.F.entry_min_loop ?_;rw[Around.under_plainId PySem.F.plain_min_loop _];show wpAny _ X.A.in1 (seqItems? (.ref S)>>=_) _ _ s;refine zaI (wpAny_seqItems hS rfl ?_);show wpAny _ X.A.in1 (tryCatch (pyNext (.ref it)) _>>=_) _ _ s;refine zaI (wpAny_tryCatch (wpAny_pyNext_list_end (show X.A.in1.handled=none from hr.hd) L.li p.isList (by simp;omega) λh' eb=>?_))
  obtain⟨f0,f1,f2,f3,f4,f5⟩:=L.fi;obtain⟨g0,g1,g2,g3,g4,g5⟩:=L.fs;have I1:Inv X pins σ H {s with heap:=h'}:=L.inv.turned (t':=s.toks) (λb o hb e=>eb b o hb e) f0 f1 f3 f4 f5
  have hS':h'.get? S=some (seqObj "list" #[ub,uk] cn):=eb S _ (Ne.symm L.n1) hS;have s1:=Heap.SameBut.update h' S (Obj.mapSeq λ_=>(#[]:Array Value))
  show wpAny _ X.A.in1 (updateSeq S (λ_=>#[])>>=_) _ _ _
  refine zaI ?_;refine wpAny_updateSeq hS' rfl (zaI (wpAny_letGo (zaZ ?_)));refine hR ub _ ⟨b,H,?_,rb,fin (by omega)⟩
  exact I1.turned (t':=s.toks) (λb o hb e=>(s1.2 b hb).trans e) g0 g1 g3 g4 g5
 |succ n ih=>
  intro i H s b kb ub uk cn hn L hS rb rk w;obtain⟨sq,_,step⟩:=turn i b kb H w;obtain⟨its,rv,p,hz⟩:=L.inv.list sq;have hl:=rv.length;have hi:i<xs.length:=by omega
  have hxi:xs[i]?=some xs[i]:=zaC hi;obtain⟨u,hu,ru⟩:=rv.get hxi;refine codeAny_builtin PySem.F.entry_min_loop ?_;rw[Around.under_plainId PySem.F.plain_min_loop _];show wpAny _ X.A.in1 (seqItems? (.ref S)>>=_) _ _ s;refine zaI (wpAny_seqItems hS rfl ?_);show wpAny _ X.A.in1 (tryCatch (pyNext (.ref it)) _>>=_) _ _ s;refine zaI (wpAny_tryCatch (wpAny_pyNext_list_item L.li p.isList (x:=u) (by simpa using hu) λh' st' sb=>?_))
  obtain⟨f0,f1,f2,f3,f4,f5⟩:=L.fi;obtain⟨g0,g1,g2,g3,g4,g5⟩:=L.fs;have I1:Inv X pins σ H {s with heap:=h'}:=L.inv.turned (t':=s.toks) (λb o hb e=>(sb.2 b hb).trans e) f0 f1 f3 f4 f5
  have hS1:h'.get? S=some (seqObj "list" #[ub,uk] cn):=(sb.2 S (Ne.symm L.n1)).trans hS;have hf1:=(sb.2 f (Ne.symm L.n2)).trans L.lf;obtain⟨oi,ei,ci,di⟩:=id st';have IP:=Inv.pinned I1 (fp:=[it,S,f]) (λz hz=>by
    simp only[List.mem_cons,List.not_mem_nil,or_false]at hz;rcases hz with rfl|rfl|rfl
    ·exact L.fi
    ·exact L.fs
    ·exact L.ff) λz hz=>by
    simp only[List.mem_cons,List.not_mem_nil,or_false]at hz;rcases hz with rfl|rfl|rfl
    ·exact⟨oi,ei,λv z=>by rw[di]at z;cases z⟩
    ·exact⟨_,hS1,λv z=>by cases z⟩
    ·exact⟨_,hf1,L.nf⟩
  obtain⟨more,hcm⟩:=L.lc;show wpAny _ X.A.in1 (tryCatch (holding [u] (call (.ref f) [u])) _>>=_) _ _ _;refine zaI (wpAny_tryCatch (wpAny_holding ?_));refine v9 IP B hco hgen hr hf1 hcm hbind ru he (step _ hxi) λuk' s2 vk' H2 J rk' lc2 q2=>?_
  have pi:=J.pin (it,oi) (zan _ (zan _ (a7 (by simp) ei)))
  have pS:=J.pin (S,_) (zan _ (zan _ (a7 (by simp) hS1)))
  have pf:=J.pin (f,_) (zan _ (zan _ (a7 (by simp) hf1)))
  have J2:Inv X pins σ H2 s2:=Inv.cR (pins:=pins) J;obtain⟨pa,pb,i1,z1,i2,z2,e1,e2,t1,t2,cc,ec,w2⟩:=q2;subst e1 e2;cases ec;obtain rfl:uk'=Value.ref pa:=rk';obtain rfl:uk=Value.ref pb:=rk;obtain⟨is1,r1,p1,_⟩:=J2.tuple t1;obtain⟨is2,r2,p2,_⟩:=J2.tuple t2;cases r1 with
  |cons a1 r1=>
   cases r1 with
   |cons a2 r1=>
    cases r1;cases r2 with
    |cons b1 r2=>
     cases r2 with
     |cons b2 r2=>
      cases r2;obtain⟨k1,rfl⟩:=a1;obtain⟨k2,rfl⟩:=a2;obtain⟨k3,rfl⟩:=b1;obtain⟨k4,rfl⟩:=b2;show wpAny _ X.A.in1 (tryCatch (holding [u,.ref pa] (richCompare .Lt (.ref pa) (.ref pb)>>=_)) _>>=_) _ _ _;refine zaI (wpAny_tryCatch (wpAny_holding (zaI (rT p1 p2 (by have:=hr.un;show X.A.units+1<cLine;omega) ?_))))
      refine zaI (wpAny_holding (wpAny_truthy_bool ?_));refine zaI (wpAny_letGo (zaZ ?_));have L2':HR X pins σ a it S f c' (kla_obj name qual params body scope (eG X.env.cells scope.names []) pm c' ctv) qual t (i+1) H2 s2 :=
       ⟨J2,L.fi.to pi.2.1,L.fs.to pS.2.1,L.ff.to pf.2.1,L.n1,L.n2,L.n3,⟨oi,pi.1,ci,di⟩,pf.1,L.nf,lc2⟩
      by_cases hb':aT i1 z1 i2 z2=true
      ·rw[hb']at w2⊢
       rw[if_pos rfl]at w2⊢;have s1:=Heap.SameBut.update s2.heap S (Obj.mapSeq λ_=>#[u,.ref pa])
       obtain⟨c2,hc2⟩:∃c2,(s2.heap.update S (Obj.mapSeq λ_=>#[u,.ref pa])).get? S=some (seqObj "list" #[u,.ref pa] c2):=⟨_,get?_update_seq pS.1 λ_=>#[u,.ref pa]⟩
       refine zaI ?_;refine wpAny_updateSeq pS.1 rfl (zaI (wpAny_letGo ?_));rw[hname];have I3:Inv X pins σ H2 {s2 with heap:=s2.heap.update S (Obj.mapSeq λ_=>#[u,.ref pa])}:=J2.turned (t':=s2.toks) (λb o hb e=>(s1.2 b hb).trans e) pS.2.1 g1 g3 g4 g5
       refine zaZ ⟨plainId_quiet PySem.F.plain_min_loop _,ih (i+1) H2 _ xs[i] (.ref pa) u (.ref pa) c2 (by omega) ⟨I3,L2'.fi,L2'.fs,L2'.ff,L.n1,L.n2,L.n3,⟨oi,(s1.2 it L.n1).trans pi.1,ci,di⟩,(s1.2 f (Ne.symm L.n3)).trans pf.1,L.nf,lc2⟩ hc2 ru rfl w2⟩
      ·have hb2:aT i1 z1 i2 z2=false:=by simpa using hb'
       rw[hb2]at w2⊢;rw[if_neg zam]at w2⊢;refine zaI (wpAny_letGo ?_);rw[hname];exact zaZ ⟨plainId_quiet PySem.F.plain_min_loop _,ih (i+1) H2 _ b (.ref pb) ub (.ref pb) cn (by omega) L2' pS.1 rb rfl w2⟩
end
def HS(X:Cx)(pos:Pos):Prop:=∃c T ps t,gk X.K=some (c,T,ps)/\ps=#[rawInt pos.line,rawInt pos.col,.str (X.env.qual++"<lambda>") t]/\X.env.code=.ref c
section
variable{X:Cx}{scope:Scope}{x:Str}{fr:List (Str×Nat)}
theorem Gm{k:Nat}{e:Expr}{params:Arguments}{body:Expr}{LU p pos kpos:Pos}{tl te:TE}(B:Blk X scope x fr)(hL:HS X LU)(hr:dh (k+2) X.A)(hg:Gl X "min")(hm:X.mg "min"=none)(hl:PE X e tl)
  (he:∀s₂ H₂ f c',PE (rS X X.A.in1 (X.env.qual++"<lambda>") scope (bL x fr) s₂ H₂ f (.ref c')) body te)
  (hbind:∀(pm ctv:Value) (c':Addr) (cl:List (Str×Addr)) (u:Value),bindArgs (kla_fn "<lambda>" (X.env.qual++"<lambda>") params body scope cl pm (.ref c') ctv) ⟨[u],[]⟩=pure [(x,u)])
  (hco:scope.isCoroutine=false:=by rfl) (hgen:scope.isGenerator=false:=by rfl) (hdef:defaultsOf params X.env=([],[]):=by rfl)
  (hst:backTo pos (starEach [e] X.env)=(false,eval e X.env)::backTo pos (starEach [] X.env):=by rfl) (hpl:(backTo pos (starEach [e] X.env)).any (·.1)=false:=by rfl) (hst2:starEach [e] X.env=(false,eval e X.env)::starEach [] X.env:=by rfl) :
  PE X (.Call (.Name "min" p) [e] [⟨some "key",.Lambda params body scope LU,kpos⟩] pos) (HQ X.K fr tl te):=by
 have ha:PA X [e] (nZ tl vf):=aa hl ax hst2;intro pins s σ H Q I h;obtain⟨c,T,ps,t,Nc,hps,hcode⟩:=hL;have hname:(toString "min"++toString ".loop":String)="min.loop":=by decide
 refine wpAny_Call_Name_kw (ph I hg hm PyProof.Rows.boot_min ?_ (by decide) (by decide))
 refine callWith_kw (thn (ha pos pins s σ H (λvs H1=>∃v,vs=[v]/\(λx H1=>∃a xs v0,x=.ref a/\SqL X.K H1 a xs/\xs[0]?=some v0/\
  ∀H2,aG H1 H2->(∀b,H1 b=none->H2 b=none\/∃m,H2 b=some (.tbl m))->te (some v0::aP σ fr) H2 λk0 H3=>∃W:Nat->V->V->Hp->Prop,W 1 v0 k0 H3/\
  ∀i b kb H4,W i b kb H4->SqL X.K H4 a xs/\(xs.length<=i->Q b H4)/\∀v,xs[i]?=some v->te (some v::aP σ fr) H4 λk H5=>Dq X.K k kb H5 λr H6=>∃c,r=.bl c/\if c=true then W (i+1) v k H6 else W (i+1) b kb H6) v H1) I ?_) λus s1 ⟨vs,H1,I1,r1,v,ev,q1⟩=>?_) hst hpl rfl rfl
 ·show tl σ H _
  have h':tl σ H _:=h;refine Eq.mp (congrArg (tl σ H) ?_) h';funext x H1
  exact propext ⟨λz=>⟨x,rfl,z⟩,λ⟨v,ev,z⟩=>by cases ev;exact z⟩
 subst ev;obtain⟨a,xs,v0,rfl,sq,h0,q⟩:=q1;obtain⟨ua,rfl,ra⟩:∃ua,us=[ua]/\RelV (.ref a) ua:=by
  cases r1 with
  |cons ra rr=>
   cases rr;exact⟨_,rfl,ra⟩
 obtain rfl:ua=Value.ref a:=ra;refine kws_cons (kla_eval hdef (Dy I1 B Nc hps hcode λf c' H2 pm ctv s2 J sm nn ho ff hc=>kws_nil ?_))
 have sq2:SqL X.K H2 a xs:=by
  rcases sq with(z|⟨o,z⟩)|z
  ·exact .inl (.inl (sm _ _ z))
  ·exact .inl (.inr ⟨o,sm _ _ z⟩)
  ·exact .inr z
 obtain⟨its,rv,p1,hz⟩:=J.list sq2;have hln:=rv.length;have hxl : 0<xs.length:=(zac h0).1;obtain⟨u0,hu0,ru0⟩:=rv.get h0;show wpAny (model X.prog X.w) X.A (call (.builtin "min") [.ref a] [(Str.ofString "key",.ref f)]) _ _ s2;refine kmk_tree PySem.F.kind_min PySem.F.plain_min PySem.F.entry_min (kmk_min_key _ _) ?_;show wpAny _ X.A.in1 (Builtin.Builtins.bindParams "min" ["key","default"] 0 ⟨[],[(Str.ofString "key",.ref f)]⟩>>=_) _ _ s2;refine zaI (wpAny_of_eq (show Builtin.Builtins.bindParams "min" ["key","default"] 0 ⟨[],[(Str.ofString "key",.ref f)]⟩=pure [some (.ref f),none]from rfl) ?_);refine zaI (zaZ ?_);refine zaI (wpAny_pyIter_list p1.isList ?_);refine zaI (wpAny_newList ?_ (Nat.zero_le _));rw[hname];refine zaZ ⟨plainId_quiet PySem.F.plain_min_loop _,?_⟩;generalize hG1:s2.heap.push {cls:=.type "list_iterator",data:=.fields #[.ref a,.int 0 0]}=G1;have hS:G1.objs.size=s2.heap.objs.size+1:=by rw[<-hG1,Heap.size_push]
 have old:∀b o,s2.heap.get? b=some o->(G1.push (seqObj "list" #[] 0)).get? b=some o:=λb o e=>zar _ (by rw[<-hG1];exact zar _ e)
 have gI:(G1.push (seqObj "list" #[] 0)).get? s2.heap.objs.size=some {cls:=.type "list_iterator",data:=.fields #[.ref a,.int 0 0]}:=zar _ (by rw[<-hG1];exact zaL _ rfl)
 have gS:(G1.push (seqObj "list" #[] 0)).get? G1.objs.size=some (seqObj "list" #[] 0):=zaL _ rfl;have I3:Inv X pins σ H2 {s2 with heap:=G1.push (seqObj "list" #[] 0)}:=J.kept (t':=s2.toks) old
 have fi:gK X pins H2 s2.heap.objs.size:=J.pq (zap _) (J.hok.fresh (zap _));have fs:gK X pins H2 G1.objs.size:=J.pq (by omega) (J.hok.fresh (by omega))
 have hfl:f<s2.heap.objs.size:=zaq ho;have n1:s2.heap.objs.size≠G1.objs.size:=by omega
 have n2:s2.heap.objs.size≠f:=Nat.ne_of_gt hfl;have n3:G1.objs.size≠f:=by rw[hS];exact Nat.ne_of_gt (Nat.lt_succ_of_lt hfl)
 obtain⟨g0,g1,g2,g3,g4,g5⟩:=fs;refine codeAny_builtin PySem.F.entry_min_loop ?_;rw[Around.under_plainId PySem.F.plain_min_loop _];show wpAny _ X.A.in1 (seqItems? (.ref _)>>=_) _ _ _;refine zaI (wpAny_seqItems gS rfl ?_);show wpAny _ X.A.in1 (tryCatch (pyNext (.ref s2.heap.objs.size)) _>>=_) _ _ _;obtain⟨Nr,rv3,p3,_⟩:=I3.list sq2;obtain⟨u3,hu3,ru3⟩:=rv3.get h0;refine zaI (wpAny_tryCatch (wpAny_pyNext_list_item (it:=s2.heap.objs.size) (i:=0) ⟨_,gI,rfl,rfl⟩ p3.isList (x:=u3) (by simpa using hu3) λh' st' sb=>?_))
 have I4:Inv X pins σ H2 {s2 with heap:=h'}:=I3.turned (t':=s2.toks) (λb o hb e=>(sb.2 b hb).trans e) fi.1 fi.2.1 fi.2.2.2.1 fi.2.2.2.2.1 fi.2.2.2.2.2
 have hS4:h'.get? G1.objs.size=some (seqObj "list" #[] 0):=(sb.2 _ (Ne.symm n1)).trans gS;have hf4:=(sb.2 f (Ne.symm n2)).trans (old _ _ ho);obtain⟨oi,ei,ci,di⟩:=id st';have IP:=Inv.pinned I4 (fp:=[s2.heap.objs.size,G1.objs.size,f]) (λz hz=>by
   simp only[List.mem_cons,List.not_mem_nil,or_false]at hz;rcases hz with rfl|rfl|rfl
   ·exact fi
   ·exact⟨g0,g1,g2,g3,g4,g5⟩
   ·exact ff) λz hz=>by
   simp only[List.mem_cons,List.not_mem_nil,or_false]at hz;rcases hz with rfl|rfl|rfl
   ·exact⟨oi,ei,λv z=>by rw[di]at z;cases z⟩
   ·exact⟨_,hS4,λv z=>by cases z⟩
   ·exact⟨_,hf4,λv z=>by cases z⟩
 obtain⟨more,hcm⟩:=hc;show wpAny _ X.A.in1 (tryCatch (holding [u3] (call (.ref f) [u3])) _>>=_) _ _ _;refine zaI (wpAny_tryCatch (wpAny_holding ?_));refine v9 IP B hco hgen hr hf4 hcm hbind ru3 he (q H2 sm nn) λuk s5 vk H5 J5 rk lc5 q5=>?_
 obtain⟨W,w0,turn⟩:=q5;have pi:=J5.pin (s2.heap.objs.size,oi) (zan _ (zan _ (a7 (by simp) ei)))
 have pS:=J5.pin (G1.objs.size,_) (zan _ (zan _ (a7 (by simp) hS4)))
 have pf:=J5.pin (f,_) (zan _ (zan _ (a7 (by simp) hf4)))
 have J6:Inv X pins σ H5 s5:=Inv.cR (pins:=pins) J5;have s1':=Heap.SameBut.update s5.heap G1.objs.size (Obj.mapSeq λ_=>#[u3,uk])
 obtain⟨c2,hc2⟩:∃c2,(s5.heap.update G1.objs.size (Obj.mapSeq λ_=>#[u3,uk])).get? G1.objs.size=some (seqObj "list" #[u3,uk] c2):=⟨_,get?_update_seq pS.1 λ_=>#[u3,uk]⟩
 show wpAny _ X.A.in1 (updateSeq G1.objs.size (λ_=>#[u3,uk])>>=_) _ _ _
 refine zaI ?_;refine wpAny_updateSeq pS.1 rfl ?_;rw[hname];have I7:Inv X pins σ H5 {s5 with heap:=s5.heap.update G1.objs.size (Obj.mapSeq λ_=>#[u3,uk])}:=J6.turned (t':=s5.toks) (λb o hb e=>(s1'.2 b hb).trans e) pS.2.1 g1 g3 g4 g5
 refine zaZ ⟨plainId_quiet PySem.F.plain_min_loop _,Dz B hco hgen hr hbind he turn (λu s' z=>z) _ 1 H5 _ v0 vk u3 uk c2 rfl
  ⟨I7,fi.to pi.2.1,⟨pS.2.1,g1,g2,g3,g4,g5⟩,ff.to pf.2.1,n1,n2,n3,⟨oi,(s1'.2 _ n1).trans pi.1,ci,di⟩,(s1'.2 f (Ne.symm n3)).trans pf.1,(λv z=>by cases z),lc5⟩ hc2 ru3 rk w0⟩
end
section
variable{P:Program}{w:World}{K:zag}{mg:Str->Option Value}{base:Heap}
theorem Top.Nd{x:Str}{st:Stmt}{N ps:List Str}{k:Nat}{sp:Sp}{lp:Pos}(hK:(gk K).isSome=true)(hlp:sJ (.stmts (cX st))=some lp)(hq:((x++".<locals>.":Str)++"<lambda>":Str)=x++".<locals>.<lambda>")(T:Top K mg x st)(S:bw N ps (aK st))(len:∀vs H Q E,sp vs H Q E->vs.length=ps.length)
  (hb:∀(kV doc pm:Value) (an:Option Addr) (cdv ct:Value) (us:List Value),us.length=ps.length->bindArgs (PySem.W.fnOf x x (fu st) (cX st) (aK st) .none kV doc pm an cdv ct) ⟨us,[]⟩=pure (ps.zip us))
  (hbody:∀(f:Addr) (cdv:Value) (A:Around) (outer:List Env) (s:Shared) (H:Hp) (vs:List V) (Q:VK) (E:XK),HS (ly CX0 P w K mg base N x (aK st) f cdv A outer s H E).nox lp->dh k (A.deeper (envOfC x (aK st) s.heap.objs.size f cdv))->sp vs H Q E->
   ∃t,PSs (ly CX0 P w K mg base N x (aK st) f cdv A outer s H E).nox (cX st) t/\t {nx:=λ_ H'=>Q .non H',rt:=Q} (start N vs) H):Def P w K mg base CX0 (k+1) x ps sp:=by
 obtain⟨f,fd,F,m⟩:=T.ex;refine⟨⟨f,fd,?_,m,F.kp,F.binds hb⟩⟩;obtain⟨oc,od,kV,doc,pm,an,cdv,ct,osl,rfl,lk,hcd⟩:=F.ex;refine d4 lk hcd S len λA outer s H vs Q E hr hsp=>?_
 obtain⟨⟨c,T',ps'⟩,hl⟩:=Option.isSome_iff_exists.mp hK;obtain⟨e1,e2⟩:=Jf hl lk hlp;obtain⟨t,h,q⟩:=hbody f cdv A outer s H vs Q E ⟨c,T',ps',0,hl,by rw[e2];show _=#[_,_,Value.str (x++".<locals>."++"<lambda>") 0];rw[hq],e1⟩ hr hsp
 exact⟨t,h.nox,q⟩
end
def btK(ks:Nat->Int×Str)(i j:Nat):Bool:=aT (ks i).1 (ks i).2 (ks j).1 (ks j).2
section
variable{prog:Program}{w:World}{A:Around}{R:Result->Shared->Prop}
theorem A0(hh:A.handled=none)(hu:A.units+1<cLine){l it S:Addr}{vs:List Value}{h0:Heap}{s0:Shared}(ks:Nat->Int×Str)(hl:h0.IsList l vs.toArray)(hi:h0.objs.size<=it)(hS:h0.objs.size<=S)(n1:it≠S)
  (ht:∀i v,vs[i]?=some v->∃p t u,v=.ref p/\IsTup h0 p #[.int (ks i).1 t,.str (ks i).2 u])
  (hR:∀v h' tk,vs[argBest (btK ks) (vs.length-1)]?=some v->(∀b o,h0.get? b=some o->h'.get? b=some o)->R (.ok (.ret v)) {s0 with heap:=h',toks:=tk}) :
  ∀(n j:Nat) (h:Heap) (tk:Nat) (ub:Value) (cn:Nat),vs.length-(j+1)=n->j+1<=vs.length->(∀b o,h0.get? b=some o->h.get? b=some o)->h.IsListIter it l (j+1)->h.get? S=some (seqObj "list" #[ub,ub] cn)->
   vs[argBest (btK ks) j]?=some ub->codeAny (model prog w) A (.builtin "min.loop" ⟨[.ref it,.none,.ref S],[]⟩) R {s0 with heap:=h,toks:=tk}:=by
 have hname:(toString "min"++toString ".loop":String)="min.loop":=by decide
 have neI:∀b o,h0.get? b=some o->b≠it:=λb o e=>zaS (zaF (zaq e) hi)
 have neS:∀b o,h0.get? b=some o->b≠S:=λb o e=>zaS (zaF (zaq e) hS)
 have lst:∀h:Heap,(∀b o,h0.get? b=some o->h.get? b=some o)->h.IsList l vs.toArray:=λh k=>by
  obtain⟨o,e,r⟩:=hl;exact⟨o,k _ _ e,r⟩
 intro n
 induction n with
 |zero=>
  intro j h tk ub cn hn hj kp li hSo hb;refine codeAny_builtin PySem.F.entry_min_loop ?_;rw[Around.under_plainId PySem.F.plain_min_loop _];show wpAny _ A.in1 (seqItems? (.ref S)>>=_) _ _ _;refine zaI (wpAny_seqItems hSo rfl ?_);show wpAny _ A.in1 (tryCatch (pyNext (.ref it)) _>>=_) _ _ _;refine zaI (wpAny_tryCatch (wpAny_pyNext_list_end (show A.in1.handled=none from hh) li (lst h kp) (by simp;omega) λh' eb=>?_))
  have hS':h'.get? S=some (seqObj "list" #[ub,ub] cn):=eb S _ (Ne.symm n1) hSo;have s1:=Heap.SameBut.update h' S (Obj.mapSeq λ_=>(#[]:Array Value))
  show wpAny _ A.in1 (updateSeq S (λ_=>#[])>>=_) _ _ _
  refine zaI ?_;refine wpAny_updateSeq hS' rfl (zaI (wpAny_letGo (zaZ ?_)));refine hR ub _ _ (by rw[show vs.length-1=j by omega];exact hb) λb o e=>(s1.2 b (neS b o e)).trans (eb b o (neI b o e) (kp b o e))
 |succ n ih=>
  intro j h tk ub cn hn hj kp li hSo hb;have hlt:j+1<vs.length:=by omega
  refine codeAny_builtin PySem.F.entry_min_loop ?_;rw[Around.under_plainId PySem.F.plain_min_loop _];show wpAny _ A.in1 (seqItems? (.ref S)>>=_) _ _ _;refine zaI (wpAny_seqItems hSo rfl ?_);show wpAny _ A.in1 (tryCatch (pyNext (.ref it)) _>>=_) _ _ _;refine zaI (wpAny_tryCatch (wpAny_pyNext_list_item li (lst h kp) (x:=vs[j+1]) (by simp) λh' st' sb=>?_))
  have kp1:∀b o,h0.get? b=some o->h'.get? b=some o:=λb o e=>(sb.2 b (neI b o e)).trans (kp b o e)
  have hS1:h'.get? S=some (seqObj "list" #[ub,ub] cn):=(sb.2 S (Ne.symm n1)).trans hSo;obtain⟨p1,t1,u1,e1,q1⟩:=ht (j+1) _ (zaC hlt);obtain⟨p2,t2,u2,e2,q2⟩:=ht _ _ hb;subst e2;have up:∀{p:Addr} {xs:Array Value},IsTup h0 p xs->IsTup h' p xs:=fun{p xs} ⟨o,e,r⟩=>⟨o,kp1 _ _ e,r⟩
  have hb1:vs[j+1]?=some (.ref p1):=by rw[zaC hlt,e1]
  rw[e1];show wpAny _ A.in1 (tryCatch (holding [.ref p1,.ref p1] (richCompare .Lt (.ref p1) (.ref p2)>>=_)) _>>=_) _ _ _;refine zaI (wpAny_tryCatch (wpAny_holding (zaI (rT (up q1) (up q2) hu ?_))));refine zaI (wpAny_holding (wpAny_truthy_bool ?_));refine zaI (wpAny_letGo (zaZ ?_));cases hc:aT (ks (j+1)).1 (ks (j+1)).2 (ks (argBest (btK ks) j)).1 (ks (argBest (btK ks) j)).2 with
  |true=>
   simp only[if_true];have hc':btK ks (j+1) (argBest (btK ks) j)=true:=hc;have s1:=Heap.SameBut.update h' S (Obj.mapSeq λ_=>#[Value.ref p1,.ref p1])
   obtain⟨c2,hc2⟩:∃c2,(h'.update S (Obj.mapSeq λ_=>#[Value.ref p1,.ref p1])).get? S=some (seqObj "list" #[Value.ref p1,.ref p1] c2):=⟨_,get?_update_seq hS1 λ_=>#[Value.ref p1,.ref p1]⟩
   refine zaI ?_;refine wpAny_updateSeq hS1 rfl (zaI (wpAny_letGo ?_));rw[hname];obtain⟨oi,ei,ci,di⟩:=id st';exact zaZ ⟨plainId_quiet PySem.F.plain_min_loop _,ih (j+1) _ _ (.ref p1) c2 (by omega) hlt (λb o e=>(s1.2 b (neS b o e)).trans (kp1 b o e)) ⟨oi,(s1.2 it n1).trans ei,ci,di⟩ hc2 (by simp only[argBest,hc',if_true];exact hb1)⟩
  |false=>
   simp only[Bool.false_eq_true,if_false];have hc':btK ks (j+1) (argBest (btK ks) j)=false:=hc;refine zaI (wpAny_letGo ?_);rw[hname];exact zaZ ⟨plainId_quiet PySem.F.plain_min_loop _,ih (j+1) _ _ (.ref p2) cn (by omega) hlt kp1 st' hS1 (by simp only[argBest,hc',Bool.false_eq_true,if_false];exact hb)⟩
end
section
variable{X:Cx}{K:zag}
def HU(K:zag):List V->Hp->VK->Prop:=λvs H Q=>∃(a:Addr) (xs:List V) (ks:Nat->Int×Str) (v:V),vs=[.ref a]/\SqL K H a xs/\(∀(i:Nat) (x:V),xs[i]?=some x->∃p,x=.ref p/\SqT K H p [.int (ks i).1,.str (ks i).2])/\
 xs[argBest (btK ks) (xs.length-1)]?=some v/\Q v H
theorem A5(h:X.K=K)(hc:X.calm=true)(hu:X.A.units+1<cLine):dZ X (.builtin "min") (HU K):=by
 subst h;intro pins s σ H vs us Q I r h;obtain⟨a,xs,ks,v,rfl,sq,ht,hv,q⟩:=h;obtain⟨u,rfl,ra⟩:=vals1 r;obtain rfl:u=Value.ref a:=ra;obtain⟨its,rv,p,hz⟩:=I.list sq;have hln:=rv.length;have hname:(toString "min"++toString ".loop":String)="min.loop":=by decide
 have hb0 : 0<xs.length:=Nat.lt_of_le_of_lt (Nat.zero_le _) (zac hv).1;have tup:∀i v,its[i]?=some v->∃p t u,v=.ref p/\IsTup s.heap p #[.int (ks i).1 t,.str (ks i).2 u]:=λi v hi=>by
  have hlt:i<xs.length:=by rw[hln];exact(zac hi).1
  obtain⟨u',hu',ru'⟩:=rv.get (zaC hlt);rw[hi]at hu';cases hu'
  obtain⟨pp,e,hs⟩:=ht i _ (zaC hlt);rw[e]at ru';obtain rfl:v=Value.ref pp:=ru';obtain⟨is,r1,p1,_⟩:=I.tuple hs;cases r1 with
  |cons a1 r1=>
   cases r1 with
   |cons a2 r1=>
    cases r1;obtain⟨k1,rfl⟩:=a1;obtain⟨k2,rfl⟩:=a2;exact⟨pp,k1,k2,rfl,p1⟩
 refine call_function_tree PySem.F.kind_min PySem.F.plain_min PySem.F.entry_min (PySem.F.args_min1 _) ?_
 show wpAny _ X.A.in1 (Builtin.Builtins.bindParams "min" ["key","default"] 0 ⟨[],[]⟩>>=_) _ _ s;refine zaI (wpAny_of_eq (show Builtin.Builtins.bindParams "min" ["key","default"] 0 ⟨[],[]⟩=pure [none,none]from rfl) ?_);refine zaI (zaZ ?_);refine zaI (wpAny_pyIter_list p.isList ?_);refine zaI (wpAny_newList ?_ (Nat.zero_le _));rw[hname];refine zaZ ⟨plainId_quiet PySem.F.plain_min_loop _,?_⟩;generalize hG1:s.heap.push {cls:=.type "list_iterator",data:=.fields #[.ref a,.int 0 0]}=G1;have hS:G1.objs.size=s.heap.objs.size+1:=by rw[<-hG1,Heap.size_push]
 have old:∀b o,s.heap.get? b=some o->(G1.push (seqObj "list" #[] 0)).get? b=some o:=λb o e=>zar _ (by rw[<-hG1];exact zar _ e)
 have gI:(G1.push (seqObj "list" #[] 0)).get? s.heap.objs.size=some {cls:=.type "list_iterator",data:=.fields #[.ref a,.int 0 0]}:=zar _ (by rw[<-hG1];exact zaL _ rfl)
 have gS:(G1.push (seqObj "list" #[] 0)).get? G1.objs.size=some (seqObj "list" #[] 0):=zaL _ rfl;have n1:s.heap.objs.size≠G1.objs.size:=by omega
 refine codeAny_builtin PySem.F.entry_min_loop ?_;rw[Around.under_plainId PySem.F.plain_min_loop _];show wpAny _ X.A.in1 (seqItems? (.ref _)>>=_) _ _ _;refine zaI (wpAny_seqItems gS rfl ?_);show wpAny _ X.A.in1 (tryCatch (pyNext (.ref s.heap.objs.size)) _>>=_) _ _ _;have hil : 0<its.length:=by omega
 have pl:(G1.push (seqObj "list" #[] 0)).IsList a its.toArray:=by
  obtain⟨o,e,r⟩:=p.isList;exact⟨o,old _ _ e,r⟩
 refine zaI (wpAny_tryCatch (wpAny_pyNext_list_item (it:=s.heap.objs.size) (i:=0) ⟨_,gI,rfl,rfl⟩ pl (x:=its[0]) (by simp) λh' st' sb=>?_))
 have hS4:h'.get? G1.objs.size=some (seqObj "list" #[] 0):=(sb.2 _ (Ne.symm n1)).trans gS;have s1':=Heap.SameBut.update h' G1.objs.size (Obj.mapSeq λ_=>#[its[0],its[0]])
 obtain⟨c2,hc2⟩:∃c2,(h'.update G1.objs.size (Obj.mapSeq λ_=>#[its[0],its[0]])).get? G1.objs.size=some (seqObj "list" #[its[0],its[0]] c2):=⟨_,get?_update_seq hS4 λ_=>#[its[0],its[0]]⟩
 show wpAny _ X.A.in1 (updateSeq G1.objs.size (λ_=>#[its[0],its[0]])>>=_) _ _ _
 refine zaI ?_;refine wpAny_updateSeq hS4 rfl ?_;rw[hname];obtain⟨oi,ei,ci,di⟩:=id st';have kp:∀b o,s.heap.get? b=some o->(h'.update G1.objs.size (Obj.mapSeq λ_=>#[its[0],its[0]])).get? b=some o:=λb o e=>by
  have hb:=zaq e;exact(s1'.2 b (zaS (by rw[hS];exact Nat.lt_succ_of_lt hb))).trans ((sb.2 b (zaS hb)).trans (old b o e))
 refine zaZ ⟨plainId_quiet PySem.F.plain_min_loop _,A0 (s0:=s) (I.ok.hd hc) hu ks p.isList (zap _) (by omega) n1 tup (λv' h2 tk2 hv' kp'=>?_) _ 0 _ _ its[0] c2 rfl hil kp ⟨oi,(s1'.2 _ n1).trans ei,ci,di⟩ hc2 (zaC hil)⟩
 rw[<-hln]at hv';obtain⟨u',hu',ru'⟩:=rv.get hv;rw[hv']at hu';cases hu';exact⟨v,H,I.kept kp',ru',q⟩
end
end L2
namespace Mir
open PySem L2
section
variable [Zc]
def wa(e:PM)(ρn:Rho):List D->Option (List (D×Int×Str))
 | []=>some []
 |d::ds=>(sv e (.fz d::ρn)).bind λy=>match y.1 with
  |(.tuple [.int i,.str z],.fz)=>(wa e ρn ds).map ((d,i,z)::·)
  |_=>none
def lh:D×Int×Str->List (D×Int×Str)->D×Int×Str
 |b,[]=>b
 |b,c::r=>lh (if aT c.2.1 c.2.2 b.2.1 b.2.2=true then c else b) r
def DA(fr:List (Str×Nat))(l e:PM):PM:=fun ρ=>(l ρ).bind λx=>match x.1 with
 |(.list ds,.fz)=>(wa e (fr.map λp=>bh x.2 p.2) ds).bind λks=>match ks with
  |b::r=>some (((lh b r).1,.fz),x.2)
  | []=>none
 |_=>none
theorem rV(h:wa e ρn (d::ds)=some ks) :
  ∃y i z r,sv e (.fz d::ρn)=some y/\y.1=(.tuple [.int i,.str z],.fz)/\wa e ρn ds=some r/\ks=(d,i,z)::r:=by
 obtain⟨y,h1,h2⟩:=zaa (show(sv e (.fz d::ρn)).bind _=some ks from h);split at h2
 ·rename_i i z hy
  obtain⟨r,h3,h4⟩:=zab h2;exact⟨y,i,z,r,h1,hy,h3,h4.symm⟩
 ·cases h2
theorem qh(h:Rep B v (.tuple [.int i,.str z])):∃p,v=.ref p/\B p=some (.tup [.int i,.str z]):=by
 cases h with
 |tup h r=>
  cases r with
  |cons a r=>
   cases r with
   |cons b r=>
    cases r;cases a;cases b;exact⟨_,rfl,h⟩
theorem Rel.tabs(R:Rel F B H σ ρ)(sm:aG H H2)(nn:∀b,H b=none->H2 b=none\/∃m,H2 b=some (.tbl m)):Rel F B H2 σ ρ:=by
 have back:∀q o,H2 q=some o->(∀m,o≠.tbl m)->H q=some o:=λq o h n=>by
  cases e:H q with
  |some u=>rw[sm q u e]at h;exact h
  |none=>
   rcases nn q e with z|⟨m,z⟩
   ·rw[z]at h;cases h
   ·rw[z]at h;cases h;exact absurd rfl (n m)
 exact R.grow (aG.refl _) sm (R.sub.trans sm) (λq _ z=>z) (λq xs h=>R.cJ q xs (back q _ h λm z=>by cases z)) λq o u h z=>by rw[back q _ h λm z=>by cases z]at z;cases z
theorem Gn(hl:ME tl l)(he:ME te e):ME (HQ K fr tl te) (DA fr l e):=by
 intro F B H σ ρ r0 ρ' Q R e0 q;obtain⟨x,e1,e0⟩:=zaa e0;obtain⟨r1,ρ1⟩:=x;split at e0
 case h_2=>cases e0
 rename_i ds hx
 obtain rfl:r1=(.list ds,.fz):=hx;obtain⟨ks,e2,e0⟩:=zaa e0;split at e0
 case h_2=>cases e0
 rename_i b0 zJ
 cases e0;refine hl F B H σ ρ _ ρ1 _ R e1 λv B1 H1 E1 R1 V1 N1=>?_
 have V1':Rep B1 v (.list ds):=V1;cases V1' with
 |lst hrd rps=>
 rename_i a xs
 match ds,rps,e2 with
 | [],_,e2=>cases e2
 |d0::ds,.cons (x:=v0) (xs:=xs) rv0 rps,e2=>
 obtain⟨y,i0,z0,r,k1,k2,k3,k4⟩:=rV e2;obtain⟨rfl,rfl⟩:b0=(d0,i0,z0)/\zJ=r:=by cases k4;exact⟨rfl,rfl⟩
 refine⟨a,v0::xs,v0,rfl,fw (dH R1.sub hrd),rfl,λH2 sm nn=>?_⟩
 have R2:Rel F B1 H2 σ ρ1:=R1.tabs sm nn;have Ri:=R2.inner fr rv0;refine he.sv (F0 H2) B1 H2 _ _ y.1 y.2 _ Ri k1 λu B3 H3 E3 R3 V3 N3=>?_
 obtain⟨eH3,nb3⟩:=fe eV E3;have R3o:Rel F B3 H3 σ ρ1:=R2.grow E3.sB eH3 R3.sub nb3 R3.cJ R3.nz;rw[k2]at V3;have V3':Rep B3 u (.tuple [.int i0,.str z0]):=V3;have nbA:∀q,H1 q≠none->B1 q=none->B3 q=none:=λq h z=>nb3 q (λy=>h (sm.free y)) z
 refine⟨λi b kb H4=>1<=i/\i<=(d0::ds).length/\∃B4 bd rest,aG B1 B4/\aG H1 H4/\(∀q,H1 q≠none->B1 q=none->B4 q=none)/\Rel F B4 H4 σ ρ1/\Rep B4 b bd.1/\Rep B4 kb (.tuple [.int bd.2.1,.str bd.2.2])/\
   wa e (fr.map λp=>bh ρ1 p.2) ((d0::ds).drop i)=some rest/\lh bd rest=lh (d0,i0,z0) zJ,
  ⟨zap _,by simp,B3,(d0,i0,z0),zJ,E3.sB,sm.trans eH3,nbA,R3o,rv0.mono E3.sB,V3',k3,rfl⟩,?_⟩
 rintro i b kb H4 ⟨h1,hil,B4,bd,rest,eB,eH,nb,R4,rb,rk,hk,hb⟩
 refine⟨fw (dH R4.sub (dH eB hrd)),λhle=>?_,λv hv=>?_⟩
 ·have hi:i=(d0::ds).length:=by
   have:=rps.length;simp only[List.length_cons]at hle hil⊢;omega
  rw[hi,List.drop_length]at hk;cases hk;have E4:Ext σ ρ1 B1 H1 ρ1 B4 H4:=Ext.grow eB eH nb;refine q b B4 H4 (E1.trans E4) R4 ?_ (λp z=>by cases z)
  show Rep B4 b (lh (d0,i0,z0) zJ).1;rw[<-hb];exact rb
 ·obtain⟨c,hc,rc⟩:=(aR.cons rv0 rps).Jq i v hv
  have hlt:i<(d0::ds).length:=(zac hc).1;rw[zbb hlt]at hk;have hce:(d0::ds)[i]=c:=(zac hc).2;rw[hce]at hk;obtain⟨y',i',z',r',k1',k2',k3',k4'⟩:=rV hk;subst k4';have Ri':=R4.inner fr (rc.mono eB);refine he.sv (F0 H4) B4 H4 _ _ y'.1 y'.2 _ Ri' k1' λu' B5 H5 E5 R5 V5 N5=>?_
  obtain⟨eH5,nb5⟩:=fe eV E5;have R5o:Rel F B5 H5 σ ρ1:=R4.grow E5.sB eH5 R5.sub nb5 R5.cJ R5.nz;rw[k2']at V5;have V5':Rep B5 u' (.tuple [.int i',.str z']):=V5;obtain⟨pu,rfl,hpu⟩:=qh V5';obtain⟨pk,rfl,hpk⟩:=qh (rk.mono E5.sB);have LV:∀q,H1 q≠none->B1 q=none->B5 q=none:=λq h z=>nb5 q (λy=>h (eH.free y)) (nb q h z)
  refine⟨pu,pk,i',z',bd.2.1,bd.2.2,rfl,rfl,.inl (.inl (R5o.sub _ _ hpu)),.inl (.inl (R5o.sub _ _ hpk)),_,rfl,?_⟩;simp only[lh]at hb
  by_cases hp:aT i' z' bd.2.1 bd.2.2=true
  ·rw[if_pos hp]
   rw[if_pos hp]at hb;exact⟨by omega,hlt,B5,(c,i',z'),r',eB.trans E5.sB,eH.trans eH5,LV,R5o,(rc.mono eB).mono E5.sB,V5',k3',hb⟩
  ·rw[if_neg hp]
   rw[if_neg hp]at hb;exact⟨by omega,hlt,B5,bd,r',eB.trans E5.sB,eH.trans eH5,LV,R5o,rb.mono E5.sB,rk.mono E5.sB,k3',hb⟩
end
end Mir
namespace L2
open PySem
theorem dh.lam(r:dh k A)(h:j+2<=k)(env:Env):dh j (A.in1.deeper env):=(dh.in1 (k:=j+1) (r.mono h)).deeper env
theorem Gq{K:zag}{ts:List Addr}{h:Heap}(e:((gk K).all λx=>ts.contains x.2.1)=true)(t:∀T∈ts,h.get? T=some (PySem.W.tabObj #[])):∀c T ps,gk K=some (c,T,ps)->h.get? T=some (PySem.W.tabObj #[]):=λc T ps z=>by
 rw[z]at e;exact t T (by simpa using e)
end L2
namespace Mir
open PySem L2
section
variable [Zc]
def pairD:D->Option (Int×Str)
 | .tuple [.int i,.str z]=>some (i,z)
 |_=>none
def pkD(ds:List D)(i:Nat):Int×Str:=((ds[i]?).bind pairD).getD (0,"")
def rW:List D->Option (D×Bool)
 | [.list ds]=>if(ds.all λd=>(pairD d).isSome)=true then(ds[argBest (btK (pkD ds)) (ds.length-1)]?).map λd=>(d,false)else none
 |_=>none
theorem DB(h:pairD d=some p):d=.tuple [.int p.1,.str p.2]:=by
 unfold pairD at h;split at h
 ·cases h;rfl
 ·cases h
theorem JW:kZ (HU K) rW:=by
 intro B H vs ds res s h e;unfold rW at e;split at e
 ·rename_i l
  split at e
  ·rename_i hall
   obtain⟨d,h1,h2⟩:=zab e;cases h2;obtain⟨v,rfl,hv⟩:=gE h;obtain⟨p,xs,rfl,hr,rp⟩:=hv.list s;obtain⟨x,hx,rx⟩:=rp.get _ d h1;rw[<-rp.length]at hx;refine⟨x,rx,λQ q=>⟨p,xs,pkD l,x,rfl,fw hr,λi y hy=>?_,hx,q⟩⟩
   obtain⟨c,hc,rc⟩:=rp.Jq i y hy;have hp:=List.all_eq_true.mp hall c (zaj hc);obtain⟨pr,hpr⟩:=Option.isSome_iff_exists.mp hp;have e2:pkD l i=pr:=by unfold pkD;rw[hc];show(pairD c).getD _=_;rw[hpr];rfl
   rw[DB hpr]at rc;obtain⟨a,rfl,ha⟩:=qh rc;exact⟨a,rfl,by rw[e2];exact .inl (.inl (s _ _ ha))⟩
  ·cases e
 ·cases e
end
end Mir
namespace L2
open PySem PySem.Spec PyProof.Rows
def Its(x:Str):It:=⟨λi _=>i<x.cps.size,λi H v H'=>H'=H/\∃c,x.cps[i]?=some c/\v=.str ⟨#[c]⟩,λi _=>x.cps.size<=i⟩
theorem A6{P:Program}{w:World}{K:zag}{tg:Expr}{it:Addr}{x:Str}{t:Tok}{T:String}(hW:∀A:Around,A.handled=none->Walks P w A it [it] [it] x.cps.size (SignAt x) λi h=>h.IsStrIter it T x t i)
  (hT : ["enumerate","zip","dict_itemiterator","dict_reverseitemiterator","odict_iterator","itertools.zip_longest","itertools.pairwise"].contains T=false)
  (hS:∀(A:Around) (i:Nat) (s:Shared) (Q:Value->Shared->Prop) (E:Value->Shared->Prop),s.heap.IsStrIter it T x t i->Q (.ref it) s->wpAny (model P w) A (pyIter (.ref it)) Q E s) :
  Turn P w K tg (Its x) [it] it (λi h=>i<=x.cps.size/\h.IsStrIter it T x t i) where
 mem:=by simp
 obj:=λi h st b hb=>by
  have e:b=it:=by simpa using hb
  subst e;obtain⟨_,o,e,c,d⟩:=st;exact⟨o,e,λv z=>by rw[d]at z;cases z⟩
 keep:=λi h h' st k=>by
  obtain⟨hi,o,e,c,d⟩:=st;exact⟨hi,o,k it (by simp) o e,c,d⟩
 item:=by
  intro X hP hw hK hc i pins s σ H E I hf st hg;subst hP hw hK;obtain⟨f0,f1,f2,f3,f4,f5⟩:=hf it (by simp)
  refine(hW X.A (I.ok.hd hc)).item i s _ _ hg st.2 λv h' tk hv st' kk=>?_
  obtain⟨c,u,hcu,rfl⟩:=hv;have I1:Inv X pins σ H {s with heap:=h',toks:=tk}:=I.turned (λb o hb e=>kk b o (by simpa using hb) e) f0 f1 f3 f4 f5
  obtain⟨o,e,ec,ed⟩:=id st';exact⟨_,rfl,yX (s:={s with heap:=h',toks:=tk}) e ec ed hT ⟨.str ⟨#[c]⟩,H,I1,⟨u,rfl⟩,⟨rfl,c,hcu,rfl⟩,⟨hg,st'⟩,λb hb=>(hf b hb).1⟩⟩
 done:=by
  intro X hP hw hK hc i pins s σ H E I hf st hg;subst hP hw hK;obtain⟨f0,f1,f2,f3,f4,f5⟩:=hf it (by simp)
  have hi:i=x.cps.size:=Nat.le_antisymm st.1 hg;subst hi;exact(hW X.A (I.ok.hd hc)).done s _ _ st.2 λh' tk kk=>⟨rfl,I.turned (λb o hb e=>kk b o (by simpa using hb) e) f0 f1 f3 f4 f5⟩
 self:=λA i s Q E st h=>hS A i s Q E st.2 h
section
variable{X:Cx}{tg:Expr}
def LW(te:TE):TI:=fun σ H R=>te σ H λv H1=>∃x,v=.str x/\R (Its x) H1
theorem JX(hl:PE X l tl):PI X tg l (LW tl):=by
 intro pins s σ H R I h;refine thn (hl pins s σ H _ I h) λv s1 ⟨y,H1,I1,r1,q1⟩=>?_
 obtain⟨x,rfl,q⟩:=q1;obtain⟨t,rfl⟩:=r1;have fin:∀(o:Obj) (T:String),(∀A:Around,A.handled=none->Walks X.prog X.w A s1.heap.objs.size [s1.heap.objs.size] [s1.heap.objs.size] x.cps.size (SignAt x) λi h=>h.IsStrIter s1.heap.objs.size T x t i)->
   ["enumerate","zip","dict_itemiterator","dict_reverseitemiterator","odict_iterator","itertools.zip_longest","itertools.pairwise"].contains T=false->
   (∀(A:Around) (i:Nat) (s:Shared) (Q:Value->Shared->Prop) (E:Value->Shared->Prop),s.heap.IsStrIter s1.heap.objs.size T x t i->Q (.ref s1.heap.objs.size) s->wpAny (model X.prog X.w) A (pyIter (.ref s1.heap.objs.size)) Q E s)->
   (s1.heap.push o).IsStrIter s1.heap.objs.size T x t 0->PIE X pins σ tg R (.ref s1.heap.objs.size) {s1 with heap:=s1.heap.push o}:=λo T hW hT hS st=>
  ⟨s1.heap.objs.size,[s1.heap.objs.size],_,_,H1,rfl,I1.kept (t':=s1.toks) λb o e=>zar _ e,A6 hW hT hS,⟨Nat.zero_le _,st⟩,λb hb=>by
   have e:b=s1.heap.objs.size:=by simpa using hb
   subst e;exact I1.pq (zap _) (I1.hok.fresh (zap _)),q⟩
 cases ha:x.cps.all (· <128)
 ·exact wpAny_pyIter_wide ha (fin _ _ (λA' hA=>Walks.strWide hA _ x t) (by decide) (λ_ _ _ _ _ st hQ=>wpAny_pyIter_striter_wide st hQ) ⟨_,zaL _ rfl,rfl,rfl⟩)
 ·exact wpAny_pyIter_ascii ha (fin _ _ (λA' hA=>Walks.strAscii hA _ x t) (by decide) (λ_ _ _ _ _ st hQ=>wpAny_pyIter_striter_ascii st hQ) ⟨_,zaL _ rfl,rfl,rfl⟩)
def leS(x y:Str):Bool:=!decide (y.cps.toList<x.cps.toList)
def Gr:R2:=λa b H Q=>∃x y,a=.str x/\b=.str y/\Q (.bl (leS x y)) H
theorem DC:OpR X (compareOp .LtE) Gr:=by
 intro pins s σ H x y v u Q I rx ry h;obtain⟨a,b,rfl,rfl,q⟩:=h;obtain⟨t1,rfl⟩:=rx;obtain⟨t2,rfl⟩:=ry;exact PySem.P.le_str ⟨.bl (leS a b),H,I,rfl,q⟩
end
end L2
namespace Mir
open PySem L2
section
variable [Zc]
def nH(x:Str):List D:=x.cps.toList.map λc=>.str ⟨#[c]⟩
def JY(a:PM):Rho->Option (List D×Rho):=fun ρ=>(sv a ρ).bind λx=>match x.1.1 with
 | .str z=>some (nH z,x.2)
 |_=>none
theorem JZ:lB G B (Its x) (nH x):=λH _=>by
 refine⟨by simp[nH,Its],λi d hd=>?_⟩
 unfold nH at hd;rw[zao]at hd;obtain⟨c,h1,h2⟩:=zab hd;rw[Array.getElem?_toList]at h1;refine⟨(Array.getElem?_eq_some_iff.mp h1).1,λv H' hy=>.inl ⟨hy.1,?_⟩⟩
 obtain⟨_,c',h3,h4⟩:=hy;rw[h1]at h3;cases h3;rw[h4,<-h2];exact .str _
theorem J0(ha:ME ta a):MI (LW ta) (JY a):=by
 intro F B H σ ρ ds ρ' Q R e q;obtain⟨x,e1,e⟩:=zaa e;split at e
 ·rename_i z hz
  cases e;refine ha.sv F B H σ ρ x.1 x.2 _ R e1 λv B1 H1 E1 R1 V1 N1=>?_
  have w:=V1.view R1;rw[hz]at w;exact⟨z,w.str,q _ B1 H1 E1 R1 JZ⟩
 ·cases e
def wb:D->D->Option (D×Bool)
 | .str x,.str y=>some (.bool (leS x y),false)
 |_,_=>none
theorem HV:OpJ Gr wb:=by
 intro B H x y c d res s hx hy e;unfold wb at e;split at e
 ·cases e
  have:=hx.str;subst this
  have:=hy.str;subst this
  exact d6 λQ q=>⟨_,_,rfl,rfl,q⟩
 ·cases e
theorem A7(h:Gr x y H Q)(k:∀v H',Q v H'->Q' v H'):Gr x y H Q':=by
 obtain⟨a,b,e1,e2,q⟩:=h;exact⟨a,b,e1,e2,k _ _ q⟩
end
end Mir
namespace L2
open PySem PySem.Spec PyProof.Rows
section
variable{X:Cx}
def HW(H0:Hp)(t:TS):TS:=λD σ H=>∃a kvs,H a=some (.dK kvs)/\∀o,(∀o' v,H0 a≠some (.frz o' v))->t (Ga a o kvs D) σ (upd H a (.frz o (.dK kvs)))
theorem Gs{st:Stmt}{t:TS}(h:PS X st t):PS X st (HW X.H₀ t):=by
 intro pins s σ H D I hw;obtain⟨a,kvs,e,q⟩:=hw;obtain⟨o,I1⟩:=I.JR e;have nz:=I.zF e;refine za6 (h pins s σ _ _ I1 (q o nz)) (λf s1 z=>?_) λ_ _ z=>z
 cases f with
 |next=>obtain⟨σ',H',I',e',z⟩:=z;exact⟨σ',_,I'.iQ e' nz,z⟩
 |brk=>obtain⟨σ',H',I',e',z⟩:=z;exact⟨σ',_,I'.iQ e' nz,z⟩
 |cont=>obtain⟨σ',H',I',e',z⟩:=z;exact⟨σ',_,I'.iQ e' nz,z⟩
 |ret u=>obtain⟨v,σ',H',I',r,e',z⟩:=z;exact⟨v,σ',_,I'.iQ e' nz,r,z⟩
def LX(H0:Hp)(t:TS):TS:=λD σ H=>∃a o kvs,H a=some (.frz o (.dK kvs))/\(∀o' v,H0 a≠some (.frz o' v))/\t D σ (upd H a (.dK kvs))
theorem J3{st:Stmt}{t:TS}(h:PS X st t):PS X st (LX X.H₀ t):=by
 intro pins s σ H D I hw;obtain⟨a,o,kvs,e,nz,q⟩:=hw;exact h pins s σ _ _ (I.iQ e nz) q
def DD(H0:Hp)(t:TS):TS:=λD σ H=>HW H0 t D σ H\/t D σ H
theorem DE{st:Stmt}{t:TS}(h:PS X st t):PS X st (DD X.H₀ t):=by
 intro pins s σ H D I hw;rcases hw with hw|hw
 ·exact Gs h pins s σ H D I hw
 ·exact h pins s σ H D I hw
def HX(H0:Hp)(t:TS):TS:=λD σ H=>LX H0 t D σ H\/t D σ H
theorem Gu{st:Stmt}{t:TS}(h:PS X st t):PS X st (HX X.H₀ t):=by
 intro pins s σ H D I hw;rcases hw with hw|hw
 ·exact J3 h pins s σ H D I hw
 ·exact h pins s σ H D I hw
end
end L2
namespace Mir
open PySem L2
section
variable [Zc]
def qi(g:D->Rho->Option Rho)(b:EM):List D->EM
 | [],ρ=>some (.ok (.nx ρ))
 |d::ds,ρ=>(g d ρ).bind fun ρ1=>(b ρ1).bind λo=>match o with
  | .ok (.nx ρ2)=>qi g b ds ρ2
  | .ok (.ct ρ2)=>qi g b ds ρ2
  | .ok (.bk ρ2)=>some (.ok (.nx ρ2))
  | .ok (.rt r ρ2)=>some (.ok (.rt r ρ2))
  | .er c ρ2=>some (.er c ρ2)
theorem lD.down{F:Fr}{B1 H1:Hp}{σ1:St}{ρ1:Rho}(R1:Rel F B1 H1 σ1 ρ1){D:Ends}{W:Str->Hp->Prop}{o:pZ}(h:lD F D W o):lD ⟨B1,F.H,F.io,F.Z⟩ D W o:=by
 cases o with
 |ok o=>exact k6.down R1 h
 |er c ρ=>exact λB H σ R=>h B H σ (R1.up R)
theorem zK{W0:Str->Hp->Prop}{tg:TG}{tb:TS}{g:D->Rho->Option Rho}{b:EM}(hg:MG tg g)(hb:MSE W0 tb b){F:Fr}{B1 H1:Hp}{σ:St}{ρ1:Rho}{J:It}{ds:List D}{o:pZ}{D:Ends}(R1:Rel F B1 H1 σ ρ1)(I1:lB B1 B1 J ds)(e:qi g b ds ρ1=some o)(q:lD F D W0 o) :
  ∃W:Nat->Nat->St->Hp->Prop,(∃m,W 0 m σ H1)/\∀i m σ H,W i m σ H->(J.stop i H/\D.nx σ H)\/(J.go i H/\∃N:St->Hp->Prop,(∀σ' H',N σ' H'->∃m',m'<m/\W (i+1) m' σ' H')/\∀x H',J.yld i H x H'->tg x σ H' fun σ2 H2=>tb {D with nx:=N,ct:=N,bk:=D.nx} σ2 H2):=by
 have q':=q.down R1;refine⟨λi m σ H=>m=ds.length-i/\i<=ds.length/\∃B ρ,Rel ⟨B1,F.H,F.io,F.Z⟩ B H σ ρ/\qi g b (ds.drop i) ρ=some o,⟨ds.length,rfl,Nat.zero_le _,B1,ρ1,R1.down,e⟩,?_⟩
 rintro i m σ2 H2 ⟨rfl,hil,B2,ρ2,R2,e2⟩
 have sH:aG B1 H2:=R2.sB.trans R2.sub
 by_cases hlt:i<ds.length
 ·refine .inr ?_
  obtain⟨go,yl⟩:=(I1 H2 sH).2 i ds[i] (zaC hlt);rw[zbb hlt]at e2;obtain⟨ρ3,e3,e4⟩:=zaa (show(g ds[i] ρ2).bind _=some o from e2);obtain⟨w,e5,e6⟩:=zaa e4;refine⟨go,fun σ' H'=>∃B' ρ',Rel ⟨B1,F.H,F.io,F.Z⟩ B' H' σ' ρ'/\qi g b (ds.drop (i+1)) ρ'=some o,fun σ' H' h'=>⟨ds.length-(i+1),by omega,rfl,hlt,h'⟩,λy H3 hy=>?_⟩
  have had:∃B3,Rel ⟨B1,F.H,F.io,F.Z⟩ B3 H3 σ2 ρ2/\Rep B3 y ds[i]:=by
   rcases yl y H3 hy with⟨rfl,h2⟩|⟨p,xs,cs,h1,rfl,h3,rfl,h5⟩
   ·exact⟨B2,R2,h2.mono R2.sB⟩
   ·obtain⟨R3,E3,e3⟩:=R2.pG (xs:=xs) h3
    exact⟨_,R3,by rw[h1];exact .tup au (h5.mono (R2.sB.trans e3))⟩
  obtain⟨B3,R3,rp⟩:=had;refine hg _ B3 H3 σ2 ρ2 y ds[i] ρ3 _ R3 rp e3 λB4 H4 σ4 R4 _=>?_
  refine hb _ B4 H4 σ4 ρ3 w _ R4 e5 ?_;cases w with
  |er c ρ'=>cases e6;exact q'
  |ok w=>
   cases w with
   |nx ρ'=>exact λB' H' σ' R'=>⟨B',ρ',R',e6⟩
   |ct ρ'=>exact λB' H' σ' R'=>⟨B',ρ',R',e6⟩
   |bk ρ'=>cases e6;exact q'
   |rt r ρ'=>cases e6;exact q'
 ·have hi':i=ds.length:=by omega
  subst hi';rw[List.drop_length]at e2;cases e2;exact .inl ⟨(I1 H2 sH).1,q' B2 H2 σ2 R2⟩
def HY:pZ->Rho
 | .ok o=>AX o
 | .er _ ρ=>ρ
def fzW(H0:Hp)(W:Str->Hp->Prop):Str->Hp->Prop:=λc H=>(∃a o kvs,H a=some (.frz o (.dK kvs))/\(∀o' v,H0 a≠some (.frz o' v))/\W c (upd H a (.dK kvs)))\/W c H
theorem xX(ht:∀σ H Q,Q vs H->t σ H Q)(hl:vs.length<=100)(hw:∀H,W c H->W' H):MSE (fzW H0 W) (HX H0 (Co W' t)) (fun ρ=>some (.er c ρ)):=by
 intro F B H σ ρ o D R e q;cases e;rcases q B H σ R with⟨a,ob,kvs,h1,h2,h3⟩|h
 ·exact .inl ⟨a,ob,kvs,h1,h2,ht _ _ _ ⟨hl,hw _ h3⟩⟩
 ·exact .inr (ht _ _ _ ⟨hl,hw _ h⟩)
theorem A8{H0:Hp}{W:Str->Hp->Prop}{F:Fr}{B0 Hz:Hp}{σ0:St}{ρ0:Rho}{a:Addr}{ob:Obj}{kvs:List (Key×V)}(R0:Rel F B0 Hz σ0 ρ0)(hB:B0 a=some (.dK kvs))(nz:∀o' v,H0 a≠some (.frz o' v)){o:pZ}{D:Ends}(nr:gr (HY o)=true)(q:lD F D W o):lD ⟨upd B0 a (.frz ob (.dK kvs)),(F.hide a (.frz ob (.dK kvs))).H,F.io,(F.hide a (.frz ob (.dK kvs))).Z⟩ (Ga a ob kvs D) (fzW H0 W) o:=by
 cases o with
 |ok o=>exact mB R0 hB nr q
 |er c ρ=>
  intro B H σ R;have h:=mB (ob:=ob) (o:=.nx ρ) (D:=⟨λ_ H=>W c H,λ_ _=>True,λ_ _=>True,λ_ _=>True⟩) R0 hB nr q B H σ R
  exact .inl ⟨a,ob,kvs,h.1,nz,h.2⟩
def zL(dv:PM)(g:D->Rho->Option Rho)(b:EM):EM:=fun ρ=>(dv ρ).bind λx=>(my x.1).bind λes=>if gr ρ=true then(qi g b (es.map (·.1)) x.2).bind λo=>if gr (HY o)=true then some o else none else none
theorem DF(hc:Calm tl dv)(hg:MG tg g)(hb:MSE (fzW H0 W) tb b):MSE W (DD H0 (Ap (Gb tl) tg tb)) (zL dv g b):=by
 intro F B H σ ρ o D R e q;obtain⟨x,e1,e⟩:=zaa e;obtain⟨es,e2,e⟩:=zaa e;split at e
 rotate_left
 ·cases e
 rename_i nr
 obtain⟨o',e3,e⟩:=zaa e;split at e
 rotate_left
 ·cases e
 rename_i nr2
 cases e;obtain⟨r,ρ1⟩:=x;obtain⟨rfl,v,rv,h1,h2⟩:=hc F B H σ ρ r ρ1 R e1;obtain rfl:=mz e2;cases rv with
 | @dct a kvs _ hd rk=>
  rcases hd with hd|⟨ob,hd⟩
  ·refine .inl ⟨a,kvs,R.sub a _ hd,λob nz=>?_⟩
   have R':=R.hide (o:=ob) hd nr;refine h2 a ob kvs hd _ ⟨a,ob,kvs,rfl,au,?_⟩;exact zK hg hb R'.down (nG au (a0.map' (lF hd) (lG hd) (lH hd) rk)) e3 (A8 R hd nz nr2 q)
  ·refine .inr (h1 _ ⟨a,ob,kvs,rfl,R.sub a _ hd,zK hg hb R (nG hd rk) e3 ?_⟩)
   cases o with
   |ok o=>exact q
   |er c ρ=>exact λB H σ R=>.inr (q B H σ R)
def nI(m:PM)(j:Nat):Rho->Option (D×D):=fun ρ=>(m ρ).bind λx=>match x.1,x.2[j]? with
 |(c,.new),some (.own d)=>some (c,d)
 |_,_=>none
theorem zM(h:ME te m):MD (EJ (ET (nZ te (nZ (u9 j) vf)))) (nI m j):=by
 intro F B H σ ρ c E R e q;obtain⟨x,e1,e⟩:=zaa e;obtain⟨r,ρ1⟩:=x;split at e
 case h_2=>cases e
 rename_i c1 d1 hr hj
 cases e;obtain rfl:=(show r=(c1,.new)from hr);refine h F B H σ ρ _ ρ1 _ R e1 λv B1 H1 E1 R1 V1 _=>?_
 obtain⟨p,rfl,bp,hp,op,np⟩:=V1;obtain⟨s,vj,bj,oj⟩:=R1.slot j _ hj;have hne:p≠s:=λz=>np j _ hj rfl (z▸vj)
 refine⟨_,vj,(by simp only[List.length_cons,List.length_nil,sizeLine];omega),λa ha=>?_⟩
 obtain⟨R',_,eB⟩:=R1.pG (xs:=[.ref p,.ref s]) ha;have pa:p≠a:=λz=>op.jl (z▸ha)
 have ra:s≠a:=λz=>oj.jl (z▸ha)
 refine q _ _ _ σ ρ1 R' ⟨a,p,s,rfl,au,hne,hp,R1.jW j _ s hj vj,by rw[ah pa];exact bp,by rw[ah ra];exact bj,op.mono eB λo h=>by rw[ah pa];exact h,oj.mono eB λo h=>by rw[ah ra];exact h⟩
end
section
variable [Zc] [Zl]{W:WX}
end
end Mir
namespace L2
open PySem PySem.Spec PyProof.Rows
def A9(kvs more:List (Key×V)):List (Key×V):=more.foldl (λacc kv=>putK acc kv.1 kv.2) kvs
theorem KV.mrg:∀{more:List (Key×V)} {ms:List (Key×Value)} {kvs:List (Key×V)} {vs:List (Key×Value)},KV kvs vs->KV more ms->KV (A9 kvs more) (merged vs ms)
 | [],[],_,_,r,_=>r
 |p::more,q::ms,kvs,vs,r,h=>by
  cases h with
  |cons h1 h2=>
   have e:KV (putK kvs p.1 p.2) (stored vs q.1 q.2):=by
    rw[<-h1.1];exact r.put p.1 h1.2
   exact(KV.mrg e h2:KV (A9 (putK kvs p.1 p.2) more) (merged (stored vs q.1 q.2) ms))
section
variable{X:Cx}
def HZ:V->List V->Hp->VK->Prop:=λx xs H Q=>∃a b kvs more,x=.ref a/\xs=[.ref b]/\a≠b/\H a=some (.dK kvs)/\Rd H b (.dK more)/\kvs.length+more.length<=sizeLine/\Q .non (upd H a (.dK (A9 kvs more)))
theorem Gv:MtR X "dict.update" HZ:=by
 intro pins s σ H x xs v us Q I rx rv h;obtain⟨a,b,kvs,more,rfl,rfl,ne,e,eb,z,h1⟩:=h;cases rx;cases rv with
 |cons r1 rv=>
  cases rv;cases r1;obtain⟨z1,hd,vs,rel,dd⟩:=zB I.hok e;obtain⟨z2,hd2,ms,LY,dd2⟩:=oq I.hok eb;have l1:=rel.length;have l2:=LY.length;refine call_meetsIn PySem.F.slot_dict_update dd.typeIs PySem.F.entry_dict_update (PySem.F.args_dict_update_2 _ _) (meets_dict_update (bU X.prog X.w) a b ne hd2) ⟨vs,ms,dd,dd2,by omega,λh' dd' _ hs=>?_⟩
  have he:∃q,h'.get? a=some q:=let⟨q,_,_,hq,_⟩:=dd';⟨q,hq⟩
  have rm:=KV.mrg rel LY;refine⟨.non,_,oU I (by rw[e];exact True.intro) hs he (tN ?_ hd rm dd'),rfl,h1⟩
  have:=merged_length_le vs ms;rw[rm.length];omega
end
end L2
namespace Mir
open PySem L2
section
variable [Zc] [Zl]{W:WX}
def Ba(es:List (D×D)):List (D×D)->Option (List (D×D))
 | []=>some es
 |p::more=>(keyOf p.1).bind λk=>Ba (putD es p.1 p.2 k) more
theorem a0.mrg:∀{more:List (Key×V)} {ms:List (D×D)} {kvs:List (Key×V)} {es out:List (D×D)},a0 B kvs es->a0 B more ms->Ba es ms=some out->a0 B (A9 kvs more) out
 |_,_,_,_,_,r,.nil,e=>by cases e;exact r
 |_,_,_,_,_,r,.cons (k:=k) hk hv t,e=>by
  obtain⟨k',e1,e2⟩:=zaa e;have:k'=k:=by have:=hk.of;rw[this]at e1;exact(zaQ e1).symm
  subst this;exact(show a0 B (A9 (putK _ _ _) _) _ from a0.mrg (a0.put hk hv r) t e2)
def DG(k:Nat)(xs:List SV)(s:SS):Option (RR SV):=match xs with
 | [.lc j]=>if j=k then none else match s.S[k]?,s.S[j]? with
  |some (some (.dat (.dict es))),some (some (.dat (.dict ms)))=>if es.length+ms.length<=100000 then(Ba es ms).map λout=>.ok (.pl .none) ⟨s.S.set k (some (.dat (.dict out))),s.t⟩else none
  |_,_=>none
 |_=>none
def zN(a:EN)(m:MN (List SV)):EN:=bN a λx s=>match x with
 | .lc k=>if mE s.S k=true then bN m (λxs s2=>DG k xs s2) s else none
 |_=>none
theorem Gw(ha:NE W te a)(h:NA W t m):NE W (tBM K "dict" HZ te t) (zN a m):=by
 intro G A B H σ s r0 Q R e q;refine dM (t:=te) ha R e q λx v A1 B1 H1 s1 g1 eB1 R1 V1 e1 q1=>?_
 split at e1
 ·rename_i k
  split at e1
  ·rename_i hl
   cases V1 with
   |lc hA=>
    refine⟨?_,?_⟩
    ·unfold mE at hl
     split at hl
     ·rename_i es hk
      cases R1.st.cell k _ _ hk hA with
      |dat ow=>obtain⟨kvs,hp,_⟩:=ow.dict;exact .inr (.inr (.inl ⟨rfl,.inl ⟨kvs,hp⟩⟩))
     ·cases hl
    ·refine dM (t:=t) h R1 e1 q1 λvs xs A2 B2 H2 s2 g2 eB2 R2 V2 e2 q2=>?_
     unfold DG at e2;split at e2
     ·rename_i j
      split at e2
      ·cases e2
      ·rename_i ne
       split at e2
       ·rename_i es ms hk hj
        split at e2
        ·rename_i hz
         obtain⟨out,e5,e6⟩:=zab e2;cases e6;cases V2 with
         |cons va V2=>
          cases V2;cases va with
          |lc hA2=>
           cases R2.st.cell k _ _ hk (g2 _ _ hA)with
           |dat ow=>
            cases R2.st.cell j _ _ hj hA2 with
            |dat ow2=>
             obtain⟨kvs,hp,rk⟩:=ow.dict;obtain⟨more,hp2,rk2⟩:=ow2.dict;have R3:=R2.write (o:=.dK (A9 kvs more)) (c:=.dat (.dict out)) (g2 _ _ hA) trivial (.dat (.dct au (a0.mrg rk rk2 e5)));refine⟨_,_,kvs,more,rfl,rfl,?_,hp,.inl hp2,?_,q2 .non A2 B2 _ (Gro.refl _) (aG.refl _) R3 (.pl .non)⟩
             ·intro z
              exact ne ((List.getElem?_inj (zac hA2).1 R2.st.nd).mp (hA2.trans (by rw[<-z];exact(g2 _ _ hA).symm)))
             ·rw[rk.length,rk2.length,sizeLine_eq];omega
        ·cases e2
       ·cases e2
     ·cases e2
  ·cases e1
 ·cases e1
def lenV(S:List (Option Cl)):SV->Option Nat
 | .lc k=>match S[k]? with
  |some (some (.lst xs))=>some xs.length
  |some (some (.dat (.list ds)))=>some ds.length
  |_=>none
 |_=>none
def qj(m:MN (List SV)):EN:=bN m λxs s=>match xs with
 | [x]=>(lenV s.S x).map λn=>.ok (.pl (.int (n:Int))) s
 |_=>none
theorem zO(h:NA W t m):NE W (tCB (Fc K) t) (qj m):=by
 intro G A B H σ s r0 Q R e q;refine dM (t:=t) h R e q λvs xs A1 B1 H1 s1 g1 eB1 R1 V1 e1 q1=>?_
 split at e1
 ·rename_i x
  obtain⟨n,e2,e3⟩:=zab e1;cases e3;cases V1 with
  |cons va V1=>
   cases V1;unfold lenV at e2;split at e2
   ·rename_i k
    cases va with
    |lc hA=>
     split at e2
     ·rename_i ys hk
      cases e2;cases R1.st.cell k _ _ hk hA with
      |lst hp rs=>exact .inl ⟨_,_,rfl,.inl (fw (.inl hp)),by rw[rs.length];exact q1 _ A1 B1 H1 (Gro.refl _) (aG.refl _) R1 (.pl (.int _))⟩
     ·rename_i ds hk
      cases e2;cases R1.st.cell k _ _ hk hA with
      |dat ow=>
       obtain⟨ys,hp,rk⟩:=ow.list;exact .inl ⟨_,_,rfl,.inl (fw (.inl hp)),by rw[rk.length];exact q1 _ A1 B1 H1 (Gro.refl _) (aG.refl _) R1 (.pl (.int _))⟩
     ·cases e2
   ·cases e2
 ·cases e1
end
end Mir
namespace L2
open PySem PySem.Spec
def DH(sp1 sp2:Sp)(t:TA):TEX:=λE σ H Q=>t σ H λvs H1=>sp1 vs H1 Q E0\/sp2 vs H1 Q (λcls _ H2=>E σ cls H2)
theorem DI{X:Cx}{k k':Nat}{ps:List Str}{sp sp':Sp}{x:Str}{p pos':Pos}{a:Expr}{es:List Expr}{t:TA}(hxe:X.xe=λ_ _=>False)(D1:Def X.prog X.w X.K X.mg X.base CX0 k x ps sp)(D2:Def X.prog X.w X.K X.mg X.base (CXW X.prog X.w) k' x ps sp')(hr:dh k X.A)(hr':dh k' X.A)(ha:PA X (a::es) t)(hg:Gl X x:=by rfl)
  (hdb:(x==("__debug__":Str))=false:=by decide) (he:starEach (a::es) X.env=(false,eval a X.env)::starEach es X.env:=by rfl) (hpl:(backTo pos' (starEach es X.env)).any (·.1)=false:=by rfl) :
  PEX X (.Call (.Name x p) (a::es) [] pos') (DH sp sp' t):=by
 intro pins s σ H Q E I h;obtain⟨f,fd,F,hm,hk,hb⟩:=D1.ex;obtain⟨f',fd',F',hm',hk',hb'⟩:=D2.ex;obtain rfl:f'=f:=by rw[hm]at hm';cases hm';rfl
 refine wpAny_Call_Name_kw (lZ I hg hm ?_ hdb);refine PySem.W.callWith_K (h₀:=X.base) I.ok.mod.kin hk (za6 (ha pos' pins s σ H _ I h) (λus s1 ⟨vs,H1,I1,r,q⟩=>⟨I1.kIn,?_⟩) (λ_ _ z=>by rw[hxe]at z;exact z.elim)) he hpl
 rcases q with q|q
 ·have hl:us.length=ps.length:=by rw[<-r.length];exact F.len _ _ _ _ q
  have hbt:=hb s1 us I1.kIn (by rw[zaR];exact hl)
  rw[zaR]at hbt;refine wpAny_call (codeAny_mono (F.run X.A X.stack s1 H1 ⟨us,[]⟩ us vs _ _ hr I1.env0 hbt r q) λr s' hq=>?_)
  cases r with
  |ok fl=>
   cases fl with
   |ret u=>
    obtain⟨v,H2,I2,rv,q2⟩:=I1.after hq;exact⟨v,H2,I2,rv,q2⟩
   |next=>exact False.elim hq
   |brk=>exact False.elim hq
   |cont=>exact False.elim hq
  |error ev=>exact False.elim hq
 ·have hl:us.length=ps.length:=by rw[<-r.length];exact F'.len _ _ _ _ q
  have hbt:=hb' s1 us I1.kIn (by rw[zaR];exact hl)
  rw[zaR]at hbt;refine wpAny_call (codeAny_mono (F'.run X.A X.stack s1 H1 ⟨us,[]⟩ us vs _ _ hr' I1.env0 hbt r q) λr s' hq=>?_)
  cases r with
  |ok fl=>
   cases fl with
   |ret u=>
    obtain⟨v,H2,I2,rv,q2⟩:=I1.after hq;exact⟨v,H2,I2,rv,q2⟩
   |next=>exact False.elim hq
   |brk=>exact False.elim hq
   |cont=>exact False.elim hq
  |error ev=>
   obtain⟨ea,t',cls,B,H2,rfl,fl⟩:=hq;exact⟨ea,t',cls,B,H2,s1,H1,σ,rfl,I1,fl⟩
end L2
namespace Mir
open PySem L2
section
variable [Zc] [Zl]{W:WX}
theorem xY(R1:bf G A1 B1 H1 σ s1)(V1:bT A1 B1 vs xs)(h1:gF s1.S xs=some ds)(h2:fd ds=some c)(hp:cI c.1 true=true/\cI c.2 true=true)
  (q1:∀x A' B' H',Gro A1 A'->aG B1 B'->bf G A' B' H' σ ⟨s1.S++[some (.dat c.1)]++[some (.dat c.2)],s1.t⟩->c8 A' B' x (.tp [.lc s1.S.length,.lc (s1.S.length+1)])->Q x H') :spD fd vs H1 Q E:=by
 refine⟨H1,ds,c,aG.refl _,λ_ _ z=>z,ie R1.st R1.sub V1 h1,h2,λv B' H' P=>?_⟩
 obtain⟨a,p,r,rfl,ha,hpr,hp0,hr0,hBp,hBr,op,or⟩:=P.val;have R2:=R1.opened (B':=B') P.eH P.nz;have oI:aG B1 H':=R1.sub.trans P.eH;have kt:∀q xs,B' q=some (.tup xs)->tbu B1 H' q=some (.tup xs):=λq xs h=>jx oI (P.sub _ _ h)
 have op':=op.cH kt hp.1;have or':=or.cH kt hp.2;obtain⟨o1,ho1,mo1⟩:=op'.mx;obtain⟨o2,ho2,mo2⟩:=or'.mx;obtain⟨gp1,gp2,gp3⟩:=R1.nu hp0;obtain⟨gr1,gr2,gr3⟩:=R1.nu hr0;have R3:=R2.take (c:=.dat c.1) gp1 gp2 (mD gp3 (op.rG)) ho1 mo1 (.dat op');have R4:=R3.take (c:=.dat c.2) gr1 (λz=>by
  rcases zae z with z|z
  ·exact gr2 z
  ·exact hpr (zad z).symm) (mD gr3 (or.rG)) ho2 mo2 (.dat or')
 refine q1 _ _ _ H' ((Gro.app _ _).trans (Gro.app _ _)) j3 R4 (.tp (jx oI ha) (.cons (.lc ?_) (.cons (.lc ?_) .nil)))
 ·rw[<-R1.st.len]
  exact Gro.app _ _ _ _ List.getElem?_concat_length
 ·rw[<-R1.st.len]
  have:(A1++[p]).length=A1.length+1:=by simp
  rw[<-this];exact List.getElem?_concat_length
def qk(i:Nat)(su:Str->Bool)(fd:List D->Option (D×D))(fx:List D->Option ((D×Bool) ⊕ Str))(m:MN (List SV)):SN:=λs=>match m s with
 |some (.ok xs s1)=>(gF s1.S xs).bind λds=>match fd ds with
  |some c=>if cI c.1 true=true/\cI c.2 true=true/\i<s1.t.length then some (.nx ⟨s1.S++[some (.dat c.1)]++[some (.dat c.2)],s1.t.set i (some (.tp [.lc s1.S.length,.lc (s1.S.length+1)]))⟩)else none
  |none=>match fx ds with
   |some (.inr c)=>if su c=true/\i<s1.t.length then some (.nx ⟨s1.S,s1.t.set i (some (.pl .none))⟩)else none
   |_=>none
 |_=>none
theorem Gx(h:NA W t m)(hok:∀c,su c=true->ok (cl c)) :
  NS W (HB (HA (DH (spD fd) (spX cl fx) t) i) ok (λ_ _=>xm (tC .non) (jR i))) (qk i su fd fx m):=by
 intro G A B H σ s o D R e q;unfold qk at e;split at e
 ·rename_i xs s1 h1
  refine h G A B H σ s _ _ R h1 λvs A1 B1 H1 g1 eB1 R1 V1=>?_
  obtain⟨ds,h2,e⟩:=zaa e;split at e
  ·rename_i c h3
   split at e
   ·rename_i hz
    cases e;exact .inl (xY R1 V1 h2 h3 ⟨hz.1,hz.2.1⟩ λx A' B' H' g eB R' V'=>q A' B' H' _ (R'.set (i:=i) (v:=x) hz.2.2 V'))
   ·cases e
  ·rename_i h3
   split at e
   ·rename_i c h4
    split at e
    ·rename_i hz
     cases e;refine .inr ⟨H1,ds,.inr c,aG.refl _,λ_ _ z=>z,ie R1.st R1.sub V1 h2,h4,λB' H' P=>⟨hok _ hz.1,λea hea=>?_⟩⟩
     have R2:=R1.opened (B':=B') P.eH P.nz;exact q _ _ H' _ (R2.set (i:=i) (v:=.non) (x:=.pl .none) hz.2 (.pl .non))
    ·cases e
   ·cases e
 ·cases e
end
end Mir
namespace L2
open PySem PySem.Spec PyProof.Rows
def cN(x y x3:Str)(fr:List (Str×Nat)):List Str:=x::y::x3::fr.map (·.1)
structure LZ(X:Cx)(scope:Scope)(x y x3:Str)(fr:List (Str×Nat)):Prop where
 b:Blk X scope x fr
 CV:scope.names.lookup y=some .local
 Ia:scope.names.lookup x3=some .local
 nd3:(cN x y x3 fr).Nodup
section
variable{X:Cx}{scope:Scope}{x y x3:Str}{fr:List (Str×Nat)}{pins:List (Addr×Obj)}{σ:St}{H:Hp}{s:Shared}
theorem Bb(I:Inv X pins σ H s)(B3:LZ X scope x y x3 fr){C:Addr}{fp:List Addr}{h₁:Heap}{tk:Nat}(hC:s.heap.objs.size<=C)(hfp:∀b∈fp,gK X pins H b)(hlt:∀b∈fp,b<s.heap.objs.size)
  (old:∀b ob,s.heap.get? b=some ob->h₁.get? b=some ob) (hns:h₁.Ns C λ_=>none):Inv (bB X scope (cN x y x3 fr) s H C fp) [] (none::none::none::aP σ fr) H {s with heap:=h₁,toks:=tk}:=by
 have I0:=pC (tk:=tk) (o:=none) I B3.b hC hfp hlt old hns;obtain⟨ok,os,bare,base,loc,cell,free,fk,pin,hok,len⟩:=I0;refine⟨⟨ok.mod,ok.kind,ok.glob,ok.blt,ok.above,ok.inj,ok.has,ok.cab,ok.hd,ok.frames,ok.stk,ok.exf,ok.bs,ok.bsz,ok.uZ,ok.qK,ok.kX,ok.frf,ok.tab⟩,os,bare,base,?_,cell,free,fk,pin,hok,?_⟩
 ·obtain⟨m,hn,hl⟩:=loc
  refine⟨m,hn,λi z v h1 h2 h3=>?_⟩
  cases i with
  |zero=>simp at h2
  |succ i=>
   cases i with
   |zero=>simp at h2
   |succ i=>
    cases i with
    |zero=>simp at h2
    |succ i=>
     refine hl (i+1) z v ?_ ?_ h3
     ·have e:(x::y::x3::fr.map (·.1))[i+1+1+1]?=some z:=h1
      rw[zat,zat,zat]at e;show(x::fr.map (·.1))[i+1]?=some z
      rw[zat];exact e
     ·have e:(none::none::none::aP σ fr)[i+1+1+1]?=some (some v):=h2
      rw[zat,zat,zat]at e;rw[zat];exact e
 ·show _=(cN x y x3 fr).length
  simp[cN,aP]
def J4(K:zag)(fr:List (Str×Nat))(wi:TI)(tc:TT)(te:TE):TE:=fun σ H Q=>wi σ H λJ H1=>∃W:Nat->Nat->List V->Hp->Prop,(∃m,W 0 m [] H1)/\∀i m ys H2,W i m ys H2->ys.length<sizeLine/\
 ((J.stop i H2/\∀D,H2 D=none->Q (.ref D) (upd H2 D (.lst ys)))\/
  (J.go i H2/\∀v H3,J.yld i H2 v H3->∃p v1 v2 v3,v=.ref p/\SqT K H3 p [v1,v2,v3]/\tc (some v1::some v2::some v3::aP σ fr) H3 λb H4=>
   if b=true then te (some v1::some v2::some v3::aP σ fr) H4 λy H5=>∃m',m'<m/\W (i+1) m' (ys++[y]) H5 else∃m',m'<m/\W (i+1) m' ys H4))
end
section
variable{X:Cx}
theorem J7(hc:X.calm=true)(B3:LZ X scope x y x3 fr)
  (hi:PI X (.Tuple [.Name x px,.Name y py,.Name x3 p3] kx tp) iter wi) (ht:∀s₂ H₂ C fp,PIf (bB X scope (cN x y x3 fr) s₂ H₂ C fp) ifs tc) (he:∀s₂ H₂ C fp,PE (bB X scope (cN x y x3 fr) s₂ H₂ C fp) elt te)
  (hs:∀v,foldedSetIterable iter X.env v=pure v:=by intro _;rfl):PE X (.ListComp elt [⟨.Tuple [.Name x px,.Name y py,.Name x3 p3] kx tp,iter,ifs,0⟩] scope pos) (J4 X.K fr wi tc te):=by
 intro pins s σ H Q I h;have B:=B3.b;rw[eval_ListComp];have hclos:=sV (scope:=scope) (env:=X.env) (B.clos I.ok);refine wpAny_comprehension_free (use:=none) rfl hs hclos B.kind B.loc (thn (hi pins s σ H _ I h) λv s1 h1=>thn h1 λitv s2 h2=>?_)
 obtain⟨it,fp,tn,J,H2,rfl,I2,T,st2,f2,W,⟨m0,w0⟩,turn⟩:=h2;refine wpAny_newObj_type (wpAny_newFunctionEnv B.cell (by intro y hy;simp at hy) (λh₁ hns hsb=>?_) B.kind)
 dsimp only at hns hsb⊢;generalize hG:s2.heap.push {cls:=.type "list",dict:=none,data:=.seq ([]:List Value).toArray}=G at hns hsb⊢;have hC:G.objs.size=s2.heap.objs.size+1:=by rw[<-hG,Heap.size_push]
 have hDC:s2.heap.objs.size≠G.objs.size:=by omega
 have old:∀b ob,s2.heap.get? b=some ob->h₁.get? b=some ob:=λb ob e=>by
  have hb:=zaq e;refine hsb.extBut b ob (zaS (by rw[hC];exact Nat.lt_succ_of_lt hb)) (zar _ ?_)
  rw[<-hG];exact zar _ e
 have hacc:h₁.get? s2.heap.objs.size=some {cls:=.type "list",data:=.seq ([]:List Value).toArray 0}:=by
  refine hsb.extBut _ _ hDC (zar _ ?_);rw[<-hG];exact zaL _ rfl
 have hlt:∀b∈fp,b<s2.heap.objs.size:=λb hb=>by
  obtain⟨o,e,_⟩:=T.obj 0 _ st2 b hb;exact zaq e
 have I4:=Bb (tk:=s2.toks+([]:List (Str×Value)).length) I2 B3 (show s2.heap.objs.size<=G.objs.size by omega) f2 hlt old hns
 have tn4:tn 0 h₁:=T.keep 0 _ _ st2 λb _ o e=>old b o e
 have Dfs:s2.heap.objs.size∉frs X.stack:=λz=>by
  obtain⟨_,o,ho,_⟩:=I2.stack.mem z;exact absurd (zaq ho) (za3 _)
 have Dcl:∀y c,X.env.cells.lookup y=some c->c≠s2.heap.objs.size:=λy c e=>by
  obtain⟨v,o,ho,_⟩:=I2.cell y c e;exact zaS (zaq ho)
 have DL:s2.heap.objs.size≠X.env.locals:=Nat.ne_of_gt I2.lt;have Dfp:s2.heap.objs.size∉fp:=λz=>absurd (hlt _ z) (za3 _)
 have loop:∀s₃:Shared,s₃={s2 with heap:=h₁,toks:=s2.toks+([]:List (Str×Value)).length}->
   codeAny (model X.prog X.w) X.A (.compLoop (.ListComp elt [⟨.Tuple [.Name x px,.Name y py,.Name x3 p3] kx tp,iter,ifs,0⟩] scope pos) 0 (.ref it) (.ref s2.heap.objs.size) (compEnvC scope (eG X.env.cells scope.names []) G.objs.size X.env))
    (compPost (model X.prog X.w) X.A X.xe none (EP X pins σ Q) (.ref s2.heap.objs.size) G.objs.size) s₃:=by
  rintro s₃ rfl
  refine m5
   (λn s'=>∃i o1 o2 o3 H' ys its k,Inv (bB X scope (cN x y x3 fr) s2 H2 G.objs.size fp) [] (o1::o2::o3::aP σ fr) H' s'/\tn i s'.heap/\(∀b∈fp,H' b=none)/\H' s2.heap.objs.size=none/\
    s'.heap.get? s2.heap.objs.size=some {cls:=.type "list",data:=.seq (its:List Value).toArray k}/\Vals ys its/\W i n ys H') ?_ m0
   ⟨0,none,none,none,H2,[],[],0,I4,tn4,λb hb=>(f2 b hb).1,I2.hok.fresh (zap _),hacc,.nil,w0⟩
  rintro n s5 ⟨i,o1,o2,o3,H5,ys,its,k,I5,st5,fr5,D5,hD5,r5,w5⟩
  have fok:∀{H':Hp},(∀b∈fp,H' b=none)->∀b∈fp,gK (bB X scope (cN x y x3 fr) s2 H2 G.objs.size fp) [] H' b:=λhn b hb=>
   ⟨hn b hb,(I5.ok.exf b hb).1,I5.ok.qK b hb,.inl hb,(I5.ok.exf b hb).2,λp hp=>absurd (show p∈([]:List (Addr×Obj))from hp) (by simp)⟩
  have dok:∀{H':Hp},H' s2.heap.objs.size=none->gK (bB X scope (cN x y x3 fr) s2 H2 G.objs.size fp) [] H' s2.heap.objs.size:=λhn=>
   ⟨hn,hDC,Dfs,.inr (zap _),λy c e=>Dcl y c (B.sub I2.ok _ _ e),λp hp=>absurd (show p∈([]:List (Addr×Obj))from hp) (by simp)⟩
  obtain⟨hz,alt⟩:=turn i n ys H5 w5;have hzl:its.length<=sizeLine:=by rw[<-r5.length];exact Nat.le_of_lt hz
  rcases alt with⟨stop,fin⟩|⟨go,step⟩
  ·refine thn (T.done (bB X scope (cN x y x3 fr) s2 H2 G.objs.size fp) rfl rfl rfl hc i (dG [s2.heap.objs.size] s5.heap) s5 (o1::o2::o3::aP σ fr) H5 _ ?_ (λb hb=>?_) st5 stop) λr s6 ⟨hr,I6⟩=>?_
   ·exact(Inv.pinned I5 (fp:=[s2.heap.objs.size]) (λb hb=>by rw[zad hb];exact dok D5) λb hb=>by
     rw[zad hb];exact⟨_,hD5,λv z=>by cases z⟩)
   ·obtain⟨f0,f1,f2',f3,f4,f5⟩:=fok fr5 b hb
    refine⟨f0,f1,f2',f3,f4,λp hp=>?_⟩
    have hp':p∈dG [s2.heap.objs.size] s5.heap:=(zae hp).elim (λz=>absurd (show p∈([]:List (Addr×Obj))from z) (by simp)) id
    have:=(fT hp').1;rw[zad this];exact λe=>Dfp (by rw[e];exact hb)
   ·subst hr
    have hD6:=(I6.pin (s2.heap.objs.size,{cls:=.type "list",data:=.seq its.toArray k}) (zan _ (a7 (by simp) hD5))).1
    obtain⟨m6,hn6,_⟩:=I6.loc;refine⟨m6,hn6,λh' hs'=>?_⟩
    have hCn:s2.heap.get? G.objs.size=none:=by
     cases e:s2.heap.get? G.objs.size with
     |none=>rfl
     |some ob=>exact absurd (zaq e) (by rw[hC];exact Nat.not_lt.mpr (Nat.le_succ _))
    have neC:∀b ob,s2.heap.get? b=some ob->b≠G.objs.size:=λb ob e z=>by rw[z,hCn]at e;cases e
    have u6:Un (frs X.stack) fp H2 H5 s2.heap s6.heap:=I6.base;have u7:Un (frs X.stack) fp H2 H5 s2.heap h':=⟨λb ob e n hb hx=>hs'.extBut b ob (neC b ob e) (u6.keep b ob e n hb hx),λb ob e n hb hx=>by
      obtain⟨sl,q⟩:=u6.slot b ob e n hb hx;exact⟨sl,hs'.extBut b _ (neC b ob e) q⟩,u6.free,λb ob e hx=>by
      obtain⟨o',q⟩:=u6.there b ob e hx;exact⟨o',hs'.extBut b _ (neC b ob e) q⟩,u6.tups,u6.iJ,u6.iy⟩
    have hC5:H5 G.objs.size=none:=I6.free;have Ji:HOk X.prog X.w H5 h':=λb ob e=>(I6.hok b ob e).stay (λc u hc q=>hs'.extBut c u (by
      rintro rfl
      rcases hc with rfl|hc
      ·rw[hC5]at e;cases e
      ·rw[hC5]at hc;cases hc) q) (λ_ q=>q) λ_ _ _ q=>q
    have I7:Inv X pins σ H5 {s6 with heap:=h'}:=I2.call' (s':={s6 with heap:=h'}) (I6.os) u7 Ji I6.bare λb hb=>⟨(f2 b hb).2.2.2.1,(f2 b hb).2.1,(f2 b hb).2.2.2.2.1,(f2 b hb).2.2.2.2.2⟩
    refine⟨.ref s2.heap.objs.size,upd H5 s2.heap.objs.size (.lst ys),I7.track D5 I2.sz DL Dcl (λp hp z=>?_) ?_,rfl,fin _ D5⟩
    ·obtain⟨e,_⟩:=I2.pin p hp
     rw[z]at e;exact absurd (zaq e) (za3 _)
    ·exact⟨Nat.le_of_lt hz,its,k,r5,hs'.extBut _ _ hDC hD6⟩
  ·refine oF (thn (T.item (bB X scope (cN x y x3 fr) s2 H2 G.objs.size fp) rfl rfl rfl hc i (dG [s2.heap.objs.size] s5.heap) s5 (o1::o2::o3::aP σ fr) H5 _ ?_ (λb hb=>?_) st5 go) λr s6 ⟨u,hr,h6⟩=>?_)
   ·exact(Inv.pinned I5 (fp:=[s2.heap.objs.size]) (λb hb=>by rw[zad hb];exact dok D5) λb hb=>by
     rw[zad hb];exact⟨_,hD5,λv z=>by cases z⟩)
   ·obtain⟨f0,f1,f2',f3,f4,f5⟩:=fok fr5 b hb
    refine⟨f0,f1,f2',f3,f4,λp hp=>?_⟩
    have hp':p∈dG [s2.heap.objs.size] s5.heap:=(zae hp).elim (λz=>absurd (show p∈([]:List (Addr×Obj))from z) (by simp)) id
    have:=(fT hp').1;rw[zad this];exact λe=>Dfp (by rw[e];exact hb)
   ·subst hr
    refine thn h6 λ_ s7 ⟨v,H7,I7,rv,y7,st7,fr7⟩=>?_
    have p7:=I7.pin (s2.heap.objs.size,{cls:=.type "list",data:=.seq its.toArray k}) (zan _ (a7 (by simp) hD5))
    have hD7:s7.heap.get? s2.heap.objs.size=some {cls:=.type "list",data:=.seq its.toArray k}:=p7.1;have D7:H7 s2.heap.objs.size=none:=p7.2.1;have I7u:Inv (bB X scope (cN x y x3 fr) s2 H2 G.objs.size fp) [] (o1::o2::o3::aP σ fr) H7 s7:=Inv.cR (pins:=[]) I7;have I8:=Inv.pinned I7u (fp:=s2.heap.objs.size::fp) (λb hb=>by
      rcases zaf hb with e|hb
      ·rw[e];exact dok D7
      ·exact fok fr7 b hb) λb hb=>by
      rcases zaf hb with e|hb
      ·rw[e];exact⟨_,hD7,λv z=>by cases z⟩
      ·exact T.obj _ _ st7 b hb
    have hl : Loc (bB X scope (cN x y x3 fr) s2 H2 G.objs.size fp).env.scope x := .inl (lookup_relabel_local B.here);have hl3 : Loc (bB X scope (cN x y x3 fr) s2 H2 G.objs.size fp).env.scope x3 := .inl (lookup_relabel_local B3.Ia);have hl2 : Loc (bB X scope (cN x y x3 fr) s2 H2 G.objs.size fp).env.scope y := .inl (lookup_relabel_local B3.CV);have pk:∀{σ':St} {H':Hp} {s':Shared},Inv (bB X scope (cN x y x3 fr) s2 H2 G.objs.size fp) ([]++dG (s2.heap.objs.size::fp) s7.heap) σ' H' s'->
      tn (i+1) s'.heap/\(∀b∈fp,H' b=none)/\H' s2.heap.objs.size=none/\s'.heap.get? s2.heap.objs.size=some {cls:=.type "list",data:=.seq its.toArray k}:=fun{σ' H' s'} I'=>by
     have pD:=I'.pin (s2.heap.objs.size,{cls:=.type "list",data:=.seq its.toArray k}) (zan _ (zan _ (a7 (by simp) hD7)))
     refine⟨T.keep _ _ _ st7 λb hb ob e=>(I'.pin (b,ob) (zan _ (zan _ (a7 (zak _ hb) e)))).1,λb hb=>?_,pD.2.1,pD.1⟩
     obtain⟨ob,e,_⟩:=T.obj _ _ st7 b hb;exact(I'.pin (b,ob) (zan _ (zan _ (a7 (zak _ hb) e)))).2.1
    obtain⟨p0,v1,v2,v3,rfl,sq,stp⟩:=step v H7 y7;have pgt:PG (bB X scope (cN x y x3 fr) s2 H2 G.objs.size fp) (.Tuple [.Name x px,.Name y py,.Name x3 p3] kx tp) (KU X.K 3 (rl (jR 0) (rl (jR 1) (rl (jR 2) EL)))) :=
     II (X :=bB X scope (cN x y x3 fr) s2 H2 G.objs.size fp) hc (cy (bX (i :=0) B3.nd3 rfl hl (.inr (lookup_relabel_local B.here))) (cy (bX (i :=1) B3.nd3 rfl hl2 (.inr (lookup_relabel_local B3.CV))) (cy (bX (i :=2) B3.nd3 rfl hl3 (.inr (lookup_relabel_local B3.Ia))) jj)))
    refine oF (thn (pgt _ s7 _ H7 (.ref p0) u (fun σ' H'=>σ'=some v1::some v2::some v3::aP σ fr/\H'=H7) I8 rv ⟨p0,[v1,v2,v3],rfl,sq,rfl,v1,[v2,v3],rfl,v2,[v3],rfl,v3,[],rfl,rfl,rfl,rfl⟩) λ_ s8 ⟨σ8,H8,I9,e1,e2⟩=>?_)
    subst e1 e2;refine oF (thn (ht s2 H2 G.objs.size fp _ s8 _ H8 _ I9 stp) λok s9 ⟨H9,I10,q10⟩=>?_)
    cases ok with
    |false=>
     rw[if_neg zam]at q10;rw[if_neg zam];obtain⟨m',hm,w'⟩:=q10;obtain⟨k1,k2,k3,k4⟩:=pk I10;exact⟨m',hm,i+1,some v1,some v2,some v3,H9,ys,its,k,Inv.cR (pins:=[]) I10,k1,k2,k3,k4,r5,w'⟩
    |true=>
     rw[if_pos rfl]at q10;rw[if_pos rfl];refine oF (thn (he s2 H2 G.objs.size fp _ s9 _ H9 _ I10 q10) λy' s10 ⟨yv,H10,I11,ry,m',hm,w'⟩=>?_)
     obtain⟨k1,k2,k3,k4⟩:=pk I11;refine append_at k4 (λh' hs' hD'=>?_) (by rw[zaK];exact hzl)
     have I12:Inv (bB X scope (cN x y x3 fr) s2 H2 G.objs.size fp) [] (some v1::some v2::some v3::aP σ fr) H10 {s10 with heap:=h'} :=
      (Inv.cR (pins:=[]) I11).turned (t':=s10.toks) (it:=s2.heap.objs.size) (λb ob hb e=>(hs'.2 b hb).trans e) k3 hDC (.inr (zap _)) (λz c e=>Dcl z c (B.sub I2.ok _ _ e)) λp hp=>absurd (show p∈([]:List (Addr×Obj))from hp) (by simp)
     refine⟨m',hm,i+1,some v1,some v2,some v3,H10,ys++[yv],its++[y'],k+1,I12,T.keep _ _ _ k1 λb hb ob e=>(hs'.2 b λz=>Dfp (by rw[<-z];exact hb)).trans e,k2,k3,?_,r5.append (.cons ry .nil),w'⟩
     rw[hD'];simp
 exact codeAny_compStart_list (loop _ rfl) (T.self _ 0 _ _ _ tn4 (loop _ rfl))
end
structure Nt(P:Program)(w:World)(K:zag)(mg:Str->Option Value)(base:Heap)(CX:CXT)(k:Nat)(C:Addr)(m:Str)(ps:List Str)(dvs:List V)(sp:Sp):Prop where
 ex:∃(f:Addr) (fd:FuncData) (ds:List Value),iz P w K mg base CX k f fd ps sp/\Cls K C/\Meth K C m f/\Binds K fd ps ds/\Vals dvs ds
structure Nk(P:Program)(w:World)(K:zag)(mg:Str->Option Value)(base:Heap)(CX:CXT)(k:Nat)(C:Addr)(m:Str)(ps ks:List Str)(gV:List V->List V->List V)(sp:Sp):Prop where
 ex:∃(f:Addr) (fd:FuncData) (g:List Value->List Value->List Value),iz P w K mg base CX k f fd ps sp/\Cls K C/\Meth K C m f/\IX K fd ps ks g gV
structure Nu(P:Program)(w:World)(K:zag)(mg:Str->Option Value)(base:Heap)(CX:CXT)(k:Nat)(x:Str)(C:Addr)(ps:List Str)(sp:Sp):Prop where
 ex:∃(f:Addr) (fd:FuncData),iz P w K mg base CX k f fd ps sp/\mg x=some (.ref C)/\Mk K C f/\Binds K fd ps []
structure Mem(K:zag)(x qual:Str)(st:Stmt)(f:Addr)(fd:FuncData)(dv:List V):Prop where
 ex:∃(oc:Value) (od:Option Addr) (dV kV doc pm:Value) (an:Option Addr) (cdv ct:Value) (osl:Array (Option Value)),
  fd=PySem.W.fnOf x qual (fu st) (cX st) (aK st) dV kV doc pm an cdv ct/\K.lookup f=some ⟨oc,od,.func fd,osl⟩/\PySem.W.codeIn K cdv qual=true/\
  ((dv=[]/\dV=.none)\/dv≠[]/\∃T o items n,dV=.ref T/\K.lookup T=some o/\o.data=.seq items n/\Vals dv items.toList)
section
variable{P:Program}{w:World}{K:zag}{mg:Str->Option Value}{base:Heap}
end
end L2
namespace Mir
open PySem L2
section
variable [Zc] [Zl]{W:WX}
def as3:D->Option (D×D×D)
 | .tuple [a,b,c]=>some (a,b,c)
 |_=>none
theorem J8(h:as3 d=some p):d=.tuple [p.1,p.2.1,p.2.2]:=by
 unfold as3 at h;split at h
 ·cases h;rfl
 ·cases h
def jy(c:Rho->Option (Bool×Rho))(e:PM)(ρn:Rho):List D->Option (List D)
 | []=>some []
 |d::ds=>(as3 d).bind λp=>(c (.fz p.1::.fz p.2.1::.fz p.2.2::ρn)).bind λb=>if b.1=true then(sv e (.fz p.1::.fz p.2.1::.fz p.2.2::ρn)).bind λy=>(asF y.1).bind λz=>(jy c e ρn ds).map (z::·)else jy c e ρn ds
theorem gu{fr:List (Str×Nat)}{ρ:Rho}{d d' d2:D}(i:Nat)(s:Sl)(h1:(Sl.fz d::Sl.fz d'::Sl.fz d2::fr.map λp=>bh ρ p.2)[i]?=some s)(h2:s.eM=true):False:=by
 cases i with
 |zero=>cases h1;cases h2
 |succ i=>exact iC (d:=d') (d':=d2) (ρ:=ρ) (fr:=fr) i s (by rw[zat]at h1;exact h1) h2
theorem Rel.DJ(R:Rel F B H σ ρ)(fr:List (Str×Nat))(h:Rep B v d)(h':Rep B v' d')(h2:Rep B v2 d2):Rel (F0 H) B H (some v::some v'::some v2::aP σ fr) (.fz d::.fz d'::.fz d2::fr.map λp=>bh ρ p.2):=by
 obtain⟨r1,r2,r3,r4,r5,r6,r7,r8,r9,r10,r11,r12,r13⟩:=R.JI fr h' h2;refine⟨r1,r2,r3,r4,by simpa using r5,λi s hs=>?_,λi j s t p h1 h2=>(gu i s h1 h2).elim,λi d p h1=>(gu i _ h1 rfl).elim,(λx hx=>by cases hx),λi d h1=>(gu i _ h1 rfl).elim,r11,(λi h1=>?_),r13⟩
 ·cases i with
  |zero=>cases hs;exact⟨v,rfl,h⟩
  |succ i=>
   rw[zat]at hs;have q:=r6 i s hs;cases s with
   |no=>trivial
   |ex=>trivial
   |fz c=>obtain⟨x,g1,g2⟩:=q;exact⟨x,by rw[zat];exact g1,g2⟩
   |own c=>obtain⟨x,g1,g2⟩:=q;exact⟨x,by rw[zat];exact g1,g2⟩
   |io c=>obtain⟨x,g1,g2⟩:=q;exact⟨x,by rw[zat];exact g1,g2⟩
   |ro c=>obtain⟨x,g1,g2⟩:=q;exact⟨x,by rw[zat];exact g1,g2⟩
 ·cases i with
  |zero=>cases h1
  |succ i=>
   rw[zat]at h1⊢;exact r12 i h1
theorem J9(hc:MT tc c)(he:ME te e)(R1:Rel F B1 H1 σ ρ1)(I1:lB H1 B1 J ds)(e2:jy c e (fr.map λp=>bh ρ1 p.2) ds=some out)(hz:out.length<sizeLine)
  (q:∀v B' H',Ext σ ρ1 B1 H1 ρ1 B' H'->Rel F B' H' σ ρ1->Val F B' H' σ ρ1 v (.list out,.new)->(∀p,Kd.new=Kd.new->v=.ref p->H1 p=none)->Q v H'):J4 K fr (λ_ H R=>R J H) tc te σ H1 Q:=by
 refine⟨λi m ys H2=>m=ds.length-i/\i<=ds.length/\∃B2 done rest,aG B1 B2/\aG H1 H2/\(∀q,H1 q≠none->B1 q=none->B2 q=none)/\Rel F B2 H2 σ ρ1/\aR B2 ys done/\jy c e (fr.map λp=>bh ρ1 p.2) (ds.drop i)=some rest/\done++rest=out,
  ⟨ds.length,rfl,Nat.zero_le _,B1,[],out,aG.refl _,aG.refl _,λ_ _ z=>z,R1,.nil,e2,rfl⟩,?_⟩
 rintro i m ys H2 ⟨rfl,hil,B2,done,rest,eB,eH,nb,R2,rp,hcl,hdr⟩
 have hlen:ys.length<=out.length:=by rw[<-hdr,zau,rp.length];omega
 refine⟨by omega,?_⟩
 by_cases hlt:i<ds.length
 ·refine .inr ?_
  obtain⟨go,yl⟩:=(I1 H2 eH).2 i ds[i] (zaC hlt);refine⟨go,λv H3 hy=>?_⟩
  rw[zbb hlt]at hcl;obtain⟨pr,c0,hcl⟩:=zaa (show(as3 ds[i]).bind _=some rest from hcl);obtain⟨b,c1,c2⟩:=zaa hcl;have hdi:=J8 c0;have had:∃B3,aG B2 B3/\aG H2 H3/\(∀q,H2 q≠none->B2 q=none->B3 q=none)/\Rel F B3 H3 σ ρ1/\Rep B3 v ds[i]:=by
   rcases yl v H3 hy with⟨rfl,h2⟩|⟨p,xs,cs,h1,rfl,h3,rfl,h5⟩
   ·exact⟨B2,aG.refl _,aG.refl _,λ_ _ z=>z,R2,h2.mono eB⟩
   ·obtain⟨R3,E3,e3⟩:=R2.pG (xs:=xs) h3
    refine⟨_,e3,d5 h3,λq h z=>?_,R3,?_⟩
    ·rw[ah (show q≠p from λy=>h (by rw[y];exact h3))];exact z
    ·rw[h1];exact .tup au (h5.mono (eB.trans e3))
  obtain⟨B3,eB3,eH3,nb3,R3,rv⟩:=had;have rv':Rep B3 v (.tuple [pr.1,pr.2.1,pr.2.2]):=by rw[<-hdi];exact rv
  obtain⟨p0,v1,v2,v3,rfl,hp0,rv1,rv2,rv3⟩:∃p0 v1 v2 v3,v=.ref p0/\B3 p0=some (.tup [v1,v2,v3])/\Rep B3 v1 pr.1/\Rep B3 v2 pr.2.1/\Rep B3 v3 pr.2.2:=by
   cases rv' with
   |tup h r=>
    cases r with
    |cons a r=>
     cases r with
     |cons b r=>
      cases r with
      |cons c r=>
       cases r;exact⟨_,_,_,_,rfl,h,a,b,c⟩
  refine⟨p0,v1,v2,v3,rfl,.inl (.inl (R3.sub _ _ hp0)),?_⟩;have Ri:=R3.DJ fr rv1 rv2 rv3;refine hc (F0 H3) B3 H3 _ _ b.1 b.2 _ Ri c1 λB4 H4 E4 R4=>?_
  obtain⟨eH4,nb4⟩:=fe gu E4;have R4o:Rel F B4 H4 σ ρ1:=R3.grow E4.sB eH4 R4.sub nb4 R4.cJ R4.nz;have nbA:∀q,H1 q≠none->B1 q=none->B4 q=none:=λq h z=>by
   have h2:H2 q≠none:=λy=>h (eH.free y)
   have h3:H3 q≠none:=λy=>h2 (eH3.free y)
   exact nb4 q h3 (nb3 q h2 (nb q h z))
  cases hb:b.1 with
  |false=>
   rw[hb,if_neg zam]at c2;rw[if_neg zam];exact⟨ds.length-(i+1),by omega,rfl,hlt,B4,done,rest,eB.trans (eB3.trans E4.sB),eH.trans (eH3.trans eH4),nbA,R4o,rp.mono (eB3.trans E4.sB),c2,hdr⟩
  |true=>
   rw[hb,if_pos rfl]at c2;rw[if_pos rfl];obtain⟨y,c3,c2⟩:=zaa c2;obtain⟨z,c4,c2⟩:=zaa c2;obtain⟨rest',c5,c6⟩:=zab c2;subst c6;have Ri4:=R4o.DJ fr (rv1.mono E4.sB) (rv2.mono E4.sB) (rv3.mono E4.sB);refine he.sv (F0 H4) B4 H4 _ _ y.1 y.2 _ Ri4 c3 λu B5 H5 E5 R5 V5 N5=>?_
   obtain⟨eH5,nb5⟩:=fe gu E5;have R5o:Rel F B5 H5 σ ρ1:=R4o.grow E5.sB eH5 R5.sub nb5 R5.cJ R5.nz;rw[xx c4]at V5;refine⟨ds.length-(i+1),by omega,rfl,hlt,B5,done++[z],rest',eB.trans (eB3.trans (E4.sB.trans E5.sB)),eH.trans (eH3.trans (eH4.trans eH5)),λq h w=>?_,R5o,(rp.mono (eB3.trans (E4.sB.trans E5.sB))).append (.cons V5 .nil),c5,by rw[zaD];exact hdr⟩
   have h2:H2 q≠none:=λy=>h (eH.free y)
   have h3:H3 q≠none:=λy=>h2 (eH3.free y)
   have h4:H4 q≠none:=λy=>h3 (eH4.free y)
   exact nb5 q h4 (nbA q h w)
 ·have hi':i=ds.length:=by omega
  subst hi';refine .inl ⟨(I1 H2 eH).1,λp hp=>?_⟩
  rw[List.drop_length]at hcl;cases hcl;rw[zaR]at hdr;subst hdr;have E2:Ext σ ρ1 B1 H1 ρ1 B2 H2:=Ext.grow eB eH nb;have:=fv (res:=(.list done,true)) (k:=λQ=>∀p,H2 p=none->Q (.ref p) (upd H2 p (.lst ys))) (Q:=Q) R2 ⟨ys,rp,λQ h=>h⟩ λv B' H' E R' V' N=>q v B' H' (E2.trans E) R' V' λp z1 z2=>E2.live p (N p z1 z2)
  exact this p hp
def rdL(S:List (Option Cl)):SV->Option (List D)
 | .lc k=>match S[k]? with
  |some (some (.lst xs))=>gF S xs
  |some (some (.dat (.list ds)))=>some ds
  |_=>none
 |_=>none
theorem Gy{A:List Addr}{B H:Hp}{s:SS}(O:StO A B H s.S)(sub:aG B H){v:V}{x:SV}{ds:List D}(h:c8 A B v x)(e:rdL s.S x=some ds):∃p vs,v=.ref p/\Rd H p (.lst vs)/\aR H vs ds:=by
 unfold rdL at e;split at e
 ·rename_i k
  cases h with
  |lc hA=>
   split at e
   ·rename_i xs hk
    cases O.cell k _ _ hk hA with
    |lst hp rs=>exact⟨_,_,rfl,.inl hp,ie O sub rs e⟩
   ·rename_i ds' hk
    cases e;cases O.cell k _ _ hk hA with
    |dat ow=>
     obtain⟨ys,hp,rk⟩:=ow.list;exact⟨_,ys,rfl,.inl hp,rk.mono sub⟩
   ·cases e
 ·cases e
def Gz(fr:List (Str×Nat))(a:EN)(c:Rho->Option (Bool×Rho))(e:PM):EN:=bN a λx s=>(rdL s.S x).bind λds=>(jy c e (fr.map λp=>bh (vw s) p.2) ds).bind λys=>cIf (ys.length<sizeLine) (if a6 ys=true then some (newD (.list ys) s)else none) none
theorem Ka(ha:NE W ta a)(hc:MT tc c)(he:ME te e):NE W (J4 K fr (ve K ta) tc te) (Gz fr a c e):=by
 intro G A B H σ s r0 Q R e0 q;refine dM (t:=ta) ha R e0 q λx v A1 B1 H1 s1 g1 eB1 R1 V1 e1 q1=>?_
 obtain⟨ds,e3,e1⟩:=zaa e1;obtain⟨ys,e4,e1⟩:=zaa e1;obtain⟨hz,e1⟩:=cK e1;split at e1
 case isFalse=>cases e1
 rename_i hp
 cases e1;obtain⟨p,vs,rfl,hl,rs⟩:=Gy R1.st R1.sub V1 e3;refine⟨_,rfl,⟨_,fw hl⟩,?_⟩;refine J9 (K:=K) hc he R1.opn (Cu hl rs) e4 hz λu B' H' E' R' V' _=>?_
 obtain⟨R2,eB,eH,kt⟩:=R1.back R';obtain⟨p,rfl,hB,hF,ow,_⟩:=V';have hF':H1 p=none:=hF;obtain⟨n1,n2,n3⟩:=R1.nu hF';have ow':=ow.cH kt (show cI (.list ys) true=true from hp);obtain⟨o,ho,mo⟩:=ow'.mx;have hB2:tbu B1 H' p=none:=by
  cases h2:tbu B1 H' p with
  |none=>rfl
  |some o'=>
   rcases lE h2 with h3|⟨_,xs,rfl,h3⟩
   ·rw[n3]at h3;cases h3
   ·exact absurd h3 (ow.rG xs)
 have R3:=R2.take (c:=.dat (.list ys)) n1 n2 hB2 ho mo (.dat ow');exact q1 _ _ _ H' (Gro.app _ _) eB R3 (.lc (by rw[<-R1.st.len];exact List.getElem?_concat_length))
end
variable [Zc]
end Mir
namespace L2
open PySem PySem.W PySem.Calls PySem.Spec PyProof.Rows
open PySem.AutoSeq1 (wpAny_loadPart')
theorem tuple_addW0(l b:Addr)(items items2:Array Value)(n n2:Nat)(dd dd2:Option Addr)(sl sl2:Array (Option Value))(hc0:items.isEmpty=true) :
  Meets (Builtin.«tuple.__add__» ⟨[.ref l,.ref b],[]⟩) (λ_ R s=>s.heap.get? l=some {cls:=.type "tuple",dict:=dd,data:=.seq items n,slots:=sl}/\s.heap.get? b=some {cls:=.type "tuple",dict:=dd2,data:=.seq items2 n2,slots:=sl2}/\R (.ok (.ret (Value.ref b))) s) :=
 .of_wp λprog w A R s h=>by
  obtain⟨hp,g,d,tk,os⟩:=s;obtain⟨hl,hb,h⟩:=h
  have f2:=PySem.AutoSeq1.sub_tuple_tuple
  wp_walk using wpAny_loadPart' hl,wpAny_loadPart' hb
  exact⟨_,rfl,h⟩
section
variable{prog:Program}{w:World}{A:Around}{E:Value->Shared->Prop}{s:Shared}
theorem DK{t b:Addr}{ws:List Value}{Q:Value->Shared->Prop}(ht:IsTup s.heap t ([]:List Value).toArray)(hb:IsTup s.heap b ws.toArray)(h1:Q (.ref b) s):wpAny (model prog w) A (binaryOp .Add (.ref t) (.ref b)) Q E s:=by
 obtain⟨⟨cls,dd,data,sl⟩,ho,hc,n,hd⟩:=id ht;obtain⟨⟨cls2,dd2,data2,sl2⟩,ho2,hc2,n2,hd2⟩:=id hb;simp only at hc hd hc2 hd2;subst hc hd hc2 hd2;exact concat_meets ⟨_,ho,rfl⟩ ⟨_,ho2,rfl⟩ noFill_tuple_add seq_tuple_add PySem.F.slot_tuple_add PySem.F.entry_tuple_add (PySem.F.args_tuple_add_2 _ _)
   (tuple_addW0 t b _ ws.toArray n n2 dd dd2 sl sl2 rfl) ⟨ho,ho2,h1⟩
end
def Ib(K:zag):R2:=λx y H Q=>∃a b ys,x=.ref a/\y=.ref b/\SqT K H a []/\SqT K H b ys/\Q (.ref b) H
section
variable{X:Cx}
theorem GA:OpR X (binaryOp .Add) (Ib X.K):=by
 intro pins s σ H x y v u Q I rx ry h;obtain⟨a,b,ys,rfl,rfl,ha,hb,q⟩:=h;cases rx;cases ry;obtain⟨its,r1,p1,_⟩:=I.tuple ha;obtain⟨its2,r2,p2,_⟩:=I.tuple hb;cases r1;exact DK p1 p2 ⟨.ref b,H,I,rfl,q⟩
def DM(K:zag):R2:=λx y H Q=>Mir.tj K x y H Q\/Ib K x y H Q
theorem DN{K:zag}(h:X.K=K):OpR X (binaryOp .Add) (DM K):=h▸Mir.zj.or GA
end
end L2
namespace Mir
open PySem L2
variable [Zc]
def wc:D->D->Option (D×Bool)
 | .tuple [],.tuple b=>some (.tuple b,false)
 |x,y=>ib x y
theorem Kb:OpJ (DM K) wc:=by
 intro B H x y c d res s hx hy e;unfold wc at e;split at e
 ·rename_i b
  cases e;obtain⟨p,xs,rfl,r1,rp1⟩:=hx.tuple s;cases rp1;have hy':Rep B y (.tuple b):=by
   rcases hy with h|⟨p,rfl,h⟩
   ·exact h
   ·cases h
  refine⟨y,hy',λQ q=>.inr ?_⟩
  cases hy' with
  |tup h r=>
   exact⟨_,_,_,rfl,rfl,.inl (.inl r1),.inl (.inl (s _ _ h)),q⟩
 ·have:=j0 (K:=K) B H x y c d res s hx hy e
  obtain⟨r0,o⟩:=res;cases o with
  |false=>obtain⟨v,h1,h2⟩:=this;exact⟨v,h1,λQ q=>.inl (h2 Q q)⟩
  |true=>
   cases r0 with
   |list ds=>obtain⟨v,h1,h2⟩:=this;exact⟨v,h1,λQ q=>.inl (h2 Q q)⟩
   |tuple ds=>obtain⟨v,h1,h2⟩:=this;exact⟨v,h1,λQ q=>.inl (h2 Q q)⟩
   |dict ds=>obtain⟨v,h1,h2⟩:=this;exact⟨v,h1,λQ q=>.inl (h2 Q q)⟩
   |_=>exact this
theorem Bc(a b:List D)(h:a.length+b.length<=100000)(hb:b≠[]):∃o,wc (.tuple a) (.tuple b)=some (.tuple (a++b),o):=by
 cases a with
 |nil=>exact⟨false,rfl⟩
 |cons c a=>exact⟨true,by show cIf _ _ _=_;rw[bg ⟨pQ h,hb⟩]⟩
end Mir
namespace Mir
open PySem L2
section
variable [Zc]
def Ag(N:List Nat)(σ σ':St):Prop:=σ'.length=σ.length/\∀n,n∉N->σ'[n]?=σ[n]?
def nJ(N:List Nat)(σ0:St)(F:Fr)(D:Ends):Out->Prop
 | .nx ρ=>∀B H σ,Rel F B H σ ρ->Ag N σ0 σ->D.nx σ H
 | .rt r ρ=>∀v B H σ,Rel F B H σ ρ->Val F B H σ ρ v r->D.rt v H
 | .bk ρ=>∀B H σ,Rel F B H σ ρ->Ag N σ0 σ->D.bk σ H
 | .ct ρ=>∀B H σ,Rel F B H σ ρ->Ag N σ0 σ->D.ct σ H
variable{N:List Nat}
structure Kc(F:Fr)(B H:Hp)(σ:St)(ρ:Rho)(i:Nat)(ps:List Addr)(b:Nat):Prop where
 here:∃a,σ[i]?=some (some (.ref a))/\H a=some (.tup (ps.map .ref))
 lst:∀p∈ps,∃xs,H p=some (.lst xs)/\xs.length<=b
 out:∀p∈ps,B p=none/\F.H p=none
 free:∀p∈ps,∀(n:Nat) (s:Sl),ρ[n]?=some s->s.isRef=true->σ[n]?≠some (some (.ref p))
structure Sv(N:List Nat)(i:Nat)(F:Fr)(Bs:Hp)(σs:St)(ρs:Rho)(ps:List Addr)(b:Nat)(B:Hp)(σ:St):Prop where
 slot:∀(n:Nat) (d:D),n≠i->ρs[n]?=some (.fz d)->∃v,σs[n]?=some (some v)/\Rep Bs v d
 sBs:aG F.B Bs
 nBs:∀q,F.H q≠none->F.B q=none->Bs q=none
 sB:aG Bs B
 ag:Ag N σs σ
 ni:i∉N
 here:∃a,σs[i]?=some (some (.ref a))/\B a=some (.tup (ps.map .ref))
 out:∀p∈ps,Bs p=none/\F.H p=none
 lst:∀p∈ps,∃xs,B p=some (.lst xs)/\xs.length<=b
 len : ρs.length=σs.length
 io:F.io=[]
end
def xZ:D->Bool
 | .list _=>false
 | .tuple _=>false
 |_=>true
mutual
inductive Nw(G B:Hp):V->D->Prop
 |lst {p:Addr} {xs:List V} {ds:List D}:G p=none->B p=some (.lst xs)->xs.length=ds.length->Nw G B (.ref p) (.list ds)
 |tup {a:Addr} {xs:List V} {ds:List D}:B a=some (.tup xs)->Nws G B xs ds->Nw G B (.ref a) (.tuple ds)
 |oth {v:V} {d:D}:xZ d=true->Nw G B v d
inductive Nws(G B:Hp):List V->List D->Prop
 |nil:Nws G B [] []
 |cons {v:V} {vs:List V} {d:D} {ds:List D}:Nw G B v d->Nws G B vs ds->Nws G B (v::vs) (d::ds)
end
mutual
theorem Nw.mono(e:aG B B'):∀{v:V} {d:D},Nw G B v d->Nw G B' v d
 |_,_,.lst a b c=>.lst a (e _ _ b) c
 |_,_,.tup a b=>.tup (e _ _ a) (Nws.mono e b)
 |_,_,.oth a=>.oth a
theorem Nws.mono(e:aG B B'):∀{v:List V} {d:List D},Nws G B v d->Nws G B' v d
 |_,_,.nil=>.nil
 |_,_,.cons a b=>.cons (Nw.mono e a) (Nws.mono e b)
end
mutual
theorem Nw.pure:∀{v:V} {d:D},Rep B v d->dU d=true->Nw G B v d
 |_,_,.non,_=>.oth rfl
 |_,_,.bl b,_=>.oth rfl
 |_,_,.int i,_=>.oth rfl
 |_,_,.str x,_=>.oth rfl
 |_,_,.lst _ _,h=>by simp[dU]at h
 |_,_,.dct _ _,h=>by simp[dU]at h
 |_,_,.tup h r,e=>.tup h (Nws.pure r (by simpa[dU]using e))
theorem Nws.pure:∀{v:List V} {d:List D},aR B v d->a6 d=true->Nws G B v d
 |_,_,.nil,_=>.nil
 |_,_,.cons a b,e=>by
  simp only[a6,Bool.and_eq_true]at e;exact .cons (Nw.pure a e.1) (Nws.pure b e.2)
end
section
variable [Zc]
def MEW(t:TE)(m:PM):Prop:=∀(F:Fr) (B H:Hp) (σ:St) (ρ:Rho) (r:RV) (ρ':Rho) (Q:VK),Rel F B H σ ρ->m ρ=some (r,ρ')->
  (∀v B' H',Ext σ ρ B H ρ' B' H'->Rel F B' H' σ ρ'->Val F B' H' σ ρ' v r->(∀p,r.2=.new->v=.ref p->H p=none)->(r.2=.fz->Nw F.H B' v r.1)->Q v H')->t σ H Q
def NwL(G B:Hp):List V->List RV->Prop
 | [],[]=>True
 |v::vs,r::rs=>(r.2=.fz->Nw G B v r.1)/\NwL G B vs rs
 |_,_=>False
def nr(m:SM):SM:=fun ρ=>(m ρ).bind λo=>match o with
 | .rt _ _=>none
 |o=>some o
end
mutual
inductive NwB(G Bs B:Hp)(b:Nat):V->D->Prop
 |lst {p:Addr} {xs:List V} {ds:List D}:G p=none->Bs p=none->B p=some (.lst xs)->xs.length<=b->NwB G Bs B b (.ref p) (.list ds)
 |tup {a:Addr} {xs:List V} {ds:List D}:B a=some (.tup xs)->mF G Bs B b xs ds->NwB G Bs B b (.ref a) (.tuple ds)
 |oth {v:V} {d:D}:xZ d=true->NwB G Bs B b v d
inductive mF(G Bs B:Hp)(b:Nat):List V->List D->Prop
 |nil:mF G Bs B b [] []
 |cons {v:V} {vs:List V} {d:D} {ds:List D}:NwB G Bs B b v d->mF G Bs B b vs ds->mF G Bs B b (v::vs) (d::ds)
end
mutual
theorem NwB.mono(e:aG B B'):∀{v:V} {d:D},NwB G Bs B b v d->NwB G Bs B' b v d
 |_,_,.lst a b c d=>.lst a b (e _ _ c) d
 |_,_,.tup a b=>.tup (e _ _ a) (mF.mono e b)
 |_,_,.oth a=>.oth a
theorem mF.mono(e:aG B B'):∀{v:List V} {d:List D},mF G Bs B b v d->mF G Bs B' b v d
 |_,_,.nil=>.nil
 |_,_,.cons a b=>.cons (NwB.mono e a) (mF.mono e b)
end
mutual
def tV:D->Bool
 | .list ds=>decide (ds.length<=90000)
 | .tuple ds=>oZ ds
 | .none=>true
 | .bool _=>true
 | .int _=>true
 | .str _=>true
 | .dict _=>true
def oZ:List D->Bool
 | []=>true
 |d::ds=>tV d&&oZ ds
end
mutual
theorem NwB.of(k:∀p,G p=none->G' p=none/\Bs p=none):∀{v:V} {d:D},Nw G B v d->tV d=true->NwB G' Bs B 90000 v d
 |_,_,.lst a b c,h=>.lst (k _ a).1 (k _ a).2 b (by rw[c];simpa[tV]using h)
 |_,_,.tup a b,h=>.tup a (mF.of k b (by simpa[tV]using h))
 |_,_,.oth a,_=>.oth a
theorem mF.of(k:∀p,G p=none->G' p=none/\Bs p=none):∀{v:List V} {d:List D},Nws G B v d->oZ d=true->mF G' Bs B 90000 v d
 |_,_,.nil,_=>.nil
 |_,_,.cons a b,h=>by
  simp only[oZ,Bool.and_eq_true]at h;exact .cons (NwB.of k a h.1) (mF.of k b h.2)
end
mutual
inductive Dd(G B H:Hp)(b:Nat):V->D->Prop
 |lst {p:Addr} {xs:List V} {ds:List D}:G p=none->B p=none->H p=some (.lst xs)->xs.length<=b->Dd G B H b (.ref p) (.list ds)
 |tup {a:Addr} {xs:List V} {ds:List D}:H a=some (.tup xs)->Dds G B H b xs ds->Dd G B H b (.ref a) (.tuple ds)
 |oth {v:V} {d:D}:xZ d=true->Dd G B H b v d
inductive Dds(G B H:Hp)(b:Nat):List V->List D->Prop
 |nil:Dds G B H b [] []
 |cons {v:V} {vs:List V} {d:D} {ds:List D}:Dd G B H b v d->Dds G B H b vs ds->Dds G B H b (v::vs) (d::ds)
end
mutual
theorem Dd.of(s:aG B H)(k:∀p xs,B p=some (.lst xs)->Bs p=none->B5 p=none):∀{v:V} {d:D},NwB G Bs B b v d->Dd G B5 H b v d
 |_,_,.lst a b c d=>.lst a (k _ _ c b) (s _ _ c) d
 |_,_,.tup a b=>.tup (s _ _ a) (Dds.of s k b)
 |_,_,.oth a=>.oth a
theorem Dds.of(s:aG B H)(k:∀p xs,B p=some (.lst xs)->Bs p=none->B5 p=none):∀{v:List V} {d:List D},mF G Bs B b v d->Dds G B5 H b v d
 |_,_,.nil=>.nil
 |_,_,.cons a b=>.cons (Dd.of s k a) (Dds.of s k b)
end
mutual
theorem Dd.Bd(hp:∃xs,H p=some (.lst xs))(hb:b<=b2)(hy:ys.length<=b2):∀{v:V} {d:D},Dd G B H b v d->Dd G B (upd H p (.lst ys)) b2 v d
 |_,_,.lst (p:=q) h1 h2 h3 h4=>by
  by_cases z:q=p
  ·subst z;exact .lst h1 h2 au hy
  ·exact .lst h1 h2 (by rw[ah z];exact h3) (zaX h4 hb)
 |_,_,.tup (a:=q) h1 h2=>by
  refine .tup ?_ (Dds.Bd hp hb hy h2);rw[ah (λz=>by obtain⟨xs,hx⟩:=hp;rw[z,hx]at h1;cases h1)];exact h1
 |_,_,.oth a=>.oth a
theorem Dds.Bd(hp:∃xs,H p=some (.lst xs))(hb:b<=b2)(hy:ys.length<=b2):∀{v:List V} {d:List D},Dds G B H b v d->Dds G B (upd H p (.lst ys)) b2 v d
 |_,_,.nil=>.nil
 |_,_,.cons a c=>.cons (Dd.Bd hp hb hy a) (Dds.Bd hp hb hy c)
end
section
variable [Zc]
structure Sg(N:List Nat)(i:Nat)(F:Fr)(Bs:Hp)(σs:St)(ρs:Rho)(v:V)(d:D)(b:Nat)(B:Hp)(σ:St):Prop where
 slot:∀(n:Nat) (d:D),n≠i->ρs[n]?=some (.fz d)->∃v,σs[n]?=some (some v)/\Rep Bs v d
 sBs:aG F.B Bs
 nBs:∀q,F.H q≠none->F.B q=none->Bs q=none
 sB:aG Bs B
 ag:Ag N σs σ
 ni:i∉N
 here : σs[i]?=some (some v)
 nw:NwB F.H Bs B b v d
 len : ρs.length=σs.length
 io:F.io=[]
variable{N:List Nat}
end
end Mir
namespace L2
open PySem PySem.Spec PyProof.Rows
end L2
namespace Mir
open PySem L2
section
variable [Zc]
def ot(as:List D):List D:=as.mapIdx λi a=>PyData.tuple [.int i,a]
theorem Be{as:List D}{i:Nat}{d:D}(h:(ot as)[i]?=some d):∃a,d=.tuple [.int i,a]/\as[i]?=some a:=by
 unfold ot at h;rw[List.getElem?_mapIdx]at h;obtain⟨a,h1,h2⟩:=zab h;exact⟨a,h2.symm,h1⟩
theorem Ke(h1:Rd G p (.lst xs))(r1:aR B xs as):lB G B (Ite K p) (ot as):=λH s=>by
 have g1:SqL K H p xs:=fw (dH s h1);refine⟨⟨xs,g1,by rw[r1.length];simp[ot]⟩,λi d hd=>?_⟩
 obtain⟨a,rfl,ha⟩:=Be hd;obtain⟨x,x1,x2⟩:=r1.get i a ha;refine⟨⟨xs,x,g1,x1⟩,λv H' hy=>?_⟩
 obtain⟨p',x',rfl,hp,rfl,e1⟩:=hy;have e1':=e1 xs g1;rw[x1]at e1';cases e1';exact .inr ⟨p',[.int i,x],[.int i,a],rfl,rfl,hp,rfl,.cons (.int _) (.cons x2 .nil)⟩
def Kf(m:Rho->Option (List RV×Rho)):Rho->Option (List D×Rho):=fun ρ=>((m ρ).bind Jv).bind λx=>(jX x.1 x.2).bind λy=>(asL y.1).map λds=>(ot ds,y.2)
section
variable{K:zag}{ta:TA}{m:Rho->Option (List RV×Rho)}
theorem GB(h:MA ta m):MF (HL K ta) (Kf m):=by
 intro F B H σ ρ ds ρ' Q R e q;obtain⟨x,e0,e⟩:=zaa e;obtain⟨x0,e1,e3⟩:=zaa e0;obtain⟨y,e4,e⟩:=zaa e;obtain⟨ds',e2,e⟩:=zab e;cases e;rw[Fq e3]at e1;refine h F B H σ ρ _ _ _ R e1 λvs B1 H1 E1 R1 V1=>?_
 match vs,V1 with
 | [v],V1=>
  obtain⟨B2,R2,rp,E2⟩:=R1.frz V1.weak.1 e4;rw[Cw e2]at rp;cases rp with
  |lst h r=>exact⟨_,_,rfl,fw (dH R2.sub h),q _ B2 H1 (E1.trans E2) R2 (Ke h r)⟩
end
end
end Mir
namespace L2
open PySem PySem.W PySem.Calls PySem.Spec PyProof.Rows
open PySem.AutoSeq1 (wpAny_loadPart')
section
variable{prog:Program}{w:World}{A:Around}{s:Shared}
def EqP(prog:Program)(w:World)(A:Around)(s:Shared)(y x:Value):Prop:=∀(E:Value->Shared->Prop) (Q:Bool->Shared->Prop),Q true s->wpAny (model prog w) A (eqBool y x) Q E s
theorem ou:(forIn ([0:n]:Std.Legacy.Range) c f:Sem β)=forIn (List.range' 0 n) c f:=by
 rw[Std.Legacy.Range.forIn_eq_forIn_range'];have hsz:([0:n]:Std.Legacy.Range).size=n:=by simp[Std.Legacy.Range.size]
 show forIn (List.range' 0 ([0:n]:Std.Legacy.Range).size 1) c f=_;rw[hsz]
variable{K:Type} [DecidableEq K]{knd:PySem.KeyKind prog w K}
theorem pairs_at(h:Pairs knd es kvs):∀(i:Nat) (e:DictEntry),es[i]?=some e->∃kv,kvs[i]?=some kv/\knd.is kv.1 e.key=true/\e.val=kv.2:=by
 induction h with
 |nil=>intro i e h;simp at h
 | @cons e' kv es kvs h1 h2 _ ih=>
  intro i e h;cases i with
  |zero=>cases(show some e'=some e by simpa using h);exact⟨kv,rfl,h1,h2⟩
  |succ i=>simpa using ih i e (by simpa using h)
theorem tW{β:Type}:∀{kvs:List (K×β)} {x:Nat} {u:K×β} {k:K},(kvs.map (·.1)).Nodup->kvs[x]?=some u->u.1=k->kvs.findIdx? (λkv=>decide (kv.1=k))=some x
 | [],_,_,_,_,h,_=>by simp at h
 |a::kvs,0,u,k,_,h,e=>by
  have:a=u:=by simpa using h
  rw[List.findIdx?_cons,this,e];simp
 |a::kvs,x+1,u,k,hn,h,e=>by
  have hn':=List.nodup_cons.mp (show(a.1::kvs.map (·.1)).Nodup from hn)
  have h':kvs[x]?=some u:=by simpa using h
  have ne : ¬a.1=k:=λz=>hn'.1 (by rw[z,<-e];exact List.mem_map_of_mem (zaj h'))
  rw[List.findIdx?_cons,zaO ne,tW hn'.2 h' e];rfl
theorem DO(hl:s.heap.DictOf knd l kvs)(hb:s.heap.DictOf knd b kws)(hls:(l==sysModules)=false)(hbs:(b==sysModules)=false)(hk:kvs.map (·.1)=kws.map (·.1))
  (he:∀(j:Nat) (v u:K×Value),kvs[j]?=some v->kws[j]?=some u->EqP prog w A s v.2 u.2):wpAny (model prog w) A (Builtin.«dict.__eq__» ⟨[.ref l,.ref b],[]⟩) (λfin s'=>fin=.done (.ret (.bool true))/\s'=s) E s:=by
 obtain⟨o,es,ep,ho,hx,hd,hks,hp,hn⟩:=hl;obtain⟨o2,es2,ep2,ho2,hx2,hd2,GC,hp2,hn2⟩:=hb;have hlen:kvs.length=kws.length:=by simpa using congrArg List.length hk
 have e1:es.size=kvs.length:=by rw[<-hp.length];simp
 have e2:es2.size=kws.length:=by rw[<-hp2.length];simp
 have t1:s.TypeIs (.ref l) "dict":=⟨o,ho,hx.1⟩;have t2:s.TypeIs (.ref b) "dict":=⟨o2,ho2,hx2.1⟩;show wpAny _ _ (Builtin.Dict.dictSlotArgs "__eq__" ⟨[.ref l,.ref b],[]⟩>>=_) _ _ _;refine zaI ?_;unfold Builtin.Dict.dictSlotArgs;refine zaI (wpAny_notOrdered_dict t1 ?_);show wpAny _ _ (pure (Value.ref l,Value.ref b)) _ _ s;refine zaZ ?_;dsimp only;refine zaI (wpAny_isInstance t2 (b:=true) (by rw[isSubtype_type];kernel_rfl) ?_)
 show wpAny _ _ (Builtin.Dict.samePairs _ l b>>=_) _ _ s;refine zaI ?_;unfold Builtin.Dict.samePairs;have sh:∀(d:Addr) (Q:Unit->Shared->Prop),(d==sysModules)=false->Q () s->wpAny (model prog w) A (Builtin.Dict.showsAll d) Q E s:=λd Q h q=>by
  unfold Builtin.Dict.showsAll;rw[if_neg (by rw[h];exact zam)]
  exact zaZ q
 refine zaI (sh l _ hls ?_);refine zaI (sh b _ hbs ?_);refine zaI (wpAny_dictEntries ho hd ?_);refine zaI (wpAny_dictEntries ho2 hd2 ?_);dsimp only;rw[if_neg (by rw[e1,e2,hlen];simp)]
 refine zaI (wpAny_dictEpoch ho hd ?_);refine zaI ?_;rw[ou];refine wpAny_forIn_list _ (λrest c s'=>s'=s/\c=(none,())/\∃i,rest=List.range' i (es.size-i)/\i<=es.size) _ ?_ ?_ _ _ ⟨rfl,rfl,0,by simp,Nat.zero_le _⟩
 ·rintro x rest c s' ⟨rfl,rfl,i,hr,hi⟩
  have hi2:i<es.size:=by
   rcases Nat.lt_or_ge i es.size with h|h
   ·exact h
   ·rw[show es.size-i=0 by omega]at hr;cases hr
  rw[show es.size-i=(es.size-(i+1))+1 by omega,List.range'_succ]at hr
  injection hr with hx1 hr1
  subst hx1;refine zaI (wpAny_dictEntries ho hd ?_);rw[Array.getElem?_eq_getElem hi2];dsimp only;obtain⟨kv,hkv,is1,ev⟩:=pairs_at hp x es[x] (by rw[Array.getElem?_toList];exact Array.getElem?_eq_getElem hi2)
  obtain⟨k',is2,eh⟩:=hks es[x] (Array.getElem_mem hi2);have ek:k'=kv.1:=knd.inj _ _ _ is2 is1;have hx3:x<es2.size:=by omega
  obtain⟨kw,hkw,is3,ev2⟩:=pairs_at hp2 x es2[x] (by rw[Array.getElem?_toList];exact Array.getElem?_eq_getElem hx3)
  have ekk:kw.1=kv.1:=by
   have h1:(kvs.map (·.1))[x]?=some kv.1:=by rw[zao,hkv];rfl
   have h2:(kws.map (·.1))[x]?=some kw.1:=by rw[zao,hkw];rfl
   rw[hk,h2]at h1;exact zaQ h1
  have hf:es2.findIdx? (λe=>knd.is kv.1 e.key)=some x:=by
   have h:=(hp2.findIdx kv.1).trans (tW hn2 hkw ekk);rw[<-h];obtain⟨l⟩:=es2;simp
  refine zaI (wpAny_holding ?_);rw[eh,ek];refine zaI (wpAny_dictFind_of is1 ho2 hd2 GC ?_);rw[hf];dsimp only;refine zaI (wpAny_dictEntries ho2 hd2 ?_);rw[Array.getElem?_eq_getElem hx3];dsimp only;refine wpAny_holding ?_;rw[ev,ev2];refine he x kv kw hkv hkw _ _ ?_;rw[if_neg (by simp)]
  refine zaI (wpAny_dictEpoch ho hd ?_);rw[if_neg (by simp)]
  exact zaZ ⟨rfl,rfl,x+1,by rw[hr1],hi2⟩
 ·rintro c s' ⟨rfl,rfl,_⟩
  exact zaZ (zaZ ⟨rfl,rfl⟩)
theorem wd(hu:A.units<cLine)(hl:s.heap.DictOf knd l kvs)(hb:s.heap.DictOf knd b kws)(hls:(l==sysModules)=false)(hbs:(b==sysModules)=false)(hk:kvs.map (·.1)=kws.map (·.1))
  (he:∀(j:Nat) (v u:K×Value),kvs[j]?=some v->kws[j]?=some u->EqP prog w A.in1 s v.2 u.2) (q:Q (.bool true) s):wpAny (model prog w) A (richCompare .Eq (.ref l) (.ref b)) Q E s:=by
 obtain⟨o,es,ep,ho,hx,_⟩:=id hl;obtain⟨o2,es2,ep2,ho2,hx2,_⟩:=id hb;refine wpAny_richCompare_same_room (op:=.Eq) (T:="dict") ⟨o,ho,hx.1⟩ ⟨o2,ho2,hx2.1⟩ PySem.F.slot_dict_eq ?_ hu;refine wpAny_call_entry PySem.F.slot_dict_eq ⟨o,ho,hx.1⟩ PySem.F.entry_dict_eq ?_ (PySem.F.args_dict_eq_2 _ _);refine za6 (DO hl hb hls hbs hk he) (λfin s' h=>?_) λ_ _ e=>e
 obtain⟨rfl,rfl⟩:=h;exact⟨_,rfl,⟨(λx=>nomatch x),q⟩⟩
theorem DP(hu:A.units<cLine)(hl:s.heap.DictOf knd l kvs)(hb:s.heap.DictOf knd b kws)(hls:(l==sysModules)=false)(hbs:(b==sysModules)=false)(hk:kvs.map (·.1)=kws.map (·.1))
  (he:∀(j:Nat) (v u:K×Value),kvs[j]?=some v->kws[j]?=some u->EqP prog w A.in1 s v.2 u.2):EqP prog w A s (.ref l) (.ref b):=by
 intro E Q q;unfold eqBool;refine wpAny_holding ?_;refine wpAny_ite_split (λ_=>?_) (λ_=>?_)
 ·exact zaI (wpAny_rule (zaZ q))
 ·exact zaI (wd hu hl hb hls hbs hk he (wpAny_truthy_bool q))
theorem ya(hl:s.heap.get? l=some {cls:=.type "tuple",dict:=dd,data:=.seq #[x1,x2] n,slots:=sl})(hb:s.heap.get? b=some {cls:=.type "tuple",dict:=dd2,data:=.seq #[y1,y2] n2,slots:=sl2})
  (h1:EqP prog w A s x1 y1) (h2:EqP prog w A s x2 y2):wpAny (model prog w) A (Builtin.«tuple.__eq__» ⟨[.ref l,.ref b],[]⟩) (λfin s'=>fin=.done (.ret (.bool true))/\s'=s) E s:=by
 obtain⟨hp,g,d,tk,os⟩:=s;have f2:=PySem.AutoSeq1.sub_tuple_tuple
 wp_walk using wpAny_loadPart' hl,wpAny_loadPart' hb,wpAny_forIn_list _ (λrest b s'=>b.1=none/\s'=⟨hp,g,d,tk,os⟩/\∀p∈rest,EqP prog w A ⟨hp,g,d,tk,os⟩ p.1 p.2) _
 case turn=>
  rintro⟨y,x⟩ rest b s' ⟨hb',rfl,hz⟩
  refine zaI (hz (y,x) zas _ _ ?_)
  wp_walk
  exact⟨rfl,rfl,λp hp=>hz p (zak _ hp)⟩
 case fin=>
  rintro⟨b1,b2⟩ s' ⟨hb',rfl,_⟩
  simp only at hb';subst hb'
  wp_walk
  exact⟨rfl,rfl⟩
 case h=>
  refine⟨rfl,rfl,λp hp=>?_⟩
  have:p=(x1,y1)\/p=(x2,y2):=by simpa using hp
  rcases this with rfl|rfl
  ·exact h1
  ·exact h2
end
def rX(K:zag)(H:Hp)(x y:V):Prop:=∃d,gm K H x d/\gm K H y d/\SeqAt.shaped d=true
def we(K:zag)(H:Hp)(x y:V):Prop:=rX K H x y\/∃(p q:Addr) (kvs kws:List (Key×V)),x=.ref p/\y=.ref q/\Rd H p (.dK kvs)/\Rd H q (.dK kws)/\kvs.map (·.1)=kws.map (·.1)/\∀(j:Nat) (a b:Key×V),kvs[j]?=some a->kws[j]?=some b->rX K H a.2 b.2
def Ic(K:zag)(H:Hp)(x y:V):Prop:=∃(a b:Addr) (x1 x2 y1 y2:V),x=.ref a/\y=.ref b/\SqT K H a [x1,x2]/\SqT K H b [y1,y2]/\we K H x1 y1/\we K H x2 y2
def Kg(K:zag):R2:=λx y H Q=>Ic K H x y/\Q (.bl true) H
section
variable{X:Cx}{A:Around}
theorem rX.eqP{pins:List (Addr×Obj)}{s:Shared}{σ:St}{H:Hp}(I:Inv X pins σ H s){x y:V}{v u:Value}(rx:RelV x v)(ry:RelV y u)(h:rX X.K H x y)(hu:A.units+64<cLine):EqP X.prog X.w A s v u:=by
 obtain⟨d,ha,hb,sd⟩:=h;obtain⟨as,ra⟩:=ha.reads I rx;obtain⟨bs,rb⟩:=hb.reads I ry;intro E Q q;refine SeqAt.eqAt_reads d d A s v u as bs ra rb (SeqAt.canLay_of_shaped sd) (SeqAt.canLay_of_shaped sd) (SeqAt.room_of_shaped sd hu) X.prog X.w E Q ?_;rw[SeqAt.eqv_refl d (SeqAt.canLay_of_shaped sd)];exact q
theorem yb:∀{kvs:List (κ×V)} {vs:List (κ×Value)},KV kvs vs->∀(j:Nat) (b : κ×Value),vs[j]?=some b->∃a,kvs[j]?=some a/\a.1=b.1/\RelV a.2 b.2
 | [],[],_,j,b,e=>by simp at e
 |a::kvs,c::vs,h,0,b,e=>by
  cases h with
  |cons h1 h2=>cases(show some c=some b by simpa using e);exact⟨a,rfl,h1.1,h1.2⟩
 |a::kvs,c::vs,h,j+1,b,e=>by
  cases h with
  |cons h1 h2=>simpa using yb h2 j b (by simpa using e)
theorem tX:∀{kvs:List (κ×V)} {vs:List (κ×Value)},KV kvs vs->vs.map (·.1)=kvs.map (·.1)
 | [],[],_=>rfl
 |a::kvs,c::vs,h=>by
  cases h with
  |cons h1 h2=>rw[zaz,zaz,tX h2,h1.1]
theorem we.eqP{pins:List (Addr×Obj)}{s:Shared}{σ:St}{H:Hp}(I:Inv X pins σ H s){x y:V}{v u:Value}(rx:RelV x v)(ry:RelV y u)(h:we X.K H x y)(hu:A.units+65<cLine):EqP X.prog X.w A s v u:=by
 rcases h with h|⟨p,q,kvs,kws,rfl,rfl,h1,h2,hk,he⟩
 ·exact h.eqP I rx ry (by omega)
 ·cases rx
  cases ry;obtain⟨_,y1,vs,r1,d1⟩:=(show bR X.prog X.w H s.heap p (.dK kvs)from h1.ok I.hok);obtain⟨_,y2,ws,r2,d2⟩:=(show bR X.prog X.w H s.heap q (.dK kws)from h2.ok I.hok);refine DP (by omega) d1 d2 y1 y2 (by rw[tX r1,tX r2,hk]) λj a b ha hb=>?_
  obtain⟨c,hc,_,rc⟩:=yb r1 j a ha;obtain⟨d,hd,_,rd⟩:=yb r2 j b hb;exact(he j c d hc hd).eqP I rc rd (by show A.units+1+64<cLine;omega)
theorem Kh(hu:X.A.units+100<cLine):OpR X (compareOp .Eq) (Kg X.K):=by
 intro pins s σ H x y v u Q I rx ry h;obtain⟨⟨a,b,x1,x2,y1,y2,rfl,rfl,s1,s2,l1,l2⟩,q⟩:=h;cases rx;cases ry;obtain⟨its,rv,pl,_⟩:=I.tuple s1;obtain⟨its2,rv2,pl2,_⟩:=I.tuple s2;obtain⟨u1,u2,rfl,ru1,ru2⟩:=rv.two;obtain⟨w1,w2,rfl,rw1,rw2⟩:=rv2.two;obtain⟨⟨c,dd,dt,sl⟩,e,hc,n,hd⟩:=pl;obtain⟨⟨c2,dd2,dt2,sl2⟩,e2,hc2,n2,hd2⟩:=pl2;simp only at hc hd hc2 hd2;subst hc hd hc2 hd2;show wpAny _ _ (richCompare .Eq (.ref a) (.ref b)) _ _ _;refine wpAny_richCompare_same_room (op:=.Eq) (T:="tuple") ⟨_,e,rfl⟩ ⟨_,e2,rfl⟩ PySem.F.slot_tuple_eq ?_ (by omega)
 refine wpAny_call_entry PySem.F.slot_tuple_eq ⟨_,e,rfl⟩ PySem.F.entry_tuple_eq ?_ (PySem.F.args_tuple_eq_2 _ _);refine za6 (ya (A:=X.A.in1) e e2 (l1.eqP I ru1 rw1 (by show X.A.units+1+65<cLine;omega)) (l2.eqP I ru2 rw2 (by show X.A.units+1+65<cLine;omega))) (λfin s' h=>?_) λ_ _ e=>e
 obtain⟨rfl,rfl⟩:=h;exact⟨_,rfl,(λx=>nomatch x),.bl true,H,I,rfl,q⟩
theorem GD{K:zag}(h:X.K=K){k:Nat}(hr:dh k X.A):OpR X (compareOp .Eq) (Kg K):=h▸Kh (by have:=hr.un;omega)
end
end L2
namespace Mir
open PySem L2
variable [Zc]
def tY:D->Prop
 | .dict es=>∀e∈es,SeqAt.shaped e.2=true
 |d=>SeqAt.shaped d=true
def o4:D->Prop
 | .tuple [c,d]=>tY c/\tY d
 |_=>False
def Ki:D->D->Option (D×Bool):=λc d=>cIf (c=d/\o4 c) (some (.bool true,false)) none
theorem wg(h:l7 k c)(h':l7 k' c):k=k':=by
 cases k<;>cases k'<;>(unfold l7 at h h';rw[h]at h';first|cases h';rfl|cases h')
theorem ql:∀{kvs kws:List (Key×V)} {es:List (D×D)},a0 H kvs es->a0 H kws es->(∀e∈es,SeqAt.shaped e.2=true)->kvs.map (·.1)=kws.map (·.1)/\∀(j:Nat) (a b:Key×V),kvs[j]?=some a->kws[j]?=some b->rX K H a.2 b.2
 |_,_,_,.nil,.nil,_=>⟨rfl,λj a b h=>by simp at h⟩
 |_,_,_,.cons k1 r1 t1,.cons k2 r2 t2,h=>by
  obtain⟨h1,h2⟩:=ql (K:=K) t1 t2 λe he=>h e (zak _ he)
  refine⟨by rw[zaz,zaz,h1,wg k1 k2],λj a b ha hb=>?_⟩
  cases j with
  |zero=>
   cases(zaQ (show some _=some a by simpa using ha))
   cases(zaQ (show some _=some b by simpa using hb))
   have:=h _ zas;exact⟨_,r1.data (SeqAt.canLay_of_shaped this),r2.data (SeqAt.canLay_of_shaped this),this⟩
  |succ j=>exact h2 j a b (by simpa using ha) (by simpa using hb)
theorem wj(hx:Rep H x d)(hy:Rep H y d)(h:tY d):we K H x y:=by
 cases hx with
 |dct r1 k1=>
  cases hy with
  |dct r2 k2=>
   obtain⟨h1,h2⟩:=ql (K:=K) k1 k2 h;exact .inr ⟨_,_,_,_,rfl,rfl,r1,r2,h1,h2⟩
 |non=>exact .inl ⟨_,.non,hy.data (SeqAt.canLay_of_shaped h),h⟩
 |bl b=>exact .inl ⟨_,.bl b,hy.data (SeqAt.canLay_of_shaped h),h⟩
 |int i=>exact .inl ⟨_,.int i,hy.data (SeqAt.canLay_of_shaped h),h⟩
 |str z=>exact .inl ⟨_,.str z,hy.data (SeqAt.canLay_of_shaped h),h⟩
 |lst r1 k1=>exact .inl ⟨_,Rep.data (.lst r1 k1) (SeqAt.canLay_of_shaped h),hy.data (SeqAt.canLay_of_shaped h),h⟩
 |tup r1 k1=>exact .inl ⟨_,Rep.data (.tup r1 k1) (SeqAt.canLay_of_shaped h),hy.data (SeqAt.canLay_of_shaped h),h⟩
theorem Bf(hx:Rep H x d)(hy:Rep H y d)(h:o4 d):Ic K H x y:=by
 unfold o4 at h;split at h
 ·cases hx with
  |tup r1 k1=>
   cases hy with
   |tup r2 k2=>
    cases k1 with
    |cons a1 t1=>
     cases t1 with
     |cons a2 t1=>
      cases t1;cases k2 with
      |cons b1 t2=>
       cases t2 with
       |cons b2 t2=>
        cases t2;exact⟨_,_,_,_,_,_,rfl,rfl,.inl (.inl r1),.inl (.inl r2),wj a1 b1 h.1,wj a2 b2 h.2⟩
 ·cases h
theorem L0:OpJ (Kg K) Ki:=by
 intro B H x y c d res s hx hy e;unfold Ki at e;obtain⟨⟨hc,hp⟩,e2⟩:=cK e;cases e2;subst hc;exact d6 λQ q=>⟨Bf (hx.rep s) (hy.rep s) hp,q⟩
end Mir
namespace L2
open PySem PySem.W PySem.Calls PySem.Spec PyProof.Rows
section
variable{prog:Program}{w:World}{A:Around}{s:Shared}{K:Type} [DecidableEq K]{knd:PySem.KeyKind prog w K}
theorem DQ(hl:s.heap.DictOf knd l kvs)(hb:s.heap.DictOf knd b [])(hls:(l==sysModules)=false)(hbs:(b==sysModules)=false)(hne:kvs≠[]):wpAny (model prog w) A (Builtin.«dict.__eq__» ⟨[.ref l,.ref b],[]⟩) (λfin s'=>fin=.done (.ret (.bool false))/\s'=s) E s:=by
 obtain⟨o,es,ep,ho,hx,hd,hks,hp,hn⟩:=hl;obtain⟨o2,es2,ep2,ho2,hx2,hd2,GC,hp2,hn2⟩:=hb;have e1:es.size=kvs.length:=by rw[<-hp.length];simp
 have e2:es2.size=0:=by have:=hp2.length;simpa using this
 have t1:s.TypeIs (.ref l) "dict":=⟨o,ho,hx.1⟩;have t2:s.TypeIs (.ref b) "dict":=⟨o2,ho2,hx2.1⟩;have hpos : 0<kvs.length:=List.length_pos_iff.mpr hne;show wpAny _ _ (Builtin.Dict.dictSlotArgs "__eq__" ⟨[.ref l,.ref b],[]⟩>>=_) _ _ _;refine zaI ?_;unfold Builtin.Dict.dictSlotArgs;refine zaI (wpAny_notOrdered_dict t1 ?_);show wpAny _ _ (pure (Value.ref l,Value.ref b)) _ _ s;refine zaZ ?_;dsimp only;refine zaI (wpAny_isInstance t2 (b:=true) (by rw[isSubtype_type];kernel_rfl) ?_)
 show wpAny _ _ (Builtin.Dict.samePairs _ l b>>=_) _ _ s;refine zaI ?_;unfold Builtin.Dict.samePairs;have sh:∀(d:Addr) (Q:Unit->Shared->Prop),(d==sysModules)=false->Q () s->wpAny (model prog w) A (Builtin.Dict.showsAll d) Q E s:=λd Q h q=>by
  unfold Builtin.Dict.showsAll;rw[if_neg (by rw[h];exact zam)]
  exact zaZ q
 refine zaI (sh l _ hls ?_);refine zaI (sh b _ hbs ?_);refine zaI (wpAny_dictEntries ho hd ?_);refine zaI (wpAny_dictEntries ho2 hd2 ?_);dsimp only;rw[if_pos (by rw[e1,e2];simp;omega)]
 exact zaI (wpAny_rule (zaZ (zaZ ⟨rfl,rfl⟩)))
theorem DR(hu:A.units<cLine)(hl:s.heap.DictOf knd l kvs)(hb:s.heap.DictOf knd b [])(hls:(l==sysModules)=false)(hbs:(b==sysModules)=false)(q:Q (.bool kvs.isEmpty) s):wpAny (model prog w) A (richCompare .Eq (.ref l) (.ref b)) Q E s:=by
 obtain⟨o,es,ep,ho,hx,_⟩:=id hl;obtain⟨o2,es2,ep2,ho2,hx2,_⟩:=id hb;cases kvs with
 |nil=>exact wd hu hl hb hls hbs rfl (λj v u h=>by simp at h) q
 |cons kv kvs=>
  refine wpAny_richCompare_same_room (op:=.Eq) (T:="dict") ⟨o,ho,hx.1⟩ ⟨o2,ho2,hx2.1⟩ PySem.F.slot_dict_eq ?_ hu;refine wpAny_call_entry PySem.F.slot_dict_eq ⟨o,ho,hx.1⟩ PySem.F.entry_dict_eq ?_ (PySem.F.args_dict_eq_2 _ _);refine za6 (DQ hl hb hls hbs (by simp)) (λfin s' h=>?_) λ_ _ e=>e
  obtain⟨rfl,rfl⟩:=h;exact⟨_,rfl,⟨(λx=>nomatch x),q⟩⟩
end
def Ie:R2:=λx y H Q=>∃(p q:Addr) (kvs:List (Key×V)),x=.ref p/\y=.ref q/\Rd H p (.dK kvs)/\Rd H q (.dK [])/\Q (.bl kvs.isEmpty) H
theorem GF(hu:X.A.units<cLine):OpR X (compareOp .Eq) Ie:=by
 intro pins s σ H x y v u Q I rx ry h;obtain⟨p,q,kvs,rfl,rfl,h1,h2,hq⟩:=h;cases rx;cases ry;obtain⟨_,y1,vs,r1,d1⟩:=(show bR X.prog X.w H s.heap p (.dK kvs)from h1.ok I.hok);obtain⟨_,y2,ws,r2,d2⟩:=(show bR X.prog X.w H s.heap q (.dK [])from h2.ok I.hok);cases r2;have e:vs.isEmpty=kvs.isEmpty:=by cases r1<;>rfl
 exact DR hu d1 d2 y1 y2 ⟨.bl kvs.isEmpty,H,I,by rw[e];rfl,hq⟩
end L2
namespace Mir
open PySem L2
variable [Zc]
def wk:D->D->Option (D×Bool)
 | .dict es,.dict []=>some (.bool es.isEmpty,false)
 |_,_=>none
theorem Kj:OpJ Ie wk:=by
 intro B H x y c d res s hx hy e;unfold wk at e;split at e
 ·cases e
  have hx:=hx.rep s;have hy:=hy.rep s;cases hx with
  |dct r1 k1=>
   cases hy with
   |dct r2 k2=>
    cases k2;refine d6 λQ q=>⟨_,_,_,rfl,rfl,r1,r2,?_⟩
    cases k1<;>exact q
 ·cases e
end Mir
namespace L2
open PySem PySem.W PySem.Calls PySem.Spec PyProof.Rows
section
variable{prog:Program}{w:World}{A:Around}{s:Shared}{K:Type} [DecidableEq K]{knd:PySem.KeyKind prog w K}
theorem DS(hl:s.heap.DictOf knd l kvs)(hb:s.heap.DictOf knd b kws)(hls:(l==sysModules)=false)(hbs:(b==sysModules)=false)(hlen:kvs.length=kws.length)
  (he:∀kv∈kvs,∃(y:Nat) (u:Value),kws[y]?=some (kv.1,u)/\EqP prog w A s kv.2 u):wpAny (model prog w) A (Builtin.«dict.__ne__» ⟨[.ref l,.ref b],[]⟩) (λfin s'=>fin=.done (.ret (.bool false))/\s'=s) E s:=by
 obtain⟨o,es,ep,ho,hx,hd,hks,hp,hn⟩:=hl;obtain⟨o2,es2,ep2,ho2,hx2,hd2,GC,hp2,hn2⟩:=hb;have e1:es.size=kvs.length:=by rw[<-hp.length];simp
 have e2:es2.size=kws.length:=by rw[<-hp2.length];simp
 have t1:s.TypeIs (.ref l) "dict":=⟨o,ho,hx.1⟩;have t2:s.TypeIs (.ref b) "dict":=⟨o2,ho2,hx2.1⟩;show wpAny _ _ (Builtin.Dict.dictSlotArgs "__ne__" ⟨[.ref l,.ref b],[]⟩>>=_) _ _ _;refine zaI ?_;unfold Builtin.Dict.dictSlotArgs;refine zaI (wpAny_notOrdered_dict t1 ?_);show wpAny _ _ (pure (Value.ref l,Value.ref b)) _ _ s;refine zaZ ?_;dsimp only;refine zaI (wpAny_isInstance t2 (b:=true) (by rw[isSubtype_type];kernel_rfl) ?_)
 show wpAny _ _ (Builtin.Dict.samePairs _ l b>>=_) _ _ s;refine zaI ?_;unfold Builtin.Dict.samePairs;have sh:∀(d:Addr) (Q:Unit->Shared->Prop),(d==sysModules)=false->Q () s->wpAny (model prog w) A (Builtin.Dict.showsAll d) Q E s:=λd Q h q=>by
  unfold Builtin.Dict.showsAll;rw[if_neg (by rw[h];exact zam)]
  exact zaZ q
 refine zaI (sh l _ hls ?_);refine zaI (sh b _ hbs ?_);refine zaI (wpAny_dictEntries ho hd ?_);refine zaI (wpAny_dictEntries ho2 hd2 ?_);dsimp only;rw[if_neg (by rw[e1,e2,hlen];simp)]
 refine zaI (wpAny_dictEpoch ho hd ?_);refine zaI ?_;rw[ou];refine wpAny_forIn_list _ (λrest c s'=>s'=s/\c=(none,())/\∃i,rest=List.range' i (es.size-i)/\i<=es.size) _ ?_ ?_ _ _ ⟨rfl,rfl,0,by simp,Nat.zero_le _⟩
 ·rintro x rest c s' ⟨rfl,rfl,i,hr,hi⟩
  have hi2:i<es.size:=by
   rcases Nat.lt_or_ge i es.size with h|h
   ·exact h
   ·rw[show es.size-i=0 by omega]at hr;cases hr
  rw[show es.size-i=(es.size-(i+1))+1 by omega,List.range'_succ]at hr
  injection hr with hx1 hr1
  subst hx1;refine zaI (wpAny_dictEntries ho hd ?_);rw[Array.getElem?_eq_getElem hi2];dsimp only;obtain⟨kv,hkv,is1,ev⟩:=pairs_at hp x es[x] (by rw[Array.getElem?_toList];exact Array.getElem?_eq_getElem hi2)
  obtain⟨k',is2,eh⟩:=hks es[x] (Array.getElem_mem hi2);have ek:k'=kv.1:=knd.inj _ _ _ is2 is1;obtain⟨y,u,hkw,heq⟩:=he kv (zaj hkv);have hy:y<es2.size:=by rw[e2];exact(zac hkw).1
  obtain⟨kw,Nf,is3,ev2⟩:=pairs_at hp2 y es2[y] (by rw[Array.getElem?_toList];exact Array.getElem?_eq_getElem hy)
  obtain rfl:(kv.1,u)=kw:=zaQ (hkw.symm.trans Nf);have hf:es2.findIdx? (λe=>knd.is kv.1 e.key)=some y:=by
   have h:=(hp2.findIdx kv.1).trans (tW hn2 hkw rfl);rw[<-h];obtain⟨l⟩:=es2;simp
  refine zaI (wpAny_holding ?_);rw[eh,ek];refine zaI (wpAny_dictFind_of is1 ho2 hd2 GC ?_);rw[hf];dsimp only;refine zaI (wpAny_dictEntries ho2 hd2 ?_);rw[Array.getElem?_eq_getElem hy];dsimp only;refine wpAny_holding ?_;rw[ev,ev2];refine heq _ _ ?_;rw[if_neg (by simp)]
  refine zaI (wpAny_dictEpoch ho hd ?_);rw[if_neg (by simp)]
  exact zaZ ⟨rfl,rfl,x+1,by rw[hr1],hi2⟩
 ·rintro c s' ⟨rfl,rfl,_⟩
  exact zaZ (zaZ ⟨rfl,rfl⟩)
end
def L1(K:zag)(H:Hp)(x y:V):Prop:=∃(p q:Addr) (kvs kws:List (Key×V)),x=.ref p/\y=.ref q/\Rd H p (.dK kvs)/\Rd H q (.dK kws)/\kvs.length=kws.length/\∀kv∈kvs,∃(j:Nat) (u:V),kws[j]?=some (kv.1,u)/\rX K H kv.2 u
def Kk(K:zag):R2:=λx y H Q=>L1 K H x y/\Q (.bl false) H
theorem kvm:∀{kvs:List (κ×V)} {vs:List (κ×Value)},KV kvs vs->∀b∈vs,∃a∈kvs,a.1=b.1/\RelV a.2 b.2
 | [],[],_,b,hb=>by cases hb
 |a::kvs,c::vs,h,b,hb=>by
  cases h with
  |cons h1 h2=>
   rcases zaf hb with rfl|hb
   ·exact⟨a,zas,h1.1,h1.2⟩
   ·obtain⟨x,hx,e⟩:=kvm h2 b hb
    exact⟨x,zak _ hx,e⟩
theorem DT:∀{kvs:List (κ×V)} {vs:List (κ×Value)},KV kvs vs->∀(j:Nat) (a : κ×V),kvs[j]?=some a->∃b,vs[j]?=some b/\a.1=b.1/\RelV a.2 b.2
 | [],[],_,j,b,e=>by simp at e
 |a::kvs,c::vs,h,0,b,e=>by
  cases h with
  |cons h1 h2=>cases(show some a=some b by simpa using e);exact⟨c,rfl,h1.1,h1.2⟩
 |a::kvs,c::vs,h,j+1,b,e=>by
  cases h with
  |cons h1 h2=>simpa using DT h2 j b (by simpa using e)
theorem Kl(hu:X.A.units+100<cLine):OpR X (compareOp .NotEq) (Kk X.K):=by
 intro pins s σ H x y v u Q I rx ry h;obtain⟨⟨p,q,kvs,kws,rfl,rfl,h1,h2,hl,he⟩,hq⟩:=h;cases rx;cases ry;obtain⟨_,y1,vs,r1,d1⟩:=(show bR X.prog X.w H s.heap p (.dK kvs)from h1.ok I.hok);obtain⟨_,y2,ws,r2,d2⟩:=(show bR X.prog X.w H s.heap q (.dK kws)from h2.ok I.hok);show wpAny _ _ (richCompare .NotEq (.ref p) (.ref q)) _ _ _;obtain⟨o,es,ep,ho,hx,_⟩:=id d1;obtain⟨o2,es2,ep2,ho2,hx2,_⟩:=id d2;refine wpAny_richCompare_same_room (op:=.NotEq) (T:="dict") ⟨o,ho,hx.1⟩ ⟨o2,ho2,hx2.1⟩ PySem.F.slot_dict_ne ?_ (by omega)
 refine wpAny_call_entry PySem.F.slot_dict_ne ⟨o,ho,hx.1⟩ PySem.F.entry_dict_ne ?_ (PySem.F.args_dict_ne_2 _ _);refine za6 (DS (A:=X.A.in1) d1 d2 y1 y2 (by rw[<-r1.length,<-r2.length];exact hl) λb hb=>?_) (λfin s' h=>?_) λ_ _ e=>e
 ·obtain⟨a,ha,e1,e2⟩:=kvm r1 b hb
  obtain⟨j,u,hj,lk⟩:=he a ha;obtain⟨c,hc,e3,e4⟩:=DT r2 j _ hj;refine⟨j,c.2,?_,lk.eqP I e2 e4 (by show X.A.units+1+64<cLine;omega)⟩
  rw[hc,<-e1];obtain⟨c1,c2⟩:=c;have:a.1=c1:=e3;rw[this]
 ·obtain⟨rfl,rfl⟩:=h
  exact⟨_,rfl,(λx=>nomatch x),.bl false,H,I,rfl,hq⟩
theorem GG{X:Cx}{K:zag}(h:X.K=K){k:Nat}(hr:dh k X.A):OpR X (compareOp .NotEq) (Kk K):=h▸Kl (by have:=hr.un;omega)
end L2
namespace Mir
open PySem L2
variable [Zc]
def L3(es fs:List (D×D)):Prop:=es.length=fs.length/\∀p∈es,∃j:Nat,fs[j]?=some p/\SeqAt.shaped p.2=true
def DU:D->D->Option (D×Bool):=λc d=>match c,d with
 | .dict es,.dict fs=>cIf (L3 es fs) (some (.bool false,false)) none
 |_,_=>none
theorem wm:∀{kvs:List (Key×V)} {es:List (D×D)},a0 H kvs es->∀a∈kvs,∃p∈es,l7 a.1 p.1/\Rep H a.2 p.2
 |_,_,.nil,a,ha=>by cases ha
 |_,_,.cons hk hv t,a,ha=>by
  rcases zaf ha with rfl|ha
  ·exact⟨_,zas,hk,hv⟩
  ·obtain⟨p,hp,e⟩:=wm t a ha
   exact⟨p,zak _ hp,e⟩
theorem wo:∀{kvs:List (Key×V)} {es:List (D×D)},a0 H kvs es->∀(j:Nat) (p:D×D),es[j]?=some p->∃a,kvs[j]?=some a/\l7 a.1 p.1/\Rep H a.2 p.2
 |_,_,.nil,j,p,e=>by simp at e
 |_,_,.cons hk hv t,0,p,e=>by cases(zaQ (show some _=some p by simpa using e));exact⟨_,rfl,hk,hv⟩
 |_,_,.cons hk hv t,j+1,p,e=>by simpa using wo t j p (by simpa using e)
theorem L4:OpJ (Kk K) DU:=by
 intro B H x y c d res s hx hy e;unfold DU at e;split at e
 ·rename_i es fs
  obtain⟨hp,e2⟩:=cK e;cases e2;have hx:=hx.rep s;have hy:=hy.rep s;cases hx with
  |dct r1 k1=>
   cases hy with
   |dct r2 k2=>
    refine d6 λQ q=>⟨⟨_,_,_,_,rfl,rfl,r1,r2,by rw[k1.length,k2.length];exact hp.1,λa ha=>?_⟩,q⟩
    obtain⟨p,hm,e1,e2⟩:=wm k1 a ha;obtain⟨j,hj,sh⟩:=hp.2 p hm;obtain⟨b,hb,e3,e4⟩:=wo k2 j p hj;have ek:a.1=b.1:=wg e1 e3;exact⟨j,b.2,by rw[hb,ek],p.2,e2.data (SeqAt.canLay_of_shaped sh),e4.data (SeqAt.canLay_of_shaped sh),sh⟩
 ·cases e
end Mir
namespace L2
open PySem PySem.W PySem.Calls PySem.Spec PyProof.Rows
section
variable{α β:Type}
def ll(n:Nat)(R : α->Prop):KasT α->Prop
 | .ret a=>R a
 | .ask i j k=>i<n/\j<n/\∀b,ll n R (k b)
end
def PmA(n:Nat)(p:Array Nat):Prop:=p.Perm (List.range n).toArray
def DV(h:Heap)(v:Value)(p:Int×Int):Prop:=∃a o n t u,v=.ref a/\h.get? a=some o/\o.cls=.type "tuple"/\o.data=.seq #[.int p.1 t,.int p.2 u] n
inductive eS(h:Heap):List Value->List (Int×Int)->Prop
 |nil:eS h [] []
 |cons {v p vs ps}:DV h v p->eS h vs ps->eS h (v::vs) (p::ps)
def L5(H:Hp)(y:V)(p:Int×Int):Prop:=∃a,y=.ref a/\H a=some (.tup [.int p.1,.int p.2])
inductive yc(H:Hp):List V->List (Int×Int)->Prop
 |nil:yc H [] []
 |cons {v p vs ps}:L5 H v p->yc H vs ps->yc H (v::vs) (p::ps)
end L2
namespace Mir
open PySem L2
section
variable [Zc]
def pairsOf:List D->Option (List (Int×Int))
 | []=>some []
 | .tuple [.int a,.int b]::ds=>(pairsOf ds).map ((a,b)::·)
 |_=>none
def pD(p:Int×Int):D:=.tuple [.int p.1,.int p.2]
end
end Mir
namespace L2
open PySem PySem.W PySem.Calls PySem.Spec PyProof.Rows
def leT(x y:Str):Bool:=decide (¬y.cps.toList<x.cps.toList)
def du(zs:List Str):List Str:=zs.mergeSort leT
theorem Bg(a b c:Str)(h1:leT a b=true)(h2:leT b c=true):leT a c=true:=by
 unfold leT at*;rw[decide_eq_true_eq]at*;exact λh=>by
  rcases PyProof.Rows.strKind.negTrans c.cps.toList b.cps.toList a.cps.toList (by simpa using h)with h|h
  ·exact h2 (by simpa using h)
  ·exact h1 (by simpa using h)
theorem Bh(a b:Str):(leT a b||leT b a)=true:=by
 unfold leT;rw[Bool.or_eq_true,decide_eq_true_eq,decide_eq_true_eq]
 by_cases h:b.cps.toList<a.cps.toList
 ·exact Or.inr λz=>List.lt_irrefl _ (List.lt_trans h z)
 ·exact Or.inl h
theorem DW(a b:Str)(h1:leT a b=true)(h2:leT b a=true):a=b:=by
 unfold leT at*;rw[decide_eq_true_eq]at*;have e:a.cps.toList=b.cps.toList:=List.le_antisymm (List.not_lt.mp h1) (List.not_lt.mp h2);cases a;cases b
 exact congrArg Str.mk (Array.toList_inj.mp e)
theorem lI(zs:List Str):(du zs).Perm zs:=List.mergeSort_perm zs leT
theorem rY(zs:List Str):(du zs).length=zs.length:=(lI zs).length_eq
theorem ye(zs:List Str):(du zs).Pairwise (λa b=>leT a b=true):=List.pairwise_mergeSort Bg Bh zs
theorem DX(hp:ys.Perm zs)(hs:ys.Pairwise (λa b=>leT a b=true)):ys=du zs:=List.Perm.eq_of_pairwise (λa b _ _=>DW a b) hs (ye zs) (hp.trans (lI zs).symm)
def Bi:Value->Str
 | .str x _=>x
 |_=>⟨#[]⟩
def nK(v:Value):Prop:=∃z t,v=.str z t
theorem mapM_first_strs:∀{vs:List Value},(∀v∈vs,nK v)->vs.mapM firstOfTuple'=pure (vs.map λ_=>none)
 | [],_=>by simp
 |v::vs,h=>by
  obtain⟨z,t,rfl⟩:=h v zas;rw[List.mapM_cons,show firstOfTuple' (.str z t)=pure none from rfl,mapM_first_strs λv hv=>h v (zak _ hv)];simp
theorem mapM_typeOf_strs:∀{vs:List Value},(∀v∈vs,nK v)->vs.mapM typeOf=pure (vs.map λ_=>Value.type "str")
 | [],_=>by simp
 |v::vs,h=>by
  obtain⟨z,t,rfl⟩:=h v zas;rw[List.mapM_cons,mapM_typeOf_strs λv hv=>h v (zak _ hv)]
  show(pure (Value.type "str")>>=λb=>pure _>>=λbs=>pure (b::bs))=_
  simp
theorem keyKind_strs(hI:∀v∈v₁::v₂::vs,nK v):keyKind' (v₁::v₂::vs).toArray=pure oneType':=by
 rw[keyKind'_eq,List.mapM_toArray,mapM_first_strs hI];simp only[map_pure,pure_bind];rw[if_neg (by simp),if_neg (by simp)]
 rw[oneTypeOnly'_eq,List.mapM_toArray,mapM_typeOf_strs hI];simp only[map_pure,pure_bind];have hall:((List.map (λ_=>Value.type "str") (v₁::v₂::vs)).toArray.all λx=>x==Value.type "str")=true:=by
  simp only[List.all_toArray,List.all_map,List.all_eq_true];intro _ _;rfl
 have h0:(List.map (λ_=>Value.type "str") (v₁::v₂::vs)).toArray[0]?=some (Value.type "str"):=by simp
 rw[h0];simp only[pure_bind,hall,if_true,Option.isSome_some]
theorem wq(h:Vals (zs.map V.str) us):us.map Bi=zs/\∀v∈us,nK v:=by
 induction zs generalizing us with
 |nil=>cases h;exact⟨rfl,λv hv=>by cases hv⟩
 |cons z zs ih=>
  cases h with
  |cons r rr=>
   obtain⟨h1,h2⟩:=ih rr;obtain⟨t,rfl⟩:=r;refine⟨by rw[zaz,h1];rfl,λv hv=>?_⟩
   rcases zaf hv with rfl|hv
   ·exact⟨_,_,rfl⟩
   ·exact h2 v hv
theorem rZ:∀{us:List Value},(∀v∈us,nK v)->Vals ((us.map Bi).map V.str) us
 | [],_=>.nil
 |v::us,h=>by
  obtain⟨z,t,rfl⟩:=h v zas;exact .cons ⟨t,rfl⟩ (rZ λv hv=>h v (zak _ hv))
theorem oM(hv:Vals (zs.map V.str) vs)(hp:xs.Perm (pairsOf vs))(hs:SortedToK strKind xs (pairsOf vs).size):Vals ((du zs).map V.str) (xs.map (·.2)).toList:=by
 obtain⟨e,hi⟩:=wq hv;have hp':xs.toList.Perm (vs.zip vs):=by
  have:=Array.perm_iff_toList_perm.mp hp
  rwa[pairsOf_toList]at this
 have hm:(xs.map (·.2)).toList.Perm vs:=by
  rw[Array.toList_map];have:=hp'.map (·.2)
  rwa[List.map_snd_zip (zap _)]at this
 have hi':∀v∈(xs.map (·.2)).toList,nK v:=λv h=>hi v (hm.mem_iff.mp h)
 have key:∀q∈xs.toList,q.1=q.2:=λq hq=>by
  have:=hp'.mem_iff.mp hq;obtain⟨i,hi,e⟩:=List.getElem_of_mem this;rw[<-e,List.getElem_zip]
 have es:(xs.map (·.2)).toList.map Bi=du zs:=by
  refine DX ?_ ?_
  ·rw[<-e];exact hm.map _
  ·rw[List.pairwise_map,List.pairwise_iff_getElem]
   intro i j hi1 hj1 hij;have hi2:i<xs.size:=by simpa using hi1
   have hj2:j<xs.size:=by simpa using hj1
   have h1:=hs i j (Nat.le_of_lt hij) (by rw[<-hp.size_eq];exact hj2)
   have kk:∀k (hk:k<xs.size),KK strKind xs k=(Bi (xs[k]).2).cps.toList:=λk hk=>by
    unfold KK;rw[Array.getElem?_eq_getElem hk];have hmem:xs[k]∈xs.toList:=by simp
    obtain⟨z,t,ez⟩:=hi' (xs[k]).2 (by rw[Array.toList_map];exact List.mem_map_of_mem hmem)
    show(strKind.keyOf (xs[k]).1).getD _=_;rw[key _ hmem,ez];rfl
   rw[kk i hi2,kk j hj2]at h1;unfold leT;simp only[Array.toList_map,List.getElem_map,Array.getElem_toList];have h3:strKind.blt (Bi (xs[j]).2).cps.toList (Bi (xs[i]).2).cps.toList=false:=h1;simpa using h3
 rw[<-es];exact rZ hi'
end L2
namespace Mir
open PySem L2
variable [Zc]
theorem wt:∀zs:List Str,aR B (zs.map V.str) (zs.map PyData.str)
 | []=>.nil
 |z::zs=>.cons (.str z) (wt zs)
theorem kJ:∀zs:List Str,lb (zs.map PyData.str)=some zs
 | []=>rfl
 |z::zs=>by
  show(lb (zs.map PyData.str)).map (z::·)=_
  rw[kJ zs];rfl
end Mir
namespace L2
open PySem PySem.W PySem.Calls PySem.Spec PyProof.Rows
section
variable{prog:Program}{w:World}{A:Around}{E:Value->Shared->Prop}{s:Shared}{T:String}{r d:Addr}{n:Nat}{P:Nat->Value->Prop}{OK:Heap->Prop}
def Got(s:Shared)(n:Nat)(P:Nat->Value->Prop)(x:Result)(s':Shared):Prop:=∃(h:Heap) (k:Nat) (xs:Array Value) (c:Nat),x=.ok (.ret (.ref s.heap.objs.size))/\s'={s with heap:=h,toks:=k}/\(∀b o,s.heap.get? b=some o->h.get? b=some o)/\h.get? s.heap.objs.size=some {cls:=.type "list",dict:=none,data:=.seq xs c,slots:=#[]}/\ItemsOf P xs n
theorem wu(K:KdlSrc prog w T r d n P OK)(hh:A.handled=none)(hok:OK s.heap)(hn:n<=sizeLine)
  (h:∀(h':Heap) (k:Nat) (xs:Array Value),(∀b o,s.heap.get? b=some o->h'.get? b=some o)->s.heap.objs.size<h'.objs.size->ItemsOf P xs n->R xs.toList {s with heap:=h',toks:=k}):wpAny (model prog w) A (collect (.ref r)) R E s:=by
 obtain⟨l1,l2⟩:=K.there _ hok;have out:∀{v:Value} {s':Shared},Got s n P (.ok (.ret v)) s'->wpAny (model prog w) A (match v with
   | .ref a=>(do match(<-load a).data with
    | .seq xs _=>pure xs.toList
    |_=>unsupported "internal:collect")
   |_=>unsupported "internal:collect") R E s':=fun{v s'} g=>by
  obtain⟨h',k,xs,c,e,rfl,kp,hS,hi⟩:=g;cases e;exact zaI (wpAny_load hS (zaZ (h h' k xs kp (zaq hS) hi)))
 unfold collect;refine zaI (wpAny_runValue (codeAny_builtin entry_proto_collect' ?_));rw[Around.under_plainId PySem.F.plain_proto_collect _];refine zaI (m:=newList []) (wpAny_newObj_type (zaZ ⟨plainId_quiet PySem.F.plain_list_iadd _,codeAny_builtin entry_list_iadd' ?_⟩));rw[Around.under_plainId PySem.F.plain_list_iadd _];refine za6 (kdl_extend (A:=A) (R:=Got s n P) K hh (K.keep _ _ hok λb _ o e=>zar _ e) s.heap.objs.size (Nat.ne_of_gt l1) (Nat.ne_of_gt l2) (.ref s.heap.objs.size) 0 (zaL _ rfl)
  (λh' k xs c kp hS hi=>⟨h',k,xs,c,rfl,rfl,λb o e=>kp b o (zaS (zaq e)) (zar _ e),hS,hi⟩) hn) (λfin s' x=>?_) λe s' x=>?_
 ·cases fin with
  |done f=>
   obtain⟨_,_,_,_,e,_⟩:=id x;cases e;exact out x
  |again c=>exact⟨x.1,codeAny_mono x.2 λy s2 z=>by
    obtain⟨_,_,_,_,e,_⟩:=id z;cases e;exact out z⟩
 ·obtain⟨_,_,_,_,e',_⟩:=x
  cases e'
end
def wx:List V->Hp->VK->Prop:=λxs H Q=>∃(a:Addr) (kvs:List (Key×V)) (zs:List Str),xs=[V.ref a]/\Rd H a (.dK kvs)/\(kvs.map λq=>kV q.1)=zs.map V.str/\zs.length<64/\∀l,H l=none->Q (.ref l) (upd H l (.lst ((du zs).map V.str)))
theorem tZ(hc:X.calm=true):dZ X (.builtin "sorted") wx:=by
 intro pins s σ H xs us Q I r h;obtain⟨a,kvs,zs,rfl,ha,hk,hz,q⟩:=h;cases r with
 |cons r1 r=>
  cases r;obtain rfl:=r1;obtain⟨z,hd,vs,rel,dd⟩:=oq I.hok ha;obtain⟨ep,hat⟩:=dd.dictAt;refine Calls.call_function_entry kind_sorted plain_sorted entry_sorted (args_sorted1 _) ?_
  unfold Builtin.«sorted»;refine zaI (m:=checkCount "sorted" 1 1 _) (zaZ ?_);refine zaI (wu (A:=X.A.in1) (PySem.W.kdl_dict (knd:=bU X.prog X.w) (kvs:=vs) (ep:=ep) hd) (I.ok.hd hc) hat (by rw[<-rel.length];exact z) λh' tk acc hkp hlt hacc=>?_)
  have kv:Vals (zs.map V.str) acc.toList:=by
   rw[<-hk];exact AV acc.toList rel (by rw[Array.length_toList];exact hacc.1) λj u e=>hacc.2 j u (by rw[<-Array.getElem?_toList];exact e)
  have hl:acc.toList.length=zs.length:=by rw[<-kv.length,zal]
  obtain⟨_,hi⟩:=wq kv;refine zaI (wpAny_newList ?_ (by rw[hl];simp only[sizeLine];omega))
  have hoL:(h'.push (seqObj "list" acc.toList.toArray 0)).get? h'.objs.size=some (seqObj "list" acc.toList.toArray 0):=zaL _ rfl;refine zaI (wpAny_holding (wpAny_call_entry slot_list_sort ⟨_,hoL,rfl⟩ entry_list_sort (list_sort_treeK strKind_oneLt hoL (λp hp=>?_) (λv₁ v₂ rest e=>?_) (by omega) λst' hp hs=>⟨_,rfl,?_⟩) (args_list_sort _)))
  ·rw[pairsOf_toList]at hp
   obtain⟨i,hi',e⟩:=List.getElem_of_mem hp;rw[List.getElem_zip]at e;obtain⟨z,t,ez⟩:=hi (acc.toList[i]'(by rw[List.length_zip]at hi';omega)) (List.getElem_mem _)
   exact⟨z.cps.toList,by rw[<-e,ez]⟩
  ·rw[e]at hi
   exact keyKind_strs hi
  ·refine zaZ ⟨_,rfl,?_⟩
   obtain⟨c,Ng⟩:=sortedHeap_at (h:=h'.push (seqObj "list" acc.toList.toArray 0)) (a:=h'.objs.size) (vs:=acc.toList) (out:=(arrOf st').map (·.2)) hoL
   exact Cm (acc:=(arrOf st').map (·.2)) I (by rw[zal,rY];simp only[sizeLine];omega) q (Nat.le_of_lt hlt) (λb o e=>by
    have:=hkp b o e;have lt:=zaq this;rw[sortedHeap_old (zaS lt) (by rw[size_push'];exact Nat.lt_succ_of_lt lt),Heap.get?_push_ne _ _ _ (zaS lt)]
    exact this) Ng (oM kv hp hs)
end L2
namespace Mir
open PySem L2
variable [Zc]
def j8:List D->Option (D×Bool)
 | [.dict es]=>(lb (es.map (·.1))).bind λzs=>cIf (zs.length<64) (some (.list ((du zs).map .str),true)) none
 |_=>none
theorem Bj:∀{kvs:List (Key×V)} {es:List (D×D)} {zs:List Str},a0 B kvs es->lb (es.map (·.1))=some zs->(kvs.map λq=>kV q.1)=zs.map V.str:=fun{kvs es zs} r e=>by
 exact vW (qe r) e
theorem Bl:kZ wx j8:=by
 intro B H vs ds res s h e;unfold j8 at e;split at e
 ·obtain⟨zs,e1,e⟩:=zaa e
  obtain⟨hz,e⟩:=cK e;cases e;obtain⟨v,rfl,hh⟩:=gE h;obtain⟨a,kvs,rfl,r1,rk⟩:=hh.dict s;exact⟨_,wt _,λQ q=>⟨a,kvs,zs,rfl,r1,Bj rk e1,hz,q⟩⟩
 ·cases e
end Mir
namespace aL
open PySem
structure Row where
 key:Int
 above:Option Str
 mark:Bool
 below:List Str
section
variable{α:Type} [DecidableEq α]
theorem ja:∀(l k:List α),l.Nodup->(∀x∈l,x∈k)->l.length<=k.length
 | [],_,_,_=>Nat.zero_le _
 |a::l,k,h,hs=>by
  have ha:=hs a zas;have hn:=List.nodup_cons.mp h;have:=ja l (k.erase a) hn.2 λx hx=>(List.mem_erase_of_ne (λe=>hn.1 (by rw[<-e];exact hx))).mpr (hs x (zak _ hx))
  rw[List.length_erase_of_mem ha]at this;have : 0<k.length:=List.length_pos_of_mem ha;rw[zaw];omega
end
variable(keys:List Str)(row:Str->Row)
def Ig:Nat->Option Str->Option Str
 |0,x=>x
 |_+1,none=>none
 |k+1,some n=>if n∈keys then Ig k (row n).above else some n
def reach:Nat->Str->Bool
 |0,_=>false
 |k+1,n=>if n∈keys then(match(row n).above with
  |none=>true
  |some a=>reach k a)else false
variable(lt:Int->Str->Int->Str->Bool)
structure Nl(aq:List Str):Prop where
 aq:aq.Perm (keys.filter λn=>(row n).above.isNone)
 mark:∀n∈keys,(row n).above=none->(row n).mark=false
 up:∀n∈keys,∀a,(row n).above=some a->a∈keys/\(row a).below.count n=1/\lt (row n).key n (row a).key a=false
 down:∀n∈keys,∀(i:Nat) (l:Str),(row n).below[i]?=some l->l∈keys/\(row l).above=some n/\(i:Int)-(if(row l).mark then 1 else 0)<=((row l).below.length:Int)
 come:∀n∈keys,Ig keys row keys.length (some n)=none
structure Nm(aq:List Str):Prop where
 Nv:∀n∈aq,aq.count n=1/\n∈keys/\(row n).above=none
 top2:∀n∈keys,(row n).above=none->n∈aq
 mark:∀n∈keys,(row n).above=none->(row n).mark=false
 up:∀n∈keys,∀a,(row n).above=some a->a∈keys/\n∈(row a).below/\lt (row n).key n (row a).key a=false
 down:∀n∈keys,∀(i:Nat) (l:Str),(row n).below[i]?=some l->l∈keys/\l∉(row n).below.take i/\(row l).above=some n/\(i:Int)-(if(row l).mark then 1 else 0)<=((row l).below.length:Int)
 come:∀n∈keys,reach keys row (keys.length+1) n=true
end aL
set_option maxHeartbeats 4000000
namespace K79
open PySem L2 Mir
def Bm:SN :=
  (ik (d9 (ar (oJ aZ) (ar (nO k9) aZ))))
def kK:FN:=fnS 0 0 Bm
def dz:SM :=
  (gM (lC (bc (mOp mr (ai 3) (ai 2)))
  m9
  iZ)
  (la 2 (mOp dP (mOp gIx (ai 1) (mC (.int 1))) (ai 3)) (ai 3)))
def qS:EM :=
  (tG (mf (jr 2 (mCB eK (aF (mOp gIx (ai 0) (mC (.int 1))) a9))))
  (tG (zL (tQ (gJ 1) 1) (mgN 3)
  (tG (eIf (bc (mOp mr (ai 3) (ai 2)))
  (fun ρ=>some (.er "Twice" ρ))
  (mf iZ))
  (mf (la 2 (mOp dP (mOp gIx (ai 1) (mC (.int 1))) (ai 3)) (ai 3)))))
  (mf (jq (l8 (aF (mOp ib (mOp gIx (ai 0) (mC (.int 0))) (mOp gIx (ai 1) (mC (.int 0)))) (aF (ai 2) a9)))))))
def gN:List D->Option ((D×Bool) ⊕ Str):=fnX 2 2 qS
def lr:Rho->Option (D×D) :=
  (k7 (jr 2 (mCB eK (aF (mOp gIx (ai 0) (mC (.int 1))) a9)))
  (k7 (rR (tQ (gJ 1) 1) (mgN 3)
  dz)
  (nI (mOp ib (mOp gIx (ai 0) (mC (.int 0))) (mOp gIx (ai 1) (mC (.int 0)))) 2)))
def eC:List D->Option (D×D):=fnD 2 2 lr
def fC:PM :=
  (mOp mr (ai 0) (ai 1))
def t5:SN :=
  (bA (cD (nLit .none) (ngN 4))
  (bA (qk 4 (λc=>decide (c="Twice")) eC gN (ar (aS 0) (ar (aS 1) aZ)))
  (bA (iA (nTo (bc (mCB FA (aF (qf [("_law_plain",2)] (gJ 3) jo fC) a9))))
  (ik (d9 (ar (nO (mOp gIs (ai 4) (mC .none))) (ar (nLit .none) (ar (aS 2) aZ)))))
  gq)
  (bA (cD (nO (mCB eK (aF (ai 2) a9))) (ngN 5))
  (bA (gH (zN (aS 5) (ar (aS 3) aZ)))
  (ik (d9 (ar (nO (mOp js (ai 4) (mC .none))) (ar (aS 4) (ar (aS 5) aZ))))))))))
def fD:FN:=fnS 4 2 t5
def t6:SM :=
  (gM (lC (bc (mOp gEq (mOp eI (ai 0) (mC (.int 3))) (mC (.int 0))))
  (jq (mOp xl (mOp eI (mOp iN (ai 0) (mC (.int 3))) (mC (.int 5))) (mC (.int 2))))
  iZ)
  (gM (lC (bc (mOp gEq (mOp eI (ai 0) (mC (.int 3))) (mC (.int 1))))
  (jq (mOp xl (mOp eI (mOp iN (ai 0) (mC (.int 3))) (mC (.int 61))) (mC (.int 30))))
  iZ)
  (jq (mOp xl (mOp eI (mOp iN (ai 0) (mC (.int 3))) (mOp ib (mOp xA (mC (.int 2)) (mOp AB (mC (.int 10)) (mC (.int 59)))) (mC (.int 1)))) (mOp AB (mC (.int 10)) (mC (.int 59)))))))
def eD:List D->Option (D×Bool):=fnM 1 0 t6
def qT:SM :=
  (gM (jr 1 (mC (.str "abcdefghijklmnopqrstuvwxyz")))
  (gM (jr 2 (mOp ib (mOp tS (ai 1) (mOp eI (mOp iN (ai 0) (mC (.int 52))) (mC (.int 26)))) (mOp tS (ai 1) (mOp eI (mOp iN (ai 0) (mC (.int 2))) (mC (.int 26))))))
  (gM (lC (bc (mOp gEq (mOp eI (ai 0) (mC (.int 2))) (mC (.int 1))))
  (jr 2 (mOp ib (ai 2) (mOp gIx (vt (aF (mC (.str "a")) (aF (mC (.str "zz")) (aF (mC (.str "aaa")) (aF (mC (.str "zzzz")) (aF (mC (.str "bbbbb")) (aF (mC (.str "zzzzzz")) a9))))))) (mOp eI (mOp iN (ai 0) (mC (.int 2))) (mC (.int 6))))))
  iZ)
  (jq (ai 2)))))
def dR:List D->Option (D×Bool):=fnM 1 2 qT
def ox:PM :=
  (sX wb wb (mC (.str "a")) (ai 0) (mC (.str "z")))
def Bo:SM :=
  (gM (lC (mOr (vp (bc (v7 "str" (ai 0)))) (mOr (bc (mOp gLt (mCB iO (aF (ai 0) a9)) (mC (.int 1)))) (bc (mOp gGt (mCB iO (aF (ai 0) a9)) (mC (.int 8))))))
  (jq (mC (.bool false)))
  iZ)
  (jq (mCB Fz (aF (mLC [] (JY (ai 0)) jo ox) a9))))
def gZ:List D->Option (D×Bool):=fnM 1 0 Bo
def wy:Rho->Option (D×D) :=
  (k7 (lC (vp (bc (cb gZ (aF (ai 1) a9))))
  m9
  iZ)
  (k7 (lC (bc (mOp mr (ai 1) (mOp gIx (ai 0) (mC (.int 1)))))
  m9
  iZ)
  (k7 (jr 3 (mCB eK (aF (mOp gIx (ai 0) (mC (.int 1))) a9)))
  (k7 (la 3 (l8 (aF (ai 2) (aF (mC .none) (aF (mC (.bool false)) (aF (l8 a9) a9))))) (ai 1))
  (nI (mOp ib (mOp gIx (ai 0) (mC (.int 0))) (vt (aF (ai 1) a9))) 3)))))
def jz:List D->Option (D×D):=fnD 3 1 wy
def t7:SM :=
  (lC (bc (mOp mv (ai 1) (mOp gIx (ai 0) (mC (.int 1)))))
  m9
  iZ)
def dc:List D->Option (D×Bool):=fnM 2 0 t7
def jb:Rho->Option (Bool×Rho) :=
  (bc (mOp gIx (mOp dP (ai 0) (ai 3)) (mC (.int 2))))
def jc:SM :=
  (gM (vz (Cz 2 me (aF (ai 3) a9)))
  (jr 3 (mOp gIx (mOp dP (ai 0) (ai 3)) (mC (.int 1)))))
def qm:SM :=
  (gM (jr 2 (vt (aF (ai 1) a9)))
  (gM (jr 3 (mOp gIx (mOp dP (ai 0) (ai 1)) (mC (.int 1))))
  (gM (gC jb
  jc 1000000)
  (jq (ai 2)))))
def fE:List D->Option (D×Bool):=fnM 2 2 qm
def wz:Rho->Option (Bool×Rho) :=
  (bc (mOp gNe (ai 0) (ai 1)))
def wA:PM :=
  (ai 0)
def Bp:SM :=
  (jq (l8 (aF (mOp gIx (ai 0) (mC (.int 0))) (aF (mOp gIx (ai 0) (mC (.int 1))) (aF (mOp gIx (ai 0) (mC (.int 2))) (aF (mCB xU (aF (mLC [("name",1)] (Ay (mOp gIx (ai 0) (mC (.int 3)))) wz wA) a9)) a9))))))
def kL:List D->Option (D×Bool):=fnM 2 0 Bp
def DY:SM :=
  (jq (l8 (aF (mOp gIx (ai 0) (mC (.int 0))) (aF (mC .none) (aF (mC (.bool false)) (aF (mOp gIx (ai 0) (mC (.int 3))) a9))))))
def je:List D->Option (D×Bool):=fnM 1 0 DY
def wB:SM :=
  (jq (l8 (aF (mOp gIx (ai 0) (mC (.int 0))) (aF (mOp gIx (ai 0) (mC (.int 1))) (aF (mC (.bool true)) (aF (mOp gIx (ai 0) (mC (.int 3))) a9))))))
def iD:List D->Option (D×Bool):=fnM 1 0 wB
def wC:PM :=
  (l8 (aF (mC (.str "cut")) (aF (ai 0) a9)))
def iE:SN :=
  (bA (cD (nIx (nO (mOp dP (ai 2) (ai 5))) (nLit (.int 1))) (ngN 6))
  (bA (fQ (aS 2) (aS 6) (nO (cb kL (aF (mOp dP (ai 2) (ai 6)) (aF (ai 5) a9)))))
  (fQ (aS 2) (aS 5) (nO (cb je (aF (mOp dP (ai 2) (ai 5)) a9))))))
def Bq:SN :=
  (bA (cD (nO (mCB eK (aF (mOp gIx (ai 0) (mC (.int 1))) a9))) (ngN 2))
  (bA (cD (nO (cb fE (aF (ai 2) (aF (ai 1) a9)))) (ngN 3))
  (bA (cD (nIx (nO (mOp dP (ai 2) (mOp gIx (ai 3) (mUn AD (mC (.int 1)))))) (nLit (.int 1))) (ngN 4))
  (bA (vP [0,1,2,3,4] (aS 3) (ngN 5)
  iE)
  (bA (iA (nTo (bc (mOp js (mOp gIx (mOp dP (ai 2) (ai 4)) (mC (.int 1))) (mC .none))))
  (fQ (aS 2) (aS 4) (nO (cb iD (aF (mOp dP (ai 2) (ai 4)) a9))))
  gq)
  (ik (d9 (ar (d9 (ar (nO (mOp ib (mOp gIx (ai 0) (mC (.int 0))) (ai 3))) (ar (aS 2) aZ))) (ar (nO (mLC [] (sY (ai 3)) jo wC)) aZ)))))))))
def g8:FN:=fnS 2 5 Bq
def yf:SM :=
  (jq (l8 (aF (mOp gIx (mOp dP (ai 0) (ai 1)) (mC (.int 0))) (aF (ai 1) a9))))
def bV:List D->Option (D×Bool):=fnM 2 0 yf
def wD:SN :=
  (bA (gH (nO (cb dc (aF (ai 0) (aF (ai 1) a9)))))
  (bA (cD (nO (mOp dP (mOp gIx (ai 0) (mC (.int 1))) (ai 1))) (ngN 3))
  (bA (iA (nTo (bc (mOp gGe (ai 2) (mOp gIx (ai 3) (mC (.int 0))))))
  xP
  gq)
  (bA (cD (nO (mCB eK (aF (mOp gIx (ai 0) (mC (.int 1))) a9))) (ngN 4))
  (bA (fQ (aS 4) (aS 1) (d9 (ar (aS 2) (ar (nIx (aS 3) (nLit (.int 1))) (ar (nIx (aS 3) (nLit (.int 2))) (ar (nIx (aS 3) (nLit (.int 3))) aZ))))))
  (bA (iA (nTo (mOr (bc (mOp gIs (mOp gIx (ai 3) (mC (.int 1))) (mC .none))) (bc (mOp Gi (cb bV (aF (ai 4) (aF (ai 1) a9))) (cb bV (aF (ai 4) (aF (mOp gIx (ai 3) (mC (.int 1))) a9)))))))
  (ik (d9 (ar (d9 (ar (nO (mCB vD (aF (mOp gIx (ai 0) (mC (.int 0))) a9))) (ar (aS 4) aZ))) (ar (oJ aZ) aZ))))
  gq)
  (ik (fg g8 (ar (d9 (ar (nIx (aS 0) (nLit (.int 0))) (ar (aS 4) aZ))) (ar (aS 1) aZ))))))))))
def ee:FN:=fnS 3 2 wD
def dA:PM :=
  (cb bV (aF (mOp gIx (ai 1) (mC (.int 1))) (aF (ai 0) a9)))
def t8:SM :=
  (gM (lC (bc (mOp gEq (mCB iO (aF (mOp gIx (ai 0) (mC (.int 0))) a9)) (mC (.int 0))))
  m9
  iZ)
  (jq (DA [("pile",0)] (mOp gIx (ai 0) (mC (.int 0))) dA)))
def gO:List D->Option (D×Bool):=fnM 1 0 t8
def Km:SN :=
  (bA (cD (nO (mOp dP (ai 0) (ai 1))) (ngN 3))
  (bA (fQ (aS 0) (aS 1) (d9 (ar (nIx (aS 3) (nLit (.int 0))) (ar (aS 2) (ar (nLit (.bool false)) (ar (nIx (aS 3) (nLit (.int 3))) aZ))))))
  (bA (cD (nO (mOp dP (ai 0) (ai 2))) (ngN 3))
  (fQ (aS 0) (aS 2) (d9 (ar (nIx (aS 3) (nLit (.int 0))) (ar (nIx (aS 3) (nLit (.int 1))) (ar (nIx (aS 3) (nLit (.int 2))) (ar (nO (mOp wc (mOp gIx (ai 3) (mC (.int 3))) (l8 (aF (ai 1) a9)))) aZ)))))))))
def t9:FN:=fnS 3 1 Km
def j9:Rho->Option (Bool×Rho) :=
  (bc (mOp gIs (mOp gIx (mOp dP (ai 1) (ai 0)) (mC (.int 1))) (mC .none)))
def ke:PM :=
  (ai 0)
def kg:MN Bool :=
  (nTo (bc (mOp mr (mCB iO (aF (mOp gIx (mOp dP (ai 1) (ai 5)) (mC (.int 3))) a9)) (ai 2))))
def kh:SN :=
  (bA (cD (j7 (aS 2) (ar (nO (mCB iO (aF (mOp gIx (mOp dP (ai 1) (ai 5)) (mC (.int 3))) a9))) aZ)) (ngN 6))
  (bA (iA (nTo (bc (mOp Dr (cb bV (aF (ai 1) (aF (ai 6) a9))) (cb bV (aF (ai 1) (aF (ai 5) a9))))))
  (bA (cD (aS 6) (ngN 7))
  (bA (cD (aS 5) (ngN 6))
  (cD (aS 7) (ngN 5))))
  gq)
  (bA (gH (fg t9 (ar (aS 1) (ar (aS 6) (ar (aS 5) aZ)))))
  (gH (qR (aS 3) (ar (d9 (ar (nLit (.str "hang")) (ar (aS 6) (ar (aS 5) aZ)))) aZ))))))
def ki:SN :=
  (bA (cD (aS 4) (ngN 5))
  (bA (gG [0,1,2,3,4,5] kg
  kh 1000000)
  (fQ (aS 2) (nO (mCB iO (aF (mOp gIx (mOp dP (ai 1) (ai 5)) (mC (.int 3))) a9))) (aS 5))))
def uc:SN :=
  (bA (cD (nO (mCB eK (aF (mOp gIx (ai 0) (mC (.int 1))) a9))) (ngN 1))
  (bA (cD (nO k9) (ngN 2))
  (bA (cD (oJ aZ) (ngN 3))
  (bA (vP [0,1,2,3] (nIx (aS 0) (nLit (.int 0))) (ngN 4)
  ki)
  (ik (d9 (ar (d9 (ar (nO (mLC [("held",1)] (sY (mOp gIx (ai 0) (mC (.int 0)))) j9 ke)) (ar (aS 1) aZ))) (ar (aS 3) aZ))))))))
def gP:FN:=fnS 1 7 uc
def mG:SN :=
  (bA (fQ (aS 2) (aS 6) (nO (cb je (aF (mOp dP (ai 2) (ai 6)) a9))))
  (bA (gH (qR (aS 4) (ar (aS 6) aZ)))
  (gH (qR (aS 5) (ar (d9 (ar (nLit (.str "free")) (ar (aS 6) aZ))) aZ)))))
def mH:Rho->Option (Bool×Rho) :=
  (bc (mOp gNe (ai 0) (ai 1)))
def mI:PM :=
  (ai 0)
def yg:SN :=
  (bA (cD (nO (mCB eK (aF (mOp gIx (ai 0) (mC (.int 1))) a9))) (ngN 2))
  (bA (cD (j7 (aS 2) (ar (aS 1) aZ)) (ngN 3))
  (bA (cD (nO (mLC [("name",1)] (sY (mOp gIx (ai 0) (mC (.int 0)))) mH mI)) (ngN 4))
  (bA (cD (oJ aZ) (ngN 5))
  (bA (C4 [0,1,2,3,4,5,7] (Ay (mOp gIx (ai 3) (mC (.int 3)))) (ngN 6)
  mG)
  (bA (cD (fg gP (ar (d9 (ar (aS 4) (ar (aS 2) aZ))) aZ)) (ngN 7))
  (ik (d9 (ar (nIx (aS 3) (nLit (.int 0))) (ar (nIx (aS 7) (nLit (.int 0))) (ar (nO (mOp ib (ai 5) (mOp gIx (ai 7) (mC (.int 1))))) aZ)))))))))))
def eZ:FN:=fnS 2 6 yg
def ud:SN :=
  (bA (cD (nO (cb gO (aF (ai 0) a9))) (ngN 1))
  (bA (cD (fg eZ (ar (aS 0) (ar (aS 1) aZ))) (ngN 2))
  (ik (d9 (ar (aS 1) (ar (nIx (aS 2) (nLit (.int 0))) (ar (nIx (aS 2) (nLit (.int 1))) (ar (nIx (aS 2) (nLit (.int 2))) aZ))))))))
def gQ:FN:=fnS 1 2 ud
def Br:SN :=
  (bA (gH (nO (cb dc (aF (ai 0) (aF (ai 1) a9)))))
  (bA (iA (nTo (bc (mOp gIs (mOp gIx (mOp dP (mOp gIx (ai 0) (mC (.int 1))) (ai 1)) (mC (.int 1))) (mC .none))))
  (ik (fg eZ (ar (aS 0) (ar (aS 1) aZ))))
  gq)
  (bA (cD (fg g8 (ar (aS 0) (ar (aS 1) aZ))) (ngN 2))
  (bA (cD (fg eZ (ar (nIx (aS 2) (nLit (.int 0))) (ar (aS 1) aZ))) (ngN 3))
  (ik (d9 (ar (nIx (aS 3) (nLit (.int 0))) (ar (nIx (aS 3) (nLit (.int 1))) (ar (nO (mOp ib (mOp gIx (ai 2) (mC (.int 1))) (mOp gIx (ai 3) (mC (.int 2))))) aZ)))))))))
def kM:FN:=fnS 2 2 Br
def gR:PM :=
  (l8 (aF (mOp dP (ai 1) (ai 0)) (aF (ai 0) a9)))
def yh:SN :=
  (bA (cD (nO (mOp iN (ai 3) (mC (.int 6)))) (ngN 4))
  (bA (cD (nO (mCB eK (aF (ai 1) a9))) (ngN 1))
  (bA (iA (nTo (mOr (bc (mOp wk (ai 1) k9)) (bc (mOp gLt (mOp eI (ai 3) (mC (.int 6))) (mC (.int 2))))))
  (bA (fQ (aS 1) (nO (cb dR (aF (ai 2) a9))) (nO (cb eD (aF (ai 4) a9))))
  (ik (d9 (ar (tU jz (ar (aS 0) (ar (nO (cb dR (aF (ai 2) a9))) (ar (nO (cb eD (aF (ai 4) a9))) aZ)))) (ar (aS 1) aZ)))))
  gq)
  (bA (cD (nO (mCB j8 (aF (ai 1) a9))) (ngN 5))
  (bA (cD (nIx (aS 5) (nO (mOp eI (ai 4) (mCB iO (aF (ai 5) a9))))) (ngN 6))
  (bA (iA (nTo (bc (mOp gEq (mOp eI (ai 3) (mC (.int 6))) (mC (.int 2)))))
  (bA (gH (j7 (aS 1) (ar (nO (mOp gIx (mCB rW (aF (qf [("_law_plain",1)] (gJ 1) jo gR) a9)) (mC (.int 1)))) aZ)))
  (ik (d9 (ar (nIx (fg gQ (ar (aS 0) aZ)) (nLit (.int 2))) (ar (aS 1) aZ)))))
  gq)
  (bA (iA (nTo (bc (mOp gEq (mOp eI (ai 3) (mC (.int 6))) (mC (.int 3)))))
  (bA (gH (j7 (aS 1) (ar (aS 6) aZ)))
  (ik (d9 (ar (nIx (fg kM (ar (aS 0) (ar (aS 6) aZ))) (nLit (.int 1))) (ar (aS 1) aZ)))))
  gq)
  (bA (fQ (aS 1) (aS 6) (nO (mOp xl (mOp xl (mOp dP (ai 1) (ai 6)) (mC (.int 1))) (mOp eI (ai 4) (mOp AB (mC (.int 10)) (mC (.int 20)))))))
  (ik (d9 (ar (nIx (fg ee (ar (aS 0) (ar (aS 6) (ar (nO (mOp dP (ai 1) (ai 6))) aZ)))) (nLit (.int 0))) (ar (aS 1) aZ))))))))))))
def jA:FN:=fnS 4 3 yh
def mJ:SM :=
  (la 1 (mOp gIx (ai 3) (mC (.int 0))) (ai 2))
def yi:SM :=
  (gM (jr 1 k9)
  (gM (zI (tQ (gJ 0) 1) (mgU 2 (kH (mgN 2) (kH (mgN 3) tf)))
  mJ)
  (jq (ai 1))))
def iq:List D->Option (D×Bool):=fnM 1 3 yi
def yj:SN :=
  (ik (d9 (ar (nO (mCB vD (aF (mOp gIx (ai 0) (mC (.int 0))) a9))) (ar (nO (mCB eK (aF (mOp gIx (ai 0) (mC (.int 1))) a9))) aZ))))
def ir:FN:=fnS 1 0 yj
def jT:Rho->Option (Bool×Rho) :=
  (bc (mOp gIx (mOp dP (mOp gIx (ai 1) (mC (.int 1))) (ai 0)) (mC (.int 2))))
def jU:PM :=
  (ai 0)
def qU:SM :=
  (gM (jr 1 (qf [("pile",0)] (tQ (gJ 0) 1) jT jU))
  (jq (mOp ib (mCB iO (aF (mOp gIx (ai 0) (mC (.int 0))) a9)) (mOp xA (mC (.int 2)) (mCB iO (aF (ai 1) a9))))))
def dq:List D->Option (D×Bool):=fnM 1 1 qU
def kN:PM :=
  (vq (mOp Ki (ai 0) (ai 1)) (mOp gEq (cb dq (aF (ai 0) a9)) (cb dq (aF (ai 1) a9))))
def ue:SN :=
  (bA (cD (nIx (aS 1) (nOp eI (nO (mOp iN (ai 3) (mC (.int 7)))) (qj (ar (aS 1) aZ)))) (ngT 3 (bI 4 (bI 5 (bI 6 il)))))
  (bA (cD (nIx (aS 1) (nOp eI (nO (mOp iN (ai 3) (mC (.int 300)))) (qj (ar (aS 1) aZ)))) (ngT 3 (bI 7 (bI 8 (bI 9 il)))))
  (bA (iA (nTo (bc (mOp gEq (mOp eI (ai 3) (mC (.int 7))) (mC (.int 6)))))
  (bA (cD (fg fD (ar (aS 4) (ar (aS 7) (ar (aS 6) (ar (aS 9) aZ))))) (ngT 3 (bI 10 (bI 11 (bI 12 il)))))
  (iA (nTo (vp (bc (ai 10))))
  (ik (nLit (.bool false)))
  gq))
  (cD (fg jA (ar (aS 4) (ar (aS 6) (ar (aS 2) (ar (nO (mOp iN (ai 3) (mC (.int 301)))) aZ))))) (ngT 2 (bI 11 (bI 12 il)))))
  (iA (nTo (bc (mOp js (ai 11) (mC .none))))
  (bA (iA (nTo (bc (mOp DU (cb iq (aF (ai 11) a9)) (ai 12))))
  (ik (nLit (.bool false)))
  gq)
  (gH (qR (aS 1) (ar (d9 (ar (aS 11) (ar (fg ir (ar (aS 11) aZ)) (ar (aS 12) aZ)))) aZ))))
  gq))))
def zP:SN :=
  (bA (cD (oJ (ar (d9 (ar (fg kK aZ) (ar (d9 (ar (oJ aZ) (ar (nO k9) aZ))) (ar (nO k9) aZ)))) aZ)) (ngN 1))
  (bA (C4 [0,1] (Kf (aF (mSl gSl (ai 0) oQ (zg (mC (.int 40)))) a9)) (ngT 2 (bI 2 (bI 3 il)))
  ue)
  (ik (nCB Fz (ar (Gz [] (aS 1) jo kN) aZ)))))
def Ih:List D->Option (D×Bool):=fnO 1 12 zP
local macro_rules | `(tactic| walk_at "mir") => `(tactic| simp only [*, fnM, gM, lC, bc, mOp, sv, ai, mC, mCB, aF, a9, lA, gB0, gI0, gI, ib, xA, AD, gIx, FD, gSl, iO, MU, MV, MW, MX, gIs, js, Jz, JA, JB, asB, asI, mUn, MY, zo, FC, CL, CM, CJ, CK, vF, tq, qQ, oH, isNone,
 Mz,mOr,vp,vq,MB,Li,MC,l8,vt,jY,jX,jr,sto,h9,jq,Ln,vz,iZ,MM,Fu,cb,AG,xD,AH,xE,xF,AI,AJ,pN,pP,vG,vH,og,M5,M6,MJ,MK,rg1,rg2,sY,MH,asL,asT,MP,mgN,mgT,mgU,asS,kH,tf,Lo,Lp,qP,Mir.putAt,Sl.put,Cz,Lm,me,MZ,Jx,
 List.length_cons,List.length_nil,List.map_cons,List.map_nil,List.cons_append,List.nil_append,List.replicate,List.getElem?_cons_zero,List.getElem?_cons_succ,List.getElem?_nil,List.set_cons_zero,List.set_cons_succ,
 Option.bind_some,Option.bind_none,Option.map_some,Option.map_none,if_true,if_false,Cr,Bool.false_eq_true,reduceIte,decide_true,decide_false,Bool.not_true,Bool.not_false,ite_true,ite_false,Nat.reduceAdd,Nat.reduceEqDiff,Bool.and_true,Bool.true_and,Bool.and_false,Bool.not_eq_true,not_true_eq_false,not_false_eq_true,Int.reduceLT,Int.reduceLE,Int.reduceEq,Nat.reduceLeDiff])
local macro_rules | `(tactic| walk_at "st") => `(tactic| (apply dJ; · (walk_at "mir"; try exact rfl)))
def NIo(s:Sl):Prop:=∀d,s≠.io d
theorem NIo.no:NIo .no:=λd h=>by cases h
theorem NIo.fz(x:D):NIo (.fz x):=λd h=>by cases h
theorem GH(q:Sl)(h : ρ[i]?=some s)(hs:NIo s):h9 ρ i q=some (ρ.set i q):=by
 unfold h9;rw[h];cases s<;>first|rfl|exact absurd rfl (hs _)
theorem uf(h : ρ[i]?=some s)(hs:NIo s):mgN i d ρ=some (ρ.set i (.fz d)):=GH _ h hs
def LT:Str:="abcdefghijklmnopqrstuvwxyz"
def letter(j:Nat):Str:=⟨#[LT.cps.toList.getD j 97]⟩
theorem L6:∀j:Nat,j<26->atI LT.cps.toList (j:Int)=some (LT.cps.toList.getD j 97):=by decide
theorem se(j:Nat)(h:j<26):tS (.str LT) (.int (j:Int))=some (.str (letter j),false):=by
 show cIf (LT.length<=sizeLine) _ none=_;rw[bg (by rw[sizeLine_eq];decide),L6 j h];rfl
def sfx(j:Nat):Str:=(["a","zz","aaa","zzzz","bbbbb","zzzzzz"]:List Str).getD j ""
def aN(k:Nat):Str:=if k%2=1 then letter (k/52%26)++letter (k/2%26)++sfx (k/2%6)else letter (k/52%26)++letter (k/2%26)
theorem qo:∀i:Nat,i<130->∀j:Nat,j<i->aN i≠aN j:=by decide+kernel
theorem mK(m:Str):keyOf (.str m)=some (.inr m):=rfl
def eL:Option Str->D
 |none=>.none
 |some a=>.str a
def bE(r:aL.Row):D:=.tuple [.int r.key,eL r.above,.bool r.mark,.tuple (r.below.map .str)]
def cj(keys:List Str)(row:Str->aL.Row):List (D×D):=keys.map λn=>(PyData.str n,bE (row n))
theorem fV(row:Str->aL.Row)(n:Str):∀keys:List Str,dO (cj keys row) (.inr n)=if n∈keys then some (bE (row n))else none
 | []=>rfl
 |m::keys=>by
  show(if keyOf (.str m)=some (.inr n)then some (bE (row m))else dO (cj keys row) (.inr n))=_
  by_cases e:m=n
  ·subst e
   rw[if_pos (mK m),if_pos zas]
  ·have e1 : ¬keyOf (.str m)=some (.inr n):=λz=>e (Sum.inr.inj (zaQ z))
   rw[if_neg e1,fV row n keys]
   by_cases h:n∈keys
   ·rw[if_pos h,if_pos (zak _ h)]
   ·rw[if_neg h,if_neg λz=>by
     rcases zaf z with z|z
     ·exact e z.symm
     ·exact h z]
def aX(row:Str->aL.Row)(n:Str)(r:aL.Row):Str->aL.Row:=λm=>if m=n then r else row m
theorem ug(keys:List Str)(row:Str->aL.Row)(n:Str)(r:aL.Row)(h:n∈keys):putD (cj keys row) (.str n) (bE r) (.inr n)=cj keys (aX row n r):=by
 unfold putD;rw[fV,if_pos h];show(cj keys row).map _=_;unfold cj;rw[List.map_map];refine List.map_congr_left λm _=>?_
 show(if keyOf (.str m)=some (.inr n)then(PyData.str m,bE r)else(PyData.str m,bE (row m)))=(PyData.str m,bE (aX row n r m))
 unfold aX
 by_cases e:m=n
 ·subst e
  rw[if_pos (mK m),if_pos rfl]
 ·have e1 : ¬keyOf (.str m)=some (.inr n):=λz=>e (Sum.inr.inj (zaQ z))
  rw[if_neg e1,if_neg e]
theorem uh(keys:List Str)(row:Str->aL.Row)(n:Str)(r:aL.Row)(h:n∉keys):putD (cj keys row) (.str n) (bE r) (.inr n)=cj (keys++[n]) (aX row n r):=by
 unfold putD;rw[fV,if_neg h];show cj keys row++[(.str n,bE r)]=_;unfold cj;rw[za1]
 congr 1
 ·refine List.map_congr_left λm hm=>?_
  show _=(PyData.str m,bE (aX row n r m));unfold aX;rw[if_neg λz=>h (by rw[<-z];exact hm)]
 ·show [(PyData.str n,bE r)]=[(PyData.str n,bE (aX row n r n))]
  unfold aX;rw[if_pos rfl]
theorem wF(keys:List Str)(row:Str->aL.Row):(cj keys row).length=keys.length:=by unfold cj;rw[zal]
theorem kP(keys:List Str)(row:Str->aL.Row):(cj keys row).map (·.1)=keys.map .str:=by unfold cj;rw[List.map_map];rfl
theorem zQ(keys:List Str)(row:Str->aL.Row)(n:Str)(h:n∈keys):dP (.dict (cj keys row)) (.str n)=some (bE (row n),false):=by
 show(dO (cj keys row) (.inr n)).map _=_;rw[fV,if_pos h];rfl
theorem o5(keys:List Str)(row:Str->aL.Row)(n:Str):mr (.str n) (.dict (cj keys row))=some (.bool (decide (n∈keys)),false):=by
 show some (PyData.bool (dO (cj keys row) (.inr n)).isSome,false)=_;rw[fV]
 by_cases h:n∈keys
 ·rw[if_pos h,zaH h];rfl
 ·rw[if_neg h,zaO h];rfl
theorem qp(j:Nat):(letter j).length=1:=rfl
theorem GI:∀j:Nat,j<6->(sfx j).length<=6:=by decide
theorem add_str(a b:Str)(h:a.length+b.length<=1000):ib (.str a) (.str b)=some (.str (a++b),false):=by
 show cIf (a.length+b.length<=sizeLine) _ none=_;rw[bg (by rw[sizeLine_eq];omega)]
theorem two_len(i j:Nat):(letter i++letter j).length=2:=rfl
theorem GJ(k:Nat):dR [.int (k:Int)]=some (.str (aN k),false):=by
 have hk:∀{ρ:Rho},ρ[0]?=some (.fz (.int (k:Int)))->∀(a b:Nat),0<a->a<1000->0<b->IE (mOp eI (mOp iN (ai 0) (mC (.int (a:Int)))) (mC (.int (b:Int)))) ρ ((k/a%b:Nat):Int):=fun{ρ} h a b ha ha2 hb=>by
  have:=ic (pX (eY h) (cZ (i:=(a:Int))) ⟨by omega,by omega⟩) (cZ (i:=(b:Int))) (by omega)
  rwa[show((k:Int)/(a:Int)%(b:Int))=((k/a%b:Nat):Int) by rw[Int.natCast_emod,Int.natCast_ediv]]at this
 have l1:∀{ρ:Rho},ρ[0]?=some (.fz (.int (k:Int)))->ρ[1]?=some (.fz (.str LT))->mOp tS (ai 1) (mOp eI (mOp iN (ai 0) (mC (.int 52))) (mC (.int 26))) ρ=some ((.str (letter (k/52%26)),.fz),ρ):=fun{ρ} h0 h1=>bD (r:=(.int ((k/52%26:Nat):Int),.fz)) (res:=(.str (letter (k/52%26)),false)) (aj (az h1)) (aj (hk h0 52 26 (by omega) (by omega) (by omega))) (se _ (by omega))
 have l2:∀{ρ:Rho},ρ[0]?=some (.fz (.int (k:Int)))->ρ[1]?=some (.fz (.str LT))->mOp tS (ai 1) (mOp eI (mOp iN (ai 0) (mC (.int 2))) (mC (.int 26))) ρ=some ((.str (letter (k/2%26)),.fz),ρ):=fun{ρ} h0 h1=>bD (r:=(.int ((k/2%26:Nat):Int),.fz)) (res:=(.str (letter (k/2%26)),false)) (aj (az h1)) (aj (hk h0 2 26 (by omega) (by omega) (by omega))) (se _ (by omega))
 have em:∀{ρ:Rho},ρ[0]?=some (.fz (.int (k:Int)))->IE (mOp eI (ai 0) (mC (.int 2))) ρ ((k:Int)%2):=fun{ρ} h=>ic (eY h) cZ (by decide)
 have two:=add_str (letter (k/52%26)) (letter (k/2%26)) (by rw[qp,qp];omega)
 have hd:∀(u:SM) (o:Option Out),u [.fz (.int (k:Int)),.fz (.str LT),.fz (.str (letter (k/52%26)++letter (k/2%26)))]=o->gM (jr 1 (mC (.str "abcdefghijklmnopqrstuvwxyz"))) (gM (jr 2 (mOp ib (mOp tS (ai 1) (mOp eI (mOp iN (ai 0) (mC (.int 52))) (mC (.int 26)))) (mOp tS (ai 1) (mOp eI (mOp iN (ai 0) (mC (.int 2))) (mC (.int 26)))))) u) [.fz (.int (k:Int)),.no,.no]=o:=λu o h=>by
  refine dJ (ρ1:=[.fz (.int (k:Int)),.fz (.str LT),.no]) (pU rfl rfl) ?_;exact dJ (ρ1:=[.fz (.int (k:Int)),.fz (.str LT),.fz (.str (letter (k/52%26)++letter (k/2%26)))]) (pU (bD (r:=(.str (letter (k/2%26)),.fz)) (res:=(.str (letter (k/52%26)++letter (k/2%26)),false)) (aj (l1 rfl rfl)) (aj (l2 rfl rfl)) two) rfl) h
 by_cases odd:k%2=1
 ·have en:aN k=letter (k/52%26)++letter (k/2%26)++sfx (k/2%6):=if_pos odd
  rw[en];refine d4 (o:=.rt (.str (letter (k/52%26)++letter (k/2%26)++sfx (k/2%6)),.fz) [.fz (.int (k:Int)),.fz (.str LT),.fz (.str (letter (k/52%26)++letter (k/2%26)++sfx (k/2%6)))]) rfl (hd _ _ ?_) rfl;have six:∀j:Nat,j<6->gIx (.list [.str "a",.str "zz",.str "aaa",.str "zzzz",.str "bbbbb",.str "zzzzzz"]) (.int (j:Int))=some (.str (sfx j),false):=λj hj=>by
   have:j=0\/j=1\/j=2\/j=3\/j=4\/j=5:=by omega
   rcases this with rfl|rfl|rfl|rfl|rfl|rfl<;>rfl
  refine dJ (ρ1:=[.fz (.int (k:Int)),.fz (.str LT),.fz (.str (letter (k/52%26)++letter (k/2%26)++sfx (k/2%6)))]) (AK (tEq (em rfl) cZ (by omega)) (pU (bD (r:=(.str (sfx (k/2%6)),.fz)) (res:=(.str (letter (k/52%26)++letter (k/2%26)++sfx (k/2%6)),false)) (aj (az rfl)) (aj (bD (r:=(.int ((k/2%6:Nat):Int),.fz)) (res:=(.str (sfx (k/2%6)),false)) (jt (xH (rs:=[(.str "a",.fz),(.str "zz",.fz),(.str "aaa",.fz),(.str "zzzz",.fz),(.str "bbbbb",.fz),(.str "zzzzzz",.fz)]) rfl rfl (by simp))) (aj (hk rfl 2 6 (by omega) (by omega) (by omega))) (six _ (by omega)))) (add_str _ _ (by have:=GI (k/2%6) (by omega);rw[two_len];omega))) rfl)) (fy (az rfl))
 ·have en:aN k=letter (k/52%26)++letter (k/2%26):=if_neg odd
  rw[en];exact d4 (o:=.rt (.str (letter (k/52%26)++letter (k/2%26)),.fz) [.fz (.int (k:Int)),.fz (.str LT),.fz (.str (letter (k/52%26)++letter (k/2%26)))]) rfl (hd _ _ (dJ (ρ1:=[.fz (.int (k:Int)),.fz (.str LT),.fz (.str (letter (k/52%26)++letter (k/2%26)))]) (pV (tNe (em rfl) cZ (by omega)) rfl) (fy (az rfl)))) rfl
theorem key_is(c:Int):∃v:Int,eD [.int c]=some (.int v,false):=by
 have em:∀{ρ:Rho},IE (mOp eI (ai 0) (mC (.int 3))) (.fz (.int c)::ρ) (c%3):=fun{ρ}=>ic (eY rfl) cZ (by decide)
 have ed:∀{ρ:Rho},IE (mOp iN (ai 0) (mC (.int 3))) (.fz (.int c)::ρ) (c/3):=fun{ρ}=>pX (eY rfl) cZ ⟨by decide,by decide⟩
 by_cases h0:c%3=0
 ·exact⟨c/3%5-2,d4 (o:=.rt (.int (c/3%5-2),.fz) [.fz (.int c)]) rfl (tw (AK (tEq em cZ h0) (fy (pW (ic ed cZ (by decide)) cZ)))) rfl⟩
 ·by_cases h1:c%3=1
  ·exact⟨c/3%61-30,d4 (o:=.rt (.int (c/3%61-30),.fz) [.fz (.int c)]) rfl (dJ (ρ1:=[.fz (.int c)]) (pV (tNe em cZ h0) rfl) (tw (AK (tEq em cZ h1) (fy (pW (ic ed cZ (by decide)) cZ))))) rfl⟩
  ·have ep:∀{ρ:Rho},IE (mOp AB (mC (.int 10)) (mC (.int 59))) ρ ((10:Int)^(59:Int).toNat):=fun{ρ}=>CQ cZ cZ ⟨by decide,by decide,by decide⟩
   have e2:IE (mOp xA (mC (.int 2)) (mOp AB (mC (.int 10)) (mC (.int 59)))) [.fz (.int c)] (2*(10:Int)^(59:Int).toNat):=CP cZ ep (IntMulOk.of_left (by decide))
   exact⟨_,d4 (o:=.rt (.int (c/3%(2*(10:Int)^(59:Int).toNat+1)-(10:Int)^(59:Int).toNat),.fz) [.fz (.int c)]) rfl (dJ (ρ1:=[.fz (.int c)]) (pV (tNe em cZ h0) rfl) (dJ (ρ1:=[.fz (.int c)]) (pV (tNe em cZ h1) rfl) (fy (pW (ic ed (CO e2 cZ) (by decide)) ep)))) rfl⟩
theorem nL{keys:List Str}{row:Str->aL.Row}{n:Str}(h:n∈keys){a b:PM}{ρ:Rho}(ha:sv a ρ=some ((.dict (cj keys row),.fz),ρ))(hb:b ρ=some ((.str n,.fz),ρ)):mOp dP a b ρ=some ((bE (row n),.fz),ρ):=bD (r:=(.str n,.fz)) (res:=(bE (row n),false)) ha (aj hb) (zQ keys row n h)
theorem kQ{r:aL.Row}{a:PM}{ρ:Rho}(h:a ρ=some ((bE r,.fz),ρ)):IE (mOp gIx a (mC (.int 0))) ρ r.key:=bD (r:=(.int 0,.fz)) (res:=(.int r.key,false)) (aj h) (aj rfl) rfl
theorem eE{r:aL.Row}{a:PM}{ρ:Rho}(h:a ρ=some ((bE r,.fz),ρ)):mOp gIx a (mC (.int 1)) ρ=some ((eL r.above,.fz),ρ):=bD (r:=(.int 1,.fz)) (res:=(eL r.above,false)) (aj h) (aj rfl) rfl
theorem mL{r:aL.Row}{a:PM}{ρ:Rho}(h:a ρ=some ((bE r,.fz),ρ)):mOp gIx a (mC (.int 2)) ρ=some ((.bool r.mark,.fz),ρ):=bD (r:=(.int 2,.fz)) (res:=(.bool r.mark,false)) (aj h) (aj rfl) rfl
theorem g9{r:aL.Row}{a:PM}{ρ:Rho}(h:a ρ=some ((bE r,.fz),ρ)):mOp gIx a (mC (.int 3)) ρ=some ((.tuple (r.below.map .str),.fz),ρ):=bD (r:=(.int 3,.fz)) (res:=(.tuple (r.below.map .str),false)) (aj h) (aj rfl) rfl
theorem kJ:∀zs:List Str,lb (zs.map PyData.str)=some zs
 | []=>rfl
 |z::zs=>by
  show(lb (zs.map PyData.str)).map (z::·)=_
  rw[kJ zs];rfl
def Is(ρ:Rho)(i:Nat)(d:D):Prop:=ρ[i]?=some (.fz d)\/ρ[i]?=some (.own d)\/ρ[i]?=some (.io d)
theorem xJ(h : ρ[i]?=some (.io d)):ai i ρ=some ((d,.at i),ρ):=by unfold ai;rw[h]
theorem Hy(h1:sv a ρ=some ((x,.at i),ρ1))(h2:sv b ρ1=some (r,ρ2))(h4 : ρ2[i]?=some (.io y))(h3:g y r.1=some res):mOp g a b ρ=some (jm res,ρ2):=by
 unfold mOp;rw[h1,zai];dsimp only;rw[h2,zai];simp only[lA,h4,Option.bind_some,h3,Option.map_some]
theorem L7(h:Is ρ i x)(h2:sv b ρ=some (r,ρ))(h3:g x r.1=some res):mOp g (ai i) b ρ=some (jm res,ρ):=by
 rcases h with h|h|h
 ·exact bD (aj (az h)) h2 h3
 ·exact Lw (pT (ju h)) h2 h h3
 ·exact Hy (pT (xJ h)) h2 h h3
theorem GK{m:Rho->Option (List RV×Rho)}{ρ:Rho}{i:Nat}{x:D}{rs:List RV}(h:Is ρ i x)(h2:m ρ=some (rs,ρ)):∃k,aF (ai i) m ρ=some ((x,k)::rs,ρ):=by
 rcases h with h|h|h
 ·exact⟨_,aJ (aj (az h)) h2⟩
 ·exact⟨_,FG (pT (ju h)) h2 h⟩
 ·refine⟨.at i,?_⟩
  unfold aF;rw[pT (xJ h),zai];dsimp only
  rw[h2,zai];simp only[lA,h,Option.map_some]
theorem L8(h:Is ρ i x)(h2:g [x]=some res):mCB g (aF (ai i) a9) ρ=some (jm res,ρ):=by
 obtain⟨k,e⟩:=GK h a8;exact d7 e h2
theorem Kn{ρ:Rho}{i:Nat}{l:List D}(h:Is ρ i (.list l)):IE (mCB iO (aF (ai i) a9)) ρ (l.length:Int):=L8 (res:=(.int (l.length:Int),false)) h rfl
theorem dS{ρ:Rho}{i:Nat}{keys:List Str}{row:Str->aL.Row}{n:Str}{b:PM}(h:Is ρ i (.dict (cj keys row)))(hn:n∈keys)(hb:b ρ=some ((.str n,.fz),ρ)):mOp dP (ai i) b ρ=some ((bE (row n),.fz),ρ):=L7 (r:=(.str n,.fz)) (res:=(bE (row n),false)) h (aj hb) (zQ keys row n hn)
def DZ(keys:List Str)(n:Str):List Str:=if n∈keys then keys else keys++[n]
theorem iF(h:n∈keys):DZ keys n=keys:=if_pos h
theorem kj(h:n∉keys):DZ keys n=keys++[n]:=if_neg h
theorem wG(keys:List Str)(row:Str->aL.Row)(n:Str)(r:aL.Row):putD (cj keys row) (.str n) (bE r) (.inr n)=cj (DZ keys n) (aX row n r):=by
 by_cases h:n∈keys
 ·rw[iF h,ug _ _ _ _ h]
 ·rw[kj h,uh _ _ _ _ h]
theorem o6{i:Nat}{a b:PM}{ρ:Rho}{keys:List Str}{row:Str->aL.Row}{n:Str}{r:aL.Row}{s:Sl}(ha:a ρ=some ((bE r,.fz),ρ))(hb:b ρ=some ((.str n,.fz),ρ))(h : ρ[i]?=some s)(hs:s=.own (.dict (cj keys row))\/s=.io (.dict (cj keys row)))(hl:keys.length<=1000):la i a b ρ=some (.nx (ρ.set i (s.put (.dict (cj (DZ keys n) (aX row n r)))))):=by
 have hl':(cj keys row).length<100000:=by rw[wF];omega
 have ho:xR (some s)=some (cj keys row):=by rcases hs with rfl|rfl<;>rfl
 unfold la;rw[aj ha,zai];dsimp only[jX,Option.bind_some]
 rw[h,ho,zai,aj hb,zai];dsimp only[keyOf,Option.bind_some]
 rw[h,ho,zai,bg hl',wG];unfold Mir.putAt;rw[h]
theorem Ko(h0:qP ρ[i]?=some ds0)(h1:m ρ=some (rs,ρ1))(h2:jY rs ρ1=some (as,ρ2))(h3:qP ρ2[i]?=some ds)(h4:f ds as=some w)(h5:Mir.putAt ρ2 i (.list w.1)=ρ3):Cz i f m ρ=some ((w.2,.fz),ρ3):=by
 unfold Cz;rw[h0,zai,h1,zai];dsimp only
 rw[h2,zai];dsimp only
 rw[h3,zai,h4,zaT,h5]
theorem Kq(d:D)(h:ds.length<=100000):me ds [d]=some (ds++[d],.none):=by
 show cIf _ _ _=_;rw[bg (pR h)]
abbrev TD(aq:List Str):D:=.list (aq.map .str)
abbrev HD(keys:List Str)(row:Str->aL.Row):D:=.dict (cj keys row)
def bP(row:Str->aL.Row)(name on:Str):Str->aL.Row :=
 aX (aX row name ⟨(row name).key,some on,false,(row name).below⟩) on ⟨((aX row name ⟨(row name).key,some on,false,(row name).below⟩) on).key,((aX row name ⟨(row name).key,some on,false,(row name).below⟩) on).above,((aX row name ⟨(row name).key,some on,false,(row name).below⟩) on).mark,((aX row name ⟨(row name).key,some on,false,(row name).below⟩) on).below++[name]⟩
theorem kq(ne:x≠y)(h:aT a x c y=false):aT c y a x=true:=by
 unfold aT at h⊢
 by_cases e:a=c
 ·subst e
  rw[if_pos rfl,if_neg ne]at h;rw[if_pos rfl,if_neg (λz=>ne z.symm)]
  have h1 : ¬x.cps.toList<y.cps.toList:=of_decide_eq_false h;refine zaH ?_;rcases List.le_iff_lt_or_eq.mp (List.not_lt.mp h1)with h2|h2
  ·exact h2
  ·refine absurd ?_ ne
   cases x;cases y
   congr 1
   exact(Array.toList_inj.mp h2).symm
 ·rw[if_neg e]at h
  rw[if_neg (λz=>e z.symm)]
  have:=of_decide_eq_false h;exact zaH (by omega)
theorem fF(h1:aT a x b y=true)(h2:aT b y c z=true):aT a x c z=true:=by
 unfold aT at h1 h2⊢
 by_cases e1:a=b
 ·subst e1
  rw[if_pos rfl]at h1
  by_cases e2:a=c
  ·subst e2
   rw[if_pos rfl]at h2⊢;split at h1
   ·cases h1
   split at h2
   ·cases h2
   have l1:=of_decide_eq_true h1;have l2:=of_decide_eq_true h2;have l3:x.cps.toList<z.cps.toList:=List.lt_trans l1 l2;rw[if_neg (λq=>by rw[q]at l3;exact List.lt_irrefl _ l3)]
   exact zaH l3
  ·rw[if_neg e2]at h2⊢;exact h2
 ·rw[if_neg e1]at h1
  have l1:=of_decide_eq_true h1
  by_cases e2:b=c
  ·subst e2;rw[if_neg e1];exact h1
  ·rw[if_neg e2]at h2
   have l2:=of_decide_eq_true h2;rw[if_neg (by omega)]
   exact zaH (by omega)
theorem lJ:aT a x a x=false:=by
 unfold aT;rw[if_pos rfl,if_pos rfl]
theorem mM(h:PyData.strOk x=true):SeqAt.shaped (.str x)=true:=by
 unfold SeqAt.shaped;rw[zaH (by simp[PyData.depth]),Bool.and_true]
 simp only[PyData.canLay0,h]
theorem zR(hx:PyData.strOk x=true)(hy:PyData.strOk y=true):gNe (.str x) (.str y)=some (.bool (!decide (x=y)),false):=by
 unfold gNe;rw[if_pos ⟨mM hx,mM hy⟩];simp only[PyData.eqv]
 by_cases e:x=y
 ·subst e;simp
 ·simp[e]
theorem fG{c:Rho->Option (Bool×Rho)}{e:PM}{ρn:Rho}{p:Str->Bool}:∀l:List Str,(∀x∈l,∃ρ,c (.fz (.str x)::ρn)=some (p x,ρ))->(∀x∈l,∃ρ,sv e (.fz (.str x)::ρn)=some ((.str x,.fz),ρ))->gp c e ρn (l.map .str)=some ((l.filter p).map .str)
 | [],_,_=>rfl
 |x::l,h,h2=>by
  have ih:=fG l (λy hy=>h y (zak _ hy)) λy hy=>h2 y (zak _ hy)
  obtain⟨ρ,e1⟩:=h x zas;obtain⟨ρ2,e2⟩:=h2 x zas;show(c (.fz (.str x)::ρn)).bind _=_;rw[e1,zai];dsimp only
  cases hp:p x with
  |false=>rw[if_neg (by simp),ih,List.filter_cons_of_neg (by simp[hp])]
  |true=>rw[if_pos rfl,e2,zai];dsimp only[asF,Option.bind_some];rw[ih,List.filter_cons_of_pos (by simp[hp])];rfl
theorem jB(hx:PyData.strOk x=true)(hy:PyData.strOk y=true):PyData.strOk (x++y)=true:=by
 unfold PyData.strOk at*;show(x.cps++y.cps).all _=true;rw[Array.all_append,hx,hy];rfl
theorem sf:∀j:Nat,j<26->PyData.strOk (letter j)=true:=by decide+kernel
theorem Kr:∀j:Nat,j<6->PyData.strOk (sfx j)=true:=by decide+kernel
theorem D3(k:Nat):PyData.strOk (aN k)=true:=by
 unfold aN;have h1:=sf (k/52%26) (by omega)
 have h2:=sf (k/2%26) (by omega)
 split
 ·exact jB (jB h1 h2) (Kr _ (by omega))
 ·exact jB h1 h2
structure Bt(K:Str->Int)(c:Nat)(aq keys:List Str)(row:Str->aL.Row):Prop where
 nd:keys.Nodup
 nm:∀n∈keys,∃i,i<c/\n=aN i
 tn:aq.Nodup
 tk:∀t∈aq,t∈keys/\(row t).above=none
 ne:∀n∈keys,(row n).above=none->n∈aq
 mkd:∀n∈keys,(row n).mark=true->(row n).above≠none
 ab:∀n∈keys,∀a,(row n).above=some a->a∈keys
 bl:∀n∈keys,(row n).below.length<=c/\∀b∈(row n).below,b∈keys
 ho:∀n∈keys,∀a,(row n).above=some a->aT (K a) a (K n) n=true
theorem Bt.kl(h:Bt K c aq keys row):keys.length<=c:=by
 have:=aL.ja keys ((List.range c).map aN) h.nd λx hx=>by
  obtain⟨i,hi,rfl⟩:=h.nm x hx;exact List.mem_map_of_mem (List.mem_range.mpr hi)
 simpa using this
theorem Bt.tl(h:Bt K c aq keys row):aq.length<=c:=zaX (aL.ja aq keys h.tn λx hx=>(h.tk x hx).1) h.kl
theorem Bt.ok(h:Bt K c aq keys row)(hn:n∈keys):PyData.strOk n=true:=by
 obtain⟨i,_,rfl⟩:=h.nm n hn;exact D3 i
theorem aM(row:Str->aL.Row)(n:Str)(r:aL.Row):aX row n r n=r:=if_pos rfl
theorem aD(row:Str->aL.Row)(r:aL.Row)(h:m≠n):aX row n r m=row m:=if_neg h
def iR(row:Str->aL.Row)(name:Str):Str->aL.Row:=aX row name ⟨(row name).key,none,false,(row name).below⟩
def dB(row:Str->aL.Row)(name a:Str):Str->aL.Row:=aX (iR row name) a ⟨(iR row name a).key,(iR row name a).above,(iR row name a).above.isSome,(iR row name a).below.filter λx=>!decide (x=name)⟩
theorem qq(row:Str->aL.Row)(name n:Str):(iR row name n).above=if n=name then none else(row n).above:=by
 unfold iR aX;split<;>rfl
theorem cS(row:Str->aL.Row)(name a n:Str):(dB row name a n).above=if n=name then none else(row n).above:=by
 rw[<-qq];unfold dB
 by_cases e:n=a
 ·subst e;rw[aM]
 ·rw[aD _ _ e]
theorem qr:(dB row name a n).below.length<=(row n).below.length/\∀b∈(dB row name a n).below,b∈(row n).below:=by
 have h1:(iR row name n).below=(row n).below:=by
  unfold iR aX;split
  ·rename_i e;rw[e]
  ·rfl
 unfold dB
 by_cases e:n=a
 ·subst e
  rw[aM];show(List.filter _ (iR row name n).below).length<=_/\∀b∈List.filter _ (iR row name n).below,_;rw[h1];exact⟨zaY _ _,λb hb=>(List.mem_filter.mp hb).1⟩
 ·rw[aD _ _ e,h1]
  exact⟨zap _,λb hb=>hb⟩
theorem Bu:(dB row name a n).mark=true->(dB row name a n).above.isSome=true\/(n≠name/\(row n).mark=true):=by
 intro h
 by_cases e:n=a
 ·subst e
  left;unfold dB at h⊢;rw[aM]at h⊢;exact h
 ·unfold dB at h⊢
  rw[aD _ _ e]at h⊢;unfold iR at h⊢
  by_cases e2:n=name
  ·subst e2;rw[aM]at h;cases h
  ·rw[aD _ _ e2]at h
   exact Or.inr ⟨e2,h⟩
theorem D4(row:Str->aL.Row)(name n:Str):(iR row name n).key=(row n).key:=by
 unfold iR aX;split
 ·rename_i e;rw[e]
 ·rfl
theorem D6(row:Str->aL.Row)(name a n:Str):(dB row name a n).key=(row n).key:=by
 rw[<-D4 row name];unfold dB
 by_cases e:n=a
 ·subst e;rw[aM]
 ·rw[aD _ _ e]
theorem Bt.cut(h:Bt K c aq keys row)(hn:name∈keys)(ha:(row name).above=some a):Bt K c (aq++[name]) keys (dB row name a):=by
 have hnt:name∉aq:=λz=>by rw[(h.tk name z).2]at ha;cases ha
 refine⟨h.nd,h.nm,?_,λt ht=>?_,λm hm e=>?_,λn hk hm=>?_,λn hk b hb=>?_,λn hk=>?_,λn hk b hb=>?_⟩
 ·rw[List.nodup_append]
  refine⟨h.tn,by simp,λx hx y hy=>?_⟩
  rw[zad hy];exact λe=>hnt (by rw[<-e];exact hx)
 ·rw[cS]
  rcases zae ht with ht|ht
  ·refine⟨(h.tk t ht).1,?_⟩
   split
   ·rfl
   ·exact(h.tk t ht).2
  ·rw[zad ht]
   exact⟨hn,if_pos rfl⟩
 ·by_cases z:m=name
  ·rw[z];simp
  ·rw[cS,if_neg z]at e;exact zaW _ (h.ne m hm e)
 ·rcases Bu hm with e|⟨e1,e2⟩
  ·exact λz=>by rw[z]at e;cases e
  ·rw[cS,if_neg e1]
   exact h.mkd n hk e2
 ·rw[cS]at hb
  split at hb
  ·cases hb
  ·exact h.ab n hk b hb
 ·exact⟨zaX qr.1 (h.bl n hk).1,λb hb=>(h.bl n hk).2 b (qr.2 b hb)⟩
 ·rw[cS]at hb
  split at hb
  ·cases hb
  ·exact h.ho n hk b hb
inductive Ch(row:Str->aL.Row):Str->List Str->Str->Prop
 |one {n a:Str}:(row n).above=some a->(row a).mark=false->Ch row n [n] a
 |more {n a L:Str} {C:List Str}:(row n).above=some a->(row a).mark=true->Ch row a C L->Ch row n (n::C) L
theorem sj{α:Type}{p q : α->Bool}:∀l:List α,(∀x∈l,p x=true->q x=true)->(∃x∈l,p x=false/\q x=true)->l.countP p<l.countP q
 | [],_,⟨x,hx,_⟩=>by cases hx
 |y::l,h,⟨x,hx,e1,e2⟩=>by
  rw[List.countP_cons,List.countP_cons];have hle:l.countP p<=l.countP q:=List.countP_mono_left λz hz=>h z (zak _ hz)
  rcases zaf hx with rfl|hx'
  ·rw[e1,e2,if_neg zam,if_pos rfl];omega
  ·have:=sj l (λz hz=>h z (zak _ hz)) ⟨x,hx',e1,e2⟩
   have hy:=h y (zas);cases hp:p y with
   |false=>rw[if_neg zam];omega
   |true=>rw[hy hp,if_pos rfl];omega
section
variable{K:Str->Int}{c:Nat}{aq keys:List Str}{row:Str->aL.Row}
def rank(K:Str->Int)(keys:List Str)(n:Str):Nat:=keys.countP λm=>aT (K m) m (K n) n
theorem zS(h:Bt K c aq keys row)(hn:n∈keys)(ha:(row n).above=some a):rank K keys a<rank K keys n :=
 sj keys (λm _ e=>fF e (h.ho n hn a ha)) ⟨a,h.ab n hn a ha,lJ,h.ho n hn a ha⟩
theorem L9(h:Bt K c aq keys row):∀(m:Nat) (n:Str),n∈keys->rank K keys n<=m->(row n).above≠none->∃C L,Ch row n C L/\C.length<=m:=by
 intro m
 induction m with
 |zero=>
  intro n hn hr ha;cases e:(row n).above with
  |none=>exact absurd e ha
  |some a=>have:=zS h hn e;omega
 |succ m ih=>
  intro n hn hr ha;cases e:(row n).above with
  |none=>exact absurd e ha
  |some a=>
   have hk:=h.ab n hn a e;cases em:(row a).mark with
   |false=>exact⟨[n],a,.one e em,by simp⟩
   |true=>
    obtain⟨C,L,h1,h2⟩:=ih a hk (by have:=zS h hn e;omega) (h.mkd a hk em)
    exact⟨n::C,L,.more e em h1,by rw[zaw];omega⟩
theorem Ii(h:Bt K c aq keys row)(hn:n∈keys)(ha:(row n).above≠none):∃C L,Ch row n C L/\C.length<=c:=by
 obtain⟨C,L,h1,h2⟩:=L9 h keys.length n hn List.countP_le_length ha;exact⟨C,L,h1,zaX h2 h.kl⟩
theorem Ch.mem(h:Bt K c aq keys row):∀{C:List Str} {n L:Str},Ch row n C L->n∈keys->(∀x∈C,x∈keys)/\L∈keys
 |_,n,_,.one ha _,hn=>⟨λx hx=>by rw[zad hx];exact hn,h.ab n hn _ ha⟩
 |_,n,_,.more ha _ hc,hn=>by
  obtain⟨h1,h2⟩:=Ch.mem h hc (h.ab n hn _ ha);exact⟨λx hx=>(zaf hx).elim (λe=>e▸hn) (h1 x),h2⟩
theorem Ch.tr(h:Bt K c aq keys row):∀{C:List Str} {n L:Str},Ch row n C L->n∈keys->(aY n).above=(row n).above->(∀m∈keys,aT (K m) m (K n) n=true->(aY m).above=(row m).above/\(aY m).mark=(row m).mark)->Ch aY n C L
 |_,n,a,.one ha hm,hn,e,k=>.one (e.trans ha) (((k a (h.ab n hn a ha) (h.ho n hn a ha)).2).trans hm)
 |_,n,_,.more (a:=a) ha hm hc,hn,e,k=>
  .more (e.trans ha) (((k a (h.ab n hn a ha) (h.ho n hn a ha)).2).trans hm) (Ch.tr h hc (h.ab n hn a ha) (k a (h.ab n hn a ha) (h.ho n hn a ha)).1 λm hm l=>k m hm (fF l (h.ho n hn a ha)))
theorem sk(h1:m≠n)(h2:m≠a):dB row n a m=row m:=by
 unfold dB iR;rw[aD _ _ h2,aD _ _ h1]
theorem Bt.neA(h:Bt K c aq keys row)(hn:n∈keys)(ha:(row n).above=some a):a≠n:=λe=>by
 have:=h.ho n hn a ha;rw[e,lJ]at this;cases this
theorem Ch.cut(h:Bt K c aq keys row)(hn:n∈keys)(ha:(row n).above=some a)(hc:Ch row a C L):Ch (dB row n a) a C L:=by
 have ne:=h.neA hn ha;refine Ch.tr h hc (h.ab n hn a ha) (by rw[cS,if_neg ne]) λm hm l=>?_
 have e1:m≠n:=λe=>by
  subst e;have:=fF l (h.ho m hn a ha);rw[lJ]at this;cases this
 have e2:m≠a:=λe=>by
  subst e;rw[lJ]at l;cases l
 rw[sk e1 e2];exact⟨rfl,rfl⟩
end
def cuts:List Str->(Str->aL.Row)->Str->aL.Row
 | [],row=>row
 |n::C,row=>cuts C (dB row n ((row n).above.getD n))
theorem fj(ha:(row n).above=some a):cuts (n::C) row=cuts C (dB row n a):=by
 show cuts C (dB row n ((row n).above.getD n))=_;rw[ha];rfl
theorem jf:∀(C:List Str) (row:Str->aL.Row) (n:Str),(cuts C row n).key=(row n).key
 | [],_,_=>rfl
 |x::C,row,n=>(jf C _ n).trans (D6 _ _ _ _)
def stp(n:Str):D:=.tuple [.str "cut",.str n]
section
variable{keys:List Str}{row:Str->aL.Row}{aq:List Str}{c:Nat}
def mk(keys:List Str)(row:Str->aL.Row):Nat:=(keys.filter λn=>(row n).mark).length
def b1(b:Bool):Nat:=if b then 1 else 0
end
theorem mO{r:aL.Row}{a:PM}{ρ:Rho}(h:a ρ=some ((bE r,.fz),ρ)):IE (mCB iO (aF (mOp gIx a (mC (.int 3))) a9)) ρ (r.below.length:Int):=d7 (rs:=[(.tuple (r.below.map .str),.fz)]) (res:=(.int (r.below.length:Int),false)) (aJ (aj (g9 h)) a8) (by show some (PyData.int ((r.below.map PyData.str).length:Int),false)=_;rw[zal])
theorem Bt.more(h:Bt K c aq keys row)(hd:c<=d):Bt K d aq keys row :=
 ⟨h.nd,λn hn=>by obtain⟨i,hi,e⟩:=h.nm n hn;exact⟨i,by omega,e⟩,h.tn,h.tk,h.ne,h.mkd,h.ab,λn hn=>⟨by have:=(h.bl n hn).1;omega,(h.bl n hn).2⟩,h.ho⟩
theorem cT(ne:on≠name):bP row name on on=⟨(row on).key,(row on).above,(row on).mark,(row on).below++[name]⟩:=by
 unfold bP;rw[aM,aD _ _ ne]
theorem cE(ne:on≠name):bP row name on name=⟨(row name).key,some on,false,(row name).below⟩:=by
 unfold bP;rw[aD _ _ (λz=>ne z.symm),aM]
theorem cB(h1:n≠on)(h2:n≠name):bP row name on n=row n:=by
 unfold bP;rw[aD _ _ h1,aD _ _ h2]
theorem oy(ne:on≠name)(n:Str):(bP row name on n).key=(row n).key:=by
 by_cases e:n=on
 ·subst e;rw[cT ne]
 ·by_cases e2:n=name
  ·subst e2;rw[cE ne]
  ·rw[cB e e2]
theorem Bt.hung(h:Bt K c aq keys row)(hn:name∈aq)(ho:on∈aq)(ne:on≠name)(hlt:aT (K on) on (K name) name=true):Bt K (c+1) (aq.erase name) keys (bP row name on):=by
 have hk:=(h.tk name hn).1;have ok:=(h.tk on ho).1;refine⟨h.nd,(h.more (Nat.le_succ c)).nm,h.tn.erase _,λt ht=>?_,λm hm e=>?_,λn hnk hm=>?_,λn hnk a ha=>?_,λn hnk=>?_,λn hnk a ha=>?_⟩
 ·obtain⟨h1,h2⟩:=(za9 h.tn).mp ht
  refine⟨(h.tk t h2).1,?_⟩
  by_cases e:t=on
  ·subst e;rw[cT ne];exact(h.tk t h2).2
  ·rw[cB e h1];exact(h.tk t h2).2
 ·refine(za9 h.tn).mpr ⟨λz=>?_,h.ne m hm ?_⟩
  ·rw[z,cE ne]at e;cases e
  ·by_cases z:m=on
   ·rw[z,cT ne]at e;rw[z];exact e
   ·by_cases w:m=name
    ·rw[w,cE ne]at e;cases e
    ·rw[cB z w]at e;exact e
 ·by_cases e:n=on
  ·subst e;rw[cT ne]at hm⊢;exact h.mkd n hnk hm
  ·by_cases e2:n=name
   ·subst e2;rw[cE ne]at hm;cases hm
   ·rw[cB e e2]at hm⊢;exact h.mkd n hnk hm
 ·by_cases e:n=on
  ·subst e;rw[cT ne]at ha;exact h.ab n hnk a ha
  ·by_cases e2:n=name
   ·subst e2;rw[cE ne]at ha;cases ha;exact ok
   ·rw[cB e e2]at ha;exact h.ab n hnk a ha
 ·by_cases e:n=on
  ·subst e
   rw[cT ne];refine⟨?_,λb hb=>?_⟩
   ·show((row n).below++[name]).length<=c+1
    rw[zau,za7];have:=(h.bl n hnk).1;omega
   ·rcases zae (show b∈(row n).below++[name]from hb)with hb|hb
    ·exact(h.bl n hnk).2 b hb
    ·rw[zad hb];exact hk
  ·by_cases e2:n=name
   ·subst e2;rw[cE ne];exact⟨Nat.le_succ_of_le (h.bl n hnk).1,(h.bl n hnk).2⟩
   ·rw[cB e e2];exact⟨by have:=(h.bl n hnk).1;omega,(h.bl n hnk).2⟩
 ·by_cases e:n=on
  ·subst e;rw[cT ne]at ha;exact h.ho n hnk a ha
  ·by_cases e2:n=name
   ·subst e2;rw[cE ne]at ha;cases ha;exact hlt
   ·rw[cB e e2]at ha;exact h.ho n hnk a ha
theorem Bt.new(hc:c<130)(h:Bt K c aq keys row)(v:Int):aN c∉keys/\Bt (λn=>if n=aN c then v else K n) (c+1) (aq++[aN c]) (keys++[aN c]) (aX row (aN c) ⟨v,none,false,[]⟩):=by
 have hn:aN c∉keys:=λz=>by
  obtain⟨i,hi,e⟩:=h.nm _ z;exact qo c hc i hi e
 refine⟨hn,?_,λn hnk=>?_,?_,λt ht=>?_,λm hm e=>?_,λn hnk hm=>?_,λn hnk a ha=>?_,λn hnk=>?_,λn hnk a ha=>?_⟩
 ·rw[List.nodup_append]
  exact⟨h.nd,by simp,λx hx y hy=>by rw[zad hy];exact λe=>hn (by rw[<-e];exact hx)⟩
 ·rcases zae hnk with hx|hx
  ·obtain⟨i,hi,e⟩:=h.nm n hx;exact⟨i,by omega,e⟩
  ·exact⟨c,by omega,zad hx⟩
 ·rw[List.nodup_append]
  exact⟨h.tn,by simp,λx hx y hy=>by rw[zad hy];exact λe=>hn (by rw[<-e];exact(h.tk x hx).1)⟩
 ·rcases zae ht with hx|hx
  ·refine⟨zaW _ (h.tk t hx).1,?_⟩
   rw[aD _ _ (λz=>hn (by rw[<-z];exact(h.tk t hx).1))]
   exact(h.tk t hx).2
  ·rw[zad hx,aM]
   exact⟨by simp,rfl⟩
 ·by_cases z:m=aN c
  ·rw[z];simp
  ·rw[aD _ _ z]at e
   exact zaW _ (h.ne m ((zae hm).resolve_right λw=>z (zad w)) e)
 ·by_cases e:n=aN c
  ·subst e;rw[aM]at hm;cases hm
  ·rw[aD _ _ e]at hm⊢
   exact h.mkd n ((zae hnk).resolve_right λz=>e (zad z)) hm
 ·by_cases e:n=aN c
  ·subst e;rw[aM]at ha;cases ha
  ·rw[aD _ _ e]at ha
   exact zaW _ (h.ab n ((zae hnk).resolve_right λz=>e (zad z)) a ha)
 ·by_cases e:n=aN c
  ·subst e;rw[aM];exact⟨Nat.zero_le _,λb hb=>by cases hb⟩
  ·rw[aD _ _ e]
   have h1:=h.bl n ((zae hnk).resolve_right λz=>e (zad z))
   exact⟨by have:=h1.1;omega,λb hb=>zaW _ (h1.2 b hb)⟩
 ·by_cases e:n=aN c
  ·subst e;rw[aM]at ha;cases ha
  ·rw[aD _ _ e]at ha
   have hk:=(zae hnk).resolve_right λz=>e (zad z)
   rw[if_neg e,if_neg (λz=>hn (by rw[<-z];exact h.ab n hk a ha))]
   exact h.ho n hk a ha
abbrev Bk(c:Nat)(aq keys:List Str)(row:Str->aL.Row):Prop:=Bt (λn=>(row n).key) c aq keys row
theorem Bt.re(h:Bt K c aq keys row)(e:∀n∈keys,K n=(row n).key):Bk c aq keys row :=
 ⟨h.nd,h.nm,h.tn,h.tk,h.ne,h.mkd,h.ab,h.bl,λn hn a ha=>by rw[<-e n hn,<-e a (h.ab n hn a ha)];exact h.ho n hn a ha⟩
theorem Bk.new(hc:c<130)(h:Bk c aq keys row)(v:Int):aN c∉keys/\Bk (c+1) (aq++[aN c]) (keys++[aN c]) (aX row (aN c) ⟨v,none,false,[]⟩) :=
 ⟨(Bt.new hc h v).1,(Bt.new hc h v).2.re λn _=>by
  by_cases e:n=aN c
  ·subst e;rw[aM,if_pos rfl]
  ·rw[aD _ _ e,if_neg e]⟩
theorem oz{l:List Str}(h:∀x∈l,PyData.strOk x=true):PyData.canLayAll0 (l.map .str)=true/\PyData.depthAll (l.map .str)<=1:=by
 induction l with
 |nil=>exact⟨rfl,by simp[PyData.depthAll]⟩
 |cons x l ih=>
  obtain⟨h1,h2⟩:=ih λy hy=>h y (zak _ hy)
  refine⟨?_,?_⟩
  ·simp only[List.map_cons,PyData.canLayAll0,PyData.canLay0,h x List.mem_cons_self,h1,Bool.and_true]
  ·simp only[List.map_cons,PyData.depthAll,PyData.depth]
   omega
theorem Bv(h:∀x∈l,PyData.strOk x=true):SeqAt.shaped (TD l)=true:=by
 obtain⟨h1,h2⟩:=oz h;unfold SeqAt.shaped;rw[zaH (by simp only[PyData.depth];omega),Bool.and_true]
 simp only[PyData.canLay0,h1]
theorem jg:∀l:List Str,a6 (l.map .str)=true
 | []=>rfl
 |x::l=>by
  show(dU (.str x)&&a6 (l.map .str))=true;rw[jg l];rfl
theorem zT(h:Is ρ i (TD l)):IE (mCB iO (aF (ai i) a9)) ρ (l.length:Int):=by
 have:=Kn h
 rwa[zal]at this
def gf:Nat->Nat×Nat
 |0=>(1,1)
 |n+1=>((gf n).2+(gf n).1,(gf n).1)
def gd(d:Nat):Nat:=(gf d).1
inductive Up(row:Str->aL.Row):Str->Str->Prop
 |refl (m:Str):Up row m m
 |step {m a n:Str}:(row m).above=some a->Up row a n->Up row m n
section
variable{K:Str->Int}{c:Nat}{aq keys:List Str}{row:Str->aL.Row}
structure Fm(keys:List Str)(row:Str->aL.Row):Prop where
 nd:∀n∈keys,(row n).below.Nodup
 up:∀n∈keys,∀b∈(row n).below,b∈keys/\(row b).above=some n
 dn:∀m∈keys,∀a,(row m).above=some a->m∈(row a).below
 dg:∀n∈keys,∀(i:Nat) (b:Str),(row n).below[i]?=some b->i<=(row b).below.length+b1 (row b).mark
open Classical in
open Classical in
theorem Fm.zero(row:Str->aL.Row):Fm [] row:=⟨(λn hn=>by cases hn),(λn hn=>by cases hn),(λn hn=>by cases hn),λn hn=>by cases hn⟩
theorem Fm.new(f:Fm keys row)(ab:∀n∈keys,∀a,(row n).above=some a->a∈keys)(hx:x∉keys)(v:Int):Fm (keys++[x]) (aX row x ⟨v,none,false,[]⟩):=by
 have ne:∀{n:Str},n∈keys->n≠x:=fun{n} hn e=>hx (e▸hn)
 have spl:∀{n:Str},n∈keys++[x]->n≠x->n∈keys:=fun{n} hn e=>(zae hn).resolve_right λz=>e (zad z)
 refine⟨λn hn=>?_,λn hn b hb=>?_,λm hm a e=>?_,λn hn i b e=>?_⟩
 ·by_cases e:n=x
  ·subst e;rw[aM];exact List.nodup_nil
  ·rw[aD _ _ e];exact f.nd n (spl hn e)
 ·by_cases e:n=x
  ·subst e;rw[aM]at hb;cases hb
  ·rw[aD _ _ e]at hb
   obtain⟨h1,h2⟩:=f.up n (spl hn e) b hb;rw[aD _ _ (ne h1)];exact⟨zaW _ h1,h2⟩
 ·by_cases z:m=x
  ·subst z;rw[aM]at e;cases e
  ·rw[aD _ _ z]at e
   rw[aD _ _ (ne (ab m (spl hm z) a e))];exact f.dn m (spl hm z) a e
 ·by_cases z:n=x
  ·subst z;rw[aM]at e;simp at e
  ·rw[aD _ _ z]at e
   have hb:=f.up n (spl hn z) b (zaj e);rw[aD _ _ (ne hb.1)];exact f.dg n (spl hn z) i b e
theorem Fm.hung(f:Fm keys row)(hx:x∈keys)(hy:y∈keys)(ne:y≠x)(tx:(row x).above=none)(ed:(row x).below.length=(row y).below.length):Fm keys (bP row x y):=by
 have kb:∀{n:Str},n≠y->(bP row x y n).below=(row n).below:=fun{n} e=>by
  by_cases z:n=x
  ·subst z;rw[cE ne]
  ·rw[cB e z]
 have ky:(bP row x y y).below=(row y).below++[x]:=by rw[cT ne]
 have ka:∀{n:Str},n≠x->(bP row x y n).above=(row n).above:=fun{n} e=>by
  by_cases z:n=y
  ·subst z;rw[cT ne]
  ·rw[cB z e]
 have kx:(bP row x y x).above=some y:=by rw[cE ne]
 have km:∀{n:Str},n≠x->(bP row x y n).mark=(row n).mark:=fun{n} e=>by
  by_cases z:n=y
  ·subst z;rw[cT ne]
  ·rw[cB z e]
 have nb:∀n∈keys,x∉(row n).below:=λn hn z=>by
  rw[(f.up n hn x z).2]at tx;cases tx
 have old:∀n∈keys,∀b∈(row n).below,b∈keys/\(bP row x y b).above=some n:=λn hn b hb=>by
  obtain⟨h1,h2⟩:=f.up n hn b hb;exact⟨h1,by rw[ka λe=>nb n hn (e▸hb)];exact h2⟩
 have dl:∀b:Str,(row b).below.length<=(bP row x y b).below.length:=λb=>by
  by_cases z:b=y
  ·subst z;rw[ky,zau];omega
  ·rw[kb z];exact zap _
 have odg:∀n∈keys,∀(i:Nat) (b:Str),(row n).below[i]?=some b->i<=(bP row x y b).below.length+b1 (bP row x y b).mark:=λn hn i b e=>by
  have h1:=f.dg n hn i b e;have h2:=dl b;rw[km λz=>nb n hn (z▸zaj e)]
  omega
 refine⟨λn hn=>?_,λn hn b hb=>?_,λm hm a e=>?_,λn hn i b e=>?_⟩
 ·by_cases z:n=y
  ·subst z
   rw[ky,List.nodup_append];exact⟨f.nd n hn,by simp,λp hp q hq=>by rw[zad hq];exact λe=>nb n hn (e▸hp)⟩
  ·rw[kb z];exact f.nd n hn
 ·by_cases z:n=y
  ·subst z
   rw[ky]at hb;rcases zae hb with hb|hb
   ·exact old n hn b hb
   ·rw[zad hb];exact⟨hx,kx⟩
  ·rw[kb z]at hb;exact old n hn b hb
 ·by_cases z:m=x
  ·subst z
   rw[kx]at e;cases e
   rw[ky];simp
  ·rw[ka z]at e
   have:=f.dn m hm a e
   by_cases w:a=y
   ·subst w;rw[ky];exact zaW _ this
   ·rw[kb w];exact this
 ·by_cases z:n=y
  ·subst z
   rw[ky]at e
   by_cases l:i<(row n).below.length
   ·rw[zax l]at e;exact odg n hn i b e
   ·rw[zaN (by omega)]at e
    cases q:i-(row n).below.length with
    |zero=>
     rw[q]at e;simp at e;subst e;rw[kb λw=>ne w.symm]
     omega
    |succ k=>rw[q]at e;simp at e
  ·rw[kb z]at e;exact odg n hn i b e
structure FmX(keys:List Str)(row:Str->aL.Row)(x:Str):Prop where
 nd:∀n∈keys,(row n).below.Nodup
 up:∀n∈keys,∀b∈(row n).below,b∈keys/\(row b).above=some n
 dn:∀m∈keys,∀a,(row m).above=some a->m∈(row a).below
 dg:∀n∈keys,∀(i:Nat) (b:Str),(row n).below[i]?=some b->b≠x->i<=(row b).below.length+b1 (row b).mark
theorem Fm.x(f:Fm keys row)(x:Str):FmX keys row x:=⟨f.nd,f.up,f.dn,λn hn i b e _=>f.dg n hn i b e⟩
theorem wH:∀l:List Str,l.Nodup->n∈l->(l.filter λx=>!decide (x=n)).length+1=l.length
 |y::l,nd,h=>by
  obtain⟨n1,n2⟩:=List.nodup_cons.mp nd;rw[List.filter_cons]
  by_cases e:y=n
  ·subst e
   rw[if_neg (by simp),zaw,List.filter_eq_self.mpr λx hx=>by
    have:x≠y:=λe=>n1 (e▸hx)
    simpa using this]
  ·rw[if_pos (by simpa using e),zaw,zaw,wH l n2 ((zaf h).resolve_left λz=>e z.symm)]
theorem ui:∀(l:List Str) (i:Nat) (b:Str),(l.filter p)[i]?=some b->∃j,i<=j/\l[j]?=some b
 | [],i,b,h=>by simp at h
 |y::l,i,b,h=>by
  rw[List.filter_cons]at h;split at h
  ·cases i with
   |zero=>exact⟨0,zap _,by simpa using h⟩
   |succ i=>
    obtain⟨j,h1,h2⟩:=ui l i b (by simpa using h)
    exact⟨j+1,by omega,by simpa using h2⟩
  ·obtain⟨j,h1,h2⟩:=ui l i b h
   exact⟨j+1,by omega,by simpa using h2⟩
theorem FmX.cut(f:FmX keys row n)(sa:∀m∈keys,(row m).above≠some m)(hn:n∈keys)(hk:a∈keys)(ha:(row n).above=some a)(ne:a≠n):FmX keys (dB row n a) a/\((row a).mark=false->Fm keys (dB row n a)):=by
 have ca:∀{m:Str},m≠n->(dB row n a m).above=(row m).above:=fun{m} e=>by rw[cS,if_neg e]
 have ba:(dB row n a a).below=(row a).below.filter λx=>!decide (x=n):=by
  unfold dB iR;rw[aM,aD _ _ ne]
 have bo:∀{m:Str},m≠a->(dB row n a m).below=(row m).below:=fun{m} e=>by
  unfold dB iR;rw[aD _ _ e]
  by_cases z:m=n
  ·subst z;rw[aM]
  ·rw[aD _ _ z]
 have sub:∀{m b:Str},m∈keys->b∈(dB row n a m).below->b∈(row m).below/\b≠n:=fun{m b} hm hb=>by
  by_cases e:m=a
  ·subst e
   rw[ba]at hb;obtain⟨h1,h2⟩:=List.mem_filter.mp hb;exact⟨h1,by simpa using h2⟩
  ·rw[bo e]at hb
   refine⟨hb,λz=>?_⟩
   subst z;rw[(f.up m hm b hb).2]at ha;cases ha;exact e rfl
 have dl:=wH (n:=n) (row a).below (f.nd a hk) (f.dn n hn a ha);have o:FmX keys (dB row n a) a:=by
  refine⟨λm hm=>?_,λm hm b hb=>?_,λm hm x e=>?_,λm hm i b e nb=>?_⟩
  ·by_cases e:m=a
   ·subst e;rw[ba];exact(f.nd m hm).sublist List.filter_sublist
   ·rw[bo e];exact f.nd m hm
  ·obtain⟨h1,h2⟩:=sub hm hb
   rw[ca h2];exact f.up m hm b h1
  ·by_cases z:m=n
   ·subst z;rw[cS,if_pos rfl]at e;cases e
   ·rw[ca z]at e
    have:=f.dn m hm x e
    by_cases w:x=a
    ·subst w;rw[ba];exact List.mem_filter.mpr ⟨this,by simpa using z⟩
    ·rw[bo w];exact this
  ·have hb:=(sub hm (zaj e)).2
   have key:∀j,i<=j->(row m).below[j]?=some b->i<=(dB row n a b).below.length+b1 (dB row n a b).mark:=λj hj ej=>by
    have:=f.dg m hm j b ej hb;rw[bo nb,sk hb nb];omega
   by_cases z:m=a
   ·subst z
    rw[ba]at e;obtain⟨j,h1,h2⟩:=ui _ i b e;exact key j h1 h2
   ·rw[bo z]at e;exact key i (zap _) e
 refine⟨o,λhm=>⟨o.nd,o.up,o.dn,λm hmk i b e=>?_⟩⟩
 by_cases nb:b=a
 ·subst nb
  have hu:=o.up m hmk b (zaj e);have hs:(dB row n b b).mark=true:=by
   unfold dB;rw[aM];show(iR row n b).above.isSome=true;rw[qq,if_neg ne,<-ca ne,hu.2];rfl
  have mb:m≠b:=λz=>by
   subst z;exact sa m hmk (f.up m hmk m (sub hmk (zaj e)).1).2
  rw[bo mb]at e;have:=f.dg m hmk i b e (λz=>ne z)
  rw[ba,hs];rw[hm]at this;have h1:b1 true=1:=rfl;have h0:b1 false=0:=rfl;omega
 ·exact o.dg m hmk i b e nb
theorem Fm.cuts:∀(C aq:List Str) (row:Str->aL.Row) (n L:Str),Bt K c aq keys row->n∈keys->FmX keys row n->Ch row n C L->Fm keys (cuts C row):=by
 intro C
 induction C with
 |nil=>intro aq row n L _ _ _ hch;cases hch
 |cons x C ih=>
  intro aq row n L h hn f hch;have sa:∀m∈keys,(row m).above≠some m:=λm hm e=>h.neA hm e rfl
  cases hch with
  |one ha hm=>
   rw[fj ha];exact(f.cut sa hn (h.ab x hn _ ha) ha (h.neA hn ha)).2 hm
  |more ha hm hch=>
   rename_i a
   have hka:=h.ab x hn a ha;rw[fj ha];exact ih (aq++[x]) (dB row x a) a L (h.cut hn ha) hka (f.cut sa hn hka ha (h.neA hn ha)).1 (Ch.cut h hn ha hch)
end
theorem wI(f:Option Str):js (eL f) .none=some (.bool f.isSome,false):=by cases f<;>rfl
theorem qt(f:Option Str):gIs (eL f) .none=some (.bool f.isNone,false):=by cases f<;>rfl
theorem wJ(l:List Str)(x:Str):l.map PyData.str++[.str x]=(l++[x]).map .str:=by rw[za1];rfl
theorem D8{a:PM}{ρ ρ1:Rho}{l:List D}{k:Kd}(h1:sv a ρ=some ((.tuple l,k),ρ1)):Ay a ρ=some (l,ρ1):=by
 unfold Ay;rw[h1];rfl
theorem D9(cs:List Int):ot (cs.map .int)=(cs.zipIdx).map λp:Int×Nat=>PyData.tuple [.int (p.2:Int),.int p.1]:=by
 unfold ot;refine List.ext_getElem? λi=>?_
 rw[List.getElem?_mapIdx,zao,zao,List.getElem?_zipIdx];cases cs[i]? <;>simp
theorem Bt.zero(row:Str->aL.Row):Bk 0 [] [] row:=⟨by simp,(λn hn=>by cases hn),by simp,(λn hn=>by cases hn),(λn hn=>by cases hn),(λn hn=>by cases hn),(λn hn=>by cases hn),(λn hn=>by cases hn),λn hn=>by cases hn⟩
theorem Ea(h0:ds.length=n)(h1:b (ds.map .fz++List.replicate k .no)=some w):fnD n k b ds=some w:=by unfold fnD;rw[if_pos h0,h1]
theorem iu(h1:a ρ=some (.nx ρ1))(h2:b ρ1=o):k7 a b ρ=o:=by unfold k7;rw[h1,zai];exact h2
def names(c:Nat):List Str:=(List.range c).map aN
structure Gp(o:Str->Prop)(c:Nat)(row:Str->aL.Row):Prop where
 ab:∀i,i<c->∀a,(row (aN i)).above=some a->(∃j,j<c/\a=aN j)/\(row a).key<(row (aN i)).key
 mkd:∀i,i<c->(row (aN i)).mark=true->(row (aN i)).above≠none
 bl:∀i,i<c->(row (aN i)).below.length<=c/\∀b∈(row (aN i)).below,(∃j,j<c/\b=aN j)/\(row b).above=some (aN i)
 nd:∀i,i<c->(row (aN i)).below.Nodup
 dg:∀i,i<c->∀(p:Nat) (b:Str),(row (aN i)).below[p]?=some b->p<=(row b).below.length+b1 (row b).mark
 dn:∀i,i<c->∀a,(row (aN i)).above=some a->¬o a->aN i∈(row a).below
theorem Ec(ns:List Int)(lo hi:Nat):∃cs:List Int,cutD (ns.map .int) (some (lo:Int)) (some (hi:Int))=cs.map .int/\cs.length<=hi-lo/\∀c∈cs,c∈ns:=by
 unfold cutD;refine⟨(ns.drop (HT.sIx (ns.map PyData.int).length 0 (some (lo:Int)))).take (HT.sIx (ns.map PyData.int).length (ns.map PyData.int).length (some (hi:Int))-HT.sIx (ns.map PyData.int).length 0 (some (lo:Int))),by rw[List.map_take,List.map_drop],?_,λc hc=>List.mem_of_mem_drop (List.mem_of_mem_take hc)⟩
 rw[List.length_take,List.length_drop];simp only[HT.sIx,List.length_map];rw[if_neg (by omega),if_neg (by omega)]
 omega
inductive Hs:List Str->(Str->aL.Row)->List (Str×Str)->List Str->(Str->aL.Row)->Prop
 |nil {T:List Str} {row:Str->aL.Row}:Hs T row [] T row
 |cons {T T':List Str} {row aY:Str->aL.Row} {x y:Str} {r:List (Str×Str)}:x∈T->y∈T->y≠x->aT (row y).key y (row x).key x=true->(row x).below.length=(row y).below.length->Hs (T.erase x) (bP row x y) r T' aY->Hs T row ((x,y)::r) T' aY
theorem Hs.snoc(h:Hs T row r T' aY)(hx:x∈T')(hy:y∈T')(ne:y≠x)(lt:aT (aY y).key y (aY x).key x=true)(ed:(aY x).below.length=(aY y).below.length):Hs T row (r++[(x,y)]) (T'.erase x) (bP aY x y):=by
 induction h with
 |nil=>exact .cons hx hy ne lt ed .nil
 |cons a b c d e _ ih=>exact .cons a b c d e (ih hx hy lt ed)
theorem Hs.len(h:Hs T row r T' aY):T'.length+r.length=T.length:=by
 induction h with
 |nil=>rfl
 |cons a b c d e _ ih=>
  rw[List.length_erase_of_mem a]at ih;have:=List.length_pos_of_mem a;rw[zaw];omega
theorem Hs.sub(h:Hs T row r T' aY)(nd:T.Nodup):T'.Nodup/\(∀t∈T',t∈T)/\∀m,m∉T->aY m=row m:=by
 induction h with
 |nil=>exact⟨nd,λt ht=>ht,λ_ _=>rfl⟩
 | @cons T T' row aY x y r a b c d e _ ih=>
  obtain⟨h1,h2,h3⟩:=ih (nd.erase _);refine⟨h1,λt ht=>List.mem_of_mem_erase (h2 t ht),λm hm=>?_⟩
  rw[h3 m λz=>hm (List.mem_of_mem_erase z),cB (λz=>hm (by rw[z];exact b)) (λz=>hm (by rw[z];exact a))]
theorem Hs.aq(h:Hs T row r T' aY)(nd:T.Nodup)(ha:∀t∈T,(row t).above=none):T'=T.filter (λt=>(aY t).above.isNone):=by
 induction h with
 |nil=>exact(List.filter_eq_self.mpr λt ht=>by rw[ha t ht];rfl).symm
 | @cons T T' row aY x y r a b c d e hs ih=>
  have nx:x∉T.erase x:=λz=>((za9 nd).mp z).1 rfl
  have hx:(aY x).above=some y:=by rw[(hs.sub (nd.erase _)).2.2 x nx,cE c]
  rw[ih (nd.erase _) λt ht=>?_,List.Nodup.erase_eq_filter nd,List.filter_filter]
  ·refine List.filter_congr λt ht=>?_
   by_cases z:t=x
   ·subst z;rw[hx];rfl
   ·simp[z]
  ·obtain⟨z1,z2⟩:=(za9 nd).mp ht
   by_cases w:t=y
   ·subst w;rw[cT c];exact ha t z2
   ·rw[cB w z1];exact ha t z2
section
variable{c:Nat}{aq keys:List Str}{row:Str->aL.Row}
theorem Bt.Ma(h:Bt K d aq keys row)(f:Fm keys row)(nm:∀n∈keys,∃i,i<c/\n=aN i):Bt K c aq keys row:=by
 have kl:keys.length<=c:=by
  have:=aL.ja keys ((List.range c).map aN) h.nd λx hx=>by
   obtain⟨i,hi,rfl⟩:=nm x hx;exact List.mem_map_of_mem (List.mem_range.mpr hi)
  simpa using this
 exact⟨h.nd,nm,h.tn,h.tk,h.ne,h.mkd,h.ab,λn hn=>⟨zaX (aL.ja _ keys (f.nd n hn) (h.bl n hn).2) kl,(h.bl n hn).2⟩,h.ho⟩
theorem Bk.hang(h:Bk c aq keys row)(f:Fm keys row)(hx:x∈aq)(hy:y∈aq)(ne:y≠x)(lt:aT (row y).key y (row x).key x=true)(ed:(row x).below.length=(row y).below.length):Bk c (aq.erase x) keys (bP row x y)/\Fm keys (bP row x y):=by
 have f':=f.hung (h.tk x hx).1 (h.tk y hy).1 ne (h.tk x hx).2 ed;exact⟨((Bt.hung h hx hy ne lt).Ma f' h.nm).re λn _=>(oy ne n).symm,f'⟩
theorem Hs.inv(hs:Hs aq row r T' aY):Bk c aq keys row->Fm keys row->Bk c T' keys aY/\Fm keys aY:=by
 induction hs with
 |nil=>exact λh f=>⟨h,f⟩
 |cons a b c' d e _ ih=>exact λh f=>ih (Bk.hang h f a b c' d e).1 (Bk.hang h f a b c' d e).2
end
def alL(al:List (Nat×Str)):List (D×D):=al.map λp=>(PyData.int (p.1:Int),PyData.str p.2)
abbrev AL(al:List (Nat×Str)):D:=.dict (alL al)
theorem o7(d:Nat):∀al:List (Nat×Str),dO (alL al) (.inl (d:Int))=(al.lookup d).map .str
 | []=>rfl
 |(e,t)::al=>by
  show(if keyOf (.int (e:Int))=some (.inl (d:Int))then some (.str t)else dO (alL al) (.inl (d:Int)))=_
  by_cases z:d=e
  ·subst z
   rw[if_pos (show keyOf (PyData.int (d:Int))=some (.inl (d:Int))from rfl),za8,beq_self_eq_true];rfl
  ·rw[if_neg (λw=>z (by
    have:(e:Int)=(d:Int):=by injection w with w;injection w
    omega)),za8,beq_eq_false_iff_ne.mpr z,o7 d al]
theorem GL(d:Nat)(al:List (Nat×Str)):lg (alL al) (.inl (d:Int))=alL (al.filter λp=>decide (p.1≠d)):=by
 unfold lg alL;rw[List.filter_map]
 congr 1
 refine List.filter_congr λp _=>?_
 have:(keyOf (PyData.int (p.1:Int))≠some (Sum.inl (d:Int)))↔p.1≠d:=by
  refine⟨λh e=>h (by rw[e];rfl),λh w=>h ?_⟩
  have w':some (Sum.inl (p.1:Int):Key)=some (Sum.inl (d:Int)):=w;have:(p.1:Int)=(d:Int):=by injection w' with w;injection w
  omega
 exact decide_eq_decide.mpr this
theorem Ks{d:Nat}{al:List (Nat×Str)}(h:al.lookup d=none)(t:Str):putD (alL al) (.int (d:Int)) (.str t) (.inl (d:Int))=alL (al++[(d,t)]):=by
 unfold putD;rw[o7,h];show(if false=true then _ else _)=_
 rw[if_neg zam];unfold alL;rw[za1];rfl
theorem Ij(d:Nat)(al:List (Nat×Str)):mr (.int (d:Int)) (AL al)=some (.bool (al.lookup d).isSome,false):=by
 show some (PyData.bool (dO (alL al) (.inl (d:Int))).isSome,false)=_;rw[o7];cases al.lookup d<;>rfl
variable{keys:List Str}{row:Str->aL.Row}{aq:List Str}{c:Nat}
theorem ym(keys:List Str)(row:Str->aL.Row)(n:Str):mv (.str n) (HD keys row)=some (.bool (!decide (n∈keys)),false):=by
 show some (PyData.bool (!(dO (cj keys row) (.inr n)).isSome),false)=_;rw[fV]
 by_cases h:n∈keys
 ·rw[if_pos h,zaH h];rfl
 ·rw[if_neg h,zaO h];rfl
theorem gv(hn:n∈keys):bV [HD keys row,.str n]=some (.tuple [.int (row n).key,.str n],false) :=
 d4 (o:=.rt (.tuple [.int (row n).key,.str n],.fz) [.fz (HD keys row),.fz (.str n)]) rfl (fy (jw (rs:=[(.int (row n).key,.fz),(.str n,.fz)]) (CS (kQ (dS (.inl rfl) hn (az rfl))) (aJ (aj (az rfl)) a8)) rfl (by simp))) rfl
theorem Kt{fr:List (Str×Nat)}{dv:PM}{cc:Rho->Option (Bool×Rho)}{e:PM}{ρ:Rho}{ys:List D}(h1:dv ρ=some ((HD keys row,.fz),ρ))(hr:gr ρ=true)(h2:gp cc e (fr.map λp=>bh ρ p.2) (keys.map .str)=some ys)(h3:ys.length<=100000):qf fr dv cc e ρ=some ((.list ys,.new),ρ):=by
 unfold qf;rw[h1,zai];dsimp only[my,Option.bind_some];rw[if_pos hr,kP,h2,zai,bg (pR h3)]
theorem sr(hkl:keys.length<=950):dq [.tuple [TD aq,HD keys row]]=some (.int ((aq.length:Int)+2*((keys.filter λn=>(row n).mark).length:Int)),false):=by
 have fl:(keys.filter λn=>(row n).mark).length<=1000:=zaX (zaY _ _) (by omega)
 have f1:qf [("pile",0)] (tQ (gJ 0) 1) jT jU [.fz (.tuple [TD aq,HD keys row]),.no]=some ((TD (keys.filter λn=>(row n).mark),.new),[.fz (.tuple [TD aq,HD keys row]),.no]):=by
  refine Kt rfl rfl ?_ (by rw[zal];omega)
  refine fG (p:=λn=>(row n).mark) keys (λn hn=>⟨_,test_ev (k:=.fz) (mL (nL hn (aj (bD (r:=(.int 1,.fz)) (res:=(HD keys row,false)) (aj (az rfl)) (aj rfl) rfl)) (az rfl)))⟩) λn hn=>⟨_,aj (az rfl)⟩
 have l0:IE (mCB iO (aF (mOp gIx (ai 0) (mC (.int 0))) a9)) [.fz (.tuple [TD aq,HD keys row]),.own (TD (keys.filter λn=>(row n).mark))] (aq.length:Int):=d7 (rs:=[(TD aq,.fz)]) (res:=(.int (aq.length:Int),false)) (aJ (aj (bD (r:=(.int 0,.fz)) (res:=(TD aq,false)) (aj (az rfl)) (aj rfl) rfl)) a8) (by show some (PyData.int ((aq.map PyData.str).length:Int),false)=_;rw[zal])
 have l1:IE (mCB iO (aF (ai 1) a9)) [.fz (.tuple [TD aq,HD keys row]),.own (TD (keys.filter λn=>(row n).mark))] ((keys.filter λn=>(row n).mark).length:Int):=zT (.inr (.inl rfl))
 exact d4 (o:=.rt (.int ((aq.length:Int)+2*((keys.filter λn=>(row n).mark).length:Int)),.fz) [.fz (.tuple [TD aq,HD keys row]),.own (TD (keys.filter λn=>(row n).mark))]) rfl (dJ (jv f1 rfl) (fy (CO l0 (CP cZ l1 (Lx (.inl ⟨by omega,by omega⟩)))))) rfl
theorem zU(h1:a ρ=some (.ok (.nx ρ1)))(h2:b ρ1=o):tG a b ρ=o:=by unfold tG;rw[h1];exact h2
theorem zV{a b:EM}{ρ ρ1:Rho}{c:Str}(h1:a ρ=some (.er c ρ1)):tG a b ρ=some (.er c ρ1):=by unfold tG;rw[h1];rfl
theorem qu(h:m ρ=some o):mf m ρ=some (.ok o):=by unfold mf;rw[h];rfl
theorem Mb{c:Rho->Option (Bool×Rho)}{a b:EM}{ρ ρ1:Rho}{o:Option pZ}(h1:c ρ=some (true,ρ1))(h2:a ρ1=o):eIf c a b ρ=o:=by unfold eIf;rw[h1,zai];dsimp only;rw[if_pos rfl,h2]
theorem Mc{c:Rho->Option (Bool×Rho)}{a b:EM}{ρ ρ1:Rho}{o:Option pZ}(h1:c ρ=some (false,ρ1))(h2:b ρ1=o):eIf c a b ρ=o:=by unfold eIf;rw[h1,zai];dsimp only;rw[if_neg zam,h2]
theorem Ku{n k:Nat}{b:EM}{ds:List D}{c:Str}{ρ:Rho}(hl:ds.length=n)(h:b (ds.map .fz++List.replicate k .no)=some (.er c ρ)):fnX n k b ds=some (.inr c):=by
 unfold fnX;rw[if_pos hl,h];rfl
abbrev PD(aq keys:List Str)(row:Str->aL.Row):D:=.tuple [TD aq,HD keys row]
theorem gw(h : ρ[i]?=some (.fz (PD aq keys row))):mOp gIx (ai i) (mC (.int 1)) ρ=some ((HD keys row,.fz),ρ):=bD (r:=(.int 1,.fz)) (res:=(HD keys row,false)) (aj (az h)) (aj rfl) rfl
theorem lu(h : ρ[i]?=some (.fz (PD aq keys row))):mOp gIx (ai i) (mC (.int 0)) ρ=some ((TD aq,.fz),ρ):=bD (r:=(.int 0,.fz)) (res:=(TD aq,false)) (aj (az h)) (aj rfl) rfl
theorem Ed(h : ρ[i]?=some (.fz (PD aq keys row)))(hj : ρ[j]?=some (.fz (.str n))):BE (mOp mv (ai j) (mOp gIx (ai i) (mC (.int 1)))) ρ (!decide (n∈keys)):=bD (r:=(HD keys row,.fz)) (res:=(.bool (!decide (n∈keys)),false)) (aj (az hj)) (aj (gw h)) (ym keys row n)
theorem zW(hn:n∈keys):dc [PD aq keys row,.str n]=some (.none,false) :=
 d4 (o:=.nx [.fz (PD aq keys row),.fz (.str n)]) rfl (pV (pY (Ed (i:=0) (j:=1) rfl rfl) (by rw[zaH hn];rfl)) rfl) rfl
def rOk(r:aL.Row):Prop:=(∀a,r.above=some a->PyData.strOk a=true)/\∀b∈r.below,PyData.strOk b=true
theorem yn(h:rOk r):SeqAt.shaped (bE r)=true:=by
 obtain⟨h1,h2⟩:=oz h.2;have ha:PyData.canLay0 (eL r.above)=true/\PyData.depth (eL r.above)=0:=by
  cases e:r.above with
  |none=>exact⟨rfl,by simp[eL,PyData.depth]⟩
  |some a=>exact⟨by simp only[eL,PyData.canLay0,h.1 a e],by simp[eL,PyData.depth]⟩
 unfold SeqAt.shaped bE;rw[zaH (by simp only[PyData.depth,PyData.depthAll,ha.2];omega),Bool.and_true]
 simp only[PyData.canLay0,PyData.canLayAll0,ha.1,h1,Bool.and_true,Bool.true_and]
theorem GN(h1:sv a ρ=some ((d,k),ρ1))(h2:Dw n d=some (.bool v,false)):v7 n a ρ=some ((.bool v,.fz),ρ1):=by
 unfold v7 mUn;rw[h1,zai];dsimp only;rw[h2];rfl
theorem GO{dv:PM}{g:D->Rho->Option Rho}{b:SM}{ρ ρ1:Rho}{o:Out}(h1:dv ρ=some ((HD keys row,.fz),ρ1))(hr:gr ρ=true)(h2:forL g b (keys.map λn=>PyData.tuple [.str n,bE (row n)]) ρ1=some o)(h3:gr (AX o)=true):zI dv g b ρ=some o:=by
 unfold zI;rw[h1,zai];dsimp only[my,Option.bind_some];rw[if_pos hr,show j6 (cj keys row)=keys.map λn=>PyData.tuple [.str n,bE (row n)]from by unfold j6 cj;rw[List.map_map];rfl,h2,zai,if_pos h3]
theorem sx(r:aL.Row):je [bE r]=some (bE ⟨r.key,none,false,r.below⟩,false) :=
 d4 (o:=.rt (bE ⟨r.key,none,false,r.below⟩,.fz) [.fz (bE r)]) rfl (fy (jw (rs:=[(.int r.key,.fz),(.none,.fz),(.bool false,.fz),(.tuple (r.below.map .str),.fz)]) (aJ (aj (kQ (az rfl))) (aJ (aj rfl) (aJ (aj rfl) (aJ (aj (g9 (az rfl))) a8)))) rfl (by simp))) rfl
theorem uj(r:aL.Row):iD [bE r]=some (bE ⟨r.key,r.above,true,r.below⟩,false) :=
 d4 (o:=.rt (bE ⟨r.key,r.above,true,r.below⟩,.fz) [.fz (bE r)]) rfl (fy (jw (rs:=[(.int r.key,.fz),(eL r.above,.fz),(.bool true,.fz),(.tuple (r.below.map .str),.fz)]) (aJ (aj (kQ (az rfl))) (aJ (aj (eE (az rfl))) (aJ (aj rfl) (aJ (aj (g9 (az rfl))) a8)))) rfl (by simp))) rfl
theorem yo(hb:∀b∈r.below,PyData.strOk b=true)(hl:r.below.length<=1000)(hn:PyData.strOk n=true):kL [bE r,.str n]=some (bE ⟨r.key,r.above,r.mark,r.below.filter λx=>!decide (x=n)⟩,false):=by
 refine d4 (o:=.rt (bE ⟨r.key,r.above,r.mark,r.below.filter λx=>!decide (x=n)⟩,.fz) [.fz (bE r),.fz (.str n)]) rfl (fy (jw (rs:=[(.int r.key,.fz),(eL r.above,.fz),(.bool r.mark,.fz),(.tuple ((r.below.filter λx=>!decide (x=n)).map .str),.fz)]) (aJ (aj (kQ (az rfl))) (aJ (aj (eE (az rfl))) (aJ (aj (mL (az rfl))) (aJ (aj ?_) a8)))) rfl (by simp))) rfl
 refine d7 (rs:=[(.list ((r.below.filter λx=>!decide (x=n)).map .str),.fz)]) (res:=(.tuple ((r.below.filter λx=>!decide (x=n)).map .str),true)) (aJ (jt (vI (D8 (aj (g9 (az rfl)))) (fG (p:=λx=>!decide (x=n)) _ (λx hx=>⟨_,test_ev (k:=.fz) (bD (r:=(.str n,.fz)) (res:=(.bool (!decide (x=n)),false)) (aj (az rfl)) (aj (az rfl)) (zR (hb x hx) hn))⟩) λx hx=>⟨_,aj (az rfl)⟩) (by rw[zal];exact zaX (zaY _ _) (by omega)))) a8) rfl
theorem yp(h:Bt K c aq keys row)(x:D):∀(C:List Str) (n L a:Str) (pre:List Str) (fuel:Nat),Ch row n C L->n∈keys->(row n).above=some a->pre.length+C.length<=1000->C.length<=fuel->
  gC jb jc fuel [.fz (HD keys row),.fz x,.own (TD (pre++[n])),.fz (.str a)]=some (.nx [.fz (HD keys row),.fz x,.own (TD (pre++C)),.fz (.str L)]):=by
 intro C
 induction C with
 |nil=>intro n L a pre fuel hch;cases hch
 |cons y C ih=>
  intro n L a pre fuel hch hn ha hl hf;rw[zaw]at hl hf;obtain⟨fuel,rfl⟩:∃k,fuel=k+1:=⟨fuel-1,by omega⟩
  have hk:=h.ab n hn a ha;cases hch with
  |one hb hm=>
   rw[ha]at hb;cases hb;exact AF (test_ev (k:=.fz) (by rw[<-hm];exact mL (dS (.inl rfl) hk (az rfl))))
  |more hb hm hch=>
   rw[ha]at hb;cases hb;obtain⟨b,eb⟩:∃b,(row a).above=some b:=by cases hch with|one e _=>exact⟨_,e⟩|more e _ _=>exact⟨_,e⟩
   have h1:=ih a L b (pre++[y]) fuel hch hk eb (by rw[zau,za7];omega) (by omega)
   rw[zaD pre [y] C]at h1;refine CN (ρ1:=[.fz (HD keys row),.fz x,.own (TD (pre++[y])),.fz (.str a)]) (test_ev (k:=.fz) (by rw[<-hm];exact mL (dS (.inl rfl) hk (az rfl)))) ?_ h1
   refine dJ (ρ1:=[.fz (HD keys row),.fz x,.own (TD (pre++[y]++[a])),.fz (.str a)]) (FH (Ko (rs:=[(.str a,.fz)]) rfl rfl rfl rfl (Kq _ (by rw[zal,zau,za7];omega)) (by rw[wJ];rfl))) ?_
   exact pU (eE (dS (.inl rfl) hk (az rfl))) (by rw[eb];rfl)
theorem Ee(h:Bt K c aq keys row)(hn:n∈keys)(hch:Ch row n C L)(hl:C.length<=900):fE [HD keys row,.str n]=some (TD C,true):=by
 obtain⟨a,ea⟩:∃a,(row n).above=some a:=by cases hch with|one e _=>exact⟨_,e⟩|more e _ _=>exact⟨_,e⟩
 have h1:=yp h (.str n) C n L a [] 1000000 hch hn ea (by simp;omega) (by omega)
 rw[List.nil_append,List.nil_append]at h1;refine d4 (o:=.rt (TD C,.at 2) [.fz (HD keys row),.fz (.str n),.own (TD C),.fz (.str L)]) rfl ?_ rfl;refine dJ (ρ1:=[.fz (HD keys row),.fz (.str n),.own (TD [n]),.no]) (jv (xH (rs:=[(.str n,.fz)]) (aJ (aj (az rfl)) a8) rfl (by simp)) rfl) ?_
 refine dJ (ρ1:=[.fz (HD keys row),.fz (.str n),.own (TD [n]),.fz (.str a)]) (pU (eE (dS (.inl rfl) hn (az rfl))) (by rw[ea];rfl)) ?_
 exact dJ h1 (fy (ju rfl))
section
variable{α β:Type}
theorem dC(h:m s=some (.ok v s')):bN m k s=k v s':=by unfold bN;rw[h]
theorem fH(h:m s=some (.ok v s')):bS m k s=k v s':=by unfold bS;rw[h]
theorem aI(h:a s=some (.nx s'))(h2:b s'=o):bA a b s=o:=by unfold bA;rw[h];exact h2
theorem kR(h:a s=some (.rt r s')):bA a b s=some (.rt r s'):=by unfold bA;rw[h]
theorem ku{c:MN Bool}{a b:SN}{s s':SS}{o:Option fN}(h:c s=some (.ok true s'))(h2:a s'=o):iA c a b s=o:=by unfold iA;rw[fH h,if_pos rfl];exact h2
theorem gx{c:MN Bool}{a b:SN}{s s':SS}{o:Option fN}(h:c s=some (.ok false s'))(h2:b s'=o):iA c a b s=o:=by unfold iA;rw[fH h,if_neg zam];exact h2
theorem bW(h:a s=some (.ok x s'))(hi:i<s'.t.length):cD a (ngN i) s=some (.nx ⟨s'.S,s'.t.set i (some x)⟩):=by unfold cD;rw[fH h];unfold ngN;rw[if_pos hi]
theorem de(h:a s=some (.ok x s')):ik a s=some (.rt x s'):=by unfold ik;rw[fH h]
theorem eN(h:a s=some (.ok x s')):gH a s=some (.nx s'):=by unfold gH;rw[fH h]
theorem ao(h:s.t[i]?=some (some x)):aS i s=some (.ok x s):=by unfold aS;rw[h]
theorem aA(h:a s=some (.ok x s1))(h2:m s1=some (.ok xs s2)):ar a m s=some (.ok (x::xs) s2):=by unfold ar;rw[dC h,dC h2]
theorem cU(h:m s=some (.ok xs s1))(h2:f s1.S xs=some (.ok r S')):fg f m s=some (.ok r ⟨S',s1.t⟩):=by unfold fg;rw[dC h,h2];rfl
theorem fI:nLit d s=some (.ok (.pl d) s):=rfl
theorem bC:aZ s=some (.ok [] s):=rfl
theorem yq(h0:xs.length=n)(h1:b ⟨S,xs.map some++List.replicate k none⟩=some o)(h2:retS S.length o=some w):fnS n k b S xs=some w:=by
 unfold fnS;rw[if_pos h0,h1];exact h2
end
theorem nM{n:Nat}{S:List (Option Cl)}(h:zw n S=true){c:Cl}(hc:some c∈S.take n):blC n c=true:=by
 unfold zw at h;exact(List.all_eq_true.mp h) _ hc
theorem um{n:Nat}{c:Option Cl}(h:∀d,c=some d->blC n d=true):gcC n c=c:=by
 cases c with
 |none=>rfl
 |some d=>simp only[gcC,h d rfl,if_true]
theorem bJ{α:Type}{S X:List α}{j:Nat}{c : α}(h:S[j]?=some c):(S++X)[j]?=some c:=by
 rw[zax (zac h).1];exact h
theorem GP{α:Type}{S:List α}{c : α}:(S++[c])[S.length]?=some c:=List.getElem?_concat_length
theorem uo(h:∀y,x=some y->blV n y=true):gcV n x=x:=by
 cases x with
 |none=>rfl
 |some y=>simp only[gcV,h y rfl,if_true]
def mP(n:Nat)(t:List (Option SV)):Bool:=t.all λx=>match x with
 |some x=>blV n x
 |none=>true
theorem GQ(h:mP n t=true)(hx:some x∈t):blV n x=true:=(List.all_eq_true.mp h) _ hx
theorem GR(h:mP n t=true):gcT n t=t:=by
 unfold gcT;refine(List.map_congr_left λc hc=>uo λd e=>?_).trans (List.map_id _)
 subst e;exact GQ h hc
theorem cz(h:S[j]?=some (some (.dat d))):rdV S (.lc j)=some d:=by simp only[rdV,h]
theorem Ik:rdV S (.pl d)=some d:=by simp only[rdV]
theorem Il:rdC S (.pl d)=some d:=rfl
theorem br{s:SS}{k:Nat}{x:SV}{d:D}(h:s.t[k]?=some (some x))(e:rdV s.S x=some d):(vw s)[k]?=some (.fz d):=by
 unfold vw;rw[zao,h];simp only[Option.map_some,AO,e]
theorem bY{s:SS}{k:Nat}{d:D}(h:s.t[k]?=some (some (.pl d))):(vw s)[k]?=some (.fz d):=br h Ik
theorem Kv{s:SS}{k:Nat}{d:D}(h:s.t[k]?=some (some (.pl d))):(vwC s)[k]?=some (.fz d):=by
 unfold vwC;rw[zao,h];rfl
theorem gy{m:PM}{s:SS}{d:D}{ρ:Rho}(h:m (vw s)=some ((d,.fz),ρ))(hp:dU d=true):nO m s=some (.ok (.pl d) s):=by
 unfold nO;rw[h,zai];dsimp only;rw[if_pos hp]
theorem mQ(h:IE m (vw s) i):nO m s=some (.ok (.pl (.int i)) s):=gy h rfl
theorem Im(h:BE m (vw s) b):nO m s=some (.ok (.pl (.bool b)) s):=gy h rfl
theorem iS{m:PM}{s:SS}{d:D}{ρ:Rho}(h:m (vw s)=some ((d,.new),ρ))(hp:cI d true=true):nO m s=some (.ok (.lc s.S.length) ⟨s.S++[some (.dat d)],s.t⟩):=by
 unfold nO;rw[h,zai];dsimp only;rw[if_pos hp];rfl
theorem cV(h:m (vw s)=some (b,ρ)):nTo m s=some (.ok b s):=by unfold nTo;rw[h];rfl
theorem Kw{g:D->D->Option (D×Bool)}{a b:EN}{s s1 s2:SS}{x y:SV}{c d e:D}(h1:a s=some (.ok x s1))(h2:b s1=some (.ok y s2))(h3:rdC s2.S x=some c)(h4:rdC s2.S y=some d)(h5:g c d=some (e,false)):nOp g a b s=some (.ok (.pl e) s2):=by
 unfold nOp;rw[dC h1,dC h2];simp only[h3,h4,h5,Option.bind_some];rfl
theorem cL(h1:a s=some (.ok x s1))(h2:b s1=some (.ok (.pl (.int i)) s2))(h3:ixV s2.S x i=some y):nIx a b s=some (.ok y s2):=by
 unfold nIx;rw[dC h1,dC h2];simp only[h3,Option.map_some]
theorem Kx(h:m s=some (.ok xs s1))(h1:xN s1.S xs=some ds)(h2:g ds=some (d,false)):nCB g m s=some (.ok (.pl d) s1):=by
 unfold nCB;rw[dC h];simp only[h1,h2,Option.bind_some];rfl
theorem wK:oJ aZ s=some (.ok (.lc s.S.length) ⟨s.S++[some (.dat (.list []))],s.t⟩):=by
 unfold oJ;rw[dC (show aZ s=some (.ok [] s)from rfl),bg (show([]:List SV).length<=sizeLine from Nat.zero_le _)];rfl
theorem mR(h:m s=some (.ok xs s1))(h1:k8 xs=some ds)(h2:xs.length<=100):d9 m s=some (.ok (.pl (.tuple ds)) s1):=by
 unfold d9;rw[dC h,bg (pQ (by omega))]
 simp only[mkT,h1]
theorem uq{a:EN}{m:MN (List SV)}{s s1 s2:SS}{k:Nat}{ds:List D}{d:D}{ds0:List D}(h:a s=some (.ok (.lc k) s1))(h0:s1.S[k]?=some (some (.dat (.list ds0))))(h1:m s1=some (.ok [.pl d] s2))(h2:s2.S[k]?=some (some (.dat (.list ds))))(h3:ds.length<=100000):qR a m s=some (.ok (.pl .none) ⟨s2.S.set k (some (.dat (.list (ds++[d])))),s2.t⟩):=by
 unfold qR zA;rw[dC h];simp only[vQ,h0,if_true];rw[dC h1];simp only[C7,h2,bg (pR h3)]
theorem wL:fO n kp (λ_=>True) g b [] s=some (.nx s):=by unfold fO;rw[bg trivial]
theorem sy(h1:g d s=some (.nx s1))(h2:b s1=some (.nx s2))(h3:gcE n kp s2=s3)(h4:fO n kp (λ_=>True) g b ds s3=o):fO n kp (λ_=>True) g b (d::ds) s=o:=by
 unfold fO;rw[bg trivial,h1];dsimp only;rw[h2];dsimp only;rw[h3];exact h4
theorem zX(h1:it (vwC s)=some (ds,ρ))(h2:fO s.S.length kp (λ_=>True) g b (ds.map .pl) s=o):C4 kp it g b s=o:=by unfold C4;rw[h1,zai];exact h2
theorem yr(h:i<s.t.length):ngN i x s=some (.nx ⟨s.S,s.t.set i (some x)⟩):=by unfold ngN;rw[if_pos h]
abbrev dt(d:D):Option Cl:=some (.dat d)
section
variable{α:Type}
theorem ap0{S X:List α}{a : α}:(S++a::X)[S.length]?=some a:=by rw[zaN (zap _),Nat.sub_self];rfl
theorem apk{S X:List α}{a : α}{k:Nat}(h:X[k]?=some a):(S++X)[S.length+k]?=some a:=by rw[zaN (Nat.le_add_right _ _),Nat.add_sub_cancel_left];exact h
theorem yt{S X:List α}{a b : α}:(S++a::X).set S.length b=S++b::X:=by
 rw[List.set_append_right _ _ (zap _),Nat.sub_self];rfl
theorem fJ{S:List α}{i:Nat}{a : α}(h:S[i]?=some a):i<S.length:=(zac h).1
end
theorem yu(l:List Str):dU (.tuple (l.map .str))=true:=by
 show a6 (l.map .str)=true;exact jg l
theorem df(r:aL.Row):dU (bE r)=true:=by
 unfold bE;have:dU (eL r.above)=true:=by cases r.above<;>rfl
 simp only[dU,a6,this,jg,Bool.and_true]
theorem jC(keys:List Str)(row:Str->aL.Row):cI (HD keys row) true=true:=by
 show a6 ((cj keys row).map (·.2))=true
 unfold cj;rw[List.map_map]
 induction keys with
 |nil=>rfl
 |cons n l ih=>simp only[List.map_cons,a6,Function.comp,df,Bool.true_and];exact ih
theorem gT(l:List Str):cI (TD l) true=true:=jg l
theorem mS(hn:S.length<=n)(ht:mP n t=true):gcE n kp ⟨S,t⟩=⟨S,t⟩:=by
 unfold gcE;split
 ·rename_i h
  rw[Bool.and_eq_true]at h;unfold gc;dsimp only;rw[GR ht]
  congr 1
  unfold gcS;rw[List.take_of_length_le hn];refine(List.map_congr_left λc hc=>um λd e=>?_).trans (List.map_id _)
  subst e;exact nM h.1 (by rw[List.take_of_length_le hn];exact hc)
 ·rfl
theorem sA(h0:ok s):fO n kp ok g b [] s=some (.nx s):=by unfold fO;rw[bg h0]
theorem qv(h0:ok s)(h1:g d s=some (.nx s1))(h2:b s1=some (.nx s2))(h3:gcE n kp s2=s3)(h4:fO n kp ok g b ds s3=o):fO n kp ok g b (d::ds) s=o:=by
 unfold fO;rw[bg h0,h1];dsimp only;rw[h2];dsimp only;rw[h3];exact h4
theorem jD(hv:v s=some (.ok (.pl (bE r)) s1))(hd:d s1=some (.ok (.lc j) s2))(hk:k s2=some (.ok (.pl (.str n)) s3))(hj:s3.S[j]?=some (dt (HD keys row)))(hl:keys.length<=1000):fQ d k v s=some (.nx ⟨s3.S.set j (dt (HD (DZ keys n) (aX row n r))),s3.t⟩):=by
 unfold fQ;rw[fH hv,fH hd,fH hk];unfold Du;dsimp only[keyOf,Option.bind_some];rw[hj];dsimp only;rw[bg (by rw[wF];omega),wG]
theorem wM{kp:List Nat}{a:EN}{g:SV->SN}{b:SN}{s s1:SS}{k:Nat}{ds:List D}{o:Option fN}(h:a s=some (.ok (.lc k) s1))(hk:s1.S[k]?=some (dt (.list ds)))(h2:fO s1.S.length kp (stays (.lc k) (ds.map .pl)) g b (ds.map .pl) s1=o):vP kp a g b s=o:=by
 unfold vP;rw[fH h];simp only[oK,hk,Option.bind_some];exact h2
theorem mT{S:List (Option Cl)}{t:List (Option SV)}{k:Nat}{ds:List D}(h:S[k]?=some (dt (.list ds))):stays (.lc k) (ds.map .pl) ⟨S,t⟩:=by
 show oK S (.lc k)=_;simp only[oK,h]
theorem cY(hp:S[p]?=some (dt (TD aq)))(hq:S[q]?=some (dt (HD keys row))):rdV S (.tp [.lc p,.lc q])=some (PD aq keys row):=by
 simp only[rdV,gF,hp,hq,Option.bind_some,Option.map_some]
theorem cw(h:m s=some (.ok xs s1))(h1:k8 xs=none)(h2:xs.length<=100):d9 m s=some (.ok (.tp xs) s1):=by
 unfold d9;rw[dC h,bg (pQ (by omega))]
 simp only[mkT,h1]
def off(row:Str->aL.Row)(n a:Str):Str->aL.Row:=aX (aX row a ⟨(row a).key,(row a).above,(row a).mark,(row a).below.filter λx=>!decide (x=n)⟩) n ⟨(row n).key,none,false,(row n).below⟩
theorem ur(ne:a≠n)(hm:(row a).mark=(row a).above.isSome):off row n a=dB row n a:=by
 funext m
 unfold off dB iR
 by_cases e1:m=n
 ·subst e1
  rw[aM,aD _ _ (λz=>ne z.symm),aM]
 ·rw[aD _ _ e1]
  by_cases e2:m=a
  ·subst e2
   rw[aM,aM,aD _ _ e1,hm]
  ·rw[aD _ _ e2,aD _ _ e2,aD _ _ e1]
theorem Ef(ne:a≠n)(hm:(row a).mark=false):dB row n a=if(off row n a a).above.isSome=true then aX (off row n a) a ⟨(off row n a a).key,(off row n a a).above,true,(off row n a a).below⟩else off row n a:=by
 have e:off row n a a=⟨(row a).key,(row a).above,(row a).mark,(row a).below.filter λx=>!decide (x=n)⟩:=by
  unfold off;rw[aD _ _ ne,aM]
 rw[e];dsimp only;cases ea:(row a).above.isSome with
 |false=>
  rw[if_neg zam];exact(ur ne (by rw[hm,ea])).symm
 |true=>
  rw[if_pos rfl];funext m
  by_cases e2:m=a
  ·subst e2
   unfold dB iR;rw[aM,aM,aD _ _ ne,ea]
  ·rw[aD _ _ e2]
   unfold dB iR off;rw[aD _ _ e2]
   by_cases e1:m=n
   ·subst e1;rw[aM,aM]
   ·rw[aD _ _ e1,aD _ _ e1,aD _ _ e2]
theorem zY(h:r.above=some a):ixV S (.pl (bE r)) 1=some (.pl (.str a)):=by
 show some (SV.pl (eL r.above))=_;rw[h];rfl
def offs:List Str->(Str->aL.Row)->Str->aL.Row
 | [],row=>row
 |n::C,row=>offs C (off row n ((row n).above.getD n))
theorem kS(ha:(row n).above=some a):offs (n::C) row=offs C (off row n a):=by
 show offs C (off row n ((row n).above.getD n))=_;rw[ha];rfl
theorem Bx:∀(C aq:List Str) (row:Str->aL.Row) (n L:Str),Bt K c aq keys row->n∈keys->Ch row n C L->cuts C row=if(offs C row L).above.isSome=true then aX (offs C row) L ⟨(offs C row L).key,(offs C row L).above,true,(offs C row L).below⟩else offs C row:=by
 intro C
 induction C with
 |nil=>intro aq row n L _ _ hch;cases hch
 |cons x C ih=>
  intro aq row n L h hn hch;cases hch with
  |one ha hm=>
   rw[fj ha,kS ha];exact Ef (h.neA hn ha) hm
  |more ha hm hch=>
   rename_i a
   have hka:=h.ab x hn a ha;rw[fj ha,kS ha,ur (h.neA hn ha) (by
    rw[hm];cases e:(row a).above with
    |none=>exact absurd e (h.mkd a hka hm)
    |some b=>rfl)]
   exact ih (aq++[x]) (dB row x a) a L (h.cut hn ha) hka (Ch.cut h hn ha hch)
theorem Ch.last(h:Bt K c aq keys row):∀{C:List Str} {n L:Str},Ch row n C L->n∈keys->∃pre z,C=pre++[z]/\z∈keys/\(row z).above=some L
 |_,n,_,.one ha _,hn=>⟨[],n,rfl,hn,ha⟩
 |_,n,_,.more ha _ hc,hn=>by
  obtain⟨pre,z,h1,h2,h3⟩:=Ch.last h hc (h.ab n hn _ ha);exact⟨n::pre,z,by rw[h1];rfl,h2,h3⟩
theorem Eg(hc:c<=200)(h1:blV (B.length+2) pile=true)(h2:blV (B.length+2) nm=true)(h3:blV (B.length+2) last=true):∀(C aq:List Str) (row:Str->aL.Row) (n L:Str) (x y:Option SV),Bt K c aq keys row->n∈keys->Ch row n C L->mP (B.length+2) [y]=true->
  ∃x' y',fO (B.length+2) [0,1,2,3,4] (stays (.lc (B.length+1)) ((Call.map PyData.str).map .pl)) (ngN 5) iE ((C.map PyData.str).map .pl) ⟨B++[dt (HD keys row),dt (TD Call)],[some pile,some nm,some (.lc B.length),some (.lc (B.length+1)),some last,x,y]⟩=some (.nx ⟨B++[dt (HD keys (offs C row)),dt (TD Call)],[some pile,some nm,some (.lc B.length),some (.lc (B.length+1)),some last,x',y']⟩):=by
 have step:∀(aq:List Str) (row:Str->aL.Row) (n a:Str) (x y:Option SV) (ds:List SV) (o:Option fN),Bt K c aq keys row->n∈keys->(row n).above=some a->fO (B.length+2) [0,1,2,3,4] (stays (.lc (B.length+1)) ((Call.map PyData.str).map .pl)) (ngN 5) iE ds ⟨B++[dt (HD keys (off row n a)),dt (TD Call)],[some pile,some nm,some (.lc B.length),some (.lc (B.length+1)),some last,some (.pl (.str n)),some (.pl (.str a))]⟩=o->
   fO (B.length+2) [0,1,2,3,4] (stays (.lc (B.length+1)) ((Call.map PyData.str).map .pl)) (ngN 5) iE (.pl (.str n)::ds) ⟨B++[dt (HD keys row),dt (TD Call)],[some pile,some nm,some (.lc B.length),some (.lc (B.length+1)),some last,x,y]⟩=o:=λaq row n a x y ds o h hn ha ho=>by
  have hka:=h.ab n hn a ha;have ne:=h.neA hn ha;have kl:=h.kl;have bl:=h.bl a hka;refine qv (s1:=⟨B++[dt (HD keys row),dt (TD Call)],[some pile,some nm,some (.lc B.length),some (.lc (B.length+1)),some last,some (.pl (.str n)),y]⟩) (s2:=⟨B++[dt (HD keys (off row n a)),dt (TD Call)],[some pile,some nm,some (.lc B.length),some (.lc (B.length+1)),some last,some (.pl (.str n)),some (.pl (.str a))]⟩) (mT (apk (k:=1) rfl)) (yr (by simp)) ?_ (mS (by simp) (by simp[mP,h1,h2,h3,blV])) ho
  refine aI (s':=⟨B++[dt (HD keys row),dt (TD Call)],[some pile,some nm,some (.lc B.length),some (.lc (B.length+1)),some last,some (.pl (.str n)),some (.pl (.str a))]⟩) (bW (i:=6) (cL (gy (dS (.inl (br rfl (cz ap0))) hn (az (bY rfl))) (df _)) fI (zY ha)) (by simp)) ?_
  refine aI (s':=⟨B++[dt (HD keys (aX row a ⟨(row a).key,(row a).above,(row a).mark,(row a).below.filter λx=>!decide (x=n)⟩)),dt (TD Call)],[some pile,some nm,some (.lc B.length),some (.lc (B.length+1)),some last,some (.pl (.str n)),some (.pl (.str a))]⟩) ((jD (r:=⟨(row a).key,(row a).above,(row a).mark,(row a).below.filter λx=>!decide (x=n)⟩) (gy (b8 (rs:=[(bE (row a),.fz),(.str n,.fz)]) (aJ (aj (dS (.inl (br rfl (cz ap0))) hka (az (bY rfl)))) (aJ (aj (az (bY rfl))) a8)) (yo (λb hb=>h.ok (bl.2 b hb)) (by omega) (h.ok hn)) (df _)) (df _)) (ao rfl) (ao rfl) ap0 (by omega)).trans (by rw[iF hka,yt])) ?_
  have:=dS (keys:=keys) (row:=aX row a ⟨(row a).key,(row a).above,(row a).mark,(row a).below.filter λx=>!decide (x=n)⟩) (n:=n) (i:=2) (b:=ai 5) (ρ:=vw ⟨B++[dt (HD keys (aX row a ⟨(row a).key,(row a).above,(row a).mark,(row a).below.filter λx=>!decide (x=n)⟩)),dt (TD Call)],[some pile,some nm,some (.lc B.length),some (.lc (B.length+1)),some last,some (.pl (.str n)),some (.pl (.str a))]⟩) (.inl (br rfl (cz ap0))) hn (az (bY rfl))
  rw[aD _ _ (λz=>ne z.symm)]at this
  exact(jD (row:=aX row a ⟨(row a).key,(row a).above,(row a).mark,(row a).below.filter λx=>!decide (x=n)⟩) (r:=⟨(row n).key,none,false,(row n).below⟩) (gy (b8 (rs:=[(bE (row n),.fz)]) (aJ (aj this) a8) (sx (row n)) (df _)) (df _)) (ao rfl) (ao rfl) ap0 (by omega)).trans (by rw[iF hn,yt];rfl)
 intro C
 induction C with
 |nil=>intro aq row n L x y _ _ hch;cases hch
 |cons z C ih=>
  intro aq row n L x y h hn hch hy;cases hch with
  |one ha hm=>
   rw[kS ha];exact⟨_,_,step aq row z _ x y [] _ h hn ha (sA (mT (apk (k:=1) rfl)))⟩
  |more ha hm hch=>
   rename_i a
   have hka:=h.ab z hn a ha;have e:=ur (row:=row) (h.neA hn ha) (by
    rw[hm];cases e:(row a).above with
    |none=>exact absurd e (h.mkd a hka hm)
    |some b=>rfl)
   obtain⟨x',y',h4⟩:=ih (aq++[z]) (dB row z a) a L (some (.pl (.str z))) (some (.pl (.str a))) (h.cut hn ha) hka (Ch.cut h hn ha hch) rfl;refine⟨x',y',?_⟩;rw[<-e]at h4;rw[kS ha];exact step aq row z a x y _ _ h hn ha h4
theorem GS(ds:List D)(d:D):gIx (.list (ds++[d])) (.int (-1))=some (d,false):=by
 show(L2.atI (ds++[d]) (-1)).map (λd=>(d,false))=_
 rw[Mir.vi];simp
theorem sC(C:List Str):cI (.list (C.map stp)) true=true:=by
 show a6 (C.map stp)=true
 induction C with
 |nil=>rfl
 |cons x C ih=>simp only[List.map_cons,a6,ih,Bool.and_true];rfl
theorem GU{α:Type}{S:List α}{a : α}:(S++[a]).length=S.length+1:=by simp
theorem GV{α:Type}{S:List α}{a b : α}:(S++[a,b]).length=S.length+2:=by simp
theorem oA{m:PM}{S:List (Option Cl)}{t:List (Option SV)}{d:D}{ρ:Rho}{X:List (Option Cl)}{k:Nat}(h:m (vw ⟨S++X,t⟩)=some ((d,.new),ρ))(hp:cI d true=true)(hk:X.length=k):nO m ⟨S++X,t⟩=some (.ok (.lc (S.length+k)) ⟨S++(X++[dt d]),t⟩):=by
 rw[iS h hp];dsimp only;rw[zau,hk,zaD]
theorem e8(h0:xs.length=n)(h1:b ⟨S,xs.map some++List.replicate k none⟩=some (.rt r ⟨S',t'⟩))(h2:blV S.length r=false):fnS n k b S xs=some (.ok r S') :=
 yq h0 h1 (show(if blV S.length r=true then _ else _)=_ from if_neg (by rw[h2];simp))
theorem qw(hc:c<=200)(h:Bt K c aq keys row)(hn:n∈keys)(hch:Ch row n C L)(hl:C.length<=c)(hp:S[p]?=some (dt (TD aq)))(hq:S[q]?=some (dt (HD keys row))) :
  g8 S [.tp [.lc p,.lc q],.pl (.str n)]=some (.ok (.tp [.tp [.lc (S.length+2),.lc S.length],.lc (S.length+3)]) (S++[dt (HD keys (cuts C row)),dt (TD C),dt (TD (aq++C)),dt (.list (C.map stp))])):=by
 have kl:=h.kl;have tl:=h.tl;obtain⟨memC,Md⟩:=Ch.mem h hch hn;obtain⟨pre,z,rfl,hz,hza⟩:=Ch.last h hch hn;have lp:=fJ hp;have lq:=fJ hq;have rp:∀X:List (Option Cl),rdV (S++X) (.tp [.lc p,.lc q])=some (PD aq keys row):=λX=>cY (bJ hp) (bJ hq)
 obtain⟨x',y',lo⟩:=Eg (c:=c) (keys:=keys) hc (Call:=pre++[z]) (B:=S) (pile:=.tp [.lc p,.lc q]) (nm:=.pl (.str n)) (last:=.pl (.str L)) (by simp[blV,fM];omega) rfl rfl (pre++[z]) aq row n L none none h hn hch rfl
 refine e8 (t':=[some (.tp [.lc p,.lc q]),some (.pl (.str n)),some (.lc S.length),some (.lc (S.length+1)),some (.pl (.str L)),x',y']) rfl ?_ (by simp[blV,fM])
 refine aI (s':=⟨S++[dt (HD keys row)],[some (.tp [.lc p,.lc q]),some (.pl (.str n)),some (.lc S.length),none,none,none,none]⟩) (bW (i:=2) (s':=⟨S++[dt (HD keys row)],[some (.tp [.lc p,.lc q]),some (.pl (.str n)),none,none,none,none,none]⟩) (iS (d7 (rs:=[(HD keys row,.fz)]) (res:=(HD keys row,true)) (aJ (aj (gw (br rfl (cY hp hq)))) a8) rfl) (jC keys row)) (by simp)) ?_
 refine aI (s':=⟨S++[dt (HD keys row),dt (TD (pre++[z]))],[some (.tp [.lc p,.lc q]),some (.pl (.str n)),some (.lc S.length),some (.lc (S.length+1)),none,none,none]⟩) (bW (i:=3) (oA (k:=1) (b8 (rs:=[(HD keys row,.fz),(.str n,.fz)]) (aJ (aj (az (br rfl (cz ap0)))) (aJ (aj (az (bY rfl))) a8)) (Ee h hn hch (by omega)) (jg _)) (gT _) rfl) (by simp)) ?_
 have ixz:mOp dP (ai 2) (mOp gIx (ai 3) (mUn AD (mC (.int 1)))) (vw ⟨S++[dt (HD keys row),dt (TD (pre++[z]))],[some (.tp [.lc p,.lc q]),some (.pl (.str n)),some (.lc S.length),some (.lc (S.length+1)),none,none,none]⟩)=some ((bE (row z),.fz),vw ⟨S++[dt (HD keys row),dt (TD (pre++[z]))],[some (.tp [.lc p,.lc q]),some (.pl (.str n)),some (.lc S.length),some (.lc (S.length+1)),none,none,none]⟩) :=
  dS (.inl (br rfl (cz ap0))) hz (bD (r:=(.int (-1),.fz)) (res:=(.str z,false)) (aj (az (br rfl (cz (apk (k:=1) rfl))))) (aj (JD cZ)) (by show gIx (.list ((pre++[z]).map .str)) (.int (-1))=_;rw[za1];exact GS _ _))
 refine aI (s':=⟨S++[dt (HD keys row),dt (TD (pre++[z]))],[some (.tp [.lc p,.lc q]),some (.pl (.str n)),some (.lc S.length),some (.lc (S.length+1)),some (.pl (.str L)),none,none]⟩) (bW (i:=4) (cL (gy ixz (df _)) fI (zY hza)) (by simp)) ?_
 refine aI (s':=⟨S++[dt (HD keys (offs (pre++[z]) row)),dt (TD (pre++[z]))],[some (.tp [.lc p,.lc q]),some (.pl (.str n)),some (.lc S.length),some (.lc (S.length+1)),some (.pl (.str L)),x',y']⟩) (wM (ao rfl) (apk (k:=1) rfl) (by dsimp only;rw[GV];exact lo)) ?_
 have rL:mOp dP (ai 2) (ai 4) (vw ⟨S++[dt (HD keys (offs (pre++[z]) row)),dt (TD (pre++[z]))],[some (.tp [.lc p,.lc q]),some (.pl (.str n)),some (.lc S.length),some (.lc (S.length+1)),some (.pl (.str L)),x',y']⟩)=some ((bE (offs (pre++[z]) row L),.fz),vw ⟨S++[dt (HD keys (offs (pre++[z]) row)),dt (TD (pre++[z]))],[some (.tp [.lc p,.lc q]),some (.pl (.str n)),some (.lc S.length),some (.lc (S.length+1)),some (.pl (.str L)),x',y']⟩):=dS (.inl (br rfl (cz ap0))) Md (az (bY rfl));have tI:nTo (bc (mOp js (mOp gIx (mOp dP (ai 2) (ai 4)) (mC (.int 1))) (mC .none))) ⟨S++[dt (HD keys (offs (pre++[z]) row)),dt (TD (pre++[z]))],[some (.tp [.lc p,.lc q]),some (.pl (.str n)),some (.lc S.length),some (.lc (S.length+1)),some (.pl (.str L)),x',y']⟩=some (.ok (offs (pre++[z]) row L).above.isSome ⟨S++[dt (HD keys (offs (pre++[z]) row)),dt (TD (pre++[z]))],[some (.tp [.lc p,.lc q]),some (.pl (.str n)),some (.lc S.length),some (.lc (S.length+1)),some (.pl (.str L)),x',y']⟩):=cV (test_ev (k:=.fz) (bD (r:=(.none,.fz)) (res:=(.bool (offs (pre++[z]) row L).above.isSome,false)) (aj (eE rL)) (aj rfl) (wI _)));have e:=Bx (pre++[z]) aq row n L h hn hch;refine aI (s':=⟨S++[dt (HD keys (cuts (pre++[z]) row)),dt (TD (pre++[z]))],[some (.tp [.lc p,.lc q]),some (.pl (.str n)),some (.lc S.length),some (.lc (S.length+1)),some (.pl (.str L)),x',y']⟩) ?_ ?_
 ·cases ei:(offs (pre++[z]) row L).above.isSome with
  |true=>
   rw[ei,if_pos rfl]at e;rw[ei]at tI;refine ku tI ((jD (r:=⟨(offs (pre++[z]) row L).key,(offs (pre++[z]) row L).above,true,(offs (pre++[z]) row L).below⟩) (gy (b8 (rs:=[(bE (offs (pre++[z]) row L),.fz)]) (aJ (aj rL) a8) (uj _) (df _)) (df _)) (ao rfl) (ao rfl) ap0 (by omega)).trans ?_)
   rw[iF Md,yt,e]
  |false=>
   rw[ei,if_neg zam]at e;rw[ei]at tI;rw[e];exact gx tI rfl
 refine de (cw (xs:=[.tp [.lc (S.length+2),.lc S.length],.lc (S.length+3)]) (aA (s1:=⟨S++[dt (HD keys (cuts (pre++[z]) row)),dt (TD (pre++[z])),dt (TD (aq++(pre++[z])))],[some (.tp [.lc p,.lc q]),some (.pl (.str n)),some (.lc S.length),some (.lc (S.length+1)),some (.pl (.str L)),x',y']⟩) (cw (xs:=[.lc (S.length+2),.lc S.length]) (aA (oA (k:=2) (bD (r:=(TD (pre++[z]),.fz)) (res:=(TD (aq++(pre++[z])),true)) (aj (lu (br rfl (rp _)))) (aj (az (br rfl (cz (apk (k:=1) rfl))))) ?_) (gT _) rfl) (aA (ao rfl) bC)) rfl (by simp)) (aA (oA (k:=3) (vI (xI (aj (az (br rfl (cz (apk (k:=1) rfl)))))) (fU (f:=PyData.str) (g:=stp) _ λx hx=>⟨[.fz (.str x)],aj (jw (rs:=[(.str "cut",.fz),(.str x,.fz)]) rfl rfl (by simp))⟩) (by rw[zal];omega)) (sC _) rfl) bC)) rfl (by simp))
 show ib (.list (aq.map .str)) (.list ((pre++[z]).map .str))=some (.list ((aq++(pre++[z])).map .str),true);rw[za1 (l₁:=aq)];exact nh _ _ (by simp only[List.length_map];omega)
theorem zZ(h:S.length<=n):fS n S=S:=by
 unfold fS;split
 ·rename_i hc
  unfold gcS;rw[List.take_of_length_le h];refine(List.map_congr_left λc hc'=>um λd e=>?_).trans (List.map_id _)
  subst e;exact nM hc (by rw[List.take_of_length_le h];exact hc')
 ·rfl
def stH(p:Str×Str):D:=.tuple [.str "hang",.str p.1,.str p.2]
theorem GW{r:aL.Row}{x:Str}(hl:r.below.length<=1000){a b:PM}{ρ:Rho}(h:a ρ=some ((bE r,.fz),ρ))(hb:b ρ=some ((.tuple [.str x],.fz),ρ)):mOp wc (mOp gIx a (mC (.int 3))) b ρ=some ((.tuple ((r.below++[x]).map .str),.fz),ρ):=by
 obtain⟨o,ho⟩:=Bc (r.below.map .str) [.str x] (by simp;omega) (by simp)
 have e:=bD (r:=(.tuple [.str x],.fz)) (res:=(.tuple ((r.below++[x]).map .str),o)) (aj (g9 h)) (aj hb) (by rw[za1];exact ho)
 cases o<;>exact e
theorem GX(hx:x∈keys)(hy:y∈keys)(ne:y≠x)(hk:keys.length<=1000)(hb:(row y).below.length<=1000)(hj:S[j]?=some (dt (HD keys row))):t9 S [.lc j,.pl (.str x),.pl (.str y)]=some (.ok (.pl .none) (S.set j (dt (HD keys (bP row x y))))):=by
 have lj:=fJ hj;refine yq (o:=.nx ⟨S.set j (dt (HD keys (bP row x y))),[some (.lc j),some (.pl (.str x)),some (.pl (.str y)),some (.pl (bE (row y)))]⟩) rfl ?_ (by show some (FR.ok (.pl .none) (fS S.length (S.set j _)))=_;rw[zZ (by rw[zaM];exact zap _)])
 refine aI (s':=⟨S,[some (.lc j),some (.pl (.str x)),some (.pl (.str y)),some (.pl (bE (row x)))]⟩) (bW (i:=3) (gy (dS (.inl (br rfl (cz hj))) hx (az (bY rfl))) (df _)) (by simp)) ?_
 have h1:(S.set j (dt (HD keys (aX row x ⟨(row x).key,some y,false,(row x).below⟩))))[j]?=some (dt (HD keys (aX row x ⟨(row x).key,some y,false,(row x).below⟩))):=zav lj;refine aI (s':=⟨S.set j (dt (HD keys (aX row x ⟨(row x).key,some y,false,(row x).below⟩))),[some (.lc j),some (.pl (.str x)),some (.pl (.str y)),some (.pl (bE (row x)))]⟩) ((jD (r:=⟨(row x).key,some y,false,(row x).below⟩) (mR (xs:=[.pl (.int (row x).key),.pl (.str y),.pl (.bool false),.pl (.tuple ((row x).below.map .str))]) (aA (cL (ao rfl) fI rfl) (aA (ao rfl) (aA fI (aA (cL (ao rfl) fI rfl) bC)))) rfl (by simp)) (ao rfl) (ao rfl) hj hk).trans (by rw[iF hx])) ?_
 have ry:=dS (keys:=keys) (row:=aX row x ⟨(row x).key,some y,false,(row x).below⟩) (n:=y) (i:=0) (b:=ai 2) (ρ:=vw ⟨S.set j (dt (HD keys (aX row x ⟨(row x).key,some y,false,(row x).below⟩))),[some (.lc j),some (.pl (.str x)),some (.pl (.str y)),some (.pl (bE (row x)))]⟩) (.inl (br rfl (cz h1))) hy (az (bY rfl));rw[aD _ _ ne]at ry;refine aI (s':=⟨S.set j (dt (HD keys (aX row x ⟨(row x).key,some y,false,(row x).below⟩))),[some (.lc j),some (.pl (.str x)),some (.pl (.str y)),some (.pl (bE (row y)))]⟩) (bW (i:=3) (gy ry (df _)) (by simp)) ?_
 refine(jD (row:=aX row x ⟨(row x).key,some y,false,(row x).below⟩) (r:=⟨(row y).key,(row y).above,(row y).mark,(row y).below++[x]⟩) (mR (xs:=[.pl (.int (row y).key),.pl (eL (row y).above),.pl (.bool (row y).mark),.pl (.tuple (((row y).below++[x]).map .str))]) (aA (cL (ao rfl) fI rfl) (aA (cL (ao rfl) fI rfl) (aA (cL (ao rfl) fI rfl) (aA (gy (GW hb (az (bY rfl)) (jw (rs:=[(.str x,.fz)]) (aJ (aj (az (bY rfl))) a8) rfl (by simp))) (yu _)) bC)))) rfl (by simp)) (ao rfl) (ao rfl) h1 hk).trans ?_
 rw[iF hy,List.set_set];unfold bP;rw[aD _ _ ne]
theorem z3(h:cc s=some (.ok false s')):gG kp cc b (n+1) s=some (.nx s'):=by
 unfold gG;rw[fH h,if_neg zam]
theorem Ky(h1:cc s=some (.ok true s1))(h2:b s1=some (.nx s2))(h3:gcE s1.S.length kp s2=s3)(h4:gG kp cc b n s3=o):gG kp cc b (n+1) s=o:=by
 unfold gG;rw[fH h1,if_pos rfl,h2];dsimp only;rw[h3];exact h4
theorem GY(h:a s=some (.ok (.lc k) s1))(h0:s1.S[k]?=some (dt (AL al)))(h1:m s1=some (.ok [.pl (.int (d:Int))] s2))(h2:s2.S[k]?=some (dt (AL al)))(hl:al.lookup d=some t):j7 a m s=some (.ok (.pl (.str t)) ⟨s2.S.set k (dt (AL (al.filter λp=>decide (p.1≠d)))),s2.t⟩):=by
 unfold j7;rw[dC h];simp only[mE,h0,if_true];rw[dC h1];unfold v5;dsimp only[keyOf,Option.bind_some];rw[h2];dsimp only;rw[o7,hl,GL];rfl
section
variable{α:Type}
theorem Kz{S X:List α}{a b x : α}:(S++a::b::X).set (S.length+1) x=S++a::x::X:=by
 rw[List.set_append_right _ _ (by omega),Nat.add_sub_cancel_left];rfl
theorem Me{S X:List α}{a b e x : α}:(S++a::b::e::X).set (S.length+2) x=S++a::b::x::X:=by
 rw[List.set_append_right _ _ (by omega),Nat.add_sub_cancel_left];rfl
end
abbrev Sa(B:List (Option Cl))(keys:List Str)(row:Str->aL.Row)(al:List (Nat×Str))(sts:List (Str×Str)):List (Option Cl):=B++[dt (HD keys row),dt (AL al),dt (.list (sts.map stH))]
abbrev fh(pile:SV)(N:Nat)(x4 x5 x6 x7:Option SV):List (Option SV):=[some pile,some (.lc N),some (.lc (N+1)),some (.lc (N+2)),x4,x5,x6,x7]
structure Al(T0:List Str)(ef:Str->aL.Row)(sts:List (Str×Str))(T:List Str)(row:Str->aL.Row)(al:List (Nat×Str))(on:Str)(rest:List Str):Prop where
 hs:Hs T0 ef sts T row
 nk:(al.map Prod.fst).Nodup
 ae:∀p∈al,p.2∈T/\(row p.2).below.length=p.1/\p.2≠on/\p.2∉rest
 oo:on∈T/\on∉rest
 rs:∀t∈rest,t∈T
 cov:∀t∈T,t=on\/(∃p∈al,p.2=t)\/t∈rest
theorem uu:∀{al:List (Nat×Str)},al.lookup d=some t->(d,t)∈al
 |(e,u)::al,h=>by
  by_cases z:d=e
  ·subst z;rw[za8,beq_self_eq_true]at h;cases h;exact zas
  ·rw[za8,beq_eq_false_iff_ne.mpr z]at h;exact zak _ (uu h)
theorem uv:∀{al:List (Nat×Str)},(al.map Prod.fst).Nodup->∀{p q:Nat×Str},p∈al->q∈al->p.1=q.1->p=q
 |x::al,nd,p,q,hp,hq,e=>by
  rw[zaz,List.nodup_cons]at nd;rcases zaf hp with rfl|hp'<;>rcases zaf hq with rfl|hq'
  ·rfl
  ·exact absurd (e▸List.mem_map_of_mem hq') nd.1
  ·exact absurd (e▸List.mem_map_of_mem hp') nd.1
  ·exact uv nd.2 hp' hq' e
theorem Al.turn{T0:List Str}{ef:Str->aL.Row}{sts:List (Str×Str)}{T:List Str}{al:List (Nat×Str)}{on:Str}{rest:List Str}(A:Al T0 ef sts T row al on rest)(ndT:T.Nodup){t x y:Str}(hl:al.lookup (row on).below.length=some t)(xy:(x=on/\y=t)\/(x=t/\y=on))(lt:aT (row y).key y (row x).key x=true) :
  y≠x/\x∈T/\y∈T/\Al T0 ef (sts++[(x,y)]) (T.erase x) (bP row x y) (al.filter λp=>decide (p.1≠(row on).below.length)) y rest:=by
 have mt:=uu hl;obtain⟨t1,t2,t3,t4⟩:=A.ae _ mt;dsimp only at t1 t2 t3 t4;have ne:y≠x:=by rcases xy with⟨rfl,rfl⟩|⟨rfl,rfl⟩<;>first|exact t3|exact λe=>t3 e.symm
 have hx:x∈T/\x∉rest:=by rcases xy with⟨rfl,rfl⟩|⟨rfl,rfl⟩<;>first|exact A.oo|exact⟨t1,t4⟩
 have hy:y∈T/\y∉rest:=by rcases xy with⟨rfl,rfl⟩|⟨rfl,rfl⟩<;>first|exact A.oo|exact⟨t1,t4⟩
 have ed:(row x).below.length=(row y).below.length:=by rcases xy with⟨rfl,rfl⟩|⟨rfl,rfl⟩<;>omega
 have er:∀{u:Str},u∈T->u≠x->u∈T.erase x:=fun{u} h1 h2=>(za9 ndT).mpr ⟨h2,h1⟩
 have oth:∀p∈al,p.1≠(row on).below.length->p.2≠x/\p.2≠y:=λp hp hd=>by
  obtain⟨p1,p2,p3,p4⟩:=A.ae p hp;have pt:p.2≠t:=λe=>hd (by rw[<-p2,e];exact t2)
  rcases xy with⟨rfl,rfl⟩|⟨rfl,rfl⟩
  ·exact⟨p3,pt⟩
  ·exact⟨pt,p3⟩
 refine⟨ne,hx.1,hy.1,A.hs.snoc hx.1 hy.1 ne lt ed,A.nk.sublist (List.filter_sublist.map _),λp hp=>?_,⟨er hy.1 ne,hy.2⟩,λu hu=>er (A.rs u hu) λe=>hx.2 (e▸hu),λu hu=>?_⟩
 ·obtain⟨h1,h2⟩:=List.mem_filter.mp hp
  have hd:p.1≠(row on).below.length:=of_decide_eq_true h2;obtain⟨p1,p2,p3,p4⟩:=A.ae p h1;obtain⟨q1,q2⟩:=oth p h1 hd;exact⟨er p1 q1,by rw[cB q2 q1];exact p2,q2,p4⟩
 ·obtain⟨u1,u2⟩:=(za9 ndT).mp hu
  rcases A.cov u u2 with rfl|⟨p,hp,rfl⟩|h
  ·rcases xy with⟨rfl,rfl⟩|⟨rfl,rfl⟩
   ·exact absurd rfl u1
   ·exact .inl rfl
  ·by_cases hd:p.1=(row on).below.length
   ·have:=uv A.nk hp mt hd
    subst this;rcases xy with⟨rfl,rfl⟩|⟨rfl,rfl⟩
    ·exact .inl rfl
    ·exact absurd rfl u1
   ·exact .inr (.inl ⟨p,List.mem_filter.mpr ⟨hp,zaH hd⟩,rfl⟩)
  ·exact .inr (.inr h)
theorem GZ(hc:c<=200){T0:List Str}{ef:Str->aL.Row}(h0:Bk c T0 keys ef)(f0:Fm keys ef){B:List (Option Cl)}{pile:SV}(hpl:blV (B.length+3) pile=true){rest:List Str}{x4:SV}(h4:blV (B.length+3) x4=true):∀(m:Nat) (al:List (Nat×Str)) (sts:List (Str×Str)) (T:List Str) (row:Str->aL.Row) (on:Str) (x6 x7:Option SV) (fuel:Nat),al.length<=m->m<fuel->mP (B.length+3) [x6,x7]=true->Al T0 ef sts T row al on rest->
  ∃al' qx T' aY on' x6' x7',gG [0,1,2,3,4,5] kg kh fuel ⟨Sa B keys row al sts,fh pile B.length (some x4) (some (.pl (.str on))) x6 x7⟩=some (.nx ⟨Sa B keys aY al' qx,fh pile B.length (some x4) (some (.pl (.str on'))) x6' x7'⟩)/\Al T0 ef qx T' aY al' on' rest/\al'.lookup (aY on').below.length=none/\mP (B.length+3) [x6',x7']=true:=by
 intro m
 induction m with
 |zero=>
  intro al sts T row on x6 x7 fuel hm hf hx A;obtain⟨fuel,rfl⟩:∃k,fuel=k+1:=⟨fuel-1,by omega⟩
  obtain rfl:al=[]:=List.eq_nil_of_length_eq_zero (by omega)
  obtain⟨hB,hF⟩:=A.hs.inv h0 f0;have hon:=(hB.tk on A.oo.1).1;refine⟨[],sts,T,row,on,x6,x7,z3 (cV (test_ev (k:=.fz) (bD (r:=(AL [],.fz)) (res:=(.bool false,false)) (aj (mO (dS (.inl (br rfl (cz ap0))) hon (az (bY rfl))))) (aj (az (br rfl (cz (apk (k:=1) rfl))))) (Ij _ _)))),A,rfl,hx⟩
 |succ m ih=>
  intro al sts T row on x6 x7 fuel hm hf hx A;obtain⟨fuel,rfl⟩:∃k,fuel=k+1:=⟨fuel-1,by omega⟩
  obtain⟨hB,hF⟩:=A.hs.inv h0 f0;have hon:=(hB.tk on A.oo.1).1;have kl:=hB.kl;have sl:=A.hs.len;have tl0:=h0.tl;have tst:nTo (bc (mOp mr (mCB iO (aF (mOp gIx (mOp dP (ai 1) (ai 5)) (mC (.int 3))) a9)) (ai 2))) ⟨Sa B keys row al sts,fh pile B.length (some x4) (some (.pl (.str on))) x6 x7⟩=some (.ok (al.lookup (row on).below.length).isSome ⟨Sa B keys row al sts,fh pile B.length (some x4) (some (.pl (.str on))) x6 x7⟩):=cV (test_ev (k:=.fz) (bD (r:=(AL al,.fz)) (res:=(.bool (al.lookup (row on).below.length).isSome,false)) (aj (mO (dS (.inl (br rfl (cz ap0))) hon (az (bY rfl))))) (aj (az (br rfl (cz (apk (k:=1) rfl))))) (Ij _ _)));cases el:al.lookup (row on).below.length with
  |none=>
   rw[el]at tst;exact⟨al,sts,T,row,on,x6,x7,z3 tst,A,el,hx⟩
  |some t=>
   rw[el]at tst;have mt:=uu el;obtain⟨t1,t2,t3,_⟩:=A.ae _ mt;have htk:=(hB.tk t t1).1;obtain⟨x,y,xy,lt,hsw⟩:∃x y,((x=on/\y=t)\/(x=t/\y=on))/\aT (row y).key y (row x).key x=true/\∃x7',mP (B.length+3) [x7']=true/\iA (nTo (bc (mOp Dr (cb bV (aF (ai 1) (aF (ai 6) a9))) (cb bV (aF (ai 1) (aF (ai 5) a9)))))) (bA (cD (aS 6) (ngN 7)) (bA (cD (aS 5) (ngN 6)) (cD (aS 7) (ngN 5)))) gq ⟨Sa B keys row (al.filter λp=>decide (p.1≠(row on).below.length)) sts,fh pile B.length (some x4) (some (.pl (.str on))) (some (.pl (.str t))) x7⟩=some (.nx ⟨Sa B keys row (al.filter λp=>decide (p.1≠(row on).below.length)) sts,fh pile B.length (some x4) (some (.pl (.str y))) (some (.pl (.str x))) x7'⟩):=by
    have tl:nTo (bc (mOp Dr (cb bV (aF (ai 1) (aF (ai 6) a9))) (cb bV (aF (ai 1) (aF (ai 5) a9))))) ⟨Sa B keys row (al.filter λp=>decide (p.1≠(row on).below.length)) sts,fh pile B.length (some x4) (some (.pl (.str on))) (some (.pl (.str t))) x7⟩=some (.ok (aT (row t).key t (row on).key on) ⟨Sa B keys row (al.filter λp=>decide (p.1≠(row on).below.length)) sts,fh pile B.length (some x4) (some (.pl (.str on))) (some (.pl (.str t))) x7⟩):=cV (test_ev (k:=.fz) (bD (r:=(.tuple [.int (row on).key,.str on],.fz)) (res:=(.bool (aT (row t).key t (row on).key on),false)) (aj (b8 (rs:=[(HD keys row,.fz),(.str t,.fz)]) (aJ (aj (az (br rfl (cz ap0)))) (aJ (aj (az (bY rfl))) a8)) (gv htk) rfl)) (aj (b8 (rs:=[(HD keys row,.fz),(.str on,.fz)]) (aJ (aj (az (br rfl (cz ap0)))) (aJ (aj (az (bY rfl))) a8)) (gv hon) rfl)) rfl))
    cases eb:aT (row t).key t (row on).key on with
    |true=>
     rw[eb]at tl;exact⟨on,t,.inl ⟨rfl,rfl⟩,eb,some (.pl (.str t)),rfl,ku tl (aI (bW (i:=7) (ao rfl) (by simp)) (aI (bW (i:=6) (ao rfl) (by simp)) (bW (i:=5) (ao rfl) (by simp))))⟩
    |false=>
     rw[eb]at tl;exact⟨t,on,.inr ⟨rfl,rfl⟩,kq t3 eb,x7,(by simp[mP]at hx⊢;exact hx.2),gx tl rfl⟩
   obtain⟨x7',h7,hsw⟩:=hsw;obtain⟨ne,hxT,hyT,A'⟩:=A.turn hB.tn el xy lt;have hxk:=(hB.tk x hxT).1;have hyk:=(hB.tk y hyT).1;have hfl:(al.filter λp=>decide (p.1≠(row on).below.length)).length<al.length:=List.length_filter_lt_length_iff_exists.mpr ⟨_,mt,by simp⟩
   obtain⟨al',qx,T',aY,on',y6,y7,e1,e2,e3,e4⟩:=ih (al.filter λp=>decide (p.1≠(row on).below.length)) (sts++[(x,y)]) (T.erase x) (bP row x y) y (some (.pl (.str x))) x7' fuel (by omega) (by omega) (by simp[mP,blV]at h7⊢;exact h7) A'
   refine⟨al',qx,T',aY,on',y6,y7,Ky tst ?_ (mS (by simp) (by simp[mP,hpl,h4,blV]at h7⊢;exact h7)) e1,e2,e3,e4⟩
   refine aI (s':=⟨Sa B keys row (al.filter λp=>decide (p.1≠(row on).below.length)) sts,fh pile B.length (some x4) (some (.pl (.str on))) (some (.pl (.str t))) x7⟩) ((bW (i:=6) (GY (ao rfl) (apk (k:=1) rfl) (aA (mQ (mO (dS (.inl (br rfl (cz ap0))) hon (az (bY rfl))))) bC) (apk (k:=1) rfl) el) (by simp)).trans (by dsimp only;rw[Kz];rfl)) ?_
   refine aI hsw ?_;have hh:=GX hxk hyk ne (row:=row) (by omega) (by have:=(hB.bl y hyk).1;omega) (S:=Sa B keys row (al.filter λp=>decide (p.1≠(row on).below.length)) sts) (j:=B.length) ap0
   rw[yt]at hh;refine aI (s':=⟨Sa B keys (bP row x y) (al.filter λp=>decide (p.1≠(row on).below.length)) sts,fh pile B.length (some x4) (some (.pl (.str y))) (some (.pl (.str x))) x7'⟩) (eN (cU (aA (ao rfl) (aA (ao rfl) (aA (ao rfl) bC))) hh)) ?_
   refine(eN (uq (ao rfl) (apk (k:=2) rfl) (aA (mR (xs:=[.pl (.str "hang"),.pl (.str x),.pl (.str y)]) (aA fI (aA (ao rfl) (aA (ao rfl) bC))) rfl (by simp)) bC) (apk (k:=2) rfl) (by rw[zal];omega))).trans ?_
   dsimp only;rw[Me];show _=some (fN.nx ⟨B++[_,_,dt (.list ((sts++[(x,y)]).map stH))],_⟩);rw[za1];rfl
structure Am(T0:List Str)(ef:Str->aL.Row)(sts:List (Str×Str))(T:List Str)(row:Str->aL.Row)(al:List (Nat×Str))(rest:List Str):Prop where
 hs:Hs T0 ef sts T row
 nk:(al.map Prod.fst).Nodup
 ae:∀p∈al,p.2∈T/\(row p.2).below.length=p.1/\p.2∉rest
 rs:∀t∈rest,t∈T
 cov:∀t∈T,(∃p∈al,p.2=t)\/t∈rest
 nd:rest.Nodup
theorem z4:∀{al:List (Nat×Str)},al.lookup d=none->∀p∈al,p.1≠d
 |(e,u)::al,h,p,hp=>by
  by_cases z:d=e
  ·subst z;rw[za8,beq_self_eq_true]at h;cases h
  ·rw[za8,beq_eq_false_iff_ne.mpr z]at h
   rcases zaf hp with rfl|hp
   ·exact λw=>z w.symm
   ·exact z4 h p hp
theorem Eh(hv:v s=some (.ok (.pl (.str t)) s1))(hd:d s1=some (.ok (.lc j) s2))(hk:k s2=some (.ok (.pl (.int (n:Int))) s3))(hj:s3.S[j]?=some (dt (AL al)))(hl:al.length<=1000)(hn:al.lookup n=none):fQ d k v s=some (.nx ⟨s3.S.set j (dt (AL (al++[(n,t)]))),s3.t⟩):=by
 unfold fQ;rw[fH hv,fH hd,fH hk];unfold Du;dsimp only[keyOf,Option.bind_some];rw[hj];dsimp only;rw[bg (by unfold alL;rw[zal];omega),Ks hn]
theorem G0(hc:c<=200)(h0:Bk c T0 keys ef)(f0:Fm keys ef)(hpl:blV (B.length+3) pile=true)(hp:B[p]?=some (dt (TD T0))):∀(rest:List Str) (al:List (Nat×Str)) (sts:List (Str×Str)) (T:List Str) (row:Str->aL.Row) (x4 x5 x6 x7:Option SV),mP (B.length+3) [x6,x7]=true->Am T0 ef sts T row al rest->
  ∃al' qx T' aY y4 y5 y6 y7,fO (B.length+3) [0,1,2,3] (stays (.lc p) ((T0.map PyData.str).map .pl)) (ngN 4) ki ((rest.map PyData.str).map .pl) ⟨Sa B keys row al sts,fh pile B.length x4 x5 x6 x7⟩=some (.nx ⟨Sa B keys aY al' qx,fh pile B.length y4 y5 y6 y7⟩)/\Am T0 ef qx T' aY al' []:=by
 intro rest
 induction rest with
 |nil=>intro al sts T row x4 x5 x6 x7 _ A;exact⟨al,sts,T,row,x4,x5,x6,x7,sA (mT (bJ hp)),A⟩
 |cons t rest ih=>
  intro al sts T row x4 x5 x6 x7 hx A;obtain⟨nt,ndr⟩:=List.nodup_cons.mp A.nd;have A1:Al T0 ef sts T row al t rest:=⟨A.hs,A.nk,λq hq=>(let⟨a1,a2,a3⟩:=A.ae q hq;⟨a1,a2,λe=>a3 (by rw[e];exact zas),λz=>a3 (zak _ z)⟩),⟨A.rs t zas,nt⟩,λu hu=>A.rs u (zak _ hu),λu hu=>by
   rcases A.cov u hu with h|h
   ·exact .inr (.inl h)
   ·rcases zaf h with h|h
    ·exact .inl h
    ·exact .inr (.inr h)⟩
  have all:∀{al:List (Nat×Str)} {sts:List (Str×Str)} {T:List Str} {row:Str->aL.Row},Hs T0 ef sts T row->(al.map Prod.fst).Nodup->(∀q∈al,q.2∈T/\(row q.2).below.length=q.1)->al.length<=201:=fun{al sts T row} hs nk ae=>by
   obtain⟨hB,_⟩:=hs.inv h0 f0;have:=aL.ja (al.map Prod.fst) (List.range 201) nk λd hd=>by
    obtain⟨q,hq,rfl⟩:=List.mem_map.mp hd;obtain⟨a1,a2⟩:=ae q hq;have:=(hB.bl q.2 (hB.tk q.2 a1).1).1;exact List.mem_range.mpr (by omega)
   simpa using this
  obtain⟨al',qx,T',aY,on',x6',x7',w1,A2,w3,w4⟩:=GZ hc h0 f0 hpl (x4:=.pl (.str t)) rfl (rest:=rest) al.length al sts T row t x6 x7 1000000 (zap _) (by have:=all A.hs A.nk λq hq=>⟨(A.ae q hq).1,(A.ae q hq).2.1⟩;omega) hx A1
  obtain⟨hB,_⟩:=A2.hs.inv h0 f0;have hon:=(hB.tk on' A2.oo.1).1;have A3:Am T0 ef qx T' aY (al'++[((aY on').below.length,on')]) rest:=by
   refine⟨A2.hs,?_,λq hq=>?_,A2.rs,λu hu=>?_,ndr⟩
   ·rw[za1,List.nodup_append]
    refine⟨A2.nk,by simp,λa ha b hb e=>?_⟩
    obtain⟨q,hq,rfl⟩:=List.mem_map.mp ha;rw[List.map_singleton,List.mem_singleton]at hb;exact z4 w3 q hq (e.trans hb)
   ·rcases zae hq with hq|hq
    ·obtain⟨a1,a2,_,a4⟩:=A2.ae q hq
     exact⟨a1,a2,a4⟩
    ·rw[zad hq];exact⟨A2.oo.1,rfl,A2.oo.2⟩
   ·rcases A2.cov u hu with rfl|⟨q,hq,e⟩|h
    ·exact .inl ⟨_,zan _ (List.mem_singleton.mpr rfl),rfl⟩
    ·exact .inl ⟨q,zaW _ hq,e⟩
    ·exact .inr h
  obtain⟨al2,Nh,T2,row2,y4,y5,y6,y7,i1,i2⟩:=ih (al'++[((aY on').below.length,on')]) qx T' aY (some (.pl (.str t))) (some (.pl (.str on'))) x6' x7' w4 A3;refine⟨al2,Nh,T2,row2,y4,y5,y6,y7,?_,i2⟩;refine qv (s1:=⟨Sa B keys row al sts,fh pile B.length (some (.pl (.str t))) x5 x6 x7⟩) (s2:=⟨Sa B keys aY (al'++[((aY on').below.length,on')]) qx,fh pile B.length (some (.pl (.str t))) (some (.pl (.str on'))) x6' x7'⟩) (mT (bJ hp)) (yr (by simp)) ?_ (mS (by simp) (by simp[mP,hpl,blV]at w4⊢;exact w4)) i1
  refine aI (s':=⟨Sa B keys row al sts,fh pile B.length (some (.pl (.str t))) (some (.pl (.str t))) x6 x7⟩) (bW (i:=5) (ao rfl) (by simp)) ?_
  refine aI w1 ((Eh (ao rfl) (ao rfl) (mQ (mO (dS (.inl (br rfl (cz ap0))) hon (az (bY rfl))))) (apk (k:=1) rfl) (by have:=all A2.hs A2.nk λq hq=>⟨(A2.ae q hq).1,(A2.ae q hq).2.1⟩;omega) w3).trans ?_)
  dsimp only;rw[Kz]
theorem Ei(hc:c<=200)(h0:Bk c T0 keys ef)(f0:Fm keys ef)(hp:S[p]?=some (dt (TD T0)))(hq:S[q]?=some (dt (HD keys ef))) :
  ∃(sts:List (Str×Str)) (T:List Str) (row:Str->aL.Row) (al:List (Nat×Str)),gP S [.tp [.lc p,.lc q]]=some (.ok (.tp [.tp [.lc (S.length+3),.lc S.length],.lc (S.length+2)]) (S++[dt (HD keys row),dt (AL al),dt (.list (sts.map stH)),dt (TD T)]))/\Hs T0 ef sts T row/\∀t∈T,∀u∈T,(row t).below.length=(row u).below.length->t=u:=by
 have lp:=fJ hp;have lq:=fJ hq;have tl0:=h0.tl;obtain⟨al,sts,T,row,y4,y5,y6,y7,lo,A⟩:=G0 hc h0 f0 (B:=S) (pile:=.tp [.lc p,.lc q]) (by simp[blV,fM];omega) hp T0 [] [] T0 ef none none none none rfl ⟨.nil,List.nodup_nil,(λq hq=>by cases hq),λt ht=>ht,λt ht=>.inr ht,h0.tn⟩
 obtain⟨hB,_⟩:=A.hs.inv h0 f0;refine⟨sts,T,row,al,?_,A.hs,λt ht u hu e=>?_⟩
 ·refine e8 (t':=fh (.tp [.lc p,.lc q]) S.length y4 y5 y6 y7) rfl ?_ (by simp[blV,fM])
  refine aI (s':=⟨S++[dt (HD keys ef)],[some (.tp [.lc p,.lc q]),some (.lc S.length),none,none,none,none,none,none]⟩) (bW (i:=1) (s':=⟨S++[dt (HD keys ef)],[some (.tp [.lc p,.lc q]),none,none,none,none,none,none,none]⟩) (iS (d7 (rs:=[(HD keys ef,.fz)]) (res:=(HD keys ef,true)) (aJ (aj (gw (br rfl (cY hp hq)))) a8) rfl) (jC keys ef)) (by simp)) ?_
  refine aI (s':=⟨S++[dt (HD keys ef),dt (AL [])],[some (.tp [.lc p,.lc q]),some (.lc S.length),some (.lc (S.length+1)),none,none,none,none,none]⟩) (bW (i:=2) (oA (k:=1) (d:=.dict []) rfl rfl rfl) (by simp)) ?_
  refine aI (s':=⟨Sa S keys ef [] [],fh (.tp [.lc p,.lc q]) S.length none none none none⟩) ((bW (i:=3) wK (by simp)).trans (by dsimp only;rw[GV,zaD];rfl)) ?_
  refine aI (s':=⟨Sa S keys row al sts,fh (.tp [.lc p,.lc q]) S.length y4 y5 y6 y7⟩) (wM (ds:=T0.map .str) (s1:=⟨Sa S keys ef [] [],fh (.tp [.lc p,.lc q]) S.length none none none none⟩) (cL (ao rfl) fI rfl) (bJ hp) (by dsimp only;rw[show(Sa S keys ef [] []).length=S.length+3 by simp];exact lo)) ?_
  have dm:([("held",1)]:List (Str×Nat)).map (λz=>bh (vw ⟨Sa S keys row al sts,fh (.tp [.lc p,.lc q]) S.length y4 y5 y6 y7⟩) z.2)=[.fz (HD keys row)]:=by
   show [bh (vw ⟨Sa S keys row al sts,fh (.tp [.lc p,.lc q]) S.length y4 y5 y6 y7⟩) 1]=_;unfold bh;rw[br (d:=HD keys row) rfl (cz ap0)]
  have eT:=A.hs.aq h0.tn λt ht=>(h0.tk t ht).2
  have cmp:mLC [("held",1)] (sY (mOp gIx (ai 0) (mC (.int 0)))) j9 ke (vw ⟨Sa S keys row al sts,fh (.tp [.lc p,.lc q]) S.length y4 y5 y6 y7⟩)=some ((TD T,.new),vw ⟨Sa S keys row al sts,fh (.tp [.lc p,.lc q]) S.length y4 y5 y6 y7⟩):=by
   refine vI (xI (aj (lu (aq:=T0) (keys:=keys) (row:=ef) (br rfl (cY (bJ hp) (bJ hq)))))) ?_ (by rw[zal];have:=hB.tl;omega)
   rw[dm,eT];exact fG (p:=λn=>(row n).above.isNone) T0 (λn hn=>⟨_,test_ev (k:=.fz) (bD (r:=(.none,.fz)) (res:=(.bool (row n).above.isNone,false)) (aj (eE (dS (i:=1) (.inl rfl) (h0.tk n hn).1 (az rfl)))) (aj rfl) (qt _))⟩) λn hn=>⟨_,aj (az rfl)⟩
  exact de (cw (xs:=[.tp [.lc (S.length+3),.lc S.length],.lc (S.length+2)]) (aA (cw (xs:=[.lc (S.length+3),.lc S.length]) (aA (oA (k:=3) cmp (gT _) rfl) (aA (ao rfl) bC)) rfl (by simp)) (aA (ao rfl) bC)) rfl (by simp))
 ·rcases A.cov t ht with⟨q1,hq1,rfl⟩|h
  ·rcases A.cov u hu with⟨q2,hq2,rfl⟩|h
   ·rw[(A.ae q1 hq1).2.1,(A.ae q2 hq2).2.1]at e
    rw[uv A.nk hq1 hq2 e]
   ·cases h
  ·cases h
def bF(keys:List Str)(n:Str):List Str:=keys.filter λx=>!decide (x=n)
theorem cm:m∈bF keys n↔m∈keys/\m≠n:=by
 unfold bF;rw[List.mem_filter];simp
def free(row:Str->aL.Row)(l:List Str):Str->aL.Row:=λm=>if m∈l then⟨(row m).key,none,false,(row m).below⟩else row m
theorem iG(h:m∈l):free row l m=⟨(row m).key,none,false,(row m).below⟩:=if_pos h
theorem eg(h:m∉l):free row l m=row m:=if_neg h
theorem gh(l:List Str)(m:Str):(free row l m).key=(row m).key/\(free row l m).below=(row m).below:=by
 by_cases h:m∈l
 ·rw[iG h];exact⟨rfl,rfl⟩
 ·rw[eg h];exact⟨rfl,rfl⟩
theorem By(l:List Str)(b:Str):free row (l++[b])=aX (free row l) b ⟨(free row l b).key,none,false,(free row l b).below⟩:=by
 funext m
 by_cases e:m=b
 ·subst e
  rw[aM,iG (by simp),(gh l m).1,(gh l m).2]
 ·rw[aD _ _ e]
  by_cases h:m∈l
  ·rw[iG h,iG (zaW _ h)]
  ·rw[eg h,eg λz=>(zae z).elim h λw=>e (zad w)]
theorem sD{row:Str->aL.Row}(n:Str):∀keys:List Str,lg (cj keys row) (.inr n)=cj (bF keys n) row
 | []=>rfl
 |m::l=>by
  have ih:=sD (row:=row) n l;unfold lg cj bF at ih⊢;rw[zaz,List.filter_cons,List.filter_cons];have e:(decide (keyOf (PyData.str m)≠some (Sum.inr n)))= !decide (m=n):=by
   by_cases z:m=n
   ·subst z;rw[zaH rfl];exact zaO λw=>w rfl
   ·rw[zaO z]
    refine zaH λw=>z ?_
    have w':some (Sum.inr m:Key)=some (Sum.inr n):=w;injection w' with w;injection w
  dsimp only;rw[e];split
  ·rw[zaz,ih]
  ·exact ih
theorem qy(h:Bk c aq keys row)(f:Fm keys row)(hn:n∈aq):Bk c (bF aq n++(row n).below) (bF keys n) (free row (row n).below)/\Fm (bF keys n) (free row (row n).below)/\mk (bF keys n) (free row (row n).below)<=mk keys row:=by
 have hk:=(h.tk n hn).1;have bu:=f.up n hk;have bn:∀b∈(row n).below,b≠n/\b∉aq:=λb hb=>by
  have q:=(bu b hb).2;refine⟨λe=>?_,λz=>?_⟩
  ·rw[e,(h.tk n hn).2]at q;cases q
  ·rw[(h.tk b z).2]at q;cases q
 have ab:∀m,m∈bF keys n->∀a,(free row (row n).below m).above=some a->m∉(row n).below/\(row m).above=some a/\a≠n:=λm hm a e=>by
  by_cases z:m∈(row n).below
  ·rw[iG z]at e;cases e
  ·rw[eg z]at e
   refine⟨z,e,λw=>z ?_⟩
   subst w;exact f.dn m (cm.mp hm).1 a e
 have un:∀m,m∈bF keys n->∀b∈(row m).below,b∈bF keys n/\b∉(row n).below/\(row b).above=some m:=λm hm b hb=>by
  obtain⟨m1,m2⟩:=cm.mp hm;obtain⟨u1,u2⟩:=f.up m m1 b hb;refine⟨cm.mpr ⟨u1,λe=>?_⟩,λz=>?_,u2⟩
  ·rw[e,(h.tk n hn).2]at u2;cases u2
  ·rw[(bu b z).2]at u2;cases u2;exact m2 rfl
 have hb:Bt (λm=>(row m).key) c (bF aq n++(row n).below) (bF keys n) (free row (row n).below):=by
  refine⟨h.nd.sublist List.filter_sublist,λm hm=>h.nm m (cm.mp hm).1,?_,λt ht=>?_,λm hm e=>?_,λm hm e=>?_,λm hm a e=>?_,λm hm=>?_,λm hm a e=>?_⟩
  ·rw[List.nodup_append]
   exact⟨h.tn.sublist List.filter_sublist,f.nd n hk,λx hx y hy e=>(bn y hy).2 (e▸(cm.mp hx).1)⟩
  ·rcases zae ht with ht|ht
   ·obtain⟨t1,t2⟩:=cm.mp ht
    rw[eg λz=>(bn t z).2 t1]
    exact⟨cm.mpr ⟨(h.tk t t1).1,t2⟩,(h.tk t t1).2⟩
   ·rw[iG ht];exact⟨cm.mpr ⟨(bu t ht).1,(bn t ht).1⟩,rfl⟩
  ·by_cases z:m∈(row n).below
   ·exact zan _ z
   ·rw[eg z]at e
    exact zaW _ (cm.mpr ⟨h.ne m (cm.mp hm).1 e,(cm.mp hm).2⟩)
  ·by_cases z:m∈(row n).below
   ·rw[iG z]at e;cases e
   ·rw[eg z]at e⊢;exact h.mkd m (cm.mp hm).1 e
  ·obtain⟨a1,a2,a3⟩:=ab m hm a e
   exact cm.mpr ⟨h.ab m (cm.mp hm).1 a a2,a3⟩
  ·rw[(gh _ m).2]
   exact⟨(h.bl m (cm.mp hm).1).1,λb hb=>(un m hm b hb).1⟩
  ·exact h.ho m (cm.mp hm).1 a (ab m hm a e).2.1
 refine⟨hb.re λm _=>(gh _ m).1.symm,⟨λm hm=>?_,λm hm b hb=>?_,λm hm a e=>?_,λm hm i b e=>?_⟩,?_⟩
 ·rw[(gh _ m).2];exact f.nd m (cm.mp hm).1
 ·rw[(gh _ m).2]at hb
  obtain⟨u1,u2,u3⟩:=un m hm b hb;rw[eg u2];exact⟨u1,u3⟩
 ·obtain⟨a1,a2,a3⟩:=ab m hm a e
  rw[(gh _ a).2];exact f.dn m (cm.mp hm).1 a a2
 ·rw[(gh _ m).2]at e
  obtain⟨u1,u2,u3⟩:=un m hm b (zaj e);rw[eg u2];exact f.dg m (cm.mp hm).1 i b e
 ·unfold mk bF
  rw[List.filter_filter,<-List.countP_eq_length_filter,<-List.countP_eq_length_filter];refine List.countP_mono_left λm _ e=>?_
  rw[Bool.and_eq_true]at e
  by_cases z:m∈(row n).below
  ·rw[iG z]at e;cases e.1
  ·rw[eg z]at e;exact e.1
def stF(b:Str):D:=.tuple [.str "free",.str b]
theorem mU{α:Type}{f : α->D}(h:∀x,dU (f x)=true)(l:List α):cI (.list (l.map f)) true=true:=by
 show a6 (l.map f)=true
 induction l with
 |nil=>rfl
 |cons x l ih=>simp only[List.map_cons,a6,ih,Bool.and_true];exact h x
abbrev St(B:List (Option Cl))(keys:List Str)(row:Str->aL.Row)(ts:List Str)(sts:List Str):List (Option Cl):=B++[dt (HD keys row),dt (TD ts),dt (.list (sts.map stF))]
abbrev ft(pile nm:SV)(N:Nat)(x3:SV)(x6 x7:Option SV):List (Option SV):=[some pile,some nm,some (.lc N),some x3,some (.lc (N+1)),some (.lc (N+2)),x6,x7]
theorem Bz(hpl:blV (B.length+3) pile=true)(hnm:blV (B.length+3) nm=true)(h3:blV (B.length+3) x3=true)(hk:keys.length<=1000)(hts:ts.length<=1000):∀(l pre:List Str) (x6:Option SV),(∀b∈l,b∈keys)->pre.length+l.length<=1000->
  ∃x6',fO (B.length+3) [0,1,2,3,4,5,7] (λ_=>True) (ngN 6) mG ((l.map PyData.str).map .pl) ⟨St B keys (free row pre) (ts++pre) pre,ft pile nm B.length x3 x6 none⟩=some (.nx ⟨St B keys (free row (pre++l)) (ts++(pre++l)) (pre++l),ft pile nm B.length x3 x6' none⟩):=by
 intro l
 induction l with
 |nil=>intro pre x6 _ _;rw[zaR];exact⟨x6,wL⟩
 |cons b l ih=>
  intro pre x6 hl hz;rw[zaw]at hz;have hb:=hl b zas;obtain⟨x6',h1⟩:=ih (pre++[b]) (some (.pl (.str b))) (λy hy=>hl y (zak _ hy)) (by rw[zau,za7];omega)
  rw[zaD]at h1;refine⟨x6',sy (s1:=⟨St B keys (free row pre) (ts++pre) pre,ft pile nm B.length x3 (some (.pl (.str b))) none⟩) (s2:=⟨St B keys (free row (pre++[b])) (ts++(pre++[b])) (pre++[b]),ft pile nm B.length x3 (some (.pl (.str b))) none⟩) (yr (by simp)) ?_ (mS (by simp) (by simp[mP,hpl,hnm,h3,blV])) h1⟩
  refine aI (s':=⟨St B keys (free row (pre++[b])) (ts++pre) pre,ft pile nm B.length x3 (some (.pl (.str b))) none⟩) ((jD (r:=⟨(free row pre b).key,none,false,(free row pre b).below⟩) (gy (b8 (rs:=[(bE (free row pre b),.fz)]) (aJ (aj (dS (.inl (br rfl (cz ap0))) hb (az (bY rfl)))) a8) (sx _) (df _)) (df _)) (ao rfl) (ao rfl) ap0 hk).trans (by rw[iF hb,yt,By])) ?_
  refine aI (s':=⟨St B keys (free row (pre++[b])) (ts++(pre++[b])) pre,ft pile nm B.length x3 (some (.pl (.str b))) none⟩) ((eN (uq (ao rfl) (apk (k:=1) rfl) (aA (ao rfl) bC) (apk (k:=1) rfl) (by rw[zal,zau];omega))).trans (by dsimp only;rw[Kz,wJ,zaD])) ?_
  refine(eN (uq (ao rfl) (apk (k:=2) rfl) (aA (mR (xs:=[.pl (.str "free"),.pl (.str b)]) (aA fI (aA (ao rfl) bC)) rfl (by simp)) bC) (apk (k:=2) rfl) (by rw[zal];omega))).trans ?_
  dsimp only;rw[Me];show _=some (fN.nx ⟨B++[_,_,dt (.list ((pre++[b]).map stF))],_⟩);rw[za1];rfl
theorem jE:∀a b:List D,a6 (a++b)=(a6 a&&a6 b)
 | [],b=>by simp[a6]
 |x::a,b=>by simp only[List.cons_append,a6,jE a b,Bool.and_assoc]
theorem Ej(h:a s=some (.ok (.lc k) s1))(h0:s1.S[k]?=some (dt (HD keys row)))(h1:m s1=some (.ok [.pl (.str n)] s2))(h2:s2.S[k]?=some (dt (HD keys row)))(hn:n∈keys):j7 a m s=some (.ok (.pl (bE (row n))) ⟨s2.S.set k (dt (HD (bF keys n) row)),s2.t⟩):=by
 unfold j7;rw[dC h];simp only[mE,h0,if_true];rw[dC h1];unfold v5;dsimp only[keyOf,Option.bind_some];rw[h2];dsimp only;rw[fV,if_pos hn,sD];rfl
def lK(fs:List Str)(hs:List (Str×Str)):List D:=fs.map stF++hs.map stH
theorem uw(hc:c<=200)(h:Bk c aq keys row)(f:Fm keys row)(hn:n∈aq)(hp:S[p]?=some (dt (TD aq)))(hq:S[q]?=some (dt (HD keys row))) :
  ∃(sts:List (Str×Str)) (T:List Str) (aY:Str->aL.Row) (X:List (Option Cl)),eZ S [.tp [.lc p,.lc q],.pl (.str n)]=some (.ok (.tp [.pl (.int (row n).key),.tp [.lc (S.length+6),.lc (S.length+3)],.lc (S.length+7)]) (S++X))/\(S++X)[S.length+6]?=some (dt (TD T))/\(S++X)[S.length+3]?=some (dt (HD (bF keys n) aY))/\(S++X)[S.length+7]?=some (dt (.list (lK (row n).below sts)))/\Hs (bF aq n++(row n).below) (free row (row n).below) sts T aY/\∀t∈T,∀u∈T,(aY t).below.length=(aY u).below.length->t=u:=by
 have lp:=fJ hp;have lq:=fJ hq;have kl:=h.kl;have tl:=h.tl;have hk:=(h.tk n hn).1;have bb:=h.bl n hk;have ol:(bF aq n).length<=aq.length:=zaY _ _;have okl:(bF keys n).length<=keys.length:=zaY _ _;have rp:∀X:List (Option Cl),rdV (S++X) (.tp [.lc p,.lc q])=some (PD aq keys row):=λX=>cY (bJ hp) (bJ hq)
 obtain⟨hB',hF',_⟩:=qy h f hn;have bo:∀b∈(row n).below,b∈bF keys n:=λb hb=>(hB'.tk b (zan _ hb)).1
 obtain⟨x6,fl⟩:=Bz (keys:=bF keys n) (B:=S) (pile:=.tp [.lc p,.lc q]) (nm:=.pl (.str n)) (x3:=.pl (bE (row n))) (by simp[blV,fM];omega) rfl rfl (by omega) (ts:=bF aq n) (by omega) (row:=row) (row n).below [] none bo (by simp;omega)
 rw[List.nil_append,zaR,show free row []=row from funext λm=>eg (by simp)]at fl
 obtain⟨sts,T,aY,al,e1,e2,e3⟩:=Ei hc hB' hF' (S:=St S (bF keys n) (free row (row n).below) (bF aq n++(row n).below) (row n).below) (p:=S.length+1) (q:=S.length) (apk (k:=1) rfl) ap0;rw[show(St S (bF keys n) (free row (row n).below) (bF aq n++(row n).below) (row n).below).length=S.length+3 by simp,zaD]at e1
 have sl:=e2.len;rw[zau]at sl;have cmp:mLC [("name",1)] (sY (mOp gIx (ai 0) (mC (.int 0)))) mH mI (vw ⟨S++[dt (HD (bF keys n) row)],[some (.tp [.lc p,.lc q]),some (.pl (.str n)),some (.lc S.length),some (.pl (bE (row n))),none,none,none,none]⟩)=some ((TD (bF aq n),.new),vw ⟨S++[dt (HD (bF keys n) row)],[some (.tp [.lc p,.lc q]),some (.pl (.str n)),some (.lc S.length),some (.pl (bE (row n))),none,none,none,none]⟩):=by
  refine vI (xI (aj (lu (aq:=aq) (keys:=keys) (row:=row) (br rfl (rp _))))) ?_ (by rw[zal];omega)
  have dm:([("name",1)]:List (Str×Nat)).map (λz=>bh (vw ⟨S++[dt (HD (bF keys n) row)],[some (.tp [.lc p,.lc q]),some (.pl (.str n)),some (.lc S.length),some (.pl (bE (row n))),none,none,none,none]⟩) z.2)=[.fz (.str n)]:=by
   show [bh (vw _) 1]=_;unfold bh;rw[bY (d:=.str n) rfl]
  rw[dm];exact fG (p:=λx=>!decide (x=n)) aq (λx hx=>⟨_,test_ev (k:=.fz) (bD (r:=(.str n,.fz)) (res:=(.bool (!decide (x=n)),false)) (aj (az rfl)) (aj (az rfl)) (zR (h.ok (h.tk x hx).1) (h.ok hk)))⟩) λx hx=>⟨_,aj (az rfl)⟩
 refine⟨sts,T,aY,[dt (HD (bF keys n) (free row (row n).below)),dt (TD (bF aq n++(row n).below)),dt (.list ((row n).below.map stF)),dt (HD (bF keys n) aY),dt (AL al),dt (.list (sts.map stH)),dt (TD T),dt (.list (lK (row n).below sts))],?_,apk (k:=6) rfl,apk (k:=3) rfl,apk (k:=7) rfl,e2,e3⟩;refine e8 (t':=ft (.tp [.lc p,.lc q]) (.pl (.str n)) S.length (.pl (bE (row n))) x6 (some (.tp [.tp [.lc (S.length+6),.lc (S.length+3)],.lc (S.length+5)]))) rfl ?_ (by simp[blV,fM])
 refine aI (s':=⟨S++[dt (HD keys row)],[some (.tp [.lc p,.lc q]),some (.pl (.str n)),some (.lc S.length),none,none,none,none,none]⟩) (bW (i:=2) (s':=⟨S++[dt (HD keys row)],[some (.tp [.lc p,.lc q]),some (.pl (.str n)),none,none,none,none,none,none]⟩) (iS (d7 (rs:=[(HD keys row,.fz)]) (res:=(HD keys row,true)) (aJ (aj (gw (br rfl (cY hp hq)))) a8) rfl) (jC keys row)) (by simp)) ?_
 refine aI (s':=⟨S++[dt (HD (bF keys n) row)],[some (.tp [.lc p,.lc q]),some (.pl (.str n)),some (.lc S.length),some (.pl (bE (row n))),none,none,none,none]⟩) ((bW (i:=3) (Ej (ao rfl) ap0 (aA (ao rfl) bC) ap0 hk) (by simp)).trans (by dsimp only;rw[yt];rfl)) ?_
 refine aI (s':=⟨S++[dt (HD (bF keys n) row),dt (TD (bF aq n))],[some (.tp [.lc p,.lc q]),some (.pl (.str n)),some (.lc S.length),some (.pl (bE (row n))),some (.lc (S.length+1)),none,none,none]⟩) (bW (i:=4) (oA (k:=1) cmp (gT _) rfl) (by simp)) ?_
 refine aI (s':=⟨St S (bF keys n) row (bF aq n) [],ft (.tp [.lc p,.lc q]) (.pl (.str n)) S.length (.pl (bE (row n))) none none⟩) ((bW (i:=5) wK (by simp)).trans (by dsimp only;rw[GV,zaD];rfl)) ?_
 refine aI (s':=⟨St S (bF keys n) (free row (row n).below) (bF aq n++(row n).below) (row n).below,ft (.tp [.lc p,.lc q]) (.pl (.str n)) S.length (.pl (bE (row n))) x6 none⟩) (zX (ds:=(row n).below.map .str) (D8 (aj (g9 (az (Kv rfl))))) (by dsimp only;rw[show(St S (bF keys n) row (bF aq n) []).length=S.length+3 by simp];exact fl)) ?_
 refine aI (s':=⟨S++[dt (HD (bF keys n) (free row (row n).below)),dt (TD (bF aq n++(row n).below)),dt (.list ((row n).below.map stF)),dt (HD (bF keys n) aY),dt (AL al),dt (.list (sts.map stH)),dt (TD T)],ft (.tp [.lc p,.lc q]) (.pl (.str n)) S.length (.pl (bE (row n))) x6 (some (.tp [.tp [.lc (S.length+6),.lc (S.length+3)],.lc (S.length+5)]))⟩) (bW (i:=7) (cU (aA (cw (xs:=[.lc (S.length+1),.lc S.length]) (aA (ao rfl) (aA (ao rfl) bC)) rfl (by simp)) bC) e1) (by simp)) ?_
 have rh:rdV (S++[dt (HD (bF keys n) (free row (row n).below)),dt (TD (bF aq n++(row n).below)),dt (.list ((row n).below.map stF)),dt (HD (bF keys n) aY),dt (AL al),dt (.list (sts.map stH)),dt (TD T)]) (.tp [.tp [.lc (S.length+6),.lc (S.length+3)],.lc (S.length+5)])=some (.tuple [PD T (bF keys n) aY,.list (sts.map stH)]):=by
  simp only[rdV,gF,apk (k:=6) (show([dt (HD (bF keys n) (free row (row n).below)),dt (TD (bF aq n++(row n).below)),dt (.list ((row n).below.map stF)),dt (HD (bF keys n) aY),dt (AL al),dt (.list (sts.map stH)),dt (TD T)]:List (Option Cl))[6]?=some (dt (TD T))from rfl),apk (k:=3) (show([dt (HD (bF keys n) (free row (row n).below)),dt (TD (bF aq n++(row n).below)),dt (.list ((row n).below.map stF)),dt (HD (bF keys n) aY),dt (AL al),dt (.list (sts.map stH)),dt (TD T)]:List (Option Cl))[3]?=some (dt (HD (bF keys n) aY))from rfl),apk (k:=5) (show([dt (HD (bF keys n) (free row (row n).below)),dt (TD (bF aq n++(row n).below)),dt (.list ((row n).below.map stF)),dt (HD (bF keys n) aY),dt (AL al),dt (.list (sts.map stH)),dt (TD T)]:List (Option Cl))[5]?=some (dt (.list (sts.map stH)))from rfl),zai,zaT]
 refine de (cw (xs:=[.pl (.int (row n).key),.tp [.lc (S.length+6),.lc (S.length+3)],.lc (S.length+7)]) (aA (cL (ao rfl) fI rfl) (aA (cL (ao rfl) fI rfl) (aA (oA (k:=7) (bD (r:=(.list (sts.map stH),.fz)) (res:=(.list (lK (row n).below sts),true)) (aj (az (br rfl (cz (apk (k:=2) rfl))))) (aj (bD (r:=(.int 1,.fz)) (res:=(.list (sts.map stH),false)) (aj (az (br rfl rh))) (aj rfl) rfl)) (nh _ _ (by simp only[List.length_map];omega))) ?_ rfl) bC))) rfl (by simp))
 show a6 (lK (row n).below sts)=true;unfold lK;rw[jE,show a6 ((row n).below.map stF)=true from mU (λx=>rfl) _,show a6 (sts.map stH)=true from mU (λx=>rfl) _];rfl
theorem nN{α:Type}{S:List α}{i x:Nat}{u : α}(h:x≠i):(S.set i u)[x]?=S[x]?:=zaA λe=>h e.symm
def Wk(W:List (Option Cl))(i j d:Nat)(T keys:List Str)(row:Str->aL.Row)(L:List D):List (Option Cl):=((W.set i (dt (TD T))).set j (dt (HD keys row))).set d (dt (.list L))
structure Wx(W:List (Option Cl))(i j d:Nat):Prop where
 li:i<W.length
 lj:j<W.length
 ld:d<W.length
 ij:i≠j
 id:i≠d
 jd:j≠d
section
variable{W:List (Option Cl)}{i j d:Nat}{T T' keys':List Str}{aY:Str->aL.Row}{L L':List D}
end
abbrev tp(l:List Str):D:=.tuple (l.map .str)
theorem mV(hx:x<n)(h:S[x]?=some (dt d)):(gcS n S)[x]?=some (dt d):=by
 unfold gcS;rw[zao,List.getElem?_take,if_pos hx,h];rfl
section
variable{ρ:Rho}{A B:List D}(h3 : ρ[3]?=some (.fz (.list (A++B))))(h4 : ρ[4]?=some (.fz (.list A)))
include h4
include h3
end
theorem Bt.rok(h:Bt K c aq keys row):∀n∈keys,rOk (row n):=λn hn=>⟨λa ha=>h.ok (h.ab n hn a ha),λb hb=>h.ok ((h.bl n hn).2 b hb)⟩
theorem Bt.tok(h:Bt K c aq keys row):∀t∈aq,PyData.strOk t=true:=λt ht=>h.ok (h.tk t ht).1
abbrev fr(a b i j:Nat)(n:Str)(s4 s5 s6:Option SV):List (Option SV):=[some (.tp [.lc a,.lc b]),some (.lc i),some (.lc j),some (.pl (.str n)),s4,s5,s6]
abbrev lt(scr:D)(a b:Nat)(cell:Int)(x5 x6 x7:Option SV):List (Option SV):=[some (.pl scr),some (.lc 1),some (.lc 2),some (.tp [.lc a,.lc b]),some (.pl (.int cell)),x5,x6,x7]
def gU(row:Str->aL.Row)(n:Str)(k:Int):Str->aL.Row:=aX row n ⟨k,(row n).above,(row n).mark,(row n).below⟩
theorem ux(n:Str)(k:Int):gU row n k n=⟨k,(row n).above,(row n).mark,(row n).below⟩:=aM _ _ _
theorem uy(k:Int)(h:m≠n):gU row n k m=row m:=aD _ _ h
theorem cO(n m:Str)(k:Int):(gU row n k m).above=(row m).above/\(gU row n k m).mark=(row m).mark/\(gU row n k m).below=(row m).below:=by
 by_cases e:m=n
 ·subst e;rw[ux];exact⟨rfl,rfl,rfl⟩
 ·rw[uy k e];exact⟨rfl,rfl,rfl⟩
theorem Bt.less(h:Bt K c aq keys row)(n:Str)(k:Int):Bt K c aq keys (gU row n k) :=
 ⟨h.nd,h.nm,h.tn,λt ht=>⟨(h.tk t ht).1,by rw[(cO n t k).1];exact(h.tk t ht).2⟩,λm hm e=>h.ne m hm (by rw[(cO n m k).1]at e;exact e),λm hm e=>by rw[(cO n m k).2.1]at e;rw[(cO n m k).1];exact h.mkd m hm e,λm hm a e=>h.ab m hm a (by rw[(cO n m k).1]at e;exact e),λm hm=>by rw[(cO n m k).2.2];exact h.bl m hm,λm hm a e=>h.ho m hm a (by rw[(cO n m k).1]at e;exact e)⟩
section
variable{K:Str->Int}{n:Str}{k:Int}
def Keeps(row:Str->aL.Row)(n:Str)(k:Int):Prop:=∀a,(row n).above=some a->aT k n (row a).key a=false
end
section
variable{K:Str->Int}{n:Str}{k:Int}{S:List (Option Cl)}{p q:Nat}
theorem sE(hc:c<=200)(h:Bt K c aq keys row)(hn:n∈keys)(hk:k<(row n).key)(hp:S[p]?=some (dt (TD aq)))(hq:S[q]?=some (dt (HD keys row)))
  (ho:u ⟨S++[dt (HD keys (gU row n k))],[some (.tp [.lc p,.lc q]),some (.pl (.str n)),some (.pl (.int k)),some (.pl (bE (row n))),some (.lc S.length)]⟩=o) :
  bA (gH (nO (cb dc (aF (ai 0) (aF (ai 1) a9))))) (bA (cD (nO (mOp dP (mOp gIx (ai 0) (mC (.int 1))) (ai 1))) (ngN 3)) (bA (iA (nTo (bc (mOp gGe (ai 2) (mOp gIx (ai 3) (mC (.int 0)))))) xP gq) (bA (cD (nO (mCB eK (aF (mOp gIx (ai 0) (mC (.int 1))) a9))) (ngN 4)) (bA (fQ (aS 4) (aS 1) (d9 (ar (aS 2) (ar (nIx (aS 3) (nLit (.int 1))) (ar (nIx (aS 3) (nLit (.int 2))) (ar (nIx (aS 3) (nLit (.int 3))) aZ)))))) u)))) ⟨S,[some (.tp [.lc p,.lc q]),some (.pl (.str n)),some (.pl (.int k)),none,none]⟩=o:=by
 have kl:=h.kl;have rp:=cY hp hq;refine aI (eN (gy (b8 (rs:=[(PD aq keys row,.fz),(.str n,.fz)]) (aJ (aj (az (br rfl rp))) (aJ (aj (az (bY rfl))) a8)) (zW hn) rfl) rfl)) ?_;refine aI (s':=⟨S,[some (.tp [.lc p,.lc q]),some (.pl (.str n)),some (.pl (.int k)),some (.pl (bE (row n))),none]⟩) (bW (i:=3) (gy (nL hn (aj (gw (br rfl rp))) (az (bY rfl))) (df _)) (by simp)) ?_
 refine aI (gx (cV (pY (Ly (eY (bY rfl)) (kQ (az (bY rfl)))) (zaO (by omega)))) rfl) ?_
 refine aI (s':=⟨S++[dt (HD keys row)],[some (.tp [.lc p,.lc q]),some (.pl (.str n)),some (.pl (.int k)),some (.pl (bE (row n))),some (.lc S.length)]⟩) (bW (i:=4) (s':=⟨S++[dt (HD keys row)],[some (.tp [.lc p,.lc q]),some (.pl (.str n)),some (.pl (.int k)),some (.pl (bE (row n))),none]⟩) (iS (d7 (rs:=[(HD keys row,.fz)]) (res:=(HD keys row,true)) (aJ (aj (gw (br rfl rp))) a8) rfl) (jC keys row)) (by simp)) ?_
 exact aI ((jD (r:=⟨k,(row n).above,(row n).mark,(row n).below⟩) (mR (xs:=[.pl (.int k),.pl (eL (row n).above),.pl (.bool (row n).mark),.pl (.tuple ((row n).below.map .str))]) (aA (ao rfl) (aA (cL (ao rfl) fI rfl) (aA (cL (ao rfl) fI rfl) (aA (cL (ao rfl) fI rfl) bC)))) rfl (by simp)) (ao rfl) (ao rfl) ap0 (by omega)).trans (by rw[iF hn,yt];rfl)) ho
theorem z5(h:Bt K c aq keys row)(hn:n∈keys)(h1:(vw s)[1]?=some (.fz (.str n)))(h3:(vw s)[3]?=some (.fz (bE (row n))))(h4:(vw s)[4]?=some (.fz (HD keys (gU row n k))))(hb:∀a,(row n).above=some a->aT (row a).key a k n=b)(hb0:(row n).above=none->b=true):nTo (mOr (bc (mOp gIs (mOp gIx (ai 3) (mC (.int 1))) (mC .none))) (bc (mOp Gi (cb bV (aF (ai 4) (aF (ai 1) a9))) (cb bV (aF (ai 4) (aF (mOp gIx (ai 3) (mC (.int 1))) a9)))))) s=some (.ok b s):=by
 refine cV (ρ:=vw s) ?_;have t1:bc (mOp gIs (mOp gIx (ai 3) (mC (.int 1))) (mC .none)) (vw s)=some ((row n).above.isNone,vw s):=test_ev (k:=.fz) (bD (r:=(.none,.fz)) (res:=(.bool (row n).above.isNone,false)) (aj (eE (az h3))) (aj rfl) (qt _));cases ea:(row n).above with
 |none=>
  rw[ea]at t1;rw[hb0 ea];exact JC t1
 |some a=>
  rw[ea]at t1;have hka:=h.ab n hn a ea;refine xG t1 ?_;have s1:=gv (row:=gU row n k) hn;have s2:=gv (row:=gU row n k) hka;rw[ux]at s1;rw[uy k (h.neA hn ea)]at s2;rw[<-hb a ea];have ab:mOp gIx (ai 3) (mC (.int 1)) (vw s)=some ((.str a,.fz),vw s):=by
   have:=eE (az h3);rw[ea]at this;exact this
  exact test_ev (k:=.fz) (bD (r:=(.tuple [.int (row a).key,.str a],.fz)) (res:=(.bool (aT (row a).key a k n),false)) (aj (b8 (rs:=[(HD keys (gU row n k),.fz),(.str n,.fz)]) (aJ (aj (az h4)) (aJ (aj (az h1)) a8)) s1 rfl)) (aj (b8 (rs:=[(HD keys (gU row n k),.fz),(.str a,.fz)]) (aJ (aj (az h4)) (aJ (aj ab) a8)) s2 rfl)) rfl)
theorem BA(hc:c<=200)(h:Bt K c aq keys row)(hn:n∈keys)(hk:k<(row n).key)(hq0:Keeps row n k)(hp:S[p]?=some (dt (TD aq)))(hq:S[q]?=some (dt (HD keys row))) :
  ee S [.tp [.lc p,.lc q],.pl (.str n),.pl (.int k)]=some (.ok (.tp [.tp [.lc (S.length+1),.lc S.length],.lc (S.length+2)]) (S++[dt (HD keys (gU row n k)),dt (TD aq),dt (.list [])])):=by
 refine e8 (t':=[some (.tp [.lc p,.lc q]),some (.pl (.str n)),some (.pl (.int k)),some (.pl (bE (row n))),some (.lc S.length)]) rfl (sE hc h hn hk hp hq ?_) (by simp[blV,fM])
 have tl:=h.tl;refine kR (ku (z5 (k:=k) (b:=true) h hn (bY rfl) (bY rfl) (br rfl (cz ap0)) (λa ha=>kq (λz=>h.neA hn ha z.symm) (hq0 a ha)) λ_=>rfl) ?_)
 refine de (cw (xs:=[.tp [.lc (S.length+1),.lc S.length],.lc (S.length+2)]) (aA (s1:=⟨S++[dt (HD keys (gU row n k)),dt (TD aq)],[some (.tp [.lc p,.lc q]),some (.pl (.str n)),some (.pl (.int k)),some (.pl (bE (row n))),some (.lc S.length)]⟩) (cw (xs:=[.lc (S.length+1),.lc S.length]) (aA (oA (k:=1) (d7 (rs:=[(TD aq,.fz)]) (res:=(TD aq,true)) (aJ (aj (lu (br rfl (cY (bJ hp) (bJ hq))))) a8) rfl) (gT _) rfl) (aA (ao rfl) bC)) rfl (by simp)) (aA (s1:=⟨S++[dt (HD keys (gU row n k)),dt (TD aq),dt (.list [])],[some (.tp [.lc p,.lc q]),some (.pl (.str n)),some (.pl (.int k)),some (.pl (bE (row n))),some (.lc S.length)]⟩) ?_ bC)) rfl (by simp))
 rw[wK];dsimp only;rw[GV,zaD];rfl
theorem Ek(hc:c<=200)(h:Bt K c aq keys row)(hn:n∈keys)(hk:k<(row n).key)(ha:(row n).above=some a)(hlt:aT k n (row a).key a=true)(hch:Ch (gU row n k) n C L)(hl:C.length<=c)(hp:S[p]?=some (dt (TD aq)))(hq:S[q]?=some (dt (HD keys row))) :
  ee S [.tp [.lc p,.lc q],.pl (.str n),.pl (.int k)]=some (.ok (.tp [.tp [.lc (S.length+3),.lc (S.length+1)],.lc (S.length+4)]) (S++[dt (HD keys (gU row n k)),dt (HD keys (cuts C (gU row n k))),dt (TD C),dt (TD (aq++C)),dt (.list (C.map stp))])):=by
 refine e8 (t':=[some (.tp [.lc p,.lc q]),some (.pl (.str n)),some (.pl (.int k)),some (.pl (bE (row n))),some (.lc S.length)]) rfl (sE hc h hn hk hp hq ?_) (by simp[blV,fM])
 refine aI (gx (z5 (k:=k) (b:=false) h hn (bY rfl) (bY rfl) (br rfl (cz ap0)) (λa' ha'=>by
  rw[ha]at ha';cases ha'
  cases e:aT (row a).key a k n with
  |false=>rfl
  |true=>have:=fF hlt e;rw[lJ]at this;cases this) λz=>by rw[ha]at z;cases z) rfl) ?_
 have co:=qw hc (h.less n k) hn hch hl (S:=S++[dt (HD keys (gU row n k))]) (p:=p) (q:=S.length) (bJ hp) ap0;rw[GU,zaD]at co;exact de (cU (aA (cw (xs:=[.lc p,.lc S.length]) (aA (cL (ao rfl) fI rfl) (aA (ao rfl) bC)) rfl (by simp)) (aA (ao rfl) bC)) co)
end
def Lst(row:Str->aL.Row)(l:List Str)(n:Str):Prop:=n∈l/\∀m∈l,m=n\/aT (row n).key n (row m).key m=true
theorem Io{a c:Int}{x y:Str}(h1:aT a x c y=true)(h2:aT c y a x=true):False:=by
 have:=fF h1 h2;rw[lJ]at this;cases this
theorem Lst.one(h1:Lst row l n)(h2:Lst row l' m)(a:n∈l')(b:m∈l):n=m:=by
 rcases h1.2 m b with e|e
 ·exact e.symm
 ·rcases h2.2 n a with e2|e2
  ·exact e2
  ·exact(Io e e2).elim
theorem uz:∀(l:List Str) (b:Str),∃n,lh (.str b,(row b).key,b) (l.map λt=>(PyData.str t,(row t).key,t))=(.str n,(row n).key,n)/\Lst row (b::l) n
 | [],b=>⟨b,rfl,zas,λm hm=>.inl (zad hm)⟩
 |t::l,b=>by
  by_cases hp:aT (row t).key t (row b).key b=true
  ·obtain⟨n,e,h1,h2⟩:=uz l t
   refine⟨n,?_,zak _ h1,λm hm=>?_⟩
   ·simp only[List.map_cons,lh,hp,if_true];exact e
   ·rcases zaf hm with rfl|hm
    ·rcases h2 t zas with z|z
     ·exact .inr (by rw[<-z];exact hp)
     ·exact .inr (fF z hp)
    ·exact h2 m hm
  ·obtain⟨n,e,h1,h2⟩:=uz l b
   have hp':aT (row t).key t (row b).key b=false:=by simpa using hp
   refine⟨n,?_,?_,λm hm=>?_⟩
   ·simp only[List.map_cons,lh,hp',Bool.false_eq_true,if_false];exact e
   ·rcases zaf h1 with z|z
    ·rw[z];exact zas
    ·exact zak _ (zak _ z)
   ·rcases zaf hm with rfl|hm
    ·exact h2 _ zas
    ·rcases zaf hm with rfl|hm
     ·by_cases eb:m=b
      ·rw[eb];exact h2 b zas
      ·have lt:=kq eb hp'
       rcases h2 b zas with z|z
       ·exact .inr (by rw[<-z];exact lt)
       ·exact .inr (fF z lt)
     ·exact h2 m (zak _ hm)
theorem Lst.top(h:Bt K c aq keys row)(hK:∀n∈keys,K n=(row n).key)(hl:Lst row keys n):n∈aq:=by
 refine h.ne n hl.1 ?_;cases e:(row n).above with
 |none=>rfl
 |some a=>
  have ha:=h.ab n hl.1 a e;have hp:=h.ho n hl.1 a e;rw[hK n hl.1,hK a ha]at hp;rcases hl.2 a ha with z|z
  ·rw[z,lJ]at hp;cases hp
  ·exact(Io hp z).elim
theorem G2{l:List Str}:(∀t∈l,t∈keys)->wa dA [.fz (PD aq keys row)] (l.map .str)=some (l.map λt=>(PyData.str t,(row t).key,t)):=by
 induction l with
 |nil=>intro _;rfl
 |cons t l ih=>
  intro h;have e:sv dA (.fz (.str t)::[.fz (PD aq keys row)])=some ((.tuple [.int (row t).key,.str t],.fz),[.fz (.str t),.fz (PD aq keys row)]) :=
   aj (b8 (rs:=[(HD keys row,.fz),(.str t,.fz)]) (aJ (aj (gw (aq:=aq) rfl)) (aJ (aj (az rfl)) a8)) (gv (h t zas)) rfl)
  show(sv dA (.fz (.str t)::[.fz (PD aq keys row)])).bind _=_;rw[e,zai];show(wa dA [.fz (PD aq keys row)] (l.map .str)).map _=_;rw[ih λx hx=>h x (zak _ hx)]
  rfl
theorem El(hne:aq≠[])(ht:∀t∈aq,t∈keys):∃n,Lst row aq n/\gO [PD aq keys row]=some (.str n,false):=by
 match aq,hne,ht with
 |b::l,_,ht=>
  obtain⟨n,e,h⟩:=uz (row:=row) l b;refine⟨n,h,d4 (o:=.rt (.str n,.fz) [.fz (PD (b::l) keys row)]) rfl (dJ (pV (pY (zq (d7 (rs:=[(TD (b::l),.fz)]) (res:=(.int (((b::l).length:Nat):Int),false)) (aJ (aj (lu (keys:=keys) (row:=row) rfl)) a8) (by show some (PyData.int ((((b::l).map PyData.str).length:Nat):Int),false)=_;rw[zal])) cZ) (zaO (by simp only[List.length_cons];omega))) rfl) (fy ?_)) rfl⟩
  unfold DA;rw[show mOp gIx (ai 0) (mC (.int 0)) ([PD (b::l) keys row].map Sl.fz++List.replicate 0 Sl.no)=some ((TD (b::l),.fz),[.fz (PD (b::l) keys row)])from lu (keys:=keys) (row:=row) rfl,zai];show(wa dA [.fz (PD (b::l) keys row)] ((b::l).map .str)).bind _=_;rw[G2 ht,zai];show some (((lh _ _).1,Kd.fz),_)=_;rw[e]
theorem KA(l:List Str)(h:l[i]?=some n):pkD (l.map λt=>PyData.tuple [.int (row t).key,.str t]) i=((row n).key,n):=by
 unfold pkD;rw[zao,h];rfl
theorem yw:∀k:Nat,argBest bt k<=k
 |0=>zap _
 |k+1=>by
  unfold argBest;split
  ·exact zap _
  ·exact Nat.le_succ_of_le (yw k)
theorem G3(hne:l≠[]):∃n,Lst row l n/\rW [.list (l.map λt=>PyData.tuple [.int (row t).key,.str t])]=some (.tuple [.int (row n).key,.str n],false):=by
 have hpos : 0<l.length:=List.length_pos_iff.mpr hne;obtain⟨G,hG⟩:∃G,G=pkD (l.map λt=>PyData.tuple [.int (row t).key,.str t]):=⟨_,rfl⟩
 have at_:∀{i:Nat} {n:Str},l[i]?=some n->G i=((row n).key,n):=fun{i n} h=>by rw[hG];exact KA l h
 have key:∀k,k<l.length->∀m j,j<=k->l[j]?=some m->∀n,l[argBest (btK G) k]?=some n->m=n\/aT (row n).key n (row m).key m=true:=by
  intro k
  induction k with
  |zero=>
   intro _ m j hj hm n hn;obtain rfl:j=0:=by omega
   have:l[0]?=some n:=hn;rw[hm]at this;cases this;exact .inl rfl
  |succ k ih=>
   intro hk m j hj hm n hn;have hle:=yw (bt:=btK G) k;obtain⟨p,hp⟩:∃p,l[argBest (btK G) k]?=some p:=⟨_,zaC (by omega)⟩
   obtain⟨q,hq⟩:∃q,l[k+1]?=some q:=⟨_,zaC hk⟩;have eb:btK G (k+1) (argBest (btK G) k)=aT (row q).key q (row p).key p:=by
    show aT (G (k+1)).1 (G (k+1)).2 (G (argBest (btK G) k)).1 (G (argBest (btK G) k)).2=_;rw[at_ hq,at_ hp]
   have hn':l[if btK G (k+1) (argBest (btK G) k)=true then k+1 else argBest (btK G) k]?=some n:=hn
   rw[eb]at hn'
   by_cases hlt:aT (row q).key q (row p).key p=true
   ·rw[if_pos hlt]at hn'
    have en:q=n:=zaQ (hq.symm.trans hn');rw[<-en]
    by_cases ej:j=k+1
    ·rw[ej]at hm
     exact .inl (zaQ (hm.symm.trans hq))
    ·rcases ih (by omega) m j (by omega) hm p hp with z|z
     ·rw[z];exact .inr hlt
     ·exact .inr (fF hlt z)
   ·rw[if_neg hlt]at hn'
    have en:p=n:=zaQ (hp.symm.trans hn');rw[<-en]
    by_cases ej:j=k+1
    ·rw[ej]at hm
     have em:q=m:=zaQ (hq.symm.trans hm);rw[<-em]
     by_cases e:q=p
     ·exact .inl e
     ·exact .inr (kq e (by simpa using hlt))
    ·exact ih (by omega) m j (by omega) hm p hp
 have hle:=yw (bt:=btK G) (l.length-1);obtain⟨n,hn⟩:∃n,l[argBest (btK G) (l.length-1)]?=some n:=⟨_,zaC (by omega)⟩
 refine⟨n,⟨zaj hn,λm hm=>?_⟩,?_⟩
 ·obtain⟨j,hj⟩:=List.mem_iff_getElem?.mp hm
  have:=(zac hj).1;exact key _ (by omega) m j (by omega) hj n hn
 ·unfold rW
  dsimp only;rw[if_pos (List.all_eq_true.mpr λd hd=>by obtain⟨t,_,rfl⟩:=List.mem_map.mp hd;rfl),zal,<-hG,zao,hn]
  rfl
theorem Em(hc:c<=200)(h:Bk c aq keys row)(f:Fm keys row)(hl:Lst row aq n)(hp:S[p]?=some (dt (TD aq)))(hq:S[q]?=some (dt (HD keys row))) :
  ∃(sts:List (Str×Str)) (T:List Str) (aY:Str->aL.Row) (X:List (Option Cl)),gQ S [.tp [.lc p,.lc q]]=some (.ok (.tp [.pl (.str n),.pl (.int (row n).key),.tp [.lc (S.length+6),.lc (S.length+3)],.lc (S.length+7)]) (S++X))/\(S++X)[S.length+6]?=some (dt (TD T))/\(S++X)[S.length+3]?=some (dt (HD (bF keys n) aY))/\(S++X)[S.length+7]?=some (dt (.list (lK (row n).below sts)))/\Hs (bF aq n++(row n).below) (free row (row n).below) sts T aY/\∀t∈T,∀u∈T,(aY t).below.length=(aY u).below.length->t=u:=by
 have lp:=fJ hp;have lq:=fJ hq;obtain⟨sts,T,aY,X,e1,e2,e3,e4,e5,e6⟩:=uw hc h f hl.1 hp hq;refine⟨sts,T,aY,X,?_,e2,e3,e4,e5,e6⟩;obtain⟨m,hm,em⟩:=El (aq:=aq) (keys:=keys) (row:=row) (λz=>by rw[z]at hl;exact absurd hl.1 (by simp)) λt ht=>(h.tk t ht).1
 obtain rfl:n=m:=hl.one hm hl.1 hm.1;refine e8 (t':=[some (.tp [.lc p,.lc q]),some (.pl (.str n)),some (.tp [.pl (.int (row n).key),.tp [.lc (S.length+6),.lc (S.length+3)],.lc (S.length+7)])]) rfl ?_ (by simp[blV,fM])
 refine aI (s':=⟨S,[some (.tp [.lc p,.lc q]),some (.pl (.str n)),none]⟩) (bW (i:=1) (gy (b8 (rs:=[(PD aq keys row,.fz)]) (aJ (aj (az (br rfl (cY hp hq)))) a8) em rfl) rfl) (by simp)) ?_
 refine aI (s':=⟨S++X,[some (.tp [.lc p,.lc q]),some (.pl (.str n)),some (.tp [.pl (.int (row n).key),.tp [.lc (S.length+6),.lc (S.length+3)],.lc (S.length+7)])]⟩) (bW (i:=2) (cU (aA (ao rfl) (aA (ao rfl) bC)) e1) (by simp)) ?_
 exact de (cw (xs:=[.pl (.str n),.pl (.int (row n).key),.tp [.lc (S.length+6),.lc (S.length+3)],.lc (S.length+7)]) (aA (ao rfl) (aA (cL (ao rfl) fI rfl) (aA (cL (ao rfl) fI rfl) (aA (cL (ao rfl) fI rfl) bC)))) rfl (by simp))
def nm(z:Str):Bool:=z.cps.toList.all λc=>leS "a" ⟨#[c]⟩&&leS ⟨#[c]⟩ "z"
theorem iH{α:Type}(p : α->Bool):∀l:List α,boolsOf (l.map λc=>PyData.bool (p c))=some (l.map p)
 | []=>rfl
 |c::l=>by
  show(boolsOf (l.map λc=>PyData.bool (p c))).map _=_
  rw[iH p l];rfl
theorem G4(z:Str)(ρ:Rho):sX wb wb (mC (.str "a")) (ai 0) (mC (.str "z")) (.fz (.str z)::ρ)=some ((.bool (leS "a" z&&leS z "z"),.fz),.fz (.str z)::ρ):=by
 have e:sX wb wb (mC (.str "a")) (ai 0) (mC (.str "z")) (.fz (.str z)::ρ)=(match leS "a" z with|true=>some ((.bool (leS z "z"),.fz),.fz (.str z)::ρ)|false=>some ((.bool false,.fz),.fz (.str z)::ρ)):=by
  show(match((PyData.bool (leS "a" z),false):D×Bool)with
   |(.bool true,false)=>_
   |(.bool false,false)=>_
   |_=>_)=_
  cases leS "a" z<;>rfl
 rw[e];cases leS "a" z<;>rfl
theorem yx(z:Str)(hz:z.length<=1000):gZ [.str z]=some (.bool (!decide ((z.length:Int)<1)&&(!decide ((8:Int)<(z.length:Int))&&nm z)),false):=by
 have el:IE (mCB iO (aF (ai 0) a9)) [.fz (.str z)] (z.length:Int):=d7 (rs:=[(.str z,.fz)]) (res:=(.int (z.length:Int),false)) rfl (bg (zaX hz (by decide)))
 have ei:vp (bc (v7 "str" (ai 0))) [.fz (.str z)]=some (false,[.fz (.str z)]):=tD (test_ev (k:=.fz) (v:=true) (GN (aj (az rfl)) (by simp[Dw,ng,tyD,eA,pE])))
 by_cases h1:(z.length:Int)<1
 ·rw[zaH h1]
  exact d4 (o:=.rt (.bool false,.fz) [.fz (.str z)]) rfl (tw (AK (xG ei (JC (pY (zr el cZ) (zaH h1)))) rfl)) rfl
 by_cases h2:(8:Int)<(z.length:Int)
 ·rw[zaH h2,zaO h1]
  exact d4 (o:=.rt (.bool false,.fz) [.fz (.str z)]) rfl (tw (AK (xG ei (xG (pY (zr el cZ) (zaO h1)) (pY (Hx el cZ) (zaH h2)))) rfl)) rfl
 ·rw[zaO h1,zaO h2]
  have hc:gp jo ox [] (nH z)=some (z.cps.toList.map λc=>PyData.bool (leS "a" ⟨#[c]⟩&&leS ⟨#[c]⟩ "z")):=Mir.fU (f:=λc=>PyData.str ⟨#[c]⟩) z.cps.toList λc _=>⟨_,aj (G4 ⟨#[c]⟩ [])⟩
  refine d4 (o:=.rt (.bool (nm z),.fz) [.fz (.str z)]) rfl (dJ (pV (xG ei (xG (pY (zr el cZ) (zaO h1)) (pY (Hx el cZ) (zaO h2)))) rfl) (fy (d7 (rs:=[(.list (z.cps.toList.map λc=>PyData.bool (leS "a" ⟨#[c]⟩&&leS ⟨#[c]⟩ "z")),.fz)]) (res:=(.bool (nm z),false)) (aJ (jt (vI (it:=JY (ai 0)) (ds:=nH z) rfl hc ?_)) a8) ?_))) rfl
  ·rw[zal];show z.cps.toList.length<=_;have:z.length=z.cps.toList.length:=rfl;omega
  ·show(boolsOf _).map _=_
   rw[iH];show some (PyData.bool _,false)=_;rw[List.all_map];rfl
theorem En:∀i:Nat,i<300->nm (aN i)=true/\1<=(aN i).length/\(aN i).length<=8:=by decide+kernel
theorem wN(hi:i<300):gZ [.str (aN i)]=some (.bool true,false):=by
 obtain⟨h1,h2,h3⟩:=En i hi;rw[yx _ (by omega),h1,zaO (by omega),zaO (by omega)];rfl
theorem Eo(h:a.length+b.length<=1000):ib (TD a) (TD b)=some (TD (a++b),true):=by
 show ib (.list (a.map .str)) (.list (b.map .str))=some (.list ((a++b).map .str),true);rw[za1];exact bg (zaX (show(a.map PyData.str).length+(b.map PyData.str).length<=1000 by rw[zal,zal];exact h) (by decide))
theorem KC(h:gZ [.str n]=some (.bool true,false))(hn:n∉keys)(hk:keys.length<=1000)(ht:aq.length<=900):jz [PD aq keys row,.str n,.int k]=some (TD (aq++[n]),HD (keys++[n]) (aX row n ⟨k,none,false,[]⟩)):=by
 refine Ea rfl ?_;refine iu (ρ1:=[.fz (PD aq keys row),.fz (.str n),.fz (.int k),.no]) (pV (tD (FJ (rs:=[(.str n,.fz)]) rfl h).t) rfl) ?_;refine iu (ρ1:=[.fz (PD aq keys row),.fz (.str n),.fz (.int k),.no]) (pV (test_ev (k:=.fz) (bD (r:=(HD keys row,.fz)) (res:=(.bool false,false)) (aj (az rfl)) (aj (gw (aq:=aq) rfl)) (by rw[o5,zaO hn]))) rfl) ?_
 refine iu (ρ1:=[.fz (PD aq keys row),.fz (.str n),.fz (.int k),.own (HD keys row)]) (jv (d7 (rs:=[(HD keys row,.fz)]) (res:=(HD keys row,true)) (aJ (aj (gw (aq:=aq) rfl)) a8) rfl) rfl) ?_;refine iu (ρ1:=[.fz (PD aq keys row),.fz (.str n),.fz (.int k),.own (HD (keys++[n]) (aX row n ⟨k,none,false,[]⟩))]) ((o6 (i:=3) (r:=⟨k,none,false,[]⟩) (jw (rs:=[(.int k,.fz),(.none,.fz),(.bool false,.fz),(.tuple [],.fz)]) (aJ (aj (az rfl)) (aJ (aj rfl) (aJ (aj rfl) (aJ (aj (jw (rs:=[]) rfl rfl (by simp))) a8)))) rfl (by simp)) (az rfl) rfl (.inl rfl) (by omega)).trans (by rw[kj hn];rfl)) ?_
 unfold nI;rw[show mOp ib (mOp gIx (ai 0) (mC (.int 0))) (vt (aF (ai 1) a9)) [.fz (PD aq keys row),.fz (.str n),.fz (.int k),.own (HD (keys++[n]) (aX row n ⟨k,none,false,[]⟩))]=some ((TD (aq++[n]),.new),[.fz (PD aq keys row),.fz (.str n),.fz (.int k),.own (HD (keys++[n]) (aX row n ⟨k,none,false,[]⟩))])from bD (r:=(.list [.str n],.fz)) (res:=(TD (aq++[n]),true)) (aj (lu (keys:=keys) (row:=row) rfl)) (jt (xH (rs:=[(.str n,.fz)]) rfl rfl (by simp))) (Eo (b:=[n]) (by simp;omega))]
 rfl
def mrg(k1:List Str)(r1 r2:Str->aL.Row):Str->aL.Row:=λn=>if n∈k1 then r1 n else r2 n
theorem uA(h:n∈k1):mrg k1 r1 r2 n=r1 n:=if_pos h
theorem o8(h:n∉k1):mrg k1 r1 r2 n=r2 n:=if_neg h
theorem uB(h:n∉k1):aX (mrg k1 r1 r2) n (r2 n)=mrg k1 r1 r2:=by
 funext m
 by_cases e:m=n
 ·subst e;rw[aM,o8 h]
 ·rw[aD _ _ e]
theorem Ep(h:∀n∈keys,row n=aY n):HD keys row=HD keys aY:=by
 show PyData.dict _=PyData.dict _
 congr 1
 exact List.map_congr_left λn hn=>by rw[h n hn]
theorem yy:HD k1 r1=HD k1 (mrg k1 r1 r2):=Ep λn hn=>(uA hn).symm
def Dj(k1 k2:List Str):Prop:=∀n∈k2,n∉k1
theorem uC(h : ρ[i]?=some (.fz (PD t k r))):tQ (gJ i) 1 ρ=some ((HD k r,.fz),ρ):=by
 unfold tQ gJ;rw[h];rfl
variable{t1 k1 t2 k2:List Str}{r1 r2:Str->aL.Row}
theorem sF:∀(l pre:List Str) (s3:Sl),(s3=.no\/∃d,s3=.fz d)->(∀n∈l,n∈k2/\n∉k1++pre)->l.Nodup->(k1++pre++l).length<=1000->
  ∃s3',(s3'=.no\/∃d,s3'=.fz d)/\forL (mgN 3) dz (l.map .str) [.fz (PD t1 k1 r1),.fz (PD t2 k2 r2),.own (HD (k1++pre) (mrg k1 r1 r2)),s3]=some (.nx [.fz (PD t1 k1 r1),.fz (PD t2 k2 r2),.own (HD (k1++(pre++l)) (mrg k1 r1 r2)),s3'])
 | [],pre,s3,hs,_,_,_=>⟨s3,hs,by rw[zaR];rfl⟩
 |n::l,pre,s3,hs,hl,nd,sz=>by
  obtain⟨h1,h2⟩:=hl n zas;have h3:n∉k1:=λz=>h2 (zaW _ z)
  obtain⟨nn,nd2⟩:=List.nodup_cons.mp nd;have sz2:(k1++pre).length<=1000:=by simp only[List.length_append,List.length_cons]at sz⊢;omega
  obtain⟨s3',hs',e⟩:=sF l (pre++[n]) (.fz (.str n)) (.inr ⟨_,rfl⟩) (λm hm=>⟨(hl m (zak _ hm)).1,λz=>by
   rw[<-zaD]at z;rcases zae z with z|z
   ·exact(hl m (zak _ hm)).2 z
   ·rw[zad z]at hm;exact nn hm⟩) nd2 (by simp only[List.length_append,List.length_cons,List.length_nil]at sz⊢;omega)
  refine⟨s3',hs',?_⟩;rw[zaz];refine nj (ρ1:=[.fz (PD t1 k1 r1),.fz (PD t2 k2 r2),.own (HD (k1++pre) (mrg k1 r1 r2)),.fz (.str n)]) (uf (s:=s3) rfl (by rcases hs with rfl|⟨d,rfl⟩;exact NIo.no;exact NIo.fz _)) ?_ (e.trans (by rw[zaD];rfl))
  refine dJ (ρ1:=[.fz (PD t1 k1 r1),.fz (PD t2 k2 r2),.own (HD (k1++pre) (mrg k1 r1 r2)),.fz (.str n)]) (pV (test_ev (k:=.fz) (bD (r:=(HD (k1++pre) (mrg k1 r1 r2),.at 2)) (res:=(.bool false,false)) (aj (az rfl)) (pT (ju rfl)) (by rw[o5,zaO h2]))) rfl) ?_
  refine(o6 (i:=2) (r:=r2 n) (nL (keys:=k2) (row:=r2) h1 (aj (gw (aq:=t2) rfl)) (az rfl)) (az rfl) rfl (.inl rfl) sz2).trans ?_;rw[kj h2,uB h3,<-zaD];rfl
theorem G5{dv:PM}{g:D->Rho->Option Rho}{b:SM}{ρ ρ1:Rho}{o:Out}(h1:dv ρ=some ((HD keys row,.fz),ρ1))(hr:gr ρ=true)(h2:forL g b (keys.map .str) ρ1=some o)(h3:gr (AX o)=true):rR dv g b ρ=some o:=by
 unfold rR;rw[h1,zai];dsimp only;show(some (cj keys row)).bind _=_;rw[zai,if_pos hr,kP,h2,zai,if_pos h3]
theorem G6(hd:Dj k1 k2)(nd:k2.Nodup)(hk:k1.length+k2.length<=1000)(ht:t1.length+t2.length<=1000):eC [PD t1 k1 r1,PD t2 k2 r2]=some (TD (t1++t2),HD (k1++k2) (mrg k1 r1 r2)):=by
 refine Ea rfl ?_;refine iu (ρ1:=[.fz (PD t1 k1 r1),.fz (PD t2 k2 r2),.own (HD k1 (mrg k1 r1 r2)),.no]) ((jv (d7 (rs:=[(HD k1 r1,.fz)]) (res:=(HD k1 r1,true)) (aJ (aj (gw (aq:=t1) rfl)) a8) rfl) rfl).trans (by rw[yy (r1:=r1) (r2:=r2)];rfl)) ?_
 obtain⟨s3,hs,e⟩:=sF (t1:=t1) (k1:=k1) (t2:=t2) (k2:=k2) (r1:=r1) (r2:=r2) k2 [] .no (.inl rfl) (λn hn=>⟨hn,by rw[zaR];exact hd n hn⟩) nd (by simp;omega)
 rw[zaR,List.nil_append]at e;refine iu (G5 (uC (i:=1) rfl) rfl e (by rcases hs with rfl|⟨d,rfl⟩<;>rfl)) ?_
 show nI _ 2 _=_;unfold nI;rw[show mOp ib (mOp gIx (ai 0) (mC (.int 0))) (mOp gIx (ai 1) (mC (.int 0))) [.fz (PD t1 k1 r1),.fz (PD t2 k2 r2),.own (HD (k1++k2) (mrg k1 r1 r2)),s3]=some ((TD (t1++t2),.new),[.fz (PD t1 k1 r1),.fz (PD t2 k2 r2),.own (HD (k1++k2) (mrg k1 r1 r2)),s3])from bD (r:=(TD t2,.fz)) (res:=(TD (t1++t2),true)) (aj (lu (keys:=k1) (row:=r1) rfl)) (aj (lu (keys:=k2) (row:=r2) rfl)) (Eo ht)];rfl
theorem Er{dv:PM}{g:D->Rho->Option Rho}{b:EM}{ρ ρ1 ρ2:Rho}{c:Str}(h1:dv ρ=some ((HD keys row,.fz),ρ1))(hr:gr ρ=true)(h2:qi g b (keys.map .str) ρ1=some (.er c ρ2))(h3:gr ρ2=true):zL dv g b ρ=some (.er c ρ2):=by
 unfold zL;rw[h1,zai];dsimp only;show(some (cj keys row)).bind _=_;rw[zai,if_pos hr,kP,h2,zai];exact if_pos h3
theorem G7(h1:g d ρ=some ρ1)(h2:b ρ1=some (.ok (.nx ρ2)))(h3:qi g b ds ρ2=o):qi g b (d::ds) ρ=o:=by
 show(g d ρ).bind _=_;rw[h1,zai,h2,zai];exact h3
theorem G8{g:D->Rho->Option Rho}{b:EM}{d:D}{ds:List D}{ρ ρ1 ρ2:Rho}{c:Str}(h1:g d ρ=some ρ1)(h2:b ρ1=some (.er c ρ2)):qi g b (d::ds) ρ=some (.er c ρ2):=by
 show(g d ρ).bind _=_;rw[h1,zai,h2,zai]
theorem qz:∀(l pre:List Str) (s3:Sl),(s3=.no\/∃d,s3=.fz d)->(∀n∈l,n∈k2/\n∉pre)->l.Nodup->(k1++pre++l).length<=1000->(∃n∈l,n∈k1)->
  ∃ρ',gr ρ'=true/\qi (mgN 3) (tG (eIf (bc (mOp mr (ai 3) (ai 2))) (fun ρ=>some (.er "Twice" ρ)) (mf iZ)) (mf (la 2 (mOp dP (mOp gIx (ai 1) (mC (.int 1))) (ai 3)) (ai 3)))) (l.map .str) [.fz (PD t1 k1 r1),.fz (PD t2 k2 r2),.own (HD (k1++pre) (mrg k1 r1 r2)),s3]=some (.er "Twice" ρ')
 | [],pre,s3,_,_,_,_,h=>by obtain⟨n,hn,_⟩:=h;cases hn
 |n::l,pre,s3,hs,hl,nd,sz,hx=>by
  obtain⟨h1,h2⟩:=hl n zas;obtain⟨nn,nd2⟩:=List.nodup_cons.mp nd;have sz2:(k1++pre).length<=1000:=by simp only[List.length_append,List.length_cons]at sz⊢;omega
  have hg:mgN 3 (.str n) [.fz (PD t1 k1 r1),.fz (PD t2 k2 r2),.own (HD (k1++pre) (mrg k1 r1 r2)),s3]=some [.fz (PD t1 k1 r1),.fz (PD t2 k2 r2),.own (HD (k1++pre) (mrg k1 r1 r2)),.fz (.str n)]:=uf (s:=s3) rfl (by rcases hs with rfl|⟨d,rfl⟩;exact NIo.no;exact NIo.fz _)
  have tst:∀b:Bool,decide (n∈k1++pre)=b->bc (mOp mr (ai 3) (ai 2)) [.fz (PD t1 k1 r1),.fz (PD t2 k2 r2),.own (HD (k1++pre) (mrg k1 r1 r2)),.fz (.str n)]=some (b,[.fz (PD t1 k1 r1),.fz (PD t2 k2 r2),.own (HD (k1++pre) (mrg k1 r1 r2)),.fz (.str n)]):=λb hb=>test_ev (k:=.fz) (bD (r:=(HD (k1++pre) (mrg k1 r1 r2),.at 2)) (res:=(.bool b,false)) (aj (az rfl)) (pT (ju rfl)) (by rw[o5,hb]))
  rw[zaz]
  by_cases h3:n∈k1
  ·exact⟨_,rfl,G8 hg (zV (Mb (tst true (zaH (zaW _ h3))) rfl))⟩
  ·have h4:n∉k1++pre:=λz=>(zae z).elim h3 h2
   obtain⟨ρ',hn',e⟩:=qz l (pre++[n]) (.fz (.str n)) (.inr ⟨_,rfl⟩) (λm hm=>⟨(hl m (zak _ hm)).1,λz=>by
    rcases zae z with z|z
    ·exact(hl m (zak _ hm)).2 z
    ·rw[zad z]at hm;exact nn hm⟩) nd2 (by simp only[List.length_append,List.length_cons,List.length_nil]at sz⊢;omega) (by
    obtain⟨m,hm,hm2⟩:=hx;rcases zaf hm with rfl|hm
    ·exact absurd hm2 h3
    ·exact⟨m,hm,hm2⟩)
   refine⟨ρ',hn',G7 hg (zU (Mc (tst false (zaO h4)) (qu rfl)) (qu ?_)) e⟩;refine(o6 (i:=2) (r:=r2 n) (nL (keys:=k2) (row:=r2) h1 (aj (gw (aq:=t2) rfl)) (az rfl)) (az rfl) rfl (.inl rfl) sz2).trans ?_;rw[kj h4,uB h3,<-zaD];rfl
theorem Es(nd:k2.Nodup)(hk:k1.length+k2.length<=1000)(hx:∃n∈k2,n∈k1):gN [PD t1 k1 r1,PD t2 k2 r2]=some (.inr "Twice"):=by
 obtain⟨ρ',hn,e⟩:=qz (t1:=t1) (k1:=k1) (t2:=t2) (k2:=k2) (r1:=r1) (r2:=r2) k2 [] .no (.inl rfl) (λn hn=>⟨hn,by simp⟩) nd (by simp;omega) hx
 rw[zaR]at e;refine Ku rfl (zU (ρ1:=[.fz (PD t1 k1 r1),.fz (PD t2 k2 r2),.own (HD k1 (mrg k1 r1 r2)),.no]) (qu ((jv (d7 (rs:=[(HD k1 r1,.fz)]) (res:=(HD k1 r1,true)) (aJ (aj (gw (aq:=t1) rfl)) a8) rfl) rfl).trans (by rw[yy (r1:=r1) (r2:=r2)];rfl))) (zV (Er (uC (i:=1) rfl) rfl e hn)))
theorem KD(h1:Bk C t1 k1 r1)(h2:Bk C t2 k2 r2)(hd:Dj k1 k2):Bk C (t1++t2) (k1++k2) (mrg k1 r1 r2):=by
 have e1:∀{n:Str},n∈k1->mrg k1 r1 r2 n=r1 n:=λh=>uA h
 have e2:∀{n:Str},n∈k2->mrg k1 r1 r2 n=r2 n:=λh=>o8 (hd _ h)
 refine⟨?_,?_,?_,?_,?_,?_,?_,?_,?_⟩
 ·exact List.nodup_append.mpr ⟨h1.nd,h2.nd,λa ha b hb e=>hd b hb (e▸ha)⟩
 ·exact λn hn=>(zae hn).elim (h1.nm n) (h2.nm n)
 ·exact List.nodup_append.mpr ⟨h1.tn,h2.tn,λa ha b hb e=>hd b (h2.tk b hb).1 (e▸(h1.tk a ha).1)⟩
 ·intro t ht
  rcases zae ht with z|z
  ·exact⟨zaW _ (h1.tk t z).1,by rw[e1 (h1.tk t z).1];exact(h1.tk t z).2⟩
  ·exact⟨zan _ (h2.tk t z).1,by rw[e2 (h2.tk t z).1];exact(h2.tk t z).2⟩
 ·intro n hn ha
  rcases zae hn with z|z
  ·rw[e1 z]at ha;exact zaW _ (h1.ne n z ha)
  ·rw[e2 z]at ha;exact zan _ (h2.ne n z ha)
 ·intro n hn hm
  rcases zae hn with z|z
  ·rw[e1 z]at hm⊢;exact h1.mkd n z hm
  ·rw[e2 z]at hm⊢;exact h2.mkd n z hm
 ·intro n hn a ha
  rcases zae hn with z|z
  ·rw[e1 z]at ha;exact zaW _ (h1.ab n z a ha)
  ·rw[e2 z]at ha;exact zan _ (h2.ab n z a ha)
 ·intro n hn
  rcases zae hn with z|z
  ·rw[e1 z];exact⟨(h1.bl n z).1,λb hb=>zaW _ ((h1.bl n z).2 b hb)⟩
  ·rw[e2 z];exact⟨(h2.bl n z).1,λb hb=>zan _ ((h2.bl n z).2 b hb)⟩
 ·intro n hn a ha
  rcases zae hn with z|z
  ·rw[e1 z]at ha⊢
   rw[e1 (h1.ab n z a ha)];exact h1.ho n z a ha
  ·rw[e2 z]at ha⊢
   rw[e2 (h2.ab n z a ha)];exact h2.ho n z a ha
abbrev pt(a b i j:Nat)(n:Str)(k:Int)(x5 x6 x7:Option SV):List (Option SV):=[some (.tp [.lc a,.lc b]),some (.lc i),some (.lc j),some (.pl (.str n)),some (.pl (.int k)),x5,x6,x7]
theorem G9(h:m s=some (.ok xs ⟨S++X,t⟩))(hl:xs.length<=100):oJ m s=some (.ok (.lc (S.length+X.length)) ⟨S++(X++[some (mkL xs)]),t⟩):=by
 unfold oJ;rw[dC h,bg (pQ (by omega))]
 unfold JO;rw[zau,zaD]
theorem mW{m:PM}{S X:List (Option Cl)}{t:List (Option SV)}{d:D}{ρ:Rho}(h:m (vw ⟨S++X,t⟩)=some ((d,.new),ρ))(hp:cI d true=true):nO m ⟨S++X,t⟩=some (.ok (.lc (S.length+X.length)) ⟨S++(X++[dt d]),t⟩):=by
 rw[iS h hp];dsimp only;rw[zau,zaD]
theorem BB(h:m s=some (.ok xs ⟨S++X,t⟩))(h1:gF (S++X) xs=some ds)(h2:f ds=some (c1,c2))(p1:cI c1 true=true)(p2:cI c2 true=true) :
  tU f m s=some (.ok (.tp [.lc (S.length+X.length),.lc (S.length+X.length+1)]) ⟨S++(X++[dt c1,dt c2]),t⟩):=by
 unfold tU;rw[dC h];dsimp only;rw[h1,zai,h2,zai];dsimp only;rw[if_pos (show(cI c1 true&&cI c2 true)=true by rw[p1,p2];rfl),zau]
 simp only[List.append_assoc,List.cons_append,List.nil_append]
theorem yz{α:Type}{S X:List α}{k:Nat}{v : α}:(S++X).set (S.length+k) v=S++X.set k v:=by
 rw[List.set_append_right _ _ (Nat.le_add_right _ _),Nat.add_sub_cancel_left]
theorem KG:fg kK aZ ⟨Z,t⟩=some (.ok (.tp [.lc Z.length,.lc (Z.length+1)]) ⟨Z++[dt (.list []),dt (.dict [])],t⟩):=by
 refine cU (xs:=[]) bC (e8 (t':=[]) rfl (de (cw (xs:=[.lc Z.length,.lc (Z.length+1)]) (aA wK (aA ((iS (d:=.dict []) rfl rfl).trans (by dsimp only;rw[zau];rfl)) ?_)) rfl (by simp))) (by simp[blV,fM]))
 show some _=some _
 congr 2
 simp
theorem Mf:d9 (ar (oJ aZ) (ar (nO k9) aZ)) ⟨Z,t⟩=some (.ok (.tp [.lc Z.length,.lc (Z.length+1)]) ⟨Z++[dt (.list []),dt (.dict [])],t⟩):=by
 refine cw (xs:=[.lc Z.length,.lc (Z.length+1)]) (aA wK (aA ((iS (d:=.dict []) rfl rfl).trans (by dsimp only;rw[zau];rfl)) ?_)) rfl (by simp)
 show some _=some _
 congr 2
 simp
theorem Mg(h:a s=some (.ok (.lc k) s1))(h0:s1.S[k]?=some (some (.lst ys0)))(h1:m s1=some (.ok [.tp xs] s2))(h2:s2.S[k]?=some (some (.lst ys)))(h3:ys.length<=100000):qR a m s=some (.ok (.pl .none) ⟨s2.S.set k (some (.lst (ys++[.tp xs]))),s2.t⟩):=by
 unfold qR zA;rw[dC h];simp only[vQ,h0,if_true];rw[dC h1];simp only[C7,h2,bg (pR h3)]
variable{c:Nat}{aq keys:List Str}{row:Str->aL.Row}
theorem uD:∀(C aq:List Str) (row:Str->aL.Row) (n L:Str),Ch row n C L->Bt K c aq keys row->n∈keys->Bt K c (aq++C) keys (cuts C row)
 | [],_,_,_,_,hch,_,_=>by cases hch
 |x::C,aq,row,_,L,hch,h,hn=>by
  cases hch with
  |one ha hm=>rw[fj ha];exact h.cut hn ha
  |more ha hm hch=>
   rename_i a
   rw[fj ha];have:=uD C (aq++[x]) (dB row x a) a L (Ch.cut h hn ha hch) (h.cut hn ha) (h.ab x hn a ha);rw[zaD]at this;exact this
structure Po(c:Nat)(aq keys:List Str)(row:Str->aL.Row)(n:Str)(S X:List (Option Cl))(p q f0 f1 f2:Nat)(C:List Str)(sG:List Str)(qA:Str->aL.Row)(sts:List (Str×Str))(T:List Str)(aY:Str->aL.Row):Prop where
 run:kM S [.tp [.lc p,.lc q],.pl (.str n)]=some (.ok (.tp [.pl (.int (row n).key),.tp [.lc f0,.lc f1],.lc f2]) (S++X))
 g0:(S++X)[f0]?=some (dt (TD T))
 g1:(S++X)[f1]?=some (dt (HD (bF keys n) aY))
 g2:(S++X)[f2]?=some (dt (.list (C.map stp++lK (qA n).below sts)))
 n02:f0≠f2
 l0:S.length<=f0
 l1:S.length<=f1
 l2:S.length<=f2
 kc:∀m,(qA m).key=(row m).key
 bk:Bk c sG keys qA
 fm:Fm keys qA
 nt:n∈sG
 ck:C.length<=c/\∀x∈C,x∈keys
 hs:Hs (bF sG n++(qA n).below) (free qA (qA n).below) sts T aY
 dd:∀t∈T,∀u∈T,(aY t).below.length=(aY u).below.length->t=u
theorem KH(hc:c<=200)(h:Bk c aq keys row)(f:Fm keys row)(hn:n∈keys)(hp:S[p]?=some (dt (TD aq)))(hq:S[q]?=some (dt (HD keys row))) :
  ∃X f0 f1 f2 C sG qA sts T aY,Po c aq keys row n S X p q f0 f1 f2 C sG qA sts T aY:=by
 have rp:=cY hp hq;have hd:∀{u:SN} {o:Option fN},u ⟨S,[some (.tp [.lc p,.lc q]),some (.pl (.str n)),none,none]⟩=o->bA (gH (nO (cb dc (aF (ai 0) (aF (ai 1) a9))))) u ⟨S,[some (.tp [.lc p,.lc q]),some (.pl (.str n)),none,none]⟩=o:=fun{u o} hu=>
  aI (eN (gy (b8 (rs:=[(PD aq keys row,.fz),(.str n,.fz)]) (aJ (aj (az (br rfl rp))) (aJ (aj (az (bY rfl))) a8)) (zW hn) rfl) rfl)) hu
 have tI:nTo (bc (mOp gIs (mOp gIx (mOp dP (mOp gIx (ai 0) (mC (.int 1))) (ai 1)) (mC (.int 1))) (mC .none))) ⟨S,[some (.tp [.lc p,.lc q]),some (.pl (.str n)),none,none]⟩=some (.ok (row n).above.isNone ⟨S,[some (.tp [.lc p,.lc q]),some (.pl (.str n)),none,none]⟩):=cV (test_ev (k:=.fz) (bD (r:=(.none,.fz)) (res:=(.bool (row n).above.isNone,false)) (aj (eE (nL hn (aj (gw (br rfl rp))) (az (bY rfl))))) (aj rfl) (qt _)));cases ea:(row n).above with
 |none=>
  rw[ea]at tI;have nt:=h.ne n hn ea;obtain⟨sts,T,aY,X,e1,e2,e3,e4,e5,e6⟩:=uw hc h f nt hp hq;refine⟨X,_,_,_,[],aq,row,sts,T,aY,?_,e2,e3,e4,by omega,by omega,by omega,by omega,λ_=>rfl,h,f,nt,⟨Nat.zero_le _,λx hx=>by cases hx⟩,e5,e6⟩
  ·exact e8 (t':=[some (.tp [.lc p,.lc q]),some (.pl (.str n)),none,none]) rfl (hd (kR (ku tI (de (cU (aA (ao rfl) (aA (ao rfl) bC)) e1))))) (by simp[blV,fM])
 |some a=>
  rw[ea]at tI;obtain⟨C,L,hch,hcl⟩:=Ii h hn (by rw[ea];simp)
  have x2:=uD C aq row n L hch h hn;have hbc:Bk c (aq++C) keys (cuts C row):=x2.re λm _=>(jf C row m).symm
  have hfc:=Fm.cuts C aq row n L h hn (f.x n) hch;have nt:n∈aq++C:=zan _ (by cases hch<;>exact zas)
  have co:=qw hc h hn hch hcl hp hq;obtain⟨Y,hY⟩:∃Y,Y=[dt (HD keys (cuts C row)),dt (TD C),dt (TD (aq++C)),dt (.list (C.map stp))]:=⟨_,rfl⟩;rw[<-hY]at co;have k0:(S++Y)[S.length]?=some (dt (HD keys (cuts C row))):=by rw[hY];exact ap0
  have k2:(S++Y)[S.length+2]?=some (dt (TD (aq++C))):=by rw[hY];exact apk (k:=2) rfl
  have k3:(S++Y)[S.length+3]?=some (dt (.list (C.map stp))):=by rw[hY];exact apk (k:=3) rfl
  obtain⟨sts,T,aY,X,e1,e2,e3,e4,e5,e6⟩:=uw hc hbc hfc nt k2 k0;rw[jf]at e1;have sl:=e5.len;have bb:=(hbc.bl n hn).1;have ol:(bF (aq++C) n).length<=(aq++C).length:=zaY _ _;have tlc:=hbc.tl;rw[zau]at sl;refine⟨Y++(X++[dt (.list (C.map stp++lK (cuts C row n).below sts))]),(S++Y).length+6,(S++Y).length+3,(S++Y++X).length,C,aq++C,cuts C row,sts,T,aY,?_,?_,?_,?_,zaS (fJ e2),?_,?_,?_,jf C row,hbc,hfc,nt,⟨hcl,(Ch.mem h hch hn).1⟩,e5,e6⟩
  ·refine e8 (t':=[some (.tp [.lc p,.lc q]),some (.pl (.str n)),some (.tp [.tp [.lc (S.length+2),.lc S.length],.lc (S.length+3)]),some (.tp [.pl (.int (row n).key),.tp [.lc ((S++Y).length+6),.lc ((S++Y).length+3)],.lc ((S++Y).length+7)])]) rfl (hd ?_) (by simp[blV,fM])
   refine aI (gx tI rfl) ?_;refine aI (bW (i:=2) (cU (aA (ao rfl) (aA (ao rfl) bC)) co) (by simp)) ?_
   refine aI (bW (i:=3) (cU (aA (cL (ao rfl) fI rfl) (aA (ao rfl) bC)) e1) (by simp)) ?_
   have r2:rdV (S++Y++X) (.tp [.tp [.lc (S.length+2),.lc S.length],.lc (S.length+3)])=some (.tuple [PD (aq++C) keys (cuts C row),.list (C.map stp)]):=by
    simp only[rdV,gF,bJ (X:=X) k2,bJ (X:=X) k0,bJ (X:=X) k3,Option.bind_some,Option.map_some]
   have r3:rdV (S++Y++X) (.tp [.pl (.int (row n).key),.tp [.lc ((S++Y).length+6),.lc ((S++Y).length+3)],.lc ((S++Y).length+7)])=some (.tuple [.int (row n).key,PD T (bF keys n) aY,.list (lK (cuts C row n).below sts)]):=by
    simp only[rdV,gF,e2,e3,e4,Option.bind_some,Option.map_some]
   refine(de (cw (aA (cL (ao rfl) fI rfl) (aA (cL (ao rfl) fI rfl) (aA (iS (bD (r:=(.list (lK (cuts C row n).below sts),.fz)) (res:=(.list (C.map stp++lK (cuts C row n).below sts),true)) (aj (bD (r:=(.int 1,.fz)) (res:=(.list (C.map stp),false)) (aj (az (br rfl r2))) (aj rfl) rfl)) (aj (bD (r:=(.int 2,.fz)) (res:=(.list (lK (cuts C row n).below sts),false)) (aj (az (br rfl r3))) (aj rfl) rfl)) (nh _ _ (by unfold lK;simp only[List.length_map,List.length_append];omega))) ?_) bC))) rfl (by simp))).trans ?_
   ·show a6 (C.map stp++lK (cuts C row n).below sts)=true
    unfold lK;rw[jE,jE,show a6 (C.map stp)=true from sC C,show a6 ((cuts C row n).below.map stF)=true from mU (λx=>rfl) _,show a6 (sts.map stH)=true from mU (λx=>rfl) _];rfl
   ·dsimp only
    simp only[List.append_assoc];rfl
  ·rw[<-zaD,<-zaD];exact bJ e2
  ·rw[<-zaD,<-zaD];exact bJ e3
  ·rw[<-zaD,<-zaD];exact ap0
  ·simp;omega
  ·simp;omega
  ·simp
theorem lM:∀(C:List Str) (row:Str->aL.Row) (m:Str),(cuts C row m).above=none\/(cuts C row m).above=(row m).above
 | [],_,_=>.inr rfl
 |x::C,row,m=>by
  rcases lM C (dB row x ((row x).above.getD x)) m with h|h
  ·exact .inl h
  ·rw[cS]at h
   by_cases e:m=x
   ·rw[if_pos e]at h;exact .inl h
   ·rw[if_neg e]at h;exact .inr h
theorem yA(h:Ch row n C L):(cuts C row n).above=none:=by
 have key:∀(C:List Str) (row:Str->aL.Row),(row n).above=none->(cuts C row n).above=none:=λC row e=>by
  rcases lM C row n with h|h
  ·exact h
  ·rw[h,e]
 cases h with
 |one ha hm=>rw[fj ha];exact key [] _ (by rw[cS,if_pos rfl])
 |more ha hm hch=>rw[fj ha];exact key _ _ (by rw[cS,if_pos rfl])
theorem Fm.less(f:Fm keys row)(n:Str)(k:Int):Fm keys (gU row n k) :=
 ⟨λm hm=>by rw[(cO n m k).2.2];exact f.nd m hm,λm hm b hb=>by rw[(cO n m k).2.2]at hb;rw[(cO n b k).1];exact f.up m hm b hb,λm hm a ha=>by rw[(cO n m k).1]at ha;rw[(cO n a k).2.2];exact f.dn m hm a ha,λm hm i b e=>by rw[(cO n m k).2.2]at e;rw[(cO n b k).2.2,(cO n b k).2.1];exact f.dg m hm i b e⟩
theorem mX(n m:Str)(k:Int):(gU row n k m).key=if m=n then k else(row m).key:=by
 by_cases e:m=n
 ·subst e;rw[ux,if_pos rfl]
 ·rw[uy k e,if_neg e]
theorem z6(h:Bk c aq keys row)(hk:k<(row n).key)(h':Bt K c Ip keys aY)(ek:∀m,(aY m).key=if m=n then k else(row m).key)(ab:∀m a,(aY m).above=some a->(row m).above=some a)(top:∀a,(aY n).above=some a->aT (row a).key a k n=true):Bk c Ip keys aY :=
 ⟨h'.nd,h'.nm,h'.tn,h'.tk,h'.ne,h'.mkd,h'.ab,h'.bl,λm hm a ha=>by
  have ha':=ab m a ha;have o:=h.ho m hm a ha';show aT (aY a).key a (aY m).key m=true;rw[ek,ek];have nea:=h.neA hm ha'
  by_cases e1:m=n
  ·subst e1
   rw[if_pos rfl,if_neg nea];exact top a ha
  ·rw[if_neg e1]
   by_cases e2:a=n
   ·subst e2
    rw[if_pos rfl];exact fF (b:=(row a).key) (y:=a) (by unfold aT;simp[hk];omega) o
   ·rw[if_neg e2];exact o⟩
theorem Ha(hc:c<=200)(h:Bk c aq keys row)(f:Fm keys row)(hn:n∈keys)(hk:k<(row n).key)(ha:S[a]?=some (dt (TD aq)))(hb:S[b]?=some (dt (HD keys row))) :
  ∃X f0 f1 f2 T aY,ee S [.tp [.lc a,.lc b],.pl (.str n),.pl (.int k)]=some (.ok (.tp [.tp [.lc f0,.lc f1],.lc f2]) (S++X))/\(S++X)[f0]?=some (dt (TD T))/\(S++X)[f1]?=some (dt (HD keys aY))/\S.length<=f0/\Bk c T keys aY/\Fm keys aY/\∀m,(aY m).key=if m=n then k else(row m).key:=by
 have keep:Keeps row n k->_:=λhq=>(⟨_,_,_,_,aq,gU row n k,BA hc h hn hk hq ha hb,apk (k:=1) rfl,ap0,by omega,z6 h hk (h.less n k) (λm=>mX n m k) (λm a e=>by rw[(cO n m k).1]at e;exact e) (λa e=>by
   rw[(cO n n k).1]at e;exact kq (λz=>h.neA hn e z.symm) (hq a e)),f.less n k,λm=>mX n m k⟩:∃X f0 f1 f2 T aY,ee S [.tp [.lc a,.lc b],.pl (.str n),.pl (.int k)]=some (.ok (.tp [.tp [.lc f0,.lc f1],.lc f2]) (S++X))/\(S++X)[f0]?=some (dt (TD T))/\(S++X)[f1]?=some (dt (HD keys aY))/\S.length<=f0/\Bk c T keys aY/\Fm keys aY/\∀m,(aY m).key=if m=n then k else(row m).key)
 cases ea:(row n).above with
 |none=>exact keep λa e=>by rw[ea]at e;cases e
 |some a'=>
  cases el:aT k n (row a').key a' with
  |false=>exact keep λa e=>by rw[ea]at e;cases e;exact el
  |true=>
   have hl:=h.less n k;obtain⟨C,L,hch,hcl⟩:=Ii hl hn (by rw[(cO n n k).1,ea];simp)
   refine⟨_,_,_,_,aq++C,cuts C (gU row n k),Ek hc h hn hk ea el hch hcl ha hb,apk (k:=3) rfl,apk (k:=1) rfl,by omega,z6 h hk (uD C aq _ n L hch hl hn) (λm=>(jf C _ m).trans (mX n m k)) (λm a e=>?_) (λa e=>?_),Fm.cuts C aq _ n L hl hn ((f.less n k).x n) hch,λm=>(jf C _ m).trans (mX n m k)⟩
   ·rcases lM C (gU row n k) m with z|z
    ·rw[z]at e;cases e
    ·rw[z,(cO n m k).1]at e;exact e
   ·rw[yA hch]at e;cases e
def plL(keys:List Str)(g:Str->Int):List (D×D):=keys.map λn=>(PyData.str n,PyData.int (g n))
abbrev PL(keys:List Str)(g:Str->Int):D:=.dict (plL keys g)
def gW(g:Str->Int)(n:Str)(v:Int):Str->Int:=λm=>if m=n then v else g m
variable{g:Str->Int}{n:Str}
theorem kT(g:Str->Int)(n:Str):∀keys:List Str,dO (plL keys g) (.inr n)=if n∈keys then some (.int (g n))else none
 | []=>rfl
 |m::keys=>by
  show(if keyOf (.str m)=some (.inr n)then some (PyData.int (g m))else dO (plL keys g) (.inr n))=_
  by_cases e:m=n
  ·subst e;rw[if_pos (mK m),if_pos zas]
  ·have e1 : ¬keyOf (.str m)=some (.inr n):=λz=>e (Sum.inr.inj (zaQ z))
   rw[if_neg e1,kT g n keys]
   by_cases h:n∈keys
   ·rw[if_pos h,if_pos (zak _ h)]
   ·rw[if_neg h,if_neg λz=>(zaf z).elim (λz=>e z.symm) h]
theorem jh(h:∀n∈keys,g n=g' n):plL keys g=plL keys g':=List.map_congr_left λm hm=>by rw[h m hm]
theorem uE(keys:List Str)(g:Str->Int):(plL keys g).length=keys.length:=by unfold plL;rw[zal]
theorem z7(keys:List Str)(g:Str->Int):(plL keys g).map (·.1)=keys.map .str:=by unfold plL;rw[List.map_map];rfl
theorem lN(keys:List Str)(g:Str->Int)(n:Str)(v:Int)(h:n∉keys):putD (plL keys g) (.str n) (.int v) (.inr n)=plL (keys++[n]) (gW g n v):=by
 unfold putD;rw[kT,if_neg h];show plL keys g++[(.str n,.int v)]=_;rw[show plL (keys++[n]) (gW g n v)=plL keys (gW g n v)++plL [n] (gW g n v)from za1 ..,jh (g:=g) (g':=gW g n v) λm hm=>by unfold gW;rw[if_neg (show¬m=n from λz=>h (by rw[<-z];exact hm))]]
 show _=_++[(PyData.str n,PyData.int (gW g n v n))];unfold gW;rw[if_pos rfl]
theorem yB(keys:List Str)(g:Str->Int)(n:Str)(v:Int)(h:n∈keys):putD (plL keys g) (.str n) (.int v) (.inr n)=plL keys (gW g n v):=by
 unfold putD;rw[kT,if_pos h];show(plL keys g).map _=_;unfold plL;rw[List.map_map];refine List.map_congr_left λm _=>?_
 show(if keyOf (.str m)=some (.inr n)then(PyData.str m,PyData.int v)else(PyData.str m,PyData.int (g m)))=(PyData.str m,PyData.int (gW g n v m))
 unfold gW
 by_cases e:m=n
 ·subst e;rw[if_pos (mK m),if_pos rfl]
 ·have e1 : ¬keyOf (.str m)=some (.inr n):=λz=>e (Sum.inr.inj (zaQ z))
  rw[if_neg e1,if_neg e]
theorem z8{g:Str->Int}(n:Str):∀keys:List Str,lg (plL keys g) (.inr n)=plL (bF keys n) g
 | []=>rfl
 |m::l=>by
  have ih:=z8 (g:=g) n l;unfold lg plL bF at ih⊢;rw[zaz,List.filter_cons,List.filter_cons];have e:(decide (keyOf (PyData.str m)≠some (Sum.inr n)))= !decide (m=n):=by
   by_cases z:m=n
   ·subst z;rw[zaH rfl];exact zaO λw=>w rfl
   ·rw[zaO z]
    exact zaH λw=>z (Sum.inr.inj (zaQ w))
  dsimp only;rw[e];split
  ·rw[zaz,ih]
  ·exact ih
theorem Et:∀(l pre:List Str),(∀m∈l,m∉k1++pre)->l.Nodup->Ba (plL (k1++pre) g) (plL l g)=some (plL (k1++(pre++l)) g)
 | [],pre,_,_=>by rw[zaR];rfl
 |m::l,pre,h,nd=>by
  obtain⟨nn,nd2⟩:=List.nodup_cons.mp nd;show(keyOf (.str m)).bind (λk=>Ba (putD (plL (k1++pre) g) (.str m) (.int (g m)) k) (plL l g))=_
  rw[mK,zai,lN _ _ _ _ (h m zas),show gW g m (g m)=g from funext λx=>by unfold gW;split<;>simp_all,zaD]
  rw[Et l (pre++[m]) (λx hx z=>by
   rw[<-zaD]at z;rcases zae z with z|z
   ·exact h x (zak _ hx) z
   ·rw[zad z]at hx;exact nn hx) nd2,zaD]
  rfl
theorem Mh(keys:List Str)(g:Str->Int)(n:Str):mr (.str n) (PL keys g)=some (.bool (decide (n∈keys)),false):=by
 show some (PyData.bool (dO (plL keys g) (.inr n)).isSome,false)=_;rw[kT]
 by_cases h:n∈keys
 ·rw[if_pos h,zaH h];rfl
 ·rw[if_neg h,zaO h];rfl
theorem Eu(h:n∈keys):dP (PL keys g) (.str n)=some (.int (g n),false):=by
 show(dO (plL keys g) (.inr n)).map _=_;rw[kT,if_pos h];rfl
theorem uF(keys:List Str)(g:Str->Int):cI (PL keys g) true=true:=by
 show a6 ((plL keys g).map (·.2))=true
 unfold plL;rw[List.map_map]
 induction keys with
 |nil=>rfl
 |cons n l ih=>simp only[List.map_cons,a6,Function.comp,dU,Bool.true_and];exact ih
theorem Hb{i:Nat}{a b:PM}{ρ:Rho}{v:Int}(ha:IE a ρ v)(hb:b ρ=some ((.str n,.fz),ρ))(h : ρ[i]?=some (.own (PL keys g)))(hn:n∉keys)(hl:keys.length<=1000):la i a b ρ=some (.nx (ρ.set i (.own (PL (keys++[n]) (gW g n v))))):=by
 have hl':(plL keys g).length<100000:=by rw[uE];omega
 unfold la;rw[aj ha,zai];dsimp only[jX,Option.bind_some]
 rw[h,show xR (some (Sl.own (PL keys g)))=some (plL keys g)from rfl,zai,aj hb,zai];dsimp only[keyOf,Option.bind_some]
 rw[h,show xR (some (Sl.own (PL keys g)))=some (plL keys g)from rfl,zai,bg hl',lN _ _ _ _ hn];unfold Mir.putAt;rw[h];rfl
abbrev kf(row:Str->aL.Row):Str->Int:=λn=>(row n).key
theorem qB:∀(l pre:List Str) (x y:Sl),(x=.no\/∃d,x=.fz d)->(y=.no\/∃d,y=.fz d)->(∀m∈l,m∉pre)->l.Nodup->(pre++l).length<=1000->∃x' y',gr [.fz (PD aq keys row),.own (PL (pre++l) (kf row)),x',y']=true/\forL (mgU 2 (kH (mgN 2) (kH (mgN 3) tf))) mJ (l.map λn=>PyData.tuple [.str n,bE (row n)]) [.fz (PD aq keys row),.own (PL pre (kf row)),x,y]=some (.nx [.fz (PD aq keys row),.own (PL (pre++l) (kf row)),x',y'])
 | [],pre,x,y,hx,hy,_,_,_=>⟨x,y,by rcases hx with rfl|⟨d,rfl⟩<;>rcases hy with rfl|⟨e,rfl⟩<;>rfl,by rw[zaR];rfl⟩
 |m::l,pre,x,y,hx,hy,h,nd,sz=>by
  obtain⟨nn,nd2⟩:=List.nodup_cons.mp nd;obtain⟨x',y',h1,h2⟩:=qB l (pre++[m]) (.fz (.str m)) (.fz (bE (row m))) (.inr ⟨_,rfl⟩) (.inr ⟨_,rfl⟩) (λz hz w=>by
   rcases zae w with w|w
   ·exact h z (zak _ hz) w
   ·rw[zad w]at hz;exact nn hz) nd2 (by simp only[List.length_append,List.length_cons,List.length_nil]at sz⊢;omega)
  rw[zaD]at h1 h2;refine⟨x',y',h1,?_⟩;rw[zaz];refine nj (ρ1:=[.fz (PD aq keys row),.own (PL pre (kf row)),.fz (.str m),.fz (bE (row m))]) (by rcases hx with rfl|⟨d,rfl⟩<;>rcases hy with rfl|⟨e,rfl⟩<;>rfl) (ρ2:=[.fz (PD aq keys row),.own (PL (pre++[m]) (kf row)),.fz (.str m),.fz (bE (row m))]) ?_ h2
  refine(Hb (i:=1) (keys:=pre) (g:=kf row) (kQ (az rfl)) (az rfl) rfl (h m zas) (by simp only[List.length_append,List.length_cons]at sz;omega)).trans ?_
  rw[show gW (kf row) m (row m).key=kf row from funext λx=>by unfold gW;split<;>simp_all]
  rfl
theorem yC(nd:keys.Nodup)(hl:keys.length<=1000):iq [PD aq keys row]=some (PL keys (kf row),true):=by
 obtain⟨x',y',h1,h2⟩:=qB (aq:=aq) (keys:=keys) (row:=row) keys [] .no .no (.inl rfl) (.inl rfl) (λm _ z=>by cases z) nd (by simpa using hl)
 rw[List.nil_append]at h1 h2;refine d4 (o:=.rt (PL keys (kf row),.at 1) [.fz (PD aq keys row),.own (PL keys (kf row)),x',y']) rfl (dJ (ρ1:=[.fz (PD aq keys row),.own (PL [] (kf row)),.no,.no]) (jv rfl rfl) (dJ (GO (uC (i:=0) rfl) rfl h2 h1) (fy (ju rfl)))) rfl
theorem Ew(keys:List Str)(g:Str->Int):DU (PL keys g) (PL keys g)=some (.bool false,false):=by
 refine bg ⟨rfl,λp hp=>?_⟩
 obtain⟨j,hj,e⟩:=List.getElem_of_mem hp;refine⟨j,by rw[zaC hj,e],?_⟩
 obtain⟨m,_,rfl⟩:=List.mem_map.mp hp;rfl
theorem z9{fr:List (Str×Nat)}{dv:PM}{cc:Rho->Option (Bool×Rho)}{e:PM}{ρ:Rho}{ys:List D}(h1:dv ρ=some ((PL keys g,.fz),ρ))(hr:gr ρ=true)(h2:gp cc e (fr.map λp=>bh ρ p.2) (keys.map .str)=some ys)(h3:ys.length<=100000):qf fr dv cc e ρ=some ((.list ys,.new),ρ):=by
 unfold qf;rw[h1,zai];dsimp only[my,Option.bind_some];rw[if_pos hr,z7,h2,zai,bg (pR h3)]
theorem qC{t1 k1 t2 k2:List Str}{r1 r2:Str->aL.Row}:∀(l pre:List Str) (s3:Sl),(s3=.no\/∃d,s3=.fz d)->(∀n∈l,n∈k2/\n∉pre)->l.Nodup->(k1++pre++l).length<=1000->(∃n∈l,n∈k1)->
  forL (mgN 3) dz (l.map .str) [.fz (PD t1 k1 r1),.fz (PD t2 k2 r2),.own (HD (k1++pre) (mrg k1 r1 r2)),s3]=none
 | [],pre,s3,_,_,_,_,h=>by obtain⟨n,hn,_⟩:=h;cases hn
 |n::l,pre,s3,hs,hl,nd,sz,hx=>by
  obtain⟨h1,h2⟩:=hl n zas;obtain⟨nn,nd2⟩:=List.nodup_cons.mp nd;have sz2:(k1++pre).length<=1000:=by simp only[List.length_append,List.length_cons]at sz⊢;omega
  have hg:mgN 3 (.str n) [.fz (PD t1 k1 r1),.fz (PD t2 k2 r2),.own (HD (k1++pre) (mrg k1 r1 r2)),s3]=some [.fz (PD t1 k1 r1),.fz (PD t2 k2 r2),.own (HD (k1++pre) (mrg k1 r1 r2)),.fz (.str n)]:=uf (s:=s3) rfl (by rcases hs with rfl|⟨d,rfl⟩;exact NIo.no;exact NIo.fz _)
  have tst:∀b:Bool,decide (n∈k1++pre)=b->bc (mOp mr (ai 3) (ai 2)) [.fz (PD t1 k1 r1),.fz (PD t2 k2 r2),.own (HD (k1++pre) (mrg k1 r1 r2)),.fz (.str n)]=some (b,[.fz (PD t1 k1 r1),.fz (PD t2 k2 r2),.own (HD (k1++pre) (mrg k1 r1 r2)),.fz (.str n)]):=λb hb=>test_ev (k:=.fz) (bD (r:=(HD (k1++pre) (mrg k1 r1 r2),.at 2)) (res:=(.bool b,false)) (aj (az rfl)) (pT (ju rfl)) (by rw[o5,hb]))
  rw[zaz]
  by_cases h3:n∈k1
  ·show(mgN 3 (.str n) _).bind _=none
   rw[hg,zai];have:dz [.fz (PD t1 k1 r1),.fz (PD t2 k2 r2),.own (HD (k1++pre) (mrg k1 r1 r2)),.fz (.str n)]=none:=by
    unfold dz gM;rw[AK (o:=none) (tst true (zaH (zaW _ h3))) rfl];rfl
   rw[this];rfl
  ·have h4:n∉k1++pre:=λz=>(zae z).elim h3 h2
   have e:=qC (t1:=t1) (k1:=k1) (t2:=t2) (k2:=k2) (r1:=r1) (r2:=r2) l (pre++[n]) (.fz (.str n)) (.inr ⟨_,rfl⟩) (λm hm=>⟨(hl m (zak _ hm)).1,λz=>by
    rcases zae z with z|z
    ·exact(hl m (zak _ hm)).2 z
    ·rw[zad z]at hm;exact nn hm⟩) nd2 (by simp only[List.length_append,List.length_cons,List.length_nil]at sz⊢;omega) (by
    obtain⟨m,hm,hm2⟩:=hx;rcases zaf hm with rfl|hm
    ·exact absurd hm2 h3
    ·exact⟨m,hm,hm2⟩)
   refine nj hg (dJ (pV (tst false (zaO h4)) rfl) ?_) e;refine(o6 (i:=2) (r:=r2 n) (nL (keys:=k2) (row:=r2) h1 (aj (gw (aq:=t2) rfl)) (az rfl)) (az rfl) rfl (.inl rfl) sz2).trans ?_;rw[kj h4,uB h3,<-zaD];rfl
variable{t1 k1 t2 k2:List Str}{r1 r2:Str->aL.Row}
theorem Hc(nd:k2.Nodup)(hk:k1.length+k2.length<=1000)(hx:∃n∈k2,n∈k1):eC [PD t1 k1 r1,PD t2 k2 r2]=none:=by
 have e:=qC (t1:=t1) (k1:=k1) (t2:=t2) (k2:=k2) (r1:=r1) (r2:=r2) k2 [] .no (.inl rfl) (λn hn=>⟨hn,by simp⟩) nd (by simp;omega) hx
 rw[zaR]at e;have hf:rR (tQ (gJ 1) 1) (mgN 3) dz [.fz (PD t1 k1 r1),.fz (PD t2 k2 r2),.own (HD k1 (mrg k1 r1 r2)),.no]=none:=by
  unfold rR;rw[uC (i:=1) (t:=t2) (k:=k2) (r:=r2) rfl,zai];dsimp only;show(some (cj k2 r2)).bind _=_;have hr:gr [.fz (PD t1 k1 r1),.fz (PD t2 k2 r2),.own (HD k1 (mrg k1 r1 r2)),.no]=true:=rfl;rw[zai,if_pos hr,kP,e];rfl
 unfold eC fnD;rw[if_pos (show([PD t1 k1 r1,PD t2 k2 r2]:List D).length=2 from rfl)];show lr [.fz (PD t1 k1 r1),.fz (PD t2 k2 r2),.no,.no]=none;refine iu (ρ1:=[.fz (PD t1 k1 r1),.fz (PD t2 k2 r2),.own (HD k1 (mrg k1 r1 r2)),.no]) ((jv (d7 (rs:=[(HD k1 r1,.fz)]) (res:=(HD k1 r1,true)) (aJ (aj (gw (aq:=t1) rfl)) a8) rfl) rfl).trans (by rw[yy (r1:=r1) (r2:=r2)];rfl)) ?_
 unfold k7;rw[hf];rfl
theorem Hd{i:Nat}{su:Str->Bool}{fd:List D->Option (D×D)}{fx:List D->Option ((D×Bool) ⊕ Str)}{m:MN (List SV)}{s s1:SS}{xs:List SV}{ds:List D}{c:Str}(h1:m s=some (.ok xs s1))(h2:gF s1.S xs=some ds)(h3:fd ds=none)(h4:fx ds=some (.inr c))(h5:su c=true)(hi:i<s1.t.length):qk i su fd fx m s=some (.nx ⟨s1.S,s1.t.set i (some (.pl .none))⟩):=by
 unfold qk;rw[h1];dsimp only
 rw[h2,zai,h3];dsimp only
 rw[h4];dsimp only
 rw[if_pos ⟨h5,hi⟩]
theorem He{i:Nat}{su:Str->Bool}{fd:List D->Option (D×D)}{fx:List D->Option ((D×Bool) ⊕ Str)}{m:MN (List SV)}{s s1:SS}{xs:List SV}{ds:List D}{c:D×D}(h1:m s=some (.ok xs s1))(h2:gF s1.S xs=some ds)(h3:fd ds=some c)(p1:cI c.1 true=true)(p2:cI c.2 true=true)(hi:i<s1.t.length):qk i su fd fx m s=some (.nx ⟨s1.S++[dt c.1,dt c.2],s1.t.set i (some (.tp [.lc s1.S.length,.lc (s1.S.length+1)]))⟩):=by
 unfold qk;rw[h1];dsimp only
 rw[h2,zai,h3];dsimp only
 rw[if_pos ⟨p1,p2,hi⟩,zaD];rfl
theorem Ex(h2 : ρ[2]?=some (.fz (PL k1 g)))(h3 : ρ[3]?=some (.fz (PL k2 g2)))(hr:gr ρ=true)(hl:k2.length<=1000)(hb:(k2.any λn=>decide (n∈k1))=b):bc (mCB FA (aF (qf [("_law_plain",2)] (gJ 3) jo fC) a9)) ρ=some (b,ρ):=by
 have hd:bh ρ 2=.fz (PL k1 g):=by unfold bh;rw[h2]
 have cmp:=Mir.fU (e:=fC) (ρn:=[.fz (PL k1 g)]) (f:=PyData.str) (g:=λn=>PyData.bool (decide (n∈k1))) k2 λx hx=>⟨[.fz (.str x),.fz (PL k1 g)],aj (bD (r:=(PL k1 g,.fz)) (res:=(.bool (decide (x∈k1)),false)) (aj (az rfl)) (aj (az rfl)) (Mh _ _ _))⟩
 refine test_ev (k:=.fz) (d7 (rs:=[(.list (k2.map λn=>PyData.bool (decide (n∈k1))),.fz)]) (res:=(.bool b,false)) (aJ (jt (z9 (fr:=[("_law_plain",2)]) (by unfold gJ;rw[h3]) hr (by show gp jo fC [bh ρ 2] _=_;rw[hd];exact cmp) (by rw[zal];omega))) a8) ?_)
 show(boolsOf _).map _=_;rw[iH];show some (PyData.bool _,false)=_;rw[List.any_map];rw[<-hb];rfl
theorem uG(s:SS):gr (vw s)=true:=by
 unfold gr vw;rw[List.all_eq_true];intro x hx;obtain⟨y,_,rfl⟩:=List.mem_map.mp hx;rcases rN s.S y with e|⟨d,x,e,_⟩<;>rw[e]
abbrev pw(a b d e p q:Nat)(x4 x5:Option SV):List (Option SV):=[some (.tp [.lc a,.lc b]),some (.tp [.lc d,.lc e]),some (.lc p),some (.lc q),x4,x5]
theorem Ey{a:EN}{m:MN (List SV)}{s:SS}{S X:List (Option Cl)}{t:List (Option SV)}{k j:Nat}{es ms out:List (D×D)}(h:a s=some (.ok (.lc (S.length+k)) ⟨S++X,t⟩))(hk:X[k]?=some (dt (.dict es)))(h1:m ⟨S++X,t⟩=some (.ok [.lc j] ⟨S++X,t⟩))(hj:S[j]?=some (dt (.dict ms)))(hz:es.length+ms.length<=100000)(ho:Ba es ms=some out):zN a m s=some (.ok (.pl .none) ⟨S++X.set k (dt (.dict out)),t⟩):=by
 have lj:=fJ hj;unfold zN;rw[dC h];dsimp only;rw[if_pos (show mE (S++X) (S.length+k)=true by unfold mE;rw[apk hk]),dC h1]
 unfold DG;dsimp only;rw[if_neg (by omega),apk hk,bJ hj]
 dsimp only;rw[if_pos hz,ho,zaT,yz]
theorem Ez(hC:C<=200)(h1:Bk C t1 k1 r1)(h2:Bk C t2 k2 r2)(ha:S[a]?=some (dt (TD t1)))(hb:S[b]?=some (dt (HD k1 r1)))(hd:S[d]?=some (dt (TD t2)))(he:S[e]?=some (dt (HD k2 r2)))(hp:S[p]?=some (dt (PL k1 (kf r1))))(hq:S[q]?=some (dt (PL k2 (kf r2))))(hx:∃n∈k2,n∈k1) :
  fD S [.tp [.lc a,.lc b],.tp [.lc d,.lc e],.lc p,.lc q]=some (.ok (.tp [.pl (.bool true),.pl .none,.lc p]) S):=by
 have kl1:=h1.kl;have kl2:=h2.kl;have lp:=fJ hp;refine yq (o:=.rt (.tp [.pl (.bool true),.pl .none,.lc p]) ⟨S,pw a b d e p q (some (.pl .none)) none⟩) rfl ?_ (by
  simp only[retS];rw[if_pos (by simp[blV,fM,lp]),zZ (zap _)])
 refine aI (s':=⟨S,pw a b d e p q (some (.pl .none)) none⟩) (bW (i:=4) fI (by simp)) ?_
 refine aI (s':=⟨S,pw a b d e p q (some (.pl .none)) none⟩) (Hd (xs:=[.tp [.lc a,.lc b],.tp [.lc d,.lc e]]) (ds:=[PD t1 k1 r1,PD t2 k2 r2]) (c:="Twice") (aA (ao rfl) (aA (ao rfl) bC)) (by simp only[gF,cY ha hb,cY hd he,Option.bind_some,Option.map_some]) (Hc h2.nd (by omega) hx) (Es h2.nd (by omega) hx) rfl (by simp)) ?_
 refine kR (ku (cV (Ex (br rfl (cz hp)) (br rfl (cz hq)) (uG _) (by omega) (List.any_eq_true.mpr (by obtain⟨n,hn,hm⟩:=hx;exact⟨n,hn,zaH hm⟩)))) ?_)
 exact de (cw (xs:=[.pl (.bool true),.pl .none,.lc p]) (aA (Im (bD (r:=(.none,.fz)) (res:=(.bool true,false)) (aj (az (bY rfl))) (aj rfl) rfl)) (aA fI (aA (ao rfl) bC))) rfl (by simp))
theorem EA(hC:C<=200)(h1:Bk C t1 k1 r1)(h2:Bk C t2 k2 r2)(ha:S[a]?=some (dt (TD t1)))(hb:S[b]?=some (dt (HD k1 r1)))(hd:S[d]?=some (dt (TD t2)))(he:S[e]?=some (dt (HD k2 r2)))(hp:S[p]?=some (dt (PL k1 (kf r1))))(hq:S[q]?=some (dt (PL k2 (kf r2))))(dj:Dj k1 k2) :
  fD S [.tp [.lc a,.lc b],.tp [.lc d,.lc e],.lc p,.lc q]=some (.ok (.tp [.pl (.bool true),.tp [.lc (S.length+0),.lc (S.length+1)],.lc (S.length+2)]) (S++[dt (TD (t1++t2)),dt (HD (k1++k2) (mrg k1 r1 r2)),dt (PL (k1++k2) (kf (mrg k1 r1 r2)))])):=by
 have kl1:=h1.kl;have kl2:=h2.kl;have tl1:=h1.tl;have tl2:=h2.tl;have ga:∀{x:Nat} {d:D} {Y:List (Option Cl)},S[x]?=some (dt d)->(S++Y)[x]?=some (dt d):=λe=>bJ e
 have e1:PL k1 (kf r1)=PL k1 (kf (mrg k1 r1 r2)):=congrArg PyData.dict (jh λn hn=>by show(r1 n).key=(mrg k1 r1 r2 n).key;rw[uA hn])
 have e2:PL k2 (kf r2)=PL k2 (kf (mrg k1 r1 r2)):=congrArg PyData.dict (jh λn hn=>by show(r2 n).key=(mrg k1 r1 r2 n).key;rw[o8 (dj n hn)])
 have em:=Et (k1:=k1) (g:=kf (mrg k1 r1 r2)) k2 [] (λm hm=>by rw[zaR];exact dj m hm) h2.nd
 rw[zaR,List.nil_append]at em;obtain⟨M,hM⟩:∃M,M=mrg k1 r1 r2:=⟨_,rfl⟩;rw[e1,<-hM]at hp;rw[e2,<-hM]at hq;rw[<-hM]at em⊢;refine e8 (t':=pw a b d e p q (some (.tp [.lc (S.length+0),.lc (S.length+1)])) (some (.lc (S.length+2)))) rfl ?_ (by simp[blV,fM])
 refine aI (s':=⟨S,pw a b d e p q (some (.pl .none)) none⟩) (bW (i:=4) fI (by simp)) ?_
 refine aI (s':=⟨S++[dt (TD (t1++t2)),dt (HD (k1++k2) M)],pw a b d e p q (some (.tp [.lc (S.length+0),.lc (S.length+1)])) none⟩) (He (xs:=[.tp [.lc a,.lc b],.tp [.lc d,.lc e]]) (ds:=[PD t1 k1 r1,PD t2 k2 r2]) (c:=(TD (t1++t2),HD (k1++k2) M)) (aA (ao rfl) (aA (ao rfl) bC)) (by simp only[gF,cY ha hb,cY hd he,Option.bind_some,Option.map_some]) (by rw[hM];exact G6 dj h2.nd (by omega) (by omega)) (gT _) (jC _ _) (by simp)) ?_
 refine aI (gx (cV (Ex (b:=false) (br rfl (cz (ga hp))) (br rfl (cz (ga hq))) (uG _) (by omega) (by
  rw[List.any_eq_false];intro x hx;simpa using dj x hx))) rfl) ?_
 refine aI (s':=⟨S++[dt (TD (t1++t2)),dt (HD (k1++k2) M),dt (PL k1 (kf M))],pw a b d e p q (some (.tp [.lc (S.length+0),.lc (S.length+1)])) (some (.lc (S.length+2)))⟩) (bW (i:=5) (s':=⟨S++[dt (TD (t1++t2)),dt (HD (k1++k2) M),dt (PL k1 (kf M))],pw a b d e p q (some (.tp [.lc (S.length+0),.lc (S.length+1)])) none⟩) (mW (X:=[dt (TD (t1++t2)),dt (HD (k1++k2) M)]) (d7 (rs:=[(PL k1 (kf M),.fz)]) (res:=(PL k1 (kf M),true)) (aJ (aj (az (br rfl (cz (ga hp))))) a8) rfl) (uF _ _)) (by simp)) ?_
 refine aI (s':=⟨S++[dt (TD (t1++t2)),dt (HD (k1++k2) M),dt (PL (k1++k2) (kf M))],pw a b d e p q (some (.tp [.lc (S.length+0),.lc (S.length+1)])) (some (.lc (S.length+2)))⟩) (eN (Ey (k:=2) (X:=[dt (TD (t1++t2)),dt (HD (k1++k2) M),dt (PL k1 (kf M))]) (ao rfl) rfl (aA (ao rfl) bC) hq (by rw[uE,uE];omega) em)) ?_
 exact de (cw (xs:=[.pl (.bool true),.tp [.lc (S.length+0),.lc (S.length+1)],.lc (S.length+2)]) (aA (Im (bD (r:=(.none,.fz)) (res:=(.bool true,false)) (aj (az (br rfl (cY (apk (k:=0) rfl) (apk (k:=1) rfl))))) (aj rfl) rfl)) (aA (ao rfl) (aA (ao rfl) bC))) rfl (by simp))
theorem Hs.Mi(h:Hs T row r T' aY):∀m,(aY m).key=(row m).key:=by
 induction h with
 |nil=>exact λ_=>rfl
 |cons a b c d e _ ih=>exact λm=>(ih m).trans (oy c m)
theorem EB(row:Str->aL.Row)(n:Str)(r:aL.Row):gW (kf row) n r.key=kf (aX row n r):=funext λm=>by
 unfold gW kf
 by_cases e:m=n
 ·subst e;rw[if_pos rfl,aM]
 ·rw[if_neg e,aD _ _ e]
theorem wO(hv:v s=some (.ok (.pl (.int w)) ⟨S++X,t⟩))(hd:d ⟨S++X,t⟩=some (.ok (.lc (S.length+j)) ⟨S++X,t⟩))(hk:k ⟨S++X,t⟩=some (.ok (.pl (.str n)) ⟨S++X,t⟩))(hj:X[j]?=some (dt (PL keys g)))(hl:keys.length<=1000)(ho:putD (plL keys g) (.str n) (.int w) (.inr n)=es):fQ d k v s=some (.nx ⟨S++X.set j (dt (.dict es)),t⟩):=by
 unfold fQ;rw[fH hv,fH hd,fH hk];unfold Du;dsimp only[keyOf,Option.bind_some];rw[apk hj];dsimp only;rw[bg (by rw[uE];omega),ho,yz]
theorem wQ(h:a s=some (.ok (.lc (S.length+k)) ⟨S++X,t⟩))(hk:X[k]?=some (dt (PL keys g)))(h1:m ⟨S++X,t⟩=some (.ok [.pl (.str n)] ⟨S++X,t⟩))(hn:n∈keys):j7 a m s=some (.ok (.pl (.int (g n))) ⟨S++X.set k (dt (PL (bF keys n) g)),t⟩):=by
 unfold j7;rw[dC h];simp only[mE,apk hk,if_true];rw[dC h1];unfold v5;dsimp only[keyOf,Option.bind_some];rw[apk hk];dsimp only;rw[kT,if_pos hn,z8,zaT,yz]
theorem yD(hl:keys.length<64):j8 [PL keys g]=some (TD (du keys),true):=by
 show(lb ((plL keys g).map (·.1))).bind _=_
 rw[z7,kJ,zai,bg hl]
theorem EC(h : ρ[i]?=some (.fz (TD l))):IE (mCB iO (aF (ai i) a9)) ρ (l.length:Int):=zT (.inl h)
theorem Mj{l:List Str}(hl : 0<l.length)(v:Int):∃n∈l,L2.atI (l.map PyData.str) (v%(l.length:Int))=some (.str n):=by
 have m1:=Int.emod_nonneg v (show(l.length:Int)≠0 by omega)
 have m2:=Int.emod_lt_of_pos v (show(0:Int)<(l.length:Int) by omega)
 obtain⟨j,hj⟩:∃j:Nat,(j:Int)=v%(l.length:Int):=⟨(v%(l.length:Int)).toNat,by omega⟩
 have lj:j<l.length:=by omega
 refine⟨l[j],List.getElem_mem lj,?_⟩;rw[<-hj];exact Mir.vJ (by rw[zao,zaC lj];rfl)
abbrev md(a b:Nat)(pl:SV)(k cell:Int)(x4 x5 x6:Option SV):List (Option SV):=[some (.tp [.lc a,.lc b]),some pl,some (.pl (.int k)),some (.pl (.int cell)),x4,x5,x6]
theorem KI(hne:keys≠[])(hl:keys.length<=1000)(h1:(vw s)[1]?=some (.fz (PL keys (kf row)))):∃n,Lst row keys n/\nO (mOp gIx (mCB rW (aF (qf [("_law_plain",1)] (gJ 1) jo gR) a9)) (mC (.int 1))) s=some (.ok (.pl (.str n)) s):=by
 obtain⟨n,hn,em⟩:=G3 (row:=row) hne;refine⟨n,hn,?_⟩;have hd:bh (vw s) 1=.fz (PL keys (kf row)):=by unfold bh;rw[h1]
 have cmp:=Mir.fU (e:=gR) (ρn:=[.fz (PL keys (kf row))]) (f:=PyData.str) (g:=λt=>PyData.tuple [.int (row t).key,.str t]) keys λx hx=>⟨[.fz (.str x),.fz (PL keys (kf row))],aj (jw (rs:=[(.int (row x).key,.fz),(.str x,.fz)]) (aJ (aj (bD (r:=(.str x,.fz)) (res:=(.int (row x).key,false)) (aj (az rfl)) (aj (az rfl)) (Eu hx))) (aJ (aj (az rfl)) a8)) rfl (by simp))⟩
 exact gy (bD (r:=(.int 1,.fz)) (res:=(.str n,false)) (aj (d7 (rs:=[(.list (keys.map λt=>PyData.tuple [.int (row t).key,.str t]),.fz)]) (res:=(.tuple [.int (row n).key,.str n],false)) (aJ (jt (z9 (fr:=[("_law_plain",1)]) (by unfold gJ;rw[h1]) (uG _) (by show gp jo gR [bh (vw s) 1] _=_;rw[hd];exact cmp) (by rw[zal];omega))) a8) em)) (aj rfl) rfl) rfl
structure Made(c:Nat)(S X:List (Option Cl))(f0 f1 e:Nat)(T K:List Str)(R:Str->aL.Row):Prop where
 g0:(S++X)[f0]?=some (dt (TD T))
 g1:(S++X)[f1]?=some (dt (HD K R))
 g2:(S++X)[e]?=some (dt (PL K (kf R)))
 bk:Bk c T K R
 fm:Fm K R
theorem Hf(hc:c<60)(h:Bk c aq keys row)(f:Fm keys row)(ha:S[a]?=some (dt (TD aq)))(hb:S[b]?=some (dt (HD keys row)))(hp:S[p]?=some (dt (PL keys (kf row))))(cell:Int) :
  ∃X f0 f1 e T K R,jA S [.tp [.lc a,.lc b],.lc p,.pl (.int (c:Int)),.pl (.int cell)]=some (.ok (.tp [.tp [.lc f0,.lc f1],.lc e]) (S++X))/\Made (c+1) S X f0 f1 e T K R:=by
 have kl:=h.kl;have tl:=h.tl;have ga:∀{x:Nat} {d:D} {Y:List (Option Cl)},S[x]?=some (dt d)->(S++Y)[x]?=some (dt d):=λe=>bJ e
 obtain⟨q,hq⟩:∃q,q=cell/6:=⟨_,rfl⟩;have hd:∀{u:SN} {o:Option fN},u ⟨S++[dt (PL keys (kf row))],md a b (.lc (S.length+0)) (c:Int) cell (some (.pl (.int q))) none none⟩=o->bA (cD (nO (mOp iN (ai 3) (mC (.int 6)))) (ngN 4)) (bA (cD (nO (mCB eK (aF (ai 1) a9))) (ngN 1)) u) ⟨S,md a b (.lc p) (c:Int) cell none none none⟩=o:=fun{u o} hu=>by
  refine aI (s':=⟨S,md a b (.lc p) (c:Int) cell (some (.pl (.int q))) none none⟩) (bW (i:=4) (mQ (IE.is (pX (eY (bY rfl)) cZ ⟨by decide,by decide⟩) hq.symm)) (by simp)) ?_
  have nn:=mW (S:=S) (X:=[]) (t:=md a b (.lc p) (c:Int) cell (some (.pl (.int q))) none none) (m:=mCB eK (aF (ai 1) a9)) (d7 (rs:=[(PL keys (kf row),.fz)]) (res:=(PL keys (kf row),true)) (aJ (aj (az (br rfl (cz (ga hp))))) a8) rfl) (uF _ _);rw[zaR]at nn;exact aI (bW (i:=1) nn (by simp)) hu
 have tE:∀{b1:Bool},decide (keys=[]\/cell%6<2)=b1->nTo (mOr (bc (mOp wk (ai 1) k9)) (bc (mOp gLt (mOp eI (ai 3) (mC (.int 6))) (mC (.int 2))))) ⟨S++[dt (PL keys (kf row))],md a b (.lc (S.length+0)) (c:Int) cell (some (.pl (.int q))) none none⟩=some (.ok b1 ⟨S++[dt (PL keys (kf row))],md a b (.lc (S.length+0)) (c:Int) cell (some (.pl (.int q))) none none⟩):=fun{b1} hb1=>by
  refine cV (ρ:=vw ⟨S++[dt (PL keys (kf row))],md a b (.lc (S.length+0)) (c:Int) cell (some (.pl (.int q))) none none⟩) ?_;have t0:bc (mOp wk (ai 1) k9) (vw ⟨S++[dt (PL keys (kf row))],md a b (.lc (S.length+0)) (c:Int) cell (some (.pl (.int q))) none none⟩)=some (keys.isEmpty,vw ⟨S++[dt (PL keys (kf row))],md a b (.lc (S.length+0)) (c:Int) cell (some (.pl (.int q))) none none⟩):=test_ev (k:=.fz) (bD (r:=(.dict [],.fz)) (res:=(.bool keys.isEmpty,false)) (aj (az (br rfl (cz (apk (k:=0) rfl))))) (jt rfl) (by
   show some (PyData.bool (plL keys (kf row)).isEmpty,false)=_;cases keys<;>rfl))
  by_cases z:keys=[]
  ·rw[show keys.isEmpty=true by rw[z];rfl]at t0
   rw[<-hb1,zaH (.inl z)];exact JC t0
  ·rw[show keys.isEmpty=false by cases keys with|nil=>exact absurd rfl z|cons _ _=>rfl]at t0
   refine xG t0 (pY (zr (ic (eY (bY rfl)) cZ (by decide)) cZ) ?_)
   rw[<-hb1]
   by_cases y:cell%6<2
   ·rw[zaH y,zaH (.inr y)]
   ·rw[zaO y,zaO (λw=>w.elim z y)]
 by_cases c1:keys=[]\/cell%6<2
 ·obtain⟨v,hv⟩:=key_is q
  obtain⟨hnk,hB⟩:=Bk.new (by omega:c<130) h v
  have en:∀{Y:List (Option Cl)} {x:SV},nO (cb dR (aF (ai 2) a9)) ⟨S++Y,md a b x (c:Int) cell (some (.pl (.int q))) none none⟩=some (.ok (.pl (.str (aN c))) ⟨S++Y,md a b x (c:Int) cell (some (.pl (.int q))) none none⟩):=fun{Y x}=>gy (b8 (rs:=[(.int (c:Int),.fz)]) (CS (eY (bY rfl)) a8) (GJ c) rfl) rfl
  have ek:∀{Y:List (Option Cl)} {x:SV},nO (cb eD (aF (ai 4) a9)) ⟨S++Y,md a b x (c:Int) cell (some (.pl (.int q))) none none⟩=some (.ok (.pl (.int v)) ⟨S++Y,md a b x (c:Int) cell (some (.pl (.int q))) none none⟩):=fun{Y x}=>mQ (tF (rs:=[(.int q,.fz)]) (CS (eY (bY rfl)) a8) hv)
  refine⟨[dt (PL (keys++[aN c]) (kf (aX row (aN c) ⟨v,none,false,[]⟩))),dt (TD (aq++[aN c])),dt (HD (keys++[aN c]) (aX row (aN c) ⟨v,none,false,[]⟩))],S.length+1,S.length+2,S.length+0,_,_,_,?_,⟨apk (k:=1) rfl,apk (k:=2) rfl,apk (k:=0) rfl,hB,f.new h.ab hnk v⟩⟩;refine e8 (t':=md a b (.lc (S.length+0)) (c:Int) cell (some (.pl (.int q))) none none) rfl (hd (kR (ku (tE (zaH c1)) ?_))) (by simp[blV,fM])
  refine aI (s':=⟨S++[dt (PL (keys++[aN c]) (kf (aX row (aN c) ⟨v,none,false,[]⟩)))],md a b (.lc (S.length+0)) (c:Int) cell (some (.pl (.int q))) none none⟩) (wO (j:=0) (keys:=keys) (g:=kf row) ek (ao rfl) en rfl (by omega) (by rw[lN _ _ _ _ hnk,<-EB row (aN c) ⟨v,none,false,[]⟩])) ?_
  exact de (cw (xs:=[.tp [.lc (S.length+1),.lc (S.length+2)],.lc (S.length+0)]) (aA (BB (X:=[dt (PL (keys++[aN c]) (kf (aX row (aN c) ⟨v,none,false,[]⟩)))]) (xs:=[.tp [.lc a,.lc b],.pl (.str (aN c)),.pl (.int v)]) (ds:=[PD aq keys row,.str (aN c),.int v]) (aA (ao rfl) (aA en (aA ek bC))) (by simp only[gF,cY (ga ha) (ga hb),Ik,Option.bind_some,Option.map_some]) (KC (wN (by omega)) hnk (by omega) (by omega)) (gT _) (jC _ _)) (aA (ao rfl) bC)) rfl (by simp))
 ·have hne:keys≠[]:=λz=>c1 (.inl z)
  have c2 : ¬cell%6<2:=λz=>c1 (.inr z)
  have sl:(du keys).length=keys.length:=rY keys;have kp : 0<keys.length:=List.length_pos_iff.mpr hne;obtain⟨n,hns,en⟩:=Mj (l:=du keys) (by omega) q
  have hn:n∈keys:=(lI keys).mem_iff.mp hns;have hd2:∀{u:SN} {o:Option fN},u ⟨S++[dt (PL keys (kf row)),dt (TD (du keys))],md a b (.lc (S.length+0)) (c:Int) cell (some (.pl (.int q))) (some (.lc (S.length+1))) (some (.pl (.str n)))⟩=o->bA (cD (nO (mCB j8 (aF (ai 1) a9))) (ngN 5)) (bA (cD (nIx (aS 5) (nO (mOp eI (ai 4) (mCB iO (aF (ai 5) a9))))) (ngN 6)) u) ⟨S++[dt (PL keys (kf row))],md a b (.lc (S.length+0)) (c:Int) cell (some (.pl (.int q))) none none⟩=o:=fun{u o} hu=>by
   refine aI (s':=⟨S++[dt (PL keys (kf row)),dt (TD (du keys))],md a b (.lc (S.length+0)) (c:Int) cell (some (.pl (.int q))) (some (.lc (S.length+1))) none⟩) (bW (i:=5) (s':=⟨S++[dt (PL keys (kf row)),dt (TD (du keys))],md a b (.lc (S.length+0)) (c:Int) cell (some (.pl (.int q))) none none⟩) (mW (X:=[dt (PL keys (kf row))]) (d7 (rs:=[(PL keys (kf row),.fz)]) (res:=(TD (du keys),true)) (aJ (aj (az (br rfl (cz (apk (k:=0) rfl))))) a8) (yD (by omega))) (gT _)) (by simp)) ?_
   refine aI (bW (i:=6) (cL (i:=q%((du keys).length:Int)) (ao rfl) (mQ (ic (eY (bY rfl)) (EC (br rfl (cz (apk (k:=1) rfl)))) (by omega))) (show ixV _ (.lc (S.length+1)) _=some (.pl (.str n))from by
    simp only[ixV,apk (S:=S) (X:=[dt (PL keys (kf row)),dt (TD (du keys))]) (k:=1) (a:=dt (TD (du keys))) rfl,en,zaT])) (by simp)) hu
  have e6:∀{Y:List (Option Cl)} {x:SV} {x5 x6:Option SV},IE (mOp eI (ai 3) (mC (.int 6))) (vw ⟨S++Y,md a b x (c:Int) cell (some (.pl (.int q))) x5 x6⟩) (cell%6):=fun{Y x x5 x6}=>ic (eY (bY rfl)) cZ (by decide)
  have st:∀{o:Option FR} {r:SV} {Z:List (Option Cl)} {t':List (Option SV)} {u:SN},True:=trivial
  by_cases c3:cell%6=2
  ·obtain⟨m,hl,em⟩:=KI (row:=row) (s:=⟨S++[dt (PL keys (kf row)),dt (TD (du keys))],md a b (.lc (S.length+0)) (c:Int) cell (some (.pl (.int q))) (some (.lc (S.length+1))) (some (.pl (.str n)))⟩) hne (by omega) (br rfl (cz (apk (k:=0) rfl)))
   have hm:m∈aq:=hl.top h λ_ _=>rfl
   obtain⟨sts,T,aY,X,r1,r2,r3,r4,hs,_⟩:=Em (by omega) h f (n:=m) ⟨hm,λx hx=>hl.2 x (h.tk x hx).1⟩ (S:=S++[dt (PL (bF keys m) (kf row)),dt (TD (du keys))]) (p:=a) (q:=b) (ga ha) (ga hb)
   obtain⟨i1,i2,_⟩:=qy h f hm;obtain⟨hT,hFT⟩:=hs.inv i1 i2;have ek:PL (bF keys m) (kf row)=PL (bF keys m) (kf aY):=congrArg PyData.dict (jh λx _=>by show(row x).key=(aY x).key;rw[hs.Mi x,(gh (row:=row) _ x).1])
   refine⟨[dt (PL (bF keys m) (kf row)),dt (TD (du keys))]++X,_,_,S.length+0,T,bF keys m,aY,?_,⟨by rw[<-zaD];exact r2,by rw[<-zaD];exact r3,by rw[<-ek];exact apk (k:=0) rfl,hT.more (Nat.le_succ c),hFT⟩⟩
   rw[<-zaD];refine e8 (t':=md a b (.lc (S.length+0)) (c:Int) cell (some (.pl (.int q))) (some (.lc (S.length+1))) (some (.pl (.str n)))) rfl (hd (aI (gx (tE (zaO c1)) rfl) (hd2 (kR (ku (cV (tEq e6 cZ c3)) ?_))))) (by simp[blV,fM])
   refine aI (s':=⟨S++[dt (PL (bF keys m) (kf row)),dt (TD (du keys))],md a b (.lc (S.length+0)) (c:Int) cell (some (.pl (.int q))) (some (.lc (S.length+1))) (some (.pl (.str n)))⟩) (eN (wQ (k:=0) (keys:=keys) (g:=kf row) (ao rfl) rfl (aA em bC) hl.1)) ?_;exact de (cw (aA (cL (cU (aA (ao rfl) bC) r1) fI rfl) (aA (ao rfl) bC)) rfl (by simp))
  by_cases c4:cell%6=3
  ·obtain⟨X,f0,f1,f2,C,sG,qA,sts,T,aY,P⟩:=KH (by omega) h f hn (S:=S++[dt (PL (bF keys n) (kf row)),dt (TD (du keys))]) (p:=a) (q:=b) (ga ha) (ga hb)
   obtain⟨i1,i2,_⟩:=qy P.bk P.fm P.nt;obtain⟨hT,hFT⟩:=P.hs.inv i1 i2;have ek:PL (bF keys n) (kf row)=PL (bF keys n) (kf aY):=congrArg PyData.dict (jh λx _=>by show(row x).key=(aY x).key;rw[P.hs.Mi x,(gh (row:=qA) _ x).1,P.kc x])
   refine⟨[dt (PL (bF keys n) (kf row)),dt (TD (du keys))]++X,f0,f1,S.length+0,T,bF keys n,aY,?_,⟨by rw[<-zaD];exact P.g0,by rw[<-zaD];exact P.g1,by rw[<-ek];exact apk (k:=0) rfl,hT.more (Nat.le_succ c),hFT⟩⟩
   rw[<-zaD];have l0:=P.l0;rw[zau]at l0;refine e8 (t':=md a b (.lc (S.length+0)) (c:Int) cell (some (.pl (.int q))) (some (.lc (S.length+1))) (some (.pl (.str n)))) rfl (hd (aI (gx (tE (zaO c1)) rfl) (hd2 (aI (gx (cV (tNe e6 cZ c3)) rfl) (kR (ku (cV (tEq e6 cZ c4)) ?_)))))) (by simp[blV,fM])
   refine aI (s':=⟨S++[dt (PL (bF keys n) (kf row)),dt (TD (du keys))],md a b (.lc (S.length+0)) (c:Int) cell (some (.pl (.int q))) (some (.lc (S.length+1))) (some (.pl (.str n)))⟩) (eN (wQ (k:=0) (keys:=keys) (g:=kf row) (ao rfl) rfl (aA (ao rfl) bC) hn)) ?_;exact de (cw (aA (cL (cU (aA (ao rfl) (aA (ao rfl) bC)) P.run) fI rfl) (aA (ao rfl) bC)) rfl (by simp))
  ·obtain⟨k,hk⟩:∃k:Int,k=(row n).key-1-q%(10:Int)^(20:Int).toNat:=⟨_,rfl⟩
   have kn:k<(row n).key:=by
    have:=Int.emod_nonneg q (show(10:Int)^(20:Int).toNat≠0 by decide)
    omega
   obtain⟨X,f0,f1,f2,T,aY,r1,r2,r3,l0,hT,hFT,hk'⟩:=Ha (by omega) h f hn kn (S:=S++[dt (PL keys (gW (kf row) n k)),dt (TD (du keys))]) (a:=a) (b:=b) (ga ha) (ga hb)
   have ek:PL keys (gW (kf row) n k)=PL keys (kf aY):=congrArg PyData.dict (jh λx _=>by show gW (kf row) n k x=(aY x).key;rw[hk' x];rfl)
   refine⟨[dt (PL keys (gW (kf row) n k)),dt (TD (du keys))]++X,f0,f1,S.length+0,T,keys,aY,?_,⟨by rw[<-zaD];exact r2,by rw[<-zaD];exact r3,by rw[<-ek];exact apk (k:=0) rfl,hT.more (Nat.le_succ c),hFT⟩⟩
   rw[<-zaD];rw[zau]at l0;refine e8 (t':=md a b (.lc (S.length+0)) (c:Int) cell (some (.pl (.int q))) (some (.lc (S.length+1))) (some (.pl (.str n)))) rfl (hd (aI (gx (tE (zaO c1)) rfl) (hd2 (aI (gx (cV (tNe e6 cZ c3)) rfl) (aI (gx (cV (tNe e6 cZ c4)) rfl) ?_))))) (by simp[blV,fM])
   refine aI (s':=⟨S++[dt (PL keys (gW (kf row) n k)),dt (TD (du keys))],md a b (.lc (S.length+0)) (c:Int) cell (some (.pl (.int q))) (some (.lc (S.length+1))) (some (.pl (.str n)))⟩) (wO (j:=0) (keys:=keys) (g:=kf row) (w:=k) (mQ (IE.is (pW (pW (bD (r:=(.str n,.fz)) (res:=(.int (row n).key,false)) (aj (az (br rfl (cz (apk (k:=0) rfl))))) (aj (az (bY rfl))) (Eu hn)) cZ) (ic (eY (bY rfl)) (CQ cZ cZ ⟨by decide,by decide,by decide⟩) (by decide))) hk.symm)) (ao rfl) (ao rfl) rfl (by omega) (yB _ _ _ _ hn)) ?_
   exact de (cw (aA (cL (cU (aA (ao rfl) (aA (ao rfl) (aA (mQ (bD (r:=(.str n,.fz)) (res:=(.int k,false)) (aj (az (br rfl (cz (apk (k:=0) rfl))))) (aj (az (bY rfl))) (by rw[Eu hn];unfold gW;rw[if_pos rfl]))) bC))) r1) fI rfl) (aA (ao rfl) bC)) rfl (by simp))
def Itm(c:Nat)(S:List (Option Cl))(x:SV):Prop:=∃a b d f e T K R,x=.tp [.tp [.lc a,.lc b],.tp [.lc d,.lc f],.lc e]/\S[a]?=some (dt (TD T))/\S[b]?=some (dt (HD K R))/\S[d]?=some (dt (TD T))/\S[f]?=some (dt (HD K R))/\S[e]?=some (dt (PL K (kf R)))/\Bk c T K R/\Fm K R
theorem Itm.to(h:Itm c S x)(hc:c<=c')(hs:∀(i:Nat) (d:D),S[i]?=some (dt d)->S'[i]?=some (dt d)):Itm c' S' x:=by
 obtain⟨a,b,d,f,e,T,K,R,rfl,h1,h2,h3,h4,h5,h6,h7⟩:=h;exact⟨a,b,d,f,e,T,K,R,rfl,hs _ _ h1,hs _ _ h2,hs _ _ h3,hs _ _ h4,hs _ _ h5,h6.more hc,h7⟩
def IvL(c:Nat)(S:List (Option Cl))(L:Nat):Prop:=∃xs,S[L]?=some (some (.lst xs))/\0<xs.length/\xs.length<=c+1/\∀x∈xs,Itm c S x
theorem IvL.next(h:IvL c S L):IvL (c+1) S L:=by
 obtain⟨xs,h1,h2,h3,h4⟩:=h;exact⟨xs,h1,h2,by omega,λx hx=>(h4 x hx).to (Nat.le_succ c) λ_ _ e=>e⟩
theorem wR{n:Nat}:∀{xs:List SV},fM n xs=true->∀x∈xs,blV n x=true
 | [],_,x,hx=>by cases hx
 |y::xs,h,x,hx=>by
  rw[fM,Bool.and_eq_true]at h;rcases zaf hx with rfl|hx
  ·exact h.1
  ·exact wR h.2 x hx
theorem IvL.gc{c n L:Nat}{kp:List Nat}{S:List (Option Cl)}{t:List (Option SV)}(h:IvL c S L)(hL:L<n):IvL c (gcE n kp ⟨S,t⟩).S L:=by
 unfold gcE;split
 ·rename_i hz
  rw[Bool.and_eq_true]at hz;obtain⟨xs,h1,h2,h3,h4⟩:=h;have lL:=fJ h1;have bl:blC n (.lst xs)=true:=nM hz.1 (List.mem_iff_getElem?.mpr ⟨L,by rw[List.getElem?_take,if_pos hL];exact h1⟩)
  refine⟨xs,?_,h2,h3,λx hx=>?_⟩
  ·show(gcS n S)[L]?=_
   unfold gcS;rw[zao,List.getElem?_take,if_pos hL,h1,zaT,um λd e=>by cases e;exact bl]
  ·have bx:=wR (show fM n xs=true from bl) x hx
   obtain⟨a,b,d,f,e,T,K,R,rfl,g1,g2,g3,g4,g5,g6,g7⟩:=h4 x hx;simp only[blV,fM,Bool.and_true,Bool.and_eq_true,decide_eq_true_eq]at bx;obtain⟨⟨b1,b2⟩,⟨b3,b4⟩,b5⟩:=bx;exact⟨a,b,d,f,e,T,K,R,rfl,mV b1 g1,mV b2 g2,mV b3 g3,mV b4 g4,mV b5 g5,g6,g7⟩
 ·exact h
theorem Ml{n L:Nat}{kp:List Nat}{S:List (Option Cl)}{X:D}{rest:List (Option SV)}(hL:L<n):∃rest',rest'.length=rest.length/\(gcE n kp ⟨S,some (.pl X)::some (.lc L)::rest⟩).t=some (.pl X)::some (.lc L)::rest':=by
 unfold gcE;split
 ·refine⟨rest.map (gcV n),zal _,?_⟩
  show gcV n (some (.pl X))::gcV n (some (.lc L))::rest.map (gcV n)=_;rw[uo λy e=>by cases e;rfl,uo λy e=>by cases e;exact zaH hL]
 ·exact⟨rest,rfl,rfl⟩
theorem KJ(h1:Bk C t1 k1 r1)(h2:Bk C t2 k2 r2)(f1:Fm k1 r1)(f2:Fm k2 r2)(dj:Dj k1 k2):Fm (k1++k2) (mrg k1 r1 r2):=by
 have e1:∀{n:Str},n∈k1->mrg k1 r1 r2 n=r1 n:=λh=>uA h
 have e2:∀{n:Str},n∈k2->mrg k1 r1 r2 n=r2 n:=λh=>o8 (dj _ h)
 refine⟨λn hn=>?_,λn hn b hb=>?_,λm hm a ha=>?_,λn hn i b e=>?_⟩
 ·rcases zae hn with z|z
  ·rw[e1 z];exact f1.nd n z
  ·rw[e2 z];exact f2.nd n z
 ·rcases zae hn with z|z
  ·rw[e1 z]at hb
   obtain⟨y1,y2⟩:=f1.up n z b hb;exact⟨zaW _ y1,by rw[e1 y1];exact y2⟩
  ·rw[e2 z]at hb
   obtain⟨y1,y2⟩:=f2.up n z b hb;exact⟨zan _ y1,by rw[e2 y1];exact y2⟩
 ·rcases zae hm with z|z
  ·rw[e1 z]at ha
   rw[e1 (h1.ab m z a ha)];exact f1.dn m z a ha
  ·rw[e2 z]at ha
   rw[e2 (h2.ab m z a ha)];exact f2.dn m z a ha
 ·rcases zae hn with z|z
  ·rw[e1 z]at e
   rw[e1 (f1.up n z b (zaj e)).1];exact f1.dg n z i b e
  ·rw[e2 z]at e
   rw[e2 (f2.up n z b (zaj e)).1];exact f2.dg n z i b e
abbrev lz(X:D)(L:Nat)(k cell:Int)(x4 x5 x6 x7 x8 x9 x10 x11 x12:Option SV):List (Option SV):=[some (.pl X),some (.lc L),some (.pl (.int k)),some (.pl (.int cell)),x4,x5,x6,x7,x8,x9,x10,x11,x12]
theorem Hg(h0:S[f0]?=some (dt (TD aq)))(h1:S[f1]?=some (dt (HD keys row))):ir S [.tp [.lc f0,.lc f1]]=some (.ok (.tp [.lc (S.length+0),.lc (S.length+1)]) (S++[dt (TD aq),dt (HD keys row)])):=by
 refine e8 (t':=[some (.tp [.lc f0,.lc f1])]) rfl ?_ (by simp[blV,fM])
 have rp:∀{Y:List (Option Cl)},rdV (S++Y) (.tp [.lc f0,.lc f1])=some (PD aq keys row):=fun{Y}=>cY (bJ h0) (bJ h1)
 have n0:=mW (S:=S) (X:=[]) (t:=[some (.tp [.lc f0,.lc f1])]) (m:=mCB vD (aF (mOp gIx (ai 0) (mC (.int 0))) a9)) (d7 (rs:=[(TD aq,.fz)]) (res:=(TD aq,true)) (aJ (aj (lu (keys:=keys) (row:=row) (br rfl rp))) a8) rfl) (gT _);have n1:=mW (S:=S) (X:=[dt (TD aq)]) (t:=[some (.tp [.lc f0,.lc f1])]) (m:=mCB eK (aF (mOp gIx (ai 0) (mC (.int 1))) a9)) (d7 (rs:=[(HD keys row,.fz)]) (res:=(HD keys row,true)) (aJ (aj (gw (aq:=aq) (br rfl rp))) a8) rfl) (jC _ _);rw[zaR]at n0;exact de (cw (xs:=[.lc (S.length+0),.lc (S.length+1)]) (aA n0 (aA n1 bC)) rfl (by simp))
theorem Aa(hc:c<60)(h:IvL c S L)(M:Made (c+1) S X f0 f1 e T K R) :
  ∃S2,(iA (nTo (bc (mOp js (ai 11) (mC .none)))) (bA (iA (nTo (bc (mOp DU (cb iq (aF (ai 11) a9)) (ai 12)))) (ik (nLit (.bool false))) gq) (gH (qR (aS 1) (ar (d9 (ar (aS 11) (ar (fg ir (ar (aS 11) aZ)) (ar (aS 12) aZ)))) aZ)))) gq) ⟨S++X,lz Xd L k cell x4 x5 x6 x7 x8 x9 x10 (some (.tp [.lc f0,.lc f1])) (some (.lc e))⟩=some (.nx ⟨S2,lz Xd L k cell x4 x5 x6 x7 x8 x9 x10 (some (.tp [.lc f0,.lc f1])) (some (.lc e))⟩)/\IvL (c+1) S2 L:=by
 obtain⟨xs,h1,h2,h3,h4⟩:=h;have kl:=M.bk.kl;have v11:(vw ⟨S++X,lz Xd L k cell x4 x5 x6 x7 x8 x9 x10 (some (.tp [.lc f0,.lc f1])) (some (.lc e))⟩)[11]?=some (.fz (PD T K R)):=br rfl (cY M.g0 M.g1);have v12:(vw ⟨S++X,lz Xd L k cell x4 x5 x6 x7 x8 x9 x10 (some (.tp [.lc f0,.lc f1])) (some (.lc e))⟩)[12]?=some (.fz (PL K (kf R))):=br rfl (cz M.g2);have gL:(S++X)[L]?=some (some (.lst xs)):=bJ h1;have cp:=Hg M.g0 M.g1;obtain⟨Z,hZ⟩:∃Z,Z=S++X:=⟨_,rfl⟩;obtain⟨M0,M1,M2,M3,M4⟩:=M;rw[<-hZ]at v11 v12 gL cp M0 M1 M2⊢;have ne:∀(i:Nat) (d:D),(Z++[dt (TD T),dt (HD K R)])[i]?=some (dt d)->i≠L:=λi d e1 e2=>by
  rw[e2,bJ gL]at e1;cases e1
 have st:∀(i:Nat) (d:D),Z[i]?=some (dt d)->((Z++[dt (TD T),dt (HD K R)]).set L (some (.lst (xs++[.tp [.tp [.lc f0,.lc f1],.tp [.lc (Z.length+0),.lc (Z.length+1)],.lc e]]))))[i]?=some (dt d):=λi d e1=>by
  rw[nN (ne i d (bJ e1))];exact bJ e1
 refine⟨(Z++[dt (TD T),dt (HD K R)]).set L (some (.lst (xs++[.tp [.tp [.lc f0,.lc f1],.tp [.lc (Z.length+0),.lc (Z.length+1)],.lc e]]))),?_,xs++[.tp [.tp [.lc f0,.lc f1],.tp [.lc (Z.length+0),.lc (Z.length+1)],.lc e]],zav (fJ (bJ gL)),by simp,by simp;omega,λx hx=>?_⟩
 ·refine ku (cV (test_ev (k:=.fz) (bD (r:=(.none,.fz)) (res:=(.bool true,false)) (aj (az v11)) (aj rfl) rfl))) ?_
  refine aI (gx (cV (test_ev (k:=.fz) (bD (r:=(PL K (kf R),.fz)) (res:=(.bool false,false)) (jt (b8 (rs:=[(PD T K R,.fz)]) (aJ (aj (az v11)) a8) (yC M3.nd (by omega)) (uF _ _))) (aj (az v12)) (Ew _ _)))) rfl) ?_
  exact eN (Mg (ys:=xs) (ys0:=xs) (s2:=⟨Z++[dt (TD T),dt (HD K R)],lz Xd L k cell x4 x5 x6 x7 x8 x9 x10 (some (.tp [.lc f0,.lc f1])) (some (.lc e))⟩) (ao rfl) gL (aA (cw (xs:=[.tp [.lc f0,.lc f1],.tp [.lc (Z.length+0),.lc (Z.length+1)],.lc e]) (aA (ao rfl) (aA (cU (aA (ao rfl) bC) cp) (aA (ao rfl) bC))) rfl (by simp)) bC) (bJ gL) (by omega))
 ·rcases zae hx with hx|hx
  ·exact(h4 x hx).to (Nat.le_succ c) λi d e1=>st i d (by rw[hZ];exact bJ e1)
  ·rw[zad hx]
   refine⟨f0,f1,Z.length+0,Z.length+1,e,T,K,R,rfl,st _ _ M0,st _ _ M1,?_,?_,st _ _ M2,M3,M4⟩
   ·rw[nN (ne (Z.length+0) (TD T) (apk rfl))];exact apk rfl
   ·rw[nN (ne (Z.length+1) (HD K R) (apk rfl))];exact apk rfl
theorem Mm{xs:List SV}(hl : 0<xs.length)(v:Int):∃x∈xs,L2.atI xs (v%(xs.length:Int))=some x:=by
 have m1:=Int.emod_nonneg v (show(xs.length:Int)≠0 by omega)
 have m2:=Int.emod_lt_of_pos v (show(0:Int)<(xs.length:Int) by omega)
 obtain⟨j,hj⟩:∃j:Nat,(j:Int)=v%(xs.length:Int):=⟨(v%(xs.length:Int)).toNat,by omega⟩
 have lj:j<xs.length:=by omega
 refine⟨xs[j],List.getElem_mem lj,?_⟩;rw[<-hj];exact Mir.vJ (zaC lj)
theorem wU(h:i<s.t.length):bI i gs (x::xs) s=gs xs ⟨s.S,s.t.set i (some x)⟩:=if_pos h
theorem uH(h:a s=some (.ok (.tp [x,y,z]) s'))(hi:i<s'.t.length)(hj:j<s'.t.length)(hk:k<s'.t.length):cD a (ngT 3 (bI i (bI j (bI k il)))) s=some (.nx ⟨s'.S,((s'.t.set i (some x)).set j (some y)).set k (some z)⟩):=by
 unfold cD;rw[fH h];unfold ngT;rw[show oK s'.S (.tp [x,y,z])=some [x,y,z]from rfl,zai,if_pos (show([x,y,z]:List SV).length=3 from rfl)];rw[wU hi,wU (by rw[zaM];exact hj),wU (by rw[zaM,zaM];exact hk)]
 rfl
theorem KL(h:a s=some (.ok (.tp [x,y]) s'))(hi:i<s'.t.length)(hj:j<s'.t.length):cD a (ngT 2 (bI i (bI j il))) s=some (.nx ⟨s'.S,(s'.t.set i (some x)).set j (some y)⟩):=by
 unfold cD;rw[fH h];unfold ngT;rw[show oK s'.S (.tp [x,y])=some [x,y]from rfl,zai,if_pos (show([x,y]:List SV).length=2 from rfl)];rw[wU hi,wU (by rw[zaM];exact hj)]
 rfl
theorem KN(h : 0<j):eI (.int i) (.int j)=some (.int (i%j),false):=zp (C:=λ_ j=>0<j) h
theorem Ab(h1:S[L]?=some (some (.lst xs)))(h2 : 0<xs.length)(hw:ER cell w):∃x∈xs,nIx (aS 1) (nOp eI (nO (mOp iN (ai 3) (mC (.int w)))) (qj (ar (aS 1) aZ))) ⟨S,lz X L k cell x4 x5 x6 x7 x8 x9 x10 x11 x12⟩=some (.ok x ⟨S,lz X L k cell x4 x5 x6 x7 x8 x9 x10 x11 x12⟩):=by
 obtain⟨x,hx,ex⟩:=Mm h2 (cell/w);refine⟨x,hx,cL (i:=cell/w%(xs.length:Int)) (ao rfl) (Kw (c:=.int (cell/w)) (d:=.int (xs.length:Int)) (mQ (pX (eY (bY rfl)) cZ hw)) (y:=.pl (.int (xs.length:Int))) ?_ Il Il (KN (by omega))) (by simp only[ixV,h1];exact ex)⟩
 unfold qj;rw[dC (aA (ao rfl) bC)];dsimp only;rw[show lenV S (.lc L)=some xs.length by simp only[lenV,h1]]
 rfl
theorem Hh(hc:c<59)(h:IvL c S L) :
  ∃S2 y4 y5 y6 y7 y8 y9 y10 y11 y12,ue ⟨S,lz X L (c:Int) cell x4 x5 x6 x7 x8 x9 x10 x11 x12⟩=some (.nx ⟨S2,lz X L (c:Int) cell y4 y5 y6 y7 y8 y9 y10 y11 y12⟩)/\IvL (c+1) S2 L:=by
 obtain⟨xs,h1,h2,h3,h4⟩:=id h;obtain⟨x,hx,ex⟩:=Ab (X:=X) (k:=(c:Int)) (cell:=cell) (w:=7) (x4:=x4) (x5:=x5) (x6:=x6) (x7:=x7) (x8:=x8) (x9:=x9) (x10:=x10) (x11:=x11) (x12:=x12) h1 h2 ⟨by decide,by decide⟩
 obtain⟨a,b,d,f,e,T,K,R,rfl,g1,g2,g3,g4,g5,g6,g7⟩:=h4 x hx;obtain⟨y,hy,ey⟩:=Ab (X:=X) (k:=(c:Int)) (cell:=cell) (w:=300) (x4:=some (.tp [.lc a,.lc b])) (x5:=some (.tp [.lc d,.lc f])) (x6:=some (.lc e)) (x7:=x7) (x8:=x8) (x9:=x9) (x10:=x10) (x11:=x11) (x12:=x12) h1 h2 ⟨by decide,by decide⟩
 obtain⟨a2,b2,d2,f2,e2,T2,K2,R2,rfl,q1,q2,q3,q4,q5,q6,q7⟩:=h4 y hy;have hd:∀{u:SN} {o:Option fN},u ⟨S,lz X L (c:Int) cell (some (.tp [.lc a,.lc b])) (some (.tp [.lc d,.lc f])) (some (.lc e)) (some (.tp [.lc a2,.lc b2])) (some (.tp [.lc d2,.lc f2])) (some (.lc e2)) x10 x11 x12⟩=o->bA (cD (nIx (aS 1) (nOp eI (nO (mOp iN (ai 3) (mC (.int 7)))) (qj (ar (aS 1) aZ)))) (ngT 3 (bI 4 (bI 5 (bI 6 il))))) (bA (cD (nIx (aS 1) (nOp eI (nO (mOp iN (ai 3) (mC (.int 300)))) (qj (ar (aS 1) aZ)))) (ngT 3 (bI 7 (bI 8 (bI 9 il))))) u) ⟨S,lz X L (c:Int) cell x4 x5 x6 x7 x8 x9 x10 x11 x12⟩=o:=fun{u o} hu=>aI (uH ex (by simp) (by simp) (by simp)) (aI (uH ey (by simp) (by simp) (by simp)) hu)
 have e7:IE (mOp eI (ai 3) (mC (.int 7))) (vw ⟨S,lz X L (c:Int) cell (some (.tp [.lc a,.lc b])) (some (.tp [.lc d,.lc f])) (some (.lc e)) (some (.tp [.lc a2,.lc b2])) (some (.tp [.lc d2,.lc f2])) (some (.lc e2)) x10 x11 x12⟩) (cell%7):=ic (eY (bY rfl)) cZ (by decide)
 by_cases c7:cell%7=6
 ·by_cases cx:∃n∈K2,n∈K
  ·have lp:=Ez (by omega) g6 q6 g1 g2 q1 q2 g5 q5 cx
   refine⟨S,some (.tp [.lc a,.lc b]),some (.tp [.lc d,.lc f]),some (.lc e),some (.tp [.lc a2,.lc b2]),some (.tp [.lc d2,.lc f2]),some (.lc e2),some (.pl (.bool true)),some (.pl .none),some (.lc e),hd (aI (s':=⟨S,lz X L (c:Int) cell (some (.tp [.lc a,.lc b])) (some (.tp [.lc d,.lc f])) (some (.lc e)) (some (.tp [.lc a2,.lc b2])) (some (.tp [.lc d2,.lc f2])) (some (.lc e2)) (some (.pl (.bool true))) (some (.pl .none)) (some (.lc e))⟩) (ku (cV (tEq e7 cZ c7)) (aI (uH (cU (aA (ao rfl) (aA (ao rfl) (aA (ao rfl) (aA (ao rfl) bC)))) lp) (by simp) (by simp) (by simp)) (gx (cV (tD (test_ev (k:=.fz) (v:=true) (az (bY rfl))))) rfl))) (gx (cV (test_ev (k:=.fz) (bD (r:=(.none,.fz)) (res:=(.bool false,false)) (aj (az (bY rfl))) (aj rfl) rfl))) rfl)),h.next⟩
  ·have dj:Dj K K2:=λn hn z=>cx ⟨n,hn,z⟩
   have lp:=EA (by omega) g6 q6 g1 g2 q1 q2 g5 q5 dj
   have M:Made (c+1) S [dt (TD (T++T2)),dt (HD (K++K2) (mrg K R R2)),dt (PL (K++K2) (kf (mrg K R R2)))] (S.length+0) (S.length+1) (S.length+2) (T++T2) (K++K2) (mrg K R R2):=⟨apk rfl,apk rfl,apk rfl,(KD g6 q6 dj).more (Nat.le_succ c),KJ g6 q6 g7 q7 dj⟩;obtain⟨S2,e9,i9⟩:=Aa (Xd:=X) (k:=(c:Int)) (cell:=cell) (x4:=some (.tp [.lc a,.lc b])) (x5:=some (.tp [.lc d,.lc f])) (x6:=some (.lc e)) (x7:=some (.tp [.lc a2,.lc b2])) (x8:=some (.tp [.lc d2,.lc f2])) (x9:=some (.lc e2)) (x10:=some (.pl (.bool true))) (by omega) h M
   exact⟨S2,_,_,_,_,_,_,_,_,_,hd (aI (ku (cV (tEq e7 cZ c7)) (aI (uH (cU (aA (ao rfl) (aA (ao rfl) (aA (ao rfl) (aA (ao rfl) bC)))) lp) (by simp) (by simp) (by simp)) (gx (cV (tD (test_ev (k:=.fz) (v:=true) (az (bY rfl))))) rfl))) e9),i9⟩
 ·obtain⟨Y,f0,f1,e3,T',K',R',r,M⟩:=Hf (by omega:c<60) g6 g7 g1 g2 g5 (cell/301)
  obtain⟨S2,e9,i9⟩:=Aa (Xd:=X) (k:=(c:Int)) (cell:=cell) (x4:=some (.tp [.lc a,.lc b])) (x5:=some (.tp [.lc d,.lc f])) (x6:=some (.lc e)) (x7:=some (.tp [.lc a2,.lc b2])) (x8:=some (.tp [.lc d2,.lc f2])) (x9:=some (.lc e2)) (x10:=x10) (by omega) h M
  exact⟨S2,_,_,_,_,_,_,_,_,_,hd (aI (gx (cV (tNe e7 cZ c7)) (KL (cU (aA (ao rfl) (aA (ao rfl) (aA (ao rfl) (aA (mQ (pX (eY (bY rfl)) cZ ⟨by decide,by decide⟩)) bC)))) r) (by simp) (by simp))) e9),i9⟩
theorem wV{n L:Nat}(hL:L<n)(X:D):∀(cs:List Int) (c:Nat) (S:List (Option Cl)) (rest:List (Option SV)),c+cs.length<=59->rest.length=11->IvL c S L->
  ∃S2 Iq,Iq.length=11/\fO n [0,1] (λ_=>True) (ngT 2 (bI 2 (bI 3 il))) ue (((cs.zipIdx c).map λp:Int×Nat=>PyData.tuple [.int (p.2:Int),.int p.1]).map .pl) ⟨S,some (.pl X)::some (.lc L)::rest⟩=some (.nx ⟨S2,some (.pl X)::some (.lc L)::Iq⟩)/\IvL (c+cs.length) S2 L
 | [],c,S,rest,_,hr,h=>⟨S,rest,hr,wL,h⟩
 |x::cs,c,S,rest,hl,hr,h=>by
  rw[zaw]at hl⊢
  match rest,hr with
  | [x2,x3,x4,x5,x6,x7,x8,x9,x10,x11,x12],_=>
   obtain⟨S2,y4,y5,y6,y7,y8,y9,y10,y11,y12,e1,i1⟩:=Hh (by omega) (X:=X) (cell:=x) (x4:=x4) (x5:=x5) (x6:=x6) (x7:=x7) (x8:=x8) (x9:=x9) (x10:=x10) (x11:=x11) (x12:=x12) h
   obtain⟨rest',hr',et⟩:=Ml (n:=n) (kp:=[0,1]) (S:=S2) (X:=X) (rest:=[some (.pl (.int (c:Int))),some (.pl (.int x)),y4,y5,y6,y7,y8,y9,y10,y11,y12]) hL;have ig:=i1.gc (n:=n) (kp:=[0,1]) (t:=lz X L (c:Int) x y4 y5 y6 y7 y8 y9 y10 y11 y12) hL;obtain⟨S3,Mn,hr3,e3,i3⟩:=wV hL X cs (c+1) _ rest' (by omega) hr' ig
   refine⟨S3,Mn,hr3,?_,by rw[show c+(cs.length+1)=c+1+cs.length by omega];exact i3⟩
   rw[List.zipIdx_cons,zaz,zaz];refine sy (s1:=⟨S,lz X L (c:Int) x x4 x5 x6 x7 x8 x9 x10 x11 x12⟩) rfl e1 rfl (Eq.trans ?_ e3)
   congr 1
   generalize hg:gcE n [0,1] ⟨S2,lz X L (c:Int) x y4 y5 y6 y7 y8 y9 y10 y11 y12⟩=sg;rw[show gcE n [0,1] ⟨S2,some (.pl X)::some (.lc L)::[some (.pl (.int (c:Int))),some (.pl (.int x)),y4,y5,y6,y7,y8,y9,y10,y11,y12]⟩=sg from hg]at et;rw[<-et]
theorem BC(h1:rdV S x=some d)(h2:gF S xs=some ds):gF S (x::xs)=some (d::ds):=by simp only[gF,h1,h2,Option.bind_some,Option.map_some]
theorem yE(h:Bk c aq keys row):o4 (PD aq keys row):=by
 refine⟨Bv h.tok,λe he=>?_⟩
 obtain⟨n,hn,rfl⟩:=List.mem_map.mp he;exact yn (h.rok n hn)
theorem KO(h:Bk c aq keys row)(hc:c<=900):sv kN (.fz (PD aq keys row)::.fz (PD aq keys row)::.fz d::[])=some ((.bool true,.fz),.fz (PD aq keys row)::.fz (PD aq keys row)::.fz d::[]):=by
 have kl:=h.kl;refine aj (JE (u:=true) (bD (r:=(PD aq keys row,.fz)) (res:=(.bool true,false)) (aj (az rfl)) (aj (az rfl)) (bg ⟨rfl,yE h⟩)) (λ_=>?_) (λz=>by cases z))
 have e0:IE (cb dq (aF (ai 0) a9)) (.fz (PD aq keys row)::.fz (PD aq keys row)::.fz d::[]) ((aq.length:Int)+2*((keys.filter λn=>(row n).mark).length:Int)):=tF (rs:=[(PD aq keys row,.fz)]) (aJ (aj (az rfl)) a8) (sr (by omega))
 have e1:IE (cb dq (aF (ai 1) a9)) (.fz (PD aq keys row)::.fz (PD aq keys row)::.fz d::[]) ((aq.length:Int)+2*((keys.filter λn=>(row n).mark).length:Int)):=tF (rs:=[(PD aq keys row,.fz)]) (aJ (aj (az rfl)) a8) (sr (by omega))
 have:=zq e0 e1;rw[zaH rfl]at this;exact this
theorem ED(hc:c<=900):∀xs:List SV,(∀x∈xs,Itm c S x)->∃ds,gF S xs=some ds/\jy jo kN [] ds=some (xs.map λ_=>PyData.bool true)
 | [],_=>⟨[],rfl,rfl⟩
 |x::xs,h=>by
  obtain⟨ds,e1,e2⟩:=ED hc xs λy hy=>h y (zak _ hy)
  obtain⟨a,b,d,f,e,T,K,R,rfl,g1,g2,g3,g4,g5,g6,g7⟩:=h x zas;refine⟨.tuple [PD T K R,PD T K R,PL K (kf R)]::ds,BC (by simp only[rdV,gF,g1,g2,g3,g4,g5,Option.bind_some,Option.map_some]) e1,?_⟩
  unfold jy;rw[show as3 (.tuple [PD T K R,PD T K R,PL K (kf R)])=some (PD T K R,PD T K R,PL K (kf R))from rfl,zai];dsimp only;rw[show jo [.fz (PD T K R),.fz (PD T K R),.fz (PL K (kf R))]=some (true,[.fz (PD T K R),.fz (PD T K R),.fz (PL K (kf R))])from rfl,zai,if_pos rfl,KO g6 hc,zai];show(jy jo kN [] ds).map _=_;rw[e2];rfl
theorem qD:∀xs:List SV,a6 (xs.map λ_=>PyData.bool true)=true
 | []=>rfl
 |_::xs=>qD xs
theorem EE(ns:List Int)(hl:ns.length<=63)(hb:∀k∈ns,Builtin.Int.intBits k<=1048576):Ih [.list (ns.map .int)]=some (.bool true,false):=by
 obtain⟨cs,e1,l1,_⟩:∃cs:List Int,cutD (ns.map .int) none (some (40:Int))=cs.map .int/\cs.length<=40/\True:=by
  obtain⟨cs,e,h1,_⟩:=Ec ns 0 40;exact⟨cs,e,h1,trivial⟩
 obtain⟨X,hX⟩:∃X:D,X=.list (ns.map .int):=⟨_,rfl⟩;have R0:Str->aL.Row:=λ_=>⟨0,none,false,[]⟩
 have i0:IvL 0 [dt (.list []),dt (.dict []),dt (.list []),dt (.dict []),dt (.dict []),some (.lst [.tp [.tp [.lc 0,.lc 1],.tp [.lc 2,.lc 3],.lc 4]])] 5:=⟨_,rfl,by simp,by simp,λx hx=>by
  rw[zad hx];exact⟨0,1,2,3,4,[],[],R0,rfl,rfl,rfl,rfl,rfl,rfl,Bt.zero _,Fm.zero _⟩⟩
 obtain⟨S,rest,hr,lo,xs,g1,g2,g3,g4⟩:=wV (n:=6) (L:=5) (by omega) X cs 0 _ [none,none,none,none,none,none,none,none,none,none,none] (by omega) rfl i0
 obtain⟨ds,d1,d2⟩:=ED (c:=0+cs.length) (by omega) xs g4
 have body:zP ⟨[],[some (.pl X),none,none,none,none,none,none,none,none,none,none,none,none]⟩=some (.rt (.pl (.bool true)) ⟨S++[dt (.list (xs.map λ_=>.bool true))],some (.pl X)::some (.lc 5)::rest⟩):=by
  refine aI (s':=⟨[dt (.list []),dt (.dict []),dt (.list []),dt (.dict []),dt (.dict []),some (.lst [.tp [.tp [.lc 0,.lc 1],.tp [.lc 2,.lc 3],.lc 4]])],[some (.pl X),some (.lc 5),none,none,none,none,none,none,none,none,none,none,none]⟩) (bW (i:=1) (s':=⟨[dt (.list []),dt (.dict []),dt (.list []),dt (.dict []),dt (.dict []),some (.lst [.tp [.tp [.lc 0,.lc 1],.tp [.lc 2,.lc 3],.lc 4]])],[some (.pl X),none,none,none,none,none,none,none,none,none,none,none,none]⟩) (G9 (S:=[]) (X:=[dt (.list []),dt (.dict []),dt (.list []),dt (.dict []),dt (.dict [])]) (aA (cw (xs:=[.tp [.lc 0,.lc 1],.tp [.lc 2,.lc 3],.lc 4]) (aA KG (aA Mf (aA (iS (d:=.dict []) rfl rfl) bC))) rfl (by simp)) bC) (by simp)) (by simp)) ?_
  refine aI (zX (ds:=ot (cs.map .int)) (ρ:=vwC ⟨[dt (.list []),dt (.dict []),dt (.list []),dt (.dict []),dt (.dict []),some (.lst [.tp [.tp [.lc 0,.lc 1],.tp [.lc 2,.lc 3],.lc 4]])],[some (.pl X),some (.lc 5),none,none,none,none,none,none,none,none,none,none,none]⟩) ?_ (by rw[D9];exact lo)) ?_
  ·have en:mSl gSl (ai 0) oQ (zg (mC (.int 40))) (vwC ⟨[dt (.list []),dt (.dict []),dt (.list []),dt (.dict []),dt (.dict []),some (.lst [.tp [.tp [.lc 0,.lc 1],.tp [.lc 2,.lc 3],.lc 4]])],[some (.pl X),some (.lc 5),none,none,none,none,none,none,none,none,none,none,none]⟩)=some ((.list (cs.map .int),.new),vwC ⟨[dt (.list []),dt (.dict []),dt (.list []),dt (.dict []),dt (.dict []),some (.lst [.tp [.tp [.lc 0,.lc 1],.tp [.lc 2,.lc 3],.lc 4]])],[some (.pl X),some (.lc 5),none,none,none,none,none,none,none,none,none,none,none]⟩):=by rw[<-e1,hX];rfl
   unfold Kf;rw[show aF (mSl gSl (ai 0) oQ (zg (mC (.int 40)))) a9 (vwC ⟨[dt (.list []),dt (.dict []),dt (.list []),dt (.dict []),dt (.dict []),some (.lst [.tp [.tp [.lc 0,.lc 1],.tp [.lc 2,.lc 3],.lc 4]])],[some (.pl X),some (.lc 5),none,none,none,none,none,none,none,none,none,none,none]⟩)=some ([(.list (cs.map .int),.fz)],vwC ⟨[dt (.list []),dt (.dict []),dt (.list []),dt (.dict []),dt (.dict []),some (.lst [.tp [.tp [.lc 0,.lc 1],.tp [.lc 2,.lc 3],.lc 4]])],[some (.pl X),some (.lc 5),none,none,none,none,none,none,none,none,none,none,none]⟩)from aJ (jt en) a8];rfl
  ·have lc:Gz [] (aS 1) jo kN ⟨S,some (.pl X)::some (.lc 5)::rest⟩=some (.ok (.lc S.length) ⟨S++[dt (.list (xs.map λ_=>.bool true))],some (.pl X)::some (.lc 5)::rest⟩):=by
    unfold Gz;rw[dC (ao rfl)];dsimp only;rw[show rdL S (.lc 5)=some ds by simp only[rdL,g1,d1],zai]
    show(jy jo kN [] ds).bind _=_;rw[d2,zai,bg (pR (by rw[zal];omega)),if_pos (qD xs)]
    rfl
   exact de (Kx (ds:=[.list (xs.map λ_=>.bool true)]) (aA lc bC) (by simp only[xN,rdC,GP,Option.bind_some,Option.map_some]) (by
    show(boolsOf _).map _=_;rw[iH];show some (PyData.bool _,false)=_;rw[List.all_map];simp))
 show fnO 1 12 zP [.list (ns.map .int)]=_;unfold fnO;rw[if_pos (show([PyData.list (ns.map .int)]:List D).length=1 from rfl),<-hX];show(zP ⟨[],[some (.pl X),none,none,none,none,none,none,none,none,none,none,none,none]⟩).bind LH=_;rw[body];rfl
end K79
set_option maxHeartbeats 4000000
namespace K79
open PySem L2 Mir
def top(i:Nat):Stmt:=PySem.Challenge.pw_creditworks_k79_whole_elder_piles.main.body.getD i (.Pass ⟨0,0,0,0⟩)
abbrev nP:Stmt:=top 8
theorem yF:bw [] [] (aK nP):=⟨rfl,rfl,rfl,by decide+kernel,rfl,by decide+kernel,by decide+kernel⟩
abbrev gX:Stmt:=top 14
theorem dr:bw ["one","other","held","name"] ["one","other"] (aK gX):=⟨rfl,rfl,rfl,by decide+kernel,rfl,by decide+kernel,by decide+kernel⟩
abbrev jF:Stmt:=top 34
theorem eO:bw ["_law_one","_law_other","_law_plain","_law_others","_law_told","_law_both"] ["_law_one","_law_other","_law_plain","_law_others"] (aK jF):=⟨rfl,rfl,rfl,by decide+kernel,rfl,by decide+kernel,by decide+kernel⟩
abbrev jG:Stmt:=top 31
theorem qV:bw ["_law_number"] ["_law_number"] (aK jG):=⟨rfl,rfl,rfl,by decide+kernel,rfl,by decide+kernel,by decide+kernel⟩
abbrev iT:Stmt:=top 30
theorem fK:bw ["_law_k","_law_letters","_law_name"] ["_law_k"] (aK iT):=⟨rfl,rfl,rfl,by decide+kernel,rfl,by decide+kernel,by decide+kernel⟩
abbrev nQ:Stmt:=top 9
theorem yG:bw ["value"] ["value"] (aK nQ):=⟨rfl,rfl,rfl,by decide+kernel,rfl,by decide+kernel,by decide+kernel⟩
abbrev lO:Stmt:=top 13
theorem oB:bw ["pile","name","key","held"] ["pile","name","key"] (aK lO):=⟨rfl,rfl,rfl,by decide+kernel,rfl,by decide+kernel,by decide+kernel⟩
abbrev jH:Stmt:=top 24
theorem qW:bw ["pile","name"] ["pile","name"] (aK jH):=⟨rfl,rfl,rfl,by decide+kernel,rfl,by decide+kernel,by decide+kernel⟩
abbrev iw:Stmt:=top 26
theorem eU:bw ["held","name","names","above"] ["held","name"] (aK iw):=⟨rfl,rfl,rfl,by decide+kernel,rfl,by decide+kernel,by decide+kernel⟩
abbrev nR:Stmt:=top 27
theorem yH:bw ["row","name"] ["row","name"] (aK nR):=⟨rfl,rfl,rfl,by decide+kernel,rfl,by decide+kernel,by decide+kernel⟩
abbrev qE:Stmt:=top 11
theorem BD:bw ["row"] ["row"] (aK qE):=⟨rfl,rfl,rfl,by decide+kernel,rfl,by decide+kernel,by decide+kernel⟩
abbrev kz:Stmt:=top 28
theorem uI:bw ["row"] ["row"] (aK kz):=⟨rfl,rfl,rfl,by decide+kernel,rfl,by decide+kernel,by decide+kernel⟩
abbrev nS:Stmt:=top 25
theorem fX:bw ["pile","name","held","names","last","cut","above"] ["pile","name"] (aK nS):=⟨rfl,rfl,rfl,by decide+kernel,rfl,by decide+kernel,by decide+kernel⟩
abbrev lP:Stmt:=top 10
theorem wW:bw ["held","name"] ["held","name"] (aK lP):=⟨rfl,rfl,rfl,by decide+kernel,rfl,by decide+kernel,by decide+kernel⟩
abbrev kA:Stmt:=top 22
theorem jI:bw ["pile","name","key","row","held"] ["pile","name","key"] (aK kA):=⟨rfl,rfl,rfl,by decide+kernel,rfl,by decide+kernel,by decide+kernel⟩
abbrev jJ:Stmt:=top 15
theorem qX:bw ["pile"] ["pile"] (aK jJ):=⟨rfl,rfl,rfl,by decide+kernel,rfl,by decide+kernel,by decide+kernel⟩
abbrev yI:Stmt:=top 20
theorem uJ:bw ["held","name","on","row"] ["held","name","on"] (aK yI):=⟨rfl,rfl,rfl,by decide+kernel,rfl,by decide+kernel,by decide+kernel⟩
abbrev jK:Stmt:=top 19
theorem cg:bw ["pile","held","alone","steps","top","on","name","lesser"] ["pile"] (aK jK):=⟨rfl,rfl,rfl,by decide+kernel,rfl,by decide+kernel,by decide+kernel⟩
abbrev lQ:Stmt:=top 18
theorem eu:bw ["pile","name","held","row","tops","steps","lower","hung"] ["pile","name"] (aK lQ):=⟨rfl,rfl,rfl,by decide+kernel,rfl,by decide+kernel,by decide+kernel⟩
abbrev jL:Stmt:=top 17
theorem iU:bw ["pile","name","taken"] ["pile"] (aK jL):=⟨rfl,rfl,rfl,by decide+kernel,rfl,by decide+kernel,by decide+kernel⟩
abbrev nU:Stmt:=top 23
theorem lR:bw ["pile","name","cut","taken"] ["pile","name"] (aK nU):=⟨rfl,rfl,rfl,by decide+kernel,rfl,by decide+kernel,by decide+kernel⟩
abbrev lS:Stmt:=top 35
theorem gz:bw ["_law_pile","_law_plain","_law_k","_law_cell","_law_number","_law_names","_law_name"] ["_law_pile","_law_plain","_law_k","_law_cell"] (aK lS):=⟨rfl,rfl,rfl,by decide+kernel,rfl,by decide+kernel,by decide+kernel⟩
abbrev lT:Stmt:=top 32
theorem iI:bw ["_law_pile","_law_keys_here","_law_name","_law_entry"] ["_law_pile"] (aK lT):=⟨rfl,rfl,rfl,by decide+kernel,rfl,by decide+kernel,by decide+kernel⟩
abbrev lU:Stmt:=top 33
theorem wX:bw ["_law_pile"] ["_law_pile"] (aK lU):=⟨rfl,rfl,rfl,by decide+kernel,rfl,by decide+kernel,by decide+kernel⟩
abbrev iV:Stmt:=top 12
theorem kB:bw ["pile","marked"] ["pile"] (aK iV):=⟨rfl,rfl,rfl,by decide+kernel,rfl,by decide+kernel,by decide+kernel⟩
abbrev Ac:Stmt:=top 36
theorem fb:bw ["_law_script","_law_all_held","_law_k","_law_cell","_law_pile","_law_copy_here","_law_plain","_law_other","_law_copy_too","_law_others","_law_right","_law_made_here","_law_both"] ["_law_script"] (aK Ac):=⟨rfl,rfl,rfl,by decide+kernel,rfl,by decide+kernel,by decide+kernel⟩
structure CF(K:zag)(mg:Str->Option Value)(fL:Addr):Prop where
 uK:PySem.W.excIn K fL [.type "ValueError",.type "Exception",.type "BaseException",.type "object"] "ValueError.__new__"=true
 kU:mg "Twice"=some (.ref fL)
 Hi:Lg K fL
 h_Twice_Twice:PySem.W.exmOne K (.ref fL) (.ref fL)=some true
local macro_rules | `(tactic| walk_at "l") => `(tactic| first | exact Or.inl rfl | exact Or.inr rfl)
section
variable{P:Program}{w:World}{K:zag}{mg:Str->Option Value}{base:Heap}
def fP(mg:Str->Option Value):Prop:=∀x∈(["all","any","dict","enumerate","isinstance","len","list","min","sorted","str","tuple"]:List Str),mg x=none
variable{fL:Addr}
theorem yJ(Z:fP mg)(T:Top K mg "no_pile" nP) :Def P w K mg base CX0 1 "no_pile" [] (spQ kK):=by
 refine T.def yF (λvs H Q E h=>fB h) (λ_ _ _ _ _ _ us hl=>match us,hl with| [],_=>rfl) λf cdv A outer s H vs Q E hr h=>?_
 have hu:=hr.units;exact⟨_,(aO (bK (bG (aa (jk ax) (aa i6 ax))))),
   fA (n:=0) (k:=0) (dN (cA (ak (ny aW) (ak (cM kI) aW)))) rfl h⟩
theorem qF(Z:fP mg)(T:Top K mg "pour_piles" gX)(cf:CF K mg fL) :Def P w K mg base (CXW P w) 1 "pour_piles" ["one","other"] (spX (clM mg) gN):=by
 have dD:mg "dict"=none:=Z _ (by decide+kernel)
 refine T.M7 dr (λvs H Q E h=>FO h) (λ_ _ _ _ _ _ us hl=>match us,hl with| [_,_],_=>rfl) λf cdv A outer s H vs Q E hr h=>?_
 have hu:=hr.units;exact⟨_,(av (id (bz (i:=2) dr.nd rfl (by walk_at "l") (cQ dk rfl dD PyProof.Rows.boot_dict (aa (aQ (aB (K:=K) rfl) (pv 0) aw (λ_ _=>rfl)) ax))))
   (av (DE (lx PassesOwn.leaving rfl (mw (aQ (aB (K:=K) rfl) (pv 1) aw (λ_ _=>rfl))) (bX (i:=3) dr.nd rfl (by walk_at "l"))
   (av (dY (pj (qd (hv1 hu) (pv 3) (pv 2)))
   (aO (Gu (Cp rfl rfl cf.kU cf.uK PySem.F.excBase_ValueError (qO dr.kind rfl) (aa fR ax))))
   cq)
   (aO (id (dW (hv1 hu) (pv 2) (pv 3) (bZ (hv1 hu) (aQ (aB (K:=K) rfl) (pv 1) aw (λ_ _=>rfl)) (pv 3) (λ_ _=>rfl)) rfl))))))
   (aO (id (bK (bG (aa (bO (f6 (K:=K) rfl) (aQ (aB (K:=K) rfl) (pv 0) aw (λ_ _=>rfl)) (aQ (aB (K:=K) rfl) (pv 1) aw (λ_ _=>rfl))) (aa (pv 2) ax)))))))),
   FL (n:=2) (k:=2) (tH (mh (ia (dE f9 (aC (ay b7 af aH) aV))))
   (tH (DF (oW (j:=1) i8) oR
   (tH (JF (bH (ay vT af af))
   (xX (c:="Twice") (λ_ _ _ q=>q) (by decide) (λH h=>CT cf.kU▸h))
   (mh fZ))
   (mh (oV (i:=2) (ay dQ (ay b7 af aH) af) af))))
   (mh (eX (iM (aC (ay j0 (ay b7 af aH) (ay b7 af aH)) (aC af aV))))))) rfl h⟩
theorem qG(Z:fP mg)(T:Top K mg "pour_piles" gX) :Def P w K mg base CX0 1 "pour_piles" ["one","other"] (spD eC):=by
 have dD:mg "dict"=none:=Z _ (by decide+kernel)
 refine T.def dr (λvs H Q E h=>zu h) (λ_ _ _ _ _ _ us hl=>match us,hl with| [_,_],_=>rfl) λf cdv A outer s H vs Q E hr h=>?_
 have hu:=hr.units;exact⟨_,(av (bz (i:=2) dr.nd rfl (by walk_at "l") (cQ dk rfl dD PyProof.Rows.boot_dict (aa (aQ (aB (K:=K) rfl) (pv 0) aw (λ_ _=>rfl)) ax)))
   (av (tR (lx PassesOwn.never rfl (mw (aQ (aB (K:=K) rfl) (pv 1) aw (λ_ _=>rfl))) (bX (i:=3) dr.nd rfl (by walk_at "l"))
   (av (dY (pj (qd (hv1 hu) (pv 3) (pv 2)))
   (aO iX)
   cq)
   (aO (dW (hv1 hu) (pv 2) (pv 3) (bZ (hv1 hu) (aQ (aB (K:=K) rfl) (pv 1) aw (λ_ _=>rfl)) (pv 3) (λ_ _=>rfl)) rfl)))))
   (aO (bK (bG (aa (bO (f6 (K:=K) rfl) (aQ (aB (K:=K) rfl) (pv 0) aw (λ_ _=>rfl)) (aQ (aB (K:=K) rfl) (pv 1) aw (λ_ _=>rfl))) (aa (pv 2) ax))))))),
   zt (n:=2) (k:=2) (nq (ia (dE f9 (aC (ay b7 af aH) aV)))
   (nq (Gd (oW (j:=1) i8) oR
   (eW (l9 (bH (ay vT af af))
   jZ
   fZ)
   (oV (i:=2) (ay dQ (ay b7 af aH) af) af)))
   (zM (j:=2) (ay j0 (ay b7 af aH) (ay b7 af aH))))) rfl h⟩
theorem qY(Z:fP mg)(T:Top K mg "_law_poured" jF)(cf:CF K mg fL)(jM:Def P w K mg base (CXW P w) 1 "pour_piles" ["one","other"] (spX (clM mg) gN))(iW:Def P w K mg base CX0 1 "pour_piles" ["one","other"] (spD eC)):Def P w K mg base CX0 2 "_law_poured" ["_law_one","_law_other","_law_plain","_law_others"] (spQ fD):=by
 have dD:mg "dict"=none:=Z _ (by decide+kernel)
 have Ir:mg "any"=none:=Z _ (by decide+kernel)
 refine T.def eO (λvs H Q E h=>fB h) (λ_ _ _ _ _ _ us hl=>match us,hl with| [_,_,_,_],_=>rfl) λf cdv A outer s H vs Q E hr h=>?_
 have hu:=hr.units;exact⟨_,(av (bz (i:=4) eO.nd rfl (by walk_at "l") gB)
   (av (FT (K:=K) rfl
   (FQ (JG (i:=4) eO.nd rfl (by walk_at "l") (DI rfl iW jM (hr.mono (by omega)) (hr.mono (by omega)) (aa (pv 0) (aa (pv 1) ax)))))
   rfl rfl rfl cf.kU (λcls e oe hoc hok=>
   (aO (bz (i:=4) eO.nd rfl (by walk_at "l") gB))))
   (av (dY (m3 (cG (AE (K:=K) rfl rfl) rfl Ir PyProof.Rows.boot_any (aa (zH (rD (fr:=[("_law_plain",2)]) rfl ⟨rfl,rfl,rfl,rfl,rfl,rfl,by decide+kernel⟩ (mw (pv 3)) (λ_ _ _ _=>l6) (λ_ _ _ _=>(IF (qd (hv1 hu) (pv 0) (pv 1)))))) ax)))
   (aO (bK (bG (aa (oO sM (pv 4) gB (cF _)) (aa gB (aa (pv 2) ax))))))
   cq)
   (av (bz (i:=5) eO.nd rfl (by walk_at "l") (cQ dk rfl dD PyProof.Rows.boot_dict (aa (pv 2) ax)))
   (av (fq (iP (K:=K) rfl PySem.F.plainAttrs_dict PySem.F.slot_dict_update PySem.F.type_dict_update Gv (pv 5) (aa (pv 3) ax)))
   (aO (bK (bG (aa (oO sN (pv 4) gB (cF _)) (aa (pv 4) (aa (pv 5) ax))))))))))),
   fA (n:=4) (k:=2) (aU (bM (b9 λ_=>.non) bq)
   (aU (Gx (cl:=clM mg) (ak aE (ak aE aW)) (λc h=>by obtain rfl:c="Twice":=of_decide_eq_true h;rw[CT cf.kU];exact⟨_,rfl,cf.Hi,cf.h_Twice_Twice⟩))
   (aU (i4 (mj (rJ (dE Ls (aC (xT i8 pH (ay vT af af)) aV))))
   (dN (cA (ak (cM (ay Fy af jn)) (ak (b9 λ_=>.non) (ak aE aW)))))
   eR)
   (aU (bM (cM (dE f9 (aC af aV))) bq)
   (aU (f7 (Gw aE (ak aE aW)))
   (dN (cA (ak (cM (ay tm af jn)) (ak aE (ak aE aW)))))))))) rfl h⟩
theorem qZ(Z:fP mg)(T:Top K mg "_law_key_by" jG) :Def P w K mg base CX0 1 "_law_key_by" ["_law_number"] (spM eD):=by
 refine T.def qV (λvs H Q E h=>eQ h) (λ_ _ _ _ _ _ us hl=>match us,hl with| [_],_=>rfl) λf cdv A outer s H vs Q E hr h=>?_
 have hu:=hr.units;exact⟨_,(av (dY (cu (j1 (K:=K) rfl hu) (bO d3 (pv 0) aw) aw (cF _))
   (aO (bK (bO pz (bO d3 (bO fY (pv 0) aw) aw) aw)))
   cq)
   (av (dY (cu (j1 (K:=K) rfl hu) (bO d3 (pv 0) aw) aw (cF _))
   (aO (bK (bO pz (bO d3 (bO fY (pv 0) aw) aw) aw)))
   cq)
   (aO (bK (bO pz (bO d3 (bO fY (pv 0) aw) (bO (f6 (K:=K) rfl) (bO zl aw (bO xp aw aw)) aw)) (bO xp aw aw)))))),
   gD (n:=1) (k:=0) (eW (l9 (bH (ay vC (ay J_I af aH) aH))
   (eX (ay CB (ay J_I (ay J_I af aH) aH) aH))
   fZ)
   (eW (l9 (bH (ay vC (ay J_I af aH) aH))
   (eX (ay CB (ay J_I (ay J_I af aH) aH) aH))
   fZ)
   (eX (ay CB (ay J_I (ay J_I af aH) (ay j0 (ay Hv aH (ay J_I aH aH)) aH)) (ay J_I aH aH))))) rfl h⟩
theorem qH(Z:fP mg)(T:Top K mg "_law_name_by" iT) :Def P w K mg base CX0 1 "_law_name_by" ["_law_k"] (spM dR):=by
 refine T.def fK (λvs H Q E h=>eQ h) (λ_ _ _ _ _ _ us hl=>match us,hl with| [_],_=>rfl) λf cdv A outer s H vs Q E hr h=>?_
 have hu:=hr.units;exact⟨_,(av (bz (i:=1) fK.nd rfl (by walk_at "l") fR)
   (av (bz (i:=2) fK.nd rfl (by walk_at "l") (bO (f6 (K:=K) rfl) (aQ (aB (K:=K) rfl) (pv 1) (bO d3 (bO fY (pv 0) aw) aw) (λ_ _=>rfl)) (aQ (aB (K:=K) rfl) (pv 1) (bO d3 (bO fY (pv 0) aw) aw) (λ_ _=>rfl))))
   (av (dY (cu (j1 (K:=K) rfl hu) (bO d3 (pv 0) aw) aw (cF _))
   (aO (bz (i:=2) fK.nd rfl (by walk_at "l") (bO (f6 (K:=K) rfl) (pv 2) (aQ (aB (K:=K) rfl) (jk (aa fR (aa fR (aa fR (aa fR (aa fR (aa fR ax))))))) (bO d3 (bO fY (pv 0) aw) aw) (λ_ _=>rfl)))))
   cq)
   (aO (bK (pv 2)))))),
   gD (n:=1) (k:=2) (eW (ia iL)
   (eW (ia (ay j0 (ay HK af (ay J_I (ay J_I af aH) aH)) (ay HK af (ay J_I (ay J_I af aH) aH))))
   (eW (l9 (bH (ay vC (ay J_I af aH) aH))
   (ia (ay j0 af (ay b7 (xw (aC iL (aC iL (aC iL (aC iL (aC iL (aC iL aV))))))) (ay J_I (ay J_I af aH) aH))))
   fZ)
   (eX af)))) rfl h⟩
theorem yK(Z:fP mg)(T:Top K mg "is_name" nQ) :Def P w K mg base CX0 1 "is_name" ["value"] (spM gZ):=by
 have Ad:mg "all"=none:=Z _ (by decide+kernel)
 have gA:mg "len"=none:=Z _ (by decide+kernel)
 have Iu:mg "str"=none:=Z _ (by decide+kernel)
 have mY:mg "isinstance"=none:=Z _ (by decide+kernel)
 refine T.def yG (λvs H Q E h=>eQ h) (λ_ _ _ _ _ _ us hl=>match us,hl with| [_],_=>rfl) λf cdv A outer s H vs Q E hr h=>?_
 have hu:=hr.units;exact⟨_,(av (dY (PW.pt (yW (xj (m3 (cG AZ rfl mY PyProof.Rows.boot_isinstance (aa (pv 0) (aa (Le Iu PyProof.Rows.boot_str) ax))))) (yW (cu Hm (cG (dw (K:=K) rfl) rfl gA zaE (aa (pv 0) ax)) aw (cF _)) (xi (cu KZ (cG (dw (K:=K) rfl) rfl gA zaE (aa (pv 0) ax)) aw (cF _))))))
   (aO (bK pe))
   cq)
   (aO (bK (cG (rK (K:=K) rfl rfl) rfl Ad PyProof.Rows.boot_all (aa (rD (fr:=[]) rfl ⟨rfl,rfl,rfl,rfl,rfl,rfl,by decide+kernel⟩ (JX (pv 0)) (λ_ _ _ _=>l6) (λ_ _ _ _=>(B7 DC DC fR (pv 0) fR))) ax))))),
   gD (n:=1) (k:=0) (eW (l9 (zf (xu (rJ (Gj af))) (zf (bH (ay Fx (dE ma (aC af aV)) aH)) (bH (ay Fx (dE ma (aC af aV)) aH))))
   (eX ze)
   fZ)
   (eX (dE Hw (aC (vy (J0 af) pH (CI HV HV iL af iL (λ_ _ _ _ _ k h=>A7 h k))) aV)))) rfl h⟩
theorem uL(Z:fP mg)(T:Top K mg "pile_put" lO)(nV:Def P w K mg base CX0 1 "is_name" ["value"] (spM gZ)):Def P w K mg base CX0 2 "pile_put" ["pile","name","key"] (spD jz):=by
 have dD:mg "dict"=none:=Z _ (by decide+kernel)
 refine T.def oB (λvs H Q E h=>zu h) (λ_ _ _ _ _ _ us hl=>match us,hl with| [_,_,_],_=>rfl) λf cdv A outer s H vs Q E hr h=>?_
 have hu:=hr.units;exact⟨_,(av (dY (xj (m3 (bQ nV (hr.mono (by omega)) (aa (pv 1) ax))))
   (aO iX)
   cq)
   (av (dY (pj (qd (hv1 hu) (pv 1) (aQ (aB (K:=K) rfl) (pv 0) aw (λ_ _=>rfl))))
   (aO iX)
   cq)
   (av (bz (i:=3) oB.nd rfl (by walk_at "l") (cQ dk rfl dD PyProof.Rows.boot_dict (aa (aQ (aB (K:=K) rfl) (pv 0) aw (λ_ _=>rfl)) ax)))
   (av (dW (hv1 hu) (pv 3) (pv 1) (bG (aa (pv 2) (aa gB (aa pe (aa (bG ax) ax))))) rfl)
   (aO (bK (bG (aa (bO (f6 (K:=K) rfl) (aQ (aB (K:=K) rfl) (pv 0) aw (λ_ _=>rfl)) (jk (aa (pv 1) ax))) (aa (pv 3) ax))))))))),
   zt (n:=3) (k:=1) (nq (l9 (xu (rJ (cC (aC af aV))))
   jZ
   fZ)
   (nq (l9 (bH (ay vT af (ay b7 af aH)))
   jZ
   fZ)
   (nq (ia (dE f9 (aC (ay b7 af aH) aV)))
   (nq (oV (i:=3) (iM (aC af (aC jn (aC ze (aC (iM aV) aV))))) af)
   (zM (j:=3) (ay j0 (ay b7 af aH) (xw (aC af aV)))))))) rfl h⟩
theorem q0(Z:fP mg)(T:Top K mg "hold_there" jH) :Def P w K mg base CX0 1 "hold_there" ["pile","name"] (spM dc):=by
 refine T.def qW (λvs H Q E h=>eQ h) (λ_ _ _ _ _ _ us hl=>match us,hl with| [_,_],_=>rfl) λf cdv A outer s H vs Q E hr h=>?_
 have hu:=hr.units;exact⟨_,(aO (dY (pj (AU (hv1 hu) (pv 1) (aQ (aB (K:=K) rfl) (pv 0) aw (λ_ _=>rfl))))
   (aO iX)
   cq)),
   gD (n:=2) (k:=0) (l9 (bH (ay Dl af (ay b7 af aH)))
   jZ
   fZ) rfl h⟩
theorem oN(Z:fP mg)(T:Top K mg "names_to_cut" iw) :Def P w K mg base CX0 1 "names_to_cut" ["held","name"] (spM fE):=by
 refine T.def eU (λvs H Q E h=>eQ h) (λ_ _ _ _ _ _ us hl=>match us,hl with| [_,_],_=>rfl) λf cdv A outer s H vs Q E hr h=>?_
 have hu:=hr.units;exact⟨_,(av (bz (i:=2) eU.nd rfl (by walk_at "l") (jk (aa (pv 1) ax)))
   (av (bz (i:=3) eU.nd rfl (by walk_at "l") (aQ (aB (K:=K) rfl) (bZ (hv1 hu) (pv 0) (pv 1) (λ_ _=>rfl)) aw (λ_ _=>rfl)))
   (av (vd PassesOwn.never (m3 (aQ (aB (K:=K) rfl) (bZ (hv1 hu) (pv 0) (pv 3) (λ_ _=>rfl)) aw (λ_ _=>rfl)))
   (av (fq (iP (K:=K) rfl zaJ zaV zaU iY (pv 2) (aa (pv 3) ax)))
   (aO (bz (i:=3) eU.nd rfl (by walk_at "l") (aQ (aB (K:=K) rfl) (bZ (hv1 hu) (pv 0) (pv 3) (λ_ _=>rfl)) aw (λ_ _=>rfl))))))
   (aO (bK (pv 2)))))),
   gD (n:=2) (k:=2) (eW (ia (xw (aC af aV)))
   (eW (ia (ay b7 (ay dQ af af) aH))
   (eW (CA (rJ (ay b7 (ay dQ af af) aH))
   (eW (Fs (Jw CD (aC af aV)))
   (ia (ay b7 (ay dQ af af) aH))))
   (eX af)))) rfl h⟩
theorem yL(Z:fP mg)(T:Top K mg "without" nR) :Def P w K mg base CX0 1 "without" ["row","name"] (spM kL):=by
 have Ae:mg "tuple"=none:=Z _ (by decide+kernel)
 refine T.def yH (λvs H Q E h=>eQ h) (λ_ _ _ _ _ _ us hl=>match us,hl with| [_,_],_=>rfl) λf cdv A outer s H vs Q E hr h=>?_
 have hu:=hr.units;exact⟨_,(aO (bK (bG (aa (aQ (aB (K:=K) rfl) (pv 0) aw (λ_ _=>rfl)) (aa (aQ (aB (K:=K) rfl) (pv 0) aw (λ_ _=>rfl)) (aa (aQ (aB (K:=K) rfl) (pv 0) aw (λ_ _=>rfl)) (aa (cQ (vV (K:=K) rfl) rfl Ae PyProof.Rows.boot_tuple (aa (rD (fr:=[("name",1)]) rfl ⟨rfl,rfl,rfl,rfl,rfl,rfl,by decide+kernel⟩ (zm (K:=K) rfl (aQ (aB (K:=K) rfl) (pv 0) aw (λ_ _=>rfl))) (λ_ _ _ _=>(oP (cu (CG (K:=K) rfl hu) (pv 0) (pv 1) (cF _)))) (λ_ _ _ _=>(pv 0))) ax)) ax))))))),
   gD (n:=2) (k:=0) (eX (iM (aC (ay b7 af aH) (aC (ay b7 af aH) (aC (ay b7 af aH) (aC (dE Ge (aC (vy (Jt (ay b7 af aH)) (bH (ay Lq af af)) af) aV)) aV)))))) rfl h⟩
theorem BF(Z:fP mg)(T:Top K mg "as_top" qE) :Def P w K mg base CX0 1 "as_top" ["row"] (spM je):=by
 refine T.def BD (λvs H Q E h=>eQ h) (λ_ _ _ _ _ _ us hl=>match us,hl with| [_],_=>rfl) λf cdv A outer s H vs Q E hr h=>?_
 have hu:=hr.units;exact⟨_,(aO (bK (bG (aa (aQ (aB (K:=K) rfl) (pv 0) aw (λ_ _=>rfl)) (aa gB (aa pe (aa (aQ (aB (K:=K) rfl) (pv 0) aw (λ_ _=>rfl)) ax))))))),
   gD (n:=1) (k:=0) (eX (iM (aC (ay b7 af aH) (aC jn (aC ze (aC (ay b7 af aH) aV)))))) rfl h⟩
theorem uM(Z:fP mg)(T:Top K mg "with_mark" kz) :Def P w K mg base CX0 1 "with_mark" ["row"] (spM iD):=by
 refine T.def uI (λvs H Q E h=>eQ h) (λ_ _ _ _ _ _ us hl=>match us,hl with| [_],_=>rfl) λf cdv A outer s H vs Q E hr h=>?_
 have hu:=hr.units;exact⟨_,(aO (bK (bG (aa (aQ (aB (K:=K) rfl) (pv 0) aw (λ_ _=>rfl)) (aa (aQ (aB (K:=K) rfl) (pv 0) aw (λ_ _=>rfl)) (aa pe (aa (aQ (aB (K:=K) rfl) (pv 0) aw (λ_ _=>rfl)) ax))))))),
   gD (n:=1) (k:=0) (eX (iM (aC (ay b7 af aH) (aC (ay b7 af aH) (aC ze (aC (ay b7 af aH) aV)))))) rfl h⟩
theorem yM(Z:fP mg)(T:Top K mg "cut_off" nS)(kC:Def P w K mg base CX0 1 "with_mark" ["row"] (spM iD))(ji:Def P w K mg base CX0 1 "as_top" ["row"] (spM je))(nW:Def P w K mg base CX0 1 "without" ["row","name"] (spM kL))(ix:Def P w K mg base CX0 1 "names_to_cut" ["held","name"] (spM fE)):Def P w K mg base CX0 2 "cut_off" ["pile","name"] (spQ g8):=by
 have dD:mg "dict"=none:=Z _ (by decide+kernel)
 refine T.def fX (λvs H Q E h=>fB h) (λ_ _ _ _ _ _ us hl=>match us,hl with| [_,_],_=>rfl) λf cdv A outer s H vs Q E hr h=>?_
 have hu:=hr.units;exact⟨_,(av (bz (i:=2) fX.nd rfl (by walk_at "l") (cQ dk rfl dD PyProof.Rows.boot_dict (aa (aQ (aB (K:=K) rfl) (pv 0) aw (λ_ _=>rfl)) ax)))
   (av (bz (i:=3) fX.nd rfl (by walk_at "l") (bQ ix (hr.mono (by omega)) (aa (pv 2) (aa (pv 1) ax))))
   (av (bz (i:=4) fX.nd rfl (by walk_at "l") (aQ (aB (K:=K) rfl) (bZ (hv1 hu) (pv 2) (aQ (aB (K:=K) rfl) (pv 3) (KW IT aw) (λ_ _=>rfl)) (λ_ _=>rfl)) aw (λ_ _=>rfl)))
   (av (lx PassesOwn.never rfl (j2 (K:=K) rfl (pv 3)) (bX (i:=5) fX.nd rfl (by walk_at "l"))
   (av (bz (i:=6) fX.nd rfl (by walk_at "l") (aQ (aB (K:=K) rfl) (bZ (hv1 hu) (pv 2) (pv 5) (λ_ _=>rfl)) aw (λ_ _=>rfl)))
   (av (dW (hv1 hu) (pv 2) (pv 6) (bQ nW (hr.mono (by omega)) (aa (bZ (hv1 hu) (pv 2) (pv 6) (λ_ _=>rfl)) (aa (pv 5) ax))) rfl)
   (aO (dW (hv1 hu) (pv 2) (pv 5) (bQ ji (hr.mono (by omega)) (aa (bZ (hv1 hu) (pv 2) (pv 5) (λ_ _=>rfl)) ax)) rfl)))))
   (av (dY (cu sN (aQ (aB (K:=K) rfl) (bZ (hv1 hu) (pv 2) (pv 4) (λ_ _=>rfl)) aw (λ_ _=>rfl)) gB (cF _))
   (aO (dW (hv1 hu) (pv 2) (pv 4) (bQ kC (hr.mono (by omega)) (aa (bZ (hv1 hu) (pv 2) (pv 4) (λ_ _=>rfl)) ax)) rfl))
   cq)
   (aO (bK (bG (aa (bG (aa (bO (f6 (K:=K) rfl) (aQ (aB (K:=K) rfl) (pv 0) aw (λ_ _=>rfl)) (pv 3)) (aa (pv 2) ax))) (aa (rD (fr:=[]) rfl ⟨rfl,rfl,rfl,rfl,rfl,rfl,by decide+kernel⟩ (j2 (K:=K) rfl (pv 3)) (λ_ _ _ _=>l6) (λ_ _ _ _=>(bG (aa fR (aa (pv 0) ax))))) ax)))))))))),
   fA (n:=2) (k:=5) (aU (bM (cM (dE f9 (aC (ay b7 af aH) aV))) bq)
   (aU (bM (cM (cC (aC af (aC af aV)))) bq)
   (aU (bM (dF (cM (ay dQ af (ay b7 af (Lh Lr aH)))) (b9 λ_=>.int _)) bq)
   (aU (zz aE bq
   (aU (bM (dF (cM (ay dQ af af)) (b9 λ_=>.int _)) bq)
   (aU (gg aE aE (cM (cC (aC (ay dQ af af) (aC af aV)))))
   (gg aE aE (cM (cC (aC (ay dQ af af) aV)))))))
   (aU (i4 (mj (bH (ay tm (ay b7 (ay dQ af af) aH) jn)))
   (gg aE aE (cM (cC (aC (ay dQ af af) aV))))
   eR)
   (dN (cA (ak (cA (ak (cM (ay j0 (ay b7 af aH) af)) (ak aE aW))) (ak (cM (vy (sZ af) pH (iM (aC iL (aC af aV))))) aW))))))))) rfl h⟩
theorem wY(Z:fP mg)(T:Top K mg "standing" lP) :Def P w K mg base CX0 1 "standing" ["held","name"] (spM bV):=by
 refine T.def wW (λvs H Q E h=>eQ h) (λ_ _ _ _ _ _ us hl=>match us,hl with| [_,_],_=>rfl) λf cdv A outer s H vs Q E hr h=>?_
 have hu:=hr.units;exact⟨_,(aO (bK (bG (aa (aQ (aB (K:=K) rfl) (bZ (hv1 hu) (pv 0) (pv 1) (λ_ _=>rfl)) aw (λ_ _=>rfl)) (aa (pv 1) ax))))),
   gD (n:=2) (k:=0) (eX (iM (aC (ay b7 (ay dQ af af) aH) (aC af aV)))) rfl h⟩
theorem uN(Z:fP mg)(T:Top K mg "make_less" kA)(hE:Def P w K mg base CX0 2 "cut_off" ["pile","name"] (spQ g8))(cW:Def P w K mg base CX0 1 "standing" ["held","name"] (spM bV))(eF:Def P w K mg base CX0 1 "hold_there" ["pile","name"] (spM dc)):Def P w K mg base CX0 3 "make_less" ["pile","name","key"] (spQ ee):=by
 have uO:mg "list"=none:=Z _ (by decide+kernel)
 have dD:mg "dict"=none:=Z _ (by decide+kernel)
 refine T.def jI (λvs H Q E h=>fB h) (λ_ _ _ _ _ _ us hl=>match us,hl with| [_,_,_],_=>rfl) λf cdv A outer s H vs Q E hr h=>?_
 have hu:=hr.units;exact⟨_,(av (fq (bQ eF (hr.mono (by omega)) (aa (pv 0) (aa (pv 1) ax))))
   (av (bz (i:=3) jI.nd rfl (by walk_at "l") (bZ (hv1 hu) (aQ (aB (K:=K) rfl) (pv 0) aw (λ_ _=>rfl)) (pv 1) (λ_ _=>rfl)))
   (av (dY (cu K0 (pv 2) (aQ (aB (K:=K) rfl) (pv 3) aw (λ_ _=>rfl)) (cF _))
   (aO iX)
   cq)
   (av (bz (i:=4) jI.nd rfl (by walk_at "l") (cQ dk rfl dD PyProof.Rows.boot_dict (aa (aQ (aB (K:=K) rfl) (pv 0) aw (λ_ _=>rfl)) ax)))
   (av (dW (hv1 hu) (pv 4) (pv 1) (bG (aa (pv 2) (aa (aQ (aB (K:=K) rfl) (pv 3) aw (λ_ _=>rfl)) (aa (aQ (aB (K:=K) rfl) (pv 3) aw (λ_ _=>rfl)) (aa (aQ (aB (K:=K) rfl) (pv 3) aw (λ_ _=>rfl)) ax))))) rfl)
   (av (dY (PW.pt (yW (cu sM (aQ (aB (K:=K) rfl) (pv 3) aw (λ_ _=>rfl)) gB (cF _)) (xi (cu (JV (K:=K) rfl (Nat.lt_of_le_of_lt (Nat.le_add_right _ _) hu)) (bQ cW (hr.mono (by omega)) (aa (pv 4) (aa (pv 1) ax))) (bQ cW (hr.mono (by omega)) (aa (pv 4) (aa (aQ (aB (K:=K) rfl) (pv 3) aw (λ_ _=>rfl)) ax))) (cF _)))))
   (aO (bK (bG (aa (bG (aa (cQ (pM (K:=K) rfl) rfl uO PyProof.Rows.boot_list (aa (aQ (aB (K:=K) rfl) (pv 0) aw (λ_ _=>rfl)) ax)) (aa (pv 4) ax))) (aa (jk ax) ax)))))
   cq)
   (aO (bK (bQ hE (hr.mono (by omega)) (aa (bG (aa (aQ (aB (K:=K) rfl) (pv 0) aw (λ_ _=>rfl)) (aa (pv 4) ax))) (aa (pv 1) ax))))))))))),
   fA (n:=3) (k:=2) (aU (f7 (cM (cC (aC af (aC af aV)))))
   (aU (bM (cM (ay dQ (ay b7 af aH) af)) bq)
   (aU (i4 (mj (bH (ay Fx af (ay b7 af aH))))
   C1
   eR)
   (aU (bM (cM (dE f9 (aC (ay b7 af aH) aV))) bq)
   (aU (gg aE aE (cA (ak aE (ak (dF aE (b9 λ_=>.int _)) (ak (dF aE (b9 λ_=>.int _)) (ak (dF aE (b9 λ_=>.int _)) aW))))))
   (aU (i4 (mj (zf (bH (ay Fy (ay b7 af aH) jn)) (bH (ay LS (cC (aC af (aC af aV))) (cC (aC af (aC (ay b7 af aH) aV)))))))
   (dN (cA (ak (cA (ak (cM (dE CC (aC (ay b7 af aH) aV))) (ak aE aW))) (ak (ny aW) aW))))
   eR)
   (dN (c9 (ak (cA (ak (dF aE (b9 λ_=>.int _)) (ak aE aW))) (ak aE aW)))))))))) rfl h⟩
theorem q9(Z:fP mg)(hK:(gk K).isSome=true)(T:Top K mg "least_name" jJ)(cW:Def P w K mg base CX0 1 "standing" ["held","name"] (spM bV)):Def P w K mg base CX0 4 "least_name" ["pile"] (spM gO):=by
 have Af:mg "min"=none:=Z _ (by decide+kernel)
 have gA:mg "len"=none:=Z _ (by decide+kernel)
 refine T.Nd hK rfl (by decide+kernel) qX (λvs H Q E h=>eQ h) (λ_ _ _ _ _ _ us hl=>match us,hl with| [_],_=>rfl) λf cdv A outer s H vs Q E hL hr h=>?_
 have hu:=hr.units;exact⟨_,(av (dY (cu (j1 (K:=K) rfl hu) (cG (dw (K:=K) rfl) rfl gA zaE (aa (aQ (aB (K:=K) rfl) (pv 0) aw (λ_ _=>rfl)) ax)) aw (cF _))
   (aO iX)
   cq)
   (aO (bK (Gm (k:=1) (fr:=[("pile",0)]) ⟨rfl,rfl,rfl,rfl,rfl,rfl,by decide+kernel⟩ hL (hr.mono (by omega)) rfl Af (aQ (aB (K:=K) rfl) (pv 0) aw (λ_ _=>rfl)) (λ_ _ _ _=>(bQ cW (hr.lam (by omega) _) (aa (aQ (aB (K:=K) rfl) (pv 1) aw (λ_ _=>rfl)) (aa (pv 0) ax)))) (λ_ _ _ _ _=>rfl))))),
   gD (n:=1) (k:=0) (eW (l9 (bH (ay vC (dE ma (aC (ay b7 af aH) aV)) aH))
   jZ
   fZ)
   (eX (Gn (ay b7 af aH) (cC (aC (ay b7 af aH) (aC af aV)))))) rfl h⟩
theorem Hj(Z:fP mg)(T:Top K mg "hang" yI) :Def P w K mg base CX0 1 "hang" ["held","name","on"] (spQ t9):=by
 refine T.def uJ (λvs H Q E h=>fB h) (λ_ _ _ _ _ _ us hl=>match us,hl with| [_,_,_],_=>rfl) λf cdv A outer s H vs Q E hr h=>?_
 have hu:=hr.units;exact⟨_,(av (bz (i:=3) uJ.nd rfl (by walk_at "l") (bZ (hv1 hu) (pv 0) (pv 1) (λ_ _=>rfl)))
   (av (dW (hv1 hu) (pv 0) (pv 1) (bG (aa (aQ (aB (K:=K) rfl) (pv 3) aw (λ_ _=>rfl)) (aa (pv 2) (aa pe (aa (aQ (aB (K:=K) rfl) (pv 3) aw (λ_ _=>rfl)) ax))))) rfl)
   (av (bz (i:=3) uJ.nd rfl (by walk_at "l") (bZ (hv1 hu) (pv 0) (pv 2) (λ_ _=>rfl)))
   (aO (dW (hv1 hu) (pv 0) (pv 2) (bG (aa (aQ (aB (K:=K) rfl) (pv 3) aw (λ_ _=>rfl)) (aa (aQ (aB (K:=K) rfl) (pv 3) aw (λ_ _=>rfl)) (aa (aQ (aB (K:=K) rfl) (pv 3) aw (λ_ _=>rfl)) (aa (bO (DN (K:=K) rfl) (aQ (aB (K:=K) rfl) (pv 3) aw (λ_ _=>rfl)) (bG (aa (pv 1) ax))) ax))))) rfl))))),
   fA (n:=3) (k:=1) (aU (bM (cM (ay dQ af af)) bq)
   (aU (gg aE aE (cA (ak (dF aE (b9 λ_=>.int _)) (ak aE (ak (b9 λ_=>.bl _) (ak (dF aE (b9 λ_=>.int _)) aW))))))
   (aU (bM (cM (ay dQ af af)) bq)
   (gg aE aE (cA (ak (dF aE (b9 λ_=>.int _)) (ak (dF aE (b9 λ_=>.int _)) (ak (dF aE (b9 λ_=>.int _)) (ak (cM (ay Kb (ay b7 af aH) (iM (aC af aV)))) aW))))))))) rfl h⟩
theorem rf(Z:fP mg)(T:Top K mg "hang_alike" jK)(yN:Def P w K mg base CX0 1 "hang" ["held","name","on"] (spQ t9))(cW:Def P w K mg base CX0 1 "standing" ["held","name"] (spM bV)):Def P w K mg base CX0 2 "hang_alike" ["pile"] (spQ gP):=by
 have gA:mg "len"=none:=Z _ (by decide+kernel)
 have dD:mg "dict"=none:=Z _ (by decide+kernel)
 refine T.def cg (λvs H Q E h=>fB h) (λ_ _ _ _ _ _ us hl=>match us,hl with| [_],_=>rfl) λf cdv A outer s H vs Q E hr h=>?_
 have hu:=hr.units;exact⟨_,(av (bz (i:=1) cg.nd rfl (by walk_at "l") (cQ dk rfl dD PyProof.Rows.boot_dict (aa (aQ (aB (K:=K) rfl) (pv 0) aw (λ_ _=>rfl)) ax)))
   (av (bz (i:=2) cg.nd rfl (by walk_at "l") i6)
   (av (bz (i:=3) cg.nd rfl (by walk_at "l") (jk ax))
   (av (lx PassesOwn.never rfl (j2 (K:=K) rfl (aQ (aB (K:=K) rfl) (pv 0) aw (λ_ _=>rfl))) (bX (i:=4) cg.nd rfl (by walk_at "l"))
   (av (bz (i:=5) cg.nd rfl (by walk_at "l") (pv 4))
   (av (vd PassesOwn.never (pj (qd (hv1 hu) (cG (dw (K:=K) rfl) rfl gA zaE (aa (aQ (aB (K:=K) rfl) (bZ (hv1 hu) (pv 1) (pv 5) (λ_ _=>rfl)) aw (λ_ _=>rfl)) ax)) (pv 2)))
   (av (bz (i:=6) cg.nd rfl (by walk_at "l") (iP (K:=K) rfl PySem.F.plainAttrs_dict PySem.F.slot_dict_pop PySem.F.type_dict_pop oX (pv 2) (aa (cG (dw (K:=K) rfl) rfl gA zaE (aa (aQ (aB (K:=K) rfl) (bZ (hv1 hu) (pv 1) (pv 5) (λ_ _=>rfl)) aw (λ_ _=>rfl)) ax)) ax)))
   (av (dY (cu (JU (K:=K) rfl (Nat.lt_of_le_of_lt (Nat.le_add_right _ _) hu)) (bQ cW (hr.mono (by omega)) (aa (pv 1) (aa (pv 6) ax))) (bQ cW (hr.mono (by omega)) (aa (pv 1) (aa (pv 5) ax))) (cF _))
   (av (bz (i:=7) cg.nd rfl (by walk_at "l") (pv 6))
   (av (bz (i:=6) cg.nd rfl (by walk_at "l") (pv 5))
   (aO (bz (i:=5) cg.nd rfl (by walk_at "l") (pv 7)))))
   cq)
   (av (fq (bQ yN (hr.mono (by omega)) (aa (pv 1) (aa (pv 6) (aa (pv 5) ax)))))
   (aO (fq (iP (K:=K) rfl zaJ zaV zaU iY (pv 3) (aa (bG (aa fR (aa (pv 6) (aa (pv 5) ax)))) ax))))))))
   (aO (dW (hv1 hu) (pv 2) (cG (dw (K:=K) rfl) rfl gA zaE (aa (aQ (aB (K:=K) rfl) (bZ (hv1 hu) (pv 1) (pv 5) (λ_ _=>rfl)) aw (λ_ _=>rfl)) ax)) (pv 5) rfl)))))
   (aO (bK (bG (aa (bG (aa (rD (fr:=[("held",1)]) rfl ⟨rfl,rfl,rfl,rfl,rfl,rfl,by decide+kernel⟩ (j2 (K:=K) rfl (aQ (aB (K:=K) rfl) (pv 0) aw (λ_ _=>rfl))) (λ_ _ _ _=>(oP (cu sM (aQ (aB (K:=K) rfl) (bZ (hv1 hu) (pv 1) (pv 0) (λ_ _=>rfl)) aw (λ_ _=>rfl)) gB (cF _)))) (λ_ _ _ _=>(pv 0))) (aa (pv 1) ax))) (aa (pv 3) ax))))))))),
   fA (n:=1) (k:=7) (aU (bM (cM (dE f9 (aC (ay b7 af aH) aV))) bq)
   (aU (bM (cM kI) bq)
   (aU (bM (ny aW) bq)
   (aU (zz (dF aE (b9 λ_=>.int _)) bq
   (aU (bM aE bq)
   (aU (C3 (mj (bH (ay vT (dE ma (aC (ay b7 (ay dQ af af) aH) aV)) af)))
   (aU (bM (oY aE (ak (cM (dE ma (aC (ay b7 (ay dQ af af) aH) aV))) aW)) bq)
   (aU (i4 (mj (bH (ay LQ (cC (aC af (aC af aV))) (cC (aC af (aC af aV))))))
   (aU (bM aE bq)
   (aU (bM aE bq)
   (bM aE bq)))
   eR)
   (aU (f7 (c9 (ak aE (ak aE (ak aE aW)))))
   (f7 (tM aE (ak (cA (ak (b9 λ_=>.str _) (ak aE (ak aE aW)))) aW)))))))
   (gg aE (cM (dE ma (aC (ay b7 (ay dQ af af) aH) aV))) aE))))
   (dN (cA (ak (cA (ak (cM (vy (sZ (ay b7 af aH)) (bH (ay Fy (ay b7 (ay dQ af af) aH) jn)) af)) (ak aE aW))) (ak aE aW)))))))) rfl h⟩
theorem wZ(Z:fP mg)(T:Top K mg "take_top" lQ)(jN:Def P w K mg base CX0 2 "hang_alike" ["pile"] (spQ gP))(ji:Def P w K mg base CX0 1 "as_top" ["row"] (spM je)):Def P w K mg base CX0 3 "take_top" ["pile","name"] (spQ eZ):=by
 have dD:mg "dict"=none:=Z _ (by decide+kernel)
 refine T.def eu (λvs H Q E h=>fB h) (λ_ _ _ _ _ _ us hl=>match us,hl with| [_,_],_=>rfl) λf cdv A outer s H vs Q E hr h=>?_
 have hu:=hr.units;exact⟨_,(av (bz (i:=2) eu.nd rfl (by walk_at "l") (cQ dk rfl dD PyProof.Rows.boot_dict (aa (aQ (aB (K:=K) rfl) (pv 0) aw (λ_ _=>rfl)) ax)))
   (av (bz (i:=3) eu.nd rfl (by walk_at "l") (iP (K:=K) rfl PySem.F.plainAttrs_dict PySem.F.slot_dict_pop PySem.F.type_dict_pop oX (pv 2) (aa (pv 1) ax)))
   (av (vo (i0:=4) (fr:=[("name",1)]) rfl eu.nd rfl (by walk_at "l") ⟨rfl,rfl,rfl,rfl,rfl,rfl,by decide+kernel⟩ (j2 (K:=K) rfl (aQ (aB (K:=K) rfl) (pv 0) aw (λ_ _=>rfl))) (λ_ _ _ _=>(oP (cu (CG (K:=K) rfl hu) (pv 0) (pv 1) (cF _)))) (λ_ _ _ _=>(pv 0)))
   (av (bz (i:=5) eu.nd rfl (by walk_at "l") (jk ax))
   (av (lx PassesOwn.never rfl (zm (K:=K) rfl (aQ (aB (K:=K) rfl) (pv 3) aw (λ_ _=>rfl))) (bX (i:=6) eu.nd rfl (by walk_at "l"))
   (av (dW (hv1 hu) (pv 2) (pv 6) (bQ ji (hr.mono (by omega)) (aa (bZ (hv1 hu) (pv 2) (pv 6) (λ_ _=>rfl)) ax)) rfl)
   (av (fq (iP (K:=K) rfl zaJ zaV zaU iY (pv 4) (aa (pv 6) ax)))
   (aO (fq (iP (K:=K) rfl zaJ zaV zaU iY (pv 5) (aa (bG (aa fR (aa (pv 6) ax))) ax)))))))
   (av (bz (i:=7) eu.nd rfl (by walk_at "l") (bQ jN (hr.mono (by omega)) (aa (bG (aa (pv 4) (aa (pv 2) ax))) ax)))
   (aO (bK (bG (aa (aQ (aB (K:=K) rfl) (pv 3) aw (λ_ _=>rfl)) (aa (aQ (aB (K:=K) rfl) (pv 7) aw (λ_ _=>rfl)) (aa (bO (f6 (K:=K) rfl) (pv 5) (aQ (aB (K:=K) rfl) (pv 7) aw (λ_ _=>rfl))) ax)))))))))))),
   fA (n:=2) (k:=6) (aU (bM (cM (dE f9 (aC (ay b7 af aH) aV))) bq)
   (aU (bM (oY aE (ak aE aW)) bq)
   (aU (bM (cM (vy (sZ (ay b7 af aH)) (bH (ay Lq af af)) af)) bq)
   (aU (bM (ny aW) bq)
   (aU (C5 (Ju (ay b7 af aH)) bq
   (aU (gg aE aE (cM (cC (aC (ay dQ af af) aV))))
   (aU (f7 (tM aE (ak aE aW)))
   (f7 (tM aE (ak (cA (ak (b9 λ_=>.str _) (ak aE aW))) aW))))))
   (aU (bM (c9 (ak (cA (ak aE (ak aE aW))) aW)) bq)
   (dN (cA (ak (dF aE (b9 λ_=>.int _)) (ak (dF aE (b9 λ_=>.int _)) (ak (cM (ay j0 af (ay b7 af aH))) aW))))))))))) rfl h⟩
theorem rg(Z:fP mg)(T:Top K mg "take_least" jL)(fc:Def P w K mg base CX0 3 "take_top" ["pile","name"] (spQ eZ))(jO:Def P w K mg base CX0 4 "least_name" ["pile"] (spM gO)):Def P w K mg base CX0 5 "take_least" ["pile"] (spQ gQ):=by
 refine T.def iU (λvs H Q E h=>fB h) (λ_ _ _ _ _ _ us hl=>match us,hl with| [_],_=>rfl) λf cdv A outer s H vs Q E hr h=>?_
 have hu:=hr.units;exact⟨_,(av (bz (i:=1) iU.nd rfl (by walk_at "l") (bQ jO (hr.mono (by omega)) (aa (pv 0) ax)))
   (av (bz (i:=2) iU.nd rfl (by walk_at "l") (bQ fc (hr.mono (by omega)) (aa (pv 0) (aa (pv 1) ax))))
   (aO (bK (bG (aa (pv 1) (aa (aQ (aB (K:=K) rfl) (pv 2) aw (λ_ _=>rfl)) (aa (aQ (aB (K:=K) rfl) (pv 2) aw (λ_ _=>rfl)) (aa (aQ (aB (K:=K) rfl) (pv 2) aw (λ_ _=>rfl)) ax))))))))),
   fA (n:=1) (k:=2) (aU (bM (cM (cC (aC af aV))) bq)
   (aU (bM (c9 (ak aE (ak aE aW))) bq)
   (dN (cA (ak aE (ak (dF aE (b9 λ_=>.int _)) (ak (dF aE (b9 λ_=>.int _)) (ak (dF aE (b9 λ_=>.int _)) aW)))))))) rfl h⟩
theorem yO(Z:fP mg)(T:Top K mg "put_out" nU)(fc:Def P w K mg base CX0 3 "take_top" ["pile","name"] (spQ eZ))(hE:Def P w K mg base CX0 2 "cut_off" ["pile","name"] (spQ g8))(eF:Def P w K mg base CX0 1 "hold_there" ["pile","name"] (spM dc)):Def P w K mg base CX0 4 "put_out" ["pile","name"] (spQ kM):=by
 refine T.def lR (λvs H Q E h=>fB h) (λ_ _ _ _ _ _ us hl=>match us,hl with| [_,_],_=>rfl) λf cdv A outer s H vs Q E hr h=>?_
 have hu:=hr.units;exact⟨_,(av (fq (bQ eF (hr.mono (by omega)) (aa (pv 0) (aa (pv 1) ax))))
   (av (dY (cu sM (aQ (aB (K:=K) rfl) (bZ (hv1 hu) (aQ (aB (K:=K) rfl) (pv 0) aw (λ_ _=>rfl)) (pv 1) (λ_ _=>rfl)) aw (λ_ _=>rfl)) gB (cF _))
   (aO (bK (bQ fc (hr.mono (by omega)) (aa (pv 0) (aa (pv 1) ax)))))
   cq)
   (av (bz (i:=2) lR.nd rfl (by walk_at "l") (bQ hE (hr.mono (by omega)) (aa (pv 0) (aa (pv 1) ax))))
   (av (bz (i:=3) lR.nd rfl (by walk_at "l") (bQ fc (hr.mono (by omega)) (aa (aQ (aB (K:=K) rfl) (pv 2) aw (λ_ _=>rfl)) (aa (pv 1) ax))))
   (aO (bK (bG (aa (aQ (aB (K:=K) rfl) (pv 3) aw (λ_ _=>rfl)) (aa (aQ (aB (K:=K) rfl) (pv 3) aw (λ_ _=>rfl)) (aa (bO (f6 (K:=K) rfl) (aQ (aB (K:=K) rfl) (pv 2) aw (λ_ _=>rfl)) (aQ (aB (K:=K) rfl) (pv 3) aw (λ_ _=>rfl))) ax)))))))))),
   fA (n:=2) (k:=2) (aU (f7 (cM (cC (aC af (aC af aV)))))
   (aU (i4 (mj (bH (ay Fy (ay b7 (ay dQ (ay b7 af aH) af) aH) jn)))
   (dN (c9 (ak aE (ak aE aW))))
   eR)
   (aU (bM (c9 (ak aE (ak aE aW))) bq)
   (aU (bM (c9 (ak (dF aE (b9 λ_=>.int _)) (ak aE aW))) bq)
   (dN (cA (ak (dF aE (b9 λ_=>.int _)) (ak (dF aE (b9 λ_=>.int _)) (ak (cM (ay j0 (ay b7 af aH) (ay b7 af aH))) aW))))))))) rfl h⟩
theorem w6(Z:fP mg)(T:Top K mg "_law_made" lS)(kD:Def P w K mg base CX0 3 "make_less" ["pile","name","key"] (spQ ee))(nX:Def P w K mg base CX0 4 "put_out" ["pile","name"] (spQ kM))(jP:Def P w K mg base CX0 5 "take_least" ["pile"] (spQ gQ))(gY:Def P w K mg base CX0 1 "_law_key_by" ["_law_number"] (spM eD))(gi:Def P w K mg base CX0 1 "_law_name_by" ["_law_k"] (spM dR))(kE:Def P w K mg base CX0 2 "pile_put" ["pile","name","key"] (spD jz)):Def P w K mg base CX0 6 "_law_made" ["_law_pile","_law_plain","_law_k","_law_cell"] (spQ jA):=by
 have Af:mg "min"=none:=Z _ (by decide+kernel)
 have gA:mg "len"=none:=Z _ (by decide+kernel)
 have w8:mg "sorted"=none:=Z _ (by decide+kernel)
 have dD:mg "dict"=none:=Z _ (by decide+kernel)
 refine T.def gz (λvs H Q E h=>fB h) (λ_ _ _ _ _ _ us hl=>match us,hl with| [_,_,_,_],_=>rfl) λf cdv A outer s H vs Q E hr h=>?_
 have hu:=hr.units;exact⟨_,(av (bz (i:=4) gz.nd rfl (by walk_at "l") (bO fY (pv 3) aw))
   (av (bz (i:=1) gz.nd rfl (by walk_at "l") (cQ dk rfl dD PyProof.Rows.boot_dict (aa (pv 1) ax)))
   (av (dY (PW.pt (yW (cu (GF (Nat.lt_of_le_of_lt (Nat.le_add_right _ _) hu)) (pv 1) i6 (cF _)) (xi (cu Hm (bO d3 (pv 3) aw) aw (cF _)))))
   (av (dW (hv1 hu) (pv 1) (bQ gi (hr.mono (by omega)) (aa (pv 2) ax)) (bQ gY (hr.mono (by omega)) (aa (pv 4) ax)) rfl)
   (aO (bK (bG (aa (bQ kE (hr.mono (by omega)) (aa (pv 0) (aa (bQ gi (hr.mono (by omega)) (aa (pv 2) ax)) (aa (bQ gY (hr.mono (by omega)) (aa (pv 4) ax)) ax)))) (aa (pv 1) ax))))))
   cq)
   (av (bz (i:=5) gz.nd rfl (by walk_at "l") (cG (tZ rfl) rfl w8 PyProof.Rows.boot_sorted (aa (pv 1) ax)))
   (av (bz (i:=6) gz.nd rfl (by walk_at "l") (aQ (aB (K:=K) rfl) (pv 5) (bO d3 (pv 4) (cG (dw (K:=K) rfl) rfl gA zaE (aa (pv 5) ax))) (λ_ _=>rfl)))
   (av (dY (cu (j1 (K:=K) rfl hu) (bO d3 (pv 3) aw) aw (cF _))
   (av (fq (iP (K:=K) rfl PySem.F.plainAttrs_dict PySem.F.slot_dict_pop PySem.F.type_dict_pop oX (pv 1) (aa (aQ (aB (K:=K) rfl) (cG (A5 (K:=K) rfl rfl (hv1 hu)) rfl Af PyProof.Rows.boot_min (aa (zH (rD (fr:=[("_law_plain",1)]) rfl ⟨rfl,rfl,rfl,rfl,rfl,rfl,by decide+kernel⟩ (mw (pv 1)) (λ_ _ _ _=>l6) (λ_ _ _ _=>(bG (aa (bZ (hv1 hu) (pv 1) (pv 0) (λ_ _=>rfl)) (aa (pv 0) ax)))))) ax)) aw (λ_ _=>rfl)) ax)))
   (aO (bK (bG (aa (aQ (aB (K:=K) rfl) (bQ jP (hr.mono (by omega)) (aa (pv 0) ax)) aw (λ_ _=>rfl)) (aa (pv 1) ax))))))
   cq)
   (av (dY (cu (j1 (K:=K) rfl hu) (bO d3 (pv 3) aw) aw (cF _))
   (av (fq (iP (K:=K) rfl PySem.F.plainAttrs_dict PySem.F.slot_dict_pop PySem.F.type_dict_pop oX (pv 1) (aa (pv 6) ax)))
   (aO (bK (bG (aa (aQ (aB (K:=K) rfl) (bQ nX (hr.mono (by omega)) (aa (pv 0) (aa (pv 6) ax))) aw (λ_ _=>rfl)) (aa (pv 1) ax))))))
   cq)
   (av (dW (hv1 hu) (pv 1) (pv 6) (bO pz (bO pz (bZ (hv1 hu) (pv 1) (pv 6) (λ_ _=>rfl)) aw) (bO d3 (pv 4) (bO xp aw aw))) rfl)
   (aO (bK (bG (aa (aQ (aB (K:=K) rfl) (bQ kD (hr.mono (by omega)) (aa (pv 0) (aa (pv 6) (aa (bZ (hv1 hu) (pv 1) (pv 6) (λ_ _=>rfl)) ax)))) aw (λ_ _=>rfl)) (aa (pv 1) ax))))))))))))),
   fA (n:=4) (k:=3) (aU (bM (cM (ay J_I af aH)) bq)
   (aU (bM (cM (dE f9 (aC af aV))) bq)
   (aU (i4 (mj (zf (bH (ay Kj af kI)) (bH (ay Fx (ay J_I af aH) aH))))
   (aU (gg aE (cM (cC (aC af aV))) (cM (cC (aC af aV))))
   (dN (cA (ak (Dv (ak aE (ak (cM (cC (aC af aV))) (ak (cM (cC (aC af aV))) aW)))) (ak aE aW)))))
   eR)
   (aU (bM (cM (dE Bl (aC af aV))) bq)
   (aU (bM (dF aE (cM (ay J_I af (dE ma (aC af aV))))) bq)
   (aU (i4 (mj (bH (ay vC (ay J_I af aH) aH)))
   (aU (f7 (oY aE (ak (cM (ay b7 (dE JW (aC (xT i8 pH (iM (aC (ay dQ af af) (aC af aV)))) aV)) aH)) aW)))
   (dN (cA (ak (dF (c9 (ak aE aW)) (b9 λ_=>.int _)) (ak aE aW)))))
   eR)
   (aU (i4 (mj (bH (ay vC (ay J_I af aH) aH)))
   (aU (f7 (oY aE (ak aE aW)))
   (dN (cA (ak (dF (c9 (ak aE (ak aE aW))) (b9 λ_=>.int _)) (ak aE aW)))))
   eR)
   (aU (gg aE aE (cM (ay CB (ay CB (ay dQ af af) aH) (ay J_I af (ay J_I aH aH)))))
   (dN (cA (ak (dF (c9 (ak aE (ak aE (ak (cM (ay dQ af af)) aW)))) (b9 λ_=>.int _)) (ak aE aW)))))))))))) rfl h⟩
theorem w9(Z:fP mg)(T:Top K mg "_law_keys" lT) :Def P w K mg base CX0 1 "_law_keys" ["_law_pile"] (spM iq):=by
 refine T.def iI (λvs H Q E h=>eQ h) (λ_ _ _ _ _ _ us hl=>match us,hl with| [_],_=>rfl) λf cdv A outer s H vs Q E hr h=>?_
 have hu:=hr.units;exact⟨_,(av (bz (i:=1) iI.nd rfl (by walk_at "l") i6)
   (av (tR (lx PassesOwn.never rfl (Dn (aQ (aB (K:=K) rfl) (pv 0) aw (λ_ _=>rfl))) (kF rfl (cy (bX (i:=2) iI.nd rfl (by walk_at "l")) (cy (bX (i:=3) iI.nd rfl (by walk_at "l")) jj)))
   (aO (dW (hv1 hu) (pv 1) (pv 2) (aQ (aB (K:=K) rfl) (pv 3) aw (λ_ _=>rfl)) rfl))))
   (aO (bK (pv 1))))),
   gD (n:=1) (k:=3) (eW (ia kI)
   (eW (Gh (oW (j:=1) i8) (FK (vB oR (vB oR Ft)))
   (oV (i:=1) (ay b7 af aH) af))
   (eX af))) rfl h⟩
theorem xa(Z:fP mg)(T:Top K mg "_law_copy" lU) :Def P w K mg base CX0 1 "_law_copy" ["_law_pile"] (spQ ir):=by
 have dD:mg "dict"=none:=Z _ (by decide+kernel)
 have uO:mg "list"=none:=Z _ (by decide+kernel)
 refine T.def wX (λvs H Q E h=>fB h) (λ_ _ _ _ _ _ us hl=>match us,hl with| [_],_=>rfl) λf cdv A outer s H vs Q E hr h=>?_
 have hu:=hr.units;exact⟨_,(aO (bK (bG (aa (cQ (pM (K:=K) rfl) rfl uO PyProof.Rows.boot_list (aa (aQ (aB (K:=K) rfl) (pv 0) aw (λ_ _=>rfl)) ax)) (aa (cQ dk rfl dD PyProof.Rows.boot_dict (aa (aQ (aB (K:=K) rfl) (pv 0) aw (λ_ _=>rfl)) ax)) ax))))),
   fA (n:=1) (k:=0) (dN (cA (ak (cM (dE CC (aC (ay b7 af aH) aV))) (ak (cM (dE f9 (aC (ay b7 af aH) aV))) aW)))) rfl h⟩
theorem qI(Z:fP mg)(T:Top K mg "pile_credit" iV) :Def P w K mg base CX0 1 "pile_credit" ["pile"] (spM dq):=by
 have gA:mg "len"=none:=Z _ (by decide+kernel)
 refine T.def kB (λvs H Q E h=>eQ h) (λ_ _ _ _ _ _ us hl=>match us,hl with| [_],_=>rfl) λf cdv A outer s H vs Q E hr h=>?_
 have hu:=hr.units;exact⟨_,(av (tR (vo (i0:=1) (fr:=[("pile",0)]) rfl kB.nd rfl (by walk_at "l") ⟨rfl,rfl,rfl,rfl,rfl,rfl,by decide+kernel⟩ (mw (aQ (aB (K:=K) rfl) (pv 0) aw (λ_ _=>rfl))) (λ_ _ _ _=>(oP (m3 (aQ (aB (K:=K) rfl) (bZ (hv1 hu) (aQ (aB (K:=K) rfl) (pv 1) aw (λ_ _=>rfl)) (pv 0) (λ_ _=>rfl)) aw (λ_ _=>rfl))))) (λ_ _ _ _=>(pv 0))))
   (aO (bK (bO (f6 (K:=K) rfl) (cG (dw (K:=K) rfl) rfl gA zaE (aa (aQ (aB (K:=K) rfl) (pv 0) aw (λ_ _=>rfl)) ax)) (bO zl aw (cG (dw (K:=K) rfl) rfl gA zaE (aa (pv 1) ax))))))),
   gD (n:=1) (k:=1) (eW (ia (xT (oW (j:=1) i8) (rJ (ay b7 (ay dQ (ay b7 af aH) af) aH)) af))
   (eX (ay j0 (dE ma (aC (ay b7 af aH) aV)) (ay Hv aH (dE ma (aC af aV)))))) rfl h⟩
theorem KP(NL:oS K=true)(Z:fP mg)(F:Fun K "law" "law" Ac f fd)(gj:Def P w K mg base CX0 1 "pile_credit" ["pile"] (spM dq))(lV:Def P w K mg base CX0 1 "_law_copy" ["_law_pile"] (spQ ir))(lW:Def P w K mg base CX0 1 "_law_keys" ["_law_pile"] (spM iq))(jQ:Def P w K mg base CX0 2 "_law_poured" ["_law_one","_law_other","_law_plain","_law_others"] (spQ fD))(lX:Def P w K mg base CX0 6 "_law_made" ["_law_pile","_law_plain","_law_k","_law_cell"] (spQ jA))(nY:Def P w K mg base CX0 1 "no_pile" [] (spQ kK)):iz P w K mg base CX0 7 f fd ["_law_script"] (Cj K):=by
 have Ad:mg "all"=none:=Z _ (by decide+kernel)
 have gA:mg "len"=none:=Z _ (by decide+kernel)
 have oD:mg "enumerate"=none:=Z _ (by decide+kernel)
 refine iz.imp (sp:=spM Ih) ?_ (Jy NL EE);refine F.ok fb (λvs H Q E h=>F5 h) λcdv A outer s H vs Q E hr h=>?_
 have hu:=hr.units;exact⟨_,(av (bz (i:=1) fb.nd rfl (by walk_at "l") (jk (aa (bG (aa (Fd nY (hr.mono (by omega))) (aa (bG (aa (jk ax) (aa i6 ax))) (aa i6 ax)))) ax)))
   (av (lx PassesOwn.never rfl (Gf rfl oD (aa (Cb (CH (K:=K) rfl) (pv 0) EW (EX aw)) ax)) (kF rfl (cy (bX (i:=2) fb.nd rfl (by walk_at "l")) (cy (bX (i:=3) fb.nd rfl (by walk_at "l")) jj)))
   (av (sL (aQ (aB (K:=K) rfl) (pv 1) (bO d3 (bO fY (pv 3) aw) (cG (dw (K:=K) rfl) rfl gA zaE (aa (pv 1) ax))) (λ_ _=>rfl)) (kF rfl (cy (bX (i:=4) fb.nd rfl (by walk_at "l")) (cy (bX (i:=5) fb.nd rfl (by walk_at "l")) (cy (bX (i:=6) fb.nd rfl (by walk_at "l")) jj)))))
   (av (sL (aQ (aB (K:=K) rfl) (pv 1) (bO d3 (bO fY (pv 3) aw) (cG (dw (K:=K) rfl) rfl gA zaE (aa (pv 1) ax))) (λ_ _=>rfl)) (kF rfl (cy (bX (i:=7) fb.nd rfl (by walk_at "l")) (cy (bX (i:=8) fb.nd rfl (by walk_at "l")) (cy (bX (i:=9) fb.nd rfl (by walk_at "l")) jj)))))
   (av (dY (cu (j1 (K:=K) rfl hu) (bO d3 (pv 3) aw) aw (cF _))
   (av (sL (bQ jQ (hr.mono (by omega)) (aa (pv 4) (aa (pv 7) (aa (pv 6) (aa (pv 9) ax))))) (kF rfl (cy (bX (i:=10) fb.nd rfl (by walk_at "l")) (cy (bX (i:=11) fb.nd rfl (by walk_at "l")) (cy (bX (i:=12) fb.nd rfl (by walk_at "l")) jj)))))
   (aO (dY (xj (m3 (pv 10)))
   (aO (bK pe))
   cq)))
   (aO (sL (bQ lX (hr.mono (by omega)) (aa (pv 4) (aa (pv 6) (aa (pv 2) (aa (bO fY (pv 3) aw) ax))))) (kF rfl (cy (bX (i:=11) fb.nd rfl (by walk_at "l")) (cy (bX (i:=12) fb.nd rfl (by walk_at "l")) jj))))))
   (aO (dY (cu sN (pv 11) gB (cF _))
   (av (dY (cu (GG (K:=K) rfl hr) (bQ lW (hr.mono (by omega)) (aa (pv 11) ax)) (pv 12) (cF _))
   (aO (bK pe))
   cq)
   (aO (fq (iP (K:=K) rfl zaJ zaV zaU iY (pv 1) (aa (bG (aa (pv 11) (aa (bQ lV (hr.mono (by omega)) (aa (pv 11) ax)) (aa (pv 12) ax)))) ax)))))
   cq))))))
   (aO (bK (cG (rK (K:=K) rfl rfl) rfl Ad PyProof.Rows.boot_all (aa (J7 (fr:=[]) rfl ⟨⟨rfl,rfl,rfl,rfl,rfl,rfl,by decide+kernel⟩,rfl,rfl,by decide+kernel⟩ (yY (pv 1)) (λ_ _ _ _=>l6) (λ_ _ _ _=>(IH (oO (GD (K:=K) rfl hr) (pv 0) (pv 1) (cF _)) (IG (oO (j1 (K:=K) rfl hu) (bQ gj (hr.mono (by omega)) (aa (pv 0) ax)) (bQ gj (hr.mono (by omega)) (aa (pv 1) ax)) (cF _)))))) ax)))))),
   F4 (n:=1) (k:=12) (aU (bM (ny (ak (cA (ak (c9 aW) (ak (cA (ak (ny aW) (ak (cM kI) aW))) (ak (cM kI) aW)))) aW)) bq)
   (aU (C5 (GB (aC (Lj MR af Fo (Fp aH)) aV)) (mn (dy (dy mm)))
   (aU (bM (dF aE (HC J_I (cM (ay J_I af aH)) (zO (ak aE aW)))) (mn (dy (dy (dy mm)))))
   (aU (bM (dF aE (HC J_I (cM (ay J_I af aH)) (zO (ak aE aW)))) (mn (dy (dy (dy mm)))))
   (aU (i4 (mj (bH (ay vC (ay J_I af aH) aH)))
   (aU (bM (c9 (ak aE (ak aE (ak aE (ak aE aW))))) (mn (dy (dy (dy mm)))))
   (i4 (mj (xu (rJ af)))
   (dN (b9 λ_=>.bl _))
   eR))
   (bM (c9 (ak aE (ak aE (ak aE (ak (cM (ay J_I af aH)) aW))))) (mn (dy (dy mm)))))
   (i4 (mj (bH (ay tm af jn)))
   (aU (i4 (mj (bH (ay L4 (cC (aC af aV)) af)))
   (dN (b9 λ_=>.bl _))
   eR)
   (f7 (tM aE (ak (cA (ak aE (ak (c9 (ak aE aW)) (ak aE aW)))) aW))))
   eR)))))
   (dN (LG Hw (ak (Ka aE pH (Fl (ay L0 af af) (ay vC (cC (aC af aV)) (cC (aC af aV))))) aW))))) rfl h⟩
end
end K79
def PySem.W.Fast.tw14680703638472242564:Nat:=0
def PySem.W.Fast.tw4662924365215141988:Nat:=0
def PySem.W.Fast.tw245391212563804681:Nat:=0
def PySem.W.Fast.tw16677200247516591177:Nat:=0
def PySem.W.Fast.tw14357477319774955598:Nat:=0
def PySem.W.Fast.tw14541006662805179782:Nat:=0
def PySem.W.Fast.tw6496412905291393456:Nat:=0
def PySem.W.Fast.tw1776506643947087555:Nat:=0
def PySem.W.Fast.tw13959365565277127579:Nat:=0
def PySem.W.Fast.tw11956513848469488264:Nat:=0
def PySem.W.Fast.tw10280367436289111705:Nat:=0
def PySem.W.Fast.tw9404750299976042812:Nat:=0
def PySem.W.Fast.tw2569231303613994498:Nat:=0
open PySem PySem.W PyProof.Rows
set_option maxRecDepth 100000 in
set_option maxHeartbeats 0 in
theorem PySem.Challenge.cw_creditworks_k79_whole_elder_piles_holds : PySem.Challenge.rw_creditworks_k79_whole_elder_piles.Holds := by
 w_on;o_law;k_head;(case hw=>w_witness2)
 k_fill
 refine L2.Ck (l:=PySem.Challenge.rw_creditworks_k79_whole_elder_piles) (k:=7) (x:="_law_script") (st:=K79.Ac) rfl rfl ⟨rfl,by decide,by decide⟩ (λw h Y=>⟨PySem.W.km_in_of Y,L2.Gq (by kernel_rfl) (PySem.W.km_tabs_of Y)⟩) (λ_ _ _ _ _ _ _=>rfl) ?F
 case F=>
  intro w mg h KX G;have hK:(L2.gk (L2.KOf KX)).isSome=true:=by
   dsimp only[L2.KOf]
   kernel_rfl
  have BG:L2.Top (L2.KOf KX) mg "no_pile" K79.nP:=by
   dsimp only[L2.KOf];refine' L2.Top.mk' KX G ?a ?l ?c ?k
   (case a=>k_is);(case l=>k_is);(case c=>k_is);(case k=>k_is)
  have mZ:L2.Top (L2.KOf KX) mg "pour_piles" K79.gX:=by
   dsimp only[L2.KOf];refine' L2.Top.mk' KX G ?a ?l ?c ?k
   (case a=>k_is);(case l=>k_is);(case c=>k_is);(case k=>k_is)
  have uP:L2.Top (L2.KOf KX) mg "_law_poured" K79.jF:=by
   dsimp only[L2.KOf];refine' L2.Top.mk' KX G ?a ?l ?c ?k
   (case a=>k_is);(case l=>k_is);(case c=>k_is);(case k=>k_is)
  have uQ:L2.Top (L2.KOf KX) mg "_law_key_by" K79.jG:=by
   dsimp only[L2.KOf];refine' L2.Top.mk' KX G ?a ?l ?c ?k
   (case a=>k_is);(case l=>k_is);(case c=>k_is);(case k=>k_is)
  have ri:L2.Top (L2.KOf KX) mg "_law_name_by" K79.iT:=by
   dsimp only[L2.KOf];refine' L2.Top.mk' KX G ?a ?l ?c ?k
   (case a=>k_is);(case l=>k_is);(case c=>k_is);(case k=>k_is)
  have BH:L2.Top (L2.KOf KX) mg "is_name" K79.nQ:=by
   dsimp only[L2.KOf];refine' L2.Top.mk' KX G ?a ?l ?c ?k
   (case a=>k_is);(case l=>k_is);(case c=>k_is);(case k=>k_is)
  have yP:L2.Top (L2.KOf KX) mg "pile_put" K79.lO:=by
   dsimp only[L2.KOf];refine' L2.Top.mk' KX G ?a ?l ?c ?k
   (case a=>k_is);(case l=>k_is);(case c=>k_is);(case k=>k_is)
  have uR:L2.Top (L2.KOf KX) mg "hold_there" K79.jH:=by
   dsimp only[L2.KOf];refine' L2.Top.mk' KX G ?a ?l ?c ?k
   (case a=>k_is);(case l=>k_is);(case c=>k_is);(case k=>k_is)
  have qJ:L2.Top (L2.KOf KX) mg "names_to_cut" K79.iw:=by
   dsimp only[L2.KOf];refine' L2.Top.mk' KX G ?a ?l ?c ?k
   (case a=>k_is);(case l=>k_is);(case c=>k_is);(case k=>k_is)
  have BI:L2.Top (L2.KOf KX) mg "without" K79.nR:=by
   dsimp only[L2.KOf];refine' L2.Top.mk' KX G ?a ?l ?c ?k
   (case a=>k_is);(case l=>k_is);(case c=>k_is);(case k=>k_is)
  have EF:L2.Top (L2.KOf KX) mg "as_top" K79.qE:=by
   dsimp only[L2.KOf];refine' L2.Top.mk' KX G ?a ?l ?c ?k
   (case a=>k_is);(case l=>k_is);(case c=>k_is);(case k=>k_is)
  have xb:L2.Top (L2.KOf KX) mg "with_mark" K79.kz:=by
   dsimp only[L2.KOf];refine' L2.Top.mk' KX G ?a ?l ?c ?k
   (case a=>k_is);(case l=>k_is);(case c=>k_is);(case k=>k_is)
  have BJ:L2.Top (L2.KOf KX) mg "cut_off" K79.nS:=by
   dsimp only[L2.KOf];refine' L2.Top.mk' KX G ?a ?l ?c ?k
   (case a=>k_is);(case l=>k_is);(case c=>k_is);(case k=>k_is)
  have yQ:L2.Top (L2.KOf KX) mg "standing" K79.lP:=by
   dsimp only[L2.KOf];refine' L2.Top.mk' KX G ?a ?l ?c ?k
   (case a=>k_is);(case l=>k_is);(case c=>k_is);(case k=>k_is)
  have xc:L2.Top (L2.KOf KX) mg "make_less" K79.kA:=by
   dsimp only[L2.KOf];refine' L2.Top.mk' KX G ?a ?l ?c ?k
   (case a=>k_is);(case l=>k_is);(case c=>k_is);(case k=>k_is)
  have uS:L2.Top (L2.KOf KX) mg "least_name" K79.jJ:=by
   dsimp only[L2.KOf];refine' L2.Top.mk' KX G ?a ?l ?c ?k
   (case a=>k_is);(case l=>k_is);(case c=>k_is);(case k=>k_is)
  have KQ:L2.Top (L2.KOf KX) mg "hang" K79.yI:=by
   dsimp only[L2.KOf];refine' L2.Top.mk' KX G ?a ?l ?c ?k
   (case a=>k_is);(case l=>k_is);(case c=>k_is);(case k=>k_is)
  have uT:L2.Top (L2.KOf KX) mg "hang_alike" K79.jK:=by
   dsimp only[L2.KOf];refine' L2.Top.mk' KX G ?a ?l ?c ?k
   (case a=>k_is);(case l=>k_is);(case c=>k_is);(case k=>k_is)
  have yR:L2.Top (L2.KOf KX) mg "take_top" K79.lQ:=by
   dsimp only[L2.KOf];refine' L2.Top.mk' KX G ?a ?l ?c ?k
   (case a=>k_is);(case l=>k_is);(case c=>k_is);(case k=>k_is)
  have uU:L2.Top (L2.KOf KX) mg "take_least" K79.jL:=by
   dsimp only[L2.KOf];refine' L2.Top.mk' KX G ?a ?l ?c ?k
   (case a=>k_is);(case l=>k_is);(case c=>k_is);(case k=>k_is)
  have BK:L2.Top (L2.KOf KX) mg "put_out" K79.nU:=by
   dsimp only[L2.KOf];refine' L2.Top.mk' KX G ?a ?l ?c ?k
   (case a=>k_is);(case l=>k_is);(case c=>k_is);(case k=>k_is)
  have yS:L2.Top (L2.KOf KX) mg "_law_made" K79.lS:=by
   dsimp only[L2.KOf];refine' L2.Top.mk' KX G ?a ?l ?c ?k
   (case a=>k_is);(case l=>k_is);(case c=>k_is);(case k=>k_is)
  have yT:L2.Top (L2.KOf KX) mg "_law_keys" K79.lT:=by
   dsimp only[L2.KOf];refine' L2.Top.mk' KX G ?a ?l ?c ?k
   (case a=>k_is);(case l=>k_is);(case c=>k_is);(case k=>k_is)
  have yU:L2.Top (L2.KOf KX) mg "_law_copy" K79.lU:=by
   dsimp only[L2.KOf];refine' L2.Top.mk' KX G ?a ?l ?c ?k
   (case a=>k_is);(case l=>k_is);(case c=>k_is);(case k=>k_is)
  have rj:L2.Top (L2.KOf KX) mg "pile_credit" K79.iV:=by
   dsimp only[L2.KOf];refine' L2.Top.mk' KX G ?a ?l ?c ?k
   (case a=>k_is);(case l=>k_is);(case c=>k_is);(case k=>k_is)
  have Mo:L2.Top (L2.KOf KX) mg "law" K79.Ac:=by
   dsimp only[L2.KOf];refine' L2.Top.mk' KX G ?a ?l ?c ?k
   (case a=>k_is);(case l=>k_is);(case c=>k_is);(case k=>k_is)
  have Ad:mg "all"=none:=by
   refine' za0 KX G ?z
   (case z=>k_is)
  have Ir:mg "any"=none:=by
   refine' za0 KX G ?z
   (case z=>k_is)
  have dD:mg "dict"=none:=by
   refine' za0 KX G ?z
   (case z=>k_is)
  have oD:mg "enumerate"=none:=by
   refine' za0 KX G ?z
   (case z=>k_is)
  have mY:mg "isinstance"=none:=by
   refine' za0 KX G ?z
   (case z=>k_is)
  have gA:mg "len"=none:=by
   refine' za0 KX G ?z
   (case z=>k_is)
  have uO:mg "list"=none:=by
   refine' za0 KX G ?z
   (case z=>k_is)
  have Af:mg "min"=none:=by
   refine' za0 KX G ?z
   (case z=>k_is)
  have w8:mg "sorted"=none:=by
   refine' za0 KX G ?z
   (case z=>k_is)
  have Iu:mg "str"=none:=by
   refine' za0 KX G ?z
   (case z=>k_is)
  have Ae:mg "tuple"=none:=by
   refine' za0 KX G ?z
   (case z=>k_is)
  have Z:K79.fP mg:=by
   intro x hx;simp only[List.mem_cons,List.not_mem_nil,or_false]at hx;rcases hx with rfl|rfl|rfl|rfl|rfl|rfl|rfl|rfl|rfl|rfl|rfl<;>assumption
  have NL:Mir.oS (L2.KOf KX)=true:=by
   dsimp only[L2.KOf]
   first|rfl|kernel_rfl|k_is
  have CFF:∃fL,K79.CF (L2.KOf KX) mg fL:=by
   dsimp only[L2.KOf];refine' ⟨_,⟨?uK,PySem.W.mg_of KX G ?kU,⟨?BL,?BM,?BN,?BO,?BP,?BQ,?BR,?BS⟩,?h_Twice_Twice⟩⟩
   (case kU=>k_is)
   (case uK=>first|k_is|k_exc|rfl|kernel_rfl|decide+kernel)
   (case BL=>first|k_is|k_exc|rfl|kernel_rfl|decide+kernel)
   (case BM=>first|k_is|k_exc|rfl|kernel_rfl|decide+kernel)
   (case BN=>first|k_is|k_exc|rfl|kernel_rfl|decide+kernel)
   (case BO=>first|k_is|k_exc|rfl|kernel_rfl|decide+kernel)
   (case BP=>first|k_is|k_exc|rfl|kernel_rfl|decide+kernel)
   (case BQ=>first|k_is|k_exc|rfl|kernel_rfl|decide+kernel)
   (case BR=>first|k_is|k_exc|rfl|kernel_rfl|decide+kernel)
   (case BS=>first|k_is|k_exc|rfl|kernel_rfl|decide+kernel)
   (case h_Twice_Twice=>first|k_is|k_exc|rfl|kernel_rfl|decide+kernel)
  obtain⟨fL,cf⟩:=CFF;refine⟨Mo,λf fd Ff base kb gb=>?_⟩
  have nY:=K79.yJ (P:=zah) (w:=w) (base:=base) Z BG;have jM:=K79.qF (P:=zah) (w:=w) (base:=base) Z mZ cf;have iW:=K79.qG (P:=zah) (w:=w) (base:=base) Z mZ;have jQ:=K79.qY (P:=zah) (w:=w) (base:=base) Z uP cf jM iW;have gY:=K79.qZ (P:=zah) (w:=w) (base:=base) Z uQ;have gi:=K79.qH (P:=zah) (w:=w) (base:=base) Z ri;have nV:=K79.yK (P:=zah) (w:=w) (base:=base) Z BH;have kE:=K79.uL (P:=zah) (w:=w) (base:=base) Z yP nV;have eF:=K79.q0 (P:=zah) (w:=w) (base:=base) Z uR;have ix:=K79.oN (P:=zah) (w:=w) (base:=base) Z qJ;have nW:=K79.yL (P:=zah) (w:=w) (base:=base) Z BI;have ji:=K79.BF (P:=zah) (w:=w) (base:=base) Z EF;have kC:=K79.uM (P:=zah) (w:=w) (base:=base) Z xb;have hE:=K79.yM (P:=zah) (w:=w) (base:=base) Z BJ kC ji nW ix;have cW:=K79.wY (P:=zah) (w:=w) (base:=base) Z yQ;have kD:=K79.uN (P:=zah) (w:=w) (base:=base) Z xc hE cW eF;have jO:=K79.q9 (P:=zah) (w:=w) (base:=base) Z hK uS cW;have yN:=K79.Hj (P:=zah) (w:=w) (base:=base) Z KQ;have jN:=K79.rf (P:=zah) (w:=w) (base:=base) Z uT yN cW
  have fc:=K79.wZ (P:=zah) (w:=w) (base:=base) Z yR jN ji;have jP:=K79.rg (P:=zah) (w:=w) (base:=base) Z uU fc jO;have nX:=K79.yO (P:=zah) (w:=w) (base:=base) Z BK fc hE eF;have lX:=K79.w6 (P:=zah) (w:=w) (base:=base) Z yS kD nX jP gY gi kE;have lW:=K79.w9 (P:=zah) (w:=w) (base:=base) Z yT;have lV:=K79.xa (P:=zah) (w:=w) (base:=base) Z yU;have gj:=K79.qI (P:=zah) (w:=w) (base:=base) Z rj;exact K79.KP NL Z Ff gj lV lW jQ lX nY
