import PyProof.Rows.All
import Wide.All
import OpenK.AllK
import Wide.FinOn
import Lean
import PyProof.EqAt
import PyProof.EqKinds
import PyProof.TupleCall
import KE.KLam
import KE.KNestM
import KE.KTryMore
import PyProof.ZipIter
import KE.KDictLaws
import KE.KDictList
import PyProof.Rows.SetFrom
import PyProof.DictWalks
import PyProof.Rows.StrInSeq3
import PyProof.EnumMake
import PyProof.Rows.EnumRows
import PyProof.DictItems
import PyProof.FString5
import PyProof.MeetsDictList
import KE.KMinKey
import PyProof.StrWalks
import PyProof.NeKinds
import PyProof.FactsAll.dict_1
import PySem.Challenge.RW_creditworks_k73_put_and_poured

set_option Elab.async false
set_option linter.all false
set_option maxRecDepth 100000
noncomputable section
theorem zaa(h:o.bind f=some b):∃a,o=some a/\f a=some b:=Option.bind_eq_some_iff.mp h
theorem zab(h:o.map f=some b):∃a,o=some a/\f a=b:=Option.map_eq_some_iff.mp h
theorem zac{l:List α}(h:l[i]?=some a):∃h:i<l.length,l[i]=a:=List.getElem?_eq_some_iff.mp h
theorem zad(h:a∈[b]):a=b:=List.mem_singleton.mp h
theorem zae{s t:List α}(h:a∈s++t):a∈s\/a∈t:=List.mem_append.mp h
theorem zaf(h:a∈b::l):a=b\/a∈l:=List.mem_cons.mp h
abbrev zag:=PySem.W.Frag
abbrev zah:=PySem.Challenge.rw_creditworks_k73_put_and_poured.prog
section
open PySem PySem.Spec PyProof.Rows
def zai:=@Option.bind_some
def zaj:=@List.mem_of_getElem?
def zak:=@List.mem_cons_of_mem
def zal:=@List.length_map
def zam:=@Bool.false_ne_true
def zan:=@List.mem_append_right
def zao:=@List.getElem?_map
def zap:=@Nat.le_refl
def zaq:=@Heap.lt_size
def zar:=@Heap.get?_push_of_some
def zas:=@List.mem_cons_self
def zat:=@List.getElem?_cons_succ
def zau:=@List.length_append
def zav:=@List.getElem?_set_self
def zaw:=@List.length_cons
def zax:=@List.getElem?_append_left
def zay:=@List.cons_append
def zaz:=@List.map_cons
def zaA:=@List.getElem?_set_ne
def zaB:=@PyProof.Rows.boot_isinstance
def zaC:=@List.getElem?_eq_getElem
def zaD:=@List.append_assoc
def zaE:=@PySem.boot_len
def zaF:=@Nat.lt_of_lt_of_le
def zaG:=@List.eq_of_mem_replicate
def zaH:=@decide_eq_true
def zaI:=@wpAny_bind
def zaJ:=@PySem.F.plainAttrs_list
def zaK:=@List.size_toArray
def zaL:=@Heap.get?_push_size
def zaM:=@List.length_set
def zaN:=@List.getElem?_append_right
def zaO:=@decide_eq_false
def zaP:=@List.getElem?_cons_zero
def zaQ:=@Option.some.inj
def zaR:=@List.append_nil
def zaS:=@Nat.ne_of_lt
def zaT:=@Option.map_some
def zaU:=@PySem.F.type_list_append
def zaV:=@PySem.F.slot_list_append
def zaW:=@List.mem_append_left
def zaX:=@Nat.le_trans
def zaY:=@List.length_filter_le
def zaZ:=@wpAny_pure
def za0:=@PySem.W.mg_none_of
def za1:=@List.map_append
def za2:=@PyProof.Rows.boot_tuple
def za3:=@Nat.lt_irrefl
def za4:=@PySem.W.kia_one
def za5:=@PySem.mem_of_lookup
def za6:=@wpAny_mono
def za7:=@List.length_singleton
def za8:=@List.lookup_cons
def za9:=@List.Nodup.mem_erase_iff
def zba:=@Nat.le_of_not_lt
def zbb:=@List.drop_eq_getElem_cons
def zbc:=@List.replicate_succ
end
namespace L2
open PySem PySem.Spec PyProof.Rows
abbrev Key:=Sum Int Str
def qe:Key->Value->Bool
 | .inl k,v=>Value.isInt k v
 | .inr x,v=>Value.isStrOf x v
def L7(w:World):Key->Int
 | .inl k=>hashInt k
 | .inr x=>hashStr w x
theorem cZ:∀{k:Key} {v:Value},qe k v=true->(∃i t,k=Sum.inl i/\v=Value.int i t)\/(∃x t,k=Sum.inr x/\v=Value.str x t)
 | .inl i,v,h=>by
  obtain⟨t,e⟩:=Value.isInt_shape (k:=i) (v:=v) h;exact .inl ⟨i,t,rfl,e⟩
 | .inr x,v,h=>by
  obtain⟨t,e⟩:=Value.isStrOf_shape (x:=x) (v:=v) h;exact .inr ⟨x,t,rfl,e⟩
theorem AE(i:Int)(t:Tok):qe (.inl i) (.int i t)=true:=by simp[qe,Value.isInt]
theorem AF(x:Str)(t:Tok):qe (.inr x) (.str x t)=true:=by simp[qe,Value.isStrOf]
theorem Ir(a b:Int):decide ((Sum.inl a:Key)=Sum.inl b)=(a==b):=by
 by_cases e:a=b
 ·subst e;simp
 ·have h : ¬(Sum.inl a:Key)=Sum.inl b:=λq=>e (Sum.inl.inj q)
  rw[zaO h];exact(beq_eq_false_iff_ne.mpr e).symm
theorem Iu(a b:Str):decide ((Sum.inr a:Key)=Sum.inr b)=decide (a=b):=by
 by_cases e:a=b
 ·subst e;simp
 ·have h : ¬(Sum.inr a:Key)=Sum.inr b:=λq=>e (Sum.inr.inj q)
  rw[zaO h,zaO e]
theorem Iv(a:Int)(b:Str):decide ((Sum.inl a:Key)=Sum.inr b)=false:=zaO (λq=>nomatch q)
theorem Iw(a:Str)(b:Int):decide ((Sum.inr a:Key)=Sum.inl b)=false:=zaO (λq=>nomatch q)
def bY(prog:Program)(w:World):PySem.KeyKind prog w Key where
 is:=qe
 hash:=L7 w
 inj:=λv a b ha hb=>by
  rcases cZ ha with⟨i,t,rfl,rfl⟩|⟨x,t,rfl,rfl⟩
  ·rcases cZ hb with⟨j,u,rfl,e⟩|⟨y,u,rfl,e⟩
   ·injection e with e1 _;rw[e1]
   ·exact nomatch e
  ·rcases cZ hb with⟨j,u,rfl,e⟩|⟨y,u,rfl,e⟩
   ·exact nomatch e
   ·injection e with e1 _;rw[e1]
 byValue:=λk v h=>by
  rcases cZ h with⟨i,t,rfl,rfl⟩|⟨x,t,rfl,rfl⟩<;>rfl
 pyHash:=λhv h=>by
  rcases cZ hv with⟨i,t,rfl,rfl⟩|⟨x,t,rfl,rfl⟩
  ·exact wpAny_pyHash_int h
  ·exact wpAny_pyHash_str h
 eqBool:=λhu hv h=>by
  rcases cZ hu with⟨i,t,rfl,rfl⟩|⟨x,t,rfl,rfl⟩
  ·rcases cZ hv with⟨j,u,rfl,rfl⟩|⟨y,u,rfl,rfl⟩
   ·rw[Ir]at h;exact wpAny_eqBool_int h
   ·rw[Iv]at h;exact SeqAt.EqAt.int_str i t y u _ _ _ _ h
  ·rcases cZ hv with⟨j,u,rfl,rfl⟩|⟨y,u,rfl,rfl⟩
   ·rw[Iw]at h;exact SeqAt.EqAt.str_int x t j u _ _ _ _ h
   ·rw[Iu]at h;exact wpAny_eqBool_str h
 «strs»:=λk x t v h=>by
  rcases cZ h with⟨i,u,rfl,e⟩|⟨y,u,rfl,e⟩
  ·exact nomatch e
  ·injection e with e1 _
   subst e1;cases v<;>rfl
theorem xH(prog:Program)(w:World)(k:Key)(v:Value):(bY prog w).is k v=qe k v:=rfl
theorem vG(prog:Program)(w:World)(i:Int)(t:Tok):(bY prog w).is (.inl i) (.int i t)=true:=AE i t
theorem vH(prog:Program)(w:World)(x:Str)(t:Tok):(bY prog w).is (.inr x) (.str x t)=true:=AF x t
inductive V where
 |non|bl (b:Bool)|int (i:Int)|str (x:Str)|byt (b:Array UInt8)|flt (b:UInt64)|ref (a:Addr)|ty (n:String)
 deriving DecidableEq
def RelV:V->Value->Prop
 | .non,u=>u=Value.none
 | .bl b,u=>u=Value.bool b
 | .int i,u=>∃t,u=Value.int i t
 | .str x,u=>∃t,u=Value.str x t
 | .byt b,u=>∃t,u=Value.bytes b t
 | .flt b,u=>∃t,u=Value.float b t
 | .ref a,u=>u=Value.ref a
 | .ty n,u=>u=Value.type n
abbrev Vals:List V->List Value->Prop:=Paired RelV
theorem Vals.length(r:Vals xs us):xs.length=us.length:=Paired.length r
theorem Vals.get:∀{xs:List V} {us:List Value} {i:Nat} {x:V},Vals xs us->xs[i]?=some x->∃u,us[i]?=some u/\RelV x u
 |_,_,_,_,.nil,e=>by simp at e
 |_,_,0,_,.cons r _,e=>by simp at e;subst e;exact⟨_,rfl,r⟩
 |_,_,i+1,x,.cons _ t,e=>by
  obtain⟨u,h1,h2⟩:=Vals.get (i:=i) (x:=x) t (by simpa using e)
  exact⟨u,by simpa using h1,h2⟩
theorem Vals.set(r:RelV x u):∀{xs:List V} {us:List Value} (i:Nat),Vals xs us->Vals (xs.set i x) (us.set i u)
 |_,_,_,.nil=>.nil
 |_,_,0,.cons _ t=>.cons r t
 |_,_,i+1,.cons q t=>.cons q (Vals.set r i t)
theorem Vals.append:∀{xs ys:List V} {us ws:List Value},Vals xs us->Vals ys ws->Vals (xs++ys) (us++ws)
 |_,_,_,_,.nil,s=>s
 |_,_,_,_,.cons r t,s=>.cons r (Vals.append t s)
theorem Vals.take:∀{xs:List V} {us:List Value} (n:Nat),Vals xs us->Vals (xs.take n) (us.take n)
 |_,_,0,_=>.nil
 |_,_,_+1,.nil=>.nil
 |_,_,n+1,.cons r t=>.cons r (Vals.take n t)
theorem Vals.drop:∀{xs:List V} {us:List Value} (n:Nat),Vals xs us->Vals (xs.drop n) (us.drop n)
 |_,_,0,r=>r
 |_,_,_+1,.nil=>.nil
 |_,_,n+1,.cons _ t=>Vals.drop n t
theorem Vals.none_of:∀{xs:List V} {us:List Value} {i:Nat},Vals xs us->xs[i]?=none->us[i]?=none:=fun{xs us i} r e=>by
 have h1:=r.length;have h2:xs.length<=i:=List.getElem?_eq_none_iff.mp e;exact List.getElem?_eq_none_iff.mpr (by omega)
def me:Option V->Option Value->Prop
 |some v,some u=>RelV v u
 |none,none=>True
 |_,_=>False
def KV{κ:Type}:List (κ×V)->List (κ×Value)->Prop:=Paired λ(p : κ×V) (q : κ×Value)=>p.1=q.1/\RelV p.2 q.2
def kV:Key->V
 | .inl i=>.int i
 | .inr x=>.str x
inductive HO where
 |lst (xs:List V)
 |tup (xs:List V)
 |dK (kvs:List (Key×V))|dT (kvs:List (List Key×V))
 |set (S:Int->Bool) (n:Nat)
 |ins (C dx:Addr) (fs:List (Str×V))
 |own (x:Addr)
 |xd (fs:List (Str×V))
 |met (f x:Addr)
 |rng (lo hi:Int)
 |frz (o:Obj) (u:HO)
 |tbl (ps:Array Value)
 |ext (φ:Heap->Prop)
def Kp:HO->Prop
 | .tup _=>True
 | .tbl _=>True
 |_=>False
abbrev Hp:=Addr->Option HO
def upd(H:Hp)(a:Addr)(o:HO):Hp:=λb=>if b=a then some o else H b
theorem ar:upd H a o a=some o:=by unfold upd;rw[if_pos rfl]
theorem ao(h:b≠a):upd H a o b=H b:=by unfold upd;rw[if_neg h]
theorem KA{H:Hp}(h:H a=some o)(h':H b=some u)(d:o≠u):a≠b:=by
 intro e;subst e;rw[h]at h';exact d (zaQ h')
theorem eA{H:Hp}(h:H a=some o)(h':H b=none):a≠b:=by
 intro e;subst e;rw[h]at h';cases h'
section
variable(P:Program)(w:World)
def cb(H:Hp)(h:Heap)(a:Addr):HO->Prop
 | .lst xs=>xs.length<=sizeLine/\∃(its:List Value) (n:Nat),Vals xs its/\h.get? a=some {cls:=.type "list",data:=.seq its.toArray n}
 | .tup xs=>xs.length<=sizeLine/\∃its:List Value,Vals xs its/\IsTup h a its.toArray
 | .dK kvs=>kvs.length<=sizeLine/\(a==sysModules)=false/\∃vs,KV kvs vs/\h.DictOf (bY P w) a vs
 | .dT kvs=>kvs.length<=sizeLine/\(a==sysModules)=false/\∃xs:List (List Key×Addr×Value),
   Paired (λ(p:List Key×V) (q:List Key×Addr×Value)=>p.1=q.1/\H q.2.1=some (.tup (p.1.map kV))/\RelV p.2 q.2.2) kvs xs/\
   ∃o es ep,h.get? a=some o/\o.ExactDict/\o.data=.dict es ep/\es.toList=xs.map (entryOfKey (tupleKind (bY P w)))/\(xs.map (·.1)).Nodup
 | .set S n=>h.SetOf (intKind P w) a S n
 | .ins C dx fs=>H dx=some (.own a)/\fs.length<=1000/\dx≠a/\h.get? a=some (PySem.W.instObj C dx)/\
   ∃mA,h.Ns1 dx mA/\(∀f,me (fs.lookup f) (mA f))/\PySem.Within mA (fs.map (·.1))
 | .own _=>∃o,h.get? a=some o
 | .xd fs=>∃mA,h.Ns1 a mA/\∀f,me (fs.lookup f) (mA f)
 | .rng lo hi=>∃t u v,h.get? a=some {cls:=.type "range",data:=.fields #[.int lo t,.int hi u,.int 1 v]}
 | .frz o u=>h.get? a=some o/\cb H h a u
 | .tbl ps=>(ps[0]?=some .none/\∃q t,ps[1]?=some (.str q t)/\h.CodeRec (.ref a) q)\/
   (ps[0]?≠some .none/\∃qs,h.get? a=some {cls:=.none,data:=.fields qs}/\(qs=#[]\/∃c q t more,qs=#[ps.getD 0 .none,ps.getD 1 .none,.ref c]/\ps[2]?=some (.str q t)/\H c=some (.tbl (#[.none,.str q t]++more))))
 | .met f x=>h.get? a=some (PySem.W.methodObj (.ref f) (.ref x))
 | .ext φ=>φ h/\(∃o,h.get? a=some o)/\∀h1 h2:Heap,φ h1->(∀o,h1.get? a=some o->h2.get? a=some o)->φ h2
def HOk(H:Hp)(h:Heap):Prop:=∀a o,H a=some o->cb P w H h a o
end
section
variable{P:Program}{w:World}{H H':Hp}{h h':Heap}{a:Addr}{o:HO}
theorem cb.lt(x:cb P w H h a o):a<h.objs.size:=by
 cases o with
 |lst xs=>obtain⟨_,_,_,_,e⟩:=x;exact zaq e
 |tup xs=>obtain⟨_,_,_,p⟩:=x;exact p.lt
 |dK kvs=>obtain⟨_,_,_,_,o,_,_,e,_⟩:=x;exact zaq e
 |dT kvs=>obtain⟨_,_,_,_,o,_,_,e,_⟩:=x;exact zaq e
 |set S n=>obtain⟨o,_,_,_,e,_⟩:=x;exact zaq e
 |ins C dx fs=>obtain⟨_,_,_,e,_⟩:=x;exact zaq e
 |own y=>obtain⟨_,e⟩:=x;exact zaq e
 |xd fs=>obtain⟨_,⟨_,_,_,e,_⟩,_⟩:=x;exact zaq e
 |rng lo hi=>obtain⟨_,_,_,e⟩:=x;exact zaq e
 |frz ob u=>obtain⟨e,_⟩:=x;exact zaq e
 |tbl ps=>
  rcases x with⟨_,_,_,_,_,_,_,_,ec,e,_⟩|⟨_,_,e,_⟩
  ·cases ec;exact zaq e
  ·exact zaq e
 |met f y=>exact zaq (show h.get? a=some _ from x)
 |ext φ=>obtain⟨_,⟨_,e⟩,_⟩:=x;exact zaq e
theorem Paired.Iy:∀{l₁:List α} {l₂:List β},Paired F l₁ l₂->(∀a b,F a b->G a b)->Paired G l₁ l₂
 |_,_,.nil,_=>.nil
 |_,_,.cons r t,f=>.cons (f _ _ r) (Paired.Iy t f)
theorem cb.stay(x:cb P w H h a o)(k:∀b u,(b=a\/H b=some (.own a))->h.get? b=some u->h'.get? b=some u)
  (ho:∀b,H b=some (.own a)->H' b=some (.own a)) (ht:∀b u,Kp u->H b=some u->H' b=some u):cb P w H' h' a o:=by
 induction o with
 |lst xs=>obtain⟨z,its,n,r,e⟩:=x;exact⟨z,its,n,r,k _ _ (.inl rfl) e⟩
 |tup xs=>obtain⟨z,its,r,ob,e,c⟩:=x;exact⟨z,its,r,ob,k _ _ (.inl rfl) e,c⟩
 |dK kvs=>obtain⟨z,y,vs,r,ob,es,ep,e,c⟩:=x;exact⟨z,y,vs,r,ob,es,ep,k _ _ (.inl rfl) e,c⟩
 |dT kvs=>
  obtain⟨z,y,xs,r,ob,es,ep,e,c⟩:=x;exact⟨z,y,xs,Paired.Iy r λp q z=>⟨z.1,ht _ _ trivial z.2.1,z.2.2⟩,ob,es,ep,k _ _ (.inl rfl) e,c⟩
 |set S n=>obtain⟨ob,es,ep,t,e,c⟩:=x;exact⟨ob,es,ep,t,k _ _ (.inl rfl) e,c⟩
 |ins C dx fs=>
  obtain⟨d,z,ne,e,mA,⟨od,es,ep,e2,c⟩,r⟩:=x;exact⟨ho _ d,z,ne,k _ _ (.inl rfl) e,mA,⟨od,es,ep,k _ _ (.inr d) e2,c⟩,r⟩
 |own y=>obtain⟨ob,e⟩:=x;exact⟨ob,k _ _ (.inl rfl) e⟩
 |xd fs=>obtain⟨mA,⟨od,es,ep,e,c⟩,r⟩:=x;exact⟨mA,⟨od,es,ep,k _ _ (.inl rfl) e,c⟩,r⟩
 |rng lo hi=>obtain⟨t,u,v,e⟩:=x;exact⟨t,u,v,k _ _ (.inl rfl) e⟩
 |frz ob u ih=>obtain⟨e,q⟩:=x;exact⟨k _ _ (.inl rfl) e,ih q⟩
 |tbl ps=>
  rcases x with⟨e0,q,t,e1,c,o,vs,tk,ec,eo,ed⟩|⟨e0,qs,e,c⟩
  ·cases ec
   exact .inl ⟨e0,q,t,e1,_,o,vs,tk,rfl,k _ _ (.inl rfl) eo,ed⟩
  ·refine .inr ⟨e0,qs,k _ _ (.inl rfl) e,?_⟩
   rcases c with c|⟨c,q,t,m,e1,e2,e3⟩
   ·exact .inl c
   ·exact .inr ⟨c,q,t,m,e1,e2,ht _ _ trivial e3⟩
 |met f y=>
  have e:h.get? a=some (PySem.W.methodObj (.ref f) (.ref y)):=x;show h'.get? a=some (PySem.W.methodObj (.ref f) (.ref y));exact k a _ (.inl rfl) e
 |ext φ=>obtain⟨p,⟨o,e⟩,st⟩:=x;exact⟨st _ _ p λo q=>k _ _ (.inl rfl) q,⟨o,k _ _ (.inl rfl) e⟩,st⟩
theorem HOk.lt(x:HOk P w H h)(e:H a=some o):a<h.objs.size:=(x a o e).lt
theorem HOk.fresh(x:HOk P w H h)(e:h.objs.size<=a):H a=none:=by
 cases q:H a with
 |none=>rfl
 |some u=>exact absurd (zaF (x.lt q) e) (za3 _)
theorem HOk.kept(x:HOk P w H h)(k:∀b u,h.get? b=some u->h'.get? b=some u):HOk P w H h':=λa o e=>
 (x a o e).stay (λb u _ q=>k b u q) (λ_ q=>q) λ_ _ _ q=>q
theorem HOk.laid(x:HOk P w H h)(k:∀b u,h.get? b=some u->h'.get? b=some u)(hp:h.objs.size<=a)(new:cb P w (upd H a o) h' a o):HOk P w (upd H a o) h':=λb u e=>by
 have hn:=x.fresh hp
 by_cases hb:b=a
 ·subst hb;rw[ar]at e;cases e;exact new
 ·rw[ao hb]at e
  exact(x b u e).stay (λc v _ q=>k c v q) (λc q=>by rw[ao (eA q hn)];exact q) λc xs _ q=>by rw[ao (eA q hn)];exact q
end
def Rd(H:Hp)(a:Addr)(u:HO):Prop:=H a=some u\/∃o,H a=some (.frz o u)
theorem Rd.of(h:H a=some u):Rd H a u:=.inl h
theorem Rd.ok(r:Rd H a u)(x:HOk P w H h):cb P w H h a u:=by
 rcases r with r|⟨o,r⟩
 ·exact x a u r
 ·obtain⟨_,q⟩:=x a _ r
  exact q
def Mut:Option HO->Prop
 |some (.lst _)=>True
 |some (.dK _)=>True
 |some (.dT _)=>True
 |some (.set _ _)=>True
 |some (.ins _ _ _)=>True
 |some (.ext _)=>True
 |_=>False
section
variable{P:Program}{w:World}{H:Hp}{h h':Heap}{x e:Addr}{o':HO}
theorem HOk.write(ok:HOk P w H h)(mu:Mut (H x))(he:e=x\/H e=some (.own x))(k:∀b u,b≠e->h.get? b=some u->h'.get? b=some u)(heo:∃u,h'.get? e=some u)
  (new:cb P w (upd H x o') h' x o'):HOk P w (upd H x o') h':=λb u q=>by
 have vI:∀c y,H c=some (.own y)->c≠x:=λc y r z=>by subst z;rw[r]at mu;exact mu
 have MU:∀c xs,H c=some (.tup xs)->c≠x:=λc xs r z=>by subst z;rw[r]at mu;exact mu
 by_cases hb:b=x
 ·subst hb;rw[ar]at q;cases q;exact new
 ·rw[ao hb]at q
  by_cases hbe:b=e
  ·have q':H b=some (.own x):=by
    rcases he with z|z
    ·exact absurd (hbe.trans z) hb
    ·rw[hbe];exact z
   rw[q]at q';cases q'
   obtain⟨v,hv⟩:=heo;exact⟨v,by rw[hbe];exact hv⟩
  ·refine(ok b u q).stay (λc v hc r=>k c v ?_ r) (λc r=>by rw[ao (vI c b r)];exact r) λc v hk r=>by rw[ao (λz=>by subst z;rw[r]at mu;cases v<;>first|exact hk|exact mu)];exact r
   rcases hc with rfl|hc
   ·exact hbe
   ·rintro rfl
    rcases he with z|z
    ·exact vI c b hc z
    ·rw[hc]at z;cases z;exact hb rfl
end
structure Un(fs ex:List Addr)(H H':Hp)(h h':Heap):Prop where
 keep:∀b o,h.get? b=some o->H b=none->b∉fs->b∉ex->h'.get? b=some o
 slot:∀b o,h.get? b=some o->H b=none->b∈fs->b∉ex->∃sl,h'.get? b=some {o with slots:=sl}
 free:∀b o,h.get? b=some o->H b=none->b∉ex->H' b=none
 there:∀b o,h.get? b=some o->b∉ex->∃o',h'.get? b=some o'
 tups:∀b xs,H b=some (.tup xs)->H' b=some (.tup xs)
 jd:∀b o u,H b=some (.frz o u)->H' b=some (.frz o u)
 iN:∀b ps,H b=some (.tbl ps)->∃more,H' b=some (.tbl (ps++more))
section
variable{fs fs' ex ex':List Addr}{H H1 H2:Hp}{h h1 h2 h':Heap}{a x e:Addr}{o:HO}
theorem Un.any(u:Un fs ex H H1 h h1)(q:h.get? b=some ob)(n:H b=none)(hx:b∉ex):∃sl,h1.get? b=some {ob with slots:=sl}:=by
 by_cases hb:b∈fs
 ·exact u.slot b ob q n hb hx
 ·exact⟨ob.slots,u.keep b ob q n hb hx⟩
theorem Un.trans(a:Un fs ex H H1 h h1)(b:Un fs ex H1 H2 h1 h2):Un fs ex H H2 h h2 where
 keep:=λc ob q n hc hx=>b.keep c ob (a.keep c ob q n hc hx) (a.free c ob q n hx) hc hx
 slot:=λc ob q n hc hx=>by
  obtain⟨sl,e1⟩:=a.slot c ob q n hc hx;obtain⟨sl',e2⟩:=b.slot c _ e1 (a.free c ob q n hx) hc hx;exact⟨sl',e2⟩
 free:=λc ob q n hx=>by
  obtain⟨o',e1⟩:=a.there c ob q hx;exact b.free c o' e1 (a.free c ob q n hx) hx
 there:=λc ob q hx=>by
  obtain⟨o',e1⟩:=a.there c ob q hx;exact b.there c o' e1 hx
 tups:=λc xs q=>b.tups c xs (a.tups c xs q)
 jd:=λc ob xs q=>b.jd c ob xs (a.jd c ob xs q)
 iN:=λc ps q=>by
  obtain⟨m1,e1⟩:=a.iN c ps q;obtain⟨m2,e2⟩:=b.iN c _ e1;exact⟨m1++m2,by rw[e2,Array.append_assoc]⟩
theorem Un.kept(k:∀b u,h.get? b=some u->h'.get? b=some u):Un fs ex H H h h' :=
 ⟨λb ob q _ _ _=>k b ob q,λb ob q _ _ _=>⟨ob.slots,k b ob q⟩,λ_ _ _ n _=>n,λb ob q _=>⟨ob,k b ob q⟩,λ_ _ q=>q,λ_ _ _ q=>q,λ_ ps q=>⟨#[],by rw[q];simp⟩⟩
theorem Un.refl:Un fs ex H H h h:=Un.kept λ_ _ q=>q
theorem Un.laid(k:∀b u,h.get? b=some u->h'.get? b=some u)(hp:h.objs.size<=a)(hn:H a=none):Un fs ex H (upd H a o) h h' where
 keep:=λb u q _ _ _=>k b u q
 slot:=λb u q _ _ _=>⟨u.slots,k b u q⟩
 free:=λb u q n _=>by rw[ao (zaS (zaF (zaq q) hp))];exact n
 there:=λb u q _=>⟨u,k b u q⟩
 tups:=λb xs q=>by rw[ao (eA q hn)];exact q
 jd:=λb u xs q=>by rw[ao (eA q hn)];exact q
 iN:=λb ps q=>⟨#[],by rw[ao (eA q hn),q];simp⟩
theorem Un.write(mu:Mut (H x))(he:e=x\/H e=some (.own x))(k:∀b u,b≠e->h.get? b=some u->h'.get? b=some u)(heo:∃u,h'.get? e=some u):Un fs ex H (upd H x o) h h':=by
 have hx:∀b,H b=none->b≠x:=λb n z=>by subst z;rw[n]at mu;exact mu
 have hb:∀b,H b=none->b≠e:=λb n z=>by
  subst z;rcases he with r|r
  ·exact hx b n r
  ·rw[n]at r;cases r
 have hm:∀b u,H b=some u->¬Mut (some u)->b≠x:=λb u q nm z=>by subst z;rw[q]at mu;exact nm mu
 refine⟨λb u q n _ _=>k b u (hb b n) q,λb u q n _ _=>⟨u.slots,k b u (hb b n) q⟩,λb u q n _=>by rw[ao (hx b n)];exact n,λb u q _=>?_,
  λb xs q=>by rw[ao (hm b _ q λz=>z)];exact q,λb u xs q=>by rw[ao (hm b _ q λz=>z)];exact q,λb ps q=>⟨#[],by rw[ao (hm b _ q λz=>z),q];simp⟩⟩
 by_cases hbe:b=e
 ·subst hbe;exact heo
 ·exact⟨u,k b u hbe q⟩
theorem Un.mono(u:Un fs ex H H1 h h1)(hs:∀b∈fs,b∈fs')(hx:∀b∈ex,b∈ex'):Un fs' ex' H H1 h h1 :=
 ⟨λb ob q n hb he=>u.keep b ob q n (λz=>hb (hs b z)) λz=>he (hx b z),λ_ _ q n _ he=>u.any q n λz=>he (hx _ z),λb ob q n he=>u.free b ob q n λz=>he (hx b z),λb ob q he=>u.there b ob q λz=>he (hx b z),u.tups,u.jd,u.iN⟩
end
def trk(h:Heap)(H:Hp):List Addr:=(List.range h.objs.size).filter λa=>(H a).isSome
def tV(h:Heap)(H:Hp):Heap:=PySem.W.hideAll h (trk h H)
theorem AG(h:Heap)(H:Hp):(tV h H).objs.size=h.objs.size:=PySem.W.hideAll_size _ _
theorem Ce(e:h.get? b=some o)(n:H b=none):(tV h H).get? b=some o :=
 PySem.W.hideAll_get _ e λhm=>by
  have q:(H b).isSome=true:=(List.mem_filter.mp hm).2;rw[n]at q;simp at q
theorem EW(e:(tV h H).get? b=some o):h.get? b=some o/\H b=none:=by
 have e':h.get? b=some o:=PySem.W.of_hideAll (trk h H) e;refine⟨e',?_⟩;cases q:H b with
 |none=>rfl
 |some x=>
  have hm:b∈trk h H:=List.mem_filter.mpr ⟨List.mem_range.mpr (zaq e'),by simp[q]⟩
  have z:(tV h H).get? b=none:=PySem.W.hideAll_none (trk h H) hm;rw[z]at e;cases e
def EX(g h:Heap)(L:Addr):List (Addr×Obj):=(List.range h.objs.size).filterMap λa=>if a=L\/(g.get? a).isSome=true then none else(h.get? a).map λo=>(a,o)
def rest(g h:Heap)(L d:Addr):List (Addr×Obj):=(EX g h L).filter λp=>decide (p.1≠d)
def tW:FuncBody->Option Pos
 | .stmts [_,.Return (some (.Call _ _ [⟨_,.Lambda _ _ _ lp,_⟩] _)) _]=>some lp
 |_=>none
def Cf(fd:FuncData):Bool:=(tW fd.body).isSome
def vJ(K:zag)(fd:FuncData):Option (Addr×Addr×Array Value):=match tW fd.body,fd.code with
 |some lp,.ref c=>(match K.lookup c with
   |some ⟨_,_,.fields vs,_⟩=>(match(vs[11]?:Option Value)with
     |some (.ref P)=>some (c,P,#[rawInt lp.line,rawInt lp.col,.str (fd.qualname++".<locals>.<lambda>") 0])
     |_=>none)
   |_=>none)
 |_,_=>none
def xI(K:zag)(c P:Addr)(ps:Array Value):Bool:=PySem.W.codeHdIn K c P&&(K.lookup P).isNone&&(K.all λp=>match p.2.data with
 | .func fd=>!Cf fd||vJ K fd==some (c,P,ps)
 |_=>true)
def gx(K:zag):Option (Addr×Addr×Array Value):=match(K.findSome? λp=>match p.2.data with
  | .func fd=>vJ K fd
  |_=>none)with
 |some (c,P,ps)=>if xI K c P ps then some (c,P,ps)else none
 |none=>none
structure Mod(K:zag)(mg:Str->Option Value)(base:Heap):Prop where
 kin:K.In base
 glob:base.Ns mainGlobals mg
 blt:∃mb,base.Ns builtinsNs mb/\∀x:Str,x≠"__name__"->mb x=bootBuiltins x
 nolimit:base.NoLimit
 bmain:∃bm ob,mg "__builtins__"=some (.ref bm)/\bm≠builtinsNs/\base.get? bm=some ob/\ob.cls=.type "module"/\ob.dict=some builtinsNs/\ob.data=.plain
structure Cx where
 prog:Program
 w:World
 K:zag
 mg:Str->Option Value
 base:Heap
 A:Around
 N:List Str
 s₀:Shared
 H₀:Hp
 env:Env
 outer:List Env
 stack:List Env
 ex:List Addr
 fn:Str->Bool
 calm:Bool
 pn:List (Addr×Obj)
 xe:Value->Shared->Prop
def frs(l:List Env):List Addr:=l.filterMap (·.frame)
abbrev Cx.fs(X:Cx):List Addr:=frs X.outer
def Vis(sc:Scope)(x:Str):Prop:=sc.names.lookup x=some .local\/sc.names.lookup x=some .cell\/sc.names.lookup x=some .free
def Loc(sc:Scope)(x:Str):Prop:=sc.names.lookup x=some .local\/sc.names.lookup x=some .cell
def Look(env:Env)(h:Heap)(m:Str->Option Value)(x:Str)(u:Value):Prop :=
 (env.kindOf x=some .local/\m x=some u)\/((env.kindOf x=some .cell\/env.kindOf x=some .free)/\∃c,env.cells.lookup x=some c/\h.IsCell c (some u))
structure Cx.Ok(X:Cx):Prop where
 mod:Mod X.K X.mg X.base
 kind:X.env.scope.kind=.function
 glob:X.env.globals=mainGlobals
 blt:X.env.builtins=builtinsNs
 above:X.s₀.heap.objs.size<=X.env.locals
 inj:∀x y c,X.env.cells.lookup x=some c->X.env.cells.lookup y=some c->x=y
 has:∀x,(X.env.kindOf x=some .cell\/X.env.kindOf x=some .free)->∃c,X.env.cells.lookup x=some c
 cab:∀x c,X.fn x=true->X.env.cells.lookup x=some c->X.s₀.heap.objs.size<=c
 hd:X.calm=true->X.A.handled=none
 frames:X.A.frames=some X.stack
 stk:X.stack=X.outer\/(X.stack=X.env::X.outer/\X.env.frame=some X.env.locals)
 exf:∀b∈X.ex,b≠X.env.locals/\∀x c,X.env.cells.lookup x=some c->c≠b
 bs:∀b o,X.base.get? b=some o->X.s₀.heap.get? b=some o/\X.H₀ b=none
 bsz:X.base.objs.size<=X.s₀.heap.objs.size
 xJ:∀b o,X.base.get? b=some o->b∉X.ex
 vK:∀b∈X.ex,b∉X.fs
 mf:X.s₀.heap.FunFrames X.base X.outer
 frf:∀b∈X.fs,X.H₀ b=none
 tab:∀c T ps,gx X.K=some (c,T,ps)->∃more,X.H₀ T=some (.tbl (ps++more))
structure Inv(X:Cx)(pins:List (Addr×Obj))(σ:List (Option V))(H:Hp)(s:Shared):Prop where
 ok:X.Ok
 os:s.os=X.s₀.os
 bare:AllBare s.gens
 base:Un X.fs X.ex X.H₀ H X.s₀.heap s.heap
 loc:∃m,s.heap.Ns X.env.locals m/\∀(i:Nat) (x:Str) (v:V),X.N[i]?=some x->σ[i]?=some (some v)->Vis X.env.scope x->∃u,RelV v u/\Look X.env s.heap m x u
 cell:∀x c,X.env.cells.lookup x=some c->∃v,s.heap.IsCell c v
 free:H X.env.locals=none
 f7:∀x c,X.env.cells.lookup x=some c->H c=none
 pin:∀p∈X.pn++pins,s.heap.get? p.1=some p.2/\H p.1=none/\p.1≠X.env.locals/\p.1∉X.fs/\∀v,p.2.data≠.cell v
 hok:HOk X.prog X.w H s.heap
 len : σ.length=X.N.length
section
variable{X:Cx}{pins:List (Addr×Obj)}{σ:List (Option V)}{H H':Hp}{s:Shared}{h':Heap}
theorem Cx.Ok.L8(ok:X.Ok)(e:X.base.get? b=some o):b∉X.fs:=λhb=>by
 have:=(ok.mf.mem hb).1;rw[e]at this;cases this
theorem Inv.bs(I:Inv X pins σ H s):∀b o,X.base.get? b=some o->s.heap.get? b=some o/\H b=none:=λb o e=>
 ⟨I.base.keep b o (I.ok.bs b o e).1 (I.ok.bs b o e).2 (I.ok.L8 e) (I.ok.xJ b o e),I.base.free b o (I.ok.bs b o e).1 (I.ok.bs b o e).2 (I.ok.xJ b o e)⟩
theorem Inv.tab(I:Inv X pins σ H s):∀c T ps,gx X.K=some (c,T,ps)->∃more,H T=some (.tbl (ps++more)):=λc T ps e=>by
 obtain⟨m,h⟩:=I.ok.tab c T ps e;obtain⟨m2,h2⟩:=I.base.iN T _ h;exact⟨m++m2,by rw[h2,Array.append_assoc]⟩
theorem Inv.bk(I:Inv X pins σ H s):∀b o,X.base.get? b=some o->s.heap.get? b=some o:=λb o e=>(I.bs b o e).1
theorem Inv.mod(I:Inv X pins σ H s):Mod X.K X.mg X.base:=I.ok.mod
theorem Inv.kIn(I:Inv X pins σ H s):X.K.In s.heap:=I.ok.mod.kin.keeps I.bk
theorem Inv.nolimit(I:Inv X pins σ H s):s.heap.NoLimit:=I.ok.mod.nolimit.keeps I.bk
theorem Inv.fr(I:Inv X pins σ H s):∃m,Fr X.base X.env.locals s.heap m :=
 let⟨m,hn,_⟩:=I.loc
 ⟨m,hn,I.bk,zaX I.ok.bsz I.ok.above⟩
theorem Inv.lt(I:Inv X pins σ H s):X.env.locals<s.heap.objs.size:=let⟨_,hn,_⟩:=I.loc;hn.lt
theorem Inv.sz(I:Inv X pins σ H s):X.s₀.heap.objs.size<=s.heap.objs.size:=zaX I.ok.above (Nat.le_of_lt I.lt)
theorem Inv.L9(I:Inv X pins σ H s){a:Addr}(h:s.heap.objs.size<=a):a∉X.fs:=λhb=>by
 obtain⟨_,o,ho,_⟩:=I.ok.mf.mem hb;exact absurd (zaF (zaq ho) (zaX I.sz h)) (za3 _)
theorem Inv.cne(I:Inv X pins σ H s):∀x c,X.env.cells.lookup x=some c->c≠X.env.locals:=λx c e z=>by
 obtain⟨v,o,ho,hd⟩:=I.cell x c e;obtain⟨m,⟨o',es,ep,ho',hd',_⟩,_⟩:=I.loc;rw[z,ho']at ho;cases ho;rw[hd']at hd;cases hd
theorem Inv.mf(I:Inv X pins σ H s):s.heap.FunFrames X.base X.outer:=by
 have all:∀(l:List Env),(∀b∈frs l,b∈X.fs)->X.s₀.heap.FunFrames X.base l->s.heap.FunFrames X.base l:=by
  intro l
  induction l with
  |nil=>intro _ _;trivial
  |cons env r ih=>
   intro hs hl;obtain⟨hk,⟨L,o,hf,hn,ho,hd⟩,hr⟩:=hl;have hL:L∈X.fs:=hs L (by unfold frs;rw[List.filterMap_cons,hf];exact zas)
   obtain⟨sl,e⟩:=I.base.slot L o ho (I.ok.frf L hL) hL λz=>I.ok.vK L z hL
   exact⟨hk,⟨L,_,hf,hn,e,hd⟩,ih (λb hb=>hs b (by unfold frs;rw[List.filterMap_cons,hf];exact zak _ hb)) hr⟩
 exact all X.outer (λ_ hb=>hb) I.ok.mf
theorem Inv.stack(I:Inv X pins σ H s):s.heap.FunFrames X.base X.stack:=by
 rcases I.ok.stk with e|⟨e,hf⟩
 ·rw[e];exact I.mf
 ·rw[e]
  obtain⟨m,hn,_⟩:=I.loc;refine .cons (by rw[I.ok.kind];decide) hf hn ?_ I.mf
  exact Heap.get?_none_of_le (zaX I.ok.bsz I.ok.above)
theorem Inv.xK(I:Inv X pins σ H s):∀b∈frs X.stack,b∈X.env.locals::X.fs:=λb hb=>by
 rcases I.ok.stk with e|⟨e,hf⟩
 ·rw[e]at hb;exact zak _ hb
 ·rw[e]at hb
  unfold frs at hb;rw[List.filterMap_cons,hf]at hb;exact hb
theorem Inv.mO(I:Inv X pins σ H s):∀b∈frs X.stack,H b=none:=λb hb=>by
 rcases zaf (I.xK b hb)with e|hb
 ·rw[e];exact I.free
 ·obtain⟨_,o,ho,_⟩:=I.ok.mf.mem hb
  exact I.base.free b o ho (I.ok.frf b hb) λz=>I.ok.vK b z hb
theorem Inv.step{ch:List Addr}(I:Inv X pins σ H s)
  (hch:∀b∈ch,(b∈X.ex\/X.s₀.heap.objs.size<=b)/\b≠X.env.locals/\(∀x c,X.env.cells.lookup x=some c->c≠b)/\∀p∈X.pn++pins,p.1≠b)
  (keep:∀b o,b≠X.env.locals->b∉X.fs->b∉ch->s.heap.get? b=some o->H b=none->h'.get? b=some o)
  (slot:∀b o,b≠X.env.locals->b∈X.fs->b∉ch->s.heap.get? b=some o->H b=none->∃sl,h'.get? b=some {o with slots:=sl}) (free:∀b o,b∉ch->s.heap.get? b=some o->H b=none->H' b=none)
  (there:∀b o,b∉ch->s.heap.get? b=some o->∃o',h'.get? b=some o')
  (tups:∀b xs,H b=some (.tup xs)->H' b=some (.tup xs)) (jd:∀b o u,H b=some (.frz o u)->H' b=some (.frz o u)) (iN:∀b ps,H b=some (.tbl ps)->∃more,H' b=some (.tbl (ps++more)))
  (ns:∀m,s.heap.Ns X.env.locals m->h'.Ns X.env.locals m) (hok:HOk X.prog X.w H' h') (hg:AllBare g') :
  Inv X pins σ H' {s with heap:=h',gens:=g',drawn:=d',toks:=t'}:=by
 have neL:∀b o,X.s₀.heap.get? b=some o->b≠X.env.locals:=λb o e=>zaS (zaF (zaq e) I.ok.above)
 have neC:∀b o,X.s₀.heap.get? b=some o->b∉X.ex->b∉ch:=λb o e hx hb=>by
  rcases(hch b hb).1 with z|z
  ·exact hx z
  ·exact absurd (zaF (zaq e) z) (za3 _)
 have cellK:∀x c,X.env.cells.lookup x=some c->∀v,s.heap.IsCell c v->h'.IsCell c v:=λx c e v ⟨o,ho,hd⟩=>by
  have nch:c∉ch:=λz=>(hch c z).2.2.1 x c e rfl
  by_cases hc:c∈X.fs
  ·obtain⟨sl,q⟩:=slot c o (I.cne x c e) hc nch ho (I.f7 x c e)
   exact⟨_,q,hd⟩
  ·exact⟨o,keep c o (I.cne x c e) hc nch ho (I.f7 x c e),hd⟩
 refine⟨I.ok,I.os,hg,⟨λb o e n hb hx=>?_,λb o e n hb hx=>?_,λb o e n hx=>?_,λb o e hx=>?_,λb xs e=>tups b xs (I.base.tups b xs e),λb o xs e=>jd b o xs (I.base.jd b o xs e),λb ps e=>?_⟩,?_,λx c e=>?_,?_,λx c e=>?_,λp hp=>?_,hok,I.len⟩
 ·exact keep b o (neL b o e) hb (neC b o e hx) (I.base.keep b o e n hb hx) (I.base.free b o e n hx)
 ·obtain⟨sl,e1⟩:=I.base.slot b o e n hb hx
  obtain⟨sl',e2⟩:=slot b _ (neL b o e) hb (neC b o e hx) e1 (I.base.free b o e n hx);exact⟨sl',e2⟩
 ·obtain⟨o',e1⟩:=I.base.there b o e hx
  exact free b o' (neC b o e hx) e1 (I.base.free b o e n hx)
 ·obtain⟨o',e1⟩:=I.base.there b o e hx
  exact there b o' (neC b o e hx) e1
 ·obtain⟨m1,e1⟩:=I.base.iN b ps e
  obtain⟨m2,e2⟩:=iN b _ e1;exact⟨m1++m2,by rw[e2,Array.append_assoc]⟩
 ·obtain⟨m,hn,hl⟩:=I.loc
  refine⟨m,ns m hn,λi x v e1 e2 e3=>?_⟩
  obtain⟨u,r,l⟩:=hl i x v e1 e2 e3;refine⟨u,r,?_⟩;rcases l with l|⟨k,c,e,z⟩
  ·exact .inl l
  ·exact .inr ⟨k,c,e,cellK x c e _ z⟩
 ·obtain⟨v,z⟩:=I.cell x c e
  exact⟨v,cellK x c e v z⟩
 ·obtain⟨m,⟨o,_,_,ho,_⟩,_⟩:=I.loc
  exact free _ o (λz=>(hch _ z).2.1 rfl) ho I.free
 ·obtain⟨v,o,ho,hd⟩:=I.cell x c e
  exact free c o (λz=>(hch c z).2.2.1 x c e rfl) ho (I.f7 x c e)
 ·obtain⟨e,n,ne,nf,d⟩:=I.pin p hp
  have nch:p.1∉ch:=λz=>(hch p.1 z).2.2.2 p hp rfl
  exact⟨keep p.1 p.2 ne nf nch e n,free p.1 p.2 nch e n,ne,nf,d⟩
theorem Inv.un(I:Inv X pins σ H s)(u:Un X.fs [] H H' s.heap h')(hok:HOk X.prog X.w H' h'):Inv X pins σ H' {s with heap:=h',toks:=t'}:=by
 obtain⟨m,⟨o,es,ep,ho,r⟩,_⟩:=id I.loc;obtain⟨sl,hL⟩:=u.any ho I.free (by simp)
 exact I.step (g':=s.gens) (d':=s.drawn) (ch:=[]) (λ_ z=>nomatch z) (λb o _ hb _ e n=>u.keep b o e n hb (by simp)) (λb o _ hb _ e n=>u.slot b o e n hb (by simp)) (λb o _ e n=>u.free b o e n (by simp)) (λb o _ e=>u.there b o e (by simp)) u.tups u.jd u.iN (λm' hm=>by
  obtain⟨o',es',ep',ho',r'⟩:=hm;rw[ho]at ho';cases ho'
  exact⟨_,es',ep',hL,r'⟩) hok I.bare
theorem Inv.call(I:Inv X pins σ H s)(u:Un (frs X.stack) ch H H' s.heap h')(hok:HOk X.prog X.w H' h')(hg:AllBare g')
  (hch:∀b∈ch,(b∈X.ex\/X.s₀.heap.objs.size<=b)/\b≠X.env.locals/\(∀x c,X.env.cells.lookup x=some c->c≠b)/\∀p∈X.pn++pins,p.1≠b) :
  Inv X pins σ H' {s with heap:=h',gens:=g',drawn:=d',toks:=t'}:=by
 obtain⟨m,⟨o,es,ep,ho,r⟩,_⟩:=id I.loc;obtain⟨sl,hL⟩:=u.any ho I.free λz=>(hch _ z).2.1 rfl
 exact I.step (ch:=ch) hch (λb o hL hb hc e n=>u.keep b o e n (λz=>(zaf (I.xK b z)).elim hL hb) hc) (λb o _ _ hc e n=>u.any e n hc) (λb o hc e n=>u.free b o e n hc) (λb o hc e=>u.there b o e hc) u.tups u.jd u.iN (λm' hm=>by
  obtain⟨o',es',ep',ho',r'⟩:=hm;rw[ho]at ho';cases ho'
  exact⟨_,es',ep',hL,r'⟩) hok hg
theorem Inv.turned(I:Inv X pins σ H s)(k:∀b o,b≠it->s.heap.get? b=some o->h'.get? b=some o)(hn:H it=none)(hL:it≠X.env.locals)
  (h1:it∈X.ex\/X.s₀.heap.objs.size<=it) (h2:∀x c,X.env.cells.lookup x=some c->c≠it) (h3:∀p∈X.pn++pins,p.1≠it):Inv X pins σ H {s with heap:=h',toks:=t'}:=by
 have nit:∀b u,H b=some u->b≠it:=λb u e z=>by rw[z,hn]at e;cases e
 refine I.step (g':=s.gens) (d':=s.drawn) (ch:=[it]) (λb hb=>?_) (λb o _ _ hc e _=>k b o (λz=>hc (by simp[z])) e) (λb o _ _ hc e _=>⟨o.slots,k b o (λz=>hc (by simp[z])) e⟩) (λ_ _ _ _ n=>n)
  (λb o hc e=>⟨o,k b o (λz=>hc (by simp[z])) e⟩) (λ_ _ e=>e) (λ_ _ _ e=>e) (λb ps e=>⟨#[],by rw[e];simp⟩) (λm hm=>?_) (λb u e=>?_) I.bare
 ·have e:b=it:=by simpa using hb
  subst e;exact⟨h1,hL,h2,h3⟩
 ·obtain⟨o,es,ep,ho,r⟩:=hm
  exact⟨o,es,ep,k _ o (Ne.symm hL) ho,r⟩
 ·refine(I.hok b u e).stay (λc v hc q=>k c v ?_ q) (λ_ q=>q) λ_ _ _ q=>q
  rcases hc with z|z
  ·rw[z];exact nit b u e
  ·exact nit c _ z
theorem Inv.tok(I:Inv X pins σ H s)(t:Nat):Inv X pins σ H {s with toks:=t}:=I.un (h':=s.heap) (t':=t) Un.refl I.hok
theorem Inv.kept(I:Inv X pins σ H s)(k:∀b u,s.heap.get? b=some u->h'.get? b=some u):Inv X pins σ H {s with heap:=h',toks:=t'}:=I.un (Un.kept k) (I.hok.kept k)
theorem Inv.laid{a:Addr}(I:Inv X pins σ H s)(k:∀b u,s.heap.get? b=some u->h'.get? b=some u)(hp:s.heap.objs.size<=a)(new:cb X.prog X.w (upd H a o) h' a o) :
  Inv X pins σ (upd H a o) {s with heap:=h',toks:=t'}:=I.un (Un.laid k hp (I.hok.fresh hp)) (I.hok.laid k hp new)
theorem Inv.write(I:Inv X pins σ H s)(mu:Mut (H x))(he:e=x\/H e=some (.own x))(k:∀b u,b≠e->s.heap.get? b=some u->h'.get? b=some u)(heo:∃u,h'.get? e=some u)
  (new:cb X.prog X.w (upd H x o) h' x o):Inv X pins σ (upd H x o) {s with heap:=h',toks:=t'}:=I.un (Un.write mu he k heo) (I.hok.write mu he k heo new)
theorem Inv.weak(I:Inv X pins σ H s)(hl : σ'.length=σ.length)(w:∀(i:Nat) v,σ'[i]?=some (some v)->σ[i]?=some (some v)):Inv X pins σ' H s :=
 ⟨I.ok,I.os,I.bare,I.base,let⟨m,hn,hl'⟩:=I.loc;⟨m,hn,λi x v e1 e2 e3=>hl' i x v e1 (w i v e2) e3⟩,I.cell,I.free,I.f7,I.pin,I.hok,hl.trans I.len⟩
theorem Inv.zi(I:Inv X pins σ H s)(h:∀p∈Hk,s.heap.get? p.1=some p.2/\H p.1=none/\p.1≠X.env.locals/\p.1∉X.fs/\∀v,p.2.data≠.cell v):Inv X Hk σ H s :=
 ⟨I.ok,I.os,I.bare,I.base,I.loc,I.cell,I.free,I.f7,λp hp=>(zae hp).elim (λz=>I.pin p (zaW _ z)) (h p),I.hok,I.len⟩
theorem qf{N:List Str}(hN:N.Nodup){i j:Nat}(a:N[i]?=some x)(b:N[j]?=some x):i=j:=by
 obtain⟨h1,e1⟩:=zac a;obtain⟨h2,e2⟩:=zac b;exact(List.getElem_inj hN).mp (e1.trans e2.symm)
theorem AH(I:Inv X pins σ H s)(hN:X.N.Nodup)(hi:X.N[i]?=some x)(hx:Loc X.env.scope x)(r:RelV v u)
  (h:∀s',Inv X pins (σ.set i (some v)) H s'->(∃a,Heap.SameBut a s.heap s'.heap/\(a=X.env.locals\/X.env.cells.lookup x=some a))->Q () s') (hf:X.fn x=true\/X.env.scope.names.lookup x=some .local:=by first|exact .inl rfl|exact .inr rfl|assumption):wpAny M A (storeName X.env x u) Q E s:=by
 obtain⟨m,hn,hl⟩:=id I.loc;have hcls:(X.env.scope.kind== .class||(X.env.scope.kind== .module&&X.env.locals !=X.env.globals))=false:=by rw[I.ok.kind];rfl
 have hiσ:i<σ.length:=by rw[I.len];exact(zac hi).1
 have cne:=I.cne;have tracked:∀{a:Addr} {h':Heap},(∃o,s.heap.get? a=some o/\H a=none)->Heap.SameBut a s.heap h'->HOk X.prog X.w H h':=fun{a h'} ha hs b ob e=>by
  obtain⟨_,_,hfree⟩:=ha;refine(I.hok b ob e).stay (λc w' hc q=>(hs.2 c ?_).trans q) (λ_ q=>q) λ_ _ _ q=>q
  rintro rfl
  rcases hc with rfl|hc
  ·rw[hfree]at e;cases e
  ·rw[hfree]at hc;cases hc
 rcases hx with hk|hk
 ·refine wpAny_storeName_local hk hn (λh' hn' hs=>?_) hcls
  obtain⟨oL,_,_,hoL,_⟩:=id hn;refine h _ ⟨I.ok,I.os,I.bare,⟨λb o e n hb hx=>?_,λb o e n hb hx=>?_,I.base.free,λb o e hx=>?_,I.base.tups,I.base.jd,I.base.iN⟩,⟨_,hn',λj y v' e1 e2 e3=>?_⟩,λy c e=>?_,I.free,I.f7,λp hp=>?_,tracked ⟨oL,hoL,I.free⟩ hs,by simpa using I.len⟩ ⟨_,hs,.inl rfl⟩
  ·exact(hs.2 b (zaS (zaF (zaq e) I.ok.above))).trans (I.base.keep b o e n hb hx)
  ·obtain⟨sl,e1⟩:=I.base.slot b o e n hb hx
   exact⟨sl,(hs.2 b (zaS (zaF (zaq e) I.ok.above))).trans e1⟩
  ·obtain⟨o',e1⟩:=I.base.there b o e hx
   exact⟨o',(hs.2 b (zaS (zaF (zaq e) I.ok.above))).trans e1⟩
  ·by_cases hj:j=i
   ·subst hj
    rw[hi]at e1;cases e1
    rw[zav hiσ]at e2;cases e2;exact⟨u,r,.inl ⟨hk,by simp⟩⟩
   ·rw[zaA (Ne.symm hj)]at e2
    obtain⟨u',r',q⟩:=hl j y v' e1 e2 e3;refine⟨u',r',?_⟩;rcases q with⟨k,e⟩|⟨k,c,e,z⟩
    ·refine .inl ⟨k,?_⟩
     have:y≠x:=λe=>hj (qf hN e1 (e▸hi))
     simp[this,e]
    ·exact .inr ⟨k,c,e,z.sameBut hs (cne y c e)⟩
  ·obtain⟨w',z⟩:=I.cell y c e
   exact⟨w',z.sameBut hs (cne y c e)⟩
  ·obtain⟨e,n,ne,nf,d⟩:=I.pin p hp
   exact⟨(hs.2 p.1 ne).trans e,n,ne,nf,d⟩
 ·have hfn:X.fn x=true:=by
   rcases hf with z|z
   ·exact z
   ·rw[z]at hk;cases hk
  obtain⟨c,hc⟩:=I.ok.has x (.inl hk);obtain⟨w',z⟩:=I.cell x c hc;refine wpAny_storeName_cell I.ok.kind hk hc z (λh' hc' hs=>?_)
  obtain⟨oc,hoc,Ma⟩:=id z;refine h {s with heap:=h'} ⟨I.ok,I.os,I.bare,⟨λb o e n hb hx=>?_,λb o e n hb hx=>?_,I.base.free,λb o e hx=>?_,I.base.tups,I.base.jd,I.base.iN⟩,⟨m,hn.sameBut hs (Ne.symm (cne x c hc)),λj y v' e1 e2 e3=>?_⟩,λy c' e=>?_,I.free,I.f7,λp hp=>?_,tracked ⟨oc,hoc,I.f7 x c hc⟩ hs,by simpa using I.len⟩ ⟨c,hs,.inr hc⟩
  ·exact(hs.2 b (zaS (zaF (zaq e) (I.ok.cab x c hfn hc)))).trans (I.base.keep b o e n hb hx)
  ·obtain⟨sl,e1⟩:=I.base.slot b o e n hb hx
   exact⟨sl,(hs.2 b (zaS (zaF (zaq e) (I.ok.cab x c hfn hc)))).trans e1⟩
  ·obtain⟨o',e1⟩:=I.base.there b o e hx
   exact⟨o',(hs.2 b (zaS (zaF (zaq e) (I.ok.cab x c hfn hc)))).trans e1⟩
  ·by_cases hj:j=i
   ·subst hj
    rw[hi]at e1;cases e1
    rw[zav hiσ]at e2;cases e2;exact⟨u,r,.inr ⟨.inl hk,c,hc,hc'⟩⟩
   ·rw[zaA (Ne.symm hj)]at e2
    obtain⟨u',r',q⟩:=hl j y v' e1 e2 e3;refine⟨u',r',?_⟩;rcases q with q|⟨k,c',e,z'⟩
    ·exact .inl q
    ·refine .inr ⟨k,c',e,z'.sameBut hs ?_⟩
     rintro rfl
     exact hj (qf hN e1 (I.ok.inj _ _ _ e hc▸hi))
  ·by_cases hcc:c'=c
   ·subst hcc;exact⟨_,hc'⟩
   ·obtain⟨w2,z2⟩:=I.cell y c' e
    exact⟨w2,z2.sameBut hs hcc⟩
  ·obtain⟨e,n,ne,nf,d⟩:=I.pin p hp
   refine⟨(hs.2 p.1 ?_).trans e,n,ne,nf,d⟩;intro q;rw[q,hoc]at e;have q':oc=p.2:=zaQ e;exact d w' (by rw[<-q'];exact Ma)
theorem qg(I:Inv X pins σ H s)(hN:X.N.Nodup)(hi:X.N[i]?=some x)(hx:Loc X.env.scope x)(r:RelV v u)
  (h:∀s',Inv X pins (σ.set i (some v)) H s'->Q () s') (hf:X.fn x=true\/X.env.scope.names.lookup x=some .local:=by first|exact .inl rfl|exact .inr rfl|assumption):wpAny M A (storeName X.env x u) Q E s :=
 AH I hN hi hx r (λs' I' _=>h s' I') hf
theorem Inv.call'(I:Inv X pins σ H s)(ho:s'.os=s.os)(u:Un (frs X.stack) ch H H' s.heap s'.heap)(hok:HOk X.prog X.w H' s'.heap)(hg:AllBare s'.gens)
  (hch:∀b∈ch,(b∈X.ex\/X.s₀.heap.objs.size<=b)/\b≠X.env.locals/\(∀x c,X.env.cells.lookup x=some c->c≠b)/\∀p∈X.pn++pins,p.1≠b):Inv X pins σ H' s':=by
 obtain⟨h',g',d',t',o'⟩:=s';have e:o'=s.os:=ho;subst e;exact I.call (g':=g') (t':=t') (d':=d') u hok hg hch
end
abbrev XK:=Value->Option Addr->Hp->Prop
abbrev St:=List (Option V)
abbrev VK:=V->Hp->Prop
abbrev TE:=St->Hp->VK->Prop
abbrev TT:=St->Hp->(Bool->Hp->Prop)->Prop
abbrev TA:=St->Hp->(List V->Hp->Prop)->Prop
structure Ends where
 nx:St->Hp->Prop
 rt:VK
 bk:St->Hp->Prop:=λ_ _=>False
 ct:St->Hp->Prop:=λ_ _=>False
abbrev TS:=Ends->St->Hp->Prop
def EP(X:Cx)(pins:List (Addr×Obj))(σ:St)(Q:VK)(u:Value)(s':Shared):Prop:=∃v H',Inv X pins σ H' s'/\RelV v u/\Q v H'
def TP(X:Cx)(pins:List (Addr×Obj))(σ:St)(Q:Bool->Hp->Prop)(b:Bool)(s':Shared):Prop:=∃H',Inv X pins σ H' s'/\Q b H'
def AP(X:Cx)(pins:List (Addr×Obj))(σ:St)(Q:List V->Hp->Prop)(us:List Value)(s':Shared):Prop:=∃vs H',Inv X pins σ H' s'/\Vals vs us/\Q vs H'
def SP(X:Cx)(pins:List (Addr×Obj))(D:Ends)(f:Flow)(s':Shared):Prop :=
 match f with
 | .next=>∃σ' H',Inv X pins σ' H' s'/\D.nx σ' H'
 | .brk=>∃σ' H',Inv X pins σ' H' s'/\D.bk σ' H'
 | .cont=>∃σ' H',Inv X pins σ' H' s'/\D.ct σ' H'
 | .ret u=>∃v σ' H',Inv X pins σ' H' s'/\RelV v u/\D.rt v H'
def PE(X:Cx)(e:Expr)(t:TE):Prop :=
 ∀(pins:List (Addr×Obj)) (s:Shared) (σ:St) (H:Hp) (Q:VK),Inv X pins σ H s->t σ H Q->wpAny (model X.prog X.w) X.A (eval e X.env) (EP X pins σ Q) X.xe s
def PT(X:Cx)(e:Expr)(t:TT):Prop :=
 ∀(pins:List (Addr×Obj)) (s:Shared) (σ:St) (H:Hp) (Q:Bool->Hp->Prop),Inv X pins σ H s->t σ H Q->wpAny (model X.prog X.w) X.A (isTrue e X.env (eval e X.env)) (TP X pins σ Q) X.xe s
def PW(X:Cx)(e:Expr)(t:TT):Prop :=
 ∀(whole:Sem Value) (pins:List (Addr×Obj)) (s:Shared) (σ:St) (H:Hp) (Q:Bool->Hp->Prop),Inv X pins σ H s->t σ H Q->wpAny (model X.prog X.w) X.A (isTrue e X.env whole) (TP X pins σ Q) X.xe s
theorem PW.pt(h:PW X e t):PT X e t:=h _
def PA(X:Cx)(es:List Expr)(t:TA):Prop :=
 ∀(pos:Pos) (pins:List (Addr×Obj)) (s:Shared) (σ:St) (H:Hp) (Q:List V->Hp->Prop),Inv X pins σ H s->t σ H Q->wpAny (model X.prog X.w) X.A (spliced (backTo pos (starEach es X.env))) (AP X pins σ Q) X.xe s
def PS(X:Cx)(st:Stmt)(t:TS):Prop :=
 ∀(pins:List (Addr×Obj)) (s:Shared) (σ:St) (H:Hp) (D:Ends),Inv X pins σ H s->t D σ H->wpAny (model X.prog X.w) X.A (exec st X.env) (SP X pins D) X.xe s
def PSs(X:Cx)(st:List Stmt)(t:TS):Prop :=
 ∀(pins:List (Addr×Obj)) (s:Shared) (σ:St) (H:Hp) (D:Ends),Inv X pins σ H s->t D σ H->wpAny (model X.prog X.w) X.A (execs st X.env) (SP X pins D) X.xe s
theorem thn(h:wpAny M A t Q E s)(hQ:∀a s,Q a s->Q' a s):wpAny M A t Q' E s:=za6 h hQ λ_ _ x=>x
section
variable{X:Cx}
def kI(i:Nat):TE:=fun σ H Q=>∃v,σ[i]?=some (some v)/\Q v H
def tC(v:V):TE:=λ_ H Q=>Q v H
theorem Iz{pos:Pos}(hN:X.N[i]?=some x)(hv:Vis X.env.scope x)(hd:(x==("__debug__":Str))=false:=by decide)(hcd:(x==("__classdict__":Str))=false:=by decide):PE X (.Name x pos) (kI i):=by
 intro pins s σ H Q I h;obtain⟨v,e,h⟩:=h;obtain⟨m,hn,hl⟩:=I.loc;obtain⟨u,r,l⟩:=hl i x v hN e hv;have fin:EP X pins σ Q u s:=⟨v,H,I,r,h⟩;rcases l with⟨hk,hm⟩|⟨hk,c,hc,hcell⟩
 ·exact wpAny_Name (wpAny_loadName_local I.ok.kind hk hn hm fin) hd
 ·rcases hk with hk|hk
  ·exact wpAny_Name (wpAny_loadName_cell I.ok.kind hk hc hcell fin) hd
  ·exact wpAny_Name (wpAny_loadName_free I.ok.kind hk hc hcell fin hcd) hd
theorem av:PE X (.Constant (.int i) j pos) (tC (.int i)):=λ_ _ _ H _ I h=>wpAny_Constant_int ⟨.int i,H,I.tok _,⟨_,rfl⟩,h⟩
theorem bT:PE X (.Constant (.bool b) j pos) (tC (.bl b)):=λ_ _ _ H _ I h=>Constant_bool ⟨.bl b,H,I,rfl,h⟩
theorem je:PE X (.Constant .none j pos) (tC .non):=λ_ _ _ H _ I h=>Constant_none ⟨.non,H,I,rfl,h⟩
theorem cT:PE X (.Constant (.str x) j pos) (tC (.str x)):=λ_ _ _ H _ I h=>Calls.Constant_str ⟨.str x,H,I.tok _,⟨_,rfl⟩,h⟩
def Gl(X:Cx)(x:Str):Prop:=X.env.kindOf x=some .globalImplicit
theorem lG{σ:St}{H:Hp}{x:Str}{u:Value}{pos:Pos}{Q:Value->Shared->Prop}(I:Inv X pins σ H s)(hg:Gl X x)(hm:X.mg x=some u)(h:Q u s)
  (hd:(x==("__debug__":Str))=false:=by decide):wpAny (model X.prog X.w) X.A (eval (.Name x pos) X.env) Q E s :=
 Calls.Name_function_global I.ok.kind hg (Calls.loadGlobal_global (by rw[I.ok.glob];exact I.mod.glob.keeps I.bk) hm h) hd
theorem ot{E:Value->Shared->Prop}{σ:St}{H:Hp}{x:Str}{u:Value}{pos:Pos}{Q:Value->Shared->Prop}(I:Inv X pins σ H s)(hg:Gl X x)(hm:X.mg x=none)(hv:bootBuiltins x=some u)(h:Q u s)
  (hn:x≠"__name__":=by decide) (hd:(x==("__debug__":Str))=false:=by decide):wpAny (model X.prog X.w) X.A (eval (.Name x pos) X.env) Q E s:=by
 obtain⟨mb,h1,h2⟩:=I.mod.blt;exact Calls.Name_function_global I.ok.kind hg (Calls.loadGlobal_builtin (by rw[I.ok.glob];exact I.mod.glob.keeps I.bk) hm (by rw[I.ok.blt];exact h1.keeps I.bk) ((h2 x hn).trans hv) h) hd
theorem tX(hg:Gl X x)(hm:X.mg x=some u)(r:RelV v u)(hd:(x==("__debug__":Str))=false:=by decide):PE X (.Name x pos) (tC v) :=
 λ_ _ _ H _ I h=>lG I hg hm ⟨v,H,I,r,h⟩ hd
theorem EY{pos:Pos}(hg:Gl X x)(hm:X.mg x=none)(hv:bootBuiltins x=some u)(r:RelV v u)(hn:x≠"__name__":=by decide)(hd:(x==("__debug__":Str))=false:=by decide):PE X (.Name x pos) (tC v) :=
 λ_ _ _ H _ I h=>ot I hg hm hv ⟨v,H,I,r,h⟩ hn hd
variable{a b:Expr}{ta tb:TE}{pos:Pos}
def PC(X:Cx)(op:CmpOp)(a b:Expr)(t:TE):Prop :=
 ∀(pins:List (Addr×Obj)) (s:Shared) (σ:St) (H:Hp) (Q:VK),Inv X pins σ H s->t σ H Q->
  wpAny (model X.prog X.w) X.A (eval a X.env) (λv s₁=>wpAny (model X.prog X.w) X.A (eval b X.env) (λu s₂=>wpAny (model X.prog X.w) X.A (compareOp op v u) (EP X pins σ Q) X.xe s₂) X.xe s₁) X.xe s
theorem Cg(b:Expr)(h:op≠.In)(h2:op≠.NotIn):behindInMarks op b=false:=by
 have e1:(op==CmpOp.In)=false:=by cases op<;>first|rfl|exact absurd rfl h
 have e2:(op==CmpOp.NotIn)=false:=by cases op<;>first|rfl|exact absurd rfl h2
 cases b<;>simp[behindInMarks,e1,e2]
def tB(t:TE):TT:=fun σ H Q=>t σ H λx H1=>∃c,x=.bl c/\Q c H1
theorem qh(h:PC X op a b t)(h1:behindInMarks op b=false:=by first|exact Cg _ (by decide) (by decide)|rfl):PT X (.Compare a [op] [b] pos) (tB t):=by
 intro pins s σ H Q I hw;refine wpAny_isTrue_Compare1 (thn (h pins s σ H _ I hw) λv s1 h1=>thn h1 λu s2 h2=>thn h2 λc s3 ⟨x,H1,I1,r1,q1⟩=>?_) h1
 obtain⟨d,rfl,q⟩:=q1;cases r1;exact wpAny_truthy_bool ⟨H1,I1,q⟩
theorem du(h:PE X e t)(he:∀whole,isTrue e X.env whole=(do let v<-whole;standAt e.pos;holding [v] (truthy v)):=by intro _;rfl):PT X e (tB t):=by
 intro pins s σ H Q I hw;refine isTrue_plain (thn (h pins s σ H _ I hw) λv s1 ⟨x,H1,I1,r1,q1⟩=>?_) (he _)
 obtain⟨d,rfl,q⟩:=q1;cases r1;exact wpAny_truthy_bool ⟨H1,I1,q⟩
variable{tA tB':TT}{rest:List Expr}
def KC(t u:TT):TT:=fun σ H Q=>t σ H λc H1=>if c=true then u σ H1 Q else Q false H1
def tOr(t u:TT):TT:=fun σ H Q=>t σ H λc H1=>if c=true then Q true H1 else u σ H1 Q
def IC(t:TT):TT:=fun σ H Q=>t σ H λc H1=>Q (!c) H1
theorem pQ(ha:PT X a tA):PW X (.BoolOp .And [a] pos) tA:=by
 intro wh pins s σ H Q I h;refine isTrue_and (thn (ha pins s σ H Q I h) λc s1 e=>?_)
 cases c with
 |true=>exact isTrue_and_nil e
 |false=>exact e
theorem jU(ha:PT X a tA):PW X (.BoolOp .Or [a] pos) tA:=by
 intro wh pins s σ H Q I h;refine isTrue_or (thn (ha pins s σ H Q I h) λc s1 e=>?_)
 cases c with
 |false=>exact isTrue_or_nil e
 |true=>exact e
theorem tY(ha:PT X a tA)(hb:PW X (.BoolOp .And (b::rest) pos) tB'):PW X (.BoolOp .And (a::b::rest) pos) (KC tA tB'):=by
 intro wh pins s σ H Q I h;refine isTrue_and (thn (ha pins s σ H _ I h) λc s1 ⟨H1,I1,q1⟩=>?_)
 cases c with
 |true=>exact hb wh pins s1 σ H1 Q I1 q1
 |false=>exact⟨H1,I1,q1⟩
theorem jA(ha:PT X a tA)(hb:PW X (.BoolOp .Or (b::rest) pos) tB'):PW X (.BoolOp .Or (a::b::rest) pos) (tOr tA tB'):=by
 intro wh pins s σ H Q I h;refine isTrue_or (thn (ha pins s σ H _ I h) λc s1 ⟨H1,I1,q1⟩=>?_)
 cases c with
 |true=>exact⟨H1,I1,q1⟩
 |false=>exact hb wh pins s1 σ H1 Q I1 q1
theorem eC(ha:PT X a tA):PT X (.UnaryOp .Not a pos) (IC tA):=by
 intro pins s σ H Q I h;exact isTrue_not (ha pins s σ H (λc H1=>Q (!c) H1) I h)
def Hl(ta tb:TE):TE:=fun σ H Q=>ta σ H λx H1=>∃c,x=.bl c/\if c=true then tb σ H1 Q else Q (.bl false) H1
theorem Ci(h:PE X a t):PE X (.BoolOp op [a] pos) t:=λpins s σ H Q I hw=>BoolOp_one (h pins s σ H Q I hw)
theorem Cj(ha:PE X a ta)(hb:PE X (.BoolOp .And (b::rest) pos) tb):PE X (.BoolOp .And (a::b::rest) pos) (Hl ta tb):=by
 intro pins s σ H Q I h;refine BoolOp_and (thn (ha pins s σ H _ I h) λv s1 ⟨x,H1,I1,r1,q1⟩=>?_)
 obtain⟨c,rfl,q1⟩:=q1;cases r1;refine wpAny_truthy_bool ?_;cases c with
 |true=>exact hb pins s1 σ H1 Q I1 q1
 |false=>exact⟨.bl false,H1,I1,rfl,q1⟩
end
def SqL(K:zag)(H:Hp)(a:Addr)(xs:List V):Prop :=
 Rd H a (.lst xs)\/
  ∃(o:Obj) (its:Array Value) (n:Nat),K.lookup a=some o/\o.cls=.type "list"/\o.dict=none/\o.data=.seq its n/\its.size<=sizeLine/\Vals xs its.toList
def SqT(K:zag)(H:Hp)(a:Addr)(xs:List V):Prop :=
 Rd H a (.tup xs)\/
  ∃(o:Obj) (its:Array Value) (n:Nat),K.lookup a=some o/\o.cls=.type "tuple"/\o.data=.seq its n/\its.size<=sizeLine/\Vals xs its.toList
def Mb:Value->Option V
 | .none=>some .non
 | .bool b=>some (.bl b)
 | .int i _=>some (.int i)
 | .str x _=>some (.str x)
 | .bytes b _=>some (.byt b)
 | .float b _=>some (.flt b)
 | .ref a=>some (.ref a)
 | .type n=>some (.ty n)
 |_=>none
theorem RelV.abs(r:RelV x u):Mb u=some x:=by
 cases x with
 |non=>cases r;rfl
 |bl _=>cases r;rfl
 |int _=>obtain⟨t,rfl⟩:=r;rfl
 |str _=>obtain⟨t,rfl⟩:=r;rfl
 |byt _=>obtain⟨t,rfl⟩:=r;rfl
 |flt _=>obtain⟨t,rfl⟩:=r;rfl
 |ref _=>cases r;rfl
 |ty _=>cases r;rfl
theorem RelV.inj(r:RelV x u)(q:RelV y u):x=y:=zaQ (r.abs.symm.trans q.abs)
theorem Vals.inj:∀{xs ys:List V} {us:List Value},Vals xs us->Vals ys us->xs=ys
 |_,_,_,.nil,.nil=>rfl
 |_,_,_,.cons r t,.cons r' t'=>by rw[r.inj r',Vals.inj t t']
section
variable{X:Cx}{pins:List (Addr×Obj)}{σ:St}{H:Hp}{s:Shared}{a:Addr}{xs ys:List V}
theorem SqL.of{K:zag}(h:H a=some (.lst xs)):SqL K H a xs:=.inl (.inl h)
theorem SqT.of{K:zag}(h:H a=some (.tup xs)):SqT K H a xs:=.inl (.inl h)
theorem Inv.list(I:Inv X pins σ H s)(h:SqL X.K H a xs):∃its:List Value,Vals xs its/\PlainL s.heap a its.toArray/\xs.length<=sizeLine:=by
 rcases h with h|⟨o,its,n,hk,hc,hd,hs,hz,r⟩
 ·obtain⟨z,its,n,r,e⟩:=h.ok I.hok
  exact⟨its,r,⟨_,n,e,rfl,rfl,rfl⟩,z⟩
 ·refine⟨its.toList,r,⟨o,n,I.kIn a o hk,hc,hd,by simpa using hs⟩,?_⟩
  have e:=r.length;simp only[Array.length_toList]at e;omega
theorem Inv.tuple(I:Inv X pins σ H s)(h:SqT X.K H a xs):∃its:List Value,Vals xs its/\IsTup s.heap a its.toArray/\xs.length<=sizeLine:=by
 rcases h with h|⟨o,its,n,hk,hc,hs,hz,r⟩
 ·obtain⟨z,its,r,p⟩:=h.ok I.hok
  exact⟨its,r,p,z⟩
 ·refine⟨its.toList,r,⟨o,I.kIn a o hk,hc,n,by simpa using hs⟩,?_⟩
  have e:=r.length;simp only[Array.length_toList]at e;omega
theorem Inv.vL(I:Inv X pins σ H s)(h:SqL X.K H a xs)(h':SqL X.K H a ys):xs=ys:=by
 obtain⟨its,r,⟨o,n,e,_,_,d⟩,_⟩:=I.list h;obtain⟨its',r',⟨o',n',e',_,_,d'⟩,_⟩:=I.list h';rw[e]at e';cases e'
 rw[d]at d';injection d' with d1 _
 have:its=its':=by simpa using congrArg Array.toList d1
 subst this;exact r.inj r'
theorem Inv.AI(I:Inv X pins σ H s)(h:SqT X.K H a xs)(h':SqT X.K H a ys):xs=ys:=by
 obtain⟨its,r,⟨o,e,_,n,d⟩,_⟩:=I.tuple h;obtain⟨its',r',⟨o',e',_,n',d'⟩,_⟩:=I.tuple h';rw[e]at e';cases e'
 rw[d]at d';injection d' with d1 _
 have:its=its':=by simpa using congrArg Array.toList d1
 subst this;exact r.inj r'
end
abbrev Cx.wish(X:Cx)(E:Value->Shared->Prop):Cx:={X with xe:=E}
abbrev Cx.nox(X:Cx):Cx:=X.wish λ_ _=>False
theorem Cx.Ok.wish{X:Cx}(ok:X.Ok)(E:Value->Shared->Prop):(X.wish E).Ok :=
 ⟨ok.mod,ok.kind,ok.glob,ok.blt,ok.above,ok.inj,ok.has,ok.cab,ok.hd,ok.frames,ok.stk,ok.exf,ok.bs,ok.bsz,ok.xJ,ok.vK,ok.mf,ok.frf,ok.tab⟩
theorem Cx.Ok.jf{X:Cx}(ok:(X.wish E).Ok):X.Ok :=
 ⟨ok.mod,ok.kind,ok.glob,ok.blt,ok.above,ok.inj,ok.has,ok.cab,ok.hd,ok.frames,ok.stk,ok.exf,ok.bs,ok.bsz,ok.xJ,ok.vK,ok.mf,ok.frf,ok.tab⟩
section
variable{X:Cx}{pins:List (Addr×Obj)}{σ:St}{H:Hp}{s:Shared}{E:Value->Shared->Prop}
theorem Inv.wish(I:Inv X pins σ H s)(E:Value->Shared->Prop):Inv (X.wish E) pins σ H s:=⟨I.ok.wish E,I.os,I.bare,I.base,I.loc,I.cell,I.free,I.f7,I.pin,I.hok,I.len⟩
theorem Inv.jf(I:Inv (X.wish E) pins σ H s):Inv X pins σ H s:=⟨I.ok.jf,I.os,I.bare,I.base,I.loc,I.cell,I.free,I.f7,I.pin,I.hok,I.len⟩
theorem SP.jf(h:SP (X.wish E) pins D f s'):SP X pins D f s':=by
 cases f with
 |next=>obtain⟨σ',H',I,q⟩:=h;exact⟨σ',H',I.jf,q⟩
 |brk=>obtain⟨σ',H',I,q⟩:=h;exact⟨σ',H',I.jf,q⟩
 |cont=>obtain⟨σ',H',I,q⟩:=h;exact⟨σ',H',I.jf,q⟩
 |ret u=>obtain⟨v,σ',H',I,r,q⟩:=h;exact⟨v,σ',H',I.jf,r,q⟩
theorem PE.nox(h:PE X.nox e t):PE X e t:=λpins s σ H Q I hw=>
 za6 (h pins s σ H Q (I.wish _) hw) (λ_ _ ⟨v,H',I',r,q⟩=>⟨v,H',I'.jf,r,q⟩) λ_ _ z=>False.elim z
theorem PT.nox(h:PT X.nox e t):PT X e t:=λpins s σ H Q I hw=>
 za6 (h pins s σ H Q (I.wish _) hw) (λ_ _ ⟨H',I',q⟩=>⟨H',I'.jf,q⟩) λ_ _ z=>False.elim z
theorem PSs.nox{st:List Stmt}(h:PSs X.nox st t):PSs X st t:=λpins s σ H D I hw=>
 za6 (h pins s σ H D (I.wish _) hw) (λ_ _ q=>q.jf) λ_ _ z=>False.elim z
end
section
variable{X:Cx}{st:Stmt}{rest:List Stmt}{t u:TS}{e:Expr}{te:TE}{pos:Pos}
def Ck:TS:=λD σ H=>D.nx σ H
def AJ(t u:TS):TS:=λD σ H=>t {D with nx:=u D} σ H
theorem bf:PSs X [] Ck:=λ_ _ σ H _ I h=>wpAny_execs_nil ⟨σ,H,I,h⟩
theorem aw(h1:PS X st t)(h2:PSs X rest u):PSs X (st::rest) (AJ t u):=by
 intro pins s σ H D I h;refine wpAny_execs_cons (thn (h1 pins s σ H {D with nx:=u D} I h) λf s1 q=>?_)
 cases f with
 |next=>
  obtain⟨σ',H',I',q⟩:=q;exact h2 pins s1 σ' H' D I' q
 |ret v=>exact q
 |brk=>exact q
 |cont=>exact q
theorem aH(h1:PS X st t):PSs X [st] t:=by
 intro pins s σ H D I h;refine wpAny_execs_cons (thn (h1 pins s σ H D I h) λf s1 q=>?_)
 cases f with
 |next=>exact wpAny_execs_nil q
 |ret v=>exact q
 |brk=>exact q
 |cont=>exact q
theorem Inv.quiet{σ:St}(I:Inv X pins σ H s):interactive X.env=false:=by simp[interactive,I.ok.kind]
def vM(te:TE):TS:=λD σ H=>te σ H λ_ H1=>D.nx σ H1
theorem eM(he:PE X e te)(hs:swapsWith e none pos.line X.env=pure false:=by rfl):PS X (.Expr e pos) (vM te):=by
 intro pins s σ H D I h;exact wpAny_Expr_any (thn (he pins s σ H _ I h) λv s1 ⟨x,H1,I1,r1,q1⟩=>⟨σ,H1,I1,q1⟩) I.quiet hs
def Cm(te:TE):TS:=λD σ H=>te σ H D.rt
theorem a6(he:PE X e te):PS X (.Return (some e) pos) (Cm te):=by
 intro pins s σ H D I h;exact wpAny_Return_some (thn (he pins s σ H _ I h) λv s1 ⟨x,H1,I1,r1,q1⟩=>⟨x,σ,H1,I1,r1,q1⟩)
def Cn(c:TT)(t u:TS):TS:=λD σ H=>c σ H λb H1=>if b=true then t D σ H1 else u D σ H1
theorem cP(hc:PT X c tc)(ha:PSs X a t)(hb:PSs X b u):PS X (.If c a b pos) (Cn tc t u):=by
 intro pins s σ H D I h;refine wpAny_If (thn (hc pins s σ H _ I h) λd s1 ⟨H1,I1,q1⟩=>?_)
 cases d with
 |true=>exact ha pins s1 σ H1 D I1 q1
 |false=>exact hb pins s1 σ H1 D I1 q1
def Co:TS:=λ_ _ _=>False
theorem kL:PS X st Co:=λ_ _ _ _ _ _ h=>h.elim
end
abbrev TG:=V->St->Hp->(St->Hp->Prop)->Prop
abbrev TGs:=List V->St->Hp->(St->Hp->Prop)->Prop
def PG(X:Cx)(target:Expr)(t:TG):Prop :=
 ∀(pins:List (Addr×Obj)) (s:Shared) (σ:St) (H:Hp) (v:V) (u:Value) (Q:St->Hp->Prop),Inv X pins σ H s->RelV v u->t v σ H Q->
  wpAny (model X.prog X.w) X.A (assign target X.env u) (λ_ s'=>∃σ' H',Inv X pins σ' H' s'/\Q σ' H') X.xe s
def PGs(X:Cx)(ts:List Expr)(t:TGs):Prop :=
 ∀(pins:List (Addr×Obj)) (s:Shared) (σ:St) (H:Hp) (vs:List V) (us:List Value) (Q:St->Hp->Prop),Inv X pins σ H s->Vals vs us->t vs σ H Q->
  wpAny (model X.prog X.w) X.A (assignInOrder ((assignEach ts X.env).map (·.2)) us) (λ_ s'=>∃σ' H',Inv X pins σ' H' s'/\Q σ' H') X.xe s
abbrev Mc:=V->V->V->Hp->(Hp->Prop)->Prop
section
variable{X:Cx}{pos:Pos}
def mP(i:Nat):TG:=λv σ H Q=>Q (σ.set i (some v)) H
theorem a9(hN:X.N.Nodup)(hi:X.N[i]?=some x)(hx:Loc X.env.scope x)(hf:X.fn x=true\/X.env.scope.names.lookup x=some .local:=by first|exact .inl rfl|exact .inr rfl|assumption):PG X (.Name x pos) (mP i):=by
 intro pins s σ H v u Q I r h;exact wpAny_assign_Name (qg I hN hi hx r (λs' I'=>⟨_,H,I',h⟩) hf)
def EZ:TGs:=λvs σ H Q=>vs=[]/\Q σ H
def vN(t:TG)(u:TGs):TGs:=λvs σ H Q=>∃v r,vs=v::r/\t v σ H fun σ' H'=>u r σ' H' Q
theorem iR:PGs X [] EZ:=by
 intro pins s σ H vs us Q I r h;obtain⟨e,h⟩:=h;subst e;cases r;exact assignInOrder_nil ⟨σ,H,I,h⟩
theorem br(h1:PG X e t)(h2:PGs X es u)
  (hs:(assignEach (e::es) X.env).map (·.2)=assign e X.env::(assignEach es X.env).map (·.2):=by rfl):PGs X (e::es) (vN t u):=by
 intro pins s σ H vs us Q I r h;obtain⟨v,vr,e1,h⟩:=h;subst e1;cases r with
 |cons r rr=>
  rw[hs];refine assignInOrder_cons (thn (h1 pins s σ H _ _ _ I r h) λ_ s1 ⟨σ1,H1,I1,q1⟩=>?_)
  exact h2 pins s1 σ1 H1 _ _ Q I1 rr q1
def Cp(to ti:TE)(t:Mc):TG:=λv σ H Q=>to σ H λo H1=>ti σ H1 λi H2=>t o i v H2 λH3=>Q σ H3
def AK(te:TE)(g:TG):TS:=λD σ H=>te σ H λx H1=>g x σ H1 D.nx
theorem tZ(he:PE X e te)(hg:PG X tg g)(hs:swapsWithSole [tg] e pos.line X.env=pure false:=by rfl)(hw:swappedStores [tg] e X.env=pure none:=by rfl)
  (h1:(assignEach [tg] X.env).map (·.2)=[assign tg X.env]:=by rfl):PS X (.Assign [tg] e pos) (AK te g):=by
 intro pins s σ H D I h;refine wpAny_Assign_stores (thn (he pins s σ H _ I h) λv s1 ⟨x,H1,I1,r1,q1⟩=>?_) hs hw
 rw[h1];exact thn (hg pins s1 σ H1 x v _ I1 r1 q1) λ_ s2 q=>q
theorem bI(hN:X.N.Nodup)(hi:X.N[i]?=some x)(hx:Loc X.env.scope x)(he:PE X e te)(hs:swapsWith e (some (.Name x pos')) pos.line X.env=pure false:=by rfl)(hf:X.fn x=true\/X.env.scope.names.lookup x=some .local:=by first|exact .inl rfl|exact .inr rfl|assumption) :
  PS X (.Assign [.Name x pos'] e pos) (AK te (mP i)):=by
 intro pins s σ H D I h;refine wpAny_Assign_Name (thn (he pins s σ H _ I h) λv s1 ⟨y,H1,I1,r1,q1⟩=>?_) hs
 exact qg I1 hN hi hx r1 (λs2 I2=>⟨_,H1,I2,q1⟩) hf
def Cq(c:TT)(tb:TS):TS:=λD σ H=>∃W:Nat->St->Hp->Prop,(∃m,W m σ H)/\∀m σ H,W m σ H->
 c σ H λb H1=>if b=true then∃N:St->Hp->Prop,(∀σ' H',N σ' H'->∃m',m'<m/\W m' σ' H')/\tb {D with nx:=N,ct:=N,bk:=D.nx} σ H1 else D.nx σ H1
theorem Cr(hp:PassesOwn (model X.prog X.w) X.A X.env X.xe)(hc:PT X c tc)(hb:PSs X body tb):PS X (.While c body [] pos) (Cq tc tb):=by
 intro pins s σ H D I h;obtain⟨W,⟨m0,w0⟩,turn⟩:=h;refine wpAny_While (codeAny_whileLoop (λn s'=>∃σ' H',Inv X pins σ' H' s'/\W n σ' H') ?_ m0 ⟨σ,H,I,w0⟩)
 rintro n s1 ⟨σ1,H1,I1,w1⟩
 refine wpAny_passesOwn hp (thn (hc pins s1 σ1 H1 _ I1 (turn n σ1 H1 w1)) λb s2 ⟨H2,I2,q2⟩=>?_)
 cases b with
 |true=>
  obtain⟨N,hN,q2⟩:=q2;rw[if_pos rfl];refine wpAny_passesOwn hp (thn (hb pins s2 σ1 H2 _ I2 q2) λf s3 q3=>?_)
  cases f with
  |next=>
   obtain⟨σ3,H3,I3,n3⟩:=q3;obtain⟨m',hm,w3⟩:=hN σ3 H3 n3;exact⟨m',hm,σ3,H3,I3,w3⟩
  |cont=>
   obtain⟨σ3,H3,I3,n3⟩:=q3;obtain⟨m',hm,w3⟩:=hN σ3 H3 n3;exact⟨m',hm,σ3,H3,I3,w3⟩
  |brk=>exact q3
  |ret v=>exact q3
 |false=>
  rw[if_neg zam];exact wpAny_execs_nil ⟨σ1,H2,I2,q2⟩
end
structure It where
 go:Nat->Hp->Prop
 yld:Nat->Hp->V->Hp->Prop
 stop:Nat->Hp->Prop
def jg(X:Cx)(pins:List (Addr×Obj))(H:Hp)(b:Addr):Prop :=
 H b=none/\b≠X.env.locals/\b∉X.fs/\(b∈X.ex\/X.s₀.heap.objs.size<=b)/\(∀x c,X.env.cells.lookup x=some c->c≠b)/\∀p∈X.pn++pins,p.1≠b
theorem Inv.pE{σ:St}{s:Shared}{b:Addr}(I:Inv X pins σ H s)(hb:s.heap.objs.size<=b)(hn:H' b=none):jg X pins H' b:=by
 refine⟨hn,Nat.ne_of_gt (zaF I.lt hb),I.L9 hb,.inr (zaX I.sz hb),λx c e z=>?_,λp hp z=>?_⟩
 ·obtain⟨v,q⟩:=I.cell x c e
  exact absurd (zaF q.lt (by rw[z];exact hb)) (za3 _)
 ·exact absurd (zaF (zaq (I.pin p hp).1) (by rw[z];exact hb)) (za3 _)
structure Turn(P:Program)(w:World)(K:zag)(tg:Expr)(J:It)(fp:List Addr)(it:Addr)(tn:Nat->Heap->Prop):Prop where
 mem:it∈fp
 obj:∀i h,tn i h->∀b∈fp,∃o,h.get? b=some o/\∀v,o.data≠.cell v
 keep:∀i h h',tn i h->(∀b∈fp,∀o,h.get? b=some o->h'.get? b=some o)->tn i h'
 item:∀(X:Cx),X.prog=P->X.w=w->X.K=K->X.calm=true->∀(i:Nat) (pins:List (Addr×Obj)) (s:Shared) (σ:St) (H:Hp) (E:Value->Shared->Prop),Inv X pins σ H s->(∀b∈fp,jg X pins H b)->tn i s.heap->J.go i H->
  wpAny (model P w) X.A (pyNext (.ref it)) (λr s1=>∃u,r=some u/\
   wpAny (model P w) X.A (letOwnedTupleGo tg (.ref it) u) (λ_ s2=>∃x H',Inv X pins σ H' s2/\RelV x u/\J.yld i H x H'/\tn (i+1) s2.heap/\∀b∈fp,H' b=none) E s1) E s
 done:∀(X:Cx),X.prog=P->X.w=w->X.K=K->X.calm=true->∀(i:Nat) (pins:List (Addr×Obj)) (s:Shared) (σ:St) (H:Hp) (E:Value->Shared->Prop),Inv X pins σ H s->(∀b∈fp,jg X pins H b)->tn i s.heap->J.stop i H->
  wpAny (model P w) X.A (pyNext (.ref it)) (λr s1=>r=none/\Inv X pins σ H s1) E s
 self:∀(A:Around) (i:Nat) (s:Shared) (Q:Value->Shared->Prop) (E:Value->Shared->Prop),tn i s.heap->Q (.ref it) s->wpAny (model P w) A (pyIter (.ref it)) Q E s
abbrev TI:=St->Hp->(It->Hp->Prop)->Prop
def PIE(X:Cx)(pins:List (Addr×Obj))(σ:St)(tg:Expr)(R:It->Hp->Prop)(itv:Value)(s2:Shared):Prop :=
 ∃(it:Addr) (fp:List Addr) (tn:Nat->Heap->Prop) (J:It) (H':Hp),itv=.ref it/\Inv X pins σ H' s2/\Turn X.prog X.w X.K tg J fp it tn/\tn 0 s2.heap/\(∀b∈fp,jg X pins H' b)/\R J H'
def PI(X:Cx)(tg iter:Expr)(wi:TI):Prop :=
 ∀(pins:List (Addr×Obj)) (s:Shared) (σ:St) (H:Hp) (R:It->Hp->Prop),Inv X pins σ H s->wi σ H R->
  wpAny (model X.prog X.w) X.A (eval iter X.env) (λv s1=>wpAny (model X.prog X.w) X.A (pyIter v) (PIE X pins σ tg R) X.xe s1) X.xe s
theorem vO(ho:s.heap.get? it=some o)(hc:o.cls=.type n)(hd:o.data=.fields vs)
  (hn : ["enumerate","zip","dict_itemiterator","dict_reverseitemiterator","odict_iterator","itertools.zip_longest","itertools.pairwise"].contains n=false) (hQ:Q () s):wpAny M A (letOwnedTupleGo tg (.ref it) u) Q E s:=by
 unfold letOwnedTupleGo;cases tg<;>first
  |exact zaZ hQ
  |(cases u<;>first
    |exact zaZ hQ
    | (refine zaI (wpAny_load ho ?_)
       rw[hc,hd];show wpAny M A (if(["enumerate","zip","dict_itemiterator","dict_reverseitemiterator","odict_iterator","itertools.zip_longest","itertools.pairwise"].contains n&&vs[0]? ==some (rawInt _))=true then _ else _) Q E s
       rw[if_neg (by intro h;rw[hn,Bool.false_and]at h;cases h)]
       exact zaZ hQ))
def Itl(K:zag)(a:Addr):It :=
 ⟨λi H=>∃xs x,SqL K H a xs/\xs[i]?=some x,λi H x H'=>H'=H/\∀xs,SqL K H a xs->xs[i]?=some x,λi H=>∃xs,SqL K H a xs/\xs.length<=i⟩
def Itt(K:zag)(a:Addr):It :=
 ⟨λi H=>∃xs x,SqT K H a xs/\xs[i]?=some x,λi H x H'=>H'=H/\∀xs,SqT K H a xs->xs[i]?=some x,λi H=>∃xs,SqT K H a xs/\xs.length<=i⟩
def Itr(lo:Int)(n:Nat):It:=⟨λi _=>i<n,λi H x H'=>H'=H/\x=.int (lo+i),λi _=>n<=i⟩
theorem AL{K:zag}(a it:Addr):Turn P w K tg (Itl K a) [it] it (λi h=>h.IsListIter it a i) where
 mem:=by simp
 obj:=λi h st b hb=>by
  have e:b=it:=by simpa using hb
  subst e;obtain⟨o,e,c,d⟩:=st;exact⟨o,e,λv z=>by rw[d]at z;cases z⟩
 keep:=λi h h' st k=>st.at λo e=>k it (by simp) o e
 item:=by
  intro X hP hw hK hc i pins s σ H E I hf st hg;subst hP hw hK;obtain⟨xs,x,hq,hx⟩:=hg;obtain⟨its,rv,p,hz⟩:=I.list hq;obtain⟨u,hu,ru⟩:=rv.get hx;obtain⟨f0,f1,f2,f3,f4,f5⟩:=hf it (by simp)
  refine wpAny_pyNext_list_item st p.isList (x:=u) (by simpa using hu) λh' st' sb=>?_
  have I1:Inv X pins σ H {s with heap:=h'}:=I.turned (t':=s.toks) (λb o hb e=>(sb.2 b hb).trans e) f0 f1 f3 f4 f5
  obtain⟨o,e,c,d⟩:=id st';exact⟨u,rfl,vO (s:={s with heap:=h'}) e c d (by decide) ⟨x,H,I1,ru,⟨rfl,λys hy=>by rw[I.vL hy hq];exact hx⟩,st',λb hb=>(hf b hb).1⟩⟩
 done:=by
  intro X hP hw hK hc i pins s σ H E I hf st hg;subst hP hw hK;obtain⟨xs,hq,hx⟩:=hg;obtain⟨its,rv,p,hz⟩:=I.list hq;obtain⟨f0,f1,f2,f3,f4,f5⟩:=hf it (by simp)
  have hl:=rv.length;exact wpAny_pyNext_list_end (I.ok.hd hc) st p.isList (by simp;omega) λh' eb=>⟨rfl,I.turned (t':=s.toks) (λb o hb e=>eb b o hb e) f0 f1 f3 f4 f5⟩
 self:=λ_ _ _ _ _ st h=>wpAny_pyIter_listiter st h
theorem xM{K:zag}(a it:Addr):Turn P w K tg (Itt K a) [it] it (λi h=>h.IsTupleIter it a i) where
 mem:=by simp
 obj:=λi h st b hb=>by
  have e:b=it:=by simpa using hb
  subst e;obtain⟨o,e,c,d⟩:=st;exact⟨o,e,λv z=>by rw[d]at z;cases z⟩
 keep:=λi h h' st k=>st.at λo e=>k it (by simp) o e
 item:=by
  intro X hP hw hK hc i pins s σ H E I hf st hg;subst hP hw hK;obtain⟨xs,x,hq,hx⟩:=hg;obtain⟨its,rv,p,hz⟩:=I.tuple hq;obtain⟨u,hu,ru⟩:=rv.get hx;obtain⟨f0,f1,f2,f3,f4,f5⟩:=hf it (by simp)
  refine wpAny_pyNext_tuple_item st (show s.heap.IsTuple a its.toArray from p) (x:=u) (by simpa using hu) λh' st' sb=>?_
  have I1:Inv X pins σ H {s with heap:=h'}:=I.turned (t':=s.toks) (λb o hb e=>(sb.2 b hb).trans e) f0 f1 f3 f4 f5
  obtain⟨o,e,c,d⟩:=id st';exact⟨u,rfl,vO (s:={s with heap:=h'}) e c d (by decide) ⟨x,H,I1,ru,⟨rfl,λys hy=>by rw[I.AI hy hq];exact hx⟩,st',λb hb=>(hf b hb).1⟩⟩
 done:=by
  intro X hP hw hK hc i pins s σ H E I hf st hg;subst hP hw hK;obtain⟨xs,hq,hx⟩:=hg;obtain⟨its,rv,p,hz⟩:=I.tuple hq;obtain⟨f0,f1,f2,f3,f4,f5⟩:=hf it (by simp)
  have hl:=rv.length;exact wpAny_pyNext_tuple_end (I.ok.hd hc) st (show s.heap.IsTuple a its.toArray from p) (by simp;omega) λh' eb=>⟨rfl,I.turned (t':=s.toks) (λb o hb e=>eb b o hb e) f0 f1 f3 f4 f5⟩
 self:=λ_ _ _ _ _ st h=>wpAny_pyIter_tupleiter st h
theorem xN{K:zag}(it:Addr)(lo:Int)(n:Nat):Turn P w K tg (Itr lo n) [it] it (λi h=>IsRangeIter h it (lo+(i:Nat)*1) ((n:Int)-(i:Nat)) 1) where
 mem:=by simp
 obj:=λi h st b hb=>by
  have e:b=it:=by simpa using hb
  subst e;exact⟨_,st,λv z=>by
   have z':Data.fields _=Data.cell v:=z;cases z'⟩
 keep:=λi h h' st k=>k it (by simp) _ st
 item:=by
  intro X hP hw hK hc i pins s σ H E I hf st hg;subst hP hw hK;obtain⟨f0,f1,f2,f3,f4,f5⟩:=hf it (by simp)
  have W:=Walks.range (prog:=X.prog) (w:=X.w) (I.ok.hd hc) it lo 1 n;refine W.item i s _ _ hg st λv h' tk hv st' kk=>?_
  obtain⟨t,rfl⟩:=hv;have I1:Inv X pins σ H {s with heap:=h',toks:=tk}:=I.turned (λb o hb e=>kk b o (by simpa using hb) e) f0 f1 f3 f4 f5
  refine⟨_,rfl,vO (s:={s with heap:=h',toks:=tk}) (n:="range_iterator") st' rfl rfl (by decide) ⟨.int (lo+i),H,I1,⟨t,?_⟩,⟨rfl,rfl⟩,st',λb hb=>(hf b hb).1⟩⟩
  rw[Int.mul_one]
 done:=by
  intro X hP hw hK hc i pins s σ H E I hf st hg;subst hP hw hK;obtain⟨f0,f1,f2,f3,f4,f5⟩:=hf it (by simp)
  exact wpAny_pyNext_range_end (I.ok.hd hc) st (by have:n<=i:=hg;omega) λh' eb=>⟨rfl,I.turned (t':=s.toks) (λb o hb e=>eb b o hb e) f0 f1 f3 f4 f5⟩
 self:=λ_ _ _ _ _ st h=>wpAny_pyIter_rangeiter st h
section
variable{X:Cx}{tg:Expr}
def zj(K:zag)(tl:TE):TI:=fun σ H R=>tl σ H λx H1=>∃a,x=.ref a/\(∃xs,SqL K H1 a xs)/\R (Itl K a) H1
def ID(K:zag)(tl:TE):TI:=fun σ H R=>tl σ H λx H1=>∃a,x=.ref a/\(∃xs,SqT K H1 a xs)/\R (Itt K a) H1
theorem E6(hl:PE X l tl):PI X tg l (zj X.K tl):=by
 intro pins s σ H R I h;refine thn (hl pins s σ H _ I h) λv s1 ⟨x,H1,I1,r1,q1⟩=>?_
 obtain⟨a,e,⟨xs,hq⟩,q⟩:=q1;subst e;cases r1;obtain⟨its,rv,p,hz⟩:=I1.list hq;refine wpAny_pyIter_list p.isList ?_;refine⟨s1.heap.objs.size,[s1.heap.objs.size],_,_,H1,rfl,I1.kept (t':=s1.toks) λb o e=>zar _ e,AL a _,⟨_,zaL _ rfl,rfl,rfl⟩,λb hb=>?_,q⟩
 have e:b=s1.heap.objs.size:=by simpa using hb
 subst e;exact I1.pE (zap _) (I1.hok.fresh (zap _))
theorem IF(hl:PE X l tl):PI X tg l (ID X.K tl):=by
 intro pins s σ H R I h;refine thn (hl pins s σ H _ I h) λv s1 ⟨x,H1,I1,r1,q1⟩=>?_
 obtain⟨a,e,⟨xs,hq⟩,q⟩:=q1;subst e;cases r1;obtain⟨its,rv,p,hz⟩:=I1.tuple hq;refine wpAny_pyIter_tuple (show s1.heap.IsTuple a its.toArray from p) ?_;refine⟨s1.heap.objs.size,[s1.heap.objs.size],_,_,H1,rfl,I1.kept (t':=s1.toks) λb o e=>zar _ e,xM a _,⟨_,zaL _ rfl,rfl,rfl⟩,λb hb=>?_,q⟩
 have e:b=s1.heap.objs.size:=by simpa using hb
 subst e;exact I1.pE (zap _) (I1.hok.fresh (zap _))
theorem Cs{σ:St}{R:It->Hp->Prop}{E:Value->Shared->Prop}{lo hi:Int}{t u v:Tok}{tk:Nat}(I:Inv X pins σ H s)(h1 : -(2^62)<=lo)(h2:lo<2^62)(h3 : -(2^62)<=hi)(h4:hi<2^62)
  (q:R (Itr lo (hi-lo).toNat) H):wpAny (model X.prog X.w) X.A (pyIter (.ref s.heap.objs.size)) (PIE X pins σ tg R) E {s with heap:=s.heap.push {cls:=.type "range",data:=.fields #[.int lo t,.int hi u,.int 1 v]},toks:=tk}:=by
 refine wpAny_pyIter_range (IsRange.new ..) (small_one h1 h2 h3 h4) ?_;have I1:Inv X pins σ H {s with heap:=s.heap.push {cls:=.type "range",data:=.fields #[.int lo t,.int hi u,.int 1 v]},toks:=tk}:=I.kept λb o e=>zar _ e
 refine⟨(s.heap.push {cls:=.type "range",data:=.fields #[.int lo t,.int hi u,.int 1 v]}).objs.size,[(s.heap.push {cls:=.type "range",data:=.fields #[.int lo t,.int hi u,.int 1 v]}).objs.size],_,_,H,rfl,
  I1.kept (t':=tk) λb o e=>zar _ e,xN _ lo (hi-lo).toNat,?_,λb hb=>?_,q⟩
 ·have e1:lo+((0:Nat):Int)*1=lo:=by simp
  have e2:(((hi-lo).toNat:Nat):Int)-((0:Nat):Int)=Builtin.Range.rangeSize lo hi 1:=by rw[rangeSize_one];split<;>omega
  show IsRangeIter _ _ (lo+((0:Nat):Int)*1) ((((hi-lo).toNat:Nat):Int)-((0:Nat):Int)) 1;rw[e1,e2];exact zaL _ rfl
 ·have e:b=(s.heap.push {cls:=.type "range",data:=.fields #[.int lo t,.int hi u,.int 1 v]}).objs.size:=by simpa using hb
  subst e;exact I1.pE (zap _) (I1.hok.fresh (zap _))
def Ct(ta:TA):TI:=fun σ H R=>ta σ H λvs H1=>∃j:Int,vs=[.int j]/\-(2^62)<=j/\j<2^62/\R (Itr 0 j.toNat) H1
theorem sC(hg:Gl X "range")(hm:X.mg "range"=none)(ha:PA X [a] ta)(hs:starEach [a] X.env=[(false,eval a X.env)]:=by rfl):PI X tg (.Call (.Name "range" p) [a] [] pos) (Ct ta):=by
 intro pins s σ H R I h;refine Call_ (ot I hg hm boot_range (PyProof.Rows.callWith_type1 (thn (ha pos pins s σ H _ I h) λus s1 ⟨vs,H1,I1,r1,q1⟩=>?_) hs rfl))
 obtain⟨j,e,q1,q2,q⟩:=q1;subst e;cases r1 with
 |cons r rr=>
  cases rr;obtain⟨t,rfl⟩:=r;exact call_range_1 (Cs I1 (by omega) (by omega) q1 q2 (by simpa using q))
def vP(wi:TI)(g:TG)(tb:TS):TS:=λD σ H=>wi σ H λJ H1=>∃W:Nat->Nat->St->Hp->Prop,(∃m,W 0 m σ H1)/\∀i m σ H,W i m σ H->
 (J.stop i H/\D.nx σ H)\/(J.go i H/\∃N:St->Hp->Prop,(∀σ' H',N σ' H'->∃m',m'<m/\W (i+1) m' σ' H')/\∀x H',J.yld i H x H'->g x σ H' fun σ2 H2=>tb {D with nx:=N,ct:=N,bk:=D.nx} σ2 H2)
def fH(fp:List Addr)(h:Heap):List (Addr×Obj):=fp.filterMap λb=>(h.get? b).map λo=>(b,o)
theorem bx(hb:b∈fp)(e:h.get? b=some o):(b,o)∈fH fp h:=List.mem_filterMap.mpr ⟨b,hb,by rw[e];rfl⟩
theorem jB(hp:p∈fH fp h):p.1∈fp/\h.get? p.1=some p.2:=by
 obtain⟨b,hb,e⟩:=List.mem_filterMap.mp hp;cases q:h.get? b with
 |none=>rw[q]at e;cases e
 |some o=>
  rw[q]at e;have e':(b,o)=p:=zaQ e;subst e';exact⟨hb,q⟩
theorem Inv.pinned{σ:St}{fp:List Addr}(I:Inv X pins σ H s)(hf:∀b∈fp,jg X pins H b)(ho:∀b∈fp,∃o,s.heap.get? b=some o/\∀v,o.data≠.cell v):Inv X (pins++fH fp s.heap) σ H s :=
 I.zi λp hp=>(zae hp).elim (λz=>I.pin p (zan _ z)) λz=>by
  obtain⟨hb,e⟩:=jB z;obtain⟨f0,f1,f2,_⟩:=hf p.1 hb;obtain⟨o,e',d⟩:=ho p.1 hb;rw[e]at e';cases e'
  exact⟨e,f0,f1,f2,d⟩
theorem Inv.dU{σ:St}(I:Inv X (pins++pl) σ H s):Inv X pins σ H s:=I.zi λp hp=>I.pin p (zan _ (zaW _ hp))
theorem jV(hp:PassesOwn (model X.prog X.w) X.A X.env X.xe)(hc:X.calm=true)(hi:PI X tg iter wi)(hg:PG X tg g)(hb:PSs X body tb)
  (hs:∀x,foldedSetIterable iter X.env x=pure x:=by intro _;rfl):PS X (.For tg iter body [] pos) (vP wi g tb):=by
 intro pins s σ H D I h;refine wpAny_For (thn (hi pins s σ H _ I h) λv s1 h1=>thn h1 λitv s2 h2=>?_) hs
 obtain⟨it,fp,tn,J,H2,e,I2,T,st2,f2,W,⟨m0,w0⟩,turn⟩:=h2;subst e;have stat:∀{H':Hp},(∀b∈fp,H' b=none)->∀b∈fp,jg X pins H' b:=λhn b hb=>⟨hn b hb,(f2 b hb).2⟩
 refine codeAny_forLoop_any (λn s'=>∃i σ' H',Inv X pins σ' H' s'/\tn i s'.heap/\(∀b∈fp,H' b=none)/\W i n σ' H') ?_ m0 ⟨0,σ,H2,I2,st2,λb hb=>(f2 b hb).1,w0⟩
 rintro n s3 ⟨i,σ3,H3,I3,st3,fr3,w3⟩
 rcases turn i n σ3 H3 w3 with⟨stop,qn⟩|⟨go,N,hN,step⟩
 ·refine wpAny_passesOwn hp (thn (T.done X rfl rfl rfl hc i pins s3 σ3 H3 X.xe I3 (stat fr3) st3 stop) λr s4 ⟨hr,I4⟩=>?_)
  subst hr;exact wpAny_execs_nil ⟨σ3,H3,I4,qn⟩
 ·refine wpAny_passesOwn hp (thn (T.item X rfl rfl rfl hc i pins s3 σ3 H3 X.xe I3 (stat fr3) st3 go) λr s4 ⟨u,hr,h4⟩=>?_)
  subst hr;refine wpAny_passesOwn hp (thn h4 λ_ s5 ⟨x,H5,I5,r5,y5,st5,fr5⟩=>?_)
  have I5':=I5.pinned (stat fr5) (T.obj _ _ st5);refine wpAny_passesOwn hp (thn (hg _ s5 σ3 H5 x u _ I5' r5 (step x H5 y5)) λ_ s6 ⟨σ6,H6,I6,q6⟩=>?_)
  refine wpAny_passesOwn hp (thn (hb _ s6 σ6 H6 _ I6 q6) λf s7 q7=>?_)
  have again:∀{σ7:St} {H7:Hp},Inv X (pins++fH fp s5.heap) σ7 H7 s7->N σ7 H7->∃m,m<n/\∃i σ' H',Inv X pins σ' H' s7/\tn i s7.heap/\(∀b∈fp,H' b=none)/\W i m σ' H':=fun{σ7 H7} I7 n7=>by
   obtain⟨m',hm,w7⟩:=hN σ7 H7 n7;refine⟨m',hm,i+1,σ7,H7,I7.dU,T.keep _ _ _ st5 λb hb o e=>(I7.pin (b,o) (zan _ (zan _ (bx hb e)))).1,λb hb=>?_,w7⟩
   obtain⟨o,e,d⟩:=T.obj _ _ st5 b hb;exact(I7.pin (b,o) (zan _ (zan _ (bx hb e)))).2.1
  cases f with
  |next=>obtain⟨σ7,H7,I7,n7⟩:=q7;exact again I7 n7
  |cont=>obtain⟨σ7,H7,I7,n7⟩:=q7;exact again I7 n7
  |brk=>obtain⟨σ7,H7,I7,q7⟩:=q7;exact⟨σ7,H7,I7.dU,q7⟩
  |ret v=>obtain⟨x7,σ7,H7,I7,r7,q7⟩:=q7;exact⟨x7,σ7,H7,I7.dU,r7,q7⟩
end
abbrev R2:=V->V->Hp->VK->Prop
def OpR(X:Cx)(f:Value->Value->Sem Value)(r:R2):Prop :=
 ∀(pins:List (Addr×Obj)) (s:Shared) (σ:St) (H:Hp) (x y:V) (v u:Value) (Q:VK),Inv X pins σ H s->RelV x v->RelV y u->r x y H Q->
  wpAny (model X.prog X.w) X.A (f v u) (EP X pins σ Q) X.xe s
def d7(X:Cx)(f:Value)(r:List V->Hp->VK->Prop):Prop :=
 ∀(pins:List (Addr×Obj)) (s:Shared) (σ:St) (H:Hp) (xs:List V) (us:List Value) (Q:VK),Inv X pins σ H s->Vals xs us->r xs H Q->
  wpAny (model X.prog X.w) X.A (call f us) (EP X pins σ Q) X.xe s
def tOp(r:R2)(ta tb:TE):TE:=fun σ H Q=>ta σ H λx H1=>tb σ H1 λy H2=>r x y H2 Q
def rI(C:Int->Int->Prop)(g:Int->Int->V):R2:=λx y H Q=>∃i j,x=.int i/\y=.int j/\C i j/\Q (g i j) H
def rI0(g:Int->Int->V):R2:=λx y H Q=>∃i j,x=.int i/\y=.int j/\Q (g i j) H
section
variable{X:Cx}{a b c:Expr}{ta tb tc:TE}{pos:Pos}
theorem IG(ha:PE X a ta)(hb:PE X b tb){σ:St}{R:V->V->Hp->Prop}(I:Inv X pins σ H s)
  (h:ta σ H λx H1=>tb σ H1 λy H2=>R x y H2) {Q:Value->Shared->Prop} {f:Value->Value->Sem Value}
  (hf:∀v u s2 x y H2,Inv X pins σ H2 s2->RelV x v->RelV y u->R x y H2->wpAny (model X.prog X.w) X.A (f v u) Q X.xe s2) :
  wpAny (model X.prog X.w) X.A (eval a X.env) (λv s₁=>wpAny (model X.prog X.w) X.A (eval b X.env) (λu s₂=>wpAny (model X.prog X.w) X.A (f v u) Q X.xe s₂) X.xe s₁) X.xe s:=by
 refine thn (ha pins s σ H _ I h) λv s1 ⟨x,H1,I1,r1,q1⟩=>?_
 refine thn (hb pins s1 σ H1 _ I1 q1) λu s2 ⟨y,H2,I2,r2,q2⟩=>?_
 exact hf v u s2 x y H2 I2 r1 r2 q2
theorem bG(ho:OpR X (binaryOp op) r)(ha:PE X a ta)(hb:PE X b tb):PE X (.BinOp a op b pos) (tOp r ta tb):=by
 intro pins s σ H Q I h;exact wpAny_BinOp (IG ha hb I h λv u s2 x y H2 I2 rx ry q=>ho pins s2 σ H2 x y v u Q I2 rx ry q)
theorem opI{g:Int->Int->Int}
  (rule:∀(i j:Int) (t u:Tok) (s:Shared) (Q:Value->Shared->Prop) (E:Value->Shared->Prop),C i j->Q (.int (g i j) s.toks) {s with toks:=s.toks+1}->wpAny (model X.prog X.w) X.A (f (.int i t) (.int j u)) Q E s) :
  OpR X f (rI C λi j=>.int (g i j)):=by
 intro pins s σ H x y v u Q I rx ry h;obtain⟨i,j,rfl,rfl,hc,q⟩:=h;obtain⟨t,rfl⟩:=rx;obtain⟨t',rfl⟩:=ry;exact rule i j t t' s _ _ hc ⟨.int (g i j),H,I.tok _,⟨_,rfl⟩,q⟩
theorem KD{g:Int->Int->Int}
  (rule:∀(i j:Int) (t u:Tok) (s:Shared) (Q:Value->Shared->Prop) (E:Value->Shared->Prop),Q (.int (g i j) s.toks) {s with toks:=s.toks+1}->wpAny (model X.prog X.w) X.A (f (.int i t) (.int j u)) Q E s) :
  OpR X f (rI0 λi j=>.int (g i j)):=by
 intro pins s σ H x y v u Q I rx ry h;obtain⟨i,j,rfl,rfl,q⟩:=h;obtain⟨t,rfl⟩:=rx;obtain⟨t',rfl⟩:=ry;exact rule i j t t' s _ _ ⟨.int (g i j),H,I.tok _,⟨_,rfl⟩,q⟩
theorem KG{g:Int->Int->Bool}
  (rule:∀(i j:Int) (t u:Tok) (s:Shared) (Q:Value->Shared->Prop) (E:Value->Shared->Prop),Q (.bool (g i j)) s->wpAny (model X.prog X.w) X.A (f (.int i t) (.int j u)) Q E s) :
  OpR X f (rI0 λi j=>.bl (g i j)):=by
 intro pins s σ H x y v u Q I rx ry h;obtain⟨i,j,rfl,rfl,q⟩:=h;obtain⟨t,rfl⟩:=rx;obtain⟨t',rfl⟩:=ry;exact rule i j t t' s _ _ ⟨.bl (g i j),H,I,rfl,q⟩
def IH(i j:Int):Prop:=0<j/\j<1073741824
def II(i j:Int):Prop:=0<=j/\j<=1000000/\i.natAbs<2^64
def IJ(i j:Int):Prop:=(-(2^64)<i/\i<2^64)\/(-(2^64)<j/\j<2^64)
theorem IJ.ok(h:IJ i j):IntMulOk i j:=by
 rcases h with⟨h1,h2⟩|⟨h1,h2⟩
 ·exact .of_left (intBits_le_64 h1 h2)
 ·exact .of_right (intBits_le_64 h1 h2)
theorem IK:OpR X (binaryOp .Add) (rI0 λi j=>.int (i+j)):=KD λ_ _ _ _ _ _ _ q=>add_int q
theorem xO:OpR X (binaryOp .Sub) (rI0 λi j=>.int (i-j)):=KD λ_ _ _ _ _ _ _ q=>sub_int q
theorem jW:OpR X (binaryOp .FloorDiv) (rI IH λi j=>.int (i/j)):=opI λi j _ _ _ _ _ hc q=>by
 have h1:(0:Int)<j:=hc.1;have h2:j<1073741824:=hc.2;exact floordiv_int (by omega) (by rw[Int.fdiv_eq_ediv_of_nonneg i (by omega)];exact q) (.inl (PyProof.noPylong_small (by omega)))
theorem dZ:OpR X (binaryOp .Mod) (rI (λ_ j=>0<j) λi j=>.int (i%j)):=opI λi j _ _ _ _ _ hc q=>by
 have h1:(0:Int)<j:=hc;exact mod_int' (by omega) (by rw[Int.fmod_eq_emod_of_nonneg i (by omega)];exact q)
theorem Cu:OpR X (binaryOp .Pow) (rI II λi j=>.int (i^j.toNat)):=opI λ_ _ _ _ _ _ _ hc q=>pow_int_small hc.1 hc.2.1 hc.2.2 q
theorem IL{σ:St}{Q:VK}{k k':Bool}(I:Inv X pins σ H s)(q:Q (.bl k) H)(e:k=k'):EP X pins σ Q (.bool k') s:=by
 subst e;exact⟨.bl k,H,I,rfl,q⟩
theorem Hm:OpR X (compareOp .Lt) (rI0 λi j=>.bl (decide (i<j))):=KG λ_ _ _ _ _ _ _ q=>lt_int q
theorem vQ:OpR X (compareOp .Gt) (rI0 λi j=>.bl (decide (j<i))):=KG λ_ _ _ _ _ _ _ q=>gt_int q
theorem zk:OpR X (compareOp .IsNot) (λx y H Q=>y=.non/\Q (.bl (!decide (x=.non))) H):=by
 intro pins s σ H x y v u Q I rx ry h;obtain⟨rfl,q⟩:=h;cases ry;refine isnot_none_gen (IL I q ?_);cases x<;>first
  |(cases rx;rfl)
  |(obtain⟨t,rfl⟩:=rx;rfl)
theorem OpR.or(h:OpR X f r)(h':OpR X f r'):OpR X f (λx y H Q=>r x y H Q\/r' x y H Q):=by
 intro pins s σ H x y v u Q I rx ry q;rcases q with q|q
 ·exact h pins s σ H x y v u Q I rx ry q
 ·exact h' pins s σ H x y v u Q I rx ry q
theorem bB(b:Expr)(h:op≠.In:=by decide)(h2:op≠.NotIn:=by decide):behindInMarks op b=false:=by
 have e1:(op==CmpOp.In)=false:=by cases op<;>first|rfl|exact absurd rfl h
 have e2:(op==CmpOp.NotIn)=false:=by cases op<;>first|rfl|exact absurd rfl h2
 cases b<;>simp[behindInMarks,e1,e2]
theorem iS(ho:OpR X (compareOp op) r)(ha:PE X a ta)(hb:PE X b tb)(hm:behindInMarks op b=false):PE X (.Compare a [op] [b] pos) (tOp r ta tb):=by
 intro pins s σ H Q I h;exact wpAny_Compare1 (IG ha hb I h λv u s2 x y H2 I2 rx ry q=>ho pins s2 σ H2 x y v u Q I2 rx ry q) hm
def Cv(t:TE):TT:=fun σ H Q=>t σ H λx H'=>∃k,x=.bl k/\Q k H'
theorem bD(ho:OpR X (compareOp op) r)(ha:PE X a ta)(hb:PE X b tb)(hm:behindInMarks op b=false):PT X (.Compare a [op] [b] pos) (Cv (tOp r ta tb)):=by
 intro pins s σ H Q I h;refine wpAny_isTrue_Compare1 (thn (ha pins s σ H _ I h) λv s1 ⟨x,H1,I1,r1,q1⟩=>thn (hb pins s1 σ H1 _ I1 q1) λu s2 ⟨y,H2,I2,r2,q2⟩=>
  thn (ho pins s2 σ H2 x y v u _ I2 r1 r2 q2) λc s3 ⟨z,H3,I3,r3,k,e,q3⟩=>?_) hm
 subst e;cases r3;exact wpAny_truthy_bool ⟨H3,I3,q3⟩
def Cw(r r':R2)(ta tb tc:TE):TE:=fun σ H Q=>ta σ H λx H1=>tb σ H1 λy H2=>r x y H2 λz H3=>∃k,z=.bl k/\
 (if k=true then tc σ H3 λw' H4=>r' y w' H4 Q else Q (.bl false) H3)
theorem Cy(ho:OpR X (compareOp op) r)(ho':OpR X (compareOp op') r')(ha:PE X a ta)(hb:PE X b tb)(hc:PE X c tc)
  (hm:lastMarks [op,op'] [b,c]=false:=by with_unfolding_all rfl):PE X (.Compare a [op,op'] [b,c] pos) (Cw r r' ta tb tc):=by
 intro pins s σ H Q I h;refine Compare_chain (thn (ha pins s σ H _ I h) λv s1 ⟨x,H1,I1,r1,q1⟩=>chain_link (thn (hb pins s1 σ H1 _ I1 q1) λu s2 ⟨y,H2,I2,r2,q2⟩=>
  thn (ho pins s2 σ H2 x y v u _ I2 r1 r2 q2) λd s3 ⟨z,H3,I3,r3,k,e,q3⟩=>?_)) hm
 subst e;cases r3;refine wpAny_truthy_bool ?_;cases k with
 |false=>exact ite_ff ⟨.bl false,H3,I3,rfl,q3⟩
 |true=>exact ite_tt (chain_last (thn (hc pins s3 σ H3 _ I3 q3) λw' s4 ⟨z',H4,I4,r4,q4⟩=>ho' pins s4 σ H4 y z' u w' Q I4 r2 r4 q4))
theorem qi:(sizeLine:Nat)<2^63:=by rw[sizeLine_eq];decide
theorem xP:OpR X (binaryOp .Add) (λx y H Q=>∃i j,x=.str i/\y=.str j/\i.length+j.length<=sizeLine/\Q (.str (i++j)) H):=by
 intro pins s σ H x y v u Q I rx ry h;obtain⟨i,j,rfl,rfl,hz,q⟩:=h;obtain⟨t,rfl⟩:=rx;obtain⟨t',rfl⟩:=ry;exact add_str (λt' tk=>⟨.str (i++j),H,I.tok _,⟨_,rfl⟩,q⟩) hz
theorem vals1(r:Vals [x] us):∃u,us=[u]/\RelV x u:=by
 cases r with
 |cons r1 r2=>cases r2;exact⟨_,rfl,r1⟩
theorem vals2(r:Vals [x,y] us):∃u w',us=[u,w']/\RelV x u/\RelV y w':=by
 cases r with
 |cons r1 r2=>
  cases r2 with
  |cons r3 r4=>cases r4;exact⟨_,_,rfl,r1,r3⟩
end
structure IM(h:Heap)(x dx C:Addr)(mA:Str->Option Value):Prop where
 obj:h.get? x=some (PySem.W.instObj C dx)
 ns:h.Ns1 dx mA
 ne:dx≠x
theorem AM{h:Heap}(n:h.Ns1 dx mA):∃od,h.get? dx=some od/\∀name,PySem.W.lookIn name od=some (mA name):=by
 obtain⟨o,es,ep,ho,hd,hk,_,hm⟩:=n;refine⟨o,ho,λname=>?_⟩
 have e:=hm name;unfold nsFind findBy at e;rw[<-Array.find?_toList]at e;unfold PySem.W.lookIn;rw[hd];dsimp only;split
 ·rename_i y q
  rw[q]at e;exact congrArg some e
 ·rename_i q
  rw[q]at e;have a:es.toList.any (·.refKey)=false:=by
   rw[List.any_eq_false];intro y hy;obtain⟨z,t,hkey⟩:=hk y (Array.mem_toList_iff.mp hy);simp[DictEntry.refKey,hkey]
  have a' : ¬es.toList.any (·.refKey)=true:=by rw[a];exact zam
  rw[if_neg a'];exact congrArg some e
theorem IM.look(I:IM h x dx C mA):∃od,PySem.W.InstAt h x (PySem.W.instObj C dx) C (some od)/\∀name,PySem.W.lookIn name od=some (mA name) :=
 let⟨od,ho,hl⟩:=AM I.ns
 ⟨od,⟨I.obj,rfl,rfl,ho⟩,hl⟩
def IQ(f:Str)(v:V):List (Str×V)->List (Str×V)
 | []=>[(f,v)]
 |(g,x)::r=>if g=f then(g,v)::r else(g,x)::IQ f v r
theorem me.some_of(r:me (some v) o):∃u,o=some u/\RelV v u:=by
 cases o with
 |none=>exact(show False from r).elim
 |some u=>exact⟨u,rfl,r⟩
theorem me.none_of(r:me none o):o=none:=by
 cases o with
 |none=>rfl
 |some u=>exact(show False from r).elim
section
variable{P:Program}{w:World}{H H':Hp}{h h':Heap}{a C dx:Addr}{fs fs':List (Str×V)}
theorem E7(hok:HOk P w H h)(e:H a=some (.ins C dx fs)):∃mA,IM h a dx C mA/\(∀f,me (fs.lookup f) (mA f))/\PySem.Within mA (fs.map (·.1))/\fs.length<=1000/\H dx=some (.own a):=by
 obtain⟨d,z,ne,ob,mA,n,r,q⟩:=(show cb P w H h a (.ins C dx fs)from hok a _ e);exact⟨mA,⟨ob,n,ne⟩,r,q,z,d⟩
end
structure Cls(K:zag)(C:Addr):Prop where
 pg:PySem.W.plainGet K C Str.empty=true
 hd:PySem.W.hasDictIn K C=true
 po:PySem.W.plainOver K C=true
 sa:PySem.W.findIn K (.ref C) "__setattr__"=some (some (.builtin "object.__setattr__"))
theorem Cls.get{K:zag}(c:Cls K C)(f:Str):PySem.W.plainGet K C f=true:=c.pg
structure Con(K:zag)(C:Addr)(f:Str)(v:V)(u:Value):Prop where
 at_:PySem.W.findIn K (.ref C) f=some (some u)
 rel:RelV v u
 get:PySem.W.specialIn K u "__get__"=some none
 cp:PySem.W.copiedNames.contains f=false
structure Meth(K:zag)(C:Addr)(m:Str)(f:Addr):Prop where
 at_:PySem.W.findIn K (.ref C) m=some (some (.ref f))
 fn:PySem.W.isFn K (.ref f)=true
 kp:PySem.W.keepIn K (.ref f)=true
section
variable{X:Cx}{pins:List (Addr×Obj)}{σ:St}{H:Hp}{s:Shared}{A:Around}{E:Value->Shared->Prop}{Q:Value->Shared->Prop}{c:Value}{b:Bool}
inductive ou(K:zag)(H:Hp):V->Value->Prop where
 |non:ou K H .non (.type "NoneType")
 |bl (x:Bool):ou K H (.bl x) (.type "bool")
 |int (i:Int):ou K H (.int i) (.type "int")
 |str (x:Str):ou K H (.str x) (.type "str")
 |flt (x:UInt64):ou K H (.flt x) (.type "float")
 |lst {a:Addr} {xs:List V} (e:H a=some (.lst xs)):ou K H (.ref a) (.type "list")
 |frz {a:Addr} {o:Obj} {xs:List V} (e:H a=some (.frz o (.lst xs))):ou K H (.ref a) (.type "list")
 |tup {a:Addr} {xs:List V} (e:H a=some (.tup xs)):ou K H (.ref a) (.type "tuple")
 |dK {a:Addr} {kvs:List (Key×V)} (e:H a=some (.dK kvs)):ou K H (.ref a) (.type "dict")
 |dT {a:Addr} {kvs:List (List Key×V)} (e:H a=some (.dT kvs)):ou K H (.ref a) (.type "dict")
 |ins {a C dx:Addr} {fs:List (Str×V)} (e:H a=some (.ins C dx fs)) (cl:Cls K C) (ha:PySem.W.findIn K (.ref C) "__class__"=some (some (.builtin "object.__class__")))
   (hn:PySem.W.specialIn K (.builtin "object.__class__") "__get__"=some (some (.builtin "getset_descriptor.__get__"))) (htk:PySem.W.takesIn K (.builtin "object.__class__")=some true)
   (hm:PySem.W.mroIn K C (.type "object")=some true):ou K H (.ref a) (.ref C)
theorem AN(I:Inv X pins σ H s)(rx:RelV x u)(ty:ou X.K H x t)(e:PySem.W.kitOne X.K t c=some b)(h:∀tk,Q (.bool b) {s with toks:=tk}) :
  wpAny (model X.prog X.w) A (call (.builtin "isinstance") [u,c]) Q E s:=by
 cases ty with
 |non=>cases(show u=Value.none from rx);exact za4 PySem.W.kitx_none I.kIn True.intro e (λz=>nomatch z) h
 |bl y=>cases(show u=Value.bool y from rx);exact za4 PySem.W.kitx_bool I.kIn True.intro e (λz=>nomatch z) h
 |int i=>obtain⟨t,q⟩:=(show∃t,u=Value.int i t from rx);cases q;exact za4 PySem.W.kitx_int I.kIn True.intro e (λz=>nomatch z) h
 |str y=>obtain⟨t,q⟩:=(show∃t,u=Value.str y t from rx);cases q;exact za4 PySem.W.kitx_str I.kIn True.intro e (λz=>nomatch z) h
 |flt y=>obtain⟨t,q⟩:=(show∃t,u=Value.float y t from rx);cases q;exact za4 PySem.W.kitx_float I.kIn True.intro e (λz=>nomatch z) h
 | @lst a xs ea=>
  cases(show u=Value.ref a from rx);obtain⟨_,_,n,_,h1⟩:=(show cb X.prog X.w H s.heap a (.lst xs)from I.hok a _ ea);exact za4 PySem.W.kitx_list I.kIn ⟨_,h1,rfl⟩ e (λz=>nomatch z) h
 | @frz a ob xs ea=>
  cases(show u=Value.ref a from rx);obtain⟨_,_,_,n,_,h1⟩:=(show cb X.prog X.w H s.heap a (.frz ob (.lst xs))from I.hok a _ ea);exact za4 PySem.W.kitx_list I.kIn ⟨_,h1,rfl⟩ e (λz=>nomatch z) h
 | @tup a xs ea=>
  cases(show u=Value.ref a from rx);obtain⟨_,_,_,p⟩:=(show cb X.prog X.w H s.heap a (.tup xs)from I.hok a _ ea);obtain⟨o,h1,h2,_⟩:=p;exact za4 PySem.W.kitx_tuple I.kIn ⟨o,h1,h2⟩ e (λz=>nomatch z) h
 | @dK a kvs ea=>
  cases(show u=Value.ref a from rx);obtain⟨_,_,vs,_,p⟩:=(show cb X.prog X.w H s.heap a (.dK kvs)from I.hok a _ ea);obtain⟨o,es,ep,h1,h2,_⟩:=p;exact za4 PySem.W.kitx_dict I.kIn ⟨o,h1,h2.1⟩ e (λz=>nomatch z) h
 | @dT a kvs ea=>
  cases(show u=Value.ref a from rx);obtain⟨_,_,xs,_,o,es,ep,h1,h2,_⟩:=(show cb X.prog X.w H s.heap a (.dT kvs)from I.hok a _ ea);exact za4 PySem.W.kitx_dict I.kIn ⟨o,h1,h2.1⟩ e (λz=>nomatch z) h
 | @ins a C dx fs ea cl ha hn htk hm=>
  cases(show u=Value.ref a from rx);obtain⟨mA,O,_⟩:=E7 I.hok ea;obtain⟨od,J,_⟩:=O.look;exact za4 (PySem.W.kitx_own (cl.get _) cl.hd ha hn htk hm) I.kIn J e (λz=>nomatch z) h
end
structure dH(k:Nat)(A:Around):Prop where
 hd:A.handled=none
 dp:A.depth+3*k+5<recursionLimit
 un:A.units+16*k+200<cLine
theorem dH.mono(r:dH k A)(h:j<=k):dH j A:=⟨r.hd,by have:=r.dp;omega,by have:=r.un;omega⟩
theorem dH.deeper(r:dH (k+1) A)(env:Env):dH k (A.deeper env) :=
 ⟨r.hd,by have:=r.dp;show A.depth+1+3*k+5<_;omega,by have:=r.un;show A.units+3+16*k+200<_;omega⟩
theorem dH.in1(r:dH (k+1) A):dH k A.in1 :=
 ⟨r.hd,by have:=r.dp;show A.depth+3*k+5<_;omega,by have:=r.un;show A.units+1+16*k+200<_;omega⟩
theorem xQ{A:Around}:(A.under (.builtin "type.__call__" ⟨.ref C::us,kw⟩)).depth=A.depth+1:=by
 first|rfl|simp[Around.under,Code.weight,Code.isCreation,Code.isGuard,Code.isCaller,Code.frames,Code.isFrame,guardIds]
theorem xR{A:Around}:(A.under (.builtin "type.__call__" ⟨.ref C::us,kw⟩)).units=A.units+1:=by
 first|rfl|simp[Around.under,Code.cUnits,Code.frames,Code.isFrame]
theorem dH.make(r:dH (k+1) A)(C:Addr)(us:List Value)(kw:List (Str×Value)):dH k (A.under (.builtin "type.__call__" ⟨.ref C::us,kw⟩)) :=
 ⟨r.hd,by have:=r.dp;rw[xQ];omega,by have:=r.un;rw[xR];omega⟩
theorem dH.depth(r:dH k A):A.depth<recursionLimit:=by have:=r.dp;omega
theorem dH.units(r:dH k A):A.units+64<cLine:=by have:=r.un;omega
def pF:TA:=λ_ H Q=>Q [] H
def fB(ta:TE)(tr:TA):TA:=fun σ H Q=>ta σ H λx H1=>tr σ H1 λxs H2=>Q (x::xs) H2
section
variable{X:Cx}{e:Expr}{es:List Expr}{te:TE}{t:TA}{pos:Pos}
theorem aq:PA X [] pF:=λ_ _ _ _ H Q I h=>Calls.spliced_nil ⟨[],H,I,.nil,h⟩
theorem aa(ha:PE X e te)(hr:PA X es t)(hs:starEach (e::es) X.env=(false,eval e X.env)::starEach es X.env:=by rfl):PA X (e::es) (fB te t):=by
 intro pos pins s σ H Q I h;rw[hs];show wpAny _ _ (spliced ((false,eval e X.env)::backTo pos (starEach es X.env))) _ _ s;refine Calls.spliced_cons (thn (ha pins s σ H _ I h) λu s1 ⟨x,H1,I1,r1,q1⟩=>?_)
 exact thn (hr pos pins s1 σ H1 _ I1 q1) λus s2 ⟨xs,H2,I2,r2,q2⟩=>⟨x::xs,H2,I2,.cons r1 r2,q2⟩
def Cz(t:TA):TE:=fun σ H Q=>t σ H λxs H1=>xs.length<=sizeLine/\∀p,H1 p=none->Q (.ref p) (upd H1 p (.tup xs))
def E8(t:TA):TE:=fun σ H Q=>t σ H λxs H1=>xs.length<=sizeLine/\∀p,H1 p=none->Q (.ref p) (upd H1 p (.lst xs))
theorem bF(h:PA X es t):PE X (.Tuple es x1 pos) (Cz t):=by
 intro pins s σ H Q I hq;refine wpAny_Tuple_spliced (thn (h pos pins s σ H _ I hq) λus s1 ⟨xs,H1,I1,r,z,q⟩=>⟨by rw[<-r.length];exact z,?_⟩)
 have hf:H1 s1.heap.objs.size=none:=I1.hok.fresh (zap _);refine⟨.ref s1.heap.objs.size,upd H1 s1.heap.objs.size (.tup xs),I1.laid (t':=s1.toks) (λb u e=>zar _ e) (zap _) ?_,rfl,q _ hf⟩
 exact⟨z,us,r,⟨_,zaL _ rfl,rfl,_,rfl⟩⟩
theorem cU(h:PA X es t):PE X (.List es pos) (E8 t):=by
 intro pins s σ H Q I hq;refine wpAny_List_spliced (thn (h pos pins s σ H _ I hq) λus s1 ⟨xs,H1,I1,r,z,q⟩=>⟨by rw[<-r.length];exact z,?_⟩)
 have hf:H1 s1.heap.objs.size=none:=I1.hok.fresh (zap _);refine⟨.ref s1.heap.objs.size,upd H1 s1.heap.objs.size (.lst xs),I1.laid (t':=s1.toks) (λb u e=>zar _ e) (zap _) ?_,rfl,q _ hf⟩
 exact⟨z,us,0,r,zaL _ rfl⟩
end
abbrev Sp:=List V->Hp->VK->XK->Prop
abbrev CXT:=List Env->Hp->Shared->XK->Value->Shared->Prop
structure rK(P:Program)(w:World)(K:zag)(mg:Str->Option Value)(base:Heap)(A:Around)(outer:List Env)(s:Shared)(H:Hp):Prop where
 frames:A.frames=some outer
 mod:Mod K mg base
 bs:∀b o,base.get? b=some o->s.heap.get? b=some o/\H b=none
 bsz:base.objs.size<=s.heap.objs.size
 mf:s.heap.FunFrames base outer
 frf:∀b∈frs outer,H b=none
 hok:HOk P w H s.heap
 bare:AllBare s.gens
 tab:∀c T ps,gx K=some (c,T,ps)->∃more,H T=some (.tbl (ps++more))
def CE(outer:List Env)(P:Program)(w:World)(H:Hp)(s:Shared)(Q:VK)(u:Value)(s':Shared):Prop :=
 ∃v H',s'.os=s.os/\AllBare s'.gens/\Un (frs outer) [] H H' s.heap s'.heap/\HOk P w H' s'.heap/\RelV v u/\Q v H'
def CR(CX:CXT)(outer:List Env)(P:Program)(w:World)(H:Hp)(s:Shared)(Q:VK)(E:XK)(r:Result)(s':Shared):Prop :=
 match r with
 | .ok (.ret u)=>CE outer P w H s Q u s'
 | .ok _=>False
 | .error e=>CX outer H s E e s'
structure kM(P:Program)(w:World)(K:zag)(mg:Str->Option Value)(base:Heap)(CX:CXT)(k:Nat)(f:Addr)(fd:FuncData)(ps:List Str)(sp:Sp):Prop where
 len:∀vs H Q E,sp vs H Q E->vs.length=ps.length
 run:∀(A:Around) (outer:List Env) (s:Shared) (H:Hp) (args:Args) (us:List Value) (vs:List V) (Q:VK) (E:XK),dH k A->rK P w K mg base A outer s H->BindsTo s fd args (ps.zip us)->Vals vs us->sp vs H Q E->
  codeAny (model P w) A (.call (.ref f) args) (CR CX outer P w H s Q E) s
theorem kM.mono{K:zag}{base:Heap}{CX:CXT}{j k:Nat}{f:Addr}{fd:FuncData}{ps:List Str}{sp:Sp}(F:kM P w K mg base CX j f fd ps sp)(h:j<=k) :
  kM P w K mg base CX k f fd ps sp:=⟨F.len,λA outer s H args us vs Q E hr=>F.run A outer s H args us vs Q E (hr.mono h)⟩
theorem kM.imp{K:zag}{base:Heap}{CX:CXT}{k:Nat}{f:Addr}{fd:FuncData}{ps:List Str}{sp sp':Sp}(F:kM P w K mg base CX k f fd ps sp)
  (h:∀vs H Q E,sp' vs H Q E->sp vs H Q E):kM P w K mg base CX k f fd ps sp' :=
 ⟨λvs H Q E q=>F.len vs H Q E (h _ _ _ _ q),λA outer s H args us vs Q E hr he hb hv hs=>F.run A outer s H args us vs Q E hr he hb hv (h _ _ _ _ hs)⟩
theorem rK.make{K:zag}{base:Heap}{A:Around}{outer:List Env}{s:Shared}{H:Hp}(e:rK P w K mg base A outer s H)(C:Addr)(us:List Value)(kw:List (Str×Value)) :
  rK P w K mg base (A.under (.builtin "type.__call__" ⟨.ref C::us,kw⟩)) outer s H:=⟨by first|exact e.frames|(simpa[Around.under,Code.envs,Code.isFrame,pushEnvs]using e.frames),e.mod,e.bs,e.bsz,e.mf,e.frf,e.hok,e.bare,e.tab⟩
theorem rK.in1{K:zag}{base:Heap}{A:Around}{outer:List Env}{s:Shared}{H:Hp}(e:rK P w K mg base A outer s H) :
  rK P w K mg base A.in1 outer s H:=⟨e.frames,e.mod,e.bs,e.bsz,e.mf,e.frf,e.hok,e.bare,e.tab⟩
section
variable{X:Cx}{pins:List (Addr×Obj)}{σ:St}{H:Hp}{s s':Shared}
theorem Inv.env0(I:Inv X pins σ H s):rK X.prog X.w X.K X.mg X.base X.A X.stack s H :=
 ⟨I.ok.frames,I.ok.mod,I.bs,zaX I.ok.bsz I.sz,I.stack,I.mO,I.hok,I.bare,I.tab⟩
theorem Inv.after(I:Inv X pins σ H s)(h:CE X.stack X.prog X.w H s Q u s'):EP X pins σ Q u s':=by
 obtain⟨v,H',os,bare,un,hok,r,q⟩:=h;obtain⟨hh,g,d,t,os'⟩:=s';obtain rfl:os'=s.os:=os;exact⟨v,H',I.call (h':=hh) (g':=g) (d':=d) (t':=t) (ch:=[]) un hok bare (λb z=>absurd z (by simp)),r,q⟩
end
def mQ(sp:Sp)(dvs:List V)(E:XK)(t:TA):TE:=fun σ H Q=>t σ H λvs H1=>sp (vs++dvs) H1 Q E
def Binds(K:zag)(fd:FuncData)(ps:List Str)(ds:List Value):Prop :=
 ∀(s:Shared) (us:List Value),K.In s.heap->(us++ds).length=ps.length->BindsTo s fd ⟨us,[]⟩ (ps.zip (us++ds))
theorem Binds.all{K:zag}(h:∀us:List Value,us.length=ps.length->bindArgs fd ⟨us,[]⟩=pure (ps.zip us)):Binds K fd ps []:=λs us _ hl=>by
 rw[zaR]at hl⊢;exact .of_eq (h us hl)
def Passes(CX:CXT)(X:Cx)(E:XK):Prop:=∀(pins:List (Addr×Obj)) (σ:St) (H:Hp) (s:Shared) (e:Value) (s':Shared),Inv X pins σ H s->CX X.stack H s E e s'->X.xe e s'
section
variable{X:Cx}{CX:CXT}{k:Nat}{f C:Addr}{fd:FuncData}{ps:List Str}{sp:Sp}{dvs:List V}{ds:List Value}{E:XK}{x m:Str}{p pos apos:Pos}{e o:Expr}{es:List Expr}{ta:TE}{t:TA}
theorem CA{σ:St}{Q:VK}{us:List Value}{vs:List V}(F:kM X.prog X.w X.K X.mg X.base CX k f fd ps sp)(hr:dH k X.A)(hb:Binds X.K fd ps ds)(hd:Vals dvs ds)(hx:Passes CX X E)
  (I:Inv X pins σ H s) (r:Vals vs us) (h:sp (vs++dvs) H Q E):wpAny (model X.prog X.w) X.A (call (.ref f) us) (EP X pins σ Q) X.xe s:=by
 have r2:Vals (vs++dvs) (us++ds):=r.append hd;have hl:(us++ds).length=ps.length:=by rw[<-r2.length];exact F.len _ _ _ _ h
 refine wpAny_call (codeAny_mono (F.run X.A X.stack s H ⟨us,[]⟩ (us++ds) (vs++dvs) Q E hr I.env0 (hb s us I.kIn hl) r2 h) λr s' hq=>?_)
 cases r with
 |error e=>exact hx pins σ H s e s' I hq
 |ok fl=>
  cases fl with
  |ret u=>exact I.after hq
  |next=>exact False.elim hq
  |brk=>exact False.elim hq
  |cont=>exact False.elim hq
theorem E9(F:kM X.prog X.w X.K X.mg X.base CX k f fd ps sp)(hr:dH k X.A)(hg:Gl X x)(hm:X.mg x=some (.ref f))(hk:PySem.W.keepIn X.K (.ref f)=true)(hb:Binds X.K fd ps ds)(hd:Vals dvs ds)(hx:Passes CX X E)
  (ha:PA X (e::es) t) (hdb:(x==("__debug__":Str))=false:=by decide) (he:starEach (e::es) X.env=(false,eval e X.env)::starEach es X.env:=by rfl) (hpl:(backTo pos (starEach es X.env)).any (·.1)=false:=by rfl) :
  PE X (.Call (.Name x p) (e::es) [] pos) (mQ sp dvs E t):=by
 intro pins s σ H Q I h;refine wpAny_Call_Name_kw (lG I hg hm ?_ hdb);refine PySem.W.callWith_K (h₀:=X.base) I.ok.mod.kin hk (thn (ha pos pins s σ H _ I h) λus s1 ⟨vs,H1,I1,r,q⟩=>⟨I1.kIn,?_⟩) he hpl
 exact CA F hr hb hd hx I1 r q
theorem CB(F:kM X.prog X.w X.K X.mg X.base CX k f fd ps sp)(hr:dH k X.A)(hg:Gl X x)(hm:X.mg x=some (.ref f))(hk:PySem.W.keepIn X.K (.ref f)=true)(hb:Binds X.K fd ps ds)(hd:Vals dvs ds)(hx:Passes CX X E)
  (hdb:(x==("__debug__":Str))=false:=by decide):PE X (.Call (.Name x p) [] [] pos) (mQ sp dvs E pF):=by
 intro pins s σ H Q I h;refine wpAny_Call_Name_kw (lG I hg hm ?_ hdb);exact PySem.W.callWith_K0 I.kIn hk (CA (us:=[]) F hr hb hd hx I .nil h)
structure Mk(K:zag)(C f:Addr):Prop where
 makes:PySem.W.makesIn K C=true
 init:PySem.W.findIn K (.ref C) "__init__"=some (some (.ref f))
 fn:PySem.W.isFn K (.ref f)=true
 kp:PySem.W.keepIn K (.ref C)=true
end
section
variable{X:Cx}{CX:CXT}{k:Nat}{f C:Addr}{fd:FuncData}{ps ks:List Str}{sp:Sp}{E:XK}{x m:Str}{p pos apos kpos:Pos}{e o:Expr}{es:List Expr}{kws:List Keyword}{te ta:TE}{t tk:TA}{nm:Option Str}
structure Md(K:zag)(fd:FuncData)(ps ks:List Str)(g:List Value->List Value->List Value)(gV:List V->List V->List V):Prop where
 to:∀(s:Shared) (us ws:List Value),K.In s.heap->(g us ws).length=ps.length->BindsTo s fd ⟨us,ks.zip ws⟩ (ps.zip (g us ws))
 rel:∀{vs:List V} {us:List Value} {zs:List V} {ws:List Value},Vals vs us->Vals zs ws->Vals (gV vs zs) (g us ws)
variable{g:List Value->List Value->List Value}{gV:List V->List V->List V}
end
structure bL(N P:List Str)(sc:Scope):Prop where
 kind:sc.kind=.function
 co:sc.isCoroutine=false
 gen:sc.isGenerator=false
 nd:N.Nodup
 pre:N.take P.length=P
 par:∀x∈P,sc.names.lookup x=some .local\/sc.names.lookup x=some .cell
 IS:∀y∈sc.names,y.2≠.free
theorem sD{kindOf:Str->Option NameKind}:∀{binds:List (Str×Value)} {m:Str->Option Value},(∀v,(x,v)∉binds)->bindL kindOf binds m x=m x
 | [],_,_=>rfl
 |(n,v)::r,m,h=>by
  unfold bindL;rw[sD λw hw=>h w (zak _ hw)]
  split
  ·have:x≠n:=by rintro rfl;exact h v zas
   simp[this]
  ·rfl
theorem sE{kindOf:Str->Option NameKind}:∀{binds:List (Str×Value)} {m:Str->Option Value},(∀v,(x,v)∉binds)->bindC kindOf binds m x=m x
 | [],_,_=>rfl
 |(n,v)::r,m,h=>by
  unfold bindC;rw[sE λw hw=>h w (zak _ hw)]
  split
  ·rfl
  ·have:x≠n:=by rintro rfl;exact h v zas
   simp[this]
theorem sF{kindOf:Str->Option NameKind}:∀{P:List Str} {vs:List Value} {i:Nat} {m:Str->Option Value},P.Nodup->P[i]?=some x->vs[i]?=some v->kindOf x=some .local->
  bindL kindOf (P.zip vs) m x=some v
 | [],_,_,_,_,h,_,_=>by simp at h
 |_::_,[],_,_,_,_,h,_=>by simp at h
 |p::P,w::vs,0,m,nd,h1,h2,hk=>by
  simp at h1 h2;subst h1;subst h2
  show bindL kindOf ((p,w)::P.zip vs) m p=_;unfold bindL;rw[sD λv hv=>(List.nodup_cons.mp nd).1 (List.of_mem_zip hv).1,if_pos hk]
  simp
 |p::P,w::vs,i+1,m,nd,h1,h2,hk=>by
  show bindL kindOf ((p,w)::P.zip vs) m x=_;unfold bindL;exact sF (i:=i) (List.nodup_cons.mp nd).2 (by simpa using h1) (by simpa using h2) hk
theorem sG{kindOf:Str->Option NameKind}:∀{P:List Str} {vs:List Value} {i:Nat} {m:Str->Option Value},P.Nodup->P[i]?=some x->vs[i]?=some v->kindOf x≠some .local->
  bindC kindOf (P.zip vs) m x=some v
 | [],_,_,_,_,h,_,_=>by simp at h
 |_::_,[],_,_,_,_,h,_=>by simp at h
 |p::P,w::vs,0,m,nd,h1,h2,hk=>by
  simp at h1 h2;subst h1;subst h2
  show bindC kindOf ((p,w)::P.zip vs) m p=_;unfold bindC;rw[sE λv hv=>(List.nodup_cons.mp nd).1 (List.of_mem_zip hv).1,if_neg hk]
  simp
 |p::P,w::vs,i+1,m,nd,h1,h2,hk=>by
  show bindC kindOf ((p,w)::P.zip vs) m x=_;unfold bindC;exact sG (i:=i) (List.nodup_cons.mp nd).2 (by simpa using h1) (by simpa using h2) hk
def start(N:List Str)(vs:List V):St:=vs.map some++List.replicate (N.length-vs.length) none
def ox(CX:CXT)(P:Program)(w:World)(K:zag)(mg:Str->Option Value)(base:Heap)(N:List Str)(qual:Str)(scope:Scope)(f:Addr)(cd:Value)(A:Around)(outer:List Env)(s:Shared)(H:Hp)(E:XK):Cx where
 prog:=P
 w:=w
 K:=K
 mg:=mg
 base:=base
 A:=A.deeper (envOfC qual scope s.heap.objs.size f cd)
 N:=N
 s₀:=s
 H₀:=H
 env:=envOfC qual scope s.heap.objs.size f cd
 outer:=outer
 stack:=envOfC qual scope s.heap.objs.size f cd::outer
 ex:=[]
 calm:=true
 fn:=λ_=>true
 pn:=[]
 xe:=λe s'=>wpAny (model P w) (A.deeper (envOfC qual scope s.heap.objs.size f cd)) (leaving (envOfC qual scope s.heap.objs.size f cd) e) (λ_ s''=>CX outer H s E e s'') (λe' s''=>CX outer H s E e' s'') s'
theorem vR{sc:Scope}(h:sc.names.lookup x=some .cell):∃c,(cellsFrom n sc.names []).lookup x=some c:=by
 have q:=PySem.W.cellsFrom_some sc.names n [] (.inl h);exact Option.isSome_iff_exists.mp q
theorem AO{K:zag}{mg:Str->Option Value}{base:Heap}{N ps:List Str}{qual:Str}{scope:Scope}{f:Addr}{cd:Value}{A:Around}{outer:List Env}{s s1:Shared}{H:Hp}{E:XK}{us:List Value}{vs:List V}
  (S:bL N ps scope) (hd:A.handled=none) (e0:rK P w K mg base A outer s H) (hl:vs.length=ps.length) (r:Vals vs us)
  (x:InCallC s s.heap.objs.size (bindL (envOfC qual scope s.heap.objs.size f cd).kindOf (ps.zip us) λ_=>none) (cellsFrom (s.heap.objs.size+1) scope.names []) (bindC (envOfC qual scope s.heap.objs.size f cd).kindOf (ps.zip us) λ_=>none) s1) :
  Inv (ox CX P w K mg base N qual scope f cd A outer s H E) [] (start N vs) H s1:=by
 have hpl:ps.length<=N.length:=by have:=congrArg List.length S.pre;rw[List.length_take]at this;omega
 obtain⟨h1,tk,rfl,hk⟩:=x.done;have noA:∀b:Addr,b∉(ox CX P w K mg base N qual scope f cd A outer s H E).ex:=λb z=>absurd (show b∈([]:List Addr)from z) (by simp)
 refine⟨⟨e0.mod,S.kind,rfl,rfl,zap _,λy z c h1 h2=>?_,λy hy=>?_,λy c _ h=>?_,λ_=>hd,Around.frames_deeper e0.frames,.inr ⟨rfl,rfl⟩,λb z=>absurd z (noA b),e0.bs,e0.bsz,λb _ _=>noA b,λb z=>absurd z (noA b),e0.mf,e0.frf,e0.tab⟩,
  rfl,e0.bare,Un.kept hk,⟨_,x.toInCall.ns,λi y v h1 h2 h3=>?_⟩,λy c h=>⟨_,x.cell y c h⟩,e0.hok.fresh (zap _),λy c h=>?_,λp hp=>absurd (show p∈([]:List (Addr×Obj))from hp) (by simp),e0.hok.kept hk,?_⟩
 ·exact name_of_addr x.apart (za5 h1) (za5 h2)
 ·have hy:scope.names.lookup y=some .cell\/scope.names.lookup y=some .free:=hy
  rcases hy with hy|hy
  ·exact vR hy
  ·exact absurd rfl (S.IS _ (za5 hy))
 ·exact Nat.le_of_lt (x.above y c (za5 h))
 ·have hi:i<vs.length:=by
   unfold start at h2
   by_cases hi:i<vs.length
   ·exact hi
   ·rw[zaN (by simpa using hi)]at h2
    rw[List.getElem?_replicate]at h2;split at h2<;>cases h2
  have ha:vs[i]?=some v:=by
   unfold start at h2;rw[zax (by simpa using hi),zao]at h2
   cases e:vs[i]? with
   |none=>rw[e]at h2;cases h2
   |some a=>rw[e]at h2;cases h2;rfl
  obtain⟨u,hu,rv⟩:=r.get ha;have hp:ps[i]?=some y:=by
   rw[<-S.pre,List.getElem?_take_of_lt (by omega)];exact h1
  have ndP:ps.Nodup:=by rw[<-S.pre];exact S.nd.sublist (List.take_sublist _ _)
  refine⟨u,rv,?_⟩;rcases S.par y (zaj hp)with k|k
  ·exact .inl ⟨k,sF ndP hp hu k⟩
  ·obtain⟨c,e⟩:=vR (n:=s.heap.objs.size+1) k
   refine .inr ⟨.inl k,c,e,?_⟩;have q:=x.cell y c e;rw[sG ndP hp hu (by show scope.names.lookup y≠_;rw[k];decide)]at q
   exact q
 ·exact e0.hok.fresh (Nat.le_of_lt (x.above y c (za5 h)))
 ·unfold start
  show _=N.length;rw[zau,zal,List.length_replicate];omega
theorem d8{K:zag}{mg:Str->Option Value}{base:Heap}{k:Nat}{f:Addr}{name qual:Str}{params:Arguments}{body:List Stmt}{scope:Scope}{dV kV doc pm cdv ct oc:Value}{an od:Option Addr}
  {osl:Array (Option Value)} {N ps:List Str} {sp:Sp} (lk:K.lookup f=some ⟨oc,od,.func (PySem.W.fnOf name qual params body scope dV kV doc pm an cdv ct),osl⟩) (hcd:PySem.W.codeIn K cdv qual=true) (S:bL N ps scope)
  (len:∀vs H Q E,sp vs H Q E->vs.length=ps.length)
  (hbody:∀(A:Around) (outer:List Env) (s:Shared) (H:Hp) (vs:List V) (Q:VK) (E:XK),dH k (A.deeper (envOfC qual scope s.heap.objs.size f cdv))->sp vs H Q E->
   ∃t,PSs (ox CX P w K mg base N qual scope f cdv A outer s H E) body t/\t {nx:=λ_ H'=>Q .non H',rt:=Q} (start N vs) H) :
  kM P w K mg base CX (k+1) f (PySem.W.fnOf name qual params body scope dV kV doc pm an cdv ct) ps sp:=by
 refine⟨len,λA outer s H args us vs Q E hr e0 hb r hsp=>?_⟩
 have hl:=len _ _ _ _ hsp;have KX:K.In s.heap:=e0.mod.kin.keeps λb o e=>(e0.bs b o e).1
 have lim:s.heap.NoLimit:=e0.mod.nolimit.keeps λb o e=>(e0.bs b o e).1
 have hkind:∀y∈ps.zip us,scope.names.lookup y.1=some .local\/(scope.names.lookup y.1=some .cell/\((cellsFrom (s.heap.objs.size+1) scope.names []).lookup y.1).isSome=true):=λ⟨n,v⟩ hy=>by
  rcases S.par n (List.of_mem_zip hy).1 with q|q
  ·exact .inl q
  ·exact .inr ⟨q,PySem.W.cellsFrom_some _ _ _ (.inl q)⟩
 refine codeAny_call_function hr.depth (KX _ _ lk) rfl S.co S.gen rfl (PySem.W.codeRec_of KX hcd) (hb _ _ _ _ ?_)
 refine wpAny_newFunctionEnv_cells S.kind hkind λenv he s1 x=>?_
 subst he;refine⟨lim.keeps x.toInCall.keep,codeAny_func ?_⟩
 obtain⟨t,ht,hq⟩:=hbody A outer s H vs Q E (hr.deeper _) hsp;have I:Inv (ox CX P w K mg base N qual scope f cdv A outer s H E) [] (start N vs) H s1:=AO S hr.hd e0 hl r x;refine za6 (ht [] s1 (start N vs) H _ I hq) (λfl s' hs=>?_) λe s' hs=>hs
 have fin:∀{σ':St} {H':Hp} {v:V} {u:Value},Inv (ox CX P w K mg base N qual scope f cdv A outer s H E) [] σ' H' s'->RelV v u->Q v H'->CE outer P w H s Q u s' :=
  fun{σ' H' v u} J rv q=>⟨v,H',J.os,J.bare,J.base,J.hok,rv,q⟩
 cases fl with
 |ret u=>
  obtain⟨v,σ',H',J,rv,q⟩:=hs;exact fin J rv q
 |next=>
  obtain⟨σ',H',J,q⟩:=hs;exact fin (v:=V.non) (u:=Value.none) J rfl q
 |brk=>
  obtain⟨_,_,_,q⟩:=hs;exact False.elim q
 |cont=>
  obtain⟨_,_,_,q⟩:=hs;exact False.elim q
section
variable{X:Cx}{x:Str}{p pos:Pos}{e:Expr}{es:List Expr}{t:TA}{id T:String}{r:List V->Hp->VK->Prop}
def tCB(r:List V->Hp->VK->Prop)(t:TA):TE:=fun σ H Q=>t σ H λvs H1=>r vs H1 Q
theorem aT(hc:d7 X (.builtin id) r)(hg:Gl X x)(hm:X.mg x=none)(hv:bootBuiltins x=some (.builtin id))(ha:PA X (e::es) t)(hn:x≠"__name__":=by decide)(hdb:(x==("__debug__":Str))=false:=by decide)
  (he:starEach (e::es) X.env=(false,eval e X.env)::starEach es X.env:=by rfl) (hpl:(backTo pos (starEach es X.env)).any (·.1)=false:=by rfl):PE X (.Call (.Name x p) (e::es) [] pos) (tCB r t):=by
 intro pins s σ H Q I h;refine wpAny_Call_Name_kw (ot I hg hm hv ?_ hn hdb);exact PyProof.Rows.callWith_builtin1 (thn (ha pos pins s σ H _ I h) λus s1 ⟨vs,H1,I1,r1,q1⟩=>hc pins s1 σ H1 vs us Q I1 r1 q1) he hpl
theorem dc(hc:d7 X (.type T) r)(hg:Gl X x)(hm:X.mg x=none)(hv:bootBuiltins x=some (.type T))(ha:PA X (e::es) t)(hn:x≠"__name__":=by decide)(hdb:(x==("__debug__":Str))=false:=by decide)
  (he:starEach (e::es) X.env=(false,eval e X.env)::starEach es X.env:=by rfl) (hpl:(backTo pos (starEach es X.env)).any (·.1)=false:=by rfl):PE X (.Call (.Name x p) (e::es) [] pos) (tCB r t):=by
 intro pins s σ H Q I h;refine wpAny_Call_Name_kw (ot I hg hm hv ?_ hn hdb);exact PyProof.Rows.callWith_type1 (thn (ha pos pins s σ H _ I h) λus s1 ⟨vs,H1,I1,r1,q1⟩=>hc pins s1 σ H1 vs us Q I1 r1 q1) he hpl
end
end L2
namespace HT
open PySem PyProof.Rows
theorem CC(A:Around)(s:Shared)(a:Int)(t:Tok)(c:Int)(u:Tok)(prog:Program)(w:World)(E:Value->Shared->Prop)(Q:Value->Shared->Prop)(h:Q (.bool (decide (a<c))) s) :
  wpAny (model prog w) A (richCompare .Lt (.int a t) (.int c u)) Q E s :=
 (PyProof.Rows.lt_int h:wpAny (model prog w) A (compareOp .Lt (.int a t) (.int c u)) Q E s)
section
open PySem.SeqAt
open PySem.AutoSeq1 (wpAny_loadPart')
open PySem.MeetsSeq PySem.MeetsSeq2 PySem.MeetsSeq3
end
section
variable{prog:Program}{w:World}{A:Around}{E:Value->Shared->Prop}{s:Shared}
theorem Fb(ht:IsTup s.heap t vs.toArray)(hb:IsTup s.heap b ws.toArray)(hv:vs≠[])
  (h1:ws=[]->Q (.ref t) s) (h2:ws≠[]->Q (.ref s.heap.objs.size) {s with heap:=s.heap.push {cls:=.type "tuple",data:=.seq (vs++ws).toArray}})
  (hsz:vs.length+ws.length<=sizeLine):wpAny (model prog w) A (binaryOp .Add (.ref t) (.ref b)) Q E s:=by
 obtain⟨⟨cls,dd,data,sl⟩,ho,hc,n,hd⟩:=id ht;obtain⟨⟨cls2,dd2,data2,sl2⟩,ho2,hc2,n2,hd2⟩:=id hb;simp only at hc hd hc2 hd2;subst hc hd hc2 hd2;have e:vs.toArray++ws.toArray=(vs++ws).toArray:=by simp
 by_cases hw:ws=[]
 ·exact concat_meets ⟨_,ho,rfl⟩ ⟨_,ho2,rfl⟩ noFill_tuple_add seq_tuple_add PySem.F.slot_tuple_add PySem.F.entry_tuple_add (PySem.F.args_tuple_add_2 _ _)
   (tuple_addW1 t b vs.toArray ws.toArray n n2 dd dd2 sl sl2 (by simpa using hv) (by simp[hw])) ⟨ho,ho2,h1 hw⟩
 ·refine concat_meets ⟨_,ho,rfl⟩ ⟨_,ho2,rfl⟩ noFill_tuple_add seq_tuple_add PySem.F.slot_tuple_add PySem.F.entry_tuple_add (PySem.F.args_tuple_add_2 _ _)
   (tuple_addW2 t b vs.toArray ws.toArray n n2 dd dd2 sl sl2 (by simpa using hv) (by simpa using hw) (by rw[zaK,zaK];exact hsz)) ⟨ho,ho2,?_⟩
  rw[e];exact h2 hw
def sIx(n d:Nat):Option Int->Nat
 |none=>d
 |some v=>if v<0 then(v+(n:Int)).toNat else min v.toNat n
end
end HT
namespace L2
open PySem PySem.Spec PyProof.Rows
abbrev TO:=St->Hp->(Option Int->Hp->Prop)->Prop
def PO(X:Cx)(e:Option Expr)(t:TO):Prop :=
 ∀(pins:List (Addr×Obj)) (s:Shared) (σ:St) (H:Hp) (Q:Option Int->Hp->Prop),Inv X pins σ H s->t σ H Q->
  wpAny (model X.prog X.w) X.A (evalPart e X.env) (λu s'=>∃o H',Inv X pins σ H' s'/\IsPart u o/\Q o H') X.xe s
def Hn(t:TE):TO:=fun σ H Q=>t σ H λx H1=>∃i,x=.int i/\Q (some i) H1
section
variable{X:Cx}{e:Expr}{te:TE}{lo hi:Option Expr}{tl th:TO}{pos p2:Pos}
theorem lH(h:PE X e te):PO X (some e) (Hn te):=by
 intro pins s σ H Q I hw;rw[evalPart_some];refine thn (h pins s σ H _ I hw) λu s1 ⟨x,H1,I1,r1,q1⟩=>?_
 obtain⟨i,rfl,q⟩:=q1;obtain⟨t,rfl⟩:=r1;exact⟨some i,H1,I1,.int i t,q⟩
def SlR(X:Cx)(r:V->Option Int->Option Int->Hp->VK->Prop):Prop :=
 ∀(pins:List (Addr×Obj)) (s:Shared) (σ:St) (H:Hp) (x:V) (v vl vu:Value) (lo hi:Option Int) (sl:Addr) (Q:VK),Inv X pins σ H s->RelV x v->s.heap.IsSliceOf sl vl vu .none->IsPart vl lo->IsPart vu hi->r x lo hi H Q->
  ∃T id,typeLookup (.type T) "__getitem__"=pure (some (.builtin id))/\s.TypeIs v T/\wpAny (model X.prog X.w) X.A (getItem v (.ref sl)) (EP X pins σ Q) X.xe s
theorem SlR.or(h:SlR X r)(h':SlR X r'):SlR X (λx lo hi H Q=>r x lo hi H Q\/r' x lo hi H Q):=by
 intro pins s σ H x v vl vu lo hi sl Q I rx hs pl pu q;rcases q with q|q
 ·exact h pins s σ H x v vl vu lo hi sl Q I rx hs pl pu q
 ·exact h' pins s σ H x v vl vu lo hi sl Q I rx hs pl pu q
def KH(xs:List V)(lo hi:Option Int):List V:=(xs.drop (HT.sIx xs.length 0 lo)).take (HT.sIx xs.length xs.length hi-HT.sIx xs.length 0 lo)
def Ho(K:zag):R2:=λx y H Q=>∃a b xs ys,x=.ref a/\y=.ref b/\SqT K H a xs/\SqT K H b ys/\xs≠[]/\xs.length+ys.length<=sizeLine/\
 (ys=[]->Q (.ref a) H)/\(ys≠[]->∀p,H p=none->Q (.ref p) (upd H p (.tup (xs++ys))))
theorem Vals.t5(r:Vals xs us):us=[]↔xs=[]:=by
 cases r with
 |nil=>simp
 |cons _ _=>simp
theorem Fc:OpR X (binaryOp .Add) (Ho X.K):=by
 intro pins s σ H x y v u Q I rx ry h;obtain⟨a,b,xs,ys,rfl,rfl,ha,hb,hx,hz,q1,q2⟩:=h;cases rx;cases ry;obtain⟨its,r1,p1,_⟩:=I.tuple ha;obtain⟨its2,r2,p2,_⟩:=I.tuple hb;refine HT.Fb p1 p2 (λz=>hx (r1.t5.mp z)) (λz=>⟨.ref a,H,I,rfl,q1 (r2.t5.mp z)⟩) (λz=>?_) (by rw[<-r1.length,<-r2.length];exact hz)
 refine⟨.ref s.heap.objs.size,_,I.laid (t':=s.toks) (o:=.tup (xs++ys)) (λb ob q=>zar _ q) (zap _) ?_,rfl,q2 (λw=>z (r2.t5.mpr w)) _ (I.hok.fresh (zap _))⟩
 exact⟨by rw[zau];exact hz,_,r1.append r2,IsTup.new _ _⟩
end
def ixN(n:Nat)(i:Int):Option Nat:=if 0<=i then(if i<n then some i.toNat else none)else if-(n:Int)<=i then some (i+n).toNat else none
def atI{α:Type}(xs:List α)(i:Int):Option α:=(ixN xs.length i).bind λj=>xs[j]?
theorem Fd(h:ixN n i=some j):seqIndex? i n=some j/\j<n/\-(n:Int)<=i/\i<n:=by
 unfold ixN at h
 by_cases h0 : 0<=i
 ·rw[if_pos h0]at h
  by_cases h1:i<n
  ·rw[if_pos h1]at h
   have e:i.toNat=j:=zaQ h;exact⟨by rw[seqIndex_of h0 h1,e],by omega,by omega,h1⟩
  ·rw[if_neg h1]at h;cases h
 ·rw[if_neg h0]at h
  by_cases h1 : -(n:Int)<=i
  ·rw[if_pos h1]at h
   have e:(i+n).toNat=j:=zaQ h;exact⟨by rw[seqIndex_neg (by omega) h1,e],by omega,h1,by omega⟩
  ·rw[if_neg h1]at h;cases h
theorem uc(h:atI xs i=some v):∃j,seqIndex? i xs.length=some j/\xs[j]?=some v/\j<xs.length/\-(xs.length:Int)<=i/\i<xs.length:=by
 unfold atI at h;cases e:ixN xs.length i with
 |none=>rw[e]at h;cases h
 |some j=>
  rw[e]at h;obtain⟨h1,h2,h3,h4⟩:=Fd e;exact⟨j,h1,h,h2,h3,h4⟩
theorem mR{j:Nat}(h:xs[j]?=some v):atI xs (j:Int)=some v:=by
 have hj:j<xs.length:=(zac h).1;have e:ixN xs.length (j:Int)=some j:=by
  unfold ixN;rw[if_pos (by omega),if_pos (by omega)];simp
 unfold atI;rw[e];exact h
theorem CD(xs:List α)(v : α):atI (xs++[v]) (-1)=some v:=by
 have hl:(xs++[v]).length=xs.length+1:=by simp
 have e:ixN (xs++[v]).length (-1)=some xs.length:=by
  unfold ixN;rw[hl,if_neg (by decide),if_pos (by omega)]
  congr 1
  omega
 unfold atI;rw[e];show(xs++[v])[xs.length]?=some v;simp
def Fe(b:Expr):Prop:=∀o i,subscripted b false o i=operate [o,i] (getItem o i)
def IxR(X:Cx)(r:R2):Prop :=
 ∀(value slice:Expr) (pins:List (Addr×Obj)) (s:Shared) (σ:St) (H:Hp) (x y:V) (v u:Value) (Q:VK),Inv X pins σ H s->RelV x v->RelV y u->r x y H Q->
  subscripted slice false v u=operate [v,u] (getItem v u)->wpAny (model X.prog X.w) X.A (subscriptTail value slice v u) (EP X pins σ Q) X.xe s
def MtR(X:Cx)(id:String)(r:V->List V->Hp->VK->Prop):Prop :=
 ∀(pins:List (Addr×Obj)) (s:Shared) (σ:St) (H:Hp) (x:V) (xs:List V) (v:Value) (us:List Value) (Q:VK),Inv X pins σ H s->RelV x v->Vals xs us->r x xs H Q->
  wpAny (model X.prog X.w) X.A (call (.builtin id) (v::us)) (EP X pins σ Q) X.xe s
section
variable{X:Cx}{a b:Expr}{ta tb:TE}{pos:Pos}
theorem IxR.or(h:IxR X r)(h':IxR X r'):IxR X (λx y H Q=>r x y H Q\/r' x y H Q):=by
 intro value slice pins s σ H x y v u Q I rx ry q hs;rcases q with q|q
 ·exact h value slice pins s σ H x y v u Q I rx ry q hs
 ·exact h' value slice pins s σ H x y v u Q I rx ry q hs
theorem MtR.or{id:String}(h:MtR X id r)(h':MtR X id r'):MtR X id (λx xs H Q=>r x xs H Q\/r' x xs H Q):=by
 intro pins s σ H x xs v us Q I rx rs q;rcases q with q|q
 ·exact h pins s σ H x xs v us Q I rx rs q
 ·exact h' pins s σ H x xs v us Q I rx rs q
theorem aS(hr:IxR X r)(ha:PE X a ta)(hb:PE X b tb)(hs:Fe b):PE X (.Subscript a b pos) (tOp r ta tb):=by
 intro pins s σ H Q I h;exact Subscript_ (IG ha hb I h λv u s2 x y H2 I2 rx ry q=>hr a b pins s2 σ H2 x y v u Q I2 rx ry q (hs _ _))
def KI(K:zag):R2:=λx y H Q=>∃p xs i v,x=.ref p/\y=.int i/\SqL K H p xs/\atI xs i=some v/\Q v H
def KJ(K:zag):R2:=λx y H Q=>∃p xs i v,x=.ref p/\y=.int i/\SqT K H p xs/\atI xs i=some v/\Q v H
def KL:R2:=λx y H Q=>∃z i c,x=.str z/\y=.int i/\z.length<=sizeLine/\atI z.cps.toList i=some c/\Q (.str ⟨#[c]⟩) H
theorem Fg:IxR X (KI X.K):=by
 intro value slice pins s σ H x y v u Q I rx ry h hs;obtain⟨p,xs,i,z,rfl,rfl,hq,he,q⟩:=h;cases rx;obtain⟨t,rfl⟩:=ry;obtain⟨its,r,pl,hz⟩:=I.list hq;obtain⟨j,h1,h2,h3,h4,h5⟩:=uc he;obtain⟨w,ew,rw'⟩:=r.get h2;have hl:=r.length;have hn:=qi;have fin:EP X pins σ Q w s:=⟨z,H,I,rw',q⟩
 by_cases h0 : 0<=i
 ·have hj:i.toNat=j:=by
   rw[seqIndex_of h0 h5]at h1;exact zaQ h1
  exact item_listR pl.isList h0 (by omega) (by rw[hj];simpa using ew) fin hs
 ·have hj:(i+(its.toArray.size:Int)).toNat=j:=by
   rw[seqIndex_neg (by omega) h4]at h1
   rw[zaK,<-hl];exact zaQ h1
  exact subscriptTail_builtinR (x:=w) pl.isList.typeIs slot_list_getitem.lookup
   (wpAny_getItem_list_neg (Q:=λr s'=>r=w/\EP X pins σ Q r s') pl.isList (by omega) (by rw[zaK]<;>omega) (by omega) (by rw[hj];simpa using ew) ⟨rfl,fin⟩) hs
theorem IT:IxR X (KJ X.K):=by
 intro value slice pins s σ H x y v u Q I rx ry h hs;obtain⟨p,xs,i,z,rfl,rfl,hq,he,q⟩:=h;cases rx;obtain⟨t,rfl⟩:=ry;obtain⟨its,r,pl,hz⟩:=I.tuple hq;obtain⟨j,h1,h2,h3,h4,h5⟩:=uc he;obtain⟨w,ew,rw'⟩:=r.get h2;have hl:=r.length;have hn:=qi;have fin:EP X pins σ Q w s:=⟨z,H,I,rw',q⟩;exact subscriptTail_builtinR (x:=w) pl.typeIs slot_tuple_getitem.lookup
  (getItem_tuple (j:=j) (Q:=λr s'=>r=w/\EP X pins σ Q r s') pl (by omega) (by omega) (by rw[zaK,<-hl];exact h1) (by simpa using ew) ⟨rfl,fin⟩) hs
theorem IU:IxR X KL:=by
 intro value slice pins s σ H x y v u Q I rx ry h hs;obtain⟨z,i,c,rfl,rfl,hz,he,q⟩:=h;obtain⟨t,rfl⟩:=rx;obtain⟨t',rfl⟩:=ry;obtain⟨j,h1,h2,h3,h4,h5⟩:=uc he;have hl:z.cps.toList.length=z.length:=by simp[Str.length]
 rw[hl]at h1 h4 h5;have hn:=qi;exact tail_any (typeIs_str s z t) slot_str_getitem.lookup (getItem_str (c:=c) (by
  have e1:decide (i< -(2^63:Int))=false:=zaO (by omega)
  have e2:decide (i>=2^63)=false:=zaO (by omega)
  rw[e1,e2,Bool.or_false]) (by rw[h1];simpa using h2) ⟨.str ⟨#[c]⟩,H,I.tok _,⟨_,rfl⟩,q⟩) hs
def rIx(K:zag):R2:=λx y H Q=>KI K x y H Q\/KJ K x y H Q\/KL x y H Q
theorem IV:IxR X (rIx X.K):=Fg.or (IT.or IU)
theorem Inv.lst{σ:St}{p:Addr}{xs:List V}(I:Inv X pins σ H s)(h:H p=some (.lst xs)) :
  ∃(its:List Value) (n:Nat),Vals xs its/\s.heap.get? p=some {cls:=.type "list",data:=.seq its.toArray n}/\xs.length<=sizeLine:=by
 obtain⟨z,its,n,r,e⟩:=I.hok p _ h;exact⟨its,n,r,e,z⟩
def KN:V->Bool
 | .non=>true
 | .bl _=>true
 | .int _=>true
 | .str _=>true
 |_=>false
def eqV:V->V->Bool
 | .non,.non=>true
 | .bl a,.bl b=>a==b
 | .bl a,.int b=>(if a then 1 else 0)==b
 | .int a,.bl b=>a==(if b then 1 else 0)
 | .int a,.int b=>a==b
 | .str a,.str b=>a==b
 |_,_=>false
def inV(x:V)(xs:List V):Bool:=xs.any λy=>eqV y x
theorem ud:d7 X (.builtin "len") (λxs H Q=>∃p ys,xs=[.ref p]/\(SqL X.K H p ys\/SqT X.K H p ys)/\Q (.int ys.length) H):=by
 intro pins s σ H xs us Q I r h;obtain⟨p,ys,rfl,hq,q⟩:=h;obtain⟨u,rfl,rx⟩:=vals1 r;cases rx;have hn:=qi;rcases hq with hq|hq
 ·obtain⟨its,r',pl,hz⟩:=I.list hq
  have hlen:=r'.length;exact Calls.call_len_list pl.isList (by simp only[List.size_toArray]<;>omega) ⟨.int ys.length,H,I.tok _,⟨s.toks+1,by rw[zaK,hlen]⟩,q⟩
 ·obtain⟨its,r',pl,hz⟩:=I.tuple hq
  have hlen:=r'.length;exact len_tuple pl (by simp only[List.size_toArray]<;>omega) ⟨.int ys.length,H,I.tok _,⟨s.toks+1,by rw[zaK,hlen]⟩,q⟩
theorem ue:d7 X (.builtin "len") (λxs H Q=>∃z,xs=[.str z]/\z.length<=sizeLine/\Q (.int z.length) H):=by
 intro pins s σ H xs us Q I r h;obtain⟨z,rfl,hz,q⟩:=h;obtain⟨u,rfl,t,rfl⟩:=vals1 r;have hn:=qi;exact len_str (by omega) ⟨.int z.length,H,I.tok _,⟨_,rfl⟩,q⟩
theorem d7.or(h:d7 X f r)(h':d7 X f r'):d7 X f (λxs H Q=>r xs H Q\/r' xs H Q):=by
 intro pins s σ H xs us Q I rs q;rcases q with q|q
 ·exact h pins s σ H xs us Q I rs q
 ·exact h' pins s σ H xs us Q I rs q
theorem uf:d7 X (.type "list") (λxs H Q=>∃p ys,xs=[.ref p]/\(SqL X.K H p ys\/SqT X.K H p ys)/\∀l,H l=none->Q (.ref l) (upd H l (.lst ys))):=by
 intro pins s σ H xs us Q I r h;obtain⟨p,ys,rfl,hq,q⟩:=h;obtain⟨u,rfl,rx⟩:=vals1 r;cases rx;have fin:∀(its:List Value),Vals ys its->ys.length<=sizeLine->∀(h':Heap) (c':Nat),(∀b o',s.heap.get? b=some o'->h'.get? b=some o')->
   h'.get? s.heap.objs.size=some {cls:=.type "list",dict:=none,data:=.seq its.toArray c',slots:=#[]}->EP X pins σ Q (.ref s.heap.objs.size) {s with heap:=h'}:=λits r' hz h' c' kp e=>
  ⟨.ref s.heap.objs.size,_,I.laid (t':=s.toks) kp (zap _) (show cb X.prog X.w _ h' _ (.lst ys)from⟨hz,its,c',r',e⟩),rfl,q _ (I.hok.fresh (zap _))⟩
 rcases hq with hq|hq
 ·obtain⟨its,r',pl,hz⟩:=I.list hq
  have hlen:=r'.length;obtain⟨o,ho,hc,n,hd⟩:=pl.isList;exact call_list_seq p (.inl rfl) ho hc hd (λh' c' kp e=>fin its r' hz h' c' kp e) (by simp only[List.size_toArray]<;>omega)
 ·obtain⟨its,r',pl,hz⟩:=I.tuple hq
  have hlen:=r'.length;obtain⟨o,ho,hc,n,hd⟩:=pl;exact call_list_seq p (.inr rfl) ho hc hd (λh' c' kp e=>fin its r' hz h' c' kp e) (by simp only[List.size_toArray]<;>omega)
theorem rL:d7 X (.type "tuple") (λxs H Q=>∃p ys,xs=[.ref p]/\((SqL X.K H p ys/\∀l,H l=none->Q (.ref l) (upd H l (.tup ys)))\/(SqT X.K H p ys/\Q (.ref p) H))):=by
 intro pins s σ H xs us Q I r h;obtain⟨p,ys,rfl,h⟩:=h;obtain⟨u,rfl,rx⟩:=vals1 r;cases rx;rcases h with⟨hq,q⟩|⟨hq,q⟩
 ·obtain⟨its,r',pl,hz⟩:=I.list hq
  have hlen:=r'.length;refine call_tuple_list pl.isList (λh' kp=>?_) (by simp only[List.size_toArray]<;>omega)
  have I1:Inv X pins σ H {s with heap:=h'}:=I.kept (t':=s.toks) kp
  have I2:Inv X pins σ (upd H h'.objs.size (.tup ys)) {s with heap:=h'.push {cls:=.type "tuple",data:=.seq its.toArray}} :=
   I1.laid (t':=s.toks) (λb o e=>zar _ e) (zap _) (show cb X.prog X.w _ _ _ (.tup ys)from⟨hz,its,r',IsTup.new _ _⟩)
  exact⟨.ref h'.objs.size,_,I2,rfl,q _ (I1.hok.fresh (zap _))⟩
 ·obtain⟨its,r',pl,hz⟩:=I.tuple hq
  exact call_tuple_same pl ⟨.ref p,H,I,rfl,q⟩
def tyV(K:zag)(T:String)(x:V)(H:Hp):Prop:=match x with
 | .str _=>T="str"
 | .int _=>T="int"
 | .ref p=>(T="list"/\∃xs,SqL K H p xs)\/(T="tuple"/\∃o,K.lookup p=some o/\o.cls=.type "tuple"/\o.dict=none)\/
   (T="dict"/\((∃kvs,H p=some (.dK kvs))\/∃kvs,H p=some (.dT kvs)))\/(T="set"/\∃S n,H p=some (.set S n))
 |_=>False
theorem CG{σ:St}{T:String}{x:V}{v:Value}(I:Inv X pins σ H s)(r:RelV x v)(ty:tyV X.K T x H) :
  s.TypeIs v T/\∀a,v=.ref a->∃ob,s.heap.get? a=some ob/\ob.dict=none:=by
 cases x with
 |str z=>
  obtain⟨t,rfl⟩:=r;cases(show T="str"from ty);exact⟨typeIs_str s z t,λ_ e=>nomatch e⟩
 |int i=>
  obtain⟨t,rfl⟩:=r;cases(show T="int"from ty);exact⟨typeIs_int s i t,λ_ e=>nomatch e⟩
 |ref p=>
  cases r;rcases ty with⟨rfl,xs,hq⟩|⟨rfl,o,hk,hc,hd⟩|⟨rfl,hk⟩|⟨rfl,S,n,hk⟩
  ·obtain⟨its,_,pl,_⟩:=I.list hq
   refine⟨pl.isList.typeIs,λa e=>?_⟩
   cases e;obtain⟨o,n,e,c,hd,_⟩:=pl;exact⟨o,e,hd⟩
  ·refine⟨⟨o,I.kIn p o hk,hc⟩,λa e=>?_⟩
   cases e;exact⟨o,I.kIn _ o hk,hd⟩
  ·have z:∃o,s.heap.get? p=some o/\o.ExactDict:=by
    rcases hk with⟨kvs,hk⟩|⟨kvs,hk⟩
    ·obtain⟨_,_,_,_,o,_,_,e,ex,_⟩:=I.hok p _ hk
     exact⟨o,e,ex⟩
    ·obtain⟨_,_,_,_,o,_,_,e,ex,_⟩:=I.hok p _ hk
     exact⟨o,e,ex⟩
   obtain⟨o,e,ex⟩:=z;refine⟨⟨o,e,ex.1⟩,λa e2=>?_⟩
   cases e2;exact⟨o,e,ex.2.1⟩
  ·obtain⟨o,_,_,_,e,ex,_⟩:=I.hok p _ hk
   refine⟨⟨o,e,ex.1⟩,λa e2=>?_⟩
   cases e2;exact⟨o,e,ex.2.1⟩
 |_=>exact False.elim ty
def CH(K:zag)(T:String)(r:V->List V->Hp->VK->Prop)(to:TE):TE:=fun σ H Q=>to σ H λx H1=>tyV K T x H1/\r x [] H1 Q
def tBM(K:zag)(T:String)(r:V->List V->Hp->VK->Prop)(to:TE)(t:TA):TE:=fun σ H Q=>to σ H λx H1=>tyV K T x H1/\t σ H1 λxs H2=>r x xs H2 Q
variable{o e:Expr}{es:List Expr}{to:TE}{t:TA}{name:Str}{apos cpos:Pos}{T id:String}{r:V->List V->Hp->VK->Prop}
theorem IW(pa:PlainAttrs T)(slot:Slot T name id)(hty:typeOf (.builtin id)=pure (.type "method_descriptor"))(hm:MtR X id r)(ho:PE X o to)
  (hbase:attributeBase o name X.env (eval o X.env)=eval o X.env:=by rfl) (hline:(apos.endLine==cpos.line)=true:=by rfl):PE X (.Call (.Attribute o name apos) [] [] cpos) (CH X.K T r to):=by
 intro pins s σ H Q I h;refine wpAny_Call_method0_late hbase hline (thn (ho pins s σ H _ I h) λv s1 ⟨x,H1,I1,r1,ty,q1⟩=>?_)
 obtain⟨h1,h2⟩:=CG I1 r1 ty;exact⟨T,id,pa,slot,hty,h1,h2,Calls.callWith_builtin rfl (PySem.evalArgs_none (hm pins s1 σ H1 x [] v [] Q I1 r1 .nil q1))⟩
theorem KO(pa:PlainAttrs T)(slot:Slot T name id)(hty:typeOf (.builtin id)=pure (.type "method_descriptor"))(hm:MtR X id r)(ho:PE X o to)(ha:PA X (e::es) t)
  (hbase:attributeBase o name X.env (eval o X.env)=eval o X.env:=by rfl)
  (hfew:((backTo cpos (starEach (e::es) X.env)).all (λx=>!x.1)&&(backToKw cpos (keywordEach [] X.env)).all (λx=>x.1.isSome)
   &&decide ((e::es).length+([]:List Keyword).length+(if([]:List Keyword).isEmpty then 0 else 1)<30))=true:=by rfl)
  (hline:(apos.endLine==cpos.line)=true:=by rfl) (hs:starEach (e::es) X.env=(false,eval e X.env)::starEach es X.env:=by rfl) (hplain:(backTo cpos (starEach es X.env)).any (·.1)=false:=by rfl) :
  PE X (.Call (.Attribute o name apos) (e::es) [] cpos) (tBM X.K T r to t):=by
 intro pins s σ H Q I h;refine wpAny_Call_method_late hbase hfew hline rfl (thn (ho pins s σ H _ I h) λv s1 ⟨x,H1,I1,r1,ty,q1⟩=>?_)
 obtain⟨h1,h2⟩:=CG I1 r1 ty;refine⟨T,id,pa,slot,hty,h1,h2,?_⟩;have hA:=ha cpos pins s1 σ H1 _ I1 q1;rw[hs]at hA⊢;refine Calls.callWith_builtin (by show(false||(backTo cpos (starEach es X.env)).any (·.1))=false;rw[hplain]<;>rfl) (Calls.evalArgs_plain ?_)
 exact thn hA λus s2 ⟨vs,H2,I2,r2,q2⟩=>hm pins s2 σ H2 x vs v us Q I2 r1 r2 q2
end
def MtM(X:Cx)(id:String)(r:V->List V->Hp->VK->Prop):Prop :=
 ∀(pins:List (Addr×Obj)) (s:Shared) (σ:St) (H:Hp) (x:V) (xs:List V) (v:Value) (us:List Value) (Q:VK),Inv X pins σ H s->RelV x v->Vals xs us->r x xs H Q->
  wpAny (model X.prog X.w) X.A (call (.builtin id) (v::us)) (EP X pins σ Q) X.xe s
theorem Vals.one:∀{x:V} {us:List Value},Vals [x] us->∃u,us=[u]/\RelV x u
 |_,_,.cons r .nil=>⟨_,rfl,r⟩
theorem Vals.two:∀{x y:V} {us:List Value},Vals [x,y] us->∃u v,us=[u,v]/\RelV x u/\RelV y v
 |_,_,_,.cons r (.cons q .nil)=>⟨_,_,rfl,r,q⟩
theorem Vals.zero:∀{us:List Value},Vals [] us->us=[]
 |_,.nil=>rfl
theorem Vals.dropLast(h:Vals xs us):Vals xs.dropLast us.dropLast:=by
 induction h with
 |nil=>exact .nil
 |cons r t ih=>
  cases t with
  |nil=>exact .nil
  |cons q t'=>exact .cons r ih
theorem Vals.eraseIdx:∀{xs:List V} {us:List Value} (i:Nat),Vals xs us->Vals (xs.eraseIdx i) (us.eraseIdx i)
 |_,_,_,.nil=>.nil
 |_,_,0,.cons _ t=>t
 |_,_,i+1,.cons r t=>.cons r (Vals.eraseIdx i t)
theorem Vals.reverse(h:Vals xs us):Vals xs.reverse us.reverse:=by
 induction h with
 |nil=>exact .nil
 |cons r t ih=>rw[List.reverse_cons,List.reverse_cons];exact Vals.append ih (.cons r .nil)
theorem Vals.rep(h:Vals xs us):∀k:Nat,Vals (List.replicate k xs).flatten (List.replicate k us).flatten
 |0=>.nil
 |k+1=>by
  rw[zbc,zbc,List.flatten_cons,List.flatten_cons];exact Vals.append h (Vals.rep h k)
theorem foldl_rep(its:List Value):∀(k:Nat) (acc:List Value),
  List.foldl (λx1 x2=>x1++x2) acc.toArray (List.replicate k its.toArray)=(acc++(List.replicate k its).flatten).toArray
 |0,acc=>by simp
 |k+1,acc=>by
  have e:acc.toArray++its.toArray=(acc++its).toArray:=by simp
  have e2:(acc++its)++(List.replicate k its).flatten=acc++(List.replicate (k+1) its).flatten:=by
   rw[zbc,List.flatten_cons,zaD]
  rw[<-e2,<-foldl_rep its k (acc++its),<-e,zbc,List.foldl_cons]
section
variable{X:Cx}{pins:List (Addr×Obj)}{σ:St}{H:Hp}{s:Shared}{l b:Addr}{xs ys zs:List V}
theorem Inv.Fh{its its':List Value}(I:Inv X pins σ H s)(hH:H l=some (.lst xs))
  (e:s.heap.get? l=some {cls:=.type "list",data:=.seq its.toArray n}) (hf:f its.toArray=its'.toArray) (hv:Vals ys its') (hz:ys.length<=sizeLine) :
  Inv X pins σ (upd H l (.lst ys)) {s with heap:=s.heap.update l (Obj.mapSeq f),toks:=t'}:=by
 have q:=PySem.IsL.update e f;rw[hf]at q;refine I.write (x:=l) (e:=l) (by rw[hH];exact trivial) (.inl rfl) (λb' u hb hu=>(Heap.get?_update_other s.heap (Obj.mapSeq f) (Ne.symm hb)).trans hu) ⟨_,q⟩ ?_
 exact⟨hz,its',_,hv,q⟩
theorem Inv.KP(I:Inv X pins σ H s)(hv:Vals ys its)(hz:ys.length<=sizeLine) :
  Inv X pins σ (upd H s.heap.objs.size (.lst ys)) {s with heap:=s.heap.push {cls:=.type "list",data:=.seq its.toArray},toks:=t'} :=
 I.laid (λ_ _ q=>zar _ q) (zap _) ⟨hz,its,0,hv,zaL _ rfl⟩
theorem Inv.fresh(I:Inv X pins σ H s):H s.heap.objs.size=none:=I.hok.fresh (zap _)
theorem Inv.CI(I:Inv X pins σ H s)(hH:H l=some (.lst xs)):xs.length<=sizeLine/\∃(its:List Value) (n:Nat),Vals xs its/\xs.length=its.length/\s.heap.get? l=some {cls:=.type "list",data:=.seq its.toArray n}:=by
 obtain⟨z,its,n,r,e⟩:=I.hok l _ hH;exact⟨z,its,n,r,r.length,e⟩
theorem CJ(h:n<=sizeLine):Builtin.List.listTooLong n=false:=by
 unfold Builtin.List.listTooLong;exact zaO (by omega)
end
section
variable{X:Cx}
def mS:V->List V->Hp->VK->Prop:=λx vs H Q=>∃l xs y,x=.ref l/\vs=[y]/\H l=some (.lst xs)/\xs.length<sizeLine/\Q .non (upd H l (.lst (xs++[y])))
theorem ik:MtM X "list.append" mS:=by
 intro pins s σ H x vs v us Q I rx rv h;obtain⟨l,xs,y,rfl,rfl,hH,hz,q⟩:=h;cases rx;obtain⟨u,rfl,ru⟩:=rv.one;obtain⟨z,its,n,r,hl,e⟩:=I.CI hH;refine call_meets F.slot_list_append ⟨_,e,rfl⟩ F.entry_list_append (F.args_list_append_2 _ _) (PySem.list_append l its.toArray n u (by rw[zaK];omega)) ⟨e,?_⟩
 refine⟨.non,_,I.Fh (its':=its++[u]) hH e (by simp) (r.append (.cons ru .nil)) ?_,rfl,q⟩
 rw[zau,za7];omega
def vS:V->List V->Hp->VK->Prop:=λx vs H Q=>∃l xs,x=.ref l/\vs=[]/\H l=some (.lst xs)/\Q .non (upd H l (.lst xs.reverse))
theorem xS:MtM X "list.reverse" vS:=by
 intro pins s σ H x vs v us Q I rx rv h;obtain⟨l,xs,rfl,rfl,hH,q⟩:=h;cases rx;have hus:=rv.zero;subst hus;obtain⟨z,its,n,r,hl,e⟩:=I.CI hH;refine call_meets F.slot_list_reverse ⟨_,e,rfl⟩ F.entry_list_reverse (F.args_list_reverse_1 _) (AutoSeq1.list_reverse_list_0 l its.toArray n (by rw[zaK];omega)) ⟨e,?_⟩
 refine⟨.non,_,I.Fh (its':=its.reverse) hH e (by simp) r.reverse ?_,rfl,q⟩
 rw[List.length_reverse];omega
def CK:V->List V->Hp->VK->Prop:=λx vs H Q=>∃l xs,x=.ref l/\vs=[]/\H l=some (.lst xs)/\Q .non (upd H l (.lst []))
theorem CL:MtM X "list.clear" CK:=by
 intro pins s σ H x vs v us Q I rx rv h;obtain⟨l,xs,rfl,rfl,hH,q⟩:=h;cases rx;have hus:=rv.zero;subst hus;obtain⟨z,its,n,r,hl,e⟩:=I.CI hH;refine call_meets F.slot_list_clear ⟨_,e,rfl⟩ F.entry_list_clear (F.args_list_clear_1 _) (AutoSeq1.list_clear_list_0 l its.toArray n (by rw[zaK];omega)) ⟨e,?_⟩
 exact⟨.non,_,I.Fh (its':=[]) (ys:=[]) hH e rfl .nil (Nat.zero_le _),rfl,q⟩
def KQ:R2:=λx y H Q=>∃l k xs,x=.ref l/\y=.int k/\H l=some (.lst xs)/\-(2^63)<=k/\k<2^63/\xs.length*k.toNat<=sizeLine/\
 ∀p,H p=none->Q (.ref p) (upd H p (.lst (List.replicate k.toNat xs).flatten))
theorem len_rep{α:Type}(xs:List α)(k:Nat):(List.replicate k xs).flatten.length=k*xs.length:=by
 induction k with
 |zero=>simp
 |succ k ih=>rw[zbc,List.flatten_cons,zau,ih,Nat.succ_mul,Nat.add_comm]
theorem IX:OpR X (binaryOp .Mult) KQ:=by
 intro pins s σ H x y v u Q I rx ry h;obtain⟨l,k,xs,rfl,rfl,hH,h1,h2,hz,q⟩:=h;cases rx;obtain⟨t,rfl⟩:=ry;obtain⟨z,its,n,r,hl,e⟩:=I.CI hH;have hlen:its.toArray.size*k.toNat<=sizeLine:=by rw[zaK,<-hl];exact hz
 have hcap : ¬its.toArray.size*k.toNat>(2^63-1)/8:=by
  have:(sizeLine:Nat)<=(2^63-1)/8:=by decide
  omega
 have hfit : ¬(!Builtin.List.listFitsIndex k)=true:=by
  rw[fitsIndex_both h1 h2];exact zam
 have KR : ¬Builtin.List.listTooLong (its.toArray.size*k.toNat)=true:=by
  rw[CJ hlen];exact zam
 have hnew:List.foldl (λx1 x2=>x1++x2) #[] (List.replicate (if its.toArray.isEmpty=true then 0 else k.toNat) its.toArray)=(List.replicate k.toNat its).flatten.toArray:=by
  have f0:∀m:Nat,List.foldl (λx1 x2=>x1++x2) #[] (List.replicate m its.toArray)=(List.replicate m its).flatten.toArray:=λm=>by
   have:=foldl_rep its m [];rw[List.nil_append]at this;exact this
  rw[f0];cases its with
  |nil=>simp
  |cons a r'=>rw[if_neg (by simp)]
 refine wpAny_binaryOp_repeat_ref (T:="list") (U:="int") (by decide) ⟨_,e,rfl⟩ (λs'=>typeIs_int s' k t) noFill_list_mul F.fills_int_mul F.slot_int_rmul repeat_list F.slot_int_index.lookup
  (call_meets F.slot_int_rmul (typeIs_int s k t) F.entry_int_rmul (F.args_int_rmul_2 _ _) (int___rmul___int_list k t l its.toArray n)
   ⟨e,rfl,⟨_,e,rfl⟩,call_meets F.slot_list_mul ⟨_,e,rfl⟩ F.entry_list_mul (F.args_list_mul_2 _ _) (AutoListH.list___mul___list_int_3 l its.toArray n k t hfit hcap KR) ⟨e,?_⟩⟩)
 rw[hnew];exact⟨.ref _,_,I.KP (t':=s.toks) (r.rep k.toNat) (by rw[len_rep,Nat.mul_comm];exact hz),rfl,q _ I.fresh⟩
end
section
variable{prog:Program}{w:World}{A:Around}{E:Value->Shared->Prop}{s:Shared}
set_option maxRecDepth 100000 in
end
end L2
namespace Att
open PySem PySem.W PySem.Calls PyProof.Rows
theorem pG:∀(ns:List Int) (vs:List Value),WellAll P h vs (ns.map WData.int)->IntsAre vs ns:=by
 intro ns
 induction ns with
 |nil=>
  intro vs w;rw[List.map_nil]at w;cases w;exact .nil
 |cons n ns ih=>
  intro vs w;rw[zaz]at w;cases w with
  |cons a b=>
   cases a;exact .cons _ _ (ih _ b)
theorem AQ{l:OpenLaw}(hn:l.most=some n){args:List WData}{vals:List Value}
  (hpre:l.row.toRowW.claim.pre args=true) (hwl:WellAll P h vals args) :
  ∃a vs ns,vals=[Value.ref a]/\args=[WData.list (ns.map WData.int)]/\h.get? a=some {cls:=.type "list",data:=.seq vs.toArray}/\IntsAre vs ns/\ns.length<=n:=by
 have hsh:WShape.hasAll [] args [.list .int]=true:=(pre_splitW hpre).1;have hc:l.pre.holds [] {args:=args}=true:=(pre_splitW hpre).2;obtain⟨d,r,rfl,h1,h2⟩:=hasAllW_cons hsh;obtain rfl:=hasAllW_nil h2;obtain⟨xs,rfl,h3⟩:=hasW_list h1;obtain⟨ns,rfl⟩:=items_int h3;have hlen:ns.length<=n:=by
  unfold OpenLaw.pre at hc;have h4:(WTm.not (.lt (.lit (.int (n:Int))) (.len (.arg 0)))).holds [] {args:=[.list (ns.map .int)]}=true:=by
   have h4:=(holds_andW hc).1;rw[hn]at h4;exact h4
  have h5:=condW_of h4 (w_not (w_lt w_lit (w_len_list (w_arg rfl))));rw[zal]at h5;refine zba λq=>?_
  have q':(n:Int)<((ns.length:Nat):Int):=by omega
  first
   |(rw[zaH q']at h5;exact absurd h5 (by decide))
   |(simp at h5;omega)
 cases hwl with
 |cons w1 w2=>
  cases w2;cases w1 with
  |list ho hall=>exact⟨_,_,ns,rfl,rfl,ho,pG ns _ hall,hlen⟩
theorem AR(l:OpenLaw)(args:List WData):l.row.toRowW.claim.post args (.bool true) args=true :=
 postW_of (r:=l.row.toRowW) (X:=(true==true))
  (show WShape.has [] (.bool true) .bool=true by first|rfl|decide|simp[WShape.has,WShape.arms,WShape.armsAll])
  (show(WTm.eq .res (.lit (.bool true))).value [] {args:=args,res:=some (.bool true),after:=args}=some (.bool (true==true))from w_eq_bool (w_res rfl) w_lit) rfl
end Att
namespace L2
open PySem PySem.Spec PyProof.Rows
theorem sI:∀{vs:List Value} {ns:List Int},IntsAre vs ns->Vals (ns.map V.int) vs
 |_,_,.nil=>.nil
 |_,_,.cons n t h=>.cons ⟨t,rfl⟩ (sI h)
def Only(H:Hp):Prop:=∀b,H b=none\/(∃o xs,H b=some (.frz o (.lst xs)))\/∃ps,H b=some (.tbl ps)
theorem qj{K:zag}(e:gx K=some (c,T,ps)):K.lookup T=none/\PySem.W.codeHdIn K c T=true:=by
 unfold gx at e;split at e
 ·rename_i c' T' ps' _
  split at e
  ·rename_i hc
   cases e;unfold xI at hc;simp only[Bool.and_eq_true]at hc;exact⟨by simpa using hc.1.2,hc.1.1⟩
  ·cases e
 ·cases e
theorem kN{β:Type}{o : β}:∀{K:List (Addr×β)},K.lookup a=some o->(a,o)∈K
 | [],e=>by cases e
 |(b,u)::r,e=>by
  rw[za8]at e;split at e
  ·rename_i hb
   have hb':a=b:=by simpa using hb
   subst hb';cases e;exact zas
  ·exact zak _ (kN e)
theorem IY{K:zag}{od:Option Addr}{fd:FuncData}{osl:Array (Option Value)}{lp:Pos}(e:gx K=some (c,T,ps))(lk:K.lookup f=some ⟨oc,od,.func fd,osl⟩)(hp:tW fd.body=some lp) :
  fd.code=.ref c/\ps=#[rawInt lp.line,rawInt lp.col,.str (fd.qualname++".<locals>.<lambda>") 0]:=by
 unfold gx at e;split at e
 ·split at e
  ·rename_i hc
   cases e;unfold xI at hc;simp only[Bool.and_eq_true]at hc;have h1:=List.all_eq_true.mp hc.2 _ (kN lk);have h2:Cf fd=true:=by unfold Cf;rw[hp];rfl
   simp only[h2,Bool.not_true,Bool.false_or]at h1;have h3:=beq_iff_eq.mp h1;unfold vJ at h3;rw[hp]at h3;split at h3
   ·rename_i lp' c' e1 e2
    cases e1;split at h3
    ·split at h3
     ·cases h3;exact⟨e2,rfl⟩
     ·cases h3
    ·cases h3
   ·cases h3
  ·cases e
 ·cases e
theorem CM{K:zag}(e:vJ K fd=some (c,T,ps)):∃l k q,ps=#[rawInt l,rawInt k,.str q 0]:=by
 unfold vJ at e;split at e
 ·split at e
  ·split at e
   ·cases e;exact⟨_,_,_,rfl⟩
   ·cases e
  ·cases e
 ·cases e
theorem zl{K:zag}(e:gx K=some (c,T,ps)):∃l k q,ps=#[rawInt l,rawInt k,.str q 0]:=by
 unfold gx at e;split at e
 ·rename_i c' T' ps' hx
  split at e
  ·cases e
   obtain⟨p,_,hp⟩:=List.exists_of_findSome?_eq_some hx;split at hp
   ·exact CM hp
   ·cases hp
  ·cases e
 ·cases e
theorem Fi{K:zag}(e:gx K=some (c,T,ps)):ps[0]?≠some .none:=by
 obtain⟨l,k,q,rfl⟩:=zl e;intro z;cases z
theorem vT{K:zag}(e:gx K=some (c,T,ps))(more:Array Value):(ps++more)[0]?≠some .none:=by
 obtain⟨l,k,q,rfl⟩:=zl e;intro z;rw[Array.getElem?_append_left (by simp)]at z
 cases z
theorem CN{K:zag}{CX:CXT}{k:Nat}{fa a:Addr}{fd:FuncData}{x:Str}{sp:Sp}{s₁:Shared}{vs:List Value}{ns:List Int}
  (KX:K.In s₁.heap) (hTb:∀c T ps,gx K=some (c,T,ps)->s₁.heap.get? T=some (PySem.W.tabObj #[])) (hns:s₁.heap.Ns mainGlobals mg) (hb:s₁.heap.Ns builtinsNs mb) (hbb:∀x:Str,x≠"__name__"->mb x=bootBuiltins x) (hlim:s₁.heap.NoLimit) (hbm:∃bm ob,mg "__builtins__"=some (.ref bm)/\bm≠builtinsNs/\s₁.heap.get? bm=some ob/\ob.cls=.type "module"/\ob.dict=some builtinsNs/\ob.data=.plain) (hg:s₁.gens=#[])
  (ha:s₁.heap.get? a=some {cls:=.type "list",data:=.seq vs.toArray}) (hi:IntsAre vs ns) (hl:ns.length<=sizeLine) (hr:dH k callerA)
  (F:∀base:Heap,K.In base->base.Ns mainGlobals mg->kM P w K mg base CX k fa fd [x] sp) (hbind:∀(s:Shared) (u:Value),BindsTo s fd ⟨[u],[]⟩ [(x,u)])
  (hsp:∀H:Hp,Only H->SqL K H a (ns.map V.int)->sp [.ref a] H (λv _=>v=.bl true) λ_ _ _=>False)
  (hCX:∀H e s',CX [] H s₁ (λ_ _ _=>False) e s'->False) :
  codeAny (model P w) callerA (.call (.ref fa) ⟨[.ref a],[]⟩) (λr s'=>r=.ok (.ret (.bool true))/\OldK s₁.heap s'.heap/\s'.os=s₁.os/\AllBare s'.gens) s₁:=by
 have rv:=sI hi;have lenV:=hi.length;have core:∀H:Hp,Only H->SqL K H a (ns.map V.int)->HOk P w H s₁.heap->(∀b,H b≠none->b=a\/∃c ps,gx K=some (c,b,ps))->(H a≠none->K.lookup a=none)->(∀c T ps,gx K=some (c,T,ps)->H T=some (.tbl ps))->
   codeAny (model P w) callerA (.call (.ref fa) ⟨[.ref a],[]⟩) (λr s'=>r=.ok (.ret (.bool true))/\OldK s₁.heap s'.heap/\s'.os=s₁.os/\AllBare s'.gens) s₁:=by
  intro H hO hS hok hA hK hTH;have ug:∀{b:Addr} {o:Obj},s₁.heap.get? b=some o->H b=none->(tV s₁.heap H).get? b=some o:=λe n=>Ce e n
  have noA:∀{b:Addr} {o:Obj} {es:Array DictEntry} {ep:Nat},s₁.heap.get? b=some o->o.data=.dict es ep->H b=none:=fun{b o es ep} e d=>by
   cases q:H b with
   |none=>rfl
   |some u=>
    rcases hA b (by rw[q];simp)with e'|⟨c,ps,e'⟩
    ·subst e'
     rw[ha]at e;cases e
     have d':Data.seq vs.toArray _=Data.dict es ep:=d;cases d'
    ·rw[hTb _ _ _ e']at e;cases e
     have d':Data.fields #[]=Data.dict es ep:=d;cases d'
  have nsK:∀{b:Addr} {m:Str->Option Value},s₁.heap.Ns b m->(tV s₁.heap H).Ns b m:=fun{b m} ⟨o,es,ep,e,d,r⟩=>⟨o,es,ep,ug e (noA e d),d,r⟩
  have hKb:K.In (tV s₁.heap H):=λb o e=>ug (KX b o e) (by
   cases q:H b with
   |none=>rfl
   |some u=>
    rcases hA b (by rw[q];simp)with e'|⟨c,ps,e'⟩
    ·subst e'
     rw[hK (by rw[q];simp)]at e;cases e
    ·rw[(qj e').1]at e;cases e)
  have hM:Mod K mg (tV s₁.heap H):=⟨hKb,nsK hns,⟨mb,nsK hb,hbb⟩,(let⟨mc,h1,h2⟩:=hlim;⟨mc,nsK h1,h2⟩),by
   obtain⟨bm,ob,b1,b2,b3,b4,b5,b6⟩:=hbm;refine⟨bm,ob,b1,b2,ug b3 ?_,b4,b5,b6⟩;cases q:H bm with
   |none=>rfl
   |some u=>
    rcases hA bm (by rw[q];simp)with e'|⟨c,ps,e'⟩
    ·rw[e',ha]at b3;cases b3;exact absurd (Value.type.inj b4) (by decide)
    ·rw[hTb _ _ _ e']at b3;cases b3;cases b4⟩
  have e0:rK P w K mg (tV s₁.heap H) callerA [] s₁ H:=⟨rfl,hM,λb o e=>EW e,Nat.le_of_eq (AG _ _),trivial,λb hb=>absurd (show b∈([]:List Addr)from hb) (by simp),hok,.of_eq hg,λc T ps e=>⟨#[],by rw[hTH c T ps e];simp⟩⟩
  refine codeAny_mono ((F _ hKb (nsK hns)).run callerA [] s₁ H ⟨[.ref a],[]⟩ [.ref a] [.ref a] _ _ hr e0 (hbind s₁ (.ref a)) (.cons rfl .nil) (hsp H hO hS)) λr s' h=>?_
  cases r with
  |error e=>exact(hCX H e s' h).elim
  |ok fl=>
   cases fl with
   |next=>exact False.elim h
   |brk=>exact False.elim h
   |cont=>exact False.elim h
   |ret u=>
    obtain⟨v,H',os,bare,un,hok',r',q⟩:=h;have q':v=.bl true:=q;subst q';obtain rfl:u=Value.bool true:=r';refine⟨rfl,⟨λb o e=>?_,λb o e=>un.there b o e (by simp)⟩,os,bare⟩
    cases q:H b with
    |none=>exact .inl (un.keep b o e q (by intro z;exact absurd (show b∈([]:List Addr)from z) (by simp)) (by simp))
    |some u=>
     rcases hO b with z|⟨ob,xs,z⟩|⟨ps,z⟩
     ·rw[q]at z;cases z
     ·have z2:=un.jd b ob _ z
      obtain⟨e1,_⟩:=hok b _ z;obtain⟨e2,_⟩:=hok' b _ z2;rw[e]at e1;cases e1
      exact .inl e2
     ·obtain⟨more,z2⟩:=un.iN b ps z
      obtain⟨qs1,e3,e0⟩:∃qs,s₁.heap.get? b=some {cls:=.none,data:=.fields qs}/\True:=by
       rcases hA b (by rw[q];simp)with e'|⟨c,ps',e'⟩
       ·rcases hok b _ z with⟨_,_,_,_,_,_,_,_,ec,eo,ed,_⟩|⟨_,qs1,e3,_⟩
        ·cases ec;rw[e',ha]at eo;cases eo;cases ed
        ·exact⟨qs1,e3,trivial⟩
       ·exact⟨_,hTb _ _ _ e',trivial⟩
      obtain⟨qs,e2⟩:∃qs,s'.heap.get? b=some {cls:=.none,data:=.fields qs}:=by
       rcases hA b (by rw[q];simp)with e'|⟨c,ps',e'⟩
       ·rw[e',ha]at e3;cases e3
       ·rcases hok' b _ z2 with⟨e4,_⟩|⟨_,qs,e2,_⟩
        ·have e5:=hTH _ _ _ e'
         rw[z]at e5;cases e5
         exact absurd e4 (vT e' more)
        ·exact⟨qs,e2⟩
      rcases hA b (by rw[q];simp)with e'|⟨c,ps',e'⟩
      ·rw[e',ha]at e3;cases e3
      ·have e3:=hTb _ _ _ e'
       rw[e]at e3;cases e3
       exact .inr (.inl ⟨(((PySem.W.codeHd_of_K KX (qj e').2).tab (hTb _ _ _ e')).isCodeTable),rfl,#[],qs,rfl,by rw[e2];simp⟩)
 have noT:∀c T ps,gx K=some (c,T,ps)->T≠a:=λc T ps e z=>by
  have e1:=hTb c T ps e;rw[z,ha]at e1;cases e1
 have tabs:∀H0:Hp,(∀b,H0 b≠none->b=a)->∃H:Hp,(∀b,H b=H0 b\/∃c ps,gx K=some (c,b,ps)/\H b=some (.tbl ps))/\(∀c T ps,gx K=some (c,T,ps)->H T=some (.tbl ps))/\∀b u,H0 b=some u->H b=some u:=λH0 h0=>by
  cases e:gx K with
  |none=>exact⟨H0,λb=>.inl rfl,λc T ps z=>(by cases z),λb u z=>z⟩
  |some x=>
   obtain⟨c,T,ps⟩:=x;refine⟨upd H0 T (.tbl ps),λb=>?_,λc' T' ps' z=>by cases z;exact ar,λb u z=>?_⟩
   ·by_cases hb:b=T
    ·exact .inr ⟨c,ps,by rw[hb],by rw[hb];exact ar⟩
    ·exact .inl (ao hb)
   ·rw[ao (λq=>noT c T ps e (q.symm.trans (h0 b (by rw[z];simp))))];exact z
 have wide:∀H0:Hp,(∀b,H0 b=none\/∃o xs,H0 b=some (.frz o (.lst xs)))->SqL K H0 a (ns.map V.int)->HOk P w H0 s₁.heap->(∀b,H0 b≠none->b=a)->(H0 a≠none->K.lookup a=none)->
   codeAny (model P w) callerA (.call (.ref fa) ⟨[.ref a],[]⟩) (λr s'=>r=.ok (.ret (.bool true))/\OldK s₁.heap s'.heap/\s'.os=s₁.os/\AllBare s'.gens) s₁:=λH0 hO hS hok h0 hK=>by
  obtain⟨H,t1,t2,t3⟩:=tabs H0 h0;have ha':H a=H0 a:=by
   rcases t1 a with z|⟨c,ps,e,_⟩
   ·exact z
   ·exact absurd rfl (noT c a ps e)
  refine core H (λb=>?_) ?_ (λb u z=>?_) (λb z=>?_) (λz=>hK (by rw[<-ha'];exact z)) t2
  ·rcases t1 b with z|⟨c,ps,_,z⟩
   ·rcases hO b with q|⟨o,xs,q⟩
    ·exact .inl (z.trans q)
    ·exact .inr (.inl ⟨o,xs,z.trans q⟩)
   ·exact .inr (.inr ⟨ps,z⟩)
  ·rcases hS with(q|⟨o,q⟩)|q
   ·exact .inl (.inl (ha'.trans q))
   ·exact .inl (.inr ⟨o,ha'.trans q⟩)
   ·exact .inr q
  ·rcases t1 b with q|⟨c,ps,e,q⟩
   ·rw[z]at q
    exact(hok b u q.symm).stay (λ_ _ _ x=>x) (λb' x=>t3 _ _ x) λb' xs _ x=>t3 _ _ x
   ·rw[z]at q;cases q
    exact .inr ⟨Fi e,#[],hTb _ _ _ e,.inl rfl⟩
  ·rcases t1 b with q|⟨c,ps,e,q⟩
   ·exact .inl (h0 b (by rw[<-q];exact z))
   ·exact .inr ⟨c,ps,e⟩
 cases hk:K.lookup a with
 |some o=>
  have e:=KX a o hk;rw[ha]at e;cases e;refine wide (λ_=>none) (λ_=>.inl rfl) (.inr ⟨_,vs.toArray,_,hk,rfl,rfl,rfl,by rw[zaK,lenV];exact hl,by simpa using rv⟩) (λb u z=>by have z':(none:Option HO)=some u:=z;cases z') (λb z=>absurd rfl z) λz=>absurd rfl z
 |none=>
  refine wide (λb=>if b=a then some (.frz {cls:=.type "list",data:=.seq vs.toArray} (.lst (ns.map V.int)))else none) (λb=>?_) (.inl (.inr ⟨{cls:=.type "list",data:=.seq vs.toArray},if_pos rfl⟩)) (λb u z=>?_) (λb z=>?_) λ_=>hk
  ·by_cases hb:b=a
   ·exact .inr ⟨_,_,if_pos hb⟩
   ·exact .inl (if_neg hb)
  ·by_cases hb:b=a
   ·have z':=(if_pos hb).symm.trans z
    cases z';subst hb;exact⟨ha,by rw[zal];exact hl,vs,_,rv,ha⟩
   ·have z':=(if_neg hb).symm.trans z
    cases z'
  ·by_cases hb:b=a
   ·exact hb
   ·exact absurd (if_neg hb) z
abbrev KOf{K:zag}{h:Heap}(_:K.In h):zag:=K
def g8(s:Stmt):Arguments:=match s with
 | .FunctionDef _ a _ _ _ _ _ _ _ _=>a
 |_=>{posonlyargs:=[],args:=[],vararg:=none,kwonlyargs:=[],kw_defaults:=[],kwarg:=none,defaults:=[]}
def d9(s:Stmt):List Stmt:=match s with
 | .FunctionDef _ _ b _ _ _ _ _ _ _=>b
 |_=>[]
def aN(s:Stmt):Scope:=match s with
 | .FunctionDef _ _ _ _ _ _ sc _ _ _=>sc
 |_=>{kind:=.function,names:=[],isGenerator:=false,isCoroutine:=false}
abbrev CX0:CXT:=λ_ _ _ _ _ _=>False
abbrev E0:XK:=λ_ _ _=>False
theorem Hq:Passes CX0 X E0:=λ_ _ _ _ _ _ _ h=>h.elim
structure Fun(K:zag)(x qual:Str)(st:Stmt)(f:Addr)(fd:FuncData):Prop where
 ex:∃(oc:Value) (od:Option Addr) (kV doc pm:Value) (an:Option Addr) (cdv ct:Value) (osl:Array (Option Value)),
  fd=PySem.W.fnOf x qual (g8 st) (d9 st) (aN st) .none kV doc pm an cdv ct/\K.lookup f=some ⟨oc,od,.func fd,osl⟩/\PySem.W.codeIn K cdv qual=true
 kp:PySem.W.keepIn K (.ref f)=true
section
variable{P:Program}{w:World}{K:zag}{mg:Str->Option Value}{base:Heap}
theorem Fun.ok{st:Stmt}{N ps:List Str}{k:Nat}{sp:Sp}(F:Fun K x qual st f fd)(S:bL N ps (aN st))(len:∀vs H Q E,sp vs H Q E->vs.length=ps.length)
  (hbody:∀(cdv:Value) (A:Around) (outer:List Env) (s:Shared) (H:Hp) (vs:List V) (Q:VK) (E:XK),dH k (A.deeper (envOfC qual (aN st) s.heap.objs.size f cdv))->sp vs H Q E->
   ∃t,PSs (ox CX0 P w K mg base N qual (aN st) f cdv A outer s H E).nox (d9 st) t/\t {nx:=λ_ H'=>Q .non H',rt:=Q} (start N vs) H):kM P w K mg base CX0 (k+1) f fd ps sp:=by
 obtain⟨oc,od,kV,doc,pm,an,cdv,ct,osl,rfl,lk,hcd⟩:=F.ex;refine d8 lk hcd S len λA outer s H vs Q E hr hsp=>?_
 obtain⟨t,h,q⟩:=hbody cdv A outer s H vs Q E hr hsp;exact⟨t,h.nox,q⟩
theorem Fun.binds{st:Stmt}{ps:List Str}(F:Fun K x qual st f fd)
  (h:∀(kV doc pm:Value) (an:Option Addr) (cdv ct:Value) (us:List Value),us.length=ps.length->bindArgs (PySem.W.fnOf x qual (g8 st) (d9 st) (aN st) .none kV doc pm an cdv ct) ⟨us,[]⟩=pure (ps.zip us)):Binds K fd ps []:=by
 obtain⟨oc,od,kV,doc,pm,an,cdv,ct,osl,rfl,lk,hcd⟩:=F.ex;exact .all (h kV doc pm an cdv ct)
theorem IZ{st:Stmt}{od an:Option Addr}{osl:Array (Option Value)}{kV doc pm cdv ct:Value}(l:K.lookup f=some ⟨oc,od,.func (PySem.W.fnOf x qual (g8 st) (d9 st) (aN st) .none kV doc pm an cdv ct),osl⟩)
  (c:PySem.W.codeIn K cdv qual=true) (k:PySem.W.keepIn K (.ref f)=true):Fun K x qual st f (PySem.W.fnOf x qual (g8 st) (d9 st) (aN st) .none kV doc pm an cdv ct):=⟨⟨oc,od,kV,doc,pm,an,cdv,ct,osl,rfl,l,c⟩,k⟩
end
section
variable{X:Cx}
theorem pv(i:Nat){pos:Pos}(hN:X.N[i]?=some x:=by rfl)(hv:Vis X.env.scope x:=by first|exact Or.inl rfl|exact Or.inr (Or.inl rfl)|exact Or.inr (Or.inr rfl))(hd:(x==("__debug__":Str))=false:=by decide)
  (hcd:(x==("__classdict__":Str))=false:=by decide):PE X (.Name x pos) (kI i):=Iz hN hv hd hcd
end
theorem Me{A B:Prop}(h:B):if false=true then A else B:=by
 rw[if_neg zam];exact h
theorem Mf{A B:Prop}(h:A):if true=true then A else B:=by
 rw[if_pos rfl];exact h
def aD(H H':Hp):Prop:=∀b o,H b=some o->H' b=some o
theorem aD.refl(H:Hp):aD H H:=λ_ _ h=>h
theorem aD.trans(a:aD H H1)(b:aD H1 H2):aD H H2:=λc o h=>b c o (a c o h)
theorem aD.free(e:aD H H')(h:H' l=Option.none):H l=Option.none:=by
 cases q:H l with
 |none=>rfl
 |some o=>
  rw[e l o q]at h;cases h
theorem aD.seq{K:zag}(e:aD H H')(h:SqL K H a xs):SqL K H' a xs:=by
 rcases h with(h|⟨o,h⟩)|h
 ·exact .inl (.inl (e _ _ h))
 ·exact .inl (.inr ⟨o,e _ _ h⟩)
 ·exact .inr h
theorem Inv.track{σ:St}{s:Shared}{D:Addr}{o:HO}(I:Inv X pins σ H s)(hn:H D=none)(hD:X.s₀.heap.objs.size<=D)(hL:D≠X.env.locals)
  (hc:∀x c,X.env.cells.lookup x=some c->c≠D) (hp:∀p∈X.pn++pins,p.1≠D) (new:cb X.prog X.w (upd H D o) s.heap D o):Inv X pins σ (upd H D o) s:=by
 have ne:∀b u,H b=some u->b≠D:=λb u e=>eA e hn
 refine⟨I.ok,I.os,I.bare,⟨I.base.keep,I.base.slot,λb ob e n hx=>?_,I.base.there,λb xs e=>?_,λb ob u e=>?_,λb ps e=>?_⟩,I.loc,I.cell,?_,λx c e=>?_,λp q=>?_,λb u e=>?_,I.len⟩
 ·have:b≠D:=zaS (zaF (zaq e) hD)
  rw[ao this];exact I.base.free b ob e n hx
 ·have z:=I.base.tups b xs e
  rw[ao (ne _ _ z)];exact z
 ·have z:=I.base.jd b ob u e
  rw[ao (ne _ _ z)];exact z
 ·obtain⟨more,z⟩:=I.base.iN b ps e
  exact⟨more,by rw[ao (ne _ _ z)];exact z⟩
 ·rw[ao (Ne.symm hL)];exact I.free
 ·rw[ao (hc x c e)];exact I.f7 x c e
 ·obtain⟨h1,h2,h3⟩:=I.pin p q
  exact⟨h1,by rw[ao (hp p q)];exact h2,h3⟩
 ·by_cases hb:b=D
  ·subst hb;rw[ar]at e;cases e;exact new
  ·rw[ao hb]at e
   exact(I.hok b u e).stay (λ_ _ _ q=>q) (λc q=>by rw[ao (ne _ _ q)];exact q) λc xs _ q=>by rw[ao (ne _ _ q)];exact q
def eY(cells:List (Str×Addr)):List (Str×NameKind)->List (Str×Addr)->List (Str×Addr)
 | [],acc=>acc
 |(n,k)::r,acc=>eY cells r (if(k==NameKind.free)=true then(n,(cells.lookup n).getD 0)::acc else acc)
theorem zm:∀(names:List (Str×NameKind)) (acc:List (Str×Addr)),(∀y∈names,y.2=.free->∃c,env.cells.lookup y.1=some c)->
  (forIn names acc λ(x:Str×NameKind) (r:List (Str×Addr))=>(if(x.2==NameKind.free)=true then do
    let c<-cellOf env x.1
    pure (ForInStep.yield ((x.1,c)::r))else pure (ForInStep.yield r):Sem (ForInStep (List (Str×Addr)))))=pure (eY env.cells names acc)
 | [],acc,_=>rfl
 |(n,k)::r,acc,h=>by
  have ih:=λacc'=>zm (env:=env) r acc' λy hy=>h y (zak _ hy)
  rw[List.forIn_cons]
  by_cases hk:k=.free
  ·subst hk
   obtain⟨c,hc⟩:=h (n,.free) zas rfl;have hc':env.cells.lookup n=some c:=hc;have e:cellOf env n=pure c:=by
    unfold cellOf;rw[hc']
   show(if(NameKind.free==NameKind.free)=true then _ else _)>>=_=_
   rw[if_pos (by decide),e]
   simp only[pure_bind];rw[ih];simp only[eY,hc',Option.getD_some];rfl
  ·have hb:(k==NameKind.free)=false:=by simpa using hk
   show(if(k==NameKind.free)=true then _ else _)>>=_=_
   rw[hb,if_neg zam];simp only[pure_bind];rw[ih];simp only[eY,hb,Bool.false_eq_true,if_false]
theorem xT(h:∀y∈scope.names,y.2=.free->∃c,env.cells.lookup y.1=some c):closureFor scope env=pure (eY env.cells scope.names []):=by
 unfold closureFor;have e:=zm (env:=env) scope.names [] h;simp only[bind_pure];exact e
theorem zo:∀(names:List (Str×NameKind)) (acc:List (Str×Addr)),(∀y∈names,y.2=.free->∃c,cells.lookup y.1=some c)->(∀y c,acc.lookup y=some c->cells.lookup y=some c)->
  ∀y c,(eY cells names acc).lookup y=some c->cells.lookup y=some c
 | [],_,_,ha=>ha
 |(n,k)::r,acc,h,ha=>by
  refine zo r _ (λy hy=>h y (zak _ hy)) λy c e=>?_
  by_cases hk:(k==NameKind.free)=true
  ·rw[if_pos hk]at e
   obtain⟨c',hc⟩:=h (n,k) zas (by simpa using hk)
   have hc':cells.lookup n=some c':=hc;rw[hc',Option.getD_some]at e;rw[za8]at e
   by_cases hy:(y==n)=true
   ·rw[hy]at e
    have:y=n:=by simpa using hy
    subst this;rw[hc'];exact e
   ·have hy':(y==n)=false:=by simpa using hy
    rw[hy']at e;exact ha y c e
  ·rw[if_neg hk]at e
   exact ha y c e
theorem mT:∀(names:List (Str×NameKind)) (acc:List (Str×Addr)) (y:Str),((y,NameKind.free)∈names\/∃c,acc.lookup y=some c)->∃c,(eY cells names acc).lookup y=some c
 | [],acc,y,h=>by
  rcases h with h|h
  ·cases h
  ·exact h
 |(n,k)::r,acc,y,h=>by
  refine mT r _ y ?_;rcases h with h|⟨c,h⟩
  ·rcases zaf h with e|h
   ·cases e
    refine .inr ⟨(cells.lookup n).getD 0,?_⟩;rw[if_pos (by decide),za8]
    simp
   ·exact .inl h
  ·refine .inr ?_
   split
   ·rw[za8]
    cases y==n with
    |true=>exact⟨_,rfl⟩
    |false=>exact⟨c,h⟩
   ·exact⟨c,h⟩
theorem iw(env : Env) : ∀(names : List (Str×NameKind)) (y : Str),
  (names.map λ(n,k)=>if(k==NameKind.free&&env.scope.kind== .function&&env.kindOf n==some .cell)then(n,NameKind.cell)else(n,k)).lookup y
   =(names.lookup y).map λk=>if(k==NameKind.free&&env.scope.kind== .function&&env.kindOf y==some .cell)=true then NameKind.cell else k
 | [],_=>rfl
 |(n,k)::r,y=>by
  have ih :=iw env r y;show List.lookup y ((if(k==NameKind.free&&env.scope.kind== .function&&env.kindOf n==some .cell)=true then(n,NameKind.cell)else(n,k))::_)=_
  by_cases hy:(y==n)=true
  ·have:y=n:=by simpa using hy
   subst this
   by_cases hc:(k==NameKind.free&&env.scope.kind== .function&&env.kindOf y==some .cell)=true
   ·rw[if_pos hc];simp only[List.lookup_cons,hy,Option.map_some,hc,if_true]
   ·rw[if_neg hc];simp only[List.lookup_cons,hy,Option.map_some,hc];simp
  ·have hy':(y==n)=false:=by simpa using hy
   by_cases hc:(k==NameKind.free&&env.scope.kind== .function&&env.kindOf n==some .cell)=true
   ·rw[if_pos hc];simp only[List.lookup_cons,hy'];exact ih
   ·rw[if_neg hc];simp only[List.lookup_cons,hy'];exact ih
def cR(X:Cx)(scope:Scope)(N':List Str)(s₂:Shared)(H₂:Hp)(C:Addr)(fp:List Addr):Cx :=
 {X with N:=N',s₀:=s₂,H₀:=H₂,env:=compEnvC scope (eY X.env.cells scope.names []) C X.env,outer:=X.stack,ex:=fp,fn:=λ_=>false,pn:=[],xe:=λ_ _=>False}
def bJ(x:Str)(fr:List (Str×Nat)):List Str:=x::fr.map (·.1)
def aU(σ:St)(fr:List (Str×Nat)):St:=fr.map λp=>σ.getD p.2 none
structure Blk(X:Cx)(scope:Scope)(x:Str)(fr:List (Str×Nat)):Prop where
 I0:(scope.names.all λy=>y.2 != .cell)=true
 kind:scope.kind=.function
 names:(scope.names.all λy=>y.2 != .local||scope.names.lookup y.1==some .local)=true
 here:scope.names.lookup x=some .local
 free:(scope.names.all λy=>y.2 != .free||X.env.scope.names.lookup y.1==some .cell)=true
 seen:(fr.all λp=>scope.names.lookup p.1==some .free&&X.N[p.2]? ==some p.1)=true
 nd:(bJ x fr).Nodup
section
variable{X:Cx}{scope:Scope}{x:Str}{fr:List (Str×Nat)}{pins:List (Addr×Obj)}{σ:St}{H:Hp}{s:Shared}
theorem Blk.cell(B:Blk X scope x fr):∀y∈scope.names,y.2≠.cell:=λy hy=>by
 have:=List.all_eq_true.mp B.I0 y hy;simpa using this
theorem Blk.loc(B:Blk X scope x fr):∀y∈scope.names,y.2=.local->scope.names.lookup y.1=some .local:=λy hy e=>by
 have:=List.all_eq_true.mp B.names y hy;rw[e]at this;simpa using this
theorem Blk.frees(B:Blk X scope x fr):∀y∈scope.names,y.2=.free->X.env.kindOf y.1=some .cell:=λy hy e=>by
 have:=List.all_eq_true.mp B.free y hy;rw[e]at this;have h:X.env.scope.names.lookup y.1=some .cell:=by simpa using this
 exact h
theorem Blk.clos(B:Blk X scope x fr)(ok:X.Ok):∀y∈scope.names,y.2=.free->∃c,X.env.cells.lookup y.1=some c:=λy hy e=>ok.has y.1 (.inl (B.frees y hy e))
theorem Blk.sub(B:Blk X scope x fr)(ok:X.Ok):∀y c,(eY X.env.cells scope.names []).lookup y=some c->X.env.cells.lookup y=some c :=
 zo scope.names [] (B.clos ok) λy c e=>by simp at e
theorem Blk.kinds(B : Blk X scope x fr)(h : (relabel scope X.env).names.lookup y=some .cell\/(relabel scope X.env).names.lookup y=some .free) : (y,NameKind.free)∈scope.names :=by
 have e : (relabel scope X.env).names.lookup y=_ :=iw X.env scope.names y;rw[e]at h;cases q:scope.names.lookup y with
 |none=>rw[q]at h;simp at h
 |some k=>
  have hm:=za5 q;rw[q]at h;have hk:k=.free:=by
   by_cases hk:k=.free
   ·exact hk
   ·have hb:(k==NameKind.free)=false:=by simpa using hk
    have hc:k≠.cell:=B.cell _ hm;rw[zaT,hb,Bool.false_and,Bool.false_and,if_neg zam]at h;rcases h with h|h
    ·exact absurd (zaQ h) hc
    ·exact zaQ h
  subst hk;exact hm
theorem Blk.sees(B : Blk X scope x fr)(hk : X.env.scope.kind= .function)(h : scope.names.lookup y=some .free) : (relabel scope X.env).names.lookup y=some .cell :=by
 have e : (relabel scope X.env).names.lookup y=_ :=iw X.env scope.names y;rw[e,h];have h2:X.env.kindOf y=some .cell:=B.frees _ (za5 h) rfl;simp[hk,h2]
theorem vU(I:Inv X pins σ H s)(B:Blk X scope x fr){C:Addr}{fp:List Addr}{o:Option V}(hC:s.heap.objs.size<=C)(hfp:∀b∈fp,jg X pins H b)(hlt:∀b∈fp,b<s.heap.objs.size)
  (old:∀b ob,s.heap.get? b=some ob->h₁.get? b=some ob) (hns:h₁.Ns C λ_=>none):Inv (cR X scope (bJ x fr) s H C fp) [] (none::aU σ fr) H {s with heap:=h₁,toks:=tk}:=by
 have neC:∀b,b<s.heap.objs.size->b≠C:=λb hb=>zaS (zaF hb hC)
 have cl:∀y c,X.env.cells.lookup y=some c->c<s.heap.objs.size:=λy c e=>by
  obtain⟨v,o,ho,_⟩:=I.cell y c e;exact zaq ho
 refine⟨⟨I.ok.mod,B.kind,I.ok.glob,I.ok.blt,hC,λy z c h1 h2=>I.ok.inj y z c (B.sub I.ok _ _ h1) (B.sub I.ok _ _ h2),λy hy=>mT _ _ _ (.inl (B.kinds hy)),λy c h _=>(zam h).elim,I.ok.hd,I.ok.frames,.inl rfl,
  λb hb=>⟨neC b (hlt b hb),λy c e=>(hfp b hb).2.2.2.2.1 y c (B.sub I.ok _ _ e)⟩,I.bs,zaX I.ok.bsz I.sz,λb ob e hb=>?_,λb hb hs=>?_,I.stack,I.mO,I.tab⟩,
  rfl,I.bare,Un.kept old,⟨_,hns,λi y v h1 h2 h3=>?_⟩,λy c e=>?_,I.hok.fresh hC,λy c e=>I.f7 y c (B.sub I.ok _ _ e),λp hp=>?_,I.hok.kept old,?_⟩
 ·rcases(hfp b hb).2.2.2.1 with z|z
  ·exact I.ok.xJ b ob e z
  ·have h1:b<X.base.objs.size:=zaq e
   have h2:=I.ok.bsz;exact absurd (zaF h1 h2) (Nat.not_lt.mpr z)
 ·have z:=I.xK b hs
  rcases zaf z with z|z
  ·exact(hfp b hb).2.1 z
  ·exact(hfp b hb).2.2.1 z
 ·cases i with
  |zero=>simp at h2
  |succ i=>
   have h1':(fr.map (·.1))[i]?=some y:=by
    have z:(x::fr.map (·.1))[i+1]?=some y:=h1
    rw[zat]at z;exact z
   have h2':(aU σ fr)[i]?=some (some v):=by simpa using h2
   rw[zao]at h1';unfold aU at h2';rw[zao]at h2';cases e:fr[i]? with
   |none=>rw[e]at h1';cases h1'
   |some p=>
    rw[e]at h1' h2';have e1:p.1=y:=by simpa using h1'
    have e2 : σ.getD p.2 none=some v:=by simpa using h2'
    have hs:=List.all_eq_true.mp B.seen p (zaj e);rw[Bool.and_eq_true]at hs;have hs1:scope.names.lookup p.1=some .free:=by simpa using hs.1
    have hs2:X.N[p.2]?=some p.1:=by simpa using hs.2
    rw[e1]at hs1 hs2;have hk:X.env.kindOf y=some .cell:=B.frees _ (za5 hs1) rfl;have e3 : σ[p.2]?=some (some v):=by
     rw[List.getD_eq_getElem?_getD]at e2;cases q : σ[p.2]? with
     |none=>rw[q]at e2;simp at e2
     |some z=>rw[q]at e2;simp at e2;rw[e2]
    obtain⟨m,hn,hl⟩:=I.loc;obtain⟨u,r,l⟩:=hl p.2 y v hs2 e3 (.inr (.inl hk));refine⟨u,r,.inr ⟨.inl (B.sees I.ok.kind hs1),?_⟩⟩;rcases l with⟨z,_⟩|⟨_,c,ec,z⟩
    ·rw[hk]at z;cases z
    ·obtain⟨c',hc'⟩:=mT (cells:=X.env.cells) scope.names [] y (.inl (za5 hs1))
     have:=B.sub I.ok _ _ hc';rw[ec]at this;cases this;obtain⟨ob,ho,hd⟩:=z;exact⟨c,hc',ob,old _ _ ho,hd⟩
 ·obtain⟨v,ob,ho,hd⟩:=I.cell y c (B.sub I.ok _ _ e)
  exact⟨v,ob,old _ _ ho,hd⟩
 ·exact absurd (show p∈([]:List (Addr×Obj))from hp) (by simp)
 ·show _=(bJ x fr).length
  simp[bJ,aU]
end
def PIf(X:Cx)(ifs:List Expr)(t:TT):Prop :=
 ∀(pins:List (Addr×Obj)) (s:Shared) (σ:St) (H:Hp) (Q:Bool->Hp->Prop),Inv X pins σ H s->t σ H Q->
  wpAny (model X.prog X.w) X.A (forIn ifs true λc r=>if r=true then do let ok<-isTrue c X.env (eval c X.env);pure (ForInStep.yield ok)else pure (ForInStep.yield r)) (TP X pins σ Q) X.xe s
def KS:TT:=λ_ H Q=>Q true H
theorem zp:PIf X [] KS:=λ_ _ _ H _ I h=>wpAny_tests_nil ⟨H,I,h⟩
theorem zq(h:PT X c t):PIf X [c] t:=λpins s σ H Q I hw=>wpAny_tests_one (h pins s σ H Q I hw)
def tLC(fr:List (Str×Nat))(wi:TI)(tc:TT)(te:TE):TE:=fun σ H Q=>wi σ H λJ H1=>∃W:Nat->Nat->List V->Hp->Prop,(∃m,W 0 m [] H1)/\∀i m ys H2,W i m ys H2->ys.length<sizeLine/\
 ((J.stop i H2/\∀D,H2 D=none->Q (.ref D) (upd H2 D (.lst ys)))\/
  (J.go i H2/\∀v H3,J.yld i H2 v H3->tc (some v::aU σ fr) H3 λb H4=>
   if b=true then te (some v::aU σ fr) H4 λy H5=>∃m',m'<m/\W (i+1) m' (ys++[y]) H5 else∃m',m'<m/\W (i+1) m' ys H4))
section
variable{X:Cx}
theorem vV(h:wpAny M A t Q (λ_ _=>False) s):wpAny M A t Q E s:=za6 h (λ_ _ x=>x) λ_ _ x=>x.elim
theorem sJ(J:Nat->Shared->Prop)
  (turn:∀n s,J n s->wpAny (model prog w) A (pyNext it) (λr s₁=>match r with
   |none=>R (.ok .next) s₁
   |some v=>wpAny (model prog w) A (letOwnedTupleGo target it v) (λ_ s₂=>wpAny (model prog w) A (assign target env v) (λ_ s₃=>
     wpAny (model prog w) A (forIn ifs true λc r=>if r=true then do let ok<-isTrue c env (eval c env);pure (ForInStep.yield ok)else pure (ForInStep.yield r)) (λok s₄=>
      if ok=true then wpAny (model prog w) A (eval elt env) (λy s₅=>
       wpAny (model prog w) A (call (.builtin "list.append") [acc,y]) (λ_ s₆=>∃m,m<n/\J m s₆) (λ_ _=>False) s₅) (λ_ _=>False) s₄
      else∃m,m<n/\J m s₄) (λ_ _=>False) s₃) (λ_ _=>False) s₂) (λ_ _=>False) s₁) (λ_ _=>False) s)
  (n:Nat) (h:J n s):codeAny (model prog w) A (.compLoop (.ListComp elt [⟨target,iter,ifs,0⟩] scope pos) 0 it acc env) R s:=by
 refine codeAny_loop rfl J (λk s' hJ=>?_) n h
 show wpAny (model prog w) A ((compTurn (.ListComp elt [⟨target,iter,ifs,0⟩] scope pos) 0 it acc env).onRaise (λx=>do noteFrame x env;theTreesLotGoes x)) _ _ s'
 refine wpAny_noted ?_;rw[compTurn_list];refine zaI (wpAny_standAt (zaI (za6 (turn k s' hJ) (λr s₁ h₁=>?_) λ_ _ z=>z.elim)))
 cases r with
 |none=>exact zaZ h₁
 |some v=>
  refine zaI (za6 h₁ (λ_ s₂ h₂=>zaI (za6 h₂ (λ_ s₃ h₃=>zaI (za6 h₃ (λok s₄ h₄=>?_) λ_ _ z=>z.elim)) λ_ _ z=>z.elim)) λ_ _ z=>z.elim)
  cases ok with
  |false=>exact zaZ ⟨rfl,h₄⟩
  |true=>
   exact zaI (zaI (za6 h₄ (λy s₅ h₅=>zaI (za6 h₅ (λ_ s₆ h₆=>zaZ (zaZ ⟨rfl,h₆⟩)) λ_ _ z=>z.elim)) λ_ _ z=>z.elim))
theorem CO(hc:X.calm=true)(B:Blk X scope x fr)
  (hi:PI X (.Name x px) iter wi) (ht:∀s₂ H₂ C fp,PIf (cR X scope (bJ x fr) s₂ H₂ C fp) ifs tc) (he:∀s₂ H₂ C fp,PE (cR X scope (bJ x fr) s₂ H₂ C fp) elt te)
  (hs:∀v,foldedSetIterable iter X.env v=pure v:=by intro _;rfl):PE X (.ListComp elt [⟨.Name x px,iter,ifs,0⟩] scope pos) (tLC fr wi tc te):=by
 intro pins s σ H Q I h;rw[eval_ListComp];have hclos:=xT (scope:=scope) (env:=X.env) (B.clos I.ok);refine wpAny_comprehension_free (use:=none) rfl hs hclos B.kind B.loc (thn (hi pins s σ H _ I h) λv s1 h1=>thn h1 λitv s2 h2=>?_)
 obtain⟨it,fp,tn,J,H2,rfl,I2,T,st2,f2,W,⟨m0,w0⟩,turn⟩:=h2;refine wpAny_newObj_type (wpAny_newFunctionEnv B.cell (by intro y hy;simp at hy) (λh₁ hns hsb=>?_) B.kind)
 dsimp only at hns hsb⊢;generalize hG:s2.heap.push {cls:=.type "list",dict:=none,data:=.seq ([]:List Value).toArray}=G at hns hsb⊢;have hC:G.objs.size=s2.heap.objs.size+1:=by rw[<-hG,Heap.size_push]
 have hDC:s2.heap.objs.size≠G.objs.size:=by omega
 have old:∀b ob,s2.heap.get? b=some ob->h₁.get? b=some ob:=λb ob e=>by
  have hb:=zaq e;refine hsb.extBut b ob (zaS (by rw[hC];exact Nat.lt_succ_of_lt hb)) (zar _ ?_)
  rw[<-hG];exact zar _ e
 have hacc:h₁.get? s2.heap.objs.size=some {cls:=.type "list",data:=.seq ([]:List Value).toArray 0}:=by
  refine hsb.extBut _ _ hDC (zar _ ?_);rw[<-hG];exact zaL _ rfl
 have hlt:∀b∈fp,b<s2.heap.objs.size:=λb hb=>by
  obtain⟨o,e,_⟩:=T.obj 0 _ st2 b hb;exact zaq e
 have I4:=vU (tk:=s2.toks+([]:List (Str×Value)).length) (o:=none) I2 B (show s2.heap.objs.size<=G.objs.size by omega) f2 hlt old hns
 have tn4:tn 0 h₁:=T.keep 0 _ _ st2 λb _ o e=>old b o e
 have Dfs:s2.heap.objs.size∉frs X.stack:=λz=>by
  obtain⟨_,o,ho,_⟩:=I2.stack.mem z;exact absurd (zaq ho) (za3 _)
 have Dcl:∀y c,X.env.cells.lookup y=some c->c≠s2.heap.objs.size:=λy c e=>by
  obtain⟨v,o,ho,_⟩:=I2.cell y c e;exact zaS (zaq ho)
 have DL:s2.heap.objs.size≠X.env.locals:=Nat.ne_of_gt I2.lt;have Dfp:s2.heap.objs.size∉fp:=λz=>absurd (hlt _ z) (za3 _)
 have loop:∀s₃:Shared,s₃={s2 with heap:=h₁,toks:=s2.toks+([]:List (Str×Value)).length}->
   codeAny (model X.prog X.w) X.A (.compLoop (.ListComp elt [⟨.Name x px,iter,ifs,0⟩] scope pos) 0 (.ref it) (.ref s2.heap.objs.size) (compEnvC scope (eY X.env.cells scope.names []) G.objs.size X.env))
    (compPost (model X.prog X.w) X.A X.xe none (EP X pins σ Q) (.ref s2.heap.objs.size) G.objs.size) s₃:=by
  rintro s₃ rfl
  refine sJ
   (λn s'=>∃i o H' ys its k,Inv (cR X scope (bJ x fr) s2 H2 G.objs.size fp) [] (o::aU σ fr) H' s'/\tn i s'.heap/\(∀b∈fp,H' b=none)/\H' s2.heap.objs.size=none/\
    s'.heap.get? s2.heap.objs.size=some {cls:=.type "list",data:=.seq (its:List Value).toArray k}/\Vals ys its/\W i n ys H') ?_ m0
   ⟨0,none,H2,[],[],0,I4,tn4,λb hb=>(f2 b hb).1,I2.hok.fresh (zap _),hacc,.nil,w0⟩
  rintro n s5 ⟨i,o,H5,ys,its,k,I5,st5,fr5,D5,hD5,r5,w5⟩
  have fok:∀{H':Hp},(∀b∈fp,H' b=none)->∀b∈fp,jg (cR X scope (bJ x fr) s2 H2 G.objs.size fp) [] H' b:=λhn b hb=>
   ⟨hn b hb,(I5.ok.exf b hb).1,I5.ok.vK b hb,.inl hb,(I5.ok.exf b hb).2,λp hp=>absurd (show p∈([]:List (Addr×Obj))from hp) (by simp)⟩
  have dok:∀{H':Hp},H' s2.heap.objs.size=none->jg (cR X scope (bJ x fr) s2 H2 G.objs.size fp) [] H' s2.heap.objs.size:=λhn=>
   ⟨hn,hDC,Dfs,.inr (zap _),λy c e=>Dcl y c (B.sub I2.ok _ _ e),λp hp=>absurd (show p∈([]:List (Addr×Obj))from hp) (by simp)⟩
  obtain⟨hz,alt⟩:=turn i n ys H5 w5;have hzl:its.length<=sizeLine:=by rw[<-r5.length];exact Nat.le_of_lt hz
  rcases alt with⟨stop,fin⟩|⟨go,step⟩
  ·refine thn (T.done (cR X scope (bJ x fr) s2 H2 G.objs.size fp) rfl rfl rfl hc i (fH [s2.heap.objs.size] s5.heap) s5 (o::aU σ fr) H5 _ ?_ (λb hb=>?_) st5 stop) λr s6 ⟨hr,I6⟩=>?_
   ·exact(Inv.pinned I5 (fp:=[s2.heap.objs.size]) (λb hb=>by rw[zad hb];exact dok D5) λb hb=>by
     rw[zad hb];exact⟨_,hD5,λv z=>by cases z⟩)
   ·obtain⟨f0,f1,f2',f3,f4,f5⟩:=fok fr5 b hb
    refine⟨f0,f1,f2',f3,f4,λp hp=>?_⟩
    have hp':p∈fH [s2.heap.objs.size] s5.heap:=(zae hp).elim (λz=>absurd (show p∈([]:List (Addr×Obj))from z) (by simp)) id
    have:=(jB hp').1;rw[zad this];exact λe=>Dfp (by rw[e];exact hb)
   ·subst hr
    have hD6:=(I6.pin (s2.heap.objs.size,{cls:=.type "list",data:=.seq its.toArray k}) (zan _ (bx (by simp) hD5))).1
    obtain⟨m6,hn6,_⟩:=I6.loc;refine⟨m6,hn6,λh' hs'=>?_⟩
    have hCn:s2.heap.get? G.objs.size=none:=by
     cases e:s2.heap.get? G.objs.size with
     |none=>rfl
     |some ob=>exact absurd (zaq e) (by rw[hC];exact Nat.not_lt.mpr (Nat.le_succ _))
    have neC:∀b ob,s2.heap.get? b=some ob->b≠G.objs.size:=λb ob e z=>by rw[z,hCn]at e;cases e
    have u6:Un (frs X.stack) fp H2 H5 s2.heap s6.heap:=I6.base;have u7:Un (frs X.stack) fp H2 H5 s2.heap h':=⟨λb ob e n hb hx=>hs'.extBut b ob (neC b ob e) (u6.keep b ob e n hb hx),λb ob e n hb hx=>by
      obtain⟨sl,q⟩:=u6.slot b ob e n hb hx;exact⟨sl,hs'.extBut b _ (neC b ob e) q⟩,u6.free,λb ob e hx=>by
      obtain⟨o',q⟩:=u6.there b ob e hx;exact⟨o',hs'.extBut b _ (neC b ob e) q⟩,u6.tups,u6.jd,u6.iN⟩
    have hC5:H5 G.objs.size=none:=I6.free;have Mg:HOk X.prog X.w H5 h':=λb ob e=>(I6.hok b ob e).stay (λc u hc q=>hs'.extBut c u (by
      rintro rfl
      rcases hc with rfl|hc
      ·rw[hC5]at e;cases e
      ·rw[hC5]at hc;cases hc) q) (λ_ q=>q) λ_ _ _ q=>q
    have I7:Inv X pins σ H5 {s6 with heap:=h'}:=I2.call' (s':={s6 with heap:=h'}) (I6.os) u7 Mg I6.bare λb hb=>⟨(f2 b hb).2.2.2.1,(f2 b hb).2.1,(f2 b hb).2.2.2.2.1,(f2 b hb).2.2.2.2.2⟩
    refine⟨.ref s2.heap.objs.size,upd H5 s2.heap.objs.size (.lst ys),I7.track D5 I2.sz DL Dcl (λp hp z=>?_) ?_,rfl,fin _ D5⟩
    ·obtain⟨e,_⟩:=I2.pin p hp
     rw[z]at e;exact absurd (zaq e) (za3 _)
    ·exact⟨Nat.le_of_lt hz,its,k,r5,hs'.extBut _ _ hDC hD6⟩
  ·refine vV (thn (T.item (cR X scope (bJ x fr) s2 H2 G.objs.size fp) rfl rfl rfl hc i (fH [s2.heap.objs.size] s5.heap) s5 (o::aU σ fr) H5 _ ?_ (λb hb=>?_) st5 go) λr s6 ⟨u,hr,h6⟩=>?_)
   ·exact(Inv.pinned I5 (fp:=[s2.heap.objs.size]) (λb hb=>by rw[zad hb];exact dok D5) λb hb=>by
     rw[zad hb];exact⟨_,hD5,λv z=>by cases z⟩)
   ·obtain⟨f0,f1,f2',f3,f4,f5⟩:=fok fr5 b hb
    refine⟨f0,f1,f2',f3,f4,λp hp=>?_⟩
    have hp':p∈fH [s2.heap.objs.size] s5.heap:=(zae hp).elim (λz=>absurd (show p∈([]:List (Addr×Obj))from z) (by simp)) id
    have:=(jB hp').1;rw[zad this];exact λe=>Dfp (by rw[e];exact hb)
   ·subst hr
    refine thn h6 λ_ s7 ⟨v,H7,I7,rv,y7,st7,fr7⟩=>?_
    have p7:=I7.pin (s2.heap.objs.size,{cls:=.type "list",data:=.seq its.toArray k}) (zan _ (bx (by simp) hD5))
    have hD7:s7.heap.get? s2.heap.objs.size=some {cls:=.type "list",data:=.seq its.toArray k}:=p7.1;have D7:H7 s2.heap.objs.size=none:=p7.2.1;have I7u:Inv (cR X scope (bJ x fr) s2 H2 G.objs.size fp) [] (o::aU σ fr) H7 s7:=Inv.dU (pins:=[]) I7;have I8:=Inv.pinned I7u (fp:=s2.heap.objs.size::fp) (λb hb=>by
      rcases zaf hb with e|hb
      ·rw[e];exact dok D7
      ·exact fok fr7 b hb) λb hb=>by
      rcases zaf hb with e|hb
      ·rw[e];exact⟨_,hD7,λv z=>by cases z⟩
      ·exact T.obj _ _ st7 b hb
    have hl : Loc (cR X scope (bJ x fr) s2 H2 G.objs.size fp).env.scope x := .inl (lookup_relabel_local B.here);have pk:∀{σ':St} {H':Hp} {s':Shared},Inv (cR X scope (bJ x fr) s2 H2 G.objs.size fp) ([]++fH (s2.heap.objs.size::fp) s7.heap) σ' H' s'->
      tn (i+1) s'.heap/\(∀b∈fp,H' b=none)/\H' s2.heap.objs.size=none/\s'.heap.get? s2.heap.objs.size=some {cls:=.type "list",data:=.seq its.toArray k}:=fun{σ' H' s'} I'=>by
     have pD:=I'.pin (s2.heap.objs.size,{cls:=.type "list",data:=.seq its.toArray k}) (zan _ (zan _ (bx (by simp) hD7)))
     refine⟨T.keep _ _ _ st7 λb hb ob e=>(I'.pin (b,ob) (zan _ (zan _ (bx (zak _ hb) e)))).1,λb hb=>?_,pD.2.1,pD.1⟩
     obtain⟨ob,e,_⟩:=T.obj _ _ st7 b hb;exact(I'.pin (b,ob) (zan _ (zan _ (bx (zak _ hb) e)))).2.1
    refine vV (thn (a9 (X :=cR X scope (bJ x fr) s2 H2 G.objs.size fp) (i :=0) B.nd rfl hl (.inr (lookup_relabel_local B.here)) _ s7 _ H7 v u (fun σ' H'=>σ'=some v :: aU σ fr/\H'=H7) I8 rv ⟨rfl,rfl⟩) λ_ s8 ⟨σ8,H8,I9,e1,e2⟩=> ?_)
    subst e1 e2;refine vV (thn (ht s2 H2 G.objs.size fp _ s8 _ H8 _ I9 (step v H8 y7)) λok s9 ⟨H9,I10,q10⟩=>?_)
    cases ok with
    |false=>
     rw[if_neg zam]at q10;rw[if_neg zam];obtain⟨m',hm,w'⟩:=q10;obtain⟨k1,k2,k3,k4⟩:=pk I10;exact⟨m',hm,i+1,some v,H9,ys,its,k,Inv.dU (pins:=[]) I10,k1,k2,k3,k4,r5,w'⟩
    |true=>
     rw[if_pos rfl]at q10;rw[if_pos rfl];refine vV (thn (he s2 H2 G.objs.size fp _ s9 _ H9 _ I10 q10) λy' s10 ⟨y,H10,I11,ry,m',hm,w'⟩=>?_)
     obtain⟨k1,k2,k3,k4⟩:=pk I11;refine append_at k4 (λh' hs' hD'=>?_) (by rw[zaK];exact hzl)
     have I12:Inv (cR X scope (bJ x fr) s2 H2 G.objs.size fp) [] (some v::aU σ fr) H10 {s10 with heap:=h'} :=
      (Inv.dU (pins:=[]) I11).turned (t':=s10.toks) (it:=s2.heap.objs.size) (λb ob hb e=>(hs'.2 b hb).trans e) k3 hDC (.inr (zap _)) (λz c e=>Dcl z c (B.sub I2.ok _ _ e)) λp hp=>absurd (show p∈([]:List (Addr×Obj))from hp) (by simp)
     refine⟨m',hm,i+1,some v,H10,ys++[y],its++[y'],k+1,I12,T.keep _ _ _ k1 λb hb ob e=>(hs'.2 b λz=>Dfp (by rw[<-z];exact hb)).trans e,k2,k3,?_,r5.append (.cons ry .nil),w'⟩
     rw[hD'];simp
 exact codeAny_compStart_list (loop _ rfl) (T.self _ 0 _ _ _ tn4 (loop _ rfl))
end
def tyN(H:Hp):V->String
 | .non=>"NoneType"
 | .bl _=>"bool"
 | .int _=>"int"
 | .str _=>"str"
 | .ref a=>match H a with
  |some (.lst _)=>"list"
  |some (.tup _)=>"tuple"
  |some (.dK _)=>"dict"
  |some (.frz _ (.lst _))=>"list"
  |_=>"?"
 |_=>"?"
def iO(T n:String):Bool:=T==n||(T=="bool"&&n=="int")
def cV:List String:=["NoneType","bool","int","str","list","tuple","dict"]
def cy:List String:=["bool","int","str","list","tuple","dict"]
theorem sL(K:zag):∀T∈cV,∀n∈cy,PySem.W.kitOne K (.type T) (.type n)=some (iO T n):=by
 intro T hT n hn;simp only[cV,cy,List.mem_cons,List.not_mem_nil,or_false]at hT hn;rcases hT with rfl|rfl|rfl|rfl|rfl|rfl|rfl<;>rcases hn with rfl|rfl|rfl|rfl|rfl|rfl<;>kernel_rfl
theorem Ja{K:zag}(h:tyN H x∈cV):ou K H x (.type (tyN H x)):=by
 have no : ¬("?"∈cV):=by decide
 cases x with
 |non=>exact .non
 |bl b=>exact .bl b
 |int i=>exact .int i
 |str z=>exact .str z
 |ref a=>
  unfold tyN at h⊢;dsimp only at h⊢;cases e:H a with
  |none=>rw[e]at h;exact absurd h no
  |some o=>
   rw[e]at h;cases o with
   |lst xs=>exact .lst e
   |tup xs=>exact .tup e
   |dK kvs=>exact .dK e
   |frz ob u=>
    cases u with
    |lst xs=>exact .frz e
    |_=>exact absurd h no
   |_=>exact absurd h no
 |_=>exact absurd h no
def Jb(xs:List V)(H:Hp)(Q:VK):Prop:=∃x n,xs=[x,.ty n]/\tyN H x∈cV/\n∈cy/\Q (.bl (iO (tyN H x) n)) H
section
variable{X:Cx}
theorem jC:d7 X (.builtin "isinstance") Jb:=by
 intro pins s σ H xs us Q I r h;obtain⟨x,n,rfl,h1,h2,q⟩:=h;obtain⟨u,v,rfl,ru,rv⟩:=vals2 r;cases rv;exact AN I ru (Ja h1) (sL X.K _ h1 _ h2) λtk=>⟨.bl _,H,I.tok tk,rfl,q⟩
theorem vW:∀{us:List Value},Vals (bs.map V.bl) us->LSm.BoolsAre us bs:=by
 induction bs with
 |nil=>intro us r;rw[List.map_nil]at r;cases r;exact .nil
 |cons b bs ih=>
  intro us r;rw[zaz]at r;cases r with
  |cons r1 r2=>
   cases r1;exact .cons b (ih r2)
def Jc(K:zag)(xs:List V)(H:Hp)(Q:VK):Prop:=∃(p:Addr) (bs:List Bool),xs=[.ref p]/\SqL K H p (bs.map V.bl)/\Q (.bl (bs.all id)) H
theorem CP(hc:X.calm=true):d7 X (.builtin "all") (Jc X.K):=by
 intro pins s σ H xs us Q I r h;obtain⟨p,bs,rfl,hq,q⟩:=h;obtain⟨u,rfl,rx⟩:=vals1 r;cases rx;obtain⟨its,r',pl,hz⟩:=I.list hq;have hb:=vW r';have hl:=pl.isList;have hlt:p<s.heap.objs.size:=by obtain⟨_,e,_⟩:=hl;exact zaq e
 refine call_all_walk (wpAny_pyIter_list hl ?_);refine⟨s.heap.objs.size,[s.heap.objs.size,p],[s.heap.objs.size],its.toArray.size,_,_,λi=>(bs[i]?).getD true,rfl,Walks.list (A:=X.A.in1) (I.ok.hd hc) _ p (zaS hlt) its.toArray,
  ⟨⟨_,zaL _ rfl,rfl,rfl⟩,hl.push _⟩,λi v s' Q' E' hP hQ=>?_,λh' tk hk=>?_⟩
 ·obtain⟨b,e,rfl⟩:=hb.get i v (by simpa using hP)
  simp only[e,Option.getD_some]at hQ;exact wpAny_truthy_bool hQ
 ·have e:((List.range its.toArray.size).all λi=>(bs[i]?).getD true)=bs.all id:=by
   rw[zaK,hb.length];exact LSm.range_all bs
  rw[e];exact⟨.bl (bs.all id),H,I.kept (t':=tk) (LSm.kept_iter hk),rfl,q⟩
mutual
inductive gy(K:zag)(H:Hp):V->PyData->Prop
 |non:gy K H .non .none
 |bl (b:Bool):gy K H (.bl b) (.bool b)
 |int (i:Int):gy K H (.int i) (.int i)
 |str (x:Str):gy K H (.str x) (.str x)
 |lst {a:Addr} {xs:List V} {ds:List PyData}:SqL K H a xs->ix K H xs ds->gy K H (.ref a) (.list ds)
 |tup {a:Addr} {xs:List V} {ds:List PyData}:SqT K H a xs->ix K H xs ds->gy K H (.ref a) (.tuple ds)
inductive ix(K:zag)(H:Hp):List V->List PyData->Prop
 |nil:ix K H [] []
 |cons {x:V} {xs:List V} {d:PyData} {ds:List PyData}:gy K H x d->ix K H xs ds->ix K H (x::xs) (d::ds)
end
mutual
theorem gy.reads{σ:St}(I:Inv X pins σ H s):∀{x:V} {d:PyData},gy X.K H x d->∀{u:Value},RelV x u->∃as,Reads s.heap u d as
 |_,_,.non,_,r=>by cases r;exact⟨_,.none⟩
 |_,_,.bl b,_,r=>by cases r;exact⟨_,.bool b⟩
 |_,_,.int i,_,r=>by obtain⟨t,rfl⟩:=r;exact⟨_,.int i t⟩
 |_,_,.str z,_,r=>by obtain⟨t,rfl⟩:=r;exact⟨_,.str z t⟩
 |_,_,.lst hq hd,_,r=>by
  cases r;obtain⟨its,rv,pl,_⟩:=I.list hq;obtain⟨as,ha⟩:=ix.reads I hd rv;obtain⟨o,n,e,c,_,d⟩:=pl;exact⟨_,.list e c d ha⟩
 |_,_,.tup hq hd,_,r=>by
  cases r;obtain⟨its,rv,pl,_⟩:=I.tuple hq;obtain⟨as,ha⟩:=ix.reads I hd rv;obtain⟨o,e,c,n,d⟩:=pl;exact⟨_,.tuple e c d ha⟩
theorem ix.reads{σ:St}(I:Inv X pins σ H s):∀{xs:List V} {ds:List PyData},ix X.K H xs ds->∀{us:List Value},Vals xs us->∃as,ReadsAll s.heap us ds as
 |_,_,.nil,_,r=>by cases r;exact⟨_,.nil⟩
 |_,_,.cons h t,_,r=>by
  cases r with
  |cons r1 r2=>
   obtain⟨as,ha⟩:=gy.reads I h r1;obtain⟨bs,hb⟩:=ix.reads I t r2;exact⟨_,.cons ha hb⟩
end
def Jd(K:zag):R2:=λx y H Q=>∃da db,gy K H x da/\gy K H y db/\SeqAt.shaped da=true/\SeqAt.shaped db=true/\Q (.bl (PyData.eqv da db)) H
def Je(K:zag):R2:=λx y H Q=>∃da db,gy K H x da/\gy K H y db/\SeqAt.shaped da=true/\SeqAt.shaped db=true/\Q (.bl (!PyData.eqv da db)) H
theorem Jf(hu:X.A.units+64<cLine):OpR X (compareOp .Eq) (Jd X.K):=by
 intro pins s σ H x y v u Q I rx ry h;obtain⟨da,db,ha,hb,sa,sb,q⟩:=h;obtain⟨as,ra⟩:=ha.reads I rx;obtain⟨bs,rb⟩:=hb.reads I ry;exact eq_dataH ra rb sa sb hu ⟨.bl _,H,I,rfl,q⟩
theorem Jg(hu:X.A.units+64<cLine):OpR X (compareOp .NotEq) (Je X.K):=by
 intro pins s σ H x y v u Q I rx ry h;obtain⟨da,db,ha,hb,sa,sb,q⟩:=h;obtain⟨as,ra⟩:=ha.reads I rx;obtain⟨bs,rb⟩:=hb.reads I ry;exact ne_dataH ra rb sa sb hu ⟨.bl _,H,I,rfl,q⟩
theorem Fj:OpR X (binaryOp .Mult) (rI IntMulOk λi j=>.int (i*j)):=opI λ_ _ _ _ _ _ _ hc q=>mul_int q hc
def Jh(K:zag)(xs:List V)(H:Hp)(Q:VK):Prop:=(∃p ys,xs=[.ref p]/\(SqL K H p ys\/SqT K H p ys)/\Q (.int ys.length) H)\/(∃z,xs=[.str z]/\z.length<=sizeLine/\Q (.int z.length) H)
theorem AS:d7 X (.builtin "len") (Jh X.K):=ud.or ue
end
structure Top(K:zag)(mg:Str->Option Value)(x:Str)(st:Stmt):Prop where
 ex:∃(f:Addr) (fd:FuncData),Fun K x x st f fd/\mg x=some (.ref f)
structure Def(P:Program)(w:World)(K:zag)(mg:Str->Option Value)(base:Heap)(CX:CXT)(k:Nat)(x:Str)(ps:List Str)(sp:Sp):Prop where
 ex:∃(f:Addr) (fd:FuncData),kM P w K mg base CX k f fd ps sp/\mg x=some (.ref f)/\PySem.W.keepIn K (.ref f)=true/\Binds K fd ps []
section
variable{P:Program}{w:World}{K:zag}{mg:Str->Option Value}{base:Heap}
theorem Top.mk'{st:Stmt}{oc:Value}{od an:Option Addr}{osl:Array (Option Value)}{kV doc pm cdv ct:Value}(X:K.In h)(G:h.Ns mainGlobals mg)(a:PySem.W.nsIn K mainGlobals x=some (some (.ref f)))
  (l:K.lookup f=some ⟨oc,od,.func (PySem.W.fnOf x x (g8 st) (d9 st) (aN st) .none kV doc pm an cdv ct),osl⟩) (c:PySem.W.codeIn K cdv x=true) (k:PySem.W.keepIn K (.ref f)=true):Top K mg x st :=
 ⟨⟨f,_,IZ l c k,PySem.W.mg_of X G a⟩⟩
theorem Top.def{st:Stmt}{sp:Sp}(T:Top K mg x st)(S:bL N ps (aN st))(len:∀vs H Q E,sp vs H Q E->vs.length=ps.length)
  (hb:∀(kV doc pm:Value) (an:Option Addr) (cdv ct:Value) (us:List Value),us.length=ps.length->bindArgs (PySem.W.fnOf x x (g8 st) (d9 st) (aN st) .none kV doc pm an cdv ct) ⟨us,[]⟩=pure (ps.zip us))
  (hbody:∀(f:Addr) (cdv:Value) (A:Around) (outer:List Env) (s:Shared) (H:Hp) (vs:List V) (Q:VK) (E:XK),dH k (A.deeper (envOfC x (aN st) s.heap.objs.size f cdv))->sp vs H Q E->
   ∃t,PSs (ox CX0 P w K mg base N x (aN st) f cdv A outer s H E).nox (d9 st) t/\t {nx:=λ_ H'=>Q .non H',rt:=Q} (start N vs) H):Def P w K mg base CX0 (k+1) x ps sp:=by
 obtain⟨f,fd,F,m⟩:=T.ex;exact⟨⟨f,fd,F.ok S len (hbody f),m,F.kp,F.binds hb⟩⟩
theorem bb{sp:Sp}{p pos:Pos}{e:Expr}{es:List Expr}{t:TA}(D:Def X.prog X.w X.K X.mg X.base CX0 k x ps sp)(hr:dH k X.A)(ha:PA X (e::es) t)(hg:Gl X x:=by rfl)
  (hdb:(x==("__debug__":Str))=false:=by decide) (he:starEach (e::es) X.env=(false,eval e X.env)::starEach es X.env:=by rfl) (hpl:(backTo pos (starEach es X.env)).any (·.1)=false:=by rfl) :
  PE X (.Call (.Name x p) (e::es) [] pos) (mQ sp [] E0 t):=by
 obtain⟨f,fd,F,m,kp,b⟩:=D.ex;exact E9 F hr hg m kp b .nil Hq ha hdb he hpl
theorem mU{sp:Sp}{p pos:Pos}(D:Def X.prog X.w X.K X.mg X.base CX0 k x ps sp)(hr:dH k X.A)(hg:Gl X x:=by rfl)
  (hdb:(x==("__debug__":Str))=false:=by decide):PE X (.Call (.Name x p) [] [] pos) (mQ sp [] E0 pF):=by
 obtain⟨f,fd,F,m,kp,b⟩:=D.ex;exact CB F hr hg m kp b .nil Hq hdb
end
open PySem.W in
theorem oX:∀(ns:List Int) (n:Int),n∈ns->Builtin.Int.intBits n<=WData.weightAll (ns.map WData.int)
 |m::r,n,h=>by
  rw[zaz];have e:WData.weightAll (WData.int m::r.map WData.int)=WData.weight (.int m)+1+WData.weightAll (r.map WData.int):=by simp only[WData.weightAll]
  rw[e];rcases zaf h with rfl|h
  ·have:Builtin.Int.intBits n=WData.weight (.int n):=by simp only[WData.weight,Builtin.Int.intBits]
   omega
  ·have:=oX r n h
   omega
open PySem.W in
theorem vX{ns:List Int}(h:WData.layableAll [WData.list (ns.map WData.int)]=true):∀n∈ns,Builtin.Int.intBits n<=1048576:=λn hn=>by
 have h1:(WData.list (ns.map WData.int)).layable=true:=PySem.W.layableW_arg h _ (by simp)
 have h2:=(PySem.W.layableW_iff.mp h1).2.2;have h3:WData.weight (.list (ns.map WData.int))=WData.weightAll (ns.map WData.int):=by simp only[WData.weight]
 have h4:=oX ns n hn;have h5:(2:Nat)^20=1048576:=by decide
 omega
open PySem.W PySem.Calls in
theorem Fl{l:OpenLaw}{XP:(Str->Option Value)->Heap->Prop}{YP:World->Heap->Prop}{d:DefRec}
  (hn:l.most=some n) (hdf:d.params.defaults=[])
  (call:∀(w:World) (s₀ s₁:Shared) (mg mb:Str->Option Value) (fa a:Addr) (vs:List Value) (ns:List Int),
   Ground q loose [] XP w s₀ mg mb s₁.heap->YP w s₁.heap->mg d.name=some (.ref fa)->
   s₁.heap.get? a=some {cls:=.type "list",data:=.seq vs.toArray}->IntsAre vs ns->ns.length<=n->(∀k∈ns,Builtin.Int.intBits k<=1048576)->s₁.gens=#[]->
   codeAny (model l.prog w) callerA (.call (.ref fa) ⟨[.ref a],[]⟩) (λr s'=>r=.ok (.ret (.bool true))/\OldK s₁.heap s'.heap/\s'.os=s₁.os/\AllBare s'.gens) s₁) :
  WalkO q loose XP YP l.row.toRowW d [] (λf vs=>PySem.call f vs):=by
 intro w s₀ s₁ mg mb G Y fa o pm cd doc dV kV ho hd hcd hD hmg hg args vals as' hpre hlay hrd hwl hlo;obtain rfl:dV=.none:=Dflts.none hD hdf;obtain⟨a,vs,ns,rfl,rfl,hobj,hints,hlen⟩:=Att.AQ hn hpre hwl;refine enter_call (codeAny_mono (call w s₀ s₁ mg mb fa a vs ns G Y hmg hobj hints hlen (vX hlay) hg) λr s' hq=>?_)
 obtain⟨rfl,h2,h3,h4⟩:=hq;exact⟨.inl ⟨.bool true,.bool true,[],rfl,λ_=>rfl,.bool true,Att.AR l _,λ_=>⟨List.Pairwise.nil,λ_ hm=>(nomatch hm)⟩⟩,h2,h3,h4⟩
def CQ(K:zag):Sp:=λvs H Q _=>∃(a:Addr) (ns:List Int),vs=[.ref a]/\SqL K H a (ns.map V.int)/\ns.length<=63/\(∀k∈ns,Builtin.Int.intBits k<=1048576)/\∀H',Q (.bl true) H'
theorem CS{l:PySem.W.OpenLaw}{XP:(Str->Option Value)->Heap->Prop}{YP:World->Heap->Prop}{d:DefRec}{K:Params->zag}{x:Str}{st:Stmt}
  (hn:l.most=some 63) (hdf:d.params.defaults=[]) (hr:dH k callerA) (hY:∀(w:World) (h:Heap),YP w h->(K w.params).In h/\∀c T ps,gx (K w.params)=some (c,T,ps)->h.get? T=some (PySem.W.tabObj #[]))
  (hb:∀(kV doc pm:Value) (an:Option Addr) (cdv ct u:Value),bindArgs (PySem.W.fnOf d.name d.name (g8 st) (d9 st) (aN st) .none kV doc pm an cdv ct) ⟨[u],[]⟩=pure [(x,u)])
  (F:∀(w:World) (mg:Str->Option Value) (h:Heap),(K w.params).In h->h.Ns mainGlobals mg->Top (K w.params) mg d.name st/\
   ∀(f:Addr) (fd:FuncData),Fun (K w.params) d.name d.name st f fd->∀base:Heap,(K w.params).In base->base.Ns mainGlobals mg->kM l.prog w (K w.params) mg base CX0 k f fd [x] (CQ (K w.params))) :
  PySem.W.WalkO q loose XP YP l.row.toRowW d [] (λf vs=>PySem.call f vs):=by
 refine Fl hn hdf λw s₀ s₁ mg mb fa a vs ns G Y hmg hobj hints hlen KU hg=>?_
 obtain⟨KX,hTb⟩:=hY w _ Y;obtain⟨T,FF⟩:=F w mg _ KX G.T.g;obtain⟨f,fd,Ff,m⟩:=T.ex;have e:=m.symm.trans hmg;cases e;have hbd:∀(s:Shared) (u:Value),BindsTo s fd ⟨[u],[]⟩ [(x,u)]:=by
  obtain⟨oc,od,kV,doc,pm,an,cdv,ct,osl,rfl,lk,hcd⟩:=Ff.ex;exact λs u=>.of_eq (hb kV doc pm an cdv ct u)
 exact CN KX hTb G.T.g G.T.b G.T.builtins G.T.nolimit G.T.bmain hg hobj hints (zaX hlen (by decide)) hr (FF _ fd Ff) hbd (λH hO hS=>⟨a,ns,rfl,hS,hlen,KU,λ_=>rfl⟩) λH e s' h=>h
section
variable{σ:St}{H:Hp}{Q:VK}{K:zag}{fr:List (Str×Nat)}
instance:Inhabited V:=⟨.non⟩
end
theorem eZ(h:H p=none):aD H (upd H p o):=λb u e=>by rw[ao (eA e h)];exact e
theorem l7{pos:Pos}(hm:X.mg x=none)(hv:bootBuiltins x=some (.type n))(hg:Gl X x:=by rfl)(hn:x≠"__name__":=by decide)(hd:(x==("__debug__":Str))=false:=by decide):PE X (.Name x pos) (tC (.ty n)) :=
 EY hg hm hv (show RelV (.ty n) (.type n)from rfl) hn hd
section
variable{X:Cx}
theorem CT{scope:Scope}{pos spos:Pos}{fr:List (Str×Nat)}{wi:TI}{tc:TT}{te:TE}{i0:Nat}(hc:X.calm=true)(hN:X.N.Nodup)(hi0:X.N[i0]?=some y)(hx0:Loc X.env.scope y)(B:Blk X scope x fr)
  (hi:PI X (.Name x px) iter wi) (ht:∀s₂ H₂ C fp,PIf (cR X scope (bJ x fr) s₂ H₂ C fp) ifs tc) (he:∀s₂ H₂ C fp,PE (cR X scope (bJ x fr) s₂ H₂ C fp) elt te)
  (hsw:swapsWith (.ListComp elt [⟨.Name x px,iter,ifs,0⟩] scope pos) (some (.Name y py)) spos.line X.env=pure true:=by rfl)
  (hf0:X.fn y=true\/X.env.scope.names.lookup y=some .local:=by first|exact .inl rfl|exact .inr rfl|assumption)
  (hs:∀v,foldedSetIterable iter X.env v=pure v:=by intro _;rfl):PS X (.Assign [.Name y py] (.ListComp elt [⟨.Name x px,iter,ifs,0⟩] scope pos) spos) (AK (tLC fr wi tc te) (mP i0)):=by
 intro pins s σ H D0 I h;rw[exec_Assign_Name_used _ _ _ _ hsw];refine zaI (wpAny_standAt (zaI ?_));have hclos:=xT (scope:=scope) (env:=X.env) (B.clos I.ok);show wpAny _ X.A (do let _<-comprehension (.ListComp elt [⟨.Name x px,iter,ifs,0⟩] scope pos) scope X.env _ (newList []) false (eval iter X.env) (some (assign (.Name y py) X.env))) _ _ s
 refine zaI (za6 (wpAny_comprehension_free (use:=some (assign (.Name y py) X.env)) (Q:=λ_ s'=>SP X pins D0 .next s') rfl hs hclos B.kind B.loc
  (thn (hi pins s σ H _ I h) λv s1 h1=>thn h1 λitv s2 h2=>?_)) (λ_ s' hq=>zaZ (zaZ hq)) λ_ _ e=>e)
 obtain⟨it,fp,tn,J,H2,rfl,I2,T,st2,f2,W,⟨m0,w0⟩,turn⟩:=h2;refine wpAny_newObj_type (wpAny_newFunctionEnv B.cell (by intro y hy;simp at hy) (λh₁ hns hsb=>?_) B.kind)
 dsimp only at hns hsb⊢;generalize hG:s2.heap.push {cls:=.type "list",dict:=none,data:=.seq ([]:List Value).toArray}=G at hns hsb⊢;have hC:G.objs.size=s2.heap.objs.size+1:=by rw[<-hG,Heap.size_push]
 have hDC:s2.heap.objs.size≠G.objs.size:=by omega
 have old:∀b ob,s2.heap.get? b=some ob->h₁.get? b=some ob:=λb ob e=>by
  have hb:=zaq e;refine hsb.extBut b ob (zaS (by rw[hC];exact Nat.lt_succ_of_lt hb)) (zar _ ?_)
  rw[<-hG];exact zar _ e
 have hacc:h₁.get? s2.heap.objs.size=some {cls:=.type "list",data:=.seq ([]:List Value).toArray 0}:=by
  refine hsb.extBut _ _ hDC (zar _ ?_);rw[<-hG];exact zaL _ rfl
 have hlt:∀b∈fp,b<s2.heap.objs.size:=λb hb=>by
  obtain⟨o,e,_⟩:=T.obj 0 _ st2 b hb;exact zaq e
 have I4:=vU (tk:=s2.toks+([]:List (Str×Value)).length) (o:=none) I2 B (show s2.heap.objs.size<=G.objs.size by omega) f2 hlt old hns
 have tn4:tn 0 h₁:=T.keep 0 _ _ st2 λb _ o e=>old b o e
 have Dfs:s2.heap.objs.size∉frs X.stack:=λz=>by
  obtain⟨_,o,ho,_⟩:=I2.stack.mem z;exact absurd (zaq ho) (za3 _)
 have Dcl:∀y c,X.env.cells.lookup y=some c->c≠s2.heap.objs.size:=λy c e=>by
  obtain⟨v,o,ho,_⟩:=I2.cell y c e;exact zaS (zaq ho)
 have DL:s2.heap.objs.size≠X.env.locals:=Nat.ne_of_gt I2.lt;have Dfp:s2.heap.objs.size∉fp:=λz=>absurd (hlt _ z) (za3 _)
 have loop:∀s₃:Shared,s₃={s2 with heap:=h₁,toks:=s2.toks+([]:List (Str×Value)).length}->
   codeAny (model X.prog X.w) X.A (.compLoop (.ListComp elt [⟨.Name x px,iter,ifs,0⟩] scope pos) 0 (.ref it) (.ref s2.heap.objs.size) (compEnvC scope (eY X.env.cells scope.names []) G.objs.size X.env))
    (compPost (model X.prog X.w) X.A X.xe (some (assign (.Name y py) X.env)) (λ_ s'=>SP X pins D0 .next s') (.ref s2.heap.objs.size) G.objs.size) s₃:=by
  rintro s₃ rfl
  refine sJ
   (λn s'=>∃i o H' ys its k,Inv (cR X scope (bJ x fr) s2 H2 G.objs.size fp) [] (o::aU σ fr) H' s'/\tn i s'.heap/\(∀b∈fp,H' b=none)/\H' s2.heap.objs.size=none/\
    s'.heap.get? s2.heap.objs.size=some {cls:=.type "list",data:=.seq (its:List Value).toArray k}/\Vals ys its/\W i n ys H') ?_ m0
   ⟨0,none,H2,[],[],0,I4,tn4,λb hb=>(f2 b hb).1,I2.hok.fresh (zap _),hacc,.nil,w0⟩
  rintro n s5 ⟨i,o,H5,ys,its,k,I5,st5,fr5,D5,hD5,r5,w5⟩
  have fok:∀{H':Hp},(∀b∈fp,H' b=none)->∀b∈fp,jg (cR X scope (bJ x fr) s2 H2 G.objs.size fp) [] H' b:=λhn b hb=>
   ⟨hn b hb,(I5.ok.exf b hb).1,I5.ok.vK b hb,.inl hb,(I5.ok.exf b hb).2,λp hp=>absurd (show p∈([]:List (Addr×Obj))from hp) (by simp)⟩
  have dok:∀{H':Hp},H' s2.heap.objs.size=none->jg (cR X scope (bJ x fr) s2 H2 G.objs.size fp) [] H' s2.heap.objs.size:=λhn=>
   ⟨hn,hDC,Dfs,.inr (zap _),λy c e=>Dcl y c (B.sub I2.ok _ _ e),λp hp=>absurd (show p∈([]:List (Addr×Obj))from hp) (by simp)⟩
  obtain⟨hz,alt⟩:=turn i n ys H5 w5;have hzl:its.length<=sizeLine:=by rw[<-r5.length];exact Nat.le_of_lt hz
  rcases alt with⟨stop,fin⟩|⟨go,step⟩
  ·refine thn (T.done (cR X scope (bJ x fr) s2 H2 G.objs.size fp) rfl rfl rfl hc i (fH [s2.heap.objs.size] s5.heap) s5 (o::aU σ fr) H5 _ ?_ (λb hb=>?_) st5 stop) λr s6 ⟨hr,I6⟩=>?_
   ·exact(Inv.pinned I5 (fp:=[s2.heap.objs.size]) (λb hb=>by rw[zad hb];exact dok D5) λb hb=>by
     rw[zad hb];exact⟨_,hD5,λv z=>by cases z⟩)
   ·obtain⟨f0,f1,f2',f3,f4,f5⟩:=fok fr5 b hb
    refine⟨f0,f1,f2',f3,f4,λp hp=>?_⟩
    have hp':p∈fH [s2.heap.objs.size] s5.heap:=(zae hp).elim (λz=>absurd (show p∈([]:List (Addr×Obj))from z) (by simp)) id
    have:=(jB hp').1;rw[zad this];exact λe=>Dfp (by rw[e];exact hb)
   ·subst hr
    have hD6:=(I6.pin (s2.heap.objs.size,{cls:=.type "list",data:=.seq its.toArray k}) (zan _ (bx (by simp) hD5))).1
    obtain⟨m6,hn6,_⟩:=I6.loc;have u6:Un (frs X.stack) fp H2 H5 s2.heap s6.heap:=I6.base;have hC5:H5 G.objs.size=none:=I6.free;have hCD:G.objs.size≠s2.heap.objs.size:=λz=>hDC z.symm
    have I7:Inv X pins σ H5 s6:=I2.call' (s':=s6) (I6.os) u6 I6.hok I6.bare λb hb=>⟨(f2 b hb).2.2.2.1,(f2 b hb).2.1,(f2 b hb).2.2.2.2.1,(f2 b hb).2.2.2.2.2⟩
    have pD:∀p∈X.pn++pins,p.1≠s2.heap.objs.size:=λp hp z=>by
     obtain⟨e,_⟩:=I2.pin p hp;rw[z]at e;exact absurd (zaq e) (za3 _)
    have I8:Inv X pins σ (upd H5 s2.heap.objs.size (.lst ys)) s6:=I7.track D5 I2.sz DL Dcl pD ⟨Nat.le_of_lt hz,its,k,r5,hD6⟩;have hlt:s2.heap.objs.size<G.objs.size:=by rw[hC];exact Nat.lt_succ_self _
    have hCu:upd H5 s2.heap.objs.size (.lst ys) G.objs.size=none:=by rw[ao hCD];exact hC5
    obtain⟨g0,g1,g2,g3,g4,g5⟩:=I2.pE (H':=upd H5 s2.heap.objs.size (.lst ys)) (Nat.le_of_lt hlt) hCu;obtain⟨oC,esC,epC,hoC,Hr⟩:=id hn6;have I9:=Inv.pinned I8 (fp:=[G.objs.size]) (λb hb=>by
     rw[zad hb];exact⟨g0,g1,g2,g3,g4,g5⟩) λb hb=>by
     rw[zad hb];refine⟨oC,hoC,λv z=>?_⟩
     have dd:=Hr;simp[z]at dd
    refine thn (a9 (X:=X) (i:=i0) hN hi0 hx0 hf0 _ s6 σ _ (.ref s2.heap.objs.size) (.ref s2.heap.objs.size) (fun σ' H'=>σ'=σ.set i0 (some (.ref s2.heap.objs.size))/\H'=upd H5 s2.heap.objs.size (.lst ys)) I9 rfl ⟨rfl,rfl⟩) λ_ s8 ⟨σ8,H8,I10,e1,e2⟩=>?_
    subst e1 e2;have hC8:=(I10.pin (G.objs.size,oC) (zan _ (zan _ (bx (by simp) hoC)))).1
    refine⟨m6,⟨oC,esC,epC,hC8,Hr⟩,λh' hs'=>?_⟩
    exact⟨_,_,(Inv.dU (pins:=pins) I10).turned (t':=s8.toks) (it:=G.objs.size) (λb ob hb e=>hs'.extBut b ob hb e) g0 g1 g3 g4 g5,fin _ D5⟩
  ·refine vV (thn (T.item (cR X scope (bJ x fr) s2 H2 G.objs.size fp) rfl rfl rfl hc i (fH [s2.heap.objs.size] s5.heap) s5 (o::aU σ fr) H5 _ ?_ (λb hb=>?_) st5 go) λr s6 ⟨u,hr,h6⟩=>?_)
   ·exact(Inv.pinned I5 (fp:=[s2.heap.objs.size]) (λb hb=>by rw[zad hb];exact dok D5) λb hb=>by
     rw[zad hb];exact⟨_,hD5,λv z=>by cases z⟩)
   ·obtain⟨f0,f1,f2',f3,f4,f5⟩:=fok fr5 b hb
    refine⟨f0,f1,f2',f3,f4,λp hp=>?_⟩
    have hp':p∈fH [s2.heap.objs.size] s5.heap:=(zae hp).elim (λz=>absurd (show p∈([]:List (Addr×Obj))from z) (by simp)) id
    have:=(jB hp').1;rw[zad this];exact λe=>Dfp (by rw[e];exact hb)
   ·subst hr
    refine thn h6 λ_ s7 ⟨v,H7,I7,rv,y7,st7,fr7⟩=>?_
    have p7:=I7.pin (s2.heap.objs.size,{cls:=.type "list",data:=.seq its.toArray k}) (zan _ (bx (by simp) hD5))
    have hD7:s7.heap.get? s2.heap.objs.size=some {cls:=.type "list",data:=.seq its.toArray k}:=p7.1;have D7:H7 s2.heap.objs.size=none:=p7.2.1;have I7u:Inv (cR X scope (bJ x fr) s2 H2 G.objs.size fp) [] (o::aU σ fr) H7 s7:=Inv.dU (pins:=[]) I7;have I8:=Inv.pinned I7u (fp:=s2.heap.objs.size::fp) (λb hb=>by
      rcases zaf hb with e|hb
      ·rw[e];exact dok D7
      ·exact fok fr7 b hb) λb hb=>by
      rcases zaf hb with e|hb
      ·rw[e];exact⟨_,hD7,λv z=>by cases z⟩
      ·exact T.obj _ _ st7 b hb
    have hl : Loc (cR X scope (bJ x fr) s2 H2 G.objs.size fp).env.scope x := .inl (lookup_relabel_local B.here);have pk:∀{σ':St} {H':Hp} {s':Shared},Inv (cR X scope (bJ x fr) s2 H2 G.objs.size fp) ([]++fH (s2.heap.objs.size::fp) s7.heap) σ' H' s'->
      tn (i+1) s'.heap/\(∀b∈fp,H' b=none)/\H' s2.heap.objs.size=none/\s'.heap.get? s2.heap.objs.size=some {cls:=.type "list",data:=.seq its.toArray k}:=fun{σ' H' s'} I'=>by
     have pD:=I'.pin (s2.heap.objs.size,{cls:=.type "list",data:=.seq its.toArray k}) (zan _ (zan _ (bx (by simp) hD7)))
     refine⟨T.keep _ _ _ st7 λb hb ob e=>(I'.pin (b,ob) (zan _ (zan _ (bx (zak _ hb) e)))).1,λb hb=>?_,pD.2.1,pD.1⟩
     obtain⟨ob,e,_⟩:=T.obj _ _ st7 b hb;exact(I'.pin (b,ob) (zan _ (zan _ (bx (zak _ hb) e)))).2.1
    refine vV (thn (a9 (X :=cR X scope (bJ x fr) s2 H2 G.objs.size fp) (i :=0) B.nd rfl hl (.inr (lookup_relabel_local B.here)) _ s7 _ H7 v u (fun σ' H'=>σ'=some v :: aU σ fr/\H'=H7) I8 rv ⟨rfl,rfl⟩) λ_ s8 ⟨σ8,H8,I9,e1,e2⟩=> ?_)
    subst e1 e2;refine vV (thn (ht s2 H2 G.objs.size fp _ s8 _ H8 _ I9 (step v H8 y7)) λok s9 ⟨H9,I10,q10⟩=>?_)
    cases ok with
    |false=>
     rw[if_neg zam]at q10;rw[if_neg zam];obtain⟨m',hm,w'⟩:=q10;obtain⟨k1,k2,k3,k4⟩:=pk I10;exact⟨m',hm,i+1,some v,H9,ys,its,k,Inv.dU (pins:=[]) I10,k1,k2,k3,k4,r5,w'⟩
    |true=>
     rw[if_pos rfl]at q10;rw[if_pos rfl];refine vV (thn (he s2 H2 G.objs.size fp _ s9 _ H9 _ I10 q10) λy' s10 ⟨y,H10,I11,ry,m',hm,w'⟩=>?_)
     obtain⟨k1,k2,k3,k4⟩:=pk I11;refine append_at k4 (λh' hs' hD'=>?_) (by rw[zaK];exact hzl)
     have I12:Inv (cR X scope (bJ x fr) s2 H2 G.objs.size fp) [] (some v::aU σ fr) H10 {s10 with heap:=h'} :=
      (Inv.dU (pins:=[]) I11).turned (t':=s10.toks) (it:=s2.heap.objs.size) (λb ob hb e=>(hs'.2 b hb).trans e) k3 hDC (.inr (zap _)) (λz c e=>Dcl z c (B.sub I2.ok _ _ e)) λp hp=>absurd (show p∈([]:List (Addr×Obj))from hp) (by simp)
     refine⟨m',hm,i+1,some v,H10,ys++[y],its++[y'],k+1,I12,T.keep _ _ _ k1 λb hb ob e=>(hs'.2 b λz=>Dfp (by rw[<-z];exact hb)).trans e,k2,k3,?_,r5.append (.cons ry .nil),w'⟩
     rw[hD'];simp
 exact codeAny_compStart_list (loop _ rfl) (T.self _ 0 _ _ _ tn4 (loop _ rfl))
end
section
variable{prog:Program}{w:World}{A:Around}{E:Value->Shared->Prop}{s:Shared}
theorem sM(hne:t≠it):∀(n i:Nat) (s:Shared) (Q:List Value->Shared->Prop),s.heap.IsListIter it t i->s.heap.IsList t items->i+n<=items.size->
  (∀h':Heap,h'.IsListIter it t (i+n)->Heap.SameBut it s.heap h'->Q ((items.toList.drop i).take n) {s with heap:=h'})->wpAny (model prog w) A (draw (.ref it) n) Q E s
 |0,i,s,Q,hit,_,_,hQ=>by
  show wpAny _ _ (pure []) Q E s;exact zaZ (by simpa using hQ s.heap hit (Heap.SameBut.refl ..))
 |n+1,i,s,Q,hit,ht,hle,hQ=>by
  have hlt:i<items.size:=by omega
  show wpAny _ _ (pyNext (.ref it)>>=_) Q E s;refine zaI (wpAny_pyNext_list_item hit ht (x:=items[i]) (by simp[hlt]) λh1 hit1 hs1=>?_)
  refine zaI (wpAny_holding (sM hne n (i+1) _ _ hit1 (ht.extBut hs1.extBut hne) (by omega) λh2 hit2 hs2=>zaZ ?_))
  have hd:items.toList.drop i=items[i]::items.toList.drop (i+1):=by simp[List.drop_eq_getElem_cons,hlt]
  have:=hQ h2 (by rw[show i+(n+1)=i+1+n by omega];exact hit2) (hs1.trans hs2)
  rw[hd,List.take_succ_cons]at this;exact this
theorem pH(hh:A.handled=none)(ht:s.heap.IsList t items)
  (hQ:∀h',Heap.ExtBut s.heap.objs.size s.heap h'->Q items.toList {s with heap:=h'}):wpAny (model prog w) A (unpackItems (.ref t) items.size none) Q E s:=by
 have hlt:t≠s.heap.objs.size:=by obtain⟨o,ho,_⟩:=ht;exact zaS (zaq ho)
 unfold unpackItems;refine zaI ?_
 ·unfold notIterableAtAll
  refine zaI (wpAny_specialOf ht.typeIs slot_list_iter.lookup ?_);refine zaZ ?_;simp only[Bool.false_eq_true,if_false];refine zaI (wpAny_holding (wpAny_pyIter_list ht ?_));refine zaI (wpAny_holding (sM hlt items.size 0 _ _ ⟨_,zaL _ rfl,rfl,rfl⟩ (ht.push _) (by omega) λh1 hit1 hs1=>?_))
  have hall:List.take items.size (List.drop 0 items.toList)=items.toList:=by
   rw[List.drop_zero];exact List.take_of_length_le (by simp)
  rw[hall];rw[if_neg (by simp)]
  have ht1:h1.IsList t items:=(ht.push _).extBut hs1.extBut hlt;refine zaI (wpAny_holding (wpAny_pyNext_list_end hh hit1 ht1 (by simp) λh2 he2=>?_))
  simp only[Option.isSome_none,Bool.false_eq_true,if_false];refine zaZ (hQ h2 λb o hb e=>he2 b o hb (hs1.extBut b o hb (zar _ e)))
theorem oy(hh:A.handled=none)(ht:s.heap.IsList t items)
  (hn:(assignEach elts env).length=items.size) (hstar:(assignEach elts env).findIdx? (·.1)=none)
  (h:∀h',Heap.ExtBut s.heap.objs.size s.heap h'->wpAny (model prog w) A (assignInOrder ((assignEach elts env).map (·.2)) items.toList) Q E {s with heap:=h'}) :
  wpAny (model prog w) A (assign (.Tuple elts x1 pos) env (.ref t)) Q E s:=by
 rw[assign_Tuple];refine zaI (wpAny_standAt ?_);unfold unpack;rw[hn,hstar];exact zaI (wpAny_holding (pH hh ht h))
end
variable{X:Cx}
def zr(K:zag)(n:Nat)(t:TGs):TG:=λv σ H Q=>∃a xs,v=.ref a/\(SqT K H a xs\/SqL K H a xs)/\xs.length=n/\t xs σ H Q
theorem iT{k:Nat}{pos:Pos}{n:Nat}(hc:X.calm=true)(h:PGs X es t)
  (hn:(assignEach es X.env).length=n:=by rfl) (hst:(assignEach es X.env).findIdx? (·.1)=none:=by rfl):PG X (.Tuple es k pos) (zr X.K n t):=by
 intro pins s σ H v u Q I r hw;obtain⟨a,xs,e1,hq,hl,hw⟩:=hw;subst e1;cases r;rcases hq with hq|hq
 ·obtain⟨its,rv,ht,hz⟩:=I.tuple hq
  refine assign_Tuple_tuple (I.ok.hd hc) ht (by simp[hn,<-hl,rv.length]) hst λh' hx=>?_
  have I1:Inv X pins σ H {s with heap:=h'}:=I.kept (t':=s.toks) λb o e=>hx b o (zaS (zaq e)) e
  exact h pins _ σ H xs _ Q I1 (by simpa using rv) hw
 ·obtain⟨its,rv,ht,hz⟩:=I.list hq
  refine oy (I.ok.hd hc) ht.isList (by simp[hn,<-hl,rv.length]) hst λh' hx=>?_
  have I1:Inv X pins σ H {s with heap:=h'}:=I.kept (t':=s.toks) λb o e=>hx b o (zaS (zaq e)) e
  exact h pins _ σ H xs _ Q I1 (by simpa using rv) hw
end L2
namespace L2
open PySem PySem.Spec PyProof.Rows
structure zt(P:Program)(w:World)(outer:List Env)(H:Hp)(s:Shared)(E:XK)(ea t:Addr)(cls:Value)(B:Heap)(H':Hp)(s':Shared):Prop where
 os:s'.os=s.os
 bare:AllBare s'.gens
 fly:Heap.FlyingW B outer ea cls (.ref t) s'.heap
 keep:∀b o,s.heap.get? b=some o->H b=none->b∉frs outer->B.get? b=some o
 there:∀b o,s.heap.get? b=some o->b∉frs outer->∃o',B.get? b=some o'
 slot:∀b o,s.heap.get? b=some o->b∈frs outer->H b=none->∃sl,s'.heap.get? b=some {o with slots:=sl}
 free:∀b o,s.heap.get? b=some o->H b=none->H' b=none
 tups:∀b xs,H b=some (.tup xs)->H' b=some (.tup xs)
 jd:∀b o u,H b=some (.frz o u)->H' b=some (.frz o u)
 iN:∀b ps,H b=some (.tbl ps)->∃more,H' b=some (.tbl (ps++more))
 hok:HOk P w H' B
 wish:E cls none H'
def CXW(P:Program)(w:World):CXT:=λouter H s E e s'=>∃ea t cls B H',e=.ref ea/\zt P w outer H s E ea t cls B H' s'
def zu(X:Cx)(cls:Value)(W:Hp->Prop):Prop:=∀(pins:List (Addr×Obj)) (σ:St) (H:Hp) (s:Shared) (e:Addr) (h':Heap) (vs:List Value),Inv X pins σ H s->Heap.MadeExcOf s.heap h' e cls vs->W H->X.xe (.ref e) {s with heap:=h'}
def xU(W:Hp->Prop)(t:TA):TS:=λ_ σ H=>t σ H λvs H1=>vs.length<=100/\W H1
theorem Fn{K:zag}{newId:String}(X:K.In h₀)(q:PySem.W.excIn K C bmB newId=true) :
  ∃bm N nm q bs hdct sn sub ab col dd k0 k1 k2 k3 k5 mN,h₀.get? C=some (excClassObj nm q C N bs bm hdct sn sub ab col dd k0 k1 k2 k3 k5 newId)/\h₀.Ns N mN/\mN "__init__"=none/\OwnTail h₀ bmB bm:=by
 unfold PySem.W.excIn at q;split at q
 ·rename_i dd cd sl ho
  split at q
  ·rename_i C' bm k0 k1 k2 k3 n k5 hm hs
   simp only[Bool.and_eq_true,beq_iff_eq,Bool.not_eq_true']at q;obtain⟨⟨⟨⟨⟨rfl,rfl⟩,hdel⟩,ht⟩,hok⟩,hni⟩:=q;obtain⟨nm,bs,mro,ns,qn,hd,sn,sub,ab,col,del⟩:=cd;dsimp only at hm hdel hok hni;subst hm hdel;have hsl:sl=#[k0,k1,k2,k3,some (.builtin n),k5]:=by
    obtain⟨l⟩:=sl;simp only at hs;rw[hs]
   subst hsl;exact⟨bm,ns,nm,qn,bs,hd,sn,sub,ab,col,dd,k0,k1,k2,k3,k5,_,X _ _ ho,.of_isNs (PySem.W.isNs_of_in X hok),PySem.W.nsMap_none_of_in X hok hni,PySem.W.tail_of_in X ht⟩
  ·cases q
 ·cases q
section
variable{X:Cx}
theorem mV{np cpos pos:Pos}{e:Expr}{es:List Expr}{t:TA}{W:Hp->Prop}(hc:X.calm=true)(hg:Gl X x)(hm:X.mg x=some (.ref C))(hq:PySem.W.excIn X.K C bm newId=true)
  (FB:ExcBaseFacts Bn newId initId bm) (hx:zu X (.ref C) W) (ha:PA X (e::es) t) (hdb:(x==("__debug__":Str))=false:=by decide)
  (he:starEach (e::es) X.env=(false,eval e X.env)::starEach es X.env:=by rfl) (hpl:(backTo cpos (starEach es X.env)).any (·.1)=false:=by rfl) :
  PS X (.Raise (some (.Call (.Name x np) (e::es) [] cpos)) none pos) (xU W t):=by
 intro pins s σ H D I h;obtain⟨tl,N,nm,q,bs,hdct,sn,sub,ab,col,dd,k0,k1,k2,k3,k5,mN,hC,hN,hni,T⟩:=Fn I.mod.kin hq;refine wpAny_Raise_call_subT (C:=C) (nm:=nm) (q:=q) (N:=N) (bs:=bs) (bm:=tl) (hdct:=hdct) (sn:=sn) (sub:=sub) (ab:=ab) (col:=col) (dd:=dd) (k0:=k0) (k1:=k1) (k2:=k2) (k3:=k3) (k5:=k5)
  FB (mN:=mN) (T.hasType FB.hasBase) (I.ok.hd hc) (by rw[he];show(false||(backTo cpos (starEach es X.env)).any (·.1))=false;rw[hpl];rfl) hni (lG I hg hm ⟨rfl,?_⟩ hdb)
 have hp:=ha cpos pins s σ H _ I h;rw[he]at hp⊢;refine Calls.evalArgs_plain (za6 hp (λvs s₂ h₂=>?_) λ_ _ y=>y)
 obtain⟨us,H1,I1,r1,hl,w1⟩:=h₂;exact⟨rfl,by rw[<-r1.length];exact zaX hl (by simp only[sizeLine];omega),I1.bk _ _ hC,hN.keeps I1.bk,T.keeps I1.bk,λh' e' hm'=>hx pins σ H1 s₂ e' h' vs I1 hm' w1⟩
theorem gu{K:zag}{base:Heap}{N:List Str}{qual:Str}{scope:Scope}{f:Addr}{cd:Value}{A:Around}{outer:List Env}{s₀:Shared}{H₀:Hp}{E:XK}{cls:Value}
  (hk:scope.kind=.function) (hex:(envOfC qual scope s₀.heap.objs.size f cd).frame=some s₀.heap.objs.size):zu (ox (CXW P w) P w K mg base N qual scope f cd A outer s₀ H₀ E) cls (λH'=>E cls none H'):=by
 intro pins σ H s e h' vs I hx hw;have noA:∀b:Addr,b∉(ox (CXW P w) P w K mg base N qual scope f cd A outer s₀ H₀ E).ex:=λb z=>absurd (show b∈([]:List Addr)from z) (by simp)
 have hst:=I.stack;have frL:(ox (CXW P w) P w K mg base N qual scope f cd A outer s₀ H₀ E).stack=envOfC qual scope s₀.heap.objs.size f cd::outer:=rfl;rw[frL]at hst;have hfr:=I.ok.frames;have hin:∀env∈(envOfC qual scope s₀.heap.objs.size f cd::outer),∀b,env.frame=some b->b∈frs (envOfC qual scope s₀.heap.objs.size f cd::outer):=λenv he b hb=>List.mem_filterMap.mpr ⟨env,he,hb⟩
 have noH:∀b∈frs (envOfC qual scope s₀.heap.objs.size f cd::outer),H b=none:=λb hb=>I.mO b hb
 show wpAny _ _ (leaving _ (.ref e)) _ _ _;refine wpAny_leaves_madeW (base:=PySem.W.hideAll s.heap (frs (envOfC qual scope s₀.heap.objs.size f cd::outer))) hfr hex (λb o q=>PySem.W.of_hideAll _ q) (PySem.W.funFrames_hide hst hin) hx λh2 t x1 x2 x3 x4=>?_
 have sub:∀b∈frs outer,b∈frs (envOfC qual scope s₀.heap.objs.size f cd::outer):=λb hb=>by
  obtain⟨env,he,hf⟩:=List.mem_filterMap.mp hb;exact hin env (zak _ he) b hf
 have out:∀b o,s₀.heap.get? b=some o->b∉frs outer->b∉frs (envOfC qual scope s₀.heap.objs.size f cd::outer):=λb o q hb hm=>by
  obtain⟨env,he,hf⟩:=List.mem_filterMap.mp hm;rcases zaf he with rfl|he
  ·rw[hex]at hf
   cases hf;exact absurd (zaq q) (za3 _)
  ·exact hb (List.mem_filterMap.mpr ⟨env,he,hf⟩)
 refine⟨e,t,cls,_,H,rfl,⟨I.os,I.bare,x1,λb o q n hb=>?_,λb o q hb=>?_,λb o q hb n=>?_,λb o q n=>?_,I.base.tups,I.base.jd,I.base.iN,λb u q=>?_,hw⟩⟩
 ·exact PySem.W.hideAll_get _ (I.base.keep b o q n hb (noA b)) (out b o q hb)
 ·obtain⟨o',q'⟩:=I.base.there b o q (noA b)
  exact⟨o',PySem.W.hideAll_get _ q' (out b o q hb)⟩
 ·obtain⟨sl,q'⟩:=I.base.slot b o q n hb (noA b)
  obtain⟨_,o2,q2,hd⟩:=hst.mem (sub b hb);rw[q']at q2;cases q2;obtain⟨sl',q3⟩:=x4 b _ (hx.keeps b _ q') hd;exact⟨sl',q3⟩
 ·exact I.base.free b o q n (noA b)
 ·refine(I.hok b u q).stay (λc v hc q'=>PySem.W.hideAll_get _ q' λhm=>?_) (λ_ q'=>q') λ_ _ _ q'=>q'
  have hn:=noH c hm;rcases hc with z|z
  ·rw[z,q]at hn;cases hn
  ·rw[z]at hn;cases hn
theorem pR{σ:St}{H:Hp}{s:Shared}{i:Nat}{x:Str}{pos:Pos}{Q:Unit->Shared->Prop}(I:Inv X pins σ H s)(hN:X.N.Nodup)(hi:X.N[i]?=some x)(hk:X.env.scope.names.lookup x=some .local)
  (h:∀s',Inv X pins (σ.set i none) H s'->Q () s'):wpAny M A (do bindName X.env x .none;unbindBehindTheSuite X.env x pos) Q E s:=by
 obtain⟨m,hn,hl⟩:=id I.loc;have hk':X.env.kindOf x=some .local:=hk;have hcls:(X.env.scope.kind== .class||(X.env.scope.kind== .module&&X.env.locals !=X.env.globals))=false:=by rw[I.ok.kind];rfl
 have hiσ:i<σ.length:=by rw[I.len];exact(zac hi).1
 have cne:=I.cne;refine zaI (wpAny_bindName (wpAny_storeName_local hk' hn (λh₁ hn₁ hs₁=>?_) hcls))
 unfold unbindBehindTheSuite;refine wpAny_onRaise ?_;unfold unbindName;refine zaI (wpAny_point (zaI ?_));unfold deleteName;simp only[hk',hcls];rw[if_neg (by decide)]
 refine zaI (wpAny_nsDel_keeps hn₁ λh₂ v hn₂ hs₂=>?_)
 simp only[if_true,Option.isSome_some,Bool.not_true,Bool.false_eq_true,if_false];have hs:Heap.SameBut X.env.locals s.heap h₂:=hs₁.trans hs₂;obtain⟨oL,_,_,hoL,_⟩:=id hn;refine zaZ (wpAny_point (h _ ⟨I.ok,I.os,I.bare,⟨λb o e n hb hx=>?_,λb o e n hb hx=>?_,I.base.free,λb o e hx=>?_,I.base.tups,I.base.jd,I.base.iN⟩,⟨_,hn₂,λj y v' e1 e2 e3=>?_⟩,λy c e=>?_,I.free,I.f7,λp hp=>?_,λb ob e=>?_,by simpa using I.len⟩))
 ·exact(hs.2 b (zaS (zaF (zaq e) I.ok.above))).trans (I.base.keep b o e n hb hx)
 ·obtain⟨sl,e1⟩:=I.base.slot b o e n hb hx
  exact⟨sl,(hs.2 b (zaS (zaF (zaq e) I.ok.above))).trans e1⟩
 ·obtain⟨o',e1⟩:=I.base.there b o e hx
  exact⟨o',(hs.2 b (zaS (zaF (zaq e) I.ok.above))).trans e1⟩
 ·by_cases hj:j=i
  ·subst hj
   rw[zav hiσ]at e2;cases e2
  ·rw[zaA (Ne.symm hj)]at e2
   obtain⟨u',r',q⟩:=hl j y v' e1 e2 e3;refine⟨u',r',?_⟩;rcases q with⟨k,e⟩|⟨k,c,e,z⟩
   ·refine .inl ⟨k,?_⟩
    have:y≠x:=λe=>hj (qf hN e1 (e▸hi))
    simp[this,e]
   ·exact .inr ⟨k,c,e,z.sameBut hs (cne y c e)⟩
 ·obtain⟨w',z⟩:=I.cell y c e
  exact⟨w',z.sameBut hs (cne y c e)⟩
 ·obtain⟨e,n,ne,nf,d⟩:=I.pin p hp
  exact⟨(hs.2 p.1 ne).trans e,n,ne,nf,d⟩
 ·refine(I.hok b ob e).stay (λc w' hc q=>(hs.2 c ?_).trans q) (λ_ q=>q) λ_ _ _ q=>q
  rintro rfl
  rcases hc with rfl|hc
  ·rw[I.free]at e;cases e
  ·rw[I.free]at hc;cases hc
theorem cb.is(x:cb P w H h a o):∃u,h.get? a=some u:=by
 induction o with
 |lst xs=>obtain⟨z,its,n,r,e⟩:=x;exact⟨_,e⟩
 |tup xs=>first|(obtain⟨z,its,r,ob,e,c⟩:=x;exact⟨_,e⟩)|(obtain⟨z,its,r,⟨ob,e,c⟩,_⟩:=x;exact⟨_,e⟩)
 |dK kvs=>obtain⟨z,y,vs,r,ob,es,ep,e,c⟩:=x;exact⟨_,e⟩
 |dT kvs=>obtain⟨z,y,xs,r,ob,es,ep,e,c⟩:=x;exact⟨_,e⟩
 |set S n=>obtain⟨ob,es,ep,t,e,c⟩:=x;exact⟨_,e⟩
 |ins C dx fs=>obtain⟨_,_,_,e,_⟩:=x;exact⟨_,e⟩
 |own _=>exact x
 |xd fs=>obtain⟨_,⟨_,_,_,e,_⟩,_⟩:=x;exact⟨_,e⟩
 |rng lo hi=>obtain⟨_,_,_,e⟩:=x;exact⟨_,e⟩
 |frz ob u=>obtain⟨e,_⟩:=x;exact⟨_,e⟩
 |tbl ps=>
  rcases x with⟨_,_,_,_,_,_,_,_,ec,e,_⟩|⟨_,_,e,_⟩
  ·cases ec;exact⟨_,e⟩
  ·exact⟨_,e⟩
 |met f y=>exact⟨_,x⟩
 |ext φ=>obtain⟨_,e,_⟩:=x;exact e
theorem cb.Ht(x:cb P w H h a (.tup xs)):xs.length<=sizeLine/\∃its:List Value,Vals xs its/\IsTup h a its.toArray:=by
 first|exact x|(obtain⟨z,its,r,p,_⟩:=x;exact⟨z,its,r,p⟩)
theorem cb.CU{h:Heap}{xs:List V}{its:List Value}(hz:xs.length<=sizeLine)(r:Vals xs its):cb P w H (h.push {cls:=.type "tuple",data:=.seq its.toArray}) h.objs.size (.tup xs):=by
 first|exact⟨hz,its,r,⟨_,zaL _ rfl,rfl,_,rfl⟩⟩|exact⟨hz,its,r,⟨_,zaL _ rfl,rfl,_,rfl⟩,_,zaL _ rfl,rfl⟩
theorem zt.inv{σ:St}{E:XK}{ea t:Addr}{cls:Value}{B h2:Heap}(fl:zt X.prog X.w X.stack H s E ea t cls B H' s')(I:Inv X pins σ H s)(f2:Heap.FlyingW B X.stack ea cls (.ref t) h2)(sm:s'.heap.UpToSlots h2) :
  Inv X pins σ H' {s' with heap:=h2}:=by
 refine I.call' (ch:=[]) fl.os ⟨λb o q n hb _=>f2.1 b o (fl.keep b o q n hb),λb o q n hb _=>?_,λb o q n _=>fl.free b o q n,λb o q _=>?_,fl.tups,fl.jd,fl.iN⟩ (fl.hok.kept f2.1) fl.bare (λb z=>absurd z (by simp))
 ·obtain⟨sl,q1⟩:=fl.slot b o q hb n
  obtain⟨_,o2,q2,hd⟩:=fl.fly.2.2.1.mem hb;rw[q1]at q2;cases q2;obtain⟨sl',q3⟩:=sm b _ q1 hd;exact⟨sl',q3⟩
 ·by_cases hb:b∈frs X.stack
  ·obtain⟨sl,q1⟩:=fl.slot b o q hb (I.mO b hb)
   obtain⟨_,o2,q2,hd⟩:=fl.fly.2.2.1.mem hb;rw[q1]at q2;cases q2;obtain⟨sl',q3⟩:=sm b _ q1 hd;exact⟨_,q3⟩
  ·obtain⟨o',q1⟩:=fl.there b o q hb
   exact⟨o',f2.1 b o' q1⟩
end
def Cx.mkd(X:Cx)(e:Addr):Cx:={X with A:=X.A.mark (some (.ref e)),calm:=false,xe:=λ_ _=>False}
def Cx.inX(X:Cx)(e:Addr)(oe:Obj):Cx:={X with A:=X.A.mark (some (.ref e)),calm:=false,pn:=(e,oe)::X.pn,xe:=λ_ _=>False}
section
variable{X:Cx}{pins:List (Addr×Obj)}{σ:St}{H:Hp}{s:Shared}{e:Addr}{oe:Obj}
theorem Cx.Ok.mkd(ok:X.Ok):(X.mkd e).Ok:=⟨ok.mod,ok.kind,ok.glob,ok.blt,ok.above,ok.inj,ok.has,ok.cab,λh=>absurd (show false=true from h) zam,ok.frames,ok.stk,ok.exf,ok.bs,ok.bsz,ok.xJ,ok.vK,ok.mf,ok.frf,ok.tab⟩
theorem Inv.mkd(I:Inv X pins σ H s):Inv (X.mkd e) pins σ H s:=⟨I.ok.mkd,I.os,I.bare,I.base,I.loc,I.cell,I.free,I.f7,I.pin,I.hok,I.len⟩
theorem Cx.Ok.inX(ok:X.Ok):(X.inX e oe).Ok:=⟨ok.mod,ok.kind,ok.glob,ok.blt,ok.above,ok.inj,ok.has,ok.cab,λh=>absurd (show false=true from h) zam,ok.frames,ok.stk,ok.exf,ok.bs,ok.bsz,ok.xJ,ok.vK,ok.mf,ok.frf,ok.tab⟩
theorem Inv.inX(I:Inv X pins σ H s)(h1:s.heap.get? e=some oe)(h2:H e=none)(h3:e≠X.env.locals)(h4:e∉X.fs)(h5:∀v,oe.data≠.cell v):Inv (X.inX e oe) pins σ H s :=
 ⟨I.ok.inX,I.os,I.bare,I.base,I.loc,I.cell,I.free,I.f7,λp hp=>by
  rcases zaf (show p∈(e,oe)::(X.pn++pins)from hp)with rfl|hp
  ·exact⟨h1,h2,h3,h4,h5⟩
  ·exact I.pin p hp,I.hok,I.len⟩
theorem Inv.Fo(ok:X.Ok)(I:Inv (X.inX e oe) pins σ H s):Inv X pins σ H s :=
 ⟨ok,I.os,I.bare,I.base,I.loc,I.cell,I.free,I.f7,λp hp=>I.pin p (show p∈(e,oe)::(X.pn++pins)from zak _ hp),I.hok,I.len⟩
def Ends.drop(D:Ends)(i:Nat):Ends:={nx:=fun σ H=>D.nx (σ.set i none) H,rt:=D.rt,bk:=fun σ H=>D.bk (σ.set i none) H,ct:=fun σ H=>D.ct (σ.set i none) H}
end
end L2
namespace L2
open PySem PySem.Spec PyProof.Rows PySem.W Builtin Builtin.ObjectAttr Builtin.Getset_descriptor
section
variable{prog:Program}{w:World}{A:Around}{E:Value->Shared->Prop}{K:zag}{a D:Addr}{o:Obj}{h:Heap}{g:Array GenState}{d:Drawn}{t:Nat}{os:OsState}
structure uh(K:zag)(D:Addr):Prop where
 ga:findIn K (.ref D) "__getattribute__"=some (some (.builtin "BaseException.__getattribute__"))
 gn:findIn K (.ref D) "__getattr__"=some none
 ca:findIn K (.ref D) "__class__"=some (some (.builtin "object.__class__"))
 sub:subIn K (.ref D) (.type "BaseException")=some true
 mro:mroIn K D (.type "object")=some true
 gs:specialIn K (.builtin "object.__class__") "__get__"=some (some (.builtin "getset_descriptor.__get__"))
 tk:takesIn K (.builtin "object.__class__")=some true
 cls:(clsIn K D).isSome=true
theorem exc_type(hx:h.get? a=some o)(hc:o.cls=.ref D)(M:Model):Looks M h (typeOf (.ref a)) (.ref D):=hc▸(Looks.ld hx).andThen .now
theorem rM(X:K.In h)(hx:h.get? a=some o)(hc:o.cls=.ref D)(Z:uh K D)(hq:R (.ok (.ret (.ref D))) ⟨h,g,d,t,os⟩) :
  codeAny (model prog w) A (.call (.builtin "getset_descriptor.__get__") ⟨[.builtin "object.__class__",.ref a,tp],[]⟩) R ⟨h,g,d,t,os⟩:=by
 have L0:=exc_type hx hc (model prog w);have L1:=looks_mroIn (M:=model prog w) X Z.mro;refine codeAny_call_builtin KF.slot_gs.plain KF.entry_gs (KF.slot_gs.check _ _ _ _ _ _ _ _ KF.type_class (KF.args_gs _ _ _) ?_);unfold Builtin.«getset_descriptor.__get__» descrGet;rw[dga_obj];refine zaI (zaZ ?_);unfold descrGetter descrCheckInstance descrNameAndClass isInstance;simp only[KF.owner_class]
 repeat lk
 refine⟨Code.quiet_builtin _ (by decide+kernel),codeAny_builtin KF.entry_class ?_⟩
 unfold Builtin.«object.__class__» shownTypeOf
 repeat lk
 exact hq
theorem pI(X:K.In h)(hx:h.get? a=some o)(hc:o.cls=.ref D)(Z:uh K D)(hq:Q (.done (.ret (.ref D))) ⟨h,g,d,t,os⟩) :
  wpAny (model prog w) A (Builtin.«object.__getattribute__» ⟨[.ref a,.str "__class__" tk],[]⟩) Q E ⟨h,g,d,t,os⟩:=by
 have L0:=exc_type hx hc (model prog w);have L2:=looks_findIn (M:=model prog w) X Z.ca;have L3:=looks_specialIn (M:=model prog w) X Z.gs;have L4:=looks_takesIn (M:=model prog w) X Z.tk;unfold Builtin.«object.__getattribute__» find
 repeat (first|with_reducible refine wpAny_call (rM X hx hc Z ?_)|lk)
 exact hq
theorem qk(X:K.In h)(hx:h.get? a=some o)(hc:o.cls=.ref D)(Z:uh K D)(hq:Q (some (.ref D)) ⟨h,g,d,t+1,os⟩) :
  wpAny (model prog w) A (getAttr? (.ref a) "__class__") Q E ⟨h,g,d,t,os⟩:=by
 have L0:=exc_type hx hc (model prog w);have L1:=looks_findIn (M:=model prog w) X Z.ga;have L2:=looks_findIn (M:=model prog w) X Z.gn;unfold getAttr? getAttrBy? getAttrBy;refine zaI (wpAny_mkText (zaI (wpAny_attempt (wpAny_holding (zaI (L0.at (zaI (L1.at ?_))))))));show wpAny _ _ (getAttrByItsOwn _ _ _ _ _ _) _ _ _;unfold getAttrByItsOwn hookBefore;rw[if_pos (show onTheHeap (Value.ref D)=true from rfl)];refine zaI (L2.at ?_);have hck:∀{Q':Unit->Shared->Prop} {E':Value->Shared->Prop} {A':Around} {nv:Value} {t':Nat},Q' () ⟨h,g,d,t',os⟩->wpAny (model prog w) A' (checkBuiltinCall "BaseException.__getattribute__" ⟨[.ref a,nv],[]⟩) Q' E' ⟨h,g,d,t',os⟩:=fun{Q' E' A' nv t'} q'=>by
  have L5:=looks_subIn (M:=model prog w) X Z.sub;have hk:builtinKind "BaseException.__getattribute__"=some .slot:=by decide+kernel
  have hsplit:splitId "BaseException.__getattribute__"=some ("BaseException","__getattribute__"):=by decide+kernel
  have ha:=F.args_bexc_ga (.ref a) nv;have LI:Looks (model prog w) h (isInstance (.ref a) (.type "BaseException")) true:=L0.andThen L5;simp only[checkBuiltinCall,hk,hsplit];refine zaI ?_
  repeat (first|with_reducible refine Looks.at (by assumption) ?_|wp_step)
  exact q'
 have f3:=F.attr_ValueError.ga.bind (.ref a);refine zaI (wpAny_attempt (wpAny_holding ?_));show wpAny _ _ (boundAndCalled _ _ _) _ _ _;unfold boundAndCalled;rw[f3];refine zaI (zaZ ?_);refine wpAny_call (codeAny_call_builtin F.attr_ValueError.ga.plain F.entry_bexc_ga (hck (pI X hx hc Z ?_)));exact handed_on rfl (zaZ hq)
theorem vY(Z:uh K D)(hc:o.cls=.ref D):KitX K (.ref a) (.ref D) (λh=>h.get? a=some o) where
 ty:=λM _ _ hx=>exc_type hx hc M
 it:=λ_ _ X _=>by
  obtain⟨cd,hcd⟩:=Option.isSome_iff_exists.mp Z.cls;unfold clsIn at hcd;split at hcd
  ·rename_i c' d' cd' sl' ho
   intro A' Q' E' s' k q;unfold isType loadHead;exact zaI (wpAny_loadPart (k _ _ (X _ _ ho)) (zaZ q))
  ·cases hcd
 ne:=λh tp dd its n sl X htp=>by
  obtain⟨cd,hcd⟩:=Option.isSome_iff_exists.mp Z.cls;refine Bool.eq_false_iff.mpr λq=>?_
  have e:D=tp:=Value.ref.inj (beq_iff_eq.mp q);subst e;unfold clsIn at hcd;split at hcd
  ·rename_i c' d' cd' sl' ho
   have z:=(X _ _ ho).symm.trans htp;cases z
  ·cases hcd
 ca:=fun{_ _ _ _ _ s} X hx k=>by
  obtain⟨h,g,d,t,os⟩:=s;exact qk X hx hc Z k
end
section
variable{X:Cx}{e:Addr}{oe:Obj}{D:Addr}
def CV(K:zag)(e D:Addr):List V->Hp->VK->Prop:=λvs H Q=>
 (∃c cv b,vs=[.ref e,c]/\(∀u,RelV c u->u=cv)/\kitOne K (.ref D) cv=some b/\Q (.bl b) H)\/
 (∃tp cs cvs b,vs=[.ref e,.ref tp]/\H tp=some (.tup cs)/\(∀us,Vals cs us->us=cvs)/\kitAny K (.ref D) cvs=some b/\Q (.bl b) H)
theorem AU(hp:(e,oe)∈X.pn)(hc:oe.cls=.ref D)(Z:uh X.K D):d7 X (.builtin "isinstance") (CV X.K e D):=by
 intro pins s σ H vs us Q I r h;have hx:=(I.pin (e,oe) (zaW _ hp)).1;rcases h with⟨c,cv,b,rfl,hcv,hk,q⟩|⟨tp,cs,cvs,b,rfl,ht,hcv,hk,q⟩
 ·cases r with
  |cons r1 r=>
   cases r with
   |cons r2 r=>
    cases r;obtain rfl:=r1;obtain rfl:=hcv _ r2;exact kia_one (vY (a:=e) Z hc) I.kIn hx hk (by intro z;cases z) λtk=>⟨.bl b,H,I.tok tk,rfl,q⟩
 ·cases r with
  |cons r1 r=>
   cases r with
   |cons r2 r=>
    cases r;obtain rfl:=r1;obtain rfl:=r2;obtain⟨z,its,rv,ob,eo,ec,n,ed⟩:=(I.hok tp _ ht).Ht;obtain rfl:=hcv _ rv;obtain⟨oc,od,odt,osl⟩:=ob;dsimp only at ec ed;subst ec ed;exact kia_tup (vY (a:=e) Z hc) I.kIn hx eo hk (by intro z;cases z) λtk=>⟨.bl b,H,I.tok tk,rfl,q⟩
end
end L2
namespace Mir
open PySem L2
class Zc where
 e:Addr
instance (priority:=10) zc0:Zc:=⟨0⟩
variable [Zc]
def cIf{α:Type}(c:Prop)(a b : α) : α:=@ite α c (Classical.propDecidable c) a b
theorem bR(h:c):cIf c a b=a:=by unfold cIf;rw[if_pos h]
theorem Fp(h : ¬c):cIf c a b=b:=by unfold cIf;rw[if_neg h]
theorem CW:cIf True a b=a:=bR trivial
theorem cW(h:cIf c a none=some x):c/\a=some x:=by
 by_cases hc:c
 ·rw[bR hc]at h;exact⟨hc,h⟩
 ·rw[Fp hc]at h;cases h
abbrev D:=PyData
def pJ:Key->D->Prop
 | .inl i,c=>c=.int i
 | .inr x,c=>c=.str x
mutual
inductive Rep(H:Hp):V->D->Prop
 |non:Rep H .non .none
 |bl (b:Bool):Rep H (.bl b) (.bool b)
 |int (i:Int):Rep H (.int i) (.int i)
 |str (x:Str):Rep H (.str x) (.str x)
 |lst {a:Addr} {xs:List V} {ds:List D}:Rd H a (.lst xs)->aP H xs ds->Rep H (.ref a) (.list ds)
 |tup {a:Addr} {xs:List V} {ds:List D}:H a=some (.tup xs)->aP H xs ds->Rep H (.ref a) (.tuple ds)
 |dct {a:Addr} {kvs:List (Key×V)} {es:List (D×D)}:Rd H a (.dK kvs)->aZ H kvs es->Rep H (.ref a) (.dict es)
inductive aP(H:Hp):List V->List D->Prop
 |nil:aP H [] []
 |cons {x:V} {xs:List V} {d:D} {ds:List D}:Rep H x d->aP H xs ds->aP H (x::xs) (d::ds)
inductive aZ(H:Hp):List (Key×V)->List (D×D)->Prop
 |nil:aZ H [] []
 |cons {k:Key} {x:V} {kvs:List (Key×V)} {c d:D} {es:List (D×D)}:pJ k c->Rep H x d->aZ H kvs es->aZ H ((k,x)::kvs) ((c,d)::es)
end
theorem ee(e:aD H H')(h:Rd H a u):Rd H' a u:=by
 rcases h with h|⟨o,h⟩
 ·exact .inl (e _ _ h)
 ·exact .inr ⟨o,e _ _ h⟩
mutual
theorem Rep.mono(e:aD H H'):∀{v:V} {d:D},Rep H v d->Rep H' v d
 |_,_,.non=>.non
 |_,_,.bl b=>.bl b
 |_,_,.int i=>.int i
 |_,_,.str x=>.str x
 |_,_,.lst h r=>.lst (ee e h) (aP.mono e r)
 |_,_,.tup h r=>.tup (e _ _ h) (aP.mono e r)
 |_,_,.dct h r=>.dct (ee e h) (aZ.mono e r)
theorem aP.mono(e:aD H H'):∀{v:List V} {d:List D},aP H v d->aP H' v d
 |_,_,.nil=>.nil
 |_,_,.cons a b=>.cons (Rep.mono e a) (aP.mono e b)
theorem aZ.mono(e:aD H H'):∀{v:List (Key×V)} {d:List (D×D)},aZ H v d->aZ H' v d
 |_,_,.nil=>.nil
 |_,_,.cons k a b=>.cons k (Rep.mono e a) (aZ.mono e b)
end
theorem aP.length:∀{v:List V} {d:List D},aP H v d->v.length=d.length
 |_,_,.nil=>rfl
 |_,_,.cons _ b=>by simp[aP.length b]
theorem aP.get:∀{v:List V} {d:List D} (i:Nat),aP H v d->∀c,d[i]?=some c->∃x,v[i]?=some x/\Rep H x c
 |_,_,_,.nil,c,e=>by simp at e
 |_,_,0,.cons a _,c,e=>by simp at e;subst e;exact⟨_,rfl,a⟩
 |_,_,i+1,.cons _ b,c,e=>by
  obtain⟨x,h1,h2⟩:=aP.get i b c (by simpa using e)
  exact⟨x,by simpa using h1,h2⟩
theorem aP.Ji:∀{v:List V} {d:List D} (i:Nat),aP H v d->∀x,v[i]?=some x->∃c,d[i]?=some c/\Rep H x c
 |_,_,_,.nil,c,e=>by simp at e
 |_,_,0,.cons a _,c,e=>by simp at e;subst e;exact⟨_,rfl,a⟩
 |_,_,i+1,.cons _ b,c,e=>by
  obtain⟨x,h1,h2⟩:=aP.Ji i b c (by simpa using e)
  exact⟨x,by simpa using h1,h2⟩
theorem aP.append:∀{v w:List V} {d c:List D},aP H v d->aP H w c->aP H (v++w) (d++c)
 |_,_,_,_,.nil,r=>r
 |_,_,_,_,.cons a b,r=>.cons a (aP.append b r)
theorem aP.take:∀{v:List V} {d:List D} (n:Nat),aP H v d->aP H (v.take n) (d.take n)
 |_,_,0,_=>.nil
 |_,_,_+1,.nil=>.nil
 |_,_,n+1,.cons a b=>.cons a (aP.take n b)
theorem aP.drop:∀{v:List V} {d:List D} (n:Nat),aP H v d->aP H (v.drop n) (d.drop n)
 |_,_,0,r=>r
 |_,_,_+1,.nil=>.nil
 |_,_,n+1,.cons _ b=>aP.drop n b
theorem aP.set(r:Rep H x c):∀{v:List V} {d:List D} (i:Nat),aP H v d->aP H (v.set i x) (d.set i c)
 |_,_,_,.nil=>.nil
 |_,_,0,.cons _ b=>.cons r b
 |_,_,i+1,.cons a b=>.cons a (aP.set r i b)
theorem aP.eraseIdx:∀{v:List V} {d:List D} (i:Nat),aP H v d->aP H (v.eraseIdx i) (d.eraseIdx i)
 |_,_,_,.nil=>.nil
 |_,_,0,.cons _ b=>b
 |_,_,i+1,.cons a b=>.cons a (aP.eraseIdx i b)
theorem aP.dropLast(r:aP H v d):aP H v.dropLast d.dropLast:=by
 rw[List.dropLast_eq_take,List.dropLast_eq_take,r.length];exact r.take _
theorem aP.reverse:∀{v:List V} {d:List D},aP H v d->aP H v.reverse d.reverse
 |_,_,.nil=>.nil
 |_,_,.cons a b=>by rw[List.reverse_cons,List.reverse_cons];exact(aP.reverse b).append (.cons a .nil)
theorem aP.flat(r:aP H v d):∀k,aP H (List.replicate k v).flatten (List.replicate k d).flatten
 |0=>.nil
 |k+1=>by
  rw[zbc,zbc,List.flatten_cons,List.flatten_cons];exact r.append (aP.flat r k)
inductive Sl where
 |no|fz (d:D)|own (d:D)|io (d:D)|ro (d:D)|ex
def Sl.e9:Sl->Bool
 | .own _=>true
 | .io _=>true
 |_=>false
def Sl.isRef:Sl->Bool
 | .own _=>true
 | .io _=>true
 | .ro _=>true
 |_=>false
theorem Sl.f9{s:Sl}(h:s.e9=true):s.isRef=true:=by cases s<;>first|rfl|cases h
abbrev Rho:=List Sl
inductive Kd where
 |fz|new|at(i:Nat)|ro
abbrev RV:=D×Kd
inductive Own(B H:Hp)(p:Addr):D->Prop
 |lst {xs:List V} {ds:List D}:H p=some (.lst xs)->aP B xs ds->Own B H p (.list ds)
 |dct {kvs:List (Key×V)} {es:List (D×D)}:H p=some (.dK kvs)->aZ B kvs es->Own B H p (.dict es)
theorem Own.there(h:Own B H p d):∃o,H p=some o:=by cases h with
 |lst h _=>exact⟨_,h⟩
 |dct h _=>exact⟨_,h⟩
theorem Own.g9(h:Own B H p d):H p≠none:=by
 obtain⟨o,e⟩:=h.there;rw[e];simp
theorem Own.mono(h:Own B H p d)(e:aD B B')(k:∀o,H p=some o->H' p=some o):Own B' H' p d:=by cases h with
 |lst h r=>exact .lst (k _ h) (r.mono e)
 |dct h r=>exact .dct (k _ h) (r.mono e)
theorem Own.ql(h:Own B H p d)(xs:List V):H p≠some (.tup xs):=by cases h with
 |lst h _=>rw[h];simp
 |dct h _=>rw[h];simp
theorem Own.rep(h:Own B H p d)(e:aD B H):Rep H (.ref p) d:=by cases h with
 |lst h r=>exact .lst (.inl h) (r.mono e)
 |dct h r=>exact .dct (.inl h) (r.mono e)
theorem Own.frozen(h:Own B H p d)(e:aD B B')(k:∀o,H p=some o->B' p=some o):Rep B' (.ref p) d:=by cases h with
 |lst h r=>exact .lst (.inl (k _ h)) (r.mono e)
 |dct h r=>exact .dct (.inl (k _ h)) (r.mono e)
structure Fr where
 B:Hp
 H:Hp
 io:List (Nat×Addr)
 Z:Addr->Prop
def qm(B H:Hp)(σ:St)(i:Nat):Sl->Prop
 | .no=>True
 | .ex=>True
 | .fz d=>∃v,σ[i]?=some (some v)/\Rep B v d
 | .own d=>∃p,σ[i]?=some (some (.ref p))/\B p=none/\Own B H p d
 | .io d=>∃p,σ[i]?=some (some (.ref p))/\B p=none/\Own B H p d
 | .ro d=>∃p,σ[i]?=some (some (.ref p))/\Own B H p d
structure Rel(F:Fr)(B H:Hp)(σ:St)(ρ:Rho):Prop where
 sub:aD B H
 sB:aD F.B B
 sH:∀q o,F.H q=some o->(∀x∈F.io,x.2≠q)->H q=some o
 nB:∀q,F.H q≠none->F.B q=none->B q=none
 len : ρ.length=σ.length
 slot:∀(i:Nat) (s:Sl),ρ[i]?=some s->qm B H σ i s
 dist:∀(i j:Nat) (s t:Sl) (p:Addr),ρ[i]?=some s->s.e9=true->ρ[j]?=some t->t.isRef=true->σ[i]?=some (some (.ref p))->σ[j]?=some (some (.ref p))->i=j
 jD:∀(i:Nat) (d:D) (p:Addr),ρ[i]?=some (.own d)->σ[i]?=some (some (.ref p))->F.H p=none
 fx:∀x∈F.io,σ[x.1]?=some (some (.ref x.2))/\∃d,ρ[x.1]?=some (.io d)
 ioN:∀(i:Nat) (d:D),ρ[i]?=some (.io d)->∃p,(i,p)∈F.io
 cO:∀q xs,H q=some (.tup xs)->B q=some (.tup xs)
 exv:∀i:Nat,ρ[i]?=some .ex->σ[i]?=some (some (.ref Zc.e))
 nz:∀q o u,H q=some (.frz o u)->F.Z q
structure Ext(σ:St)(ρ:Rho)(B H:Hp)(ρ':Rho)(B' H':Hp):Prop where
 sB:aD B B'
 keep:∀q o,H q=some o->(∀(i:Nat) (s:Sl),ρ[i]?=some s->s.e9=true->σ[i]?≠some (some (.ref q)))->H' q=some o/\(B q=none->B' q=none)
 own:∀(i:Nat) (s':Sl),ρ'[i]?=some s'->s'.e9=true->∃s,ρ[i]?=some s/\s.e9=true
 ref:∀(i:Nat) (s':Sl),ρ'[i]?=some s'->s'.isRef=true->∃s,ρ[i]?=some s/\s.isRef=true
 live:∀q,H' q=none->H q=none
theorem Ext.refl(σ:St)(ρ:Rho)(B H:Hp):Ext σ ρ B H ρ B H:=⟨aD.refl _,λ_ _ h _=>⟨h,id⟩,λ_ s h e=>⟨s,h,e⟩,λ_ s h e=>⟨s,h,e⟩,λ_ h=>h⟩
theorem Ext.trans(a:Ext σ ρ B H ρ1 B1 H1)(b:Ext σ ρ1 B1 H1 ρ2 B2 H2):Ext σ ρ B H ρ2 B2 H2:=by
 refine⟨a.sB.trans b.sB,λq o h n=>?_,λi s h e=>?_,λi s h e=>?_,λq h=>a.live q (b.live q h)⟩
 ·obtain⟨h1,h2⟩:=a.keep q o h n
  obtain⟨h3,h4⟩:=b.keep q o h1 λi s e1 e2=>by
   obtain⟨s',e3,e4⟩:=a.own i s e1 e2;exact n i s' e3 e4
  exact⟨h3,λz=>h4 (h2 z)⟩
 ·obtain⟨s1,h1,e1⟩:=b.own i s h e
  exact a.own i s1 h1 e1
 ·obtain⟨s1,h1,e1⟩:=b.ref i s h e
  exact a.ref i s1 h1 e1
def slD:Sl->D
 | .own d=>d
 | .io d=>d
 | .ro d=>d
 | .fz d=>d
 | .no=>.none
 | .ex=>.none
def Val(F:Fr)(B H:Hp)(σ:St)(ρ:Rho)(v:V)(r:RV):Prop:=match r.2 with
 | .fz=>Rep B v r.1
 | .new=>∃p,v=.ref p/\B p=none/\F.H p=none/\Own B H p r.1/\∀(i:Nat) (s:Sl),ρ[i]?=some s->s.isRef=true->σ[i]?≠some (some (.ref p))
 | .at i=>∃s,ρ[i]?=some s/\s.e9=true/\slD s=r.1/\σ[i]?=some (some v)
 | .ro=>∃p,v=.ref p/\Own B H p r.1/\∀(i:Nat) (s:Sl),ρ[i]?=some s->s.e9=true->σ[i]?≠some (some (.ref p))
def View(B H:Hp)(v:V)(d:D):Prop:=Rep B v d\/∃p,v=.ref p/\Own B H p d
theorem View.rep(h:View B H v d)(e:aD B H):Rep H v d:=by
 rcases h with h|⟨p,rfl,h⟩
 ·exact h.mono e
 ·exact h.rep e
theorem View.list{ds:List D}(h:View B H v (.list ds))(e:aD B H):∃p xs,v=.ref p/\Rd H p (.lst xs)/\aP B xs ds:=by
 rcases h with h|⟨p,rfl,h⟩
 ·cases h with
  |lst h r=>exact⟨_,_,rfl,ee e h,r⟩
 ·cases h with
  |lst h r=>exact⟨_,_,rfl,.inl h,r⟩
theorem View.tuple{ds:List D}(h:View B H v (.tuple ds))(e:aD B H):∃p xs,v=.ref p/\H p=some (.tup xs)/\aP B xs ds:=by
 rcases h with h|⟨p,rfl,h⟩
 ·cases h with
  |tup h r=>exact⟨_,_,rfl,e _ _ h,r⟩
 ·cases h
theorem View.dict{es:List (D×D)}(h:View B H v (.dict es))(e:aD B H):∃p kvs,v=.ref p/\Rd H p (.dK kvs)/\aZ B kvs es:=by
 rcases h with h|⟨p,rfl,h⟩
 ·cases h with
  |dct h r=>exact⟨_,_,rfl,ee e h,r⟩
 ·cases h with
  |dct h r=>exact⟨_,_,rfl,.inl h,r⟩
theorem View.int(h:View B H v (.int i)):v=.int i:=by
 rcases h with h|⟨p,rfl,h⟩
 ·cases h;rfl
 ·cases h
theorem View.bool(h:View B H v (.bool b)):v=.bl b:=by
 rcases h with h|⟨p,rfl,h⟩
 ·cases h;rfl
 ·cases h
theorem View.str(h:View B H v (.str x)):v=.str x:=by
 rcases h with h|⟨p,rfl,h⟩
 ·cases h;rfl
 ·cases h
theorem View.none(h:View B H v .none):v=.non:=by
 rcases h with h|⟨p,rfl,h⟩
 ·cases h;rfl
 ·cases h
section
variable{F:Fr}{B H B' H':Hp}{σ:St}{ρ ρ':Rho}{v:V}{r:RV}
theorem Rel.ownAt(R:Rel F B H σ ρ){i:Nat}(h : ρ[i]?=some s)(e:s.e9=true):∃p,σ[i]?=some (some (.ref p))/\B p=Option.none/\Own B H p (slD s):=by
 have:=R.slot i s h;cases s with
 |own d=>exact this
 |io d=>exact this
 |_=>cases e
theorem Val.view(R:Rel F B H σ ρ)(h:Val F B H σ ρ v r):View B H v r.1:=by
 obtain⟨d,k⟩:=r;cases k with
 |fz=>exact .inl h
 |new=>obtain⟨p,rfl,_,_,o,_⟩:=h;exact .inr ⟨p,rfl,o⟩
 | «at» i=>
  obtain⟨s,h1,h2,h3,h4⟩:=h;obtain⟨p,e1,e2,e3⟩:=R.ownAt h1 h2;rw[h4]at e1;cases e1;exact .inr ⟨p,rfl,h3▸e3⟩
 |ro=>obtain⟨p,rfl,o,_⟩:=h;exact .inr ⟨p,rfl,o⟩
theorem Rel.sN(R:Rel F B H σ ρ)(h:Val F B H σ ρ v (d,.new)):∃B',Rel F B' H σ ρ/\Rep B' v d/\aD B B'/\∀q,v≠.ref q->B' q=B q:=by
 obtain⟨p,rfl,hB,hF,o,nn⟩:=h;obtain⟨ob,hp⟩:=o.there;have e:aD B (upd B p ob):=eZ hB;have ne:∀(i:Nat) (s:Sl) (q:Addr),ρ[i]?=some s->s.isRef=true->σ[i]?=some (some (.ref q))->q≠p:=λi s q h1 h2 h3 z=>nn i s h1 h2 (z▸h3)
 refine⟨upd B p ob,⟨?_,R.sB.trans e,R.sH,?_,R.len,?_,R.dist,R.jD,R.fx,R.ioN,(λq xs h=>e _ _ (R.cO q xs h)),R.exv,R.nz⟩,?_,e,λq hq=>ao λz=>hq (z▸rfl)⟩
 ·intro q u hq
  by_cases z:q=p
  ·subst z;rw[ar]at hq;cases hq;exact hp
  ·rw[ao z]at hq;exact R.sub q u hq
 ·intro q h1 h2
  have z:q≠p:=λz=>h1 (z▸hF)
  rw[ao z];exact R.nB q h1 h2
 ·intro i s hs
  have q:=R.slot i s hs;cases s with
  |no=>trivial
  |ex=>trivial
  |fz d=>obtain⟨x,h1,h2⟩:=q;exact⟨x,h1,h2.mono e⟩
  |own d=>obtain⟨q,h1,h2,h3⟩:=q;exact⟨q,h1,by rw[ao (ne i _ q hs rfl h1)];exact h2,h3.mono e λ_ z=>z⟩
  |io d=>obtain⟨q,h1,h2,h3⟩:=q;exact⟨q,h1,by rw[ao (ne i _ q hs rfl h1)];exact h2,h3.mono e λ_ z=>z⟩
  |ro d=>obtain⟨q,h1,h3⟩:=q;exact⟨q,h1,h3.mono e λ_ z=>z⟩
 ·exact o.frozen e λu h=>by rw[ar,<-h,hp]
theorem get_set(h:(ρ.set i s)[j]?=some t):(j=i/\t=s/\i<ρ.length)\/(j≠i/\ρ[j]?=some t):=by
 by_cases z:j=i
 ·subst z
  have hl:j<ρ.length:=by
   have:=zac h;obtain⟨hh,_⟩:=this;simpa using hh
  rw[zav hl]at h;exact .inl ⟨rfl,(zaQ h).symm,hl⟩
 ·rw[zaA (λe=>z e.symm)]at h
  exact .inr ⟨z,h⟩
theorem ui(hs:s≠.ex)(h:(ρ.set i s)[j]?=some .ex) : ρ[j]?=some .ex/\j≠i:=by
 rcases get_set h with⟨_,z,_⟩|⟨hj,h⟩
 ·exact absurd z.symm hs
 ·exact⟨h,hj⟩
theorem Rel.CY(R:Rel F B H σ ρ)(hi : ρ[i]?=some (.own d))(hv : σ[i]?=some (some v)):∃B',Rel F B' H σ (ρ.set i (.fz d))/\Rep B' v d/\Ext σ ρ B H (ρ.set i (.fz d)) B' H:=by
 obtain⟨p,h1,hB,o⟩:=R.slot i _ hi;rw[hv]at h1;cases h1;have hF:=R.jD i d p hi hv;obtain⟨ob,hp⟩:=o.there;have e:aD B (upd B p ob):=eZ hB;have rp:Rep (upd B p ob) (.ref p) d:=o.frozen e λu h=>by rw[ar,<-h,hp]
 have ne:∀(j:Nat) (s:Sl) (q:Addr),j≠i->ρ[j]?=some s->s.isRef=true->σ[j]?=some (some (.ref q))->q≠p:=λj s q hj h1 h2 h3 z=>hj (R.dist i j _ s p hi rfl h1 h2 hv (z▸h3)).symm
 refine⟨upd B p ob,⟨?_,R.sB.trans e,R.sH,?_,by rw[zaM];exact R.len,?_,?_,?_,?_,?_,(λq xs h=>e _ _ (R.cO q xs h)),(λj h=>R.exv j (ui (by simp) h).1),R.nz⟩,rp,⟨e,?_,?_,?_,λ_ h=>h⟩⟩
 ·intro q u hq
  by_cases z:q=p
  ·subst z;rw[ar]at hq;cases hq;exact hp
  ·rw[ao z]at hq;exact R.sub q u hq
 ·intro q h1 h2
  have z:q≠p:=λz=>h1 (z▸hF)
  rw[ao z];exact R.nB q h1 h2
 ·intro j s hs
  rcases get_set hs with⟨rfl,rfl,_⟩|⟨hj,hs⟩
  ·exact⟨_,hv,rp⟩
  ·have q:=R.slot j s hs
   cases s with
   |no=>trivial
   |ex=>trivial
   |fz d=>obtain⟨x,h1,h2⟩:=q;exact⟨x,h1,h2.mono e⟩
   |own d=>obtain⟨q,h1,h2,h3⟩:=q;exact⟨q,h1,by rw[ao (ne j _ q hj hs rfl h1)];exact h2,h3.mono e λ_ z=>z⟩
   |io d=>obtain⟨q,h1,h2,h3⟩:=q;exact⟨q,h1,by rw[ao (ne j _ q hj hs rfl h1)];exact h2,h3.mono e λ_ z=>z⟩
   |ro d=>obtain⟨q,h1,h3⟩:=q;exact⟨q,h1,h3.mono e λ_ z=>z⟩
 ·intro a b s t q h1 h2 h3 h4 h5 h6
  rcases get_set h1 with⟨rfl,rfl,_⟩|⟨ha,h1⟩
  ·cases h2
  ·rcases get_set h3 with⟨rfl,rfl,_⟩|⟨hb,h3⟩
   ·cases h4
   ·exact R.dist a b s t q h1 h2 h3 h4 h5 h6
 ·intro j c q h1 h2
  rcases get_set h1 with⟨rfl,h,_⟩|⟨_,h1⟩
  ·cases h
  ·exact R.jD j c q h1 h2
 ·intro x hx
  obtain⟨h1,c,h2⟩:=R.fx x hx;refine⟨h1,c,?_⟩
  by_cases z:i=x.1
  ·subst z;rw[hi]at h2;cases h2
  ·rw[zaA z];exact h2
 ·intro j c h1
  rcases get_set h1 with⟨rfl,h,_⟩|⟨_,h1⟩
  ·cases h
  ·exact R.ioN j c h1
 ·intro q u hq hn
  refine⟨hq,λz=>?_⟩
  rw[ao (show q≠p from λy=>hn i _ hi rfl (by rw[y];exact hv))];exact z
 ·intro j s h1 h2
  rcases get_set h1 with⟨rfl,rfl,_⟩|⟨_,h1⟩
  ·cases h2
  ·exact⟨s,h1,h2⟩
 ·intro j s h1 h2
  rcases get_set h1 with⟨rfl,rfl,_⟩|⟨_,h1⟩
  ·cases h2
  ·exact⟨s,h1,h2⟩
theorem Rel.free(R:Rel F B H σ ρ)(hp:H p=none):B p=none/\F.H p=none/\∀(i:Nat) (s:Sl),ρ[i]?=some s->s.isRef=true->σ[i]?≠some (some (.ref p)):=by
 have hB:B p=none:=R.sub.free hp;have nn:∀(i:Nat) (s:Sl),ρ[i]?=some s->s.isRef=true->σ[i]?≠some (some (.ref p)):=λi s h1 h2 h3=>by
  have q:=R.slot i s h1;cases s with
  |own d=>obtain⟨q,e1,_,e3⟩:=q;rw[h3]at e1;cases e1;exact e3.g9 hp
  |io d=>obtain⟨q,e1,_,e3⟩:=q;rw[h3]at e1;cases e1;exact e3.g9 hp
  |ro d=>obtain⟨q,e1,e3⟩:=q;rw[h3]at e1;cases e1;exact e3.g9 hp
  |no=>cases h2
  |ex=>cases h2
  |fz d=>cases h2
 refine⟨hB,?_,nn⟩;cases q:F.H p with
 |none=>rfl
 |some u=>
  by_cases z:∃x∈F.io,x.2=p
  ·obtain⟨x,hx,rfl⟩:=z
   obtain⟨h1,d,h2⟩:=R.fx x hx;exact absurd h1 (nn _ _ h2 rfl)
  ·have:=R.sH p u q λx hx y=>z ⟨x,hx,y⟩
   rw[hp]at this;cases this
theorem Rel.grow(R:Rel F B H σ ρ)(eB:aD B B')(eH:aD H H')(sub:aD B' H')(nb:∀q,H q≠none->B q=none->B' q=none)(tB:∀q xs,H' q=some (.tup xs)->B' q=some (.tup xs))(nf:∀q o u,H' q=some (.frz o u)->H q≠none):Rel F B' H' σ ρ:=by
 have lv:∀q,F.H q≠none->H q≠none:=λq h z=>h (R.free z).2.1
 refine⟨sub,R.sB.trans eB,λq u h1 h2=>eH _ _ (R.sH q u h1 h2),λq h1 h2=>nb q (lv q h1) (R.nB q h1 h2),R.len,λi s hs=>?_,R.dist,R.jD,R.fx,R.ioN,tB,R.exv,λq o u h=>by
  cases y:H q with
  |none=>exact absurd y (nf q o u h)
  |some x=>
   have:=eH q x y;rw[h]at this;cases this;exact R.nz q o u y⟩
 have q:=R.slot i s hs;cases s with
 |no=>trivial
 |ex=>trivial
 |fz d=>obtain⟨x,h1,h2⟩:=q;exact⟨x,h1,h2.mono eB⟩
 |own d=>obtain⟨q,h1,h2,h3⟩:=q;exact⟨q,h1,nb q h3.g9 h2,h3.mono eB λ_ z=>eH _ _ z⟩
 |io d=>obtain⟨q,h1,h2,h3⟩:=q;exact⟨q,h1,nb q h3.g9 h2,h3.mono eB λ_ z=>eH _ _ z⟩
 |ro d=>obtain⟨q,h1,h3⟩:=q;exact⟨q,h1,h3.mono eB λ_ z=>eH _ _ z⟩
theorem Ext.grow(eB:aD B B')(eH:aD H H')(nb:∀q,H q≠none->B q=none->B' q=none):Ext σ ρ B H ρ B' H' :=
 ⟨eB,λq u h _=>⟨eH _ _ h,λz=>nb q (by rw[h];simp) z⟩,λ_ s h z=>⟨s,h,z⟩,λ_ s h z=>⟨s,h,z⟩,λq h=>eH.free h⟩
theorem Rel.lay(R:Rel F B H σ ρ)(hp:H p=none)(no:(∀xs,o≠.tup xs)/\∀a u,o≠.frz a u):Rel F B (upd H p o) σ ρ/\Ext σ ρ B H ρ B (upd H p o):=by
 have e:aD H (upd H p o):=eZ hp;refine⟨R.grow (aD.refl _) e (R.sub.trans e) (λ_ _ z=>z) (λq xs h=>?_) (λq a u h y=>?_),Ext.grow (aD.refl _) e λ_ _ z=>z⟩
 ·by_cases z:q=p
  ·subst z;rw[ar]at h;cases h;exact absurd rfl (no.1 xs)
  ·rw[ao z]at h;exact R.cO q xs h
 ·by_cases z:q=p
  ·subst z;rw[ar]at h;cases h;exact no.2 _ _ rfl
  ·rw[ao z,y]at h;cases h
theorem Rel.oz(R:Rel F B H σ ρ)(hp:H p=none):Rel F (upd B p (.tup xs)) (upd H p (.tup xs)) σ ρ/\Ext σ ρ B H ρ (upd B p (.tup xs)) (upd H p (.tup xs))/\aD B (upd B p (.tup xs)):=by
 have hB:=(R.free hp).1;have eH:aD H (upd H p (.tup xs)):=eZ hp;have eB:aD B (upd B p (.tup xs)):=eZ hB;have nb:∀q,H q≠none->B q=none->upd B p (.tup xs) q=none:=λq h z=>by rw[ao (show q≠p from λy=>h (by rw[y];exact hp))];exact z
 refine⟨R.grow eB eH (λq u h=>?_) nb (λq ys h=>?_) (λq a u h y=>?_),Ext.grow eB eH nb,eB⟩
 ·by_cases z:q=p
  ·subst z;rw[ar]at h⊢;exact h
  ·rw[ao z]at h⊢;exact R.sub q u h
 ·by_cases z:q=p
  ·subst z;rw[ar]at h⊢;exact h
  ·rw[ao z]at h⊢;exact R.cO q ys h
 ·by_cases z:q=p
  ·subst z;rw[ar]at h;cases h
  ·rw[ao z,y]at h;cases h
end
end Mir
namespace Mir
open PySem L2
variable [Zc]
abbrev PM:=Rho->Option (RV×Rho)
def ME(t:TE)(m:PM):Prop :=
 ∀(F:Fr) (B H:Hp) (σ:St) (ρ:Rho) (r:RV) (ρ':Rho) (Q:VK),Rel F B H σ ρ->m ρ=some (r,ρ')->
  (∀v B' H',Ext σ ρ B H ρ' B' H'->Rel F B' H' σ ρ'->Val F B' H' σ ρ' v r->(∀p,r.2=.new->v=.ref p->H p=none)->Q v H')->t σ H Q
def MT(t:TT)(m:Rho->Option (Bool×Rho)):Prop :=
 ∀(F:Fr) (B H:Hp) (σ:St) (ρ:Rho) (b:Bool) (ρ':Rho) (Q:Bool->Hp->Prop),Rel F B H σ ρ->m ρ=some (b,ρ')->
  (∀B' H',Ext σ ρ B H ρ' B' H'->Rel F B' H' σ ρ'->Q b H')->t σ H Q
def Vl(F:Fr)(B H:Hp)(σ:St)(ρ:Rho):List V->List RV->Prop
 | [],[]=>True
 |v::vs,r::rs=>(Val F B H σ ρ v r/\r.2≠.new)/\Vl F B H σ ρ vs rs
 |_,_=>False
def MA(t:TA)(m:Rho->Option (List RV×Rho)):Prop :=
 ∀(F:Fr) (B H:Hp) (σ:St) (ρ:Rho) (rs:List RV) (ρ':Rho) (Q:List V->Hp->Prop),Rel F B H σ ρ->m ρ=some (rs,ρ')->
  (∀vs B' H',Ext σ ρ B H ρ' B' H'->Rel F B' H' σ ρ'->Vl F B' H' σ ρ' vs rs->Q vs H')->t σ H Q
def sv(m:PM):PM:=fun ρ=>match m ρ with
 |some ((d,.new),ρ')=>some ((d,.fz),ρ')
 |x=>x
theorem jX(h:sv m ρ=some (r,ρ')):r.2≠.new:=by
 unfold sv at h;split at h
 ·cases h;simp
 ·rename_i hx
  intro e;obtain⟨d,k⟩:=r;cases(show k=.new from e);exact hx d ρ' h
theorem ME.sv(h:ME t m):ME t (sv m):=by
 intro F B H σ ρ r ρ' Q R e q;unfold Mir.sv at e;split at e
 ·rename_i d ρ1 e1
  cases e;refine h F B H σ ρ _ _ Q R e1 λv B' H' E R' V' N=>?_
  obtain⟨B2,R2,rp,s2,k2⟩:=R'.sN V';refine q v B2 H' ⟨E.sB.trans s2,λq o h1 h2=>?_,E.own,E.ref,E.live⟩ R2 rp (λ_ z=>by cases z)
  obtain⟨h3,h4⟩:=E.keep q o h1 h2;refine⟨h3,λz=>?_⟩
  rw[k2 q λy=>by
   have:=N q rfl y;rw[h1]at this;cases this]
  exact h4 z
 ·exact h F B H σ ρ r ρ' Q R e q
def mh(ρ:Rho)(r:RV):Option RV:=match r.2 with
 | .at i=>match ρ[i]? with
  |some (.own d)=>some (d,.at i)
  |some (.io d)=>some (d,.at i)
  |some (.fz d)=>some (d,.fz)
  |_=>none
 |_=>some r
section
variable{F:Fr}{B H B' H':Hp}{σ:St}{ρ ρ':Rho}{v:V}{r r':RV}
theorem Val.next(E:Ext σ ρ B H ρ' B' H')(R':Rel F B' H' σ ρ')(h:Val F B H σ ρ v r)(nn:r.2≠.new)(e:mh ρ' r=some r'):Val F B' H' σ ρ' v r'/\r'.2≠.new:=by
 obtain⟨d,k⟩:=r;cases k with
 |fz=>cases e;exact⟨Rep.mono E.sB h,nn⟩
 |new=>exact absurd rfl nn
 | «at» i=>
  obtain⟨s,h1,h2,h3,h4⟩:=h;have e':(match ρ'[i]? with
   |some (.own d)=>some (d,Kd.at i)
   |some (.io d)=>some (d,Kd.at i)
   |some (.fz d)=>some (d,Kd.fz)
   |_=>none)=some r':=e
  cases q : ρ'[i]? with
  |none=>rw[q]at e';cases e'
  |some s'=>
   rw[q]at e';cases s' with
   |own c=>cases e';exact⟨⟨_,q,rfl,rfl,h4⟩,by simp⟩
   |io c=>cases e';exact⟨⟨_,q,rfl,rfl,h4⟩,by simp⟩
   |fz c=>
    cases e';obtain⟨x,y1,y2⟩:=R'.slot i _ q;rw[h4]at y1;cases y1
    exact⟨y2,by simp⟩
   |no=>cases e'
   |ex=>cases e'
   |ro c=>cases e'
 |ro=>
  cases e;obtain⟨p,rfl,o,n⟩:=h;obtain⟨ob,hp⟩:=o.there;refine⟨⟨p,rfl,o.mono E.sB λu hu=>(E.keep p u hu n).1,λi s h1 h2=>?_⟩,nn⟩
  obtain⟨s0,h3,h4⟩:=E.own i s h1 h2;exact n i s0 h3 h4
end
def mW(B H:Hp)(res:D×Bool)(k:VK->Prop):Prop:=match res with
 |(d,false)=>∃v,Rep B v d/\∀Q:VK,Q v H->k Q
 |(.list ds,true)=>∃vs,aP B vs ds/\∀Q:VK,(∀p,H p=none->Q (.ref p) (upd H p (.lst vs)))->k Q
 |(.tuple ds,true)=>∃vs,aP B vs ds/\∀Q:VK,(∀p,H p=none->Q (.ref p) (upd H p (.tup vs)))->k Q
 |(.dict es,true)=>∃kvs,aZ B kvs es/\∀Q:VK,(∀p,H p=none->Q (.ref p) (upd H p (.dK kvs)))->k Q
 |_=>False
def jY:D×Bool->RV
 |(d,false)=>(d,.fz)
 |(.tuple ds,true)=>(.tuple ds,.fz)
 |(d,true)=>(d,.new)
theorem hI(R:Rel F B H σ ρ)(h:mW B H res k)
  (q:∀v B' H',Ext σ ρ B H ρ B' H'->Rel F B' H' σ ρ->Val F B' H' σ ρ v (jY res)->(∀p,(jY res).2=.new->v=.ref p->H p=none)->Q v H'):k Q:=by
 obtain⟨d,b⟩:=res;cases b with
 |false=>
  obtain⟨v,rp,hk⟩:=h;exact hk Q (q v B H (Ext.refl _ _ _ _) R rp λp z=>by cases z)
 |true=>
  cases d with
  |list ds=>
   obtain⟨vs,rp,hk⟩:=h;refine hk Q λp hp=>?_
   obtain⟨R',E⟩:=R.lay (o:=.lst vs) hp ⟨(λ_ z=>by cases z),λ_ _ z=>by cases z⟩
   obtain⟨hB,hF,nn⟩:=R.free hp;exact q _ B _ E R' ⟨p,rfl,hB,hF,.lst ar rp,nn⟩ λq _ z=>by cases z;exact hp
  |dict es=>
   obtain⟨kvs,rp,hk⟩:=h;refine hk Q λp hp=>?_
   obtain⟨R',E⟩:=R.lay (o:=.dK kvs) hp ⟨(λ_ z=>by cases z),λ_ _ z=>by cases z⟩
   obtain⟨hB,hF,nn⟩:=R.free hp;exact q _ B _ E R' ⟨p,rfl,hB,hF,.dct ar rp,nn⟩ λq _ z=>by cases z;exact hp
  |tuple ds=>
   obtain⟨vs,rp,hk⟩:=h;refine hk Q λp hp=>?_
   obtain⟨R',E,e⟩:=R.oz (xs:=vs) hp;exact q _ _ _ E R' (show Rep _ _ _ from .tup ar (rp.mono e)) λq z=>by cases z
  |none=>exact h.elim
  |bool _=>exact h.elim
  |int _=>exact h.elim
  |str _=>exact h.elim
def mC(d:D):PM:=fun ρ=>some ((d,.fz),ρ)
theorem Fq(h:∀B,Rep B v d):ME (tC v) (mC d):=by
 intro F B H σ ρ r ρ' Q R e q;cases e;exact q v B H (Ext.refl _ _ _ _) R (h B) λp z=>by cases z
theorem ay:ME (tC (.int i)) (mC (.int i)):=Fq λ_=>.int i
theorem c7:ME (tC (.bl b)) (mC (.bool b)):=Fq λ_=>.bl b
theorem mi:ME (tC .non) (mC .none):=Fq λ_=>.non
theorem gd:ME (tC (.str x)) (mC (.str x)):=Fq λ_=>.str x
def aj(i:Nat):PM:=fun ρ=>match ρ[i]? with
 |some (.fz d)=>some ((d,.fz),ρ)
 |some (.own d)=>some ((d,.at i),ρ)
 |some (.io d)=>some ((d,.at i),ρ)
 |some (.ro d)=>some ((d,.ro),ρ)
 |_=>none
theorem ah:ME (kI i) (aj i):=by
 intro F B H σ ρ r ρ' Q R e q;unfold aj at e;cases hs : ρ[i]? with
 |none=>rw[hs]at e;cases e
 |some s=>
  rw[hs]at e;have sl:=R.slot i s hs;cases s with
  |no=>cases e
  |ex=>cases e
  |fz d=>
   cases e;obtain⟨v,h1,h2⟩:=sl;exact⟨v,h1,q v B H (Ext.refl _ _ _ _) R h2 λp z=>by cases z⟩
  |own d=>
   cases e;obtain⟨p,h1,h2,h3⟩:=sl;exact⟨_,h1,q _ B H (Ext.refl _ _ _ _) R ⟨_,hs,rfl,rfl,h1⟩ λp z=>by cases z⟩
  |io d=>
   cases e;obtain⟨p,h1,h2,h3⟩:=sl;exact⟨_,h1,q _ B H (Ext.refl _ _ _ _) R ⟨_,hs,rfl,rfl,h1⟩ λp z=>by cases z⟩
  |ro d=>
   cases e;obtain⟨p,h1,h3⟩:=sl;refine⟨_,h1,q _ B H (Ext.refl _ _ _ _) R ⟨p,rfl,h3,λj s h4 h5 h6=>?_⟩ λp z=>by cases z⟩
   have:=R.dist j i s _ p h4 h5 hs rfl h6 h1;subst this;rw[hs]at h4;cases h4;cases h5
def OpJ(r:R2)(g:D->D->Option (D×Bool)):Prop :=
 ∀(B H:Hp) (x y:V) (c d:D) (res:D×Bool),aD B H->View B H x c->View B H y d->g c d=some res->mW B H res λQ=>r x y H Q
def mOp(g:D->D->Option (D×Bool))(a b:PM):PM:=fun ρ=>(sv a ρ).bind λx=>(sv b x.2).bind λy=>(mh y.2 x.1).bind λr=>(g r.1 y.1.1).map λres=>(jY res,y.2)
theorem ax(J:OpJ r g)(ha:ME ta a)(hb:ME tb b):ME (tOp r ta tb) (mOp g a b):=by
 intro F B H σ ρ r0 ρ' Q R e q;obtain⟨x,e1,e⟩:=zaa e;obtain⟨y,e2,e⟩:=zaa e;obtain⟨r',e3,e⟩:=zaa e;obtain⟨res,e4,e⟩:=zab e;cases e;refine ha.sv F B H σ ρ x.1 x.2 _ R e1 λv B1 H1 E1 R1 V1 N1=>?_
 refine hb.sv F B1 H1 σ x.2 y.1 y.2 _ R1 e2 λu B2 H2 E2 R2 V2 N2=>?_
 obtain⟨V3,n3⟩:=V1.next E2 R2 (jX e1) e3;refine hI R2 (J B2 H2 v u r'.1 y.1.1 res R2.sub (V3.view R2) (V2.view R2) e4) λw B3 H3 E3 R3 V4 N4=>?_
 refine q w B3 H3 (E1.trans (E2.trans E3)) R3 V4 λp z1 z2=>?_
 exact E1.live p (E2.live p (N4 p z1 z2))
end Mir
namespace Mir
open PySem L2
variable [Zc]
theorem Ext.fresh(E:Ext σ ρ B H ρ' B' H')(h:H' p=none):H p=none:=E.live p h
def mUn(g:D->Option (D×Bool))(a:PM):PM:=fun ρ=>(sv a ρ).bind λx=>(g x.1.1).map λres=>(jY res,x.2)
def asB:RV×Rho->Option (Bool×Rho)
 |((.bool b,_),ρ)=>some (b,ρ)
 |_=>none
theorem Jj(h:asB x=some (b,ρ)):x.1.1=.bool b/\x.2=ρ:=by
 obtain⟨⟨d,k⟩,ρ0⟩:=x;cases d with
 |bool c=>cases h;exact⟨rfl,rfl⟩
 |_=>cases h
def aL(a:PM):Rho->Option (Bool×Rho):=fun ρ=>(sv a ρ).bind asB
theorem a0(ha:ME ta a):MT (Cv ta) (aL a):=by
 intro F B H σ ρ b ρ' Q R e q;obtain⟨x,e1,e⟩:=zaa e;obtain⟨h1,h2⟩:=Jj e;refine ha.sv F B H σ ρ x.1 x.2 _ R e1 λv B1 H1 E1 R1 V1 N1=>?_
 have:=V1.view R1;rw[h1]at this;rw[h2]at E1 R1;exact⟨b,this.bool,q B1 H1 E1 R1⟩
theorem fI(ha:ME ta a):MT (tB ta) (aL a):=a0 ha
def mj(a b:Rho->Option (Bool×Rho)):Rho->Option (Bool×Rho):=fun ρ=>(a ρ).bind λx=>if x.1=true then b x.2 else some (false,x.2)
def mOr(a b:Rho->Option (Bool×Rho)):Rho->Option (Bool×Rho):=fun ρ=>(a ρ).bind λx=>if x.1=true then some (true,x.2)else b x.2
def fJ(a:Rho->Option (Bool×Rho)):Rho->Option (Bool×Rho):=fun ρ=>(a ρ).map λx=>(!x.1,x.2)
section
variable{ta tb:TT}{a b:Rho->Option (Bool×Rho)}
theorem uj(ha:MT ta a)(hb:MT tb b):MT (KC ta tb) (mj a b):=by
 intro F B H σ ρ c ρ' Q R e q;obtain⟨x,e1,e⟩:=zaa e;refine ha F B H σ ρ x.1 x.2 _ R e1 λB1 H1 E1 R1=>?_
 by_cases h:x.1=true
 ·rw[if_pos h]at e⊢
  exact hb F B1 H1 σ x.2 c ρ' Q R1 e λB2 H2 E2 R2=>q B2 H2 (E1.trans E2) R2
 ·rw[if_neg h]at e⊢
  cases e;exact q B1 H1 E1 R1
theorem jE(ha:MT ta a)(hb:MT tb b):MT (tOr ta tb) (mOr a b):=by
 intro F B H σ ρ c ρ' Q R e q;obtain⟨x,e1,e⟩:=zaa e;refine ha F B H σ ρ x.1 x.2 _ R e1 λB1 H1 E1 R1=>?_
 by_cases h:x.1=true
 ·rw[if_pos h]at e⊢
  cases e;exact q B1 H1 E1 R1
 ·rw[if_neg h]at e⊢
  exact hb F B1 H1 σ x.2 c ρ' Q R1 e λB2 H2 E2 R2=>q B2 H2 (E1.trans E2) R2
theorem fq(ha:MT ta a):MT (IC ta) (fJ a):=by
 intro F B H σ ρ c ρ' Q R e q;obtain⟨x,e1,e⟩:=zab e;cases e;exact ha F B H σ ρ x.1 x.2 _ R e1 λB1 H1 E1 R1=>q B1 H1 E1 R1
end
section
variable{ta tb:TE}{a b:PM}
def sO(a b:PM):PM:=fun ρ=>(aL a ρ).bind λx=>if x.1=true then b x.2 else some ((.bool false,.fz),x.2)
def Mh(a b:PM):PM:=fun ρ=>(aL a ρ).bind λx=>if x.1=true then some ((.bool true,.fz),x.2)else b x.2
def KW(a:PM):PM:=fun ρ=>(aL a ρ).map λx=>((.bool !x.1,.fz),x.2)
theorem zw(ha:ME ta a)(hb:ME tb b):ME (Hl ta tb) (sO a b):=by
 intro F B H σ ρ c ρ' Q R e q;obtain⟨x,e1,e⟩:=zaa e;refine a0 ha F B H σ ρ x.1 x.2 (λc H1=>if c=true then tb σ H1 Q else Q (.bl false) H1) R e1 λB1 H1 E1 R1=>?_
 by_cases h:x.1=true
 ·rw[if_pos h]at e⊢
  exact hb F B1 H1 σ x.2 c ρ' Q R1 e λv B2 H2 E2 R2 V2 N2=>q v B2 H2 (E1.trans E2) R2 V2 λp z1 z2=>E1.live p (N2 p z1 z2)
 ·rw[if_neg h]at e⊢
  cases e;exact q _ B1 H1 E1 R1 (.bl false) λp z=>by cases z
def Mi(c:Rho->Option (Bool×Rho))(a b:PM):PM:=fun ρ=>(c ρ).bind λx=>if x.1=true then a x.2 else b x.2
def um(g g':D->D->Option (D×Bool))(a b c:PM):PM:=fun ρ=>(sv a ρ).bind λx=>(sv b x.2).bind λy=>(mh y.2 x.1).bind λr=>(g r.1 y.1.1).bind λres=>match res with
 |(.bool true,false)=>(sv c y.2).bind λz=>(mh z.2 y.1).bind λs=>(g' s.1 z.1.1).map λres=>(jY res,z.2)
 |(.bool false,false)=>some ((.bool false,.fz),y.2)
 |_=>none
end
def aG:Rho->Option (List RV×Rho):=fun ρ=>some ([],ρ)
def ai(a:PM)(m:Rho->Option (List RV×Rho)):Rho->Option (List RV×Rho):=fun ρ=>(sv a ρ).bind λx=>(m x.2).bind λy=>(mh y.2 x.1).map λr=>(r::y.1,y.2)
theorem aA:MA pF aG:=by
 intro F B H σ ρ rs ρ' Q R e q;cases e;exact q [] B H (Ext.refl _ _ _ _) R trivial
theorem af(ha:ME ta a)(hr:MA tr m):MA (fB ta tr) (ai a m):=by
 intro F B H σ ρ rs ρ' Q R e q;obtain⟨x,e1,e⟩:=zaa e;obtain⟨y,e2,e⟩:=zaa e;obtain⟨r,e3,e⟩:=zab e;cases e;refine ha.sv F B H σ ρ x.1 x.2 _ R e1 λv B1 H1 E1 R1 V1 N1=>?_
 refine hr F B1 H1 σ x.2 y.1 y.2 _ R1 e2 λvs B2 H2 E2 R2 V2=>?_
 exact q (v::vs) B2 H2 (E1.trans E2) R2 ⟨V1.next E2 R2 (jX e1) e3,V2⟩
def CZ(B:Hp)(σ:St)(v:V)(r:RV):Prop:=match r.2 with
 | .fz=>Rep B v r.1
 | .at i=>σ[i]?=some (some v)
 |_=>True
def WVl(B:Hp)(σ:St):List V->List RV->Prop
 | [],[]=>True
 |v::vs,r::rs=>CZ B σ v r/\WVl B σ vs rs
 |_,_=>False
theorem Vl.weak:∀{vs:List V} {rs:List RV},Vl F B H σ ρ vs rs->WVl B σ vs rs
 | [],[],_=>trivial
 |v::vs,r::rs,⟨⟨h,n⟩,t⟩=>by
  refine⟨?_,Vl.weak t⟩;obtain⟨d,k⟩:=r;cases k with
  |fz=>exact h
  | «at» i=>obtain⟨_,_,_,_,e⟩:=h;exact e
  |new=>trivial
  |ro=>trivial
theorem WVl.mono(e:aD B B'):∀{vs:List V} {rs:List RV},WVl B σ vs rs->WVl B' σ vs rs
 | [],[],_=>trivial
 |v::vs,r::rs,⟨h,t⟩=>by
  refine⟨?_,WVl.mono e t⟩;obtain⟨d,k⟩:=r;cases k with
  |fz=>exact Rep.mono e h
  | «at» i=>exact h
  |new=>trivial
  |ro=>trivial
def kP(r:RV)(ρ:Rho):Option (D×Rho):=match r.2 with
 | .fz=>some (r.1,ρ)
 | .at i=>match ρ[i]? with
  |some (.own d)=>some (d,ρ.set i (.fz d))
  |some (.fz d)=>some (d,ρ)
  |_=>none
 |_=>none
def gZ:List RV->Rho->Option (List D×Rho)
 | [],ρ=>some ([],ρ)
 |r::rs,ρ=>(kP r ρ).bind λx=>(gZ rs x.2).map λy=>(x.1::y.1,y.2)
section
variable{F:Fr}{B H:Hp}{σ:St}{ρ ρ':Rho}
theorem Rel.frz(R:Rel F B H σ ρ)(w:CZ B σ v r)(e:kP r ρ=some (d,ρ')):∃B',Rel F B' H σ ρ'/\Rep B' v d/\Ext σ ρ B H ρ' B' H:=by
 obtain⟨c,k⟩:=r;cases k with
 |fz=>cases e;exact⟨B,R,w,Ext.refl _ _ _ _⟩
 |new=>cases e
 |ro=>cases e
 | «at» i=>
  have e':(match ρ[i]? with
   |some (.own d)=>some (d,ρ.set i (.fz d))
   |some (.fz d)=>some (d,ρ)
   |_=>none)=some (d,ρ'):=e
  cases q : ρ[i]? with
  |none=>rw[q]at e';cases e'
  |some s=>
   rw[q]at e';cases s with
   |own c=>cases e';exact R.CY q w
   |fz c=>
    cases e';obtain⟨x,h1,h2⟩:=R.slot i _ q;have w' : σ[i]?=some (some v):=w;rw[w']at h1;cases h1
    exact⟨B,R,h2,Ext.refl _ _ _ _⟩
   |no=>cases e'
   |ex=>cases e'
   |io c=>cases e'
   |ro c=>cases e'
theorem Rel.vZ:∀{rs:List RV} {vs:List V} {ds:List D} {B:Hp} {ρ ρ':Rho},Rel F B H σ ρ->WVl B σ vs rs->gZ rs ρ=some (ds,ρ')->∃B',Rel F B' H σ ρ'/\aP B' vs ds/\Ext σ ρ B H ρ' B' H
 | [],[],ds,B,ρ,ρ',R,_,e=>by cases e;exact⟨B,R,.nil,Ext.refl _ _ _ _⟩
 |r::rs,v::vs,ds,B,ρ,ρ',R,⟨w,ws⟩,e=>by
  obtain⟨x,e1,e⟩:=zaa e;obtain⟨y,e2,e⟩:=zab e;cases e;obtain⟨B1,R1,rp,E1⟩:=R.frz w e1;obtain⟨B2,R2,rps,E2⟩:=Rel.vZ R1 (ws.mono E1.sB) e2;exact⟨B2,R2,.cons (rp.mono E2.sB) rps,E1.trans E2⟩
 | [],_::_,_,_,_,_,_,h,_=>h.elim
 |_::_,[],_,_,_,_,_,h,_=>h.elim
end
def gz(m:Rho->Option (List RV×Rho)):PM:=fun ρ=>(m ρ).bind λx=>(gZ x.1 x.2).bind λy=>cIf (y.1.length<=sizeLine) (some ((.tuple y.1,.fz),y.2)) none
def eN(m:Rho->Option (List RV×Rho)):PM:=fun ρ=>(m ρ).bind λx=>(gZ x.1 x.2).bind λy=>cIf (y.1.length<=sizeLine) (some ((.list y.1,.new),y.2)) none
theorem d3(h:MA t m):ME (Cz t) (gz m):=by
 intro F B H σ ρ r ρ' Q R e q;obtain⟨x,e1,e⟩:=zaa e;obtain⟨y,e2,e⟩:=zaa e;obtain⟨hz,e⟩:=cW e
 ·cases e
  refine h F B H σ ρ x.1 x.2 _ R e1 λvs B1 H1 E1 R1 V1=>?_
  obtain⟨B2,R2,rp,E2⟩:=Rel.vZ R1 V1.weak e2;refine⟨by rw[rp.length];exact hz,λp hp=>?_⟩
  have:=hI (res:=(.tuple y.1,true)) (k:=λQ=>∀p,H1 p=none->Q (.ref p) (upd H1 p (.tup vs))) (Q:=Q) R2 ⟨vs,rp,λQ h=>h⟩ λv B' H' E R' V' N=>q v B' H' (E1.trans (E2.trans E)) R' V' λp z=>by cases z
  exact this p hp
theorem d4(h:MA t m):ME (E8 t) (eN m):=by
 intro F B H σ ρ r ρ' Q R e q;obtain⟨x,e1,e⟩:=zaa e;obtain⟨y,e2,e⟩:=zaa e;obtain⟨hz,e⟩:=cW e
 ·cases e
  refine h F B H σ ρ x.1 x.2 _ R e1 λvs B1 H1 E1 R1 V1=>?_
  obtain⟨B2,R2,rp,E2⟩:=Rel.vZ R1 V1.weak e2;refine⟨by rw[rp.length];exact hz,λp hp=>?_⟩
  have:=hI (res:=(.list y.1,true)) (k:=λQ=>∀p,H1 p=none->Q (.ref p) (upd H1 p (.lst vs))) (Q:=Q) R2 ⟨vs,rp,λQ h=>h⟩ λv B' H' E R' V' N=>q v B' H' (E1.trans (E2.trans E)) R' V' λp z1 z2=>E1.live p (N p z1 z2)
  exact this p hp
def Views(B H:Hp):List V->List D->Prop
 | [],[]=>True
 |v::vs,d::ds=>View B H v d/\Views B H vs ds
 |_,_=>False
theorem Vl.views(R:Rel F B H σ ρ):∀{vs:List V} {rs:List RV},Vl F B H σ ρ vs rs->Views B H vs (rs.map (·.1))
 | [],[],_=>trivial
 |v::vs,r::rs,⟨⟨h,n⟩,t⟩=>⟨h.view R,Vl.views R t⟩
def mX(r:List V->Hp->VK->Prop)(g:List D->Option (D×Bool)):Prop:=∀(B H:Hp) (vs:List V) (ds:List D) (res:D×Bool),aD B H->Views B H vs ds->g ds=some res->mW B H res λQ=>r vs H Q
def mCB(g:List D->Option (D×Bool))(m:Rho->Option (List RV×Rho)):PM:=fun ρ=>(m ρ).bind λx=>(g (x.1.map (·.1))).map λres=>(jY res,x.2)
theorem cH(J:mX r g)(h:MA t m):ME (tCB r t) (mCB g m):=by
 intro F B H σ ρ r0 ρ' Q R e q;obtain⟨x,e1,e⟩:=zaa e;obtain⟨res,e4,e⟩:=zab e;cases e;refine h F B H σ ρ x.1 x.2 _ R e1 λvs B1 H1 E1 R1 V1=>?_
 exact hI R1 (J B1 H1 vs _ res R1.sub (V1.views R1) e4) λw B3 H3 E3 R3 V4 N4=>q w B3 H3 (E1.trans E3) R3 V4 λp z1 z2=>E1.live p (N4 p z1 z2)
def asI:RV×Rho->Option (Int×Rho)
 |((.int i,_),ρ)=>some (i,ρ)
 |_=>none
theorem Jk(h:asI x=some (b,ρ)):x.1.1=.int b/\x.2=ρ:=by
 obtain⟨⟨d,k⟩,ρ0⟩:=x;cases d with
 |int c=>cases h;exact⟨rfl,rfl⟩
 |_=>cases h
def fK(a:PM):Rho->Option (Option Int×Rho):=fun ρ=>((sv a ρ).bind asI).map λx=>(some x.1,x.2)
def MO(t:TO)(m:Rho->Option (Option Int×Rho)):Prop :=
 ∀(F:Fr) (B H:Hp) (σ:St) (ρ:Rho) (b:Option Int) (ρ':Rho) (Q:Option Int->Hp->Prop),Rel F B H σ ρ->m ρ=some (b,ρ')->
  (∀B' H',Ext σ ρ B H ρ' B' H'->Rel F B' H' σ ρ'->Q b H')->t σ H Q
theorem lI(ha:ME ta a):MO (Hn ta) (fK a):=by
 intro F B H σ ρ b ρ' Q R e q;obtain⟨y,e1,e⟩:=zab e;obtain⟨x,e2,e3⟩:=zaa e1;cases e;obtain⟨h1,h2⟩:=Jk (b:=y.1) (ρ:=y.2) e3;refine ha.sv F B H σ ρ x.1 x.2 _ R e2 λv B1 H1 E1 R1 V1 N1=>?_
 have:=V1.view R1;rw[h1]at this;rw[h2]at E1 R1;exact⟨y.1,this.int,q B1 H1 E1 R1⟩
end Mir
namespace Mir
open PySem L2
variable [Zc]
mutual
def fb:D->Bool
 | .none=>true
 | .bool _=>true
 | .int _=>true
 | .str _=>true
 | .list _=>false
 | .tuple ds=>bV ds
 | .dict _=>false
def bV:List D->Bool
 | []=>true
 |d::ds=>fb d&&bV ds
end
mutual
theorem Rep.de(k:∀q xs,B q=some (.tup xs)->B' q=some (.tup xs)):∀{v:V} {d:D},Rep B v d->fb d=true->Rep B' v d
 |_,_,.non,_=>.non
 |_,_,.bl b,_=>.bl b
 |_,_,.int i,_=>.int i
 |_,_,.str x,_=>.str x
 |_,_,.lst _ _,h=>by simp[fb]at h
 |_,_,.dct _ _,h=>by simp[fb]at h
 |_,_,.tup h r,e=>.tup (k _ _ h) (aP.de k r (by simpa[fb]using e))
theorem aP.de(k:∀q xs,B q=some (.tup xs)->B' q=some (.tup xs)):∀{v:List V} {d:List D},aP B v d->bV d=true->aP B' v d
 |_,_,.nil,_=>.nil
 |_,_,.cons a b,e=>by
  simp only[bV,Bool.and_eq_true]at e;exact .cons (Rep.de k a e.1) (aP.de k b e.2)
end
theorem aZ.de(k:∀q xs,B q=some (.tup xs)->B' q=some (.tup xs)):∀{v:List (Key×V)} {d:List (D×D)},aZ B v d->bV (d.map (·.2))=true->aZ B' v d
 |_,_,.nil,_=>.nil
 |_,_,.cons c a b,e=>by
  simp only[List.map_cons,bV,Bool.and_eq_true]at e;exact .cons c (Rep.de k a e.1) (aZ.de k b e.2)
def dW(d:D)(o:Bool):Bool:=match o,d with
 |true,.list ds=>bV ds
 |true,.dict es=>bV (es.map (·.2))
 |true,_=>false
 |false,d=>fb d
structure Post(B H:Hp)(v:V)(B' H':Hp)(d:D)(o:Bool):Prop where
 eH:aD H H'
 eB:aD B B'
 sub:aD B' H'
 nb:∀q,H q≠none->B q=none->B' q=none
 tB:∀q xs,H' q=some (.tup xs)->B' q=some (.tup xs)
 nz:∀q o u,H' q=some (.frz o u)->H q≠none
 val:if o=true then∃p,v=.ref p/\H p=none/\B' p=none/\Own B' H' p d else Rep B' v d
def spM(f:List D->Option (D×Bool)):Sp:=λvs H Q _=>∃B ds d o,aD B H/\(∀q xs,H q=some (.tup xs)->B q=some (.tup xs))/\aP B vs ds/\f ds=some (d,o)/\∀v B' H',Post B H v B' H' d o->Q v H'
def kO(d:D)(o:Bool):RV:=(d,if o=true then .new else .fz)
def bg(f:List D->Option (D×Bool))(m:Rho->Option (List RV×Rho)):PM:=fun ρ=>(m ρ).bind λx=>(f (x.1.map (·.1))).bind λw=>
 if dW w.1 w.2=true then some (kO w.1 w.2,x.2)else(gZ x.1 x.2).map λy=>(kO w.1 w.2,y.2)
theorem Views.reps(e:aD B H):∀{vs:List V} {ds:List D},Views B H vs ds->aP H vs ds
 | [],[],_=>.nil
 |v::vs,d::ds,⟨h,t⟩=>.cons (h.rep e) (Views.reps e t)
theorem v7:∀{rs:List RV} {ρ ρ':Rho} {ds:List D},(∀r∈rs,∀i,r.2=.at i->∃s,ρ[i]?=some s/\slD s=r.1)->gZ rs ρ=some (ds,ρ')->ds=rs.map (·.1)
 | [],_,_,_,_,e=>by cases e;rfl
 |r::rs,ρ,ρ',ds,h,e=>by
  obtain⟨x,e1,e⟩:=zaa e;obtain⟨y,e2,e⟩:=zab e;cases e;have hx:x.1=r.1/\∀(i:Nat) (s:Sl),ρ[i]?=some s->∃s',x.2[i]?=some s'/\slD s'=slD s:=by
   obtain⟨d,k⟩:=r;cases k with
   |fz=>cases e1;exact⟨rfl,λi s h=>⟨s,h,rfl⟩⟩
   |new=>cases e1
   |ro=>cases e1
   | «at» i=>
    obtain⟨s,h1,h2⟩:=h (d,.at i) (by simp) i rfl
    have e':(match ρ[i]? with
     |some (.own d)=>some (d,ρ.set i (.fz d))
     |some (.fz d)=>some (d,ρ)
     |_=>none)=some x:=e1
    rw[h1]at e';cases s with
    |own c=>
     cases e';refine⟨h2,λj t hj=>?_⟩
     by_cases z:j=i
     ·subst z
      rw[h1]at hj;cases hj
      obtain⟨hl,_⟩:=zac h1;exact⟨.fz c,by rw[zav hl],rfl⟩
     ·exact⟨t,by rw[zaA (λe=>z e.symm)];exact hj,rfl⟩
    |fz c=>cases e';exact⟨h2,λi s h=>⟨s,h,rfl⟩⟩
    |no=>cases e'
    |ex=>cases e'
    |io c=>cases e'
    |ro c=>cases e'
  rw[zaz,hx.1,v7 (ρ:=x.2) (λr hr i hi=>?_) e2]
  obtain⟨s,h1,h2⟩:=h r (zak _ hr) i hi;obtain⟨s',h3,h4⟩:=hx.2 i s h1;exact⟨s',h3,h4.trans h2⟩
theorem Vl.at:∀{vs:List V} {rs:List RV},Vl F B H σ ρ vs rs->∀r∈rs,∀i,r.2=.at i->∃s,ρ[i]?=some s/\slD s=r.1
 | [],[],_,r',hr,i,hi=>by cases hr
 |v::vs,r::rs,⟨⟨h,_⟩,t⟩,r',hr,i,hi=>by
  rcases zaf hr with rfl|hr
  ·obtain⟨d,k⟩:=r'
   cases(show k=.at i from hi);obtain⟨s,h1,_,h2,_⟩:=h;exact⟨s,h1,h2⟩
  ·exact Vl.at t r' hr i hi
theorem bc(h:MA t m):ME (mQ (spM f) [] E t) (bg f m):=by
 intro F B H σ ρ r0 ρ' Q R e q;obtain⟨x,e1,e⟩:=zaa e;obtain⟨w,e2,e⟩:=zaa e;refine h F B H σ ρ x.1 x.2 _ R e1 λvs B1 H1 E1 R1 V1=>?_
 rw[zaR]
 by_cases hp:dW w.1 w.2=true
 ·rw[if_pos hp]at e
  cases e;refine⟨H1,_,w.1,w.2,aD.refl _,λ_ _ z=>z,(V1.views R1).reps R1.sub,e2,λv B' H' P=>?_⟩
  let B2:Hp:=λq=>if H1 q=none then B' q else B1 q
  have old:∀q,H1 q≠none->B2 q=B1 q:=λq z=>if_neg z
  have new:∀q,H1 q=none->B2 q=B' q:=λq z=>if_pos z
  have eB:aD B1 B2:=λq o z=>by rw[old q (by rw[R1.sub q o z];simp)];exact z
  have sub:aD B2 H':=λq o z=>by
   by_cases y:H1 q=none
   ·rw[new q y]at z;exact P.sub q o z
   ·rw[old q y]at z;exact P.eH q o (R1.sub q o z)
  have nb:∀q,H1 q≠none->B1 q=none->B2 q=none:=λq y z=>by rw[old q y];exact z
  have tB:∀q xs,H' q=some (.tup xs)->B2 q=some (.tup xs):=λq xs z=>by
   cases y:H1 q with
   |none=>rw[new q y];exact P.tB q xs z
   |some o=>
    have:=P.eH q o y;rw[z]at this;cases this;rw[old q (by rw[y];simp)];exact R1.cO q xs y
  have kt:∀q xs,B' q=some (.tup xs)->B2 q=some (.tup xs):=λq xs z=>tB q xs (P.sub q _ z)
  have R2:=R1.grow eB P.eH sub nb tB P.nz;have E2:Ext σ x.2 B1 H1 x.2 B2 H':=Ext.grow eB P.eH nb;obtain⟨d,o⟩:=w;cases o with
  |false=>
   have pv:Rep B' v d:=P.val;exact q v B2 H' (E1.trans E2) R2 (show Rep B2 v d from pv.de kt hp) λp z=>by cases z
  |true=>
   obtain⟨p,rfl,h1,h2,h3⟩:∃p,v=.ref p/\H1 p=none/\B' p=none/\Own B' H' p d:=P.val;have fr:=R1.free h1;refine q _ B2 H' (E1.trans E2) R2 ⟨p,rfl,by rw[new p h1];exact h2,fr.2.1,?_,fr.2.2⟩ λp' _ z=>by cases z;exact E1.live p h1
   cases h3 with
   |lst h r=>exact .lst h (r.de kt hp)
   |dct h r=>exact .dct h (r.de kt hp)
 ·rw[if_neg hp]at e
  obtain⟨y,e3,e⟩:=zab e;cases e;obtain⟨B2,R2,rp,E2⟩:=Rel.vZ R1 V1.weak e3;have hd:=v7 V1.at e3;rw[hd]at rp;refine⟨B2,_,w.1,w.2,R2.sub,R2.cO,rp,e2,λv B' H' P=>?_⟩
  have R3:=R2.grow P.eB P.eH P.sub P.nb P.tB P.nz;have E3:Ext σ y.2 B2 H1 y.2 B' H':=Ext.grow P.eB P.eH P.nb;obtain⟨d,o⟩:=w;cases o with
  |false=>
   have pv:Rep B' v d:=P.val;exact q v B' H' (E1.trans (E2.trans E3)) R3 pv λp z=>by cases z
  |true=>
   obtain⟨p,rfl,h1,h2,h3⟩:∃p,v=.ref p/\H1 p=none/\B' p=none/\Own B' H' p d:=P.val;have fr:=R2.free h1;exact q _ B' H' (E1.trans (E2.trans E3)) R3 ⟨p,rfl,h2,fr.2.1,h3,fr.2.2⟩ λp' _ z=>by cases z;exact E1.live p h1
def zx(B H:Hp)(x:V)(H':Hp)(d:D):Prop:=(H'=H/\Rep B x d)\/∃p xs cs,d=.tuple cs/\x=.ref p/\H p=none/\H'=upd H p (.tup xs)/\aP B xs cs
def ml(G B:Hp)(J:It)(ds:List D):Prop:=∀H,aD G H->J.stop ds.length H/\∀(i:Nat) (d:D),ds[i]?=some d->J.go i H/\∀x H',J.yld i H x H'->zx B H x H' d
theorem ml.mono(h:ml G B J ds)(e:aD B B'):ml G B' J ds:=λH s=>⟨(h H s).1,λi d hd=>⟨((h H s).2 i d hd).1,λx H' y=>by
 rcases((h H s).2 i d hd).2 x H' y with⟨h1,h2⟩|⟨p,xs,cs,h1,h2,h3,h4,h5⟩
 ·exact .inl ⟨h1,h2.mono e⟩
 ·exact .inr ⟨p,xs,cs,h1,h2,h3,h4,h5.mono e⟩⟩⟩
def MI(t:TI)(m:Rho->Option (List D×Rho)):Prop :=
 ∀(F:Fr) (B H:Hp) (σ:St) (ρ:Rho) (ds:List D) (ρ':Rho) (Q:It->Hp->Prop),Rel F B H σ ρ->m ρ=some (ds,ρ')->
  (∀J B' H',Ext σ ρ B H ρ' B' H'->Rel F B' H' σ ρ'->ml H' B' J ds->Q J H')->t σ H Q
def MF(t:TI)(m:Rho->Option (List D×Rho)):Prop :=
 ∀(F:Fr) (B H:Hp) (σ:St) (ρ:Rho) (ds:List D) (ρ':Rho) (Q:It->Hp->Prop),Rel F B H σ ρ->m ρ=some (ds,ρ')->
  (∀J B' H',Ext σ ρ B H ρ' B' H'->Rel F B' H' σ ρ'->ml B' B' J ds->Q J H')->t σ H Q
theorem jF(h:Rd H p (.lst xs)):SqL K H p xs:=.inl h
theorem Jl(h:G p=some (.tup xs))(r:aP B xs ds):ml G B (Itt K p) ds:=λH s=>by
 have h':SqT K H p xs:=.inl (.inl (s _ _ h));refine⟨⟨xs,h',by rw[r.length];exact zap _⟩,λi d hd=>?_⟩
 obtain⟨x,h1,h2⟩:=r.get i d hd;refine⟨⟨xs,x,h',h1⟩,λy H' hy=>.inl ⟨hy.1,?_⟩⟩
 have:=hy.2 xs h';rw[h1]at this;cases this;exact h2
def asL:D->Option (List D)
 | .list ds=>some ds
 |_=>none
def asT:D->Option (List D)
 | .tuple ds=>some ds
 |_=>none
theorem Jm(h:asL d=some ds):d=.list ds:=by cases d<;>first|cases h;rfl|cases h
theorem Jn(h:asT d=some ds):d=.tuple ds:=by cases d<;>first|cases h;rfl|cases h
def Mj(a:PM):Rho->Option (List D×Rho):=fun ρ=>(sv a ρ).bind λx=>(asL x.1.1).map λds=>(ds,x.2)
def Fs(a:PM):Rho->Option (List D×Rho):=fun ρ=>(sv a ρ).bind λx=>(asT x.1.1).map λds=>(ds,x.2)
def Ml(a:PM):Rho->Option (List D×Rho):=fun ρ=>(sv a ρ).bind λx=>(kP x.1 x.2).bind λy=>(asL y.1).map λds=>(ds,y.2)
section
variable{K:zag}{ta:TE}{a:PM}
theorem Jo(ha:ME ta a):MI (ID K ta) (Fs a):=by
 intro F B H σ ρ ds ρ' Q R e q;obtain⟨x,e1,e⟩:=zaa e;obtain⟨ds',e2,e⟩:=zab e;cases e;refine ha.sv F B H σ ρ x.1 x.2 _ R e1 λv B1 H1 E1 R1 V1 N1=>?_
 have w:=V1.view R1;rw[Jn e2]at w;obtain⟨p,xs,rfl,h1,h2⟩:=w.tuple R1.sub;exact⟨p,rfl,⟨xs,.inl (.inl h1)⟩,q _ B1 H1 E1 R1 (Jl h1 h2)⟩
end
def v9(lo:Int)(n:Nat):List D:=(List.range n).map λ(k:Nat)=>PyData.int (lo+(k:Int))
theorem Jp:ml G B (Itr lo n) (v9 lo n):=λH _=>by
 refine⟨by simp[v9,Itr],λi d hd=>?_⟩
 rw[v9,zao]at hd;obtain⟨k,h1,h2⟩:=zab hd;have hk:=zac h1;obtain⟨hl,hk⟩:=hk;rw[List.getElem_range]at hk;rw[List.length_range]at hl;subst hk;refine⟨hl,λx H' hy=>.inl ⟨hy.1,?_⟩⟩
 rw[hy.2,<-h2];exact .int _
def rg1:List RV×Rho->Option (List D×Rho)
 |([(.int j,_)],ρ)=>cIf (-(2^62)<=j/\j<2^62) (some (v9 0 j.toNat,ρ)) none
 |_=>none
def rg2:List RV×Rho->Option (List D×Rho)
 |([(.int i,_),(.int j,_)],ρ)=>cIf (-(2^62)<=i/\i<2^62/\-(2^62)<=j/\j<2^62) (some (v9 i (j-i).toNat,ρ)) none
 |_=>none
def wa(m:Rho->Option (List RV×Rho)):Rho->Option (List D×Rho):=fun ρ=>(m ρ).bind rg1
def Mm(m:Rho->Option (List RV×Rho)):Rho->Option (List D×Rho):=fun ρ=>(m ρ).bind rg2
section
variable{ta:TA}{m:Rho->Option (List RV×Rho)}
theorem C0(h:MA ta m)(F:Fr)(B H:Hp)(σ:St)(ρ:Rho)(ds:List D)(ρ':Rho)(Q:It->Hp->Prop)(R:Rel F B H σ ρ)(e:wa m ρ=some (ds,ρ'))
  (q:∀J B' H',Ext σ ρ B H ρ' B' H'->Rel F B' H' σ ρ'->(∀G,ml G B' J ds)->Q J H'):Ct ta σ H Q:=by
 obtain⟨x,e1,e⟩:=zaa e;refine h F B H σ ρ x.1 x.2 _ R e1 λvs B1 H1 E1 R1 V1=>?_
 obtain⟨rs,ρ2⟩:=x;unfold rg1 at e;split at e
 ·rename_i j k ρ3 heq
  cases heq;obtain⟨hj,e⟩:=cW e
  ·cases e
   match vs,V1 with
   | [v],⟨⟨h1,_⟩,_⟩=>
    have:v=.int j:=(h1.view R1).int;subst this;exact⟨j,rfl,hj.1,hj.2,q _ B1 H1 E1 R1 λG=>Jp⟩
 ·cases e
theorem zy(h:MA ta m):MF (Ct ta) (wa m):=λF B H σ ρ ds ρ' Q R e q=>C0 h F B H σ ρ ds ρ' Q R e λJ B' H' E R' I=>q J B' H' E R' (I _)
end
end Mir
namespace Mir
open PySem L2
variable [Zc]
def Jq:List RV×Rho->Option (RV×Rho)
 |([r],ρ)=>some (r,ρ)
 |_=>none
theorem Ft(h:Jq x=some y):x=([y.1],y.2):=by
 obtain⟨rs,ρ⟩:=x;unfold Jq at h;split at h
 ·rename_i heq;cases heq;cases h;rfl
 ·cases h
def cX(ρ:Rho)(i:Nat):Sl:=match ρ[i]? with
 |some (.own d)=>.ro d
 |some (.io d)=>.ro d
 |some .ex=>.no
 |some s=>s
 |none=>.no
def asF:RV->Option D
 |(d,.fz)=>some d
 |_=>none
theorem C1(h:asF r=some d):r=(d,.fz):=by
 obtain⟨c,k⟩:=r;cases k with
 |fz=>cases h;rfl
 |_=>cases h
def iU(c:Rho->Option (Bool×Rho))(e:PM)(ρn:Rho):List D->Option (List D)
 | []=>some []
 |d::ds=>(c (.fz d::ρn)).bind λb=>if b.1=true then(sv e (.fz d::ρn)).bind λy=>(asF y.1).bind λz=>(iU c e ρn ds).map (z::·)else iU c e ρn ds
def mLC(fr:List (Str×Nat))(it:Rho->Option (List D×Rho))(c:Rho->Option (Bool×Rho))(e:PM):PM:=fun ρ=>(it ρ).bind λx=>(iU c e (fr.map λp=>cX x.2 p.2) x.1).bind λys=>cIf (ys.length<sizeLine) (some ((.list ys,.new),x.2)) none
def xV:Rho->Option (Bool×Rho):=fun ρ=>some (true,ρ)
theorem C2:MT KS xV:=by
 intro F B H σ ρ b ρ' Q R e q;cases e;exact q B H (Ext.refl _ _ _ _) R
def F0(H:Hp):Fr:=⟨λ_=>none,λ_=>none,[],λq=>H q≠none⟩
theorem AV:cX ρ i≠.ex:=by
 unfold cX;cases h : ρ[i]? with
 |none=>simp
 |some s=>cases s<;>simp
theorem qo:(cX ρ i).e9=false:=by
 unfold cX;cases h : ρ[i]? with
 |none=>rfl
 |some s=>cases s<;>rfl
theorem Rel.inner(R:Rel F B H σ ρ)(fr:List (Str×Nat))(h:Rep B v d):Rel (F0 H) B H (some v::aU σ fr) (.fz d::fr.map λp=>cX ρ p.2):=by
 have vI:∀(i:Nat) (s:Sl),(Sl.fz d::fr.map λp=>cX ρ p.2)[i]?=some s->s.e9=true->False:=λi s h1 h2=>by
  cases i with
  |zero=>cases h1;cases h2
  |succ i=>
   have h1':(fr.map λp=>cX ρ p.2)[i]?=some s:=by simpa using h1
   rw[zao]at h1';obtain⟨p,_,e⟩:=zab h1';rw[<-e,qo]at h2;cases h2
 have nex:∀i:Nat,(Sl.fz d::fr.map λp=>cX ρ p.2)[i]?=some Sl.ex->False:=λi h1=>by
  cases i with
  |zero=>cases h1
  |succ i=>
   have h1':(fr.map λp=>cX ρ p.2)[i]?=some Sl.ex:=by simpa using h1
   rw[zao]at h1';obtain⟨p,_,e⟩:=zab h1';exact absurd e AV
 refine⟨R.sub,(λ_ _ z=>by cases z),(λ_ _ z=>by cases z),λ_ z _=>absurd rfl z,by simp[aU],λi s hs=>?_,λi j s t p h1 h2=>(vI i s h1 h2).elim,λi d p h1=>(vI i _ h1 rfl).elim,(λx hx=>by cases hx),λi d h1=>(vI i _ h1 rfl).elim,R.cO,(λi h1=>(nex i h1).elim),λq o u h z=>by rw[z]at h;cases h⟩
 cases i with
 |zero=>cases hs;exact⟨v,rfl,h⟩
 |succ i=>
  have hs':(fr.map λp=>cX ρ p.2)[i]?=some s:=by simpa using hs
  rw[zao]at hs';obtain⟨p,hp,e⟩:=zab hs';have hσ:∀x,σ[p.2]?=some (some x)->(some v::aU σ fr)[i+1]?=some (some x):=λx hx=>by
   rw[zat];unfold aU;rw[zao,hp,zaT,List.getD_eq_getElem?_getD,hx];rfl
  unfold cX at e;cases q : ρ[p.2]? with
  |none=>rw[q]at e;subst e;trivial
  |some s0=>
   rw[q]at e;have sl:=R.slot p.2 s0 q;cases s0 with
   |no=>subst e;trivial
   |ex=>subst e;trivial
   |fz c=>subst e;obtain⟨x,h1,h2⟩:=sl;exact⟨x,hσ _ h1,h2⟩
   |own c=>subst e;obtain⟨x,h1,_,h2⟩:=sl;exact⟨x,hσ _ h1,h2⟩
   |io c=>subst e;obtain⟨x,h1,_,h2⟩:=sl;exact⟨x,hσ _ h1,h2⟩
   |ro c=>subst e;obtain⟨x,h1,h2⟩:=sl;exact⟨x,hσ _ h1,h2⟩
theorem il(vI:∀(i:Nat) (s:Sl),ρ[i]?=some s->s.e9=true->False)(E:Ext σ ρ B H ρ' B' H'):aD H H'/\∀q,H q≠none->B q=none->B' q=none:=by
 have k:∀q o,H q=some o->H' q=some o/\(B q=none->B' q=none):=λq o h=>E.keep q o h λi s h1 h2=>(vI i s h1 h2).elim
 refine⟨λq o h=>(k q o h).1,λq h z=>?_⟩
 cases e:H q with
 |none=>exact absurd e h
 |some o=>exact(k q o e).2 z
theorem gf{fr:List (Str×Nat)}(i:Nat)(s:Sl)(h1:(Sl.fz d::fr.map λp=>cX ρ p.2)[i]?=some s)(h2:s.e9=true):False:=by
 cases i with
 |zero=>cases h1;cases h2
 |succ i=>
  have h1':(fr.map λp=>cX ρ p.2)[i]?=some s:=by simpa using h1
  rw[zao]at h1';obtain⟨p,_,e⟩:=zab h1';rw[<-e,qo]at h2;cases h2
theorem Hu(hi:MI wi it)(hc:MT tc c)(he:ME te e):ME (tLC fr wi tc te) (mLC fr it c e):=by
 intro F B H σ ρ r0 ρ' Q R e0 q;obtain⟨x,e1,e0⟩:=zaa e0;obtain⟨out,e2,e0⟩:=zaa e0;obtain⟨hz,e0⟩:=cW e0;cases e0;refine hi F B H σ ρ x.1 x.2 _ R e1 λJ B1 H1 E1 R1 I1=>?_
 obtain⟨ds,ρ1⟩:=x;refine⟨λi m ys H2=>m=ds.length-i/\i<=ds.length/\∃B2 done rest,aD B1 B2/\aD H1 H2/\(∀q,H1 q≠none->B1 q=none->B2 q=none)/\Rel F B2 H2 σ ρ1/\aP B2 ys done/\iU c e (fr.map λp=>cX ρ1 p.2) (ds.drop i)=some rest/\done++rest=out,
  ⟨ds.length,rfl,Nat.zero_le _,B1,[],out,aD.refl _,aD.refl _,λ_ _ z=>z,R1,.nil,e2,rfl⟩,?_⟩
 rintro i m ys H2 ⟨rfl,hil,B2,done,rest,eB,eH,nb,R2,rp,hcl,hdr⟩
 have hlen:ys.length<=out.length:=by rw[<-hdr,zau,rp.length];omega
 refine⟨by omega,?_⟩
 by_cases hlt:i<ds.length
 ·refine .inr ?_
  obtain⟨go,yl⟩:=(I1 H2 eH).2 i ds[i] (zaC hlt);refine⟨go,λv H3 hy=>?_⟩
  rw[zbb hlt]at hcl;obtain⟨b,c1,c2⟩:=zaa (show(c (.fz ds[i]::fr.map λp=>cX ρ1 p.2)).bind _=some rest from hcl)
  have had:∃B3,aD B2 B3/\aD H2 H3/\(∀q,H2 q≠none->B2 q=none->B3 q=none)/\Rel F B3 H3 σ ρ1/\Rep B3 v ds[i]:=by
   rcases yl v H3 hy with⟨rfl,h2⟩|⟨p,xs,cs,h1,rfl,h3,rfl,h5⟩
   ·exact⟨B2,aD.refl _,aD.refl _,λ_ _ z=>z,R2,h2.mono eB⟩
   ·obtain⟨R3,E3,e3⟩:=R2.oz (xs:=xs) h3
    refine⟨_,e3,eZ h3,λq h z=>?_,R3,?_⟩
    ·rw[ao (show q≠p from λy=>h (by rw[y];exact h3))];exact z
    ·rw[h1];exact .tup ar (h5.mono (eB.trans e3))
  obtain⟨B3,eB3,eH3,nb3,R3,rv⟩:=had;have Ri:=R3.inner fr rv;refine hc (F0 H3) B3 H3 _ _ b.1 b.2 _ Ri c1 λB4 H4 E4 R4=>?_
  obtain⟨eH4,nb4⟩:=il gf E4;have R4o:Rel F B4 H4 σ ρ1:=R3.grow E4.sB eH4 R4.sub nb4 R4.cO R4.nz;have nbA:∀q,H1 q≠none->B1 q=none->B4 q=none:=λq h z=>by
   have h2:H2 q≠none:=λy=>h (eH.free y)
   have h3:H3 q≠none:=λy=>h2 (eH3.free y)
   exact nb4 q h3 (nb3 q h2 (nb q h z))
  cases hb:b.1 with
  |false=>
   rw[hb,if_neg zam]at c2;rw[if_neg zam];exact⟨ds.length-(i+1),by omega,rfl,hlt,B4,done,rest,eB.trans (eB3.trans E4.sB),eH.trans (eH3.trans eH4),nbA,R4o,rp.mono (eB3.trans E4.sB),c2,hdr⟩
  |true=>
   rw[hb,if_pos rfl]at c2;rw[if_pos rfl];obtain⟨y,c3,c2⟩:=zaa c2;obtain⟨z,c4,c2⟩:=zaa c2;obtain⟨rest',c5,c6⟩:=zab c2;subst c6;have Ri4:=R4o.inner fr (rv.mono E4.sB);refine he.sv (F0 H4) B4 H4 _ _ y.1 y.2 _ Ri4 c3 λu B5 H5 E5 R5 V5 N5=>?_
   obtain⟨eH5,nb5⟩:=il gf E5;have R5o:Rel F B5 H5 σ ρ1:=R4o.grow E5.sB eH5 R5.sub nb5 R5.cO R5.nz;rw[C1 c4]at V5;refine⟨ds.length-(i+1),by omega,rfl,hlt,B5,done++[z],rest',eB.trans (eB3.trans (E4.sB.trans E5.sB)),eH.trans (eH3.trans (eH4.trans eH5)),λq h w=>?_,R5o,(rp.mono (eB3.trans (E4.sB.trans E5.sB))).append (.cons V5 .nil),c5,by rw[zaD];exact hdr⟩
   have h2:H2 q≠none:=λy=>h (eH.free y)
   have h3:H3 q≠none:=λy=>h2 (eH3.free y)
   have h4:H4 q≠none:=λy=>h3 (eH4.free y)
   exact nb5 q h4 (nbA q h w)
 ·have hi':i=ds.length:=by omega
  subst hi';refine .inl ⟨(I1 H2 eH).1,λp hp=>?_⟩
  rw[List.drop_length]at hcl;cases hcl;rw[zaR]at hdr;subst hdr;have E2:Ext σ ρ1 B1 H1 ρ1 B2 H2:=Ext.grow eB eH nb;have:=hI (res:=(.list done,true)) (k:=λQ=>∀p,H2 p=none->Q (.ref p) (upd H2 p (.lst ys))) (Q:=Q) R2 ⟨ys,rp,λQ h=>h⟩ λv B' H' E R' V' N=>q v B' H' ((E1.trans E2).trans E) R' V' λp z1 z2=>(E1.trans E2).live p (N p z1 z2)
  exact this p hp
end Mir
namespace Mir
open PySem L2
variable [Zc]
def Sl.put:Sl->D->Sl
 | .own _,d=>.own d
 | .io _,d=>.io d
 |s,_=>s
section
variable{F:Fr}{B H:Hp}{σ:St}{ρ ρ':Rho}{v:V}
theorem qm.at(e : σ'[i]?=σ[i]?)(h:qm B H σ i s):qm B H σ' i s:=by
 unfold qm at h⊢;rw[e];exact h
theorem Rel.write(R:Rel F B H σ ρ)(hi : ρ[i]?=some s)(hs:s.e9=true)(hv : σ[i]?=some (some (.ref p)))(no:(∀xs,o≠.tup xs)/\∀a u,o≠.frz a u)(ow:Own B (upd H p o) p d) :
  Rel F B (upd H p o) σ (ρ.set i (s.put d))/\Ext σ ρ B H (ρ.set i (s.put d)) B (upd H p o):=by
 obtain⟨p',e1,hB,o0⟩:=R.ownAt hi hs;rw[hv]at e1;cases e1;have hl:i<ρ.length:=(zac hi).1;have pO:(s.put d).e9=true/\slD (s.put d)=d:=by cases s<;>first|exact⟨rfl,rfl⟩|cases hs
 have ne:∀(j:Nat) (t:Sl) (q:Addr),j≠i->ρ[j]?=some t->t.isRef=true->σ[j]?=some (some (.ref q))->q≠p:=λj t q hj h1 h2 h3 z=>hj (R.dist i j s t p hi hs h1 h2 hv (z▸h3)).symm
 have nio:∀(j:Nat) (t:Sl),(ρ.set i (s.put d))[j]?=some t->∃t0,ρ[j]?=some t0/\t.e9=t0.e9/\t.isRef=t0.isRef/\(∀c,t=.own c->∃c0,t0=.own c0)/\∀c,t=.io c->∃c0,t0=.io c0:=λj t h=>by
  rcases get_set h with⟨rfl,rfl,_⟩|⟨_,h⟩
  ·refine⟨s,hi,?_⟩
   cases s with
   |own c=>exact⟨rfl,rfl,λ_ _=>⟨_,rfl⟩,λ_ z=>by cases z⟩
   |io c=>exact⟨rfl,rfl,(λ_ z=>by cases z),λ_ _=>⟨_,rfl⟩⟩
   |_=>cases hs
  ·exact⟨t,h,rfl,rfl,λc z=>⟨c,z⟩,λc z=>⟨c,z⟩⟩
 have hF:F.H p=none\/∃x∈F.io,x.2=p:=by
  cases s with
  |own c=>exact .inl (R.jD i c p hi hv)
  |io c=>
   obtain⟨p',hp⟩:=R.ioN i c hi;obtain⟨h1,_⟩:=R.fx _ hp;have h1' : σ[i]?=some (some (.ref p')):=h1;rw[hv]at h1';cases h1';exact .inr ⟨_,hp,rfl⟩
  |_=>cases hs
 have Mn:s.put d≠.ex:=by
  cases s with
  |own c=>simp[Sl.put]
  |io c=>simp[Sl.put]
  |_=>cases hs
 refine⟨⟨?_,R.sB,?_,R.nB,by rw[zaM];exact R.len,?_,?_,?_,?_,?_,?_,(λj h=>R.exv j (ui Mn h).1),λq a u h=>by
  by_cases z:q=p
  ·subst z;rw[ar]at h;cases h;exact absurd rfl (no.2 _ _)
  ·rw[ao z]at h;exact R.nz q a u h⟩,⟨aD.refl _,?_,?_,?_,?_⟩⟩
 ·intro q u hq
  rw[ao (show q≠p from λz=>by rw[z,hB]at hq;cases hq)];exact R.sub q u hq
 ·intro q u h1 h2
  have z:q≠p:=λz=>by
   rcases hF with h|⟨x,hx,h⟩
   ·rw[z,h]at h1;cases h1
   ·exact h2 x hx (h.trans z.symm)
  rw[ao z];exact R.sH q u h1 h2
 ·intro j t ht
  rcases get_set ht with⟨rfl,rfl,_⟩|⟨hj,ht⟩
  ·cases s with
   |own c=>exact⟨p,hv,hB,ow⟩
   |io c=>exact⟨p,hv,hB,ow⟩
   |_=>cases hs
  ·have q:=R.slot j t ht
   have k:∀q,q≠p->∀u,H q=some u->upd H p o q=some u:=λq z u h=>by rw[ao z];exact h
   cases t with
   |no=>trivial
   |ex=>trivial
   |fz c=>exact q
   |own c=>obtain⟨q,h1,h2,h3⟩:=q;exact⟨q,h1,h2,h3.mono (aD.refl _) (k q (ne j _ q hj ht rfl h1))⟩
   |io c=>obtain⟨q,h1,h2,h3⟩:=q;exact⟨q,h1,h2,h3.mono (aD.refl _) (k q (ne j _ q hj ht rfl h1))⟩
   |ro c=>obtain⟨q,h1,h3⟩:=q;exact⟨q,h1,h3.mono (aD.refl _) (k q (ne j _ q hj ht rfl h1))⟩
 ·intro a b t u q h1 h2 h3 h4 h5 h6
  obtain⟨t0,h1',e1,_,_,_⟩:=nio a t h1;obtain⟨u0,h3',_,e3,_,_⟩:=nio b u h3;exact R.dist a b t0 u0 q h1' (e1▸h2) h3' (e3▸h4) h5 h6
 ·intro j c q h1 h2
  obtain⟨t0,h1',_,_,e1,_⟩:=nio j _ h1;obtain⟨c0,rfl⟩:=e1 c rfl;exact R.jD j c0 q h1' h2
 ·intro x hx
  obtain⟨h1,c,h2⟩:=R.fx x hx;refine⟨h1,?_⟩
  by_cases z:i=x.1
  ·subst z
   rw[hi]at h2;cases h2;exact⟨d,by rw[zav hl];rfl⟩
  ·exact⟨c,by rw[zaA z];exact h2⟩
 ·intro j c h1
  obtain⟨t0,h1',_,_,_,e1⟩:=nio j _ h1;obtain⟨c0,rfl⟩:=e1 c rfl;exact R.ioN j c0 h1'
 ·intro q xs h
  by_cases z:q=p
  ·subst z;rw[ar]at h;cases h;exact absurd rfl (no.1 xs)
  ·rw[ao z]at h;exact R.cO q xs h
 ·intro q u h n
  refine⟨?_,id⟩;rw[ao (show q≠p from λz=>n i s hi hs (by rw[z];exact hv))];exact h
 ·intro j t h1 h2
  obtain⟨t0,h1',e1,_,_,_⟩:=nio j t h1;exact⟨t0,h1',e1▸h2⟩
 ·intro j t h1 h2
  obtain⟨t0,h1',_,e1,_,_⟩:=nio j t h1;exact⟨t0,h1',e1▸h2⟩
 ·intro q h
  by_cases z:q=p
  ·subst z;rw[ar]at h;cases h
  ·rw[ao z]at h;exact h
end
def qp:Option Sl->Option (List D)
 |some (.own (.list ds))=>some ds
 |some (.io (.list ds))=>some ds
 |_=>none
theorem uo(h:qp s=some ds):∃t,s=some t/\t.e9=true/\slD t=.list ds:=by
 unfold qp at h;split at h
 ·cases h;exact⟨_,rfl,rfl,rfl⟩
 ·cases h;exact⟨_,rfl,rfl,rfl⟩
 ·cases h
def putAt(ρ:Rho)(i:Nat)(d:D):Rho:=match ρ[i]? with
 |some s=>ρ.set i (s.put d)
 |none=>ρ
def wb(r:V->List V->Hp->VK->Prop)(f:List D->List D->Option (List D×D)):Prop :=
 ∀(B H:Hp) (p:Addr) (xs:List V) (ds:List D) (vs:List V) (as:List D) (w:List D×D),H p=some (.lst xs)->aP B xs ds->aD B H->aP B vs as->f ds as=some w->
  ∃xs' v,aP B xs' w.1/\Rep B v w.2/\∀Q:VK,Q v (upd H p (.lst xs'))->r (.ref p) vs H Q
def uq(i:Nat)(f:List D->List D->Option (List D×D))(m:Rho->Option (List RV×Rho)):PM:=fun ρ=>(qp ρ[i]?).bind λ_=>(m ρ).bind λx=>(gZ x.1 x.2).bind λy=>(qp y.2[i]?).bind λds=>(f ds y.1).map λw=>((w.2,.fz),putAt y.2 i (.list w.1))
theorem Own.list{ds:List D}(h:Own B H p (.list ds)):∃xs,H p=some (.lst xs)/\aP B xs ds:=by
 cases h with
 |lst h r=>exact⟨_,h,r⟩
theorem ur(J:wb r f)(h:MA t m):ME (tBM K "list" r (kI i) t) (uq i f m):=by
 intro F B H σ ρ r0 ρ' Q R e q;obtain⟨ds0,e0,e⟩:=zaa e;obtain⟨x,e1,e⟩:=zaa e;obtain⟨y,e2,e⟩:=zaa e;obtain⟨ds,e3,e⟩:=zaa e;obtain⟨w,e4,e⟩:=zab e;cases e;obtain⟨s0,hs0,ho0,hd0⟩:=uo e0;obtain⟨p,hv,hB,ow⟩:=R.ownAt hs0 ho0;rw[hd0]at ow;obtain⟨xs0,hp0,_⟩:=ow.list;refine⟨_,hv,.inl ⟨rfl,xs0,SqL.of hp0⟩,?_⟩;refine h F B H σ ρ x.1 x.2 _ R e1 λvs B1 H1 E1 R1 V1=>?_
 obtain⟨B2,R2,rp,E2⟩:=Rel.vZ R1 V1.weak e2;obtain⟨s,hs,ho,hd⟩:=uo e3;obtain⟨p',hv',hB',ow'⟩:=R2.ownAt hs ho;rw[hv]at hv';cases hv';rw[hd]at ow';obtain⟨xs,hp,rx⟩:=ow'.list;obtain⟨xs',u,rx',ru,hr⟩:=J B2 H1 p xs ds vs y.1 w hp rx R2.sub rp e4;obtain⟨R3,E3⟩:=R2.write (o:=.lst xs') (d:=.list w.1) hs ho hv ⟨(λ_ z=>by cases z),λ_ _ z=>by cases z⟩ (.lst ar rx')
 have ep:putAt y.2 i (.list w.1)=y.2.set i (s.put (.list w.1)):=by unfold putAt;rw[hs]
 rw[ep]at q;exact hr Q (q u B2 _ (E1.trans (E2.trans E3)) R3 ru λp z=>by cases z)
def sP(i:Nat)(f:List D->List D->Option (List D×D)):PM:=fun ρ=>(qp ρ[i]?).bind λds=>(f ds []).map λw=>((w.2,.fz),putAt ρ i (.list w.1))
theorem Fu(J:wb r f):ME (CH K "list" r (kI i)) (sP i f):=by
 intro F B H σ ρ r0 ρ' Q R e q;obtain⟨ds,e0,e⟩:=zaa e;obtain⟨w,e4,e⟩:=zab e;cases e;obtain⟨s,hs,ho,hd⟩:=uo e0;obtain⟨p,hv,hB,ow⟩:=R.ownAt hs ho;rw[hd]at ow;obtain⟨xs,hp,rx⟩:=ow.list;refine⟨_,hv,.inl ⟨rfl,xs,SqL.of hp⟩,?_⟩;obtain⟨xs',u,rx',ru,hr⟩:=J B H p xs ds [] [] w hp rx R.sub .nil e4;obtain⟨R3,E3⟩:=R.write (o:=.lst xs') (d:=.list w.1) hs ho hv ⟨(λ_ z=>by cases z),λ_ _ z=>by cases z⟩ (.lst ar rx')
 have ep:putAt ρ i (.list w.1)=ρ.set i (s.put (.list w.1)):=by unfold putAt;rw[hs]
 rw[ep]at q;exact hr Q (q u B _ E3 R3 ru λp z=>by cases z)
end Mir
namespace Mir
open PySem L2
variable [Zc]
inductive Out where
 |nx (ρ:Rho)|rt (r:RV) (ρ:Rho)|bk (ρ:Rho)|ct (ρ:Rho)
abbrev SM:=Rho->Option Out
def kQ(F:Fr)(D:Ends):Out->Prop
 | .nx ρ=>∀B H σ,Rel F B H σ ρ->D.nx σ H
 | .rt r ρ=>∀v B H σ,Rel F B H σ ρ->Val F B H σ ρ v r->D.rt v H
 | .bk ρ=>∀B H σ,Rel F B H σ ρ->D.bk σ H
 | .ct ρ=>∀B H σ,Rel F B H σ ρ->D.ct σ H
def MS(t:TS)(m:SM):Prop:=∀(F:Fr) (B H:Hp) (σ:St) (ρ:Rho) (o:Out) (D:Ends),Rel F B H σ ρ->m ρ=some o->kQ F D o->t D σ H
def cI(a b:SM):SM:=fun ρ=>(a ρ).bind λo=>match o with
 | .nx ρ'=>b ρ'
 |o=>some o
theorem a8(ha:MS t a)(hb:MS u b):MS (AJ t u) (cI a b):=by
 intro F B H σ ρ o D R e q;obtain⟨x,e1,e⟩:=zaa e;refine ha F B H σ ρ x _ R e1 ?_;cases x with
 |nx ρ'=>exact λB' H' σ' R'=>hb F B' H' σ' ρ' o D R' e q
 |rt r ρ'=>cases e;exact q
 |bk ρ'=>cases e;exact q
 |ct ρ'=>cases e;exact q
def dJ:SM:=fun ρ=>some (.nx ρ)
theorem cJ:MS Ck dJ:=by
 intro F B H σ ρ o D R e q;cases e;exact q B H σ R
def oA:SM:=λ_=>none
theorem kR:MS Co oA:=by
 intro F B H σ ρ o D R e q;cases e
def fc(a:PM):SM:=fun ρ=>(a ρ).map λx=>.rt x.1 x.2
theorem cE(ha:ME t a):MS (Cm t) (fc a):=by
 intro F B H σ ρ o D R e q;obtain⟨x,e1,e⟩:=zab e;cases e;exact ha F B H σ ρ x.1 x.2 _ R e1 λv B' H' E R' V' N=>q v B' H' σ R' V'
def KY:SM:=fun ρ=>some (.rt (.none,.fz) ρ)
def eD(a:PM):SM:=fun ρ=>(a ρ).map λx=>.nx x.2
theorem iV(ha:ME t a):MS (vM t) (eD a):=by
 intro F B H σ ρ o D R e q;obtain⟨x,e1,e⟩:=zab e;cases e;exact ha F B H σ ρ x.1 x.2 _ R e1 λv B' H' E R' V' N=>q B' H' σ R'
def fL(c:Rho->Option (Bool×Rho))(a b:SM):SM:=fun ρ=>(c ρ).bind λx=>if x.1=true then a x.2 else b x.2
theorem fM(hc:MT tc c)(ha:MS t a)(hb:MS u b):MS (Cn tc t u) (fL c a b):=by
 intro F B H σ ρ o D R e q;obtain⟨x,e1,e⟩:=zaa e;refine hc F B H σ ρ x.1 x.2 _ R e1 λB' H' E R'=>?_
 by_cases h:x.1=true
 ·rw[if_pos h]at e⊢;exact ha F B' H' σ x.2 o D R' e q
 ·rw[if_neg h]at e⊢;exact hb F B' H' σ x.2 o D R' e q
def fC(ρ:Rho)(i:Nat)(s:Sl):Option Rho:=match ρ[i]? with
 |none=>none
 |some (.io _)=>none
 |some _=>some (ρ.set i s)
theorem mY(h:fC ρ i s=some ρ') : ρ'=ρ.set i s/\∃s0,ρ[i]?=some s0/\∀d,s0≠.io d:=by
 unfold fC at h;cases q : ρ[i]? with
 |none=>rw[q]at h;cases h
 |some s0=>
  rw[q]at h;cases s0 with
  |io d=>cases h
  |no=>cases h;exact⟨rfl,_,rfl,λ_ z=>by cases z⟩
  |ex=>cases h;exact⟨rfl,_,rfl,λ_ z=>by cases z⟩
  |fz _=>cases h;exact⟨rfl,_,rfl,λ_ z=>by cases z⟩
  |own _=>cases h;exact⟨rfl,_,rfl,λ_ z=>by cases z⟩
  |ro _=>cases h;exact⟨rfl,_,rfl,λ_ z=>by cases z⟩
section
variable{F:Fr}{B H:Hp}{σ:St}{ρ ρ':Rho}{v:V}
theorem Rel.qq(R:Rel F B H σ ρ)(rp:Rep B v d)(h:fC ρ i (.fz d)=some ρ'):Rel F B H (σ.set i (some v)) ρ':=by
 obtain⟨rfl,s0,h0,nio⟩:=mY h;have hl:i<ρ.length:=(zac h0).1;have hls:i<σ.length:=R.len▸hl;have so:∀j,j≠i->(σ.set i (some v))[j]?=σ[j]?:=λj hj=>zaA λe=>hj e.symm
 refine⟨R.sub,R.sB,R.sH,R.nB,by rw[zaM,zaM];exact R.len,?_,?_,?_,?_,?_,R.cO,(λj h=>by obtain⟨h1,h2⟩:=ui (by simp) h;rw[so j h2];exact R.exv j h1),R.nz⟩
 ·intro j s hs
  rcases get_set hs with⟨rfl,rfl,_⟩|⟨hj,hs⟩
  ·exact⟨v,zav hls,rp⟩
  ·exact(R.slot j s hs).at (so j hj)
 ·intro a b s t p h1 h2 h3 h4 h5 h6
  rcases get_set h1 with⟨rfl,rfl,_⟩|⟨ha,h1⟩
  ·cases h2
  ·rcases get_set h3 with⟨rfl,rfl,_⟩|⟨hb,h3⟩
   ·cases h4
   ·rw[so a ha]at h5;rw[so b hb]at h6;exact R.dist a b s t p h1 h2 h3 h4 h5 h6
 ·intro j c p h1 h2
  rcases get_set h1 with⟨rfl,e,_⟩|⟨hj,h1⟩
  ·cases e
  ·rw[so j hj]at h2;exact R.jD j c p h1 h2
 ·intro x hx
  obtain⟨h1,c,h2⟩:=R.fx x hx;have z:x.1≠i:=λz=>by rw[z,h0]at h2;cases h2;exact nio _ rfl
  exact⟨by rw[so _ z];exact h1,c,by rw[zaA λe=>z e.symm];exact h2⟩
 ·intro j c h1
  rcases get_set h1 with⟨rfl,e,_⟩|⟨hj,h1⟩
  ·cases e
  ·exact R.ioN j c h1
theorem Rel.AW(R:Rel F B H σ ρ)(vl:Val F B H σ ρ v (d,.new))(h:fC ρ i (.own d)=some ρ'):Rel F B H (σ.set i (some v)) ρ':=by
 obtain⟨rfl,s0,h0,nio⟩:=mY h;obtain⟨p,rfl,hB,hF,ow,nn⟩:=vl;have hl:i<ρ.length:=(zac h0).1;have hls:i<σ.length:=R.len▸hl;have so:∀j,j≠i->(σ.set i (some (.ref p)))[j]?=σ[j]?:=λj hj=>zaA λe=>hj e.symm
 have si:(σ.set i (some (.ref p)))[i]?=some (some (.ref p)):=zav hls;refine⟨R.sub,R.sB,R.sH,R.nB,by rw[zaM,zaM];exact R.len,?_,?_,?_,?_,?_,R.cO,(λj h=>by obtain⟨h1,h2⟩:=ui (by simp) h;rw[so j h2];exact R.exv j h1),R.nz⟩
 ·intro j s hs
  rcases get_set hs with⟨rfl,rfl,_⟩|⟨hj,hs⟩
  ·exact⟨p,si,hB,ow⟩
  ·exact(R.slot j s hs).at (so j hj)
 ·intro a b s t q h1 h2 h3 h4 h5 h6
  rcases get_set h1 with⟨rfl,rfl,_⟩|⟨ha,h1'⟩
  ·rcases get_set h3 with⟨rfl,rfl,_⟩|⟨hb,h3⟩
   ·rfl
   ·rw[si]at h5
    cases h5;rw[so b hb]at h6;exact absurd h6 (nn b t h3 h4)
  ·rcases get_set h3 with⟨rfl,rfl,_⟩|⟨hb,h3⟩
   ·rw[si]at h6
    cases h6;rw[so a ha]at h5;exact absurd h5 (nn a s h1' (Sl.f9 h2))
   ·rw[so a ha]at h5;rw[so b hb]at h6;exact R.dist a b s t q h1' h2 h3 h4 h5 h6
 ·intro j c q h1 h2
  rcases get_set h1 with⟨rfl,e,_⟩|⟨hj,h1⟩
  ·rw[si]at h2;cases h2;exact hF
  ·rw[so j hj]at h2;exact R.jD j c q h1 h2
 ·intro x hx
  obtain⟨h1,c,h2⟩:=R.fx x hx;have z:x.1≠i:=λz=>by rw[z,h0]at h2;cases h2;exact nio _ rfl
  exact⟨by rw[so _ z];exact h1,c,by rw[zaA λe=>z e.symm];exact h2⟩
 ·intro j c h1
  rcases get_set h1 with⟨rfl,e,_⟩|⟨hj,h1⟩
  ·cases e
  ·exact R.ioN j c h1
end
def sto(i:Nat)(x:RV×Rho):Option Rho:=match x.1.2 with
 | .fz=>fC x.2 i (.fz x.1.1)
 | .new=>fC x.2 i (.own x.1.1)
 | .at j=>if j=i then some x.2 else(kP x.1 x.2).bind λy=>fC y.2 i (.fz y.1)
 | .ro=>none
def dM(i:Nat)(a:PM):SM:=fun ρ=>(a ρ).bind λx=>(sto i x).map .nx
theorem cN(ha:ME t a):MS (AK t (mP i)) (dM i a):=by
 intro F B H σ ρ o D R e q;obtain⟨x,e1,e⟩:=zaa e;obtain⟨ρ2,e2,e⟩:=zab e;cases e;refine ha F B H σ ρ x.1 x.2 _ R e1 λv B1 H1 E1 R1 V1 N1=>?_
 show D.nx (σ.set i (some v)) H1;obtain⟨⟨d,k⟩,ρ1⟩:=x;cases k with
 |fz=>exact q B1 H1 _ (R1.qq V1 e2)
 |new=>exact q B1 H1 _ (R1.AW V1 e2)
 |ro=>cases e2
 | «at» j=>
  have e2':(if j=i then some ρ1 else(kP (d,.at j) ρ1).bind λy=>fC y.2 i (.fz y.1))=some ρ2:=e2
  obtain⟨s,h1,h2,h3,h4⟩:=V1;have h4' : σ[j]?=some (some v):=h4
  by_cases z:j=i
  ·rw[if_pos z]at e2'
   cases e2';subst z;have : σ.set j (some v)=σ:=by
    apply List.ext_getElem?;intro k
    by_cases hk:k=j
    ·subst hk
     obtain⟨hl,_⟩:=zac h4';rw[zav hl,h4']
    ·rw[zaA λe=>hk e.symm]
   rw[this];exact q B1 H1 _ R1
  ·rw[if_neg z]at e2'
   obtain⟨y,e3,e4⟩:=zaa e2';obtain⟨B2,R2,rp,E2⟩:=R1.frz (v:=v) (r:=(d,.at j)) (show CZ B1 σ v (d,.at j)from h4') e3;exact q B2 H1 _ (R2.qq rp e4)
def Mo(i:Nat)(f:Int->Int->Int)(a:PM):SM:=fun ρ=>match ρ[i]? with
 |some (.fz (.int x))=>((sv a ρ).bind asI).bind λy=>(fC y.2 i (.fz (.int (f x y.1)))).map .nx
 |_=>none
def MG(g:TG)(mg:D->Rho->Option Rho):Prop:=∀(F:Fr) (B H:Hp) (σ:St) (ρ:Rho) (v:V) (d:D) (ρ':Rho) (Q:St->Hp->Prop),Rel F B H σ ρ->Rep B v d->mg d ρ=some ρ'->(∀B' H' σ',Rel F B' H' σ' ρ'->aD B B'->Q σ' H')->g v σ H Q
def MGs(g:TGs)(mg:List D->Rho->Option Rho):Prop:=∀(F:Fr) (B H:Hp) (σ:St) (ρ:Rho) (vs:List V) (ds:List D) (ρ':Rho) (Q:St->Hp->Prop),Rel F B H σ ρ->aP B vs ds->mg ds ρ=some ρ'->(∀B' H' σ',Rel F B' H' σ' ρ'->aD B B'->Q σ' H')->g vs σ H Q
def mgN(i:Nat):D->Rho->Option Rho:=λd ρ=>fC ρ i (.fz d)
theorem cz:MG (mP i) (mgN i):=λF B H σ ρ v d ρ' Q R rp e q=>q B H _ (R.qq rp e) (aD.refl _)
def gM:List D->Rho->Option Rho:=λds ρ=>match ds with
 | []=>some ρ
 |_=>none
def bE(g:D->Rho->Option Rho)(gs:List D->Rho->Option Rho):List D->Rho->Option Rho:=λds ρ=>match ds with
 |d::ds=>(g d ρ).bind fun ρ1=>gs ds ρ1
 |_=>none
theorem lJ:MGs EZ gM:=λF B H σ ρ vs ds ρ' Q R rp e q=>by
 cases rp with
 |nil=>cases e;exact⟨rfl,q B H σ R (aD.refl _)⟩
 |cons _ _=>cases e
theorem cq(h:MG g m)(hs:MGs gs ms):MGs (vN g gs) (bE m ms):=λF B H σ ρ vs ds ρ' Q R rp e q=>by
 cases rp with
 |nil=>cases e
 |cons r rs=>
  obtain⟨ρ1,e1,e2⟩:=zaa e;exact⟨_,_,rfl,h F B H σ ρ _ _ ρ1 _ R r e1 λB1 H1 σ1 R1 s1=>hs F B1 H1 σ1 ρ1 _ _ ρ' Q R1 (rs.mono s1) e2 λB2 H2 σ2 R2 s2=>q B2 H2 σ2 R2 (s1.trans s2)⟩
def mgT(n:Nat)(ms:List D->Rho->Option Rho):D->Rho->Option Rho:=λd ρ=>(asT d).bind λds=>if ds.length=n then ms ds ρ else none
def oY(a:PM)(g:D->Rho->Option Rho):SM:=fun ρ=>(sv a ρ).bind λx=>(kP x.1 x.2).bind λy=>(g y.1 y.2).map .nx
theorem pT(ha:ME t a)(hg:MG tg g):MS (AK t tg) (oY a g):=by
 intro F B H σ ρ o D R e q;obtain⟨x,e1,e⟩:=zaa e;obtain⟨y,e2,e⟩:=zaa e;obtain⟨ρ2,e3,e⟩:=zab e;cases e;refine ha.sv F B H σ ρ x.1 x.2 _ R e1 λv B1 H1 E1 R1 V1 N1=>?_
 have w:CZ B1 σ v x.1:=(Vl.weak (F:=F) (H:=H1) (ρ:=x.2) (vs:=[v]) (rs:=[x.1]) ⟨⟨V1,jX e1⟩,trivial⟩).1;obtain⟨B2,R2,rp,E2⟩:=R1.frz w e2;exact hg F B2 H1 σ y.2 v y.1 ρ2 _ R2 rp e3 λB' H' σ' R' _=>q B' H' σ' R'
def KZ(i:Nat)(a:PM):D->Rho->Option Rho:=λd ρ=>(qp ρ[i]?).bind λ_=>((sv a ρ).bind asI).bind λy=>(qp y.2[i]?).bind λds=>(ixN ds.length y.1).map λj=>putAt y.2 i (.list (ds.set j d))
def gN(c:Rho->Option (Bool×Rho))(b:SM):Nat->SM
 |0=>λ_=>none
 |n+1=>fun ρ=>(c ρ).bind λx=>if x.1=true then(b x.2).bind λo=>match o with
   | .nx ρ'=>gN c b n ρ'
   | .ct ρ'=>gN c b n ρ'
   | .bk ρ'=>some (.nx ρ')
   | .rt r ρ'=>some (.rt r ρ')
  else some (.nx x.2)
theorem C3(hc:MT tc c)(hb:MS tb b):MS (Cq tc tb) (gN c b n):=by
 intro F B H σ ρ o D R e q;refine⟨λm σ H=>∃B ρ,Rel F B H σ ρ/\gN c b m ρ=some o,⟨n,B,ρ,R,e⟩,?_⟩
 rintro m σ1 H1 ⟨B1,ρ1,R1,e1⟩
 cases m with
 |zero=>cases e1
 |succ m=>
  obtain⟨x,e2,e3⟩:=zaa (show(c ρ1).bind _=some o from e1);refine hc F B1 H1 σ1 ρ1 x.1 x.2 _ R1 e2 λB2 H2 E2 R2=>?_
  by_cases h:x.1=true
  ·rw[if_pos h]at e3⊢
   obtain⟨w,e4,e5⟩:=zaa e3;refine⟨fun σ' H'=>∃B' ρ',Rel F B' H' σ' ρ'/\gN c b m ρ'=some o,fun σ' H' h'=>⟨m,Nat.lt_succ_self _,h'⟩,?_⟩
   refine hb F B2 H2 σ1 x.2 w _ R2 e4 ?_;cases w with
   |nx ρ'=>exact λB' H' σ' R'=>⟨B',ρ',R',e5⟩
   |ct ρ'=>exact λB' H' σ' R'=>⟨B',ρ',R',e5⟩
   |bk ρ'=>cases e5;exact q
   |rt r ρ'=>cases e5;exact q
  ·rw[if_neg h]at e3⊢
   cases e3;exact q B2 H2 σ1 R2
def forL(g:D->Rho->Option Rho)(b:SM):List D->SM
 | []=>fun ρ=>some (.nx ρ)
 |d::ds=>fun ρ=>(g d ρ).bind fun ρ1=>(b ρ1).bind λo=>match o with
   | .nx ρ'=>forL g b ds ρ'
   | .ct ρ'=>forL g b ds ρ'
   | .bk ρ'=>some (.nx ρ')
   | .rt r ρ'=>some (.rt r ρ')
def xW(it:Rho->Option (List D×Rho))(g:D->Rho->Option Rho)(b:SM):SM:=fun ρ=>(it ρ).bind λx=>forL g b x.1 x.2
section
variable{F:Fr}{B B1 H H1:Hp}{σ σ1:St}{ρ ρ1:Rho}
theorem Rel.up(R1:Rel F B1 H1 σ1 ρ1)(R:Rel ⟨B1,F.H,F.io,F.Z⟩ B H σ ρ):Rel F B H σ ρ :=
 ⟨R.sub,R1.sB.trans R.sB,R.sH,λq h z=>R.nB q h (R1.nB q h z),R.len,R.slot,R.dist,R.jD,R.fx,R.ioN,R.cO,R.exv,R.nz⟩
theorem Rel.down(R1:Rel F B1 H1 σ1 ρ1):Rel ⟨B1,F.H,F.io,F.Z⟩ B1 H1 σ1 ρ1 :=
 ⟨R1.sub,aD.refl _,R1.sH,λq h z=>z,R1.len,R1.slot,R1.dist,R1.jD,R1.fx,R1.ioN,R1.cO,R1.exv,R1.nz⟩
end
theorem kQ.down(R1:Rel F B1 H1 σ1 ρ1){D:Ends}{o:Out}(h:kQ F D o):kQ ⟨B1,F.H,F.io,F.Z⟩ D o:=by
 cases o with
 |nx ρ=>exact λB H σ R=>h B H σ (R1.up R)
 |bk ρ=>exact λB H σ R=>h B H σ (R1.up R)
 |ct ρ=>exact λB H σ R=>h B H σ (R1.up R)
 |rt r ρ=>exact λv B H σ R V=>h v B H σ (R1.up R) V
theorem xX(hi:MF ti it)(hg:MG tg g)(hb:MS tb b):MS (vP ti tg tb) (xW it g b):=by
 intro F B H σ ρ o D R e q;obtain⟨x,e1,e⟩:=zaa e;refine hi F B H σ ρ x.1 x.2 _ R e1 λJ B1 H1 E1 R1 I1=>?_
 obtain⟨ds,ρ1⟩:=x;have q':=q.down R1;refine⟨λi m σ H=>m=ds.length-i/\i<=ds.length/\∃B ρ,Rel ⟨B1,F.H,F.io,F.Z⟩ B H σ ρ/\forL g b (ds.drop i) ρ=some o,⟨ds.length,rfl,Nat.zero_le _,B1,ρ1,R1.down,e⟩,?_⟩
 rintro i m σ2 H2 ⟨rfl,hil,B2,ρ2,R2,e2⟩
 have sH:aD B1 H2:=R2.sB.trans R2.sub
 by_cases hlt:i<ds.length
 ·refine .inr ?_
  obtain⟨go,yl⟩:=(I1 H2 sH).2 i ds[i] (zaC hlt);rw[zbb hlt]at e2;obtain⟨ρ3,e3,e4⟩:=zaa (show(g ds[i] ρ2).bind _=some o from e2);obtain⟨w,e5,e6⟩:=zaa e4;refine⟨go,fun σ' H'=>∃B' ρ',Rel ⟨B1,F.H,F.io,F.Z⟩ B' H' σ' ρ'/\forL g b (ds.drop (i+1)) ρ'=some o,fun σ' H' h'=>⟨ds.length-(i+1),by omega,rfl,hlt,h'⟩,λy H3 hy=>?_⟩
  have had:∃B3,Rel ⟨B1,F.H,F.io,F.Z⟩ B3 H3 σ2 ρ2/\Rep B3 y ds[i]:=by
   rcases yl y H3 hy with⟨rfl,h2⟩|⟨p,xs,cs,h1,rfl,h3,rfl,h5⟩
   ·exact⟨B2,R2,h2.mono R2.sB⟩
   ·obtain⟨R3,E3,e3⟩:=R2.oz (xs:=xs) h3
    exact⟨_,R3,by rw[h1];exact .tup ar (h5.mono (R2.sB.trans e3))⟩
  obtain⟨B3,R3,rp⟩:=had;refine hg _ B3 H3 σ2 ρ2 y ds[i] ρ3 _ R3 rp e3 λB4 H4 σ4 R4 _=>?_
  refine hb _ B4 H4 σ4 ρ3 w _ R4 e5 ?_;cases w with
  |nx ρ'=>exact λB' H' σ' R'=>⟨B',ρ',R',e6⟩
  |ct ρ'=>exact λB' H' σ' R'=>⟨B',ρ',R',e6⟩
  |bk ρ'=>cases e6;exact q'
  |rt r ρ'=>cases e6;exact q'
 ·have hi':i=ds.length:=by omega
  subst hi';rw[List.drop_length]at e2;cases e2;exact .inl ⟨(I1 H2 sH).1,q' B2 H2 σ2 R2⟩
def AX:Out->Option (D×Bool)
 | .rt (d,.fz) _=>some (d,false)
 | .rt (d,.new) _=>some (d,true)
 | .rt (_,.at i) ρ=>match ρ[i]? with
  |some (.own d)=>some (d,true)
  |_=>none
 | .nx _=>some (.none,false)
 |_=>none
def fnM(n k:Nat)(b:SM)(ds:List D):Option (D×Bool):=if ds.length=n then(b (ds.map .fz++List.replicate k .no)).bind AX else none
theorem gg(hb:MS t b)(hN:N.length=n+k)(h:spM (fnM n k b) vs H Q E):t {nx:=λ_ H'=>Q .non H',rt:=Q} (L2.start N vs) H:=by
 obtain⟨B,ds,d,o,sub,tB,rp,e,q⟩:=h;unfold fnM at e;split at e
 case isFalse=>cases e
 rename_i hl
 obtain⟨w,e1,e2⟩:=zaa e;have hvl:vs.length=n:=rp.length.trans hl;have lY:∀(i:Nat) (s:Sl),(ds.map Sl.fz++List.replicate k .no)[i]?=some s->s.isRef=true->False:=λi s h1 h2=>by
  have:=zaj h1;rcases zae this with h|h
  ·obtain⟨c,_,rfl⟩:=List.mem_map.mp h;cases h2
  ·rw[zaG h]at h2;cases h2
 have ex0:∀i:Nat,(ds.map Sl.fz++List.replicate k .no)[i]?=some Sl.ex->False:=λi h1=>by
  have:=zaj h1;rcases zae this with h|h
  ·obtain⟨c,_,z⟩:=List.mem_map.mp h;cases z
  ·have:=zaG h;cases this
 have R:Rel ⟨B,H,[],λq=>H q≠none⟩ B H (L2.start N vs) (ds.map .fz++List.replicate k .no):=by
  refine⟨sub,aD.refl _,λ_ _ z _=>z,λ_ _ z=>z,?_,λi s hs=>?_,λi j s t p h1 h2=>(lY i s h1 (Sl.f9 h2)).elim,λi c p h1=>(lY i _ h1 rfl).elim,(λx hx=>by cases hx),λi c h1=>(lY i _ h1 rfl).elim,tB,(λi h1=>(ex0 i h1).elim),λq o u h z=>by rw[z]at h;cases h⟩
  ·simp[L2.start,hl,hvl,hN]
  ·by_cases hi:i<n
   ·rw[zax (by simpa[hl]using hi),zao]at hs
    obtain⟨c,h1,rfl⟩:=zab hs;obtain⟨x,h2,h3⟩:=rp.get i c h1;refine⟨x,?_,h3⟩;unfold L2.start;rw[zax (by simpa[hvl]using hi),zao,h2]
    rfl
   ·rw[zaN (by simpa[hl]using zba hi)]at hs
    have:=zaG (zaj hs);subst this;trivial
 refine hb _ B H _ _ w _ R e1 ?_;have post:∀{B' H':Hp} {σ':St} {ρ':Rho},Rel ⟨B,H,[],λq=>H q≠none⟩ B' H' σ' ρ'->aD H H'/\aD B B'/\aD B' H'/\(∀q,H q≠none->B q=none->B' q=none)/\(∀q xs,H' q=some (.tup xs)->B' q=some (.tup xs))/\∀q o u,H' q=some (.frz o u)->H q≠none:=λR'=>
  ⟨λq u z=>R'.sH q u z (λx hx=>by cases hx),R'.sB,R'.sub,R'.nB,R'.cO,R'.nz⟩
 cases w with
 |nx ρ'=>
  cases e2;intro B' H' σ' R';obtain⟨p1,p2,p3,p4,p5,p6⟩:=post R';exact q _ B' H' ⟨p1,p2,p3,p4,p5,p6,.non⟩
 |bk ρ'=>cases e2
 |ct ρ'=>cases e2
 |rt r ρ'=>
  intro v B' H' σ' R' V';obtain⟨p1,p2,p3,p4,p5,p6⟩:=post R';obtain⟨c,kd⟩:=r;cases kd with
  |fz=>cases e2;exact q v B' H' ⟨p1,p2,p3,p4,p5,p6,V'⟩
  |new=>
   cases e2;obtain⟨p,rfl,h1,h2,h3,_⟩:=V';exact q _ B' H' ⟨p1,p2,p3,p4,p5,p6,⟨p,rfl,h2,h1,h3⟩⟩
  |ro=>cases e2
  | «at» i=>
   obtain⟨s,h1,h2,h3,h4⟩:=V';have e2':(match ρ'[i]? with
    |some (.own d)=>some (d,true)
    |_=>none)=some (d,o):=e2
   rw[h1]at e2';cases s with
   |own c'=>
    cases e2';obtain⟨p,g1,g2,g3⟩:=R'.slot i _ h1;have h4' : σ'[i]?=some (some v):=h4;rw[h4']at g1;cases g1;exact q _ B' H' ⟨p1,p2,p3,p4,p5,p6,⟨p,rfl,R'.jD i _ p h1 h4',g2,g3⟩⟩
   |_=>cases e2'
theorem eO(h:spM (fnM n k b) vs H Q E):vs.length=n:=by
 obtain⟨B,ds,d,o,sub,tB,rp,e,q⟩:=h;unfold fnM at e;split at e
 ·rename_i hl;exact rp.length.trans hl
 ·cases e
end Mir
namespace Mir
open PySem L2 PySem.Spec PyProof.Rows
variable [Zc]
section
variable{X:Cx}
def Hv:R2:=λx y H Q=>∃l b xs zs,x=.ref l/\y=.ref b/\Rd H l (.lst xs)/\Rd H b (.lst zs)/\xs.length+zs.length<=sizeLine/\∀p,H p=none->Q (.ref p) (upd H p (.lst (xs++zs)))
theorem Fv:OpR X (binaryOp .Add) Hv:=by
 intro pins s σ H x y v u Q I rx ry h;obtain⟨l,b,xs,zs,rfl,rfl,hH,hB,hz,q⟩:=h;cases rx;cases ry;obtain⟨z,its,n,r,e⟩:=hH.ok I.hok;obtain⟨z2,its2,n2,r2,e2⟩:=hB.ok I.hok;have hl:=r.length;have hl2:=r2.length;refine PySem.P.add_list e e2 ?_ (by rw[zaK,zaK];omega)
 have ea:its.toArray++its2.toArray=(its++its2).toArray:=by simp
 rw[ea];exact⟨.ref _,_,I.KP (t':=s.toks) (r.append r2) (by rw[zau];omega),rfl,q _ I.fresh⟩
def uu(K:zag):R2:=λx y H Q=>rI0 (λi j=>.int (i+j)) x y H Q\/Hv x y H Q\/(∃i j,x=.str i/\y=.str j/\i.length+j.length<=sizeLine/\Q (.str (i++j)) H)\/Ho K x y H Q
theorem zz:OpR X (binaryOp .Add) (uu X.K):=IK.or (Fv.or (xP.or Fc))
end
theorem iW(h:∀Q:VK,Q (.int i) H->k Q):mW B H (.int i,false) k:=⟨_,.int i,h⟩
theorem fN(h:∀Q:VK,Q (.bl i) H->k Q):mW B H (.bool i,false) k:=⟨_,.bl i,h⟩
theorem Fw(h:∀Q:VK,Q (.str i) H->k Q):mW B H (.str i,false) k:=⟨_,.str i,h⟩
def et:D->D->Option (D×Bool)
 | .int i,.int j=>some (.int (i+j),false)
 | .list a,.list b=>cIf (a.length+b.length<=sizeLine) (some (.list (a++b),true)) none
 | .str a,.str b=>cIf (a.length+b.length<=sizeLine) (some (.str (a++b),false)) none
 | .tuple (c::a),.tuple b=>cIf ((c::a).length+b.length<=sizeLine/\b≠[]) (some (.tuple ((c::a)++b),true)) none
 |_,_=>none
theorem gA{K:zag}:OpJ (uu K) et:=by
 intro B H x y c d res s hx hy e;unfold et at e;split at e
 ·cases e
  have h1:=hx.int;have h2:=hy.int;subst h1 h2
  exact iW λQ q=>.inl ⟨_,_,rfl,rfl,q⟩
 ·obtain⟨hz,e⟩:=cW e
  ·cases e
   obtain⟨p,xs,rfl,r1,rp1⟩:=hx.list s;obtain⟨p2,ys,rfl,r2,rp2⟩:=hy.list s;exact⟨xs++ys,rp1.append rp2,λQ q=>.inr (.inl ⟨_,_,_,_,rfl,rfl,r1,r2,by rw[rp1.length,rp2.length];exact hz,q⟩)⟩
 ·obtain⟨hz,e⟩:=cW e
  ·cases e
   have h1:=hx.str;have h2:=hy.str;subst h1 h2
   exact Fw λQ q=>.inr (.inr (.inl ⟨_,_,rfl,rfl,hz,q⟩))
 ·obtain⟨hz,e⟩:=cW e
  ·cases e
   obtain⟨p,xs,rfl,r1,rp1⟩:=hx.tuple s;obtain⟨p2,ys,rfl,r2,rp2⟩:=hy.tuple s;have hne:xs≠[]:=by intro z;subst z;cases rp1
   have Mp:ys≠[]:=by intro z;subst z;cases rp2;exact hz.2 rfl
   refine⟨xs++ys,rp1.append rp2,λQ q=>.inr (.inr (.inr ⟨_,_,xs,ys,rfl,rfl,.inl (.inl r1),.inl (.inl r2),?_⟩))⟩
   exact⟨hne,by rw[rp1.length,rp2.length];exact hz.1,λz=>absurd z Mp,λ_=>q⟩
 ·cases e
def gI(C:Int->Int->Prop)(f:Int->Int->Int):D->D->Option (D×Bool)
 | .int i,.int j=>cIf (C i j) (some (.int (f i j),false)) none
 |_,_=>none
theorem J_I:OpJ (rI C λi j=>.int (f i j)) (gI C f):=by
 intro B H x y c d res s hx hy e;unfold gI at e;split at e
 ·obtain⟨hc,e⟩:=cW e
  ·cases e
   have h1:=hx.int;have h2:=hy.int;subst h1 h2
   exact iW λQ q=>⟨_,_,rfl,rfl,hc,q⟩
 ·cases e
def gI0(f:Int->Int->Int):D->D->Option (D×Bool)
 | .int i,.int j=>some (.int (f i j),false)
 |_,_=>none
theorem Jr:OpJ (rI0 λi j=>.int (f i j)) (gI0 f):=by
 intro B H x y c d res s hx hy e;unfold gI0 at e;split at e
 ·cases e
  have h1:=hx.int;have h2:=hy.int;subst h1 h2
  exact iW λQ q=>⟨_,_,rfl,rfl,q⟩
 ·cases e
def gB0(f:Int->Int->Bool):D->D->Option (D×Bool)
 | .int i,.int j=>some (.bool (f i j),false)
 |_,_=>none
theorem xY:OpJ (rI0 λi j=>.bl (f i j)) (gB0 f):=by
 intro B H x y c d res s hx hy e;unfold gB0 at e;split at e
 ·cases e
  have h1:=hx.int;have h2:=hy.int;subst h1 h2
  exact fN λQ q=>⟨_,_,rfl,rfl,q⟩
 ·cases e
abbrev Cp:=gI0 λi j=>i-j
abbrev gLt:=gB0 λi j=>decide (i<j)
abbrev gGt:=gB0 λi j=>decide (j<i)
abbrev mZ:=gI IH λi j=>i/j
abbrev d5:=gI (λ_ j=>0<j) λi j=>i%j
abbrev C4:=gI II λi j=>i^j.toNat
section
variable{X:Cx}
def zA:R2:=λx y H Q=>rI IntMulOk (λi j=>.int (i*j)) x y H Q\/KQ x y H Q
theorem zB:OpR X (binaryOp .Mult) zA:=Fj.or IX
end
def xZ:D->D->Option (D×Bool)
 | .int i,.int j=>cIf (IntMulOk i j) (some (.int (i*j),false)) none
 |_,_=>none
theorem Hw:OpJ zA xZ:=by
 intro B H x y c d res s hx hy e;unfold xZ at e;split at e
 ·obtain⟨hc,e⟩:=cW e
  ·cases e
   have h1:=hx.int;have h2:=hy.int;subst h1 h2
   exact iW λQ q=>.inl ⟨_,_,rfl,rfl,hc,q⟩
 ·cases e
mutual
theorem Rep.data{K:zag}:∀{v:V} {d:D},Rep H v d->d.canLay0=true->gy K H v d
 |_,_,.non,_=>.non
 |_,_,.bl b,_=>.bl b
 |_,_,.int i,_=>.int i
 |_,_,.str x,_=>.str x
 |_,_,.lst h r,e=>.lst (jF h) (aP.data r (by simpa[PyData.canLay0]using e))
 |_,_,.tup h r,e=>.tup (.inl (.inl h)) (aP.data r (by simpa[PyData.canLay0]using e))
 |_,_,.dct _ _,e=>by simp[PyData.canLay0]at e
theorem aP.data{K:zag}:∀{v:List V} {d:List D},aP H v d->PyData.canLayAll0 d=true->ix K H v d
 |_,_,.nil,_=>.nil
 |_,_,.cons a b,e=>by
  simp only[PyData.canLayAll0,Bool.and_eq_true]at e;exact .cons (Rep.data a e.1) (aP.data b e.2)
end
def gEq:D->D->Option (D×Bool):=λc d=>if SeqAt.shaped c=true/\SeqAt.shaped d=true then some (.bool (PyData.eqv c d),false)else none
def gNe:D->D->Option (D×Bool):=λc d=>if SeqAt.shaped c=true/\SeqAt.shaped d=true then some (.bool (!PyData.eqv c d),false)else none
theorem m3{K:zag}:OpJ (Jd K) gEq:=by
 intro B H x y c d res s hx hy e;unfold gEq at e;split at e
 ·rename_i h
  cases e;exact fN λQ q=>⟨_,_,(hx.rep s).data (SeqAt.canLay_of_shaped h.1),(hy.rep s).data (SeqAt.canLay_of_shaped h.2),h.1,h.2,q⟩
 ·cases e
theorem qr{K:zag}:OpJ (Je K) gNe:=by
 intro B H x y c d res s hx hy e;unfold gNe at e;split at e
 ·rename_i h
  cases e;exact fN λQ q=>⟨_,_,(hx.rep s).data (SeqAt.canLay_of_shaped h.1),(hy.rep s).data (SeqAt.canLay_of_shaped h.2),h.1,h.2,q⟩
 ·cases e
def isNone:D->Bool
 | .none=>true
 |_=>false
theorem Rep.isNone(h:Rep H v d):decide (v=.non)=Mir.isNone d:=by cases h<;>rfl
def gIs:D->D->Option (D×Bool)
 |c,.none=>some (.bool (isNone c),false)
 |_,_=>none
def oB:D->D->Option (D×Bool)
 |c,.none=>some (.bool (!isNone c),false)
 |_,_=>none
theorem zC:OpJ (λx y H Q=>y=.non/\Q (.bl (!decide (x=.non))) H) oB:=by
 intro B H x y c d res s hx hy e;unfold oB at e;split at e
 ·cases e
  exact fN λQ q=>⟨hy.none,by rw[(hx.rep s).isNone];exact q⟩
 ·cases e
def Mq:D->Option (D×Bool)
 | .int i=>some (.int (-i),false)
 |_=>none
def gIx:D->D->Option (D×Bool)
 | .list ds,.int i=>(atI ds i).map λd=>(d,false)
 | .tuple ds,.int i=>(atI ds i).map λd=>(d,false)
 |_,_=>none
theorem aP.atI(r:aP H vs ds)(h:L2.atI ds i=some d):∃v,L2.atI vs i=some v/\Rep H v d:=by
 unfold L2.atI at h⊢;rw[r.length];obtain⟨j,h1,h2⟩:=zaa h;obtain⟨v,h3,h4⟩:=r.get j d h2;exact⟨v,by rw[h1];exact h3,h4⟩
theorem b9{K:zag}:OpJ (rIx K) gIx:=by
 intro B H x y c d res s hx hy e;unfold gIx at e;split at e
 ·obtain⟨w,h1,h2⟩:=zab e
  cases h2;obtain⟨p,xs,rfl,r1,rp1⟩:=hx.list s;have h2:=hy.int;subst h2
  obtain⟨v,h3,h4⟩:=rp1.atI h1;exact⟨v,h4,λQ q=>.inl ⟨_,_,_,_,rfl,rfl,jF r1,h3,q⟩⟩
 ·obtain⟨w,h1,h2⟩:=zab e
  cases h2;obtain⟨p,xs,rfl,r1,rp1⟩:=hx.tuple s;have h2:=hy.int;subst h2
  obtain⟨v,h3,h4⟩:=rp1.atI h1;exact⟨v,h4,λQ q=>.inr (.inl ⟨_,_,_,_,rfl,rfl,.inl (.inl r1),h3,q⟩)⟩
 ·cases e
def cutD(ds:List D)(lo hi:Option Int):List D:=(ds.drop (HT.sIx ds.length 0 lo)).take (HT.sIx ds.length ds.length hi-HT.sIx ds.length 0 lo)
theorem aP.cut(r:aP H vs ds)(lo hi:Option Int):aP H (KH vs lo hi) (cutD ds lo hi):=by
 unfold KH cutD;rw[r.length];exact(r.drop _).take _
def gSl:D->Option Int->Option Int->Option (D×Bool)
 | .list ds,lo,hi=>some (.list (cutD ds lo hi),true)
 |_,_,_=>none
def dN:List D->Option (D×Bool)
 | [.list ds]=>some (.int ds.length,false)
 | [.tuple ds]=>some (.int ds.length,false)
 | [.str x]=>cIf (x.length<=sizeLine) (some (.int x.length,false)) none
 |_=>none
theorem gO(h:Views B H vs [d]):∃v,vs=[v]/\View B H v d:=by
 match vs,h with
 | [v],⟨h,_⟩=>exact⟨v,rfl,h⟩
theorem gB{K:zag}:mX (Jh K) dN:=by
 intro B H vs ds res s h e;unfold dN at e;split at e
 ·cases e
  obtain⟨v,rfl,hh⟩:=gO h;obtain⟨p,xs,rfl,r1,rp1⟩:=hh.list s;exact iW λQ q=>.inl ⟨_,_,rfl,.inl (jF r1),by rw[rp1.length];exact q⟩
 ·cases e
  obtain⟨v,rfl,hh⟩:=gO h;obtain⟨p,xs,rfl,r1,rp1⟩:=hh.tuple s;exact iW λQ q=>.inl ⟨_,_,rfl,.inr (.inl (.inl r1)),by rw[rp1.length];exact q⟩
 ·obtain⟨hz,e⟩:=cW e
  ·cases e
   obtain⟨v,rfl,hh⟩:=gO h;have:=hh.str;subst this
   exact iW λQ q=>.inr ⟨_,rfl,hz,q⟩
 ·cases e
def Mr:List D->Option (D×Bool)
 | [.int i,.int j]=>some (.int (if j>i then j else i),false)
 |_=>none
def Ms:List D->Option (D×Bool)
 | [.int i,.int j]=>some (.int (if j<i then j else i),false)
 |_=>none
def Mt:List D->Option (D×Bool)
 | [.int i]=>some (.int (if i<0 then-i else i),false)
 |_=>none
def Mu:List D->Option (D×Bool)
 | [.int i]=>some (.int i,false)
 | [.bool b]=>some (.int (if b then 1 else 0),false)
 |_=>none
def boolsOf:List D->Option (List Bool)
 | []=>some []
 | .bool i::ds=>(boolsOf ds).map (i::·)
 |_=>none
theorem aP.bools:∀{vs:List V} {ds:List D} {ns:List Bool},aP H vs ds->boolsOf ds=some ns->vs=ns.map V.bl
 |_,_,_,.nil,e=>by cases e;rfl
 |_,_,_,.cons (d:=d) a b,e=>by
  cases d with
  |bool i=>
   obtain⟨ms,h1,h2⟩:=zab (show(boolsOf _).map _=some _ from e);cases h2;cases a;rw[zaz,aP.bools b h1]
  |_=>cases e
def Js:List D->Option (D×Bool)
 | [.list ds]=>(boolsOf ds).map λns=>(.bool (ns.all id),false)
 |_=>none
theorem K0{K:zag}:mX (Jc K) Js:=by
 intro B H vs ds res s h e;unfold Js at e;split at e
 ·obtain⟨ns,h1,h2⟩:=zab e
  cases h2;obtain⟨v,rfl,hh⟩:=gO h;obtain⟨p,xs,rfl,r1,rp1⟩:=hh.list s;have:=rp1.bools h1;subst this
  exact fN λQ q=>⟨_,_,rfl,jF r1,q⟩
 ·cases e
def sQ:List D->Option (D×Bool)
 | [.list ds]=>some (.list ds,true)
 | [.tuple ds]=>some (.list ds,true)
 |_=>none
theorem C5{K:zag}:mX (λxs H Q=>∃p ys,xs=[.ref p]/\(SqL K H p ys\/SqT K H p ys)/\∀l,H l=none->Q (.ref l) (upd H l (.lst ys))) sQ:=by
 intro B H vs ds res s h e;unfold sQ at e;split at e
 ·cases e
  obtain⟨v,rfl,hh⟩:=gO h;obtain⟨p,xs,rfl,r1,rp1⟩:=hh.list s;exact⟨xs,rp1,λQ q=>⟨_,_,rfl,.inl (jF r1),q⟩⟩
 ·cases e
  obtain⟨v,rfl,hh⟩:=gO h;obtain⟨p,xs,rfl,r1,rp1⟩:=hh.tuple s;exact⟨xs,rp1,λQ q=>⟨_,_,rfl,.inr (.inl (.inl r1)),q⟩⟩
 ·cases e
def tyD:D->String
 | .none=>"NoneType"
 | .bool _=>"bool"
 | .int _=>"int"
 | .str _=>"str"
 | .list _=>"list"
 | .tuple _=>"tuple"
 | .dict _=>"?"
theorem Rep.ty(h:Rep H v d)(hd:tyD d≠"?"):tyN H v=tyD d:=by
 cases h with
 |non=>rfl
 |bl _=>rfl
 |int _=>rfl
 |str _=>rfl
 |lst h _=>
  rcases h with h|⟨o,h⟩
  ·unfold tyN;simp only[h];rfl
  ·unfold tyN;simp only[h];rfl
 |tup h _=>unfold tyN;simp only[h];rfl
 |dct _ _=>exact absurd rfl hd
def gC(n:String):D->Option (D×Bool):=λd=>if tyD d≠"?"/\n∈cy then some (.bool (iO (tyD d) n),false)else none
def oD(n:String)(a:PM):PM:=mUn (gC n) a
theorem qt(ha:ME ta a):ME (tCB Jb (fB ta (fB (tC (.ty n)) pF))) (oD n a):=by
 intro F B H σ ρ r0 ρ' Q R e q;obtain⟨x,e1,e⟩:=zaa e;obtain⟨res,e4,e⟩:=zab e;cases e;refine ha.sv F B H σ ρ x.1 x.2 _ R e1 λv B1 H1 E1 R1 V1 N1=>?_
 unfold gC at e4;split at e4
 ·rename_i hd
  cases e4;have rp:=(V1.view R1).rep R1.sub;have ht:=rp.ty hd.1;have hk:tyD x.1.1∈cV:=by
   have h2:=hd.1
   revert h2
   cases x.1.1 with
   |none=>intro _;show "NoneType"∈cV;decide
   |bool _=>intro _;show "bool"∈cV;decide
   |int _=>intro _;show "int"∈cV;decide
   |str _=>intro _;show "str"∈cV;decide
   |list _=>intro _;show "list"∈cV;decide
   |tuple _=>intro _;show "tuple"∈cV;decide
   |dict _=>intro h2;exact absurd rfl h2
  exact⟨v,n,rfl,by rw[ht];exact hk,hd.2,by rw[ht];exact q _ B1 H1 E1 R1 (.bl _) λp z=>by cases z⟩
 ·cases e4
def qu:D->Bool
 | .none=>true
 | .bool _=>true
 | .int _=>true
 | .str _=>true
 |_=>false
theorem Rep.flat(h:Rep H v d)(e:qu d=true):KN v=true:=by cases h<;>first|rfl|cases e
theorem Rep.eqv(h:Rep H v c)(g:Rep H w d)(e:qu c=true)(e':qu d=true):eqV v w=PyData.eqv c d:=by
 cases h<;>first|(cases e;done)|(cases g<;>first|(cases e';done)|(simp[eqV,PyData.eqv]))
theorem aP.countP(g:Rep H w d)(e':qu d=true):∀{vs:List V} {ds:List D},aP H vs ds->ds.all qu=true->vs.countP (λz=>eqV z w)=ds.countP λc=>PyData.eqv c d
 |_,_,.nil,_=>rfl
 |_,_,.cons a b,e=>by
  simp only[List.all_cons,Bool.and_eq_true]at e;rw[List.countP_cons,List.countP_cons,aP.countP g e' b e.2,a.eqv g e.1 e']
def iX:List D->List D->Option (List D×D):=λds as=>match as with
 | [d]=>cIf (ds.length<sizeLine) (some (ds++[d],.none)) none
 |_=>none
theorem qv:wb mS iX:=by
 intro B H p xs ds vs as w hp rx s rv e;unfold iX at e;split at e
 ·obtain⟨hz,e⟩:=cW e
  ·cases e
   cases rv with
   |cons a b=>
    cases b;exact⟨_,_,rx.append (.cons a .nil),.non,λQ q=>⟨_,_,_,rfl,rfl,hp,by rw[rx.length];exact hz,q⟩⟩
 ·cases e
def Mv:List D->List D->Option (List D×D):=λds as=>match as with
 | []=>(ds[ds.length-1]?).map λd=>(ds.dropLast,d)
 |_=>none
def mm:List D->List D->Option (List D×D):=λds as=>match as with
 | []=>some ([],.none)
 |_=>none
theorem Fx:wb CK mm:=by
 intro B H p xs ds vs as w hp rx s rv e;unfold mm at e;split at e
 ·cases e
  cases rv;exact⟨_,_,.nil,.non,λQ q=>⟨_,_,rfl,rfl,hp,q⟩⟩
 ·cases e
def m4:List D->List D->Option (List D×D):=λds as=>match as with
 | []=>some (ds.reverse,.none)
 |_=>none
theorem AY:wb vS m4:=by
 intro B H p xs ds vs as w hp rx s rv e;unfold m4 at e;split at e
 ·cases e
  cases rv;exact⟨_,_,rx.reverse,.non,λQ q=>⟨_,_,rfl,rfl,hp,q⟩⟩
 ·cases e
end Mir
namespace Mir
open PySem L2 PySem.Spec PyProof.Rows
variable [Zc]
section
variable{X:Cx}{K:zag}
theorem dE(h:X.K=K):OpR X (binaryOp .Add) (uu K):=h▸zz
theorem fO(h:X.K=K)(hu:X.A.units+64<cLine):OpR X (compareOp .Eq) (Jd K):=h▸Jf hu
theorem iy(h:X.K=K)(hu:X.A.units+64<cLine):OpR X (compareOp .NotEq) (Je K):=h▸Jg hu
theorem aE(h:X.K=K):IxR X (rIx K):=h▸IV
theorem cu(h:X.K=K):d7 X (.builtin "len") (Jh K):=h▸AS
theorem AZ(h:X.K=K)(hc:X.calm=true):d7 X (.builtin "all") (Jc K):=h▸CP hc
theorem qw(h:X.K=K):d7 X (.type "list") (λxs H Q=>∃p ys,xs=[.ref p]/\(SqL K H p ys\/SqT K H p ys)/\∀l,H l=none->Q (.ref l) (upd H l (.lst ys))):=h▸uf
variable{tg l o e:Expr}{es:List Expr}{tl to:TE}{t:TA}{name:Str}{apos cpos:Pos}{T id:String}{r:V->List V->Hp->VK->Prop}
theorem wc(h:X.K=K)(hl:PE X l tl):PI X tg l (zj K tl):=h▸E6 hl
theorem Fy(h:X.K=K)(hl:PE X l tl):PI X tg l (ID K tl):=h▸IF hl
theorem pU(h:X.K=K)(pa:PlainAttrs T)(slot:Slot T name id)(hty:typeOf (.builtin id)=pure (.type "method_descriptor"))(hm:MtR X id r)(ho:PE X o to)
  (hbase:attributeBase o name X.env (eval o X.env)=eval o X.env:=by rfl) (hline:(apos.endLine==cpos.line)=true:=by rfl):PE X (.Call (.Attribute o name apos) [] [] cpos) (CH K T r to):=h▸IW pa slot hty hm ho hbase hline
theorem mn(h:X.K=K)(pa:PlainAttrs T)(slot:Slot T name id)(hty:typeOf (.builtin id)=pure (.type "method_descriptor"))(hm:MtR X id r)(ho:PE X o to)(ha:PA X (e::es) t)
  (hbase:attributeBase o name X.env (eval o X.env)=eval o X.env:=by rfl)
  (hfew:((backTo cpos (starEach (e::es) X.env)).all (λx=>!x.1)&&(backToKw cpos (keywordEach [] X.env)).all (λx=>x.1.isSome)
   &&decide ((e::es).length+([]:List Keyword).length+(if([]:List Keyword).isEmpty then 0 else 1)<30))=true:=by rfl)
  (hline:(apos.endLine==cpos.line)=true:=by rfl) (hs:starEach (e::es) X.env=(false,eval e X.env)::starEach es X.env:=by rfl) (hplain:(backTo cpos (starEach es X.env)).any (·.1)=false:=by rfl) :
  PE X (.Call (.Attribute o name apos) (e::es) [] cpos) (tBM K T r to t):=h▸KO pa slot hty hm ho ha hbase hfew hline hs hplain
end
theorem C6(J:OpJ r g)(J':OpJ r' g')(ha:ME ta a)(hb:ME tb b)(hc:ME tc c)(hr:∀x y H Q Q',(∀v H,Q v H->Q' v H)->r x y H Q->r x y H Q') :
  ME (Cw r r' ta tb tc) (um g g' a b c):=by
 intro F B H σ ρ r0 ρ' Q R e q;obtain⟨x,e1,e⟩:=zaa e;obtain⟨y,e2,e⟩:=zaa e;obtain⟨s1,e3,e⟩:=zaa e;obtain⟨res,e4,e⟩:=zaa e;refine ha.sv F B H σ ρ x.1 x.2 _ R e1 λv B1 H1 E1 R1 V1 N1=>?_
 refine hb.sv F B1 H1 σ x.2 y.1 y.2 _ R1 e2 λu B2 H2 E2 R2 V2 N2=>?_
 obtain⟨V3,n3⟩:=V1.next E2 R2 (jX e1) e3;have J1:=J B2 H2 v u s1.1 y.1.1 res R2.sub (V3.view R2) (V2.view R2) e4;split at e
 ·rename_i heq
  obtain⟨w,rw',hk⟩:=J1;cases rw';refine hk _ ⟨true,rfl,?_⟩;obtain⟨z,e5,e⟩:=zaa e;obtain⟨s2,e6,e⟩:=zaa e;obtain⟨res',e7,e⟩:=zab e;cases e;refine Mf ?_;refine hc.sv F B2 H2 σ y.2 z.1 z.2 _ R2 e5 λt B3 H3 E3 R3 V4 N4=>?_
  obtain⟨V5,n5⟩:=V2.next E3 R3 (jX e2) e6;exact hI R3 (J' B3 H3 u t s2.1 z.1.1 res' R3.sub (V5.view R3) (V4.view R3) e7) λw B4 H4 E4 R4 V6 N6=>q w B4 H4 ((E1.trans (E2.trans E3)).trans E4) R4 V6 λp z1 z2=>(E1.trans (E2.trans E3)).live p (N6 p z1 z2)
 ·rename_i heq
  obtain⟨w,rw',hk⟩:=J1;cases rw';cases e;exact hk _ ⟨false,rfl,Me (q _ B2 H2 (E1.trans E2) R2 (.bl false) λp z=>by cases z)⟩
 ·cases e
def pV(K:zag):Bool:=K.all λp=>match p.2.cls with
 | .type n=>n !="list"
 |_=>true
theorem kN{α:Type}:∀{l:List (Addr×α)} {a:Addr} {o : α},l.lookup a=some o->(a,o)∈l
 |(b,c)::l,a,o,h=>by
  rw[za8]at h
  by_cases z:a=b
  ·subst z
   rw[beq_self_eq_true]at h;cases h;exact zas
  ·rw[beq_eq_false_iff_ne.mpr z]at h
   exact zak _ (kN h)
theorem K3{K:zag}(h:pV K=true)(s:SqL K H a xs):Rd H a (.lst xs):=by
 rcases s with s|⟨o,its,n,hk,hc,_⟩
 ·exact s
 ·have:=List.all_eq_true.mp h _ (kN hk)
  dsimp only at this;rw[hc]at this;simp at this
theorem sR:∀ns:List Int,aP H (ns.map V.int) (ns.map PyData.int)
 | []=>.nil
 |n::ns=>.cons (.int n) (sR ns)
theorem Jt{K:zag}(h:pV K=true)(T:∀ns:List Int,ns.length<=63->(∀k∈ns,Builtin.Int.intBits k<=1048576)->f [.list (ns.map .int)]=some (.bool true,false))
  (vs:List V) (H:Hp) (Q:VK) (E:XK) (s:CQ K vs H Q E):spM f vs H Q E:=by
 obtain⟨a,ns,rfl,hS,hl,hb,q⟩:=s;refine⟨H,_,_,_,aD.refl _,λ_ _ z=>z,.cons (.lst (K3 h hS) (sR ns)) .nil,T ns hl hb,λv B' H' P=>?_⟩
 have pv:Rep B' v (.bool true):=P.val;cases pv;exact q _
end Mir
namespace Mir
open PySem L2
variable [Zc]
abbrev dI(l:List Int):D:=.list (l.map .int)
theorem K4(i j:Int):(i==j)=decide (i=j):=by by_cases h:i=j<;>simp[h]
theorem zD(i j:Int):gEq (.int i) (.int j)=some (.bool (decide (i=j)),false):=by
 unfold gEq;rw[if_pos ⟨rfl,rfl⟩];simp only[PyData.eqv,K4]
theorem zE(i j:Int):gNe (.int i) (.int j)=some (.bool (!decide (i=j)),false):=by
 unfold gNe;rw[if_pos ⟨rfl,rfl⟩];simp only[PyData.eqv,K4]
theorem C7(i j:Bool):gEq (.bool i) (.bool j)=some (.bool (i==j),false):=by
 unfold gEq;rw[if_pos ⟨rfl,rfl⟩];simp only[PyData.eqv]
theorem C8(i j:Bool):gNe (.bool i) (.bool j)=some (.bool (!(i==j)),false):=by
 unfold gNe;rw[if_pos ⟨rfl,rfl⟩];simp only[PyData.eqv]
theorem oZ:∀l:List Int,PyData.canLayAll0 (l.map .int)=true
 | []=>rfl
 |_::l=>by simp only[List.map_cons,PyData.canLayAll0,PyData.canLay0,oZ l,Bool.and_self]
theorem ya(l:List Int):(dI l).depth<=2:=by
 have h:∀l:List Int,PyData.depthAll (l.map .int)<=1:=by
  intro l
  induction l with
  |nil=>simp[PyData.depthAll]
  |cons a l ih=>simp only[List.map_cons,PyData.depthAll,PyData.depth];omega
 have:=h l;simp only[dI,PyData.depth];omega
theorem shaped_ints(l:List Int):SeqAt.shaped (dI l)=true:=by
 unfold SeqAt.shaped;have h:=ya l;rw[zaH (by omega),Bool.and_true]
 simp only[dI,PyData.canLay0,oZ]
theorem o3:∀a b:List Int,PyData.eqvAll (a.map .int) (b.map .int)=decide (a=b)
 | [],[]=>by simp[PyData.eqvAll]
 | [],_::_=>by simp[PyData.eqvAll]
 |_::_,[]=>by simp[PyData.eqvAll]
 |x::a,y::b=>by
  simp only[List.map_cons,PyData.eqvAll,PyData.eqv,o3 a b]
  by_cases h:x=y<;>by_cases g:a=b<;>simp[h,g]
theorem wd(a b:List Int):PyData.eqv (dI a) (dI b)=decide (a=b):=by simp only[dI,PyData.eqv,o3]
theorem C9(a b:List Int):gEq (dI a) (dI b)=some (.bool (decide (a=b)),false):=by
 unfold gEq;rw[if_pos ⟨shaped_ints a,shaped_ints b⟩,wd]
theorem De(a b:List Int):gNe (dI a) (dI b)=some (.bool (!decide (a=b)),false):=by
 unfold gNe;rw[if_pos ⟨shaped_ints a,shaped_ints b⟩,wd]
theorem we(i:Int):gC "int" (.int i)=some (.bool true,false):=by simp[gC,tyD,cy,iO]
theorem m5(i:Int):gC "bool" (.int i)=some (.bool false,false):=by simp[gC,tyD,cy,iO]
theorem rN(i:List D):gC "list" (.list i)=some (.bool true,false):=by simp[gC,tyD,cy,iO]
theorem gP(i:List D):gC "tuple" (.tuple i)=some (.bool true,false):=by simp[gC,tyD,cy,iO]
theorem mR(xs:List α)(i:Nat):atI xs (i:Int)=xs[i]?:=by
 unfold atI ixN;rw[if_pos (by omega)]
 split
 ·simp
 ·rename_i h
  rw[Option.bind_none,List.getElem?_eq_none (by omega)]
theorem CD(xs:List α):atI xs (-1)=xs.getLast?:=by
 unfold atI ixN;rw[if_neg (by omega)]
 cases xs with
 |nil=>simp
 |cons a l=>
  rw[if_pos (by simp only[List.length_cons];omega),zai,List.getLast?_eq_getElem?]
  congr 1
  simp only[List.length_cons];omega
theorem Fz(f : α->β)(xs:List α)(i:Int):atI (xs.map f) i=(atI xs i).map f:=by
 simp only[atI,List.length_map,List.getElem?_map];cases ixN xs.length i with
 |none=>rfl
 |some j=>simp only[Option.bind_some]
theorem wg(h1:c ρ=some (true,ρ1))(h2:b ρ1=some (.nx ρ2))(h3:gN c b n ρ2=o):gN c b (n+1) ρ=o:=by
 unfold gN;simp only[h1,h2,Option.bind_some,if_true,h3]
theorem sS(h1:c ρ=some (false,ρ1)):gN c b (n+1) ρ=some (.nx ρ1):=by
 unfold gN;simp only[h1,Option.bind_some,Bool.false_eq_true,if_false]
theorem A0(i:Int):dW (.int i) false=true:=rfl
theorem yb(i:Bool):dW (.bool i) false=true:=rfl
theorem A5(i:Str):dW (.str i) false=true:=rfl
theorem yc:dW .none false=true:=rfl
theorem ye(l:List D):dW (.list l) false=false:=rfl
theorem A6(l:List D):dW (.tuple l) false=bV l:=by simp only[dW,fb]
theorem A7(l:List D):dW (.list l) true=bV l:=rfl
theorem qx:bV []=true:=by simp only[bV]
theorem qy(i:Int)(l:List D):bV (.int i::l)=bV l:=by simp only[bV,fb,Bool.true_and]
theorem wj(i:Bool)(l:List D):bV (.bool i::l)=bV l:=by simp only[bV,fb,Bool.true_and]
theorem wk(i l:List D):bV (.list i::l)=false:=by simp only[bV,fb,Bool.false_and]
theorem o4:∀l:List Int,bV (l.map .int)=true
 | []=>qx
 |i::l=>by rw[zaz,qy,o4 l]
theorem Ju(d:D):jY (d,false)=(d,.fz):=rfl
theorem Jv(l:List D):jY (.list l,true)=(.list l,.new):=rfl
theorem Jw(l:List D):jY (.tuple l,true)=(.tuple l,.fz):=rfl
theorem Mw(d:D):kO d false=(d,.fz):=rfl
theorem My(d:D):kO d true=(d,.new):=rfl
theorem aW(h1:a ρ=some (.nx ρ1))(h2:b ρ1=o):cI a b ρ=o:=by
 unfold cI;simp only[h1,Option.bind_some,h2]
theorem mq(h1:a ρ=some (.rt r ρ1)):cI a b ρ=some (.rt r ρ1):=by
 unfold cI;simp only[h1,Option.bind_some]
theorem d8(h0:ds.length=n)(h1:b (ds.map .fz++List.replicate k .no)=some o)(h2:AX o=some w):fnM n k b ds=some w:=by
 unfold fnM;rw[if_pos h0,h1,zai,h2]
theorem dm(h1:m ρ=some (rs,ρ1))(h2:f (rs.map (·.1))=some (d,o))(h3:dW d o=true):bg f m ρ=some (kO d o,ρ1):=by
 unfold bg;rw[h1,zai];dsimp only;rw[h2,zai,if_pos h3]
theorem dO(h:a ρ=some (r,ρ1)):fc a ρ=some (.rt r ρ1):=by
 unfold fc;rw[h,zaT]
theorem uv(h1:it ρ=some (ds,ρ1))(h2:forL g b ds ρ1=o):xW it g b ρ=o:=by
 unfold xW;rw[h1,zai];exact h2
theorem Jx{m:Rho->Option (List RV×Rho)}(h1:m ρ=some ([(.int j,k)],ρ1))(h2 : -(2^62)<=j/\j<2^62):wa m ρ=some (v9 0 j.toNat,ρ1):=by
 unfold wa;rw[h1,zai];show cIf _ _ _=_;rw[bR h2]
end Mir
namespace Mir
open PySem L2
variable [Zc]
def SF(s:Sl):Prop:=s=.no\/∃d,s=.fz d
theorem SF.fz(d:D):SF (.fz d):=.inr ⟨d,rfl⟩
theorem SF.no:SF .no:=.inl rfl
theorem FA(h:k<n):ixN n (k:Int)=some k:=by
 unfold ixN;rw[if_pos (by omega),if_pos (by omega),Int.toNat_natCast]
theorem sT(h:n<=100000):n<=sizeLine:=zaX h (by decide)
theorem wm(h:n<=100000):n<sizeLine:=Nat.lt_of_le_of_lt h (by decide)
end Mir
namespace Mir
open PySem L2 PySem.Spec PyProof.Rows
variable [Zc]
end Mir
namespace Mir
open PySem L2
variable [Zc]
def inD(x:D)(ds:List D):Bool:=ds.any λd=>PyData.eqv d x
theorem aP.inV(g:Rep H v c)(e:qu c=true):∀{vs:List V} {ds:List D},aP H vs ds->ds.all qu=true->inV v vs=inD c ds
 |_,_,.nil,_=>rfl
 |_,_,.cons a b,h=>by
  simp only[List.all_cons,Bool.and_eq_true]at h;have:=aP.inV g e b h.2;unfold L2.inV inD at this⊢;rw[List.any_cons,List.any_cons,this,a.eqv g h.1 e]
end Mir
namespace Mir
open PySem L2
variable [Zc]
section
variable{a b:PM}{ρ ρ1 ρ2 ρ3:Rho}{x y d:D}{r:RV}{res:D×Bool}
theorem dw(h:a ρ=some ((d,.new),ρ1)):sv a ρ=some ((d,.fz),ρ1):=by unfold sv;rw[h]
theorem au(h:a ρ=some ((d,.fz),ρ1)):sv a ρ=some ((d,.fz),ρ1):=by unfold sv;rw[h]
theorem ng(h:a ρ=some ((d,.at i),ρ1)):sv a ρ=some ((d,.at i),ρ1):=by unfold sv;rw[h]
theorem bP(h1:sv a ρ=some ((x,.fz),ρ1))(h2:sv b ρ1=some (r,ρ2))(h3:g x r.1=some res):mOp g a b ρ=some (jY res,ρ2):=by
 unfold mOp;rw[h1,zai];dsimp only;rw[h2,zai];dsimp only[mh,Option.bind_some];rw[h3,zaT]
theorem K5(h1:sv a ρ=some ((x,.at i),ρ1))(h2:sv b ρ1=some (r,ρ2))(h4 : ρ2[i]?=some (.own y))(h3:g y r.1=some res):mOp g a b ρ=some (jY res,ρ2):=by
 unfold mOp;rw[h1,zai];dsimp only;rw[h2,zai];dsimp only[mh];rw[h4];dsimp only[Option.bind_some];rw[h3,zaT]
theorem az{rs:List RV}(h1:sv a ρ=some ((x,.fz),ρ1))(h2:m ρ1=some (rs,ρ2)):ai a m ρ=some ((x,.fz)::rs,ρ2):=by
 unfold ai;rw[h1,zai];dsimp only;rw[h2,zai];rfl
theorem pW{rs:List RV}(h1:sv a ρ=some ((x,.at i),ρ1))(h2:m ρ1=some (rs,ρ2))(h4 : ρ2[i]?=some (.own y)):ai a m ρ=some ((y,.at i)::rs,ρ2):=by
 unfold ai;rw[h1,zai];dsimp only;rw[h2,zai];dsimp only[mh];rw[h4];rfl
theorem aQ:aG ρ=some ([],ρ):=rfl
theorem aB(h : ρ[i]?=some (.fz d)):aj i ρ=some ((d,.fz),ρ):=by unfold aj;rw[h]
theorem gv(h : ρ[i]?=some (.own d)):aj i ρ=some ((d,.at i),ρ):=by unfold aj;rw[h]
theorem eE(h1:m ρ=some (rs,ρ1))(h2:g (rs.map (·.1))=some res):mCB g m ρ=some (jY res,ρ1):=by
 unfold mCB;rw[h1,zai];dsimp only;rw[h2,zaT]
theorem gh(h1:a ρ=some ((d,.fz),ρ1))(h2:fC ρ1 i (.fz d)=some ρ2):dM i a ρ=some (.nx ρ2):=by
 unfold dM;rw[h1,zai];dsimp only[sto];rw[h2,zaT]
theorem fe(h1:a ρ=some ((d,.new),ρ1))(h2:fC ρ1 i (.own d)=some ρ2):dM i a ρ=some (.nx ρ2):=by
 unfold dM;rw[h1,zai];dsimp only[sto];rw[h2,zaT]
theorem pK(h1:c ρ=some (true,ρ1))(h2:s ρ1=o):fL c s t ρ=o:=by
 unfold fL;rw[h1,zai];dsimp only;rw[if_pos rfl,h2]
theorem iP(h1:c ρ=some (false,ρ1))(h2:t ρ1=o):fL c s t ρ=o:=by
 unfold fL;rw[h1,zai];dsimp only;rw[if_neg zam,h2]
theorem test_ev{k:Kd}(h:a ρ=some ((.bool v,.fz),ρ1)):aL a ρ=some (v,ρ1):=by
 unfold aL;rw[au h];rfl
theorem d6(h:c ρ=some (v,ρ1)):fJ c ρ=some (!v,ρ1):=by unfold fJ;rw[h];rfl
theorem qz(h:c ρ=some (true,ρ1))(h2:e ρ1=o):mj c e ρ=o:=by unfold mj;rw[h];simpa using h2
theorem zF(h:c ρ=some (false,ρ1)):mj c e ρ=some (false,ρ1):=by unfold mj;rw[h];rfl
theorem K6(h:c ρ=some (true,ρ1)):mOr c e ρ=some (true,ρ1):=by unfold mOr;rw[h];rfl
theorem kS(h:c ρ=some (false,ρ1))(h2:e ρ1=o):mOr c e ρ=o:=by unfold mOr;rw[h];simpa using h2
theorem gQ(h1:m ρ=some (rs,ρ1))(h2:gZ rs ρ1=some (ds,ρ2))(h3:ds.length<=100000):eN m ρ=some ((.list ds,.new),ρ2):=by
 unfold eN;rw[h1,zai];dsimp only;rw[h2,zai];dsimp only;rw[bR (sT h3)]
theorem fP(h1:m ρ=some (rs,ρ1))(h2:gZ rs ρ1=some (ds,ρ2))(h3:ds.length<=100000):gz m ρ=some ((.tuple ds,.fz),ρ2):=by
 unfold gz;rw[h1,zai];dsimp only;rw[h2,zai];dsimp only;rw[bR (sT h3)]
theorem Hx(h1:it ρ=some (ds,ρ1))(h2:iU c e (fr.map λp=>cX ρ1 p.2) ds=some ys)(h3:ys.length<=100000) :
  mLC fr it c e ρ=some ((.list ys,.new),ρ1):=by
 unfold mLC;rw[h1,zai];dsimp only;rw[h2,zai,bR (wm h3)]
theorem jZ(h:a ρ=some (r,ρ1)):eD a ρ=some (.nx ρ1):=by unfold eD;rw[h];rfl
end
theorem jG{ρn:Rho}{α:Type}{f : α->D}{g : α->D}:∀l:List α,(∀x∈l,∃ρ,sv e (.fz (f x)::ρn)=some ((g x,.fz),ρ))->iU xV e ρn (l.map f)=some (l.map g)
 | [],_=>rfl
 |x::l,h=>by
  obtain⟨ρ,h1⟩:=h x zas;have h2:=jG l λy hy=>h y (zak _ hy)
  rw[zaz,zaz];unfold iU;simp only[xV,h1,h2,asF,Option.bind_some,Option.map_some,if_true]
theorem Dg(n:Nat):v9 0 n=(List.range n).map λk:Nat=>PyData.int (k:Int):=by
 unfold v9
 congr 1
 funext k
 rw[Int.zero_add]
theorem K7(h:(-(2^64)<i/\i<2^64)\/(-(2^64)<j/\j<2^64)):IntMulOk i j:=IJ.ok h
def IE(m:PM)(ρ:Rho)(v:Int):Prop:=m ρ=some ((.int v,.fz),ρ)
def BE(m:PM)(ρ:Rho)(v:Bool):Prop:=m ρ=some ((.bool v,.fz),ρ)
section
variable{a b:PM}{ρ:Rho}{i j:Int}{u v:Bool}
theorem A8(h1:IE a ρ i)(h2:IE b ρ j)(h3:g (.int i) (.int j)=some (.int k,false)):IE (mOp g a b) ρ k:=bP (au h1) (au h2) h3
theorem FC(h1:IE a ρ i)(h2:IE b ρ j)(h3:g (.int i) (.int j)=some (.bool k,false)):BE (mOp g a b) ρ k:=bP (au h1) (au h2) h3
theorem cB:IE (mC (.int i)) ρ i:=rfl
theorem dy(h : ρ[k]?=some (.fz (.int i))):IE (aj k) ρ i:=aB h
theorem kT(h1:IE a ρ i)(h2:IE b ρ j):IE (mOp et a b) ρ (i+j):=A8 h1 h2 rfl
theorem yf(h1:IE a ρ i)(h2:IE b ρ j):IE (mOp Cp a b) ρ (i-j):=A8 h1 h2 rfl
theorem Dh(h:C i j):gI C f (.int i) (.int j)=some (.int (f i j),false):=by show cIf _ _ _=_;rw[bR h]
theorem Di(h1:IE a ρ i)(h2:IE b ρ j)(h:IntMulOk i j):IE (mOp xZ a b) ρ (i*j):=A8 h1 h2 (by show cIf _ _ _=_;rw[bR h])
theorem yg(h1:IE a ρ i)(h2:IE b ρ j)(h:IH i j):IE (mOp mZ a b) ρ (i/j):=A8 h1 h2 (Dh h)
theorem ft(h1:IE a ρ i)(h2:IE b ρ j)(h : 0<j):IE (mOp d5 a b) ρ (i%j):=A8 h1 h2 (Dh (C:=λ_ j=>0<j) h)
theorem Jy(h1:IE a ρ i)(h2:IE b ρ j)(h:II i j):IE (mOp C4 a b) ρ (i^j.toNat):=A8 h1 h2 (Dh h)
theorem zG(h1:IE a ρ i)(h2:IE b ρ j):BE (mOp gEq a b) ρ (decide (i=j)):=FC h1 h2 (zD i j)
theorem wo(h1:IE a ρ i)(h2:IE b ρ j):BE (mOp gNe a b) ρ (!decide (i=j)):=FC h1 h2 (zE i j)
theorem Dk(h1:IE a ρ i)(h2:IE b ρ j):BE (mOp gLt a b) ρ (decide (i<j)):=FC h1 h2 rfl
theorem ku(h1:IE a ρ i)(h2:IE b ρ j):BE (mOp gGt a b) ρ (decide (j<i)):=FC h1 h2 rfl
theorem BE.t(h:BE a ρ v):aL a ρ=some (v,ρ):=test_ev (k:=.fz) h
theorem BE.is(h:BE a ρ u)(e:u=v):BE a ρ v:=e▸h
theorem IE.is(h:IE a ρ i)(e:i=j):IE a ρ j:=e▸h
theorem iY(h1:m ρ=some (rs,ρ))(h2:f (rs.map (·.1))=some (.int i,false)):IE (bg f m) ρ i:=dm h1 h2 rfl
theorem ef(h1:m ρ=some (rs,ρ))(h2:f (rs.map (·.1))=some (.bool v,false)):BE (bg f m) ρ v:=dm h1 h2 rfl
theorem IE.cons{rs:List RV}(h:IE a ρ i)(h2:m ρ=some (rs,ρ)):ai a m ρ=some ((.int i,.fz)::rs,ρ):=az (au h) h2
theorem Dl(h1:BE a ρ u)(h2:u=true->BE b ρ v)(h3:u=false->v=false):BE (sO a b) ρ v:=by
 unfold BE sO;rw[h1.t];cases u with
 |true=>exact h2 rfl
 |false=>rw[h3 rfl];rfl
theorem gD(h:BE a ρ u)(e:u=v):aL a ρ=some (v,ρ):=e▸h.t
theorem l8{rs:List RV}(h:IE a ρ i)(h2:m ρ=some (rs,ρ)):ai a m ρ=some ((.int i,.fz)::rs,ρ):=az (au h) h2
theorem tEq(h1:IE a ρ i)(h2:IE b ρ j)(h:i=j):aL (mOp gEq a b) ρ=some (true,ρ):=gD (zG h1 h2) (zaH h)
theorem tNe(h1:IE a ρ i)(h2:IE b ρ j)(h:i≠j):aL (mOp gEq a b) ρ=some (false,ρ):=gD (zG h1 h2) (zaO h)
end
theorem qA(h1:sv a ρ=some ((d,k),ρ1))(h2:gC n d=some (.bool v,false)):oD n a ρ=some ((.bool v,.fz),ρ1):=by
 unfold oD mUn;rw[h1,zai];dsimp only;rw[h2];rfl
theorem Dm(x : α)(l:List α):atI (x::l) 0=some x:=mR (x::l) 0
theorem jH(h1:g d ρ=some ρ1)(h2:b ρ1=some (.nx ρ2))(h3:forL g b ds ρ2=o):forL g b (d::ds) ρ=o:=by
 show((g d ρ).bind _)=_;rw[h1,zai,h2];exact h3
theorem FD(h1:g d ρ=some ρ1)(h2:b ρ1=some (.rt r ρ2)):forL g b (d::ds) ρ=some (.rt r ρ2):=by
 show((g d ρ).bind _)=_;rw[h1,zai,h2];rfl
end Mir
namespace Mir
open PySem L2
variable [Zc]
def asS:D->Option (List D)
 | .list ds=>some ds
 | .tuple ds=>some ds
 |_=>none
def mgU(n:Nat)(ms:List D->Rho->Option Rho):D->Rho->Option Rho:=λd ρ=>(asS d).bind λds=>if ds.length=n then ms ds ρ else none
theorem lK(h:MGs gs ms):MG (zr K n gs) (mgU n ms):=λF B H σ ρ v d ρ' Q R rp e q=>by
 obtain⟨ds,e1,e2⟩:=zaa e;cases rp with
 |tup hp rs=>
  cases e1;split at e2
  ·rename_i hn
   exact⟨_,_,rfl,.inl (.inl (.inl (R.sub _ _ hp))),by rw[rs.length];exact hn,h F B H σ ρ _ _ ρ' Q R rs e2 q⟩
  ·cases e2
 |lst hp rs=>
  cases e1;split at e2
  ·rename_i hn
   exact⟨_,_,rfl,.inr (jF (ee R.sub hp)),by rw[rs.length];exact hn,h F B H σ ρ _ _ ρ' Q R rs e2 q⟩
  ·cases e2
 |_=>cases e1
end Mir
namespace L2
open PySem PySem.Spec PyProof.Rows
variable{X:Cx}
end L2
namespace Mir
open PySem L2
variable [Zc]
theorem FE(s:Str):gC "str" (.str s)=some (.bool true,false):=by simp[gC,tyD,cy,iO]
end Mir
namespace Mir
open PySem L2
inductive oE where
 |ok (o:Out)|er (c:Str) (ρ:Rho)
abbrev EM:=Rho->Option oE
section
variable [Zc]
def mr(F:Fr)(D:Ends)(W:Str->Hp->Prop):oE->Prop
 | .ok o=>kQ F D o
 | .er c ρ=>∀B H σ,Rel F B H σ ρ->W c H
def MSE(W:Str->Hp->Prop)(t:TS)(m:EM):Prop:=∀(F:Fr) (B H:Hp) (σ:St) (ρ:Rho) (o:oE) (D:Ends),Rel F B H σ ρ->m ρ=some o->mr F D W o->t D σ H
def g6(m:SM):EM:=fun ρ=>(m ρ).map .ok
theorem eF(h:MS t m):MSE W t (g6 m):=by
 intro F B H σ ρ o D R e q;obtain⟨x,e1,e⟩:=zab e;cases e;exact h F B H σ ρ x D R e1 q
def nh(a b:EM):EM:=fun ρ=>(a ρ).bind λo=>match o with
 | .ok (.nx ρ')=>b ρ'
 |o=>some o
theorem iZ(ha:MSE W t a)(hb:MSE W u b):MSE W (AJ t u) (nh a b):=by
 intro F B H σ ρ o D R e q;obtain⟨x,e1,e⟩:=zaa e;refine ha F B H σ ρ x _ R e1 ?_;cases x with
 |er c ρ1=>cases e;exact q
 |ok x=>
  cases x with
  |nx ρ1=>exact λB1 H1 σ1 R1=>hb F B1 H1 σ1 ρ1 o D R1 e q
  |rt r ρ1=>cases e;exact q
  |bk ρ1=>cases e;exact q
  |ct ρ1=>cases e;exact q
def eIf(c:Rho->Option (Bool×Rho))(a b:EM):EM:=fun ρ=>(c ρ).bind λx=>if x.1=true then a x.2 else b x.2
theorem uw(hc:MT tc c)(ha:MSE W t a)(hb:MSE W u b):MSE W (Cn tc t u) (eIf c a b):=by
 intro F B H σ ρ o D R e q;obtain⟨x,e1,e⟩:=zaa e;refine hc F B H σ ρ x.1 x.2 _ R e1 λB' H' E R'=>?_
 by_cases h:x.1=true
 ·rw[if_pos h]at e⊢;exact ha F B' H' σ x.2 o D R' e q
 ·rw[if_neg h]at e⊢;exact hb F B' H' σ x.2 o D R' e q
def ux(c:Str)(m:Rho->Option (List RV×Rho)):EM:=fun ρ=>(m ρ).bind λx=>if x.1.length<=100 then some (.er c x.2)else none
theorem Dn:∀{vs:List V} {rs:List RV},Vl F B H σ ρ vs rs->vs.length=rs.length
 | [],[],_=>rfl
 |_::_,_::_,⟨_,t⟩=>by rw[zaw,zaw,Dn t]
theorem oF(h:MA t m)(hw:∀H,W c H->W' H):MSE W (xU W' t) (ux c m):=by
 intro F B H σ ρ o D R e q;obtain⟨x,e1,e⟩:=zaa e;split at e
 ·rename_i hz
  cases e;refine h F B H σ ρ x.1 x.2 _ R e1 λvs B1 H1 E1 R1 V1=>⟨by rw[Dn V1];exact hz,hw _ (q B1 H1 σ R1)⟩
 ·cases e
def fnX(n k:Nat)(b:EM)(ds:List D):Option ((D×Bool) ⊕ Str):=if ds.length=n then(b (ds.map .fz++List.replicate k .no)).bind λo=>match o with
 | .ok o=>(AX o).map .inl
 | .er c _=>some (.inr c)
 else none
def spX(cl:Str->Value)(f:List D->Option ((D×Bool) ⊕ Str)):Sp:=λvs H Q E=>∃B ds w,aD B H/\(∀q xs,H q=some (.tup xs)->B q=some (.tup xs))/\aP B vs ds/\f ds=some w/\
 match w with
 | .inl (d,o)=>∀v B' H',Post B H v B' H' d o->Q v H'
 | .inr c=>∀B' H',Post B H .non B' H' .none false->E (cl c) none H'
theorem uy(hb:MSE (λc H=>E (cl c) none H) t b)(hN:N.length=n+k)(h:spX cl (fnX n k b) vs H Q E):t {nx:=λ_ H'=>Q .non H',rt:=Q} (L2.start N vs) H:=by
 obtain⟨B,ds,w0,sub,tB,rp,e,q⟩:=h;unfold fnX at e;split at e
 case isFalse=>cases e
 rename_i hl
 obtain⟨w,e1,e2⟩:=zaa e;have hvl:vs.length=n:=rp.length.trans hl;have lY:∀(i:Nat) (s:Sl),(ds.map Sl.fz++List.replicate k .no)[i]?=some s->s.isRef=true->False:=λi s h1 h2=>by
  have:=zaj h1;rcases zae this with h|h
  ·obtain⟨c,_,rfl⟩:=List.mem_map.mp h;cases h2
  ·rw[zaG h]at h2;cases h2
 have ex0:∀i:Nat,(ds.map Sl.fz++List.replicate k .no)[i]?=some Sl.ex->False:=λi h1=>by
  have:=zaj h1;rcases zae this with h|h
  ·obtain⟨c,_,z⟩:=List.mem_map.mp h;cases z
  ·have:=zaG h;cases this
 have R:Rel ⟨B,H,[],λq=>H q≠none⟩ B H (L2.start N vs) (ds.map .fz++List.replicate k .no):=by
  refine⟨sub,aD.refl _,λ_ _ z _=>z,λ_ _ z=>z,?_,λi s hs=>?_,λi j s t p h1 h2=>(lY i s h1 (Sl.f9 h2)).elim,λi c p h1=>(lY i _ h1 rfl).elim,(λx hx=>by cases hx),λi c h1=>(lY i _ h1 rfl).elim,tB,(λi h1=>(ex0 i h1).elim),λq o u h z=>by rw[z]at h;cases h⟩
  ·simp[L2.start,hl,hvl,hN]
  ·by_cases hi:i<n
   ·rw[zax (by simpa[hl]using hi),zao]at hs
    obtain⟨c,h1,rfl⟩:=zab hs;obtain⟨x,h2,h3⟩:=rp.get i c h1;refine⟨x,?_,h3⟩;unfold L2.start;rw[zax (by simpa[hvl]using hi),zao,h2]
    rfl
   ·rw[zaN (by simpa[hl]using zba hi)]at hs
    have:=zaG (zaj hs);subst this;trivial
 refine hb _ B H _ _ w _ R e1 ?_;have post:∀{B' H':Hp} {σ':St} {ρ':Rho},Rel ⟨B,H,[],λq=>H q≠none⟩ B' H' σ' ρ'->aD H H'/\aD B B'/\aD B' H'/\(∀q,H q≠none->B q=none->B' q=none)/\(∀q xs,H' q=some (.tup xs)->B' q=some (.tup xs))/\∀q o u,H' q=some (.frz o u)->H q≠none:=λR'=>
  ⟨λq u z=>R'.sH q u z (λx hx=>by cases hx),R'.sB,R'.sub,R'.nB,R'.cO,R'.nz⟩
 cases w with
 |er c ρ'=>
  cases e2;intro B' H' σ' R';obtain⟨p1,p2,p3,p4,p5,p6⟩:=post R';exact q B' H' ⟨p1,p2,p3,p4,p5,p6,.non⟩
 |ok w=>
 replace e2:=zab e2
 obtain⟨⟨d,o⟩,e2,e3⟩:=e2;subst e3;cases w with
 |nx ρ'=>
  cases e2;intro B' H' σ' R';obtain⟨p1,p2,p3,p4,p5,p6⟩:=post R';exact q _ B' H' ⟨p1,p2,p3,p4,p5,p6,.non⟩
 |bk ρ'=>cases e2
 |ct ρ'=>cases e2
 |rt r ρ'=>
  intro v B' H' σ' R' V';obtain⟨p1,p2,p3,p4,p5,p6⟩:=post R';obtain⟨c,kd⟩:=r;cases kd with
  |fz=>cases e2;exact q v B' H' ⟨p1,p2,p3,p4,p5,p6,V'⟩
  |new=>
   cases e2;obtain⟨p,rfl,h1,h2,h3,_⟩:=V';exact q _ B' H' ⟨p1,p2,p3,p4,p5,p6,⟨p,rfl,h2,h1,h3⟩⟩
  |ro=>cases e2
  | «at» i=>
   obtain⟨s,h1,h2,h3,h4⟩:=V';have e2':(match ρ'[i]? with
    |some (.own d)=>some (d,true)
    |_=>none)=some (d,o):=e2
   rw[h1]at e2';cases s with
   |own c'=>
    cases e2';obtain⟨p,g1,g2,g3⟩:=R'.slot i _ h1;have h4' : σ'[i]?=some (some v):=h4;rw[h4']at g1;cases g1;exact q _ B' H' ⟨p1,p2,p3,p4,p5,p6,⟨p,rfl,R'.jD i _ p h1 h4',g2,g3⟩⟩
   |_=>cases e2'
theorem uz(h:spX cl (fnX n k b) vs H Q E):vs.length=n:=by
 obtain⟨B,ds,w,sub,tB,rp,e,q⟩:=h;unfold fnX at e;split at e
 ·rename_i hl;exact rp.length.trans hl
 ·cases e
end
def FG(ρ:Rho):Bool:=ρ.all λs=>match s with
 | .ex=>false
 |_=>true
theorem zH(h:FG ρ=true)(j:Nat)(z : ρ[j]?=some .ex):False:=by
 have:=(List.all_eq_true.mp h) _ (zaj z);cases this
theorem Rel.K8(v:Option V)(R : @Rel z F B H σ ρ)(h:fC ρ i s=some ρ')(hs:s=.no\/s=.ex)(hex:∀j:Nat,ρ'[j]?=some .ex->(σ.set i v)[j]?=some (some (.ref z'.e))) : @Rel z' F B H (σ.set i v) ρ':=by
 obtain⟨rfl,s0,h0,nio⟩:=mY h;obtain⟨r1,r2,r3,r4,r5,r6,r7,r8,r9,r10,r11,r12,r13⟩:=R;have nr:s.isRef=false:=by rcases hs with rfl|rfl<;>rfl
 have no:s.e9=false:=by rcases hs with rfl|rfl<;>rfl
 have so:∀j,j≠i->(σ.set i v)[j]?=σ[j]?:=λj hj=>zaA λe=>hj e.symm
 refine @Rel.mk z' _ _ _ _ _ r1 r2 r3 r4 (by rw[zaM,zaM];exact r5) ?_ ?_ ?_ ?_ ?_ r11 hex r13
 ·intro j s' hs'
  rcases get_set hs' with⟨rfl,rfl,_⟩|⟨hj,hs'⟩
  ·rcases hs with rfl|rfl<;>trivial
  ·exact(r6 j s' hs').at (so j hj)
 ·intro a b s' t p h1 h2 h3 h4 h5 h6
  rcases get_set h1 with⟨rfl,rfl,_⟩|⟨ha,h1⟩
  ·rw[no]at h2;cases h2
  ·rcases get_set h3 with⟨rfl,rfl,_⟩|⟨hb,h3⟩
   ·rw[nr]at h4;cases h4
   ·rw[so a ha]at h5;rw[so b hb]at h6;exact r7 a b s' t p h1 h2 h3 h4 h5 h6
 ·intro j c p h1 h2
  rcases get_set h1 with⟨rfl,e,_⟩|⟨hj,h1⟩
  ·rw[<-e]at no;cases no
  ·rw[so j hj]at h2;exact r8 j c p h1 h2
 ·intro x hx
  obtain⟨h1,c,h2⟩:=r9 x hx;have z:x.1≠i:=λz=>by rw[z,h0]at h2;cases h2;exact nio _ rfl
  exact⟨by rw[so _ z];exact h1,c,by rw[zaA λe=>z e.symm];exact h2⟩
 ·intro j c h1
  rcases get_set h1 with⟨rfl,e,_⟩|⟨hj,h1⟩
  ·rw[<-e]at no;cases no
  ·exact r10 j c h1
def Hy(i:Nat):Out->Option Out
 | .nx ρ=>(fC ρ i .no).bind fun ρ'=>if FG ρ'=true then some (.nx ρ')else none
 |_=>none
def df(i:Nat)(b:Bool):PM:=fun ρ=>match ρ[i]? with
 |some .ex=>some ((.bool b,.fz),ρ)
 |_=>none
theorem FH(e:df i b ρ=some (r,ρ')) : ρ[i]?=some .ex/\r=(.bool b,.fz)/\ρ'=ρ:=by
 unfold df at e;split at e
 ·rename_i h;cases e;exact⟨h,rfl,rfl⟩
 ·cases e
theorem fg [Zc]{K:zag}{c:V}{cv:Value}(hcv:∀u,RelV c u->u=cv)(hk:PySem.W.kitOne K (.ref Dc) cv=some b):ME (tCB (CV K Zc.e Dc) (fB (kI i) (fB (tC c) pF))) (df i b):=by
 intro F B H σ ρ r0 ρ' Q R e q;obtain⟨h,rfl,rfl⟩:=FH e;exact⟨_,R.exv i h,.inl ⟨c,cv,b,rfl,hcv,hk,q _ B H (Ext.refl _ _ _ _) R (.bl b) λp z=>by cases z⟩⟩
end Mir
namespace L2
open PySem PySem.Spec PyProof.Rows
theorem Top.Jz{K:zag}{base:Heap}{x:Str}{st:Stmt}{N ps:List Str}{k:Nat}{sp:Sp}(T:Top K mg x st)(S:bL N ps (aN st))(len:∀vs H Q E,sp vs H Q E->vs.length=ps.length)
  (hb:∀(kV doc pm:Value) (an:Option Addr) (cdv ct:Value) (us:List Value),us.length=ps.length->bindArgs (PySem.W.fnOf x x (g8 st) (d9 st) (aN st) .none kV doc pm an cdv ct) ⟨us,[]⟩=pure (ps.zip us))
  (hbody:∀(f:Addr) (cdv:Value) (A:Around) (outer:List Env) (s:Shared) (H:Hp) (vs:List V) (Q:VK) (E:XK),dH k (A.deeper (envOfC x (aN st) s.heap.objs.size f cdv))->sp vs H Q E->
   ∃t,PSs (ox (CXW P w) P w K mg base N x (aN st) f cdv A outer s H E) (d9 st) t/\t {nx:=λ_ H'=>Q .non H',rt:=Q} (start N vs) H):Def P w K mg base (CXW P w) (k+1) x ps sp:=by
 obtain⟨f,fd,F,m⟩:=T.ex;refine⟨⟨f,fd,?_,m,F.kp,F.binds hb⟩⟩;obtain⟨oc,od,kV,doc,pm,an,cdv,ct,osl,rfl,lk,hcd⟩:=F.ex;exact d8 lk hcd S len λA outer s H vs Q E hr hsp=>hbody f cdv A outer s H vs Q E hr hsp
def clM(mg:Str->Option Value)(c:Str):Value:=(mg c).getD .none
theorem jh(h:mg c=some v):clM mg c=v:=by unfold clM;rw[h];rfl
def addrOf:Value->Addr
 | .ref a=>a
 |_=>0
def okX(K:zag)(C:Addr)(cls:Value):Prop:=∃D,cls=.ref D/\uh K D/\PySem.W.exmOne K cls (.ref C)=some true
theorem lM{X:Cx}{K:zag}{oe:Obj}(h:X.K=K)(hok:okX K C cls)(hoc:oe.cls=cls):d7 (X.inX e oe) (.builtin "isinstance") (CV K e (addrOf cls)):=by
 subst h;obtain⟨D,rfl,Z,_⟩:=hok;exact AU (X:=X.inX e oe) (zas) hoc Z
def gE{α:Type}(xs:List α)(lo hi st:Option Int):List α:=(sliceRange (sliceBounds lo hi st xs.length).1 (sliceBounds lo hi st xs.length).2.1 (sliceBounds lo hi st xs.length).2.2).filterMap (xs[·]?)
theorem Vals.picks(r:Vals xs us):∀is:List Nat,Vals (is.filterMap (xs[·]?)) (is.filterMap (us[·]?))
 | []=>.nil
 |i::is=>by
  cases h:xs[i]? with
  |none=>rw[List.filterMap_cons_none h,List.filterMap_cons_none (r.none_of h)];exact r.picks is
  |some x=>
   obtain⟨u,h1,h2⟩:=r.get h;rw[List.filterMap_cons_some h,List.filterMap_cons_some h1];exact .cons h2 (r.picks is)
section
variable{X:Cx}{e:Expr}{te:TE}{est:Expr}{lo hi:Option Expr}{tl th tk:TO}{pos p2:Pos}
def JA(X:Cx)(r:V->Option Int->Option Int->Option Int->Hp->VK->Prop):Prop :=
 ∀(pins:List (Addr×Obj)) (s:Shared) (σ:St) (H:Hp) (x:V) (v vl vu vk:Value) (lo hi st:Option Int) (sl:Addr) (Q:VK),Inv X pins σ H s->RelV x v->s.heap.IsSliceOf sl vl vu vk->IsPart vl lo->IsPart vu hi->IsPart vk st->r x lo hi st H Q->
  ∃T id,typeLookup (.type T) "__getitem__"=pure (some (.builtin id))/\s.TypeIs v T/\wpAny (model X.prog X.w) X.A (getItem v (.ref sl)) (EP X pins σ Q) X.xe s
def K9(r:V->Option Int->Option Int->Option Int->Hp->VK->Prop)(te:TE)(tl th tk:TO):TE:=fun σ H Q=>te σ H λx H1=>tl σ H1 λl H2=>th σ H2 λu H3=>tk σ H3 λk H4=>r x l u k H4 Q
theorem sU(hr:JA X r)(he:PE X e te)(hl:PO X lo tl)(hu:PO X hi th)(hk:PO X (some est) tk):PE X (.Subscript e (.Slice lo hi (some est) p2) pos) (K9 r te tl th tk):=by
 intro pins s σ H Q I h;refine Subscript_ (thn (he pins s σ H _ I h) λv s1 ⟨x,H1,I1,r1,q1⟩=>?_)
 refine wpAny_Slice (thn (hl pins s1 σ H1 _ I1 q1) λvl s2 ⟨l,H2,I2,pl,q2⟩=>thn (hu pins s2 σ H2 _ I2 q2) λvu s3 ⟨u,H3,I3,pu,q3⟩=>?_)
 refine thn (hk pins s3 σ H3 _ I3 q3) λvk s4 ⟨k,H4,I4,pk,q4⟩=>?_
 have I5:Inv X pins σ H4 {s4 with heap:=s4.heap.push {cls:=.type "slice",data:=.fields #[vl,vu,vk]}}:=I4.kept (t':=s4.toks) λb ob q=>zar _ q
 obtain⟨T,id,hT,ht,hg⟩:=hr pins {s4 with heap:=s4.heap.push {cls:=.type "slice",data:=.fields #[vl,vu,vk]}} σ H4 x v vl vu vk l u k s4.heap.objs.size Q I5 r1 (Heap.IsSliceOf.new ..) pl pu pk q4
 show wpAny (model X.prog X.w) X.A (subscriptTail e (.Slice lo hi (some est) p2) v (.ref s4.heap.objs.size)) (EP X pins σ Q) X.xe {s4 with heap:=s4.heap.push {cls:=.type "slice",data:=.fields #[vl,vu,vk]}}
 exact tail_any (ops:=[v,.ref s4.heap.objs.size]) ht hT hg (by with_unfolding_all rfl)
def JB(K:zag):V->Option Int->Option Int->Option Int->Hp->VK->Prop:=λx lo hi st H Q=>st≠some 0/\∃a xs,x=.ref a/\SqL K H a xs/\∀p,H p=none->Q (.ref p) (upd H p (.lst (gE xs lo hi st)))
theorem zI(its:List Value)(lo hi st:Option Int):slicePick its.toArray lo hi st=(gE its lo hi st).toArray:=by
 unfold slicePick gE;simp only[List.size_toArray,List.getElem?_toArray]
theorem Dp:JA X (JB X.K):=by
 intro pins s σ H x v vl vu vk lo hi st sl Q I rx hs pl pu pk h;obtain⟨h0,a,xs,rfl,hx,q⟩:=h;cases rx;obtain⟨its,r,ht,hz⟩:=I.list hx;have hlen:=r.length;refine⟨"list",_,slot_list_getitem.lookup,ht.isList.typeIs,?_⟩;refine wpAny_getItem_list_slice ht.isList hs pl pu pk h0 ?_ (by rw[zaK]<;>omega)
 rw[zI];have rv:Vals (gE xs lo hi st) (gE its lo hi st):=by
  unfold gE;rw[hlen];exact r.picks _
 have lz:(gE xs lo hi st).length<=xs.length:=by
  have:=slicePick_size_le its.toArray lo hi st;rw[zI,zaK,zaK]at this;rw[rv.length];omega
 refine⟨.ref s.heap.objs.size,_,I.laid (t':=s.toks) (o:=.lst (gE xs lo hi st)) (λb ob q=>zar _ q) (zap _) ?_,rfl,q _ (I.hok.fresh (zap _))⟩
 exact⟨zaX lz hz,_,0,rv,zaL _ rfl⟩
theorem sV{K:zag}(h:X.K=K):JA X (JB K):=h▸Dp
end
end L2
namespace Mir
open PySem L2
variable [Zc]
def La(r:V->Option Int->Option Int->Option Int->Hp->VK->Prop)(g:D->Option Int->Option Int->Option Int->Option (D×Bool)):Prop :=
 ∀(B H:Hp) (x:V) (c:D) (l u k:Option Int) (res:D×Bool),aD B H->View B H x c->g c l u k=some res->mW B H res λQ=>r x l u k H Q
def yh(g:D->Option Int->Option Int->Option Int->Option (D×Bool))(a:PM)(l u k:Rho->Option (Option Int×Rho)):PM:=fun ρ=>(sv a ρ).bind λx=>(l x.2).bind λy=>(u y.2).bind λz=>(k z.2).bind λw=>(mh w.2 x.1).bind λr=>(g r.1 y.1 z.1 w.1).map λres=>(jY res,w.2)
theorem Dq(J:La r g)(ha:ME ta a)(hl:MO tl l)(hu:MO tu u)(hk:MO tk k):ME (K9 r ta tl tu tk) (yh g a l u k):=by
 intro F B H σ ρ r0 ρ' Q R e q;obtain⟨x,e1,e⟩:=zaa e;obtain⟨y,e2,e⟩:=zaa e;obtain⟨z,e3,e⟩:=zaa e;obtain⟨w,e6,e⟩:=zaa e;obtain⟨r',e4,e⟩:=zaa e;obtain⟨res,e5,e⟩:=zab e;cases e;refine ha.sv F B H σ ρ x.1 x.2 _ R e1 λv B1 H1 E1 R1 V1 N1=>?_
 refine hl F B1 H1 σ x.2 y.1 y.2 _ R1 e2 λB2 H2 E2 R2=>?_
 refine hu F B2 H2 σ y.2 z.1 z.2 _ R2 e3 λB3 H3 E3 R3=>?_
 refine hk F B3 H3 σ z.2 w.1 w.2 _ R3 e6 λB5 H5 E5 R5=>?_
 obtain⟨V3,n3⟩:=V1.next (E2.trans (E3.trans E5)) R5 (jX e1) e4;exact hI R5 (J B5 H5 v r'.1 y.1 z.1 w.1 res R5.sub (V3.view R5) e5) λw B4 H4 E4 R4 V4 N4=>q w B4 H4 ((E1.trans (E2.trans (E3.trans E5))).trans E4) R4 V4 λp z1 z2=>(E1.trans (E2.trans (E3.trans E5))).live p (N4 p z1 z2)
theorem aP.picks(r:aP H vs ds):∀is:List Nat,aP H (is.filterMap (vs[·]?)) (is.filterMap (ds[·]?))
 | []=>.nil
 |i::is=>by
  cases h:ds[i]? with
  |none=>
   have h':vs[i]?=none:=by
    rw[List.getElem?_eq_none_iff]at h⊢;rw[r.length];exact h
   rw[List.filterMap_cons_none h,List.filterMap_cons_none h'];exact r.picks is
  |some x=>
   obtain⟨u,h1,h2⟩:=r.get i x h;rw[List.filterMap_cons_some h,List.filterMap_cons_some h1];exact .cons h2 (r.picks is)
def wq:D->Option Int->Option Int->Option Int->Option (D×Bool)
 | .list ds,lo,hi,some (.ofNat (k+1))=>some (.list (gE ds lo hi (some (.ofNat (k+1)))),true)
 |_,_,_,_=>none
theorem HA:La (JB K) wq:=by
 intro B H x c l u k res s hx e;unfold wq at e;split at e
 ·cases e
  obtain⟨p,xs,rfl,r1,rp1⟩:=hx.list s;refine⟨_,?_,λQ q=>⟨by simp;omega,_,_,rfl,jF r1,q⟩⟩
  unfold gE;rw[<-rp1.length];exact rp1.picks _
 ·cases e
end Mir
namespace Mir
open PySem L2
section
variable [Zc]
def LF(B:Hp):Prop:=∀q o,B q=some o->∃xs,o=.tup xs
structure FrP(F:Fr):Prop where
 lf:LF F.B
 io:F.io=[]
 zh:∀q,F.Z q->F.H q≠none
def MSP(t:TS)(m:SM):Prop:=∀(F:Fr) (B H:Hp) (σ:St) (ρ:Rho) (o:Out) (D:Ends),FrP F->Rel F B H σ ρ->m ρ=some o->kQ F D o->t D σ H
theorem MS.p(h:MS t m):MSP t m:=λF B H σ ρ o D _ R e q=>h F B H σ ρ o D R e q
def tups(H:Hp):Hp:=λq=>match H q with
 |some (.tup xs)=>some (.tup xs)
 |_=>none
theorem aP.put(k:∀q xs,B q=some (.tup xs)->B' q=some (.tup xs))(hr:Rep B' x c'):∀{vs:List V} {ds:List D} (j:Nat),aP B vs ds->vs[j]?=some x->ds[j]?=some c->bV (ds.set j .none)=true->aP B' vs (ds.set j c')
 |_,_,_,.nil,h,_,_=>by simp at h
 |_,_,0,.cons a b,h1,h2,e=>by
  simp only[List.getElem?_cons_zero,Option.some.injEq]at h1;subst h1;simp only[List.set_cons_zero,bV,Bool.and_eq_true]at e;exact .cons hr (b.de k e.2)
 |_,_,j+1,.cons a b,h1,h2,e=>by
  simp only[List.set_cons_succ,bV,Bool.and_eq_true]at e;exact .cons (a.de k e.1) (aP.put k hr j b (by simpa using h1) (by simpa using h2) e.2)
theorem Dr{j:Nat}(h:xs[j]?=some x):L2.atI xs (j:Int)=some x:=by
 rw[Mir.mR];exact h
structure MM(B H:Hp)(p:Addr)(v:V)(B' H':Hp)(d:D)(o:Bool)(d1:D):Prop where
 eH:∀q u,q≠p->H q=some u->H' q=some u
 eB:aD B B'
 sub:aD B' H'
 nb:∀q,H q≠none->B q=none->B' q=none
 tB:∀q xs,H' q=some (.tup xs)->B' q=some (.tup xs)
 nz:∀q o u,H' q=some (.frz o u)->H q≠none
 own:Own B' H' p d1
 val:if o=true then∃p,v=.ref p/\H p=none/\B' p=none/\Own B' H' p d else Rep B' v d
def yi:Out->Rho
 | .nx ρ=>ρ
 | .rt _ ρ=>ρ
 | .bk ρ=>ρ
 | .ct ρ=>ρ
def ownAt(ρ:Rho)(i:Nat):Option Sl:=match ρ[i]? with
 |some s=>if s.e9=true then some s else none
 |none=>none
theorem nj(h:ownAt ρ i=some s) : ρ[i]?=some s/\s.e9=true:=by
 unfold ownAt at h;split at h
 ·rename_i s' h0
  split at h
  ·rename_i h1;cases h;exact⟨h0,h1⟩
  ·cases h
 ·cases h
theorem Own.Ds(h:Own B H p d)(a:Obj)(u:HO):H p≠some (.frz a u):=by cases h with
 |lst h _=>rw[h];simp
 |dct h _=>rw[h];simp
theorem HB(h1:sv a ρ=some ((x,.at i),ρ1))(h2:sv b ρ1=some (r,ρ2))(h4 : ρ2[i]?=some (.io y))(h3:g y r.1=some res):mOp g a b ρ=some (jY res,ρ2):=by
 unfold mOp;rw[h1,zai];dsimp only;rw[h2,zai];dsimp only[mh];rw[h4];dsimp only[Option.bind_some];rw[h3,zaT]
theorem yj(h : ρ[i]?=some (.io d)):aj i ρ=some ((d,.at i),ρ):=by unfold aj;rw[h]
theorem Lb(h1:sv a ρ=some ((x,.ro),ρ1))(h2:sv b ρ1=some (r,ρ2))(h3:g x r.1=some res):mOp g a b ρ=some (jY res,ρ2):=by
 unfold mOp;rw[h1,zai];dsimp only;rw[h2,zai];dsimp only[mh,Option.bind_some];rw[h3,zaT]
def Two(H0 B' H':Hp)(v:V)(c:D×D):Prop:=∃a p q,v=.ref a/\H' a=some (.tup [.ref p,.ref q])/\p≠q/\H0 p=none/\H0 q=none/\B' p=none/\B' q=none/\Own B' H' p c.1/\Own B' H' q c.2
structure Lc(B H:Hp)(v:V)(B' H':Hp)(c:D×D):Prop where
 eH:aD H H'
 eB:aD B B'
 sub:aD B' H'
 nb:∀q,H q≠none->B q=none->B' q=none
 tB:∀q xs,H' q=some (.tup xs)->B' q=some (.tup xs)
 nz:∀q o u,H' q=some (.frz o u)->H q≠none
 val:Two H B' H' v c
def spD(f:List D->Option (D×D)):Sp:=λvs H Q _=>∃B ds c,aD B H/\(∀q xs,H q=some (.tup xs)->B q=some (.tup xs))/\aP B vs ds/\f ds=some c/\∀v B' H',Lc B H v B' H' c->Q v H'
def OkD(F:Fr)(E:Ends)(c:D×D):Prop:=∀v B' H' σ' ρ',Rel F B' H' σ' ρ'->Two F.H B' H' v c->E.rt v H'
def MD(t:TS)(m:Rho->Option (D×D)):Prop:=∀(F:Fr) (B H:Hp) (σ:St) (ρ:Rho) (c:D×D) (E:Ends),Rel F B H σ ρ->m ρ=some c->OkD F E c->t E σ H
def kz(a:SM)(b:Rho->Option (D×D)):Rho->Option (D×D):=fun ρ=>(a ρ).bind λo=>match o with
 | .nx ρ'=>b ρ'
 |_=>none
theorem j0(ha:MS t a)(hb:MD u b):MD (AJ t u) (kz a b):=by
 intro F B H σ ρ c E R e q;obtain⟨x,e1,e⟩:=zaa e;cases x with
 |nx ρ'=>exact ha F B H σ ρ _ {E with nx:=u E} R e1 λB' H' σ' R'=>hb F B' H' σ' ρ' c E R' e q
 |rt r ρ'=>cases e
 |bk ρ'=>cases e
 |ct ρ'=>cases e
def Dt(i j:Nat):Rho->Option (D×D):=fun ρ=>match ρ[i]?,ρ[j]? with
 |some (.own c1),some (.own c2)=>if i=j then none else some (c1,c2)
 |_,_=>none
theorem JC:MD (Cm (Cz (fB (kI i) (fB (kI j) pF)))) (Dt i j):=by
 intro F B H σ ρ c E R e q;unfold Dt at e;split at e
 case h_2=>cases e
 rename_i c1 c2 hi hj
 split at e
 ·cases e
 rename_i hij
 cases e;obtain⟨p,vi,bi,oi⟩:=R.slot i _ hi;obtain⟨r,vj,bj,oj⟩:=R.slot j _ hj;have hne:p≠r:=λz=>hij (R.dist i j _ _ p hi rfl hj rfl vi (z▸vj))
 refine⟨_,vi,_,vj,(by simp only[List.length_cons,List.length_nil,sizeLine];omega),λa ha=>?_⟩
 obtain⟨R',_,eB⟩:=R.oz (xs:=[.ref p,.ref r]) ha;have pa:p≠a:=λz=>oi.g9 (z▸ha)
 have ra:r≠a:=λz=>oj.g9 (z▸ha)
 refine q _ _ _ σ ρ R' ⟨a,p,r,rfl,ar,hne,R.jD i _ p hi vi,R.jD j _ r hj vj,by rw[ao pa];exact bi,by rw[ao ra];exact bj,oi.mono eB λo h=>by rw[ao pa];exact h,oj.mono eB λo h=>by rw[ao ra];exact h⟩
def fnD(n k:Nat)(b:Rho->Option (D×D))(ds:List D):Option (D×D):=if ds.length=n then b (ds.map .fz++List.replicate k .no)else none
theorem uA(hb:MD t b)(hN:N.length=n+k)(h:spD (fnD n k b) vs H Q E):t {nx:=λ_ H'=>Q .non H',rt:=Q} (L2.start N vs) H:=by
 obtain⟨B,ds,c,sub,tB,rp,e,q⟩:=h;unfold fnD at e;split at e
 case isFalse=>cases e
 rename_i hl
 have hvl:vs.length=n:=rp.length.trans hl;have lY:∀(i:Nat) (s:Sl),(ds.map Sl.fz++List.replicate k .no)[i]?=some s->s.isRef=true->False:=λi s h1 h2=>by
  have:=zaj h1;rcases zae this with h|h
  ·obtain⟨c,_,rfl⟩:=List.mem_map.mp h;cases h2
  ·rw[zaG h]at h2;cases h2
 have ex0:∀i:Nat,(ds.map Sl.fz++List.replicate k .no)[i]?=some Sl.ex->False:=λi h1=>by
  have:=zaj h1;rcases zae this with h|h
  ·obtain⟨c,_,z⟩:=List.mem_map.mp h;cases z
  ·have:=zaG h;cases this
 have R:Rel ⟨B,H,[],λq=>H q≠none⟩ B H (L2.start N vs) (ds.map .fz++List.replicate k .no):=by
  refine⟨sub,aD.refl _,λ_ _ z _=>z,λ_ _ z=>z,?_,λi s hs=>?_,λi j s t p h1 h2=>(lY i s h1 (Sl.f9 h2)).elim,λi c p h1=>(lY i _ h1 rfl).elim,(λx hx=>by cases hx),λi c h1=>(lY i _ h1 rfl).elim,tB,(λi h1=>(ex0 i h1).elim),λq o u h z=>by rw[z]at h;cases h⟩
  ·simp[L2.start,hl,hvl,hN]
  ·by_cases hi:i<n
   ·rw[zax (by simpa[hl]using hi),zao]at hs
    obtain⟨c,h1,rfl⟩:=zab hs;obtain⟨x,h2,h3⟩:=rp.get i c h1;refine⟨x,?_,h3⟩;unfold L2.start;rw[zax (by simpa[hvl]using hi),zao,h2]
    rfl
   ·rw[zaN (by simpa[hl]using zba hi)]at hs
    have:=zaG (zaj hs);subst this;trivial
 refine hb _ B H _ _ c _ R e λv B' H' σ' ρ' R' T=>?_
 exact q v B' H' ⟨λq u z=>R'.sH q u z (λx hx=>by cases hx),R'.sB,R'.sub,R'.nB,R'.cO,R'.nz,T⟩
theorem uB(h:spD (fnD n k b) vs H Q E):vs.length=n:=by
 obtain⟨B,ds,c,sub,tB,rp,e,q⟩:=h;unfold fnD at e;split at e
 ·rename_i hl;exact rp.length.trans hl
 ·cases e
end
end Mir
namespace L2
open PySem PySem.Spec PyProof.Rows
section
variable{X:Cx}{pins:List (Addr×Obj)}{σ:St}{H:Hp}{s:Shared}{h':Heap}
theorem Inv.uC{fp:List Addr}(I:Inv X pins σ H s)(k:∀b o,b∉fp->s.heap.get? b=some o->h'.get? b=some o)(f:∀b∈fp,jg X pins H b):Inv X pins σ H {s with heap:=h',toks:=t'}:=by
 have nit:∀b u,H b=some u->b∉fp:=λb u e z=>by rw[(f b z).1]at e;cases e
 have hL:X.env.locals∉fp:=λz=>(f _ z).2.1 rfl
 refine I.step (g':=s.gens) (d':=s.drawn) (ch:=fp) (λb hb=>?_) (λb o _ _ hc e _=>k b o hc e) (λb o _ _ hc e _=>⟨o.slots,k b o hc e⟩) (λ_ _ _ _ n=>n)
  (λb o hc e=>⟨o,k b o hc e⟩) (λ_ _ e=>e) (λ_ _ _ e=>e) (λb ps e=>⟨#[],by rw[e];simp⟩) (λm hm=>?_) (λb u e=>?_) I.bare
 ·obtain⟨_,f1,_,f3,f4,f5⟩:=f b hb
  exact⟨f3,f1,f4,f5⟩
 ·obtain⟨o,es,ep,ho,r⟩:=hm
  exact⟨o,es,ep,k _ o hL ho,r⟩
 ·refine(I.hok b u e).stay (λc v hc q=>k c v ?_ q) (λ_ q=>q) λ_ _ _ q=>q
  rcases hc with z|z
  ·rw[z];exact nit b u e
  ·exact nit c _ z
end
section
variable{prog:Program}{w:World}{A:Around}{E:Value->Shared->Prop}{s:Shared}
def Du(l:Addr)(it:Addr)(items:Array Value)(n:Nat)(h:Heap):Prop:=h.IsTupleIter it l n/\h.IsTuple l items
theorem Du.keep(n:Nat)(h h':Heap)(x:Du l it items n h)(a:∀o,h.get? it=some o->h'.get? it=some o)(b:∀o,h.get? l=some o->h'.get? l=some o):Du l it items n h' :=
 ⟨x.1.at a,by obtain⟨o,e,r⟩:=x.2;exact⟨o,b _ e,r⟩⟩
end
def FI(x y:Str)(fr:List (Str×Nat)):List Str:=x::y::fr.map (·.1)
structure MV(X:Cx)(scope:Scope)(x y:Str)(fr:List (Str×Nat)):Prop where
 b:Blk X scope x fr
 MP:scope.names.lookup y=some .local
 nd2:(FI x y fr).Nodup
abbrev XE:=St->Value->Hp->Prop
abbrev TX:=XE->TS
abbrev TEX:=XE->TE
def XP(X:Cx)(pins:List (Addr×Obj))(E:XE)(ev:Value)(s':Shared):Prop :=
 ∃(ea t:Addr) (cls:Value) (B:Heap) (H':Hp) (s1:Shared) (H1:Hp) (σ1:St),ev=.ref ea/\Inv X pins σ1 H1 s1/\zt X.prog X.w X.stack H1 s1 (λcls _ H'=>E σ1 cls H') ea t cls B H' s'
def PX(X:Cx)(st:Stmt)(t:TX):Prop :=
 ∀(pins:List (Addr×Obj)) (s:Shared) (σ:St) (H:Hp) (D:Ends) (E:XE),Inv X pins σ H s->t E D σ H->wpAny (model X.prog X.w) X.A (exec st X.env) (SP X pins D) (XP X pins E) s
def PXs(X:Cx)(st:List Stmt)(t:TX):Prop :=
 ∀(pins:List (Addr×Obj)) (s:Shared) (σ:St) (H:Hp) (D:Ends) (E:XE),Inv X pins σ H s->t E D σ H->wpAny (model X.prog X.w) X.A (execs st X.env) (SP X pins D) (XP X pins E) s
def PEX(X:Cx)(e:Expr)(t:TEX):Prop :=
 ∀(pins:List (Addr×Obj)) (s:Shared) (σ:St) (H:Hp) (Q:VK) (E:XE),Inv X pins σ H s->t E σ H Q->wpAny (model X.prog X.w) X.A (eval e X.env) (EP X pins σ Q) (XP X pins E) s
def Ld(c:TT)(t u:TX):TX:=λE=>Cn c (t E) (u E)
def Dv(sp:Sp)(t:TA):TEX:=λE σ H Q=>t σ H λvs H1=>sp vs H1 Q (λcls _ H2=>E σ cls H2)
def Dw(te:TEX):TX:=λE=>vM (te E)
section
variable{X:Cx}{st:Stmt}{rest:List Stmt}{t:TX}{u:TX}{pos:Pos}
theorem nq(h1:PX X st t):PXs X [st] t:=by
 intro pins s σ H D E I h;refine wpAny_execs_cons (thn (h1 pins s σ H D E I h) λf s1 q=>?_)
 cases f with
 |next=>exact wpAny_execs_nil q
 |ret v=>exact q
 |brk=>exact q
 |cont=>exact q
theorem HC(hxe:X.xe=λ_ _=>False)(hc:PT X c tc)(ha:PXs X a t)(hb:PXs X b u):PX X (.If c a b pos) (Ld tc t u):=by
 intro pins s σ H D E I h;refine wpAny_If (za6 (hc pins s σ H _ I h) (λd s1 ⟨H1,I1,q1⟩=>?_) λ_ _ z=>by rw[hxe]at z;exact z.elim)
 cases d with
 |true=>exact ha pins s1 σ H1 D E I1 q1
 |false=>exact hb pins s1 σ H1 D E I1 q1
theorem uD(he:PEX X e te)(hs:swapsWith e none pos.line X.env=pure false:=by rfl):PX X (.Expr e pos) (Dw te):=by
 intro pins s σ H D E I h;exact wpAny_Expr_any (thn (he pins s σ H _ E I h) λv s1 ⟨x,H1,I1,r1,q1⟩=>⟨σ,H1,I1,q1⟩) I.quiet hs
theorem uE{p pos':Pos}{a:Expr}{es:List Expr}{t:TA}(hxe:X.xe=λ_ _=>False)(Df:Def X.prog X.w X.K X.mg X.base (CXW X.prog X.w) k x ps sp)(hr:dH k X.A)(ha:PA X (a::es) t)(hg:Gl X x:=by rfl)
  (hdb:(x==("__debug__":Str))=false:=by decide) (he:starEach (a::es) X.env=(false,eval a X.env)::starEach es X.env:=by rfl) (hpl:(backTo pos' (starEach es X.env)).any (·.1)=false:=by rfl) :
  PEX X (.Call (.Name x p) (a::es) [] pos') (Dv sp t):=by
 intro pins s σ H Q E I h;obtain⟨f,fd,F,hm,hk,hb⟩:=Df.ex;refine wpAny_Call_Name_kw (lG I hg hm ?_ hdb);refine PySem.W.callWith_K (h₀:=X.base) I.ok.mod.kin hk (za6 (ha pos' pins s σ H _ I h) (λus s1 ⟨vs,H1,I1,r,q⟩=>⟨I1.kIn,?_⟩) (λ_ _ z=>by rw[hxe]at z;exact z.elim)) he hpl
 have hl:us.length=ps.length:=by rw[<-r.length];exact F.len _ _ _ _ q
 have hbt:=hb s1 us I1.kIn (by rw[zaR];exact hl)
 rw[zaR]at hbt;refine wpAny_call (codeAny_mono (F.run X.A X.stack s1 H1 ⟨us,[]⟩ us vs _ _ hr I1.env0 hbt r q) λr s' hq=>?_)
 cases r with
 |ok fl=>
  cases fl with
  |ret u=>
   obtain⟨v,H2,I2,rv,q2⟩:=I1.after hq;exact⟨v,H2,I2,rv,q2⟩
  |next=>exact False.elim hq
  |brk=>exact False.elim hq
  |cont=>exact False.elim hq
 |error ev=>
  obtain⟨ea,t',cls,B,H2,rfl,fl⟩:=hq;exact⟨ea,t',cls,B,H2,s1,H1,σ,rfl,I1,fl⟩
end
def HE(tb:TX)(i:Nat)(ok:Value->Prop)(th:Value->Addr->TS):TS:=λD σ H=>tb (fun σ1 cls H2=>ok cls/\∀e:Addr,H2 e=none->th cls e (D.drop i) (σ1.set i (some (.ref e))) H2) D σ H
section
variable{X:Cx}
theorem FJ{K:zag}{i:Nat}{body:List Stmt}{tb:TX}{th:Value->Addr->TS}{b₀:Stmt}{suite:List Stmt}(hK:X.K=K)(hb:PXs X body tb)
  (hst:X.stack=X.env::X.outer) (hfr:X.env.frame=some X.env.locals) (hgC:Gl X xC) (hmC:X.mg xC=some (.ref C)) (hN:X.N.Nodup) (hi:X.N[i]?=some n) (hln:X.env.scope.names.lookup n=some .local)
  (hS:∀(cls:Value) (e:Addr) (oe:Obj),oe.cls=cls->L2.okX K C cls->PSs (X.inX e oe) (b₀::suite) (th cls e))
  (hdC:(xC==("__debug__":Str))=false:=by decide):PS X (.Try body [.ExceptHandler (some (.Name xC np)) (some n) (b₀::suite) hpos] [] [] pos) (HE tb i (L2.okX K C) th):=by
 subst hK;intro pins s σ H D I h;refine wpAny_Try_except ?_;refine za6 (hb pins s σ H D _ I h) (λf s1 q=>?_) λev s' hq=>?_
 ·cases f with
  |next=>exact wpAny_execs_nil q
  |ret v=>exact q
  |brk=>exact q
  |cont=>exact q
 ·obtain⟨ea,t',cls,B,H2,s1,H1,σ1,rfl,I1,fl⟩:=hq
  obtain⟨okc,hth⟩:=fl.wish;have fly:=fl.fly;rw[hst]at fly;refine wpAny_looks_onW (by rw[I.ok.frames,hst]) hfr fly λh4 Le sm4=>?_
  refine wpAny_landsW Le λh5 JD sm5=>?_
  have sm:s'.heap.UpToSlots h5:=sm4.trans sm5;have I5:Inv X pins σ1 H2 {s' with heap:=h5}:=fl.inv I1 (by rw[hst];exact JD) sm
  have I5m:=I5.mkd (e:=ea);refine wpAny_handleBy_cons (codeAny_handlers_test (lG I5m hgC hmC ?_ hdC)) (by intro q;cases q)
  have LT:PySem.W.Looks (model X.prog X.w) h5 (typeOf (.ref ea)) cls:=by
   obtain⟨ob,hob,hobc⟩:=JD.there;exact hobc▸(PySem.W.Looks.ld hob).andThen .now
  have hex:PySem.W.exmOne X.K cls (.ref C)=some true:=by obtain⟨_,_,_,z⟩:=id okc;exact z
  refine(PySem.W.exm_one I5.kIn LT hex) _ _ _ _ (λ_ _ z=>z) ?_
  refine codeAny_handlers_suite_as ?_;refine lands_againW JD λh6 FK sm6=>?_
  have I6:Inv X pins σ1 H2 {s' with heap:=h6}:=fl.inv I1 (by rw[hst];exact FK) (sm.trans sm6)
  obtain⟨oe,ws,hoe,hoec,hoed,_⟩:=FK.first;have hHe:H2 ea=none:=by
   cases z:H2 ea with
   |none=>rfl
   |some u=>
    obtain⟨o',q'⟩:=(fl.hok ea u z).is;rw[FK.2.1]at q';cases q'
  have nfr:ea∉frs (X.env::X.outer):=λhm'=>by
   obtain⟨_,o',q',hd⟩:=FK.2.2.1.mem hm';rw[hoe]at q';cases q';exact hd ws hoed
  have I6x:Inv (X.inX ea oe) pins σ1 H2 {s' with heap:=h6}:=I6.inX hoe hHe (λz=>nfr (List.mem_filterMap.mpr ⟨X.env,zas,by rw[hfr,z]⟩)) (λz=>nfr (by
   obtain⟨env,he',hf'⟩:=List.mem_filterMap.mp z;exact List.mem_filterMap.mpr ⟨env,zak _ he',hf'⟩)) (λv z=>by rw[hoed]at z;cases z)
  refine qg (X:=X.inX ea oe) I6x hN hi (.inl hln) (v:=.ref ea) rfl (λs7 I7=>?_) (.inr hln)
  refine za6 (hS cls ea oe hoec okc pins s7 _ H2 (D.drop i) I7 (hth ea hHe)) (λfl' s8 q8=>?_) (λ_ _ z=>z.elim)
  cases fl' with
  |next=>
   obtain⟨σ8,H8,I8,q8⟩:=q8;exact pR (I8.Fo I.ok) hN hi hln λs9 I9=>⟨_,H8,I9,q8⟩
  |brk=>
   obtain⟨σ8,H8,I8,q8⟩:=q8;exact pR (I8.Fo I.ok) hN hi hln λs9 I9=>⟨_,H8,I9,q8⟩
  |cont=>
   obtain⟨σ8,H8,I8,q8⟩:=q8;exact pR (I8.Fo I.ok) hN hi hln λs9 I9=>⟨_,H8,I9,q8⟩
  |ret u=>
   obtain⟨v8,σ8,H8,I8,r8,q8⟩:=q8;exact pR (I8.Fo I.ok) hN hi hln λs9 I9=>⟨v8,_,H8,I9,r8,q8⟩
end
end L2
namespace Mir
open PySem L2
section
variable [Zc]
abbrev XM:=Rho->Option ((RV×Rho) ⊕ (Str×Rho))
def JE(cl:Str->Value)(F:Fr)(D:Ends)(E:XE):oE->Prop
 | .ok o=>kQ F D o
 | .er c ρ=>∀B H σ,Rel F B H σ ρ->E σ (cl c) H
def MSX(cl:Str->Value)(t:TX)(m:EM):Prop:=∀(F:Fr) (B H:Hp) (σ:St) (ρ:Rho) (o:oE) (D:Ends) (E:XE),Rel F B H σ ρ->m ρ=some o->JE cl F D E o->t E D σ H
variable{cl:Str->Value}
theorem Dx(hc:MT tc c)(ha:MSX cl t a)(hb:MSX cl u b):MSX cl (Ld tc t u) (eIf c a b):=by
 intro F B H σ ρ o D E R e q;obtain⟨x,e1,e⟩:=zaa e;refine hc F B H σ ρ x.1 x.2 _ R e1 λB' H' E' R'=>?_
 by_cases h:x.1=true
 ·rw[if_pos h]at e⊢;exact ha F B' H' σ x.2 o D E R' e q
 ·rw[if_neg h]at e⊢;exact hb F B' H' σ x.2 o D E R' e q
def mOk(m:XM):PM:=fun ρ=>match m ρ with
 |some (.inl x)=>some x
 |_=>none
theorem JF(h:mOk m ρ=some x):m ρ=some (.inl x):=by
 unfold mOk at h;split at h
 ·rename_i y e;cases h;exact e
 ·cases h
structure MEX(cl:Str->Value)(t:TEX)(m:XM):Prop where
 ok:∀E,ME (t E) (mOk m)
 er:∀(F:Fr) (B H:Hp) (σ:St) (ρ:Rho) (c:Str) (ρ':Rho) (Q:VK) (E:XE),Rel F B H σ ρ->m ρ=some (.inr (c,ρ'))->(∀B' H',Rel F B' H' σ ρ'->E σ (cl c) H')->t E σ H Q
def ji(f:List D->Option ((D×Bool) ⊕ Str))(m:Rho->Option (List RV×Rho)):XM:=fun ρ=>(m ρ).bind λx=>(gZ x.1 x.2).bind λy=>(f y.1).map λw=>match w with
 | .inl (d,o)=>.inl (kO d o,y.2)
 | .inr c=>.inr (c,y.2)
theorem sW(h:ji f m ρ=some z):∃x y w,m ρ=some x/\gZ x.1 x.2=some y/\f y.1=some w/\z=(match w with
 | .inl (d,o)=>.inl (kO d o,y.2)
 | .inr c=>.inr (c,y.2)):=by
 obtain⟨x,e1,h⟩:=zaa h;obtain⟨y,e2,h⟩:=zaa h;obtain⟨w,e3,h⟩:=zab h;exact⟨x,y,w,e1,e2,e3,h.symm⟩
theorem qB(h:MA t m):MEX cl (Dv (spX cl f) t) (ji f m):=by
 refine⟨λE=>?_,?_⟩
 ·intro F B H σ ρ r ρ' Q R e q
  obtain⟨x,y,w,e1,e2,e3,e4⟩:=sW (JF e);cases w with
  |inr c=>cases e4
  |inl w=>
   obtain⟨d,o⟩:=w;cases e4;refine h F B H σ ρ x.1 x.2 _ R e1 λvs B1 H1 E1 R1 V1=>?_
   obtain⟨B2,R2,rp,E2⟩:=Rel.vZ R1 V1.weak e2;refine⟨B2,y.1,_,R2.sub,R2.cO,rp,e3,λv B' H' P=>?_⟩
   have R3:=R2.grow P.eB P.eH P.sub P.nb P.tB P.nz;have E3:Ext σ y.2 B2 H1 y.2 B' H':=Ext.grow P.eB P.eH P.nb;cases o with
   |false=>
    have pv:Rep B' v d:=P.val;exact q v B' H' (E1.trans (E2.trans E3)) R3 pv λp z=>by cases z
   |true=>
    obtain⟨p,rfl,h1,h2,h3⟩:∃p,v=.ref p/\H1 p=none/\B' p=none/\Own B' H' p d:=P.val;have fr:=R2.free h1;exact q _ B' H' (E1.trans (E2.trans E3)) R3 ⟨p,rfl,h2,fr.2.1,h3,fr.2.2⟩ λp' _ z=>by cases z;exact E1.live p h1
 ·intro F B H σ ρ c ρ' Q E R e q
  obtain⟨x,y,w,e1,e2,e3,e4⟩:=sW e;cases w with
  |inl w=>obtain⟨d,o⟩:=w;cases e4
  |inr c'=>
   cases e4;refine h F B H σ ρ x.1 x.2 _ R e1 λvs B1 H1 E1 R1 V1=>?_
   obtain⟨B2,R2,rp,E2⟩:=Rel.vZ R1 V1.weak e2;refine⟨B2,y.1,_,R2.sub,R2.cO,rp,e3,λB' H' P=>?_⟩
   exact q B' H' (R2.grow P.eB P.eH P.sub P.nb P.tB P.nz)
def eX(k:PM->SM)(m:XM):EM:=fun ρ=>(m ρ).bind λo=>match o with
 | .inl _=>(k (mOk m) ρ).map .ok
 | .inr x=>some (.er x.1 x.2)
theorem Lf{T:TE->TS}(hT:∀(te:TE) D σ H,(∀Q,te σ H Q)->T te D σ H)(hk:∀t m,ME t m->MS (T t) (k m))(h:MEX cl te m):MSX cl (λE=>T (te E)) (eX k m):=by
 intro F B H σ ρ o D E R e q;obtain⟨x,e1,e⟩:=zaa e;cases x with
 |inl x=>
  obtain⟨y,e2,e⟩:=zab e;cases e;exact hk _ _ (h.ok E) F B H σ ρ y D R e2 q
 |inr x=>
  cases e;exact hT _ D σ H λQ=>h.er F B H σ ρ x.1 x.2 Q E R e1 λB' H' R'=>q B' H' σ R'
theorem qC(h:MEX cl te m):MSX cl (Dw te) (eX eD m):=Lf (T:=vM) (λte D σ H q=>q _) (λt m h=>iV h) h
end
def zJ(b:EM)(i:Nat)(su:Str->Option SM):SM:=fun ρ=>(b ρ).bind λo=>match o with
 | .ok o=>some o
 | .er c ρ0=>(su c).bind λs=>if FG ρ0=true then(fC ρ0 i .ex).bind fun ρ1=>(s ρ1).bind (Hy i)else none
theorem FL [z:Zc](h:MSX cl tb b)(hok:∀c s,su c=some s->ok (cl c))
  (hs:∀c s,su c=some s->∀e:Addr,@MS ⟨e⟩ (th (cl c) e) s):MS (HE tb i ok th) (zJ b i su):=by
 intro F B H σ ρ o D R e q;obtain⟨x,e1,e⟩:=zaa e;refine h F B H σ ρ x D _ R e1 ?_;cases x with
 |ok o'=>cases e;exact q
 |er c ρ0=>
  obtain⟨s,e3,e⟩:=zaa e;split at e
  ·rename_i hn
   obtain⟨ρ1,e4,e⟩:=zaa e;obtain⟨o1,e5,e6⟩:=zaa e;intro B2 H' σ1 R2;refine⟨hok c s e3,λea hea=>?_⟩
   have Lg:=mY e4;have hl:i<σ1.length:=by
    obtain⟨_,s0,h0,_⟩:=Lg;have:=(zac h0).1;rw[R2.len]at this;exact this
   have R3 : @Rel ⟨ea⟩ F B2 H' (σ1.set i (some (.ref ea))) ρ1:=Rel.K8 (z:=z) (z':=⟨ea⟩) (some (.ref ea)) R2 e4 (.inr rfl) λj hj=>by
    obtain⟨rfl,_⟩:=Lg;rcases get_set hj with⟨rfl,_,_⟩|⟨_,hj⟩
    ·exact zav hl
    ·exact(zH hn j hj).elim
   refine hs c s e3 ea F B2 H' _ ρ1 o1 _ R3 e5 ?_;cases o1 with
   |nx ρ2=>
    obtain⟨ρ3,e7,e8⟩:=zaa (show(fC ρ2 i .no).bind _=some o from e6);split at e8
    ·rename_i hn2
     cases e8;intro B4 H4 σ4 R4;exact q B4 H4 _ (Rel.K8 (z:=⟨ea⟩) (z':=z) none R4 e7 (.inl rfl) λj hj=>(zH hn2 j hj).elim)
    ·cases e8
   |rt r ρ2=>cases e6
   |bk ρ2=>cases e6
   |ct ρ2=>cases e6
  ·cases e
section
variable [Zc]
structure Lh(B H:Hp)(p p2:Addr)(v:V)(B' H':Hp)(d:D)(o:Bool)(d1 d2:D):Prop where
 eH:∀q u,q≠p->q≠p2->H q=some u->H' q=some u
 eB:aD B B'
 sub:aD B' H'
 nb:∀q,H q≠none->B q=none->B' q=none
 tB:∀q xs,H' q=some (.tup xs)->B' q=some (.tup xs)
 nz:∀q o u,H' q=some (.frz o u)->H q≠none
 own:Own B' H' p d1
 FO:Own B' H' p2 d2
 val:if o=true then∃p,v=.ref p/\H p=none/\B' p=none/\Own B' H' p d else Rep B' v d
def spJ(f:List D->Option ((D×Bool)×D×D)):Sp:=λvs H Q _=>∃B p p2 us d0 e0 ds r d1 d2,vs=.ref p::.ref p2::us/\p≠p2/\aD B H/\(∀q xs,H q=some (.tup xs)->B q=some (.tup xs))/\B p=none/\B p2=none/\Own B H p d0/\Own B H p2 e0/\aP B us ds/\f (d0::e0::ds)=some (r,d1,d2)/\∀v B' H',Lh B H p p2 v B' H' r.1 r.2 d1 d2->Q v H'
def io2:Rho->Option (D×D)
 | .io d::.io e::_=>some (d,e)
 |_=>none
theorem JG(h:io2 ρ=some d) : ρ[0]?=some (Sl.io d.1)/\ρ[1]?=some (Sl.io d.2):=by
 unfold io2 at h;split at h
 ·cases h;exact⟨rfl,rfl⟩
 ·cases h
def fnJ(n k:Nat)(b:SM):List D->Option ((D×Bool)×D×D)
 |d0::e0::ds=>if ds.length+2=n then(b (.io d0::.io e0::ds.map .fz++List.replicate k .no)).bind λo=>(AX o).bind λr=>(io2 (yi o)).map λd=>(r,d)else none
 |_=>none
theorem zK(hb:MS t b)(hN:N.length=n+k)(h:spJ (fnJ n k b) vs H Q E):t {nx:=λ_ H'=>Q .non H',rt:=Q} (L2.start N vs) H:=by
 obtain⟨B,p,p2,us,d0,e0,ds,r0,d1,d2,rfl,hpp,sub,tB,hB,hB2,ow,ow2,rp,e,q⟩:=h;simp only[fnJ]at e;split at e
 case isFalse=>cases e
 rename_i hl
 obtain⟨w,e1,e2⟩:=zaa e;obtain⟨r,e2,e3⟩:=zaa e2;obtain⟨d,e3,e4⟩:=zab e3;cases e4;have hvl:us.length+2=n:=by rw[rp.length];exact hl
 have lY:∀(i:Nat) (s:Sl),(Sl.io d0::Sl.io e0::ds.map Sl.fz++List.replicate k .no)[i]?=some s->s.isRef=true->(i=0/\s=.io d0)\/(i=1/\s=.io e0):=λi s h1 h2=>by
  cases i with
  |zero=>rw[zay,zaP]at h1;cases h1;exact .inl ⟨rfl,rfl⟩
  |succ i=>
   cases i with
   |zero=>rw[zay,zat,zay,zaP]at h1;cases h1;exact .inr ⟨rfl,rfl⟩
   |succ i=>
    rw[zay,zat,zay,zat]at h1;have:=zaj h1;rcases zae this with h|h
    ·obtain⟨c,_,rfl⟩:=List.mem_map.mp h;cases h2
    ·rw[zaG h]at h2;cases h2
 have ex0:∀i:Nat,(Sl.io d0::Sl.io e0::ds.map Sl.fz++List.replicate k .no)[i]?=some Sl.ex->False:=λi h1=>by
  cases i with
  |zero=>rw[zay,zaP]at h1;cases h1
  |succ i=>
   cases i with
   |zero=>rw[zay,zat,zay,zaP]at h1;cases h1
   |succ i=>
    rw[zay,zat,zay,zat]at h1;have:=zaj h1;rcases zae this with h|h
    ·obtain⟨c,_,z⟩:=List.mem_map.mp h;cases z
    ·have:=zaG h;cases this
 have st0:(L2.start N (.ref p::.ref p2::us))[0]?=some (some (.ref p)):=by
  unfold L2.start;rw[zaz,zay,zaP]
 have st1:(L2.start N (.ref p::.ref p2::us))[1]?=some (some (.ref p2)):=by
  unfold L2.start;rw[zaz,zay,zat,zaz,zay,zaP]
 have R:Rel ⟨B,H,[(0,p),(1,p2)],λq=>H q≠none⟩ B H (L2.start N (.ref p::.ref p2::us)) (.io d0::.io e0::ds.map .fz++List.replicate k .no):=by
  refine⟨sub,aD.refl _,λ_ _ z _=>z,λ_ _ z=>z,?_,λi s hs=>?_,λi j s t p' h1 h2 h3 h4 h5 h6=>?_,(λi c p h1=>by rcases lY i _ h1 rfl with⟨_,z⟩|⟨_,z⟩<;>cases z),(λx hx=>?_),(λi c h1=>?_),tB,(λi h1=>(ex0 i h1).elim),λq o u h z=>by rw[z]at h;cases h⟩
  ·simp[L2.start,hl,hvl,hN];omega
  ·cases i with
   |zero=>
    rw[zay,zaP]at hs;cases hs;exact⟨p,st0,hB,ow⟩
   |succ i=>
    cases i with
    |zero=>
     rw[zay,zat,zay,zaP]at hs;cases hs;exact⟨p2,st1,hB2,ow2⟩
    |succ i=>
     rw[zay,zat,zay,zat]at hs
     by_cases hi:i<ds.length
     ·rw[zax (by simpa using hi),zao]at hs
      obtain⟨c,h1,rfl⟩:=zab hs;obtain⟨x,h2,h3⟩:=rp.get i c h1;refine⟨x,?_,h3⟩;unfold L2.start;rw[zaz,zay,zat,zaz,zay,zat,zax (by rw[zal,rp.length];exact hi),zao,h2]
      rfl
     ·rw[zaN (by simpa using zba hi)]at hs
      have:=zaG (zaj hs);subst this;trivial
  ·rcases lY i s h1 (Sl.f9 h2)with⟨rfl,_⟩|⟨rfl,_⟩<;>rcases lY j t h3 h4 with⟨rfl,_⟩|⟨rfl,_⟩
   ·rfl
   ·rw[st0]at h5;rw[st1]at h6;cases h5;cases h6;exact absurd rfl hpp
   ·rw[st1]at h5;rw[st0]at h6;cases h5;cases h6;exact absurd rfl hpp
   ·rfl
  ·simp only[List.mem_cons,List.not_mem_nil,or_false]at hx
   rcases hx with rfl|rfl
   ·exact⟨st0,d0,rfl⟩
   ·exact⟨st1,e0,rfl⟩
  ·rcases lY i _ h1 rfl with⟨rfl,_⟩|⟨rfl,_⟩
   ·exact⟨p,by simp⟩
   ·exact⟨p2,by simp⟩
 refine hb _ B H _ _ w _ R e1 ?_;have post:∀{B' H':Hp} {σ':St} {ρ':Rho},yi w=ρ'->Rel ⟨B,H,[(0,p),(1,p2)],λq=>H q≠none⟩ B' H' σ' ρ'->(∀q u,q≠p->q≠p2->H q=some u->H' q=some u)/\aD B B'/\aD B' H'/\(∀q,H q≠none->B q=none->B' q=none)/\(∀q xs,H' q=some (.tup xs)->B' q=some (.tup xs))/\(∀q o u,H' q=some (.frz o u)->H q≠none)/\Own B' H' p d1/\Own B' H' p2 d2:=fun{B' H' σ' ρ'} hw R'=>by
  rw[hw]at e3;have h0:=JG e3;refine⟨λq u n n2 z=>R'.sH q u z (λx hx=>?_),R'.sB,R'.sub,R'.nB,R'.cO,R'.nz,?_,?_⟩
  ·simp only[List.mem_cons,List.not_mem_nil,or_false]at hx
   rcases hx with rfl|rfl
   ·exact λz=>n z.symm
   ·exact λz=>n2 z.symm
  ·obtain⟨p',g1,g2,g3⟩:=R'.slot 0 _ h0.1
   obtain⟨g4,_⟩:=R'.fx (0,p) (by simp)
   rw[g4]at g1;cases g1;exact g3
  ·obtain⟨p',g1,g2,g3⟩:=R'.slot 1 _ h0.2
   obtain⟨g4,_⟩:=R'.fx (1,p2) (by simp)
   rw[g4]at g1;cases g1;exact g3
 cases w with
 |nx ρ'=>
  cases e2;intro B' H' σ' R';obtain⟨p1,p2,p3,p4,p5,p6,p7,p8⟩:=post rfl R';exact q _ B' H' ⟨p1,p2,p3,p4,p5,p6,p7,p8,.non⟩
 |bk ρ'=>cases e2
 |ct ρ'=>cases e2
 |rt r' ρ'=>
  intro v B' H' σ' R' V';obtain⟨p1,p2,p3,p4,p5,p6,p7,p8⟩:=post rfl R';obtain⟨c,kd⟩:=r';cases kd with
  |fz=>cases e2;exact q v B' H' ⟨p1,p2,p3,p4,p5,p6,p7,p8,V'⟩
  |new=>
   cases e2;obtain⟨p,rfl,h1,h2,h3,_⟩:=V';exact q _ B' H' ⟨p1,p2,p3,p4,p5,p6,p7,p8,⟨p,rfl,h2,h1,h3⟩⟩
  |ro=>cases e2
  | «at» i=>
   obtain⟨s,h1,h2,h3,h4⟩:=V';have e2':(match ρ'[i]? with
    |some (.own d)=>some (d,true)
    |_=>none)=some r0:=e2
   rw[h1]at e2';cases s with
   |own c'=>
    cases e2';obtain⟨p,g1,g2,g3⟩:=R'.slot i _ h1;have h4' : σ'[i]?=some (some v):=h4;rw[h4']at g1;cases g1;exact q _ B' H' ⟨p1,p2,p3,p4,p5,p6,p7,p8,⟨p,rfl,R'.jD i _ p h1 h4',g2,g3⟩⟩
   |_=>cases e2'
theorem zL(h:spJ (fnJ n k b) vs H Q E):vs.length=n:=by
 obtain⟨B,p,p2,us,d0,e0,ds,r0,d1,d2,rfl,hpp,sub,tB,hB,hB2,ow,ow2,rp,e,q⟩:=h;simp only[fnJ]at e;split at e
 ·rename_i hl;rw[zaw,zaw,rp.length];exact hl
 ·cases e
def j1(i j:Nat)(f:List D->Option ((D×Bool)×D×D))(m:Rho->Option (List RV×Rho)):PM:=fun ρ=>if i=j then none else(ownAt ρ i).bind λ_=>(ownAt ρ j).bind λ_=>(m ρ).bind λx=>(gZ x.1 x.2).bind λy=>(ownAt y.2 i).bind λs=>(ownAt y.2 j).bind λs2=>(f (slD s::slD s2::y.1)).map λw=>(kO w.1.1 w.1.2,(y.2.set i (s.put w.2.1)).set j (s2.put w.2.2))
theorem wt(h:MA t m):ME (mQ (spJ f) [] E (fB (kI i) (fB (kI j) t))) (j1 i j f m):=by
 intro F B H σ ρ r0 ρ' Q R e q;unfold j1 at e;split at e
 case isTrue=>cases e
 rename_i hij
 obtain⟨s0,e0,e⟩:=zaa e;obtain⟨t0,e0',e⟩:=zaa e;obtain⟨x,e1,e⟩:=zaa e;obtain⟨y,e2,e⟩:=zaa e;obtain⟨s,e4,e⟩:=zaa e;obtain⟨s2,e5,e⟩:=zaa e;obtain⟨w,e3,e⟩:=zab e;cases e;obtain⟨hs0,ho0⟩:=nj e0;obtain⟨ht0,hp0⟩:=nj e0';obtain⟨hs,ho⟩:=nj e4;obtain⟨hs2,ho2⟩:=nj e5;obtain⟨p,hv,_,_⟩:=R.ownAt hs0 ho0;obtain⟨p2,hv2,_,_⟩:=R.ownAt ht0 hp0;have hpp:p≠p2:=λz=>hij (R.dist i j s0 t0 p hs0 ho0 ht0 (Sl.f9 hp0) hv (z▸hv2))
 refine⟨_,hv,_,hv2,?_⟩;refine h F B H σ ρ x.1 x.2 _ R e1 λvs B1 H1 E1 R1 V1=>?_
 show spJ f (V.ref p::V.ref p2::vs++[]) H1 Q E;rw[zaR];obtain⟨B2,R2,rp,E2⟩:=Rel.vZ R1 V1.weak e2;obtain⟨p',hv',hB,ow⟩:=R2.ownAt hs ho;rw[hv]at hv';cases hv';obtain⟨p2',Li,hB2,ow2⟩:=R2.ownAt hs2 ho2;rw[hv2]at Li;cases Li;obtain⟨oo,hoo⟩:=ow.there;obtain⟨oo2,A9⟩:=ow2.there;obtain⟨r,d1,d2⟩:=w;refine⟨B2,p,p2,vs,slD s,slD s2,y.1,r,d1,d2,rfl,hpp,R2.sub,R2.cO,hB,hB2,ow,ow2,rp,e3,λv B' H' P=>?_⟩
 obtain⟨o1,ho1⟩:=P.own.there;obtain⟨o2,Ba⟩:=P.FO.there;have hB':B' p=none:=P.nb p (by rw[hoo];simp) hB
 have hB2':B' p2=none:=P.nb p2 (by rw[A9];simp) hB2
 let G:Hp:=upd (upd H' p oo) p2 oo2
 have Gp:G p=some oo:=by show upd (upd H' p oo) p2 oo2 p=_;rw[ao hpp];exact ar
 have Gp2:G p2=some oo2:=ar;have Go:∀c,c≠p->c≠p2->G c=H' c:=λc z z2=>by show upd (upd H' p oo) p2 oo2 c=_;rw[ao z2,ao z]
 have eH:aD H1 G:=λc u hc=>by
  by_cases z:c=p
  ·subst z;rw[hoo]at hc;cases hc;exact Gp
  ·by_cases z2:c=p2
   ·subst z2;rw[A9]at hc;cases hc;exact Gp2
   ·rw[Go c z z2];exact P.eH c u z z2 hc
 have sub:aD B' G:=λc u hc=>by
  rw[Go c (λz=>by rw[z,hB']at hc;cases hc) (λz=>by rw[z,hB2']at hc;cases hc)];exact P.sub c u hc
 have tB:∀c xs,G c=some (.tup xs)->B' c=some (.tup xs):=λc xs hc=>by
  by_cases z:c=p
  ·subst z;rw[Gp]at hc;cases hc;exact absurd hoo (ow.ql xs)
  ·by_cases z2:c=p2
   ·subst z2;rw[Gp2]at hc;cases hc;exact absurd A9 (ow2.ql xs)
   ·rw[Go c z z2]at hc;exact P.tB c xs hc
 have nz:∀c a u,G c=some (.frz a u)->H1 c≠none:=λc a u hc=>by
  by_cases z:c=p
  ·subst z;rw[hoo];simp
  ·by_cases z2:c=p2
   ·subst z2;rw[A9];simp
   ·rw[Go c z z2]at hc;exact P.nz c a u hc
 have R3:=R2.grow P.eB eH sub P.nb tB nz;have E3:Ext σ y.2 B2 H1 y.2 B' G:=Ext.grow P.eB eH P.nb;have G1p:upd G p o1 p=some o1:=ar;obtain⟨R4,E4⟩:=R3.write (o:=o1) (d:=d1) hs ho hv ⟨(λxs z=>by rw[z]at ho1;exact P.own.ql xs ho1),λa u z=>by rw[z]at ho1;exact P.own.Ds a u ho1⟩ (P.own.mono (aD.refl _) λu hu=>by rw[ho1]at hu;cases hu;exact ar)
 have Mz:(y.2.set i (s.put d1))[j]?=some s2:=by rw[zaA hij];exact hs2
 have back:upd (upd G p o1) p2 o2=H':=by
  funext c
  by_cases z2:c=p2
  ·subst z2;rw[ar,Ba]
  ·rw[ao z2]
   by_cases z:c=p
   ·subst z;rw[ar,ho1]
   ·rw[ao z,Go c z z2]
 obtain⟨R5,E5⟩:=R4.write (o:=o2) (d:=d2) Mz ho2 hv2 ⟨(λxs z=>by rw[z]at Ba;exact P.FO.ql xs Ba),λa u z=>by rw[z]at Ba;exact P.FO.Ds a u Ba⟩ (P.FO.mono (aD.refl _) λu hu=>by rw[Ba]at hu;cases hu;exact ar)
 rw[back]at R5 E5;have EE:=E1.trans (E2.trans (E3.trans (E4.trans E5)));obtain⟨d,o⟩:=r;cases o with
 |false=>
  have pv:Rep B' v d:=P.val;exact q v B' H' EE R5 pv λp z=>by cases z
 |true=>
  obtain⟨p3,rfl,h1,h2,h3⟩:∃p,v=.ref p/\H1 p=none/\B' p=none/\Own B' H' p d:=P.val;have fr:=R2.free h1;refine q _ B' H' EE R5 ⟨p3,rfl,h2,fr.2.1,h3,λj' t h4 h5 h6=>?_⟩ λp' _ z=>by cases z;exact E1.live p3 h1
  rcases get_set h4 with⟨rfl,_,_⟩|⟨_,h4⟩
  ·rw[hv2]at h6
   cases h6;rw[h1]at A9;cases A9
  ·rcases get_set h4 with⟨rfl,_,_⟩|⟨_,h4⟩
   ·rw[hv]at h6
    cases h6;rw[h1]at hoo;cases hoo
   ·exact fr.2.2 j' t h4 h5 h6
end
end Mir
namespace L2
open PySem PySem.Spec PyProof.Rows
end L2
namespace Mir
open PySem L2
end Mir
namespace L2
open PySem PySem.Spec PyProof.Rows PySem.W
def excAt(e:Addr)(cls:Value):Heap->Prop:=λh=>∃oe,h.get? e=some oe/\oe.cls=cls
end L2
namespace Mir
open PySem L2
end Mir
namespace L2
open PySem
def MB(e:Addr)(cls:Value)(dx:Addr):Heap->Prop:=λh=>∃oe vs,h.get? e=some oe/\oe.cls=cls/\oe.dict=some dx/\oe.data=.fields vs
end L2
namespace Mir
open PySem L2
class Zl where
 cl:Str->Value
instance (priority:=10) zl0:Zl:=⟨λ_=>.none⟩
section
variable [Zc] [Zl]
inductive SV where
 |pl (d:D)|lc (k:Nat)|tp (xs:List SV)
inductive Cl where
 |dat (d:D)|obj (C:Addr) (fs:List (Str×SV))|lst (xs:List SV)|dct (es:List (Key×SV))|exc (c:Str) (n:Option Int)
structure SS where
 S:List (Option Cl)
 t:List (Option SV)
mutual
inductive dz(A:List Addr)(B:Hp):V->SV->Prop
 |pl {v:V} {d:D}:Rep B v d->dz A B v (.pl d)
 |lc {k:Nat} {a:Addr}:A[k]?=some a->dz A B (.ref a) (.lc k)
 |tp {t:Addr} {vs:List V} {xs:List SV}:B t=some (.tup vs)->bU A B vs xs->dz A B (.ref t) (.tp xs)
inductive bU(A:List Addr)(B:Hp):List V->List SV->Prop
 |nil:bU A B [] []
 |cons {v:V} {x:SV} {vs:List V} {xs:List SV}:dz A B v x->bU A B vs xs->bU A B (v::vs) (x::xs)
end
def Gro(A A':List Addr):Prop:=∀(k:Nat) (a:Addr),A[k]?=some a->A'[k]?=some a
theorem Gro.refl(A:List Addr):Gro A A:=λ_ _ h=>h
theorem Gro.trans(a:Gro A A1)(b:Gro A1 A2):Gro A A2:=λk x h=>b k x (a k x h)
theorem Gro.app(A N:List Addr):Gro A (A++N):=λk a h=>by rw[zax (zac h).1];exact h
mutual
theorem dz.mono(g:Gro A A')(e:aD B B'):∀{v:V} {x:SV},dz A B v x->dz A' B' v x
 |_,_,.pl r=>.pl (r.mono e)
 |_,_,.lc h=>.lc (g _ _ h)
 |_,_,.tp h r=>.tp (e _ _ h) (bU.mono g e r)
theorem bU.mono(g:Gro A A')(e:aD B B'):∀{v:List V} {x:List SV},bU A B v x->bU A' B' v x
 |_,_,.nil=>.nil
 |_,_,.cons a b=>.cons (dz.mono g e a) (bU.mono g e b)
end
theorem bU.length:∀{v:List V} {x:List SV},bU A B v x->v.length=x.length
 |_,_,.nil=>rfl
 |_,_,.cons _ b=>by rw[zaw,zaw,bU.length b]
theorem bU.get:∀{v:List V} {x:List SV} (i:Nat),bU A B v x->∀c,x[i]?=some c->∃y,v[i]?=some y/\dz A B y c
 |_,_,i,.nil,c,h=>by simp at h
 |_,_,0,.cons a _,c,h=>by simp at h;subst h;exact⟨_,rfl,a⟩
 |_,_,i+1,.cons _ b,c,h=>by
  rw[zat]at h;rw[zat];exact bU.get i b c h
inductive eG(A:List Addr)(B:Hp):List (Str×V)->List (Str×SV)->Prop
 |nil:eG A B [] []
 |cons {f:Str} {v:V} {x:SV} {gs:List (Str×V)} {fs:List (Str×SV)}:dz A B v x->eG A B gs fs->eG A B ((f,v)::gs) ((f,x)::fs)
theorem eG.mono(g:Gro A A')(e:aD B B'):∀{v:List (Str×V)} {x:List (Str×SV)},eG A B v x->eG A' B' v x
 |_,_,.nil=>.nil
 |_,_,.cons a b=>.cons (a.mono g e) (eG.mono g e b)
inductive kA(A:List Addr)(B:Hp):List (Key×V)->List (Key×SV)->Prop
 |nil:kA A B [] []
 |cons {f:Key} {v:V} {x:SV} {gs:List (Key×V)} {fs:List (Key×SV)}:dz A B v x->kA A B gs fs->kA A B ((f,v)::gs) ((f,x)::fs)
theorem kA.mono(g:Gro A A')(e:aD B B'):∀{v:List (Key×V)} {x:List (Key×SV)},kA A B v x->kA A' B' v x
 |_,_,.nil=>.nil
 |_,_,.cons a b=>.cons (a.mono g e) (kA.mono g e b)
theorem eG.look:∀{gs:List (Str×V)} {fs:List (Str×SV)} {x:SV},eG A B gs fs->fs.lookup f=some x->∃v,gs.lookup f=some v/\dz A B v x
 |_,_,x,.nil,h=>by cases h
 |_,_,x,.cons (f:=k) (v:=v) a b,h=>by
  by_cases e:f=k
  ·have hb:(f==k)=true:=beq_iff_eq.mpr e
   simp only[List.lookup,hb]at h⊢;cases h;exact⟨v,rfl,a⟩
  ·have hb:(f==k)=false:=beq_eq_false_iff_ne.mpr e
   simp only[List.lookup,hb]at h⊢;exact eG.look b h
theorem eG.length:∀{gs:List (Str×V)} {fs:List (Str×SV)},eG A B gs fs->gs.length=fs.length
 |_,_,.nil=>rfl
 |_,_,.cons _ b=>by rw[zaw,zaw,eG.length b]
def Dy(f:Str)(x:SV):List (Str×SV)->List (Str×SV)
 | []=>[(f,x)]
 |(k,y)::r=>if k=f then(k,x)::r else(k,y)::Dy f x r
theorem eG.put(rv:dz A B v x):∀{gs:List (Str×V)} {fs:List (Str×SV)},eG A B gs fs->eG A B (IQ f v gs) (Dy f x fs)
 |_,_,.nil=>.cons rv .nil
 |_,_,.cons (f:=k) (v:=u) (x:=y) (gs:=gs) (fs:=fs) a b=>by
  show eG A B (if k=f then(k,v)::gs else(k,u)::IQ f v gs) (if k=f then(k,x)::fs else(k,y)::Dy f x fs)
  by_cases e:k=f
  ·rw[if_pos e,if_pos e];exact .cons rv b
  ·rw[if_neg e,if_neg e];exact .cons a (eG.put rv b)
def Mx:HO->Prop
 | .lst _=>True
 | .dK _=>True
 | .ins _ _ _=>True
 | .ext _=>True
 |_=>False
def MxF(o:HO):Prop:=Mx o\/∃ob φ,o=.frz ob (.ext φ)
def Bb(H:Hp)(a:Addr)(φ:Heap->Prop):Prop:=H a=some (.ext φ)\/∃o,H a=some (.frz o (.ext φ))
theorem Bb.mono(h:Bb H a φ)(k:∀o,H a=some o->H' a=some o):Bb H' a φ:=h.elim (λh=>.inl (k _ h)) λ⟨o,h⟩=>.inr ⟨o,k _ h⟩
theorem Bb.ok(x:Bb H a φ)(k:HOk P w H h) : φ h:=by
 rcases x with x|⟨o,x⟩
 ·exact(k a _ x).1
 ·exact(k a _ x).2.1
theorem FP : ¬MxF (.own x):=λz=>by rcases z with z|⟨_,_,z⟩;exact z;cases z
theorem JH : ¬MxF (.xd fs):=λz=>by rcases z with z|⟨_,_,z⟩;exact z;cases z
inductive eT(A:List Addr)(B H:Hp)(a:Addr):Cl->Prop
 |dat {d:D}:Own B H a d->eT A B H a (.dat d)
 |obj {C dx:Addr} {gs:List (Str×V)} {fs:List (Str×SV)}:H a=some (.ins C dx gs)->H dx=some (.own a)->eG A B gs fs->eT A B H a (.obj C fs)
 |lst {vs:List V} {xs:List SV}:H a=some (.lst vs)->bU A B vs xs->eT A B H a (.lst xs)
 |dct {kvs:List (Key×V)} {es:List (Key×SV)}:H a=some (.dK kvs)->kA A B kvs es->eT A B H a (.dct es)
 |exc {c:Str} {n:Option Int} {φ:Heap->Prop}:Bb H a φ->(∀h,φ h->excAt a (Zl.cl c) h)->(∀k,n=some k->∃dx,(∀h,φ h->MB a (Zl.cl c) dx h)/\H dx=some (.xd [("by",.int k)]))->eT A B H a (.exc c n)
theorem eT.mono(h:eT A B H a c)(g:Gro A A')(e:aD B B')(k:∀o,H a=some o->H' a=some o)(ko:∀q o,H q=some o->¬MxF o->H' q=some o):eT A' B' H' a c:=by
 cases h with
 |dat h=>exact .dat (h.mono e k)
 |obj h1 h2 h3=>exact .obj (k _ h1) (ko _ _ h2 FP) (h3.mono g e)
 |lst h1 h2=>exact .lst (k _ h1) (h2.mono g e)
 |dct h1 h2=>exact .dct (k _ h1) (h2.mono g e)
 |exc h1 h2 h3=>exact .exc (h1.mono k) h2 λn e=>(let⟨dx,p1,p2⟩:=h3 n e;⟨dx,p1,ko _ _ p2 JH⟩)
structure StO(A:List Addr)(B H:Hp)(S:List (Option Cl)):Prop where
 len:A.length=S.length
 nd:A.Nodup
 dis:∀a∈A,B a=none
 mx:∀a∈A,∃o,H a=some o/\MxF o
 cell:∀(k:Nat) (c:Cl) (a:Addr),S[k]?=some (some c)->A[k]?=some a->eT A B H a c
structure FrN where
 B:Hp
 H:Hp
 io:List Addr
 Z:Addr->Prop
structure a7(G:FrN)(A:List Addr)(B H:Hp)(σ:St)(s:SS):Prop where
 sub:aD B H
 sB:aD G.B B
 cO:∀q xs,H q=some (.tup xs)->B q=some (.tup xs)
 kept:∀q o,G.H q=some o->q∉G.io->H q=some o
 nB:∀q,G.H q≠none->G.B q=none->B q=none
 pre:Gro G.io A
 fresh:∀a∈A,a∈G.io\/G.H a=none
 st:StO A B H s.S
 len:s.t.length=σ.length
 slot:∀(i:Nat) (x:SV),s.t[i]?=some (some x)->∃v,σ[i]?=some (some v)/\dz A B v x
 nz:∀q o u,H q=some (.frz o u)->G.Z q
section
variable{G:FrN}{A A':List Addr}{B H B' H':Hp}{σ:St}{s:SS}
theorem StO.mono(O:StO A B H s.S)(eB:aD B B')(eH:aD H H')(nb:∀q,H q≠none->B q=none->B' q=none):StO A B' H' s.S where
 len:=O.len
 nd:=O.nd
 dis:=λa ha=>by obtain⟨o,h,_⟩:=O.mx a ha;exact nb a (by rw[h];simp) (O.dis a ha)
 mx:=λa ha=>by obtain⟨o,h,m⟩:=O.mx a ha;exact⟨o,eH _ _ h,m⟩
 cell:=λk c a h1 h2=>(O.cell k c a h1 h2).mono (Gro.refl _) eB (λo h=>eH _ _ h) λq o h _=>eH _ _ h
theorem a7.grow(R:a7 G A B H σ s)(eB:aD B B')(eH:aD H H')(sub:aD B' H')(nb:∀q,H q≠none->B q=none->B' q=none)(tB:∀q xs,H' q=some (.tup xs)->B' q=some (.tup xs))(nz:∀q o u,H' q=some (.frz o u)->G.Z q):a7 G A B' H' σ s where
 sub:=sub
 sB:=R.sB.trans eB
 cO:=tB
 kept:=λq o h n=>eH _ _ (R.kept q o h n)
 nB:=λq h z=>by
  have z1:=R.nB q h z
  by_cases hq:H q=none
  ·by_cases hi:q∈G.io
   ·obtain⟨k,hk⟩:=List.mem_iff_getElem?.mp hi
    obtain⟨o,h2,_⟩:=R.st.mx q (zaj (R.pre k q hk));rw[hq]at h2;cases h2
   ·cases h3:G.H q with
    |none=>exact absurd h3 h
    |some o=>rw[R.kept q o h3 hi]at hq;cases hq
  ·exact nb q hq z1
 pre:=R.pre
 fresh:=R.fresh
 st:=R.st.mono eB eH nb
 len:=R.len
 slot:=λi x h=>by obtain⟨v,h1,h2⟩:=R.slot i x h;exact⟨v,h1,h2.mono (Gro.refl _) eB⟩
 nz:=nz
theorem a7.rO(R:a7 G A B H σ s)(h:H p=none):G.H p=none/\p∉A/\B p=none:=by
 have hA:p∉A:=λz=>by obtain⟨o,h2,_⟩:=R.st.mx p z;rw[h]at h2;cases h2
 refine⟨?_,hA,?_⟩
 ·cases h3:G.H p with
  |none=>rfl
  |some o=>
   have:p∉G.io:=λz=>by
    obtain⟨k,hk⟩:=List.mem_iff_getElem?.mp z;exact hA (zaj (R.pre k p hk))
   rw[R.kept p o h3 this]at h;cases h
 ·cases h3:B p with
  |none=>rfl
  |some o=>rw[R.sub p o h3]at h;cases h
theorem a7.write(R:a7 G A B H σ s)(hk:A[k]?=some a)(mo:Mx o)(ok:eT A B (upd H a o) a c):a7 G A B (upd H a o) σ ⟨s.S.set k (some c),s.t⟩:=by
 have ha:a∈A:=zaj hk;have hB:=R.st.dis a ha;obtain⟨o0,h0,m0⟩:=R.st.mx a ha;have kl:=(zac hk).1;refine⟨λq u h=>?_,R.sB,λq xs h=>?_,λq u h n=>?_,R.nB,R.pre,R.fresh,⟨?_,R.st.nd,R.st.dis,λb hb=>?_,λj d b h1 h2=>?_⟩,R.len,R.slot,λq u w h=>?_⟩
 ·rw[ao (λz=>by rw[z,hB]at h;cases h)];exact R.sub q u h
 ·by_cases z:q=a
  ·subst z;rw[ar]at h;cases h;cases mo
  ·rw[ao z]at h;exact R.cO q xs h
 ·have z:q≠a:=λz=>by
   subst z;rcases R.fresh q ha with g|g
   ·exact n g
   ·rw[g]at h;cases h
  rw[ao z];exact R.kept q u h n
 ·show A.length=(s.S.set k (some c)).length
  rw[zaM];exact R.st.len
 ·by_cases z:b=a
  ·subst z;exact⟨o,ar,.inl mo⟩
  ·rw[ao z];exact R.st.mx b hb
 ·have h1':(s.S.set k (some c))[j]?=some (some d):=h1
  by_cases z:j=k
  ·subst z
   rw[hk]at h2;cases h2
   rw[zav (by rw[<-R.st.len];exact kl)]at h1'
   cases h1';exact ok
  ·rw[zaA λe=>z e.symm]at h1'
   have nb:b≠a:=λe=>by
    subst e;exact z ((List.getElem?_inj (zac h2).1 R.st.nd).mp (h2.trans hk.symm))
   refine(R.st.cell j d b h1' h2).mono (Gro.refl _) (aD.refl _) (λu h=>by rw[ao nb];exact h) λq o h hm=>?_
   rw[ao (λe=>by subst e;rw[h0]at h;cases h;exact hm m0)];exact h
 ·by_cases z:q=a
  ·subst z;rw[ar]at h;cases h;cases mo
  ·rw[ao z]at h;exact R.nz q u w h
theorem a7.take(R:a7 G A B H σ s)(hG:G.H p=none)(hA:p∉A)(hB:B p=none)(hp:H p=some o)(mo:Mx o)(ok:eT (A++[p]) B H p c):a7 G (A++[p]) B H σ ⟨s.S++[some c],s.t⟩:=by
 refine⟨R.sub,R.sB,R.cO,R.kept,R.nB,R.pre.trans (Gro.app _ _),λb hb=>?_,⟨?_,?_,λb hb=>?_,λb hb=>?_,λj d b h1 h2=>?_⟩,R.len,λi x h=>?_,R.nz⟩
 ·rcases zae hb with h|h
  ·exact R.fresh b h
  ·simp only[List.mem_singleton]at h;subst h;exact .inr hG
 ·show(A++[p]).length=(s.S++[some c]).length
  rw[zau,zau,R.st.len];rfl
 ·rw[List.nodup_append]
  refine⟨R.st.nd,by simp,λx hx y hy=>?_⟩
  simp only[List.mem_singleton]at hy;subst hy
  exact λz=>hA (z▸hx)
 ·rcases zae hb with h|h
  ·exact R.st.dis b h
  ·simp only[List.mem_singleton]at h;subst h;exact hB
 ·rcases zae hb with h|h
  ·exact R.st.mx b h
  ·simp only[List.mem_singleton]at h;subst h;exact⟨o,hp,.inl mo⟩
 ·have h1':(s.S++[some c])[j]?=some (some d):=h1
  by_cases z:j<s.S.length
  ·rw[zax z]at h1'
   rw[zax (by rw[R.st.len];exact z)]at h2
   exact(R.st.cell j d b h1' h2).mono (Gro.app _ _) (aD.refl _) (λ_ h=>h) λ_ _ h _=>h
  ·rw[zaN (zba z)]at h1'
   rw[zaN (by rw[R.st.len];exact zba z),R.st.len]at h2
   cases hz:j-s.S.length with
   |zero=>
    rw[hz]at h1' h2;simp at h1' h2;subst h1' h2;exact ok
   |succ n=>rw[hz]at h1';simp at h1'
 ·obtain⟨v,h1,h2⟩:=R.slot i x h
  exact⟨v,h1,h2.mono (Gro.app _ _) (aD.refl _)⟩
theorem a7.oz(R:a7 G A B H σ s)(hp:H p=none):a7 G A (upd B p (.tup xs)) (upd H p (.tup xs)) σ s/\aD B (upd B p (.tup xs)):=by
 obtain⟨_,_,hB⟩:=R.rO hp;have eB:aD B (upd B p (.tup xs)):=λq u h=>by rw[ao (λz=>by rw[z,hB]at h;cases h)];exact h
 refine⟨R.grow eB (λq u h=>by rw[ao (λz=>by rw[z,hp]at h;cases h)];exact h) (λq u h=>?_) (λq h z=>?_) (λq ys h=>?_) λq u w h=>?_,eB⟩
 ·by_cases z:q=p
  ·subst z;rw[ar]at h⊢;exact h
  ·rw[ao z]at h⊢;exact R.sub q u h
 ·rw[ao (λe=>by rw[e]at h;exact h hp)];exact z
 ·by_cases z:q=p
  ·subst z;rw[ar]at h⊢;exact h
  ·rw[ao z]at h⊢;exact R.cO q ys h
 ·by_cases z:q=p
  ·subst z;rw[ar]at h;cases h
  ·rw[ao z]at h;exact R.nz q u w h
theorem a7.set(R:a7 G A B H σ s)(h:i<s.t.length)(rv:dz A B v x):a7 G A B H (σ.set i (some v)) ⟨s.S,s.t.set i (some x)⟩:=by
 refine⟨R.sub,R.sB,R.cO,R.kept,R.nB,R.pre,R.fresh,R.st,?_,λj y hj=>?_,R.nz⟩
 ·show(s.t.set i (some x)).length=_
  rw[zaM,zaM];exact R.len
 ·have hj':(s.t.set i (some x))[j]?=some (some y):=hj
  by_cases z:j=i
  ·subst z
   rw[zav h]at hj';cases hj';exact⟨v,zav (R.len▸h),rv⟩
  ·rw[zaA λe=>z e.symm]at hj'
   rw[zaA λe=>z e.symm]
   exact R.slot j y hj'
mutual
def blV(n:Nat):SV->Bool
 | .pl _=>true
 | .lc k=>decide (k<n)
 | .tp xs=>yk n xs
def yk(n:Nat):List SV->Bool
 | []=>true
 |x::xs=>blV n x&&yk n xs
end
theorem wu(h:A[k]?=some a)(hk:k<n):(A.take n)[k]?=some a:=by rw[List.getElem?_take,if_pos hk];exact h
mutual
theorem dz.take(n:Nat):∀{v:V} {x:SV},dz A B v x->blV n x=true->dz (A.take n) B v x
 |_,_,.pl r,_=>.pl r
 |_,_,.lc h,e=>.lc (wu h (by simpa[blV]using e))
 |_,_,.tp h r,e=>.tp h (bU.take n r (by simpa[blV]using e))
theorem bU.take(n:Nat):∀{v:List V} {x:List SV},bU A B v x->yk n x=true->bU (A.take n) B v x
 |_,_,.nil,_=>.nil
 |_,_,.cons a b,e=>by
  simp only[yk,Bool.and_eq_true]at e;exact .cons (dz.take n a e.1) (bU.take n b e.2)
end
def ym{α:Type}(n:Nat):List (α×SV)->Bool
 | []=>true
 |x::xs=>blV n x.2&&ym n xs
theorem eG.take(n:Nat):∀{v:List (Str×V)} {x:List (Str×SV)},eG A B v x->ym n x=true->eG (A.take n) B v x
 |_,_,.nil,_=>.nil
 |_,_,.cons a b,e=>by
  simp only[ym,Bool.and_eq_true]at e;exact .cons (a.take n e.1) (eG.take n b e.2)
theorem kA.take(n:Nat):∀{v:List (Key×V)} {x:List (Key×SV)},kA A B v x->ym n x=true->kA (A.take n) B v x
 |_,_,.nil,_=>.nil
 |_,_,.cons a b,e=>by
  simp only[ym,Bool.and_eq_true]at e;exact .cons (a.take n e.1) (kA.take n b e.2)
def blC(n:Nat):Cl->Bool
 | .dat _=>true
 | .obj _ fs=>ym n fs
 | .lst xs=>yk n xs
 | .dct es=>ym n es
 | .exc _ _=>true
theorem eT.take(n:Nat)(h:eT A B H a c)(e:blC n c=true):eT (A.take n) B H a c:=by
 cases h with
 |dat h=>exact .dat h
 |obj h1 h2 h3=>exact .obj h1 h2 (h3.take n e)
 |lst h1 h2=>exact .lst h1 (h2.take n e)
 |dct h1 h2=>exact .dct h1 (h2.take n e)
 |exc h1 h2 h3=>exact .exc h1 h2 h3
def gcC(n:Nat)(c:Option Cl):Option Cl:=match c with
 |some c=>if blC n c=true then some c else none
 |none=>none
def gcV(n:Nat)(x:Option SV):Option SV:=match x with
 |some x=>if blV n x=true then some x else none
 |none=>none
def gcS(n:Nat)(S:List (Option Cl)):List (Option Cl):=(S.take n).map (gcC n)
def gcT(n:Nat)(t:List (Option SV)):List (Option SV):=t.map (gcV n)
def gc(n:Nat)(s:SS):SS:=⟨gcS n s.S,gcT n s.t⟩
theorem JI(h:gcC n c=some d):c=some d/\blC n d=true:=by
 cases c with
 |none=>cases h
 |some c=>
  simp only[gcC]at h;split at h
  ·rename_i e;cases h;exact⟨rfl,e⟩
  ·cases h
theorem JJ(h:gcV n c=some d):c=some d/\blV n d=true:=by
 cases c with
 |none=>cases h
 |some c=>
  simp only[gcV]at h;split at h
  ·rename_i e;cases h;exact⟨rfl,e⟩
  ·cases h
theorem StO.gc(O:StO A B H S)(n:Nat):StO (A.take n) B H (gcS n S):=by
 refine⟨?_,O.nd.sublist (List.take_sublist _ _),λa ha=>O.dis a (List.mem_of_mem_take ha),λa ha=>O.mx a (List.mem_of_mem_take ha),λk c a h1 h2=>?_⟩
 ·unfold gcS;rw[zal,List.length_take,List.length_take,O.len]
 ·unfold gcS at h1
  rw[zao]at h1;obtain⟨c',h3,h4⟩:=zab h1;obtain⟨rfl,h5⟩:=JI h4;rw[List.getElem?_take]at h3 h2;split at h2
  ·rename_i hk
   rw[if_pos hk]at h3;exact(O.cell k c a h3 h2).take n h5
  ·cases h2
theorem a7.gc(R:a7 G A B H σ s)(hn:G.io.length<=n):a7 G (A.take n) B H σ (gc n s):=by
 refine⟨R.sub,R.sB,R.cO,R.kept,R.nB,λk a h=>?_,λa ha=>R.fresh a (List.mem_of_mem_take ha),R.st.gc n,?_,λi x h=>?_,R.nz⟩
 ·exact wu (R.pre k a h) (zaF (zac h).1 hn)
 ·show(gcT n s.t).length=_
  unfold gcT;rw[zal];exact R.len
 ·have h':(gcT n s.t)[i]?=some (some x):=h
  unfold gcT at h';rw[zao]at h';obtain⟨c',h3,h4⟩:=zab h';obtain⟨rfl,h5⟩:=JJ h4;obtain⟨v,h6,h7⟩:=R.slot i x h3;exact⟨v,h6,h7.take n h5⟩
def kU(n:Nat)(S:List (Option Cl)):Bool:=(S.take n).all λc=>match c with
 |some c=>blC n c
 |none=>true
def Lj(n:Nat)(t:List (Option SV))(i:Nat):Bool:=match t[i]? with
 |some (some x)=>blV n x
 |_=>true
def gcE(n:Nat)(kp:List Nat)(s:SS):SS:=if(kU n s.S&&kp.all (Lj n s.t))=true then gc n s else s
theorem a7.gcE(R:a7 G A B H σ s)(hn:G.io.length<=n):∃A',a7 G A' B H σ (gcE n kp s):=by
 unfold Mir.gcE;split
 ·exact⟨_,R.gc hn⟩
 ·exact⟨_,R⟩
theorem Gro.len(g:Gro A A'):A.length<=A'.length:=by
 cases h:A.length with
 |zero=>omega
 |succ k=>
  have hk:k<A.length:=by omega
  have:=g k A[k] (zaC hk);exact(zac this).1
end
mutual
def rdV(S:List (Option Cl)):SV->Option D
 | .pl d=>some d
 | .lc k=>match S[k]? with
  |some (some (.dat d))=>some d
  |_=>none
 | .tp xs=>(rP S xs).map .tuple
def rP(S:List (Option Cl)):List SV->Option (List D)
 | []=>some []
 |x::xs=>(rdV S x).bind λd=>(rP S xs).map λds=>d::ds
end
section
variable{G:FrN}{A:List Addr}{B H:Hp}{σ:St}{s:SS}
mutual
theorem pX(O:StO A B H s.S)(sub:aD B H):∀{v:V} {x:SV} {d:D},dz A B v x->rdV s.S x=some d->Rep H v d
 |_,_,d,.pl r,e=>by
  simp only[rdV]at e;cases e;exact r.mono sub
 |_,_,d,.lc (k:=k) h,e=>by
  simp only[rdV]at e;split at e
  ·rename_i d' hc
   cases e;cases O.cell k _ _ hc h with
   |dat o=>exact o.rep sub
  ·cases e
 |_,_,d,.tp h r,e=>by
  simp only[rdV]at e;obtain⟨ds,e1,rfl⟩:=zab e;exact .tup (sub _ _ h) (qD O sub r e1)
theorem qD(O:StO A B H s.S)(sub:aD B H):∀{v:List V} {x:List SV} {d:List D},bU A B v x->rP s.S x=some d->aP H v d
 |_,_,d,.nil,e=>by
  simp only[rP]at e;cases e;exact .nil
 |_,_,d,.cons a b,e=>by
  simp only[rP]at e;obtain⟨c,e1,e⟩:=zaa e;obtain⟨ds,e2,rfl⟩:=zab e;exact .cons (pX O sub a e1) (qD O sub b e2)
end
def Bc(S:List (Option Cl)):Option SV->Sl
 |none=>.no
 |some x=>match rdV S x with
  |some d=>.fz d
  |none=>.no
def vw(s:SS):Rho:=s.t.map (Bc s.S)
def slC:Option SV->Sl
 |some (.pl d)=>.fz d
 |_=>.no
def vwC(s:SS):Rho:=s.t.map slC
theorem Bd(S:List (Option Cl))(y:Option SV):Bc S y=.no\/∃d x,Bc S y=.fz d/\y=some x/\rdV S x=some d:=by
 cases y with
 |none=>exact .inl rfl
 |some x=>
  cases h:rdV S x with
  |none=>exact .inl (by simp only[Bc,h])
  |some d=>exact .inr ⟨d,x,by simp only[Bc,h],rfl,h⟩
theorem Dz(y:Option SV):slC y=.no\/∃d,slC y=.fz d/\y=some (.pl d):=by
 cases y with
 |none=>exact .inl rfl
 |some x=>cases x with
  |pl d=>exact .inr ⟨d,rfl,rfl⟩
  |lc _=>exact .inl rfl
  |tp _=>exact .inl rfl
theorem yn{i:Nat}(h:(vw s)[i]?=some x):x=.no\/∃d y,x=.fz d/\s.t[i]?=some (some y)/\rdV s.S y=some d:=by
 unfold vw at h;rw[zao]at h;obtain⟨y,h1,rfl⟩:=zab h;rcases Bd s.S y with e|⟨d,z,e,rfl,e2⟩
 ·exact .inl e
 ·exact .inr ⟨d,z,e,h1,e2⟩
theorem uF{i:Nat}(h:(vwC s)[i]?=some x):x=.no\/∃d,x=.fz d/\s.t[i]?=some (some (.pl d)):=by
 unfold vwC at h;rw[zao]at h;obtain⟨y,h1,rfl⟩:=zab h;rcases Dz y with e|⟨d,e,rfl⟩
 ·exact .inl e
 ·exact .inr ⟨d,e,h1⟩
theorem a7.opn(R:a7 G A B H σ s):Rel ⟨H,H,[],G.Z⟩ H H σ (vw s):=by
 have nk:∀(i:Nat) (x:Sl),(vw s)[i]?=some x->x.isRef=true->False:=λi x h e=>by
  rcases yn h with rfl|⟨d,y,rfl,_⟩<;>cases e
 refine⟨aD.refl _,aD.refl _,λ_ _ h _=>h,λ_ h z=>absurd z h,?_,λi x h=>?_,λi j x t p h1 h2=>(nk i x h1 (Sl.f9 h2)).elim,λi d p h=>(nk i _ h rfl).elim,(λx hx=>by cases hx),λi d h=>(nk i _ h rfl).elim,λ_ _ h=>h,λi h=>?_,R.nz⟩
 ·unfold vw;rw[zal];exact R.len
 ·rcases yn h with rfl|⟨d,y,rfl,h1,h2⟩
  ·trivial
  ·obtain⟨v,h3,h4⟩:=R.slot i y h1
   exact⟨v,h3,pX R.st R.sub h4 h2⟩
 ·rcases yn h with z|⟨d,y,z,_⟩<;>cases z
theorem a7.cls(R:a7 G A B H σ s):Rel ⟨B,H,[],G.Z⟩ B H σ (vwC s):=by
 have nk:∀(i:Nat) (x:Sl),(vwC s)[i]?=some x->x.isRef=true->False:=λi x h e=>by
  rcases uF h with rfl|⟨d,rfl,_⟩<;>cases e
 refine⟨R.sub,aD.refl _,λ_ _ h _=>h,λ_ _ z=>z,?_,λi x h=>?_,λi j x t p h1 h2=>(nk i x h1 (Sl.f9 h2)).elim,λi d p h=>(nk i _ h rfl).elim,(λx hx=>by cases hx),λi d h=>(nk i _ h rfl).elim,R.cO,λi h=>?_,R.nz⟩
 ·unfold vwC;rw[zal];exact R.len
 ·rcases uF h with rfl|⟨d,rfl,h1⟩
  ·trivial
  ·obtain⟨v,h3,h4⟩:=R.slot i _ h1
   cases h4 with
   |pl r=>exact⟨v,h3,r⟩
 ·rcases uF h with z|⟨d,z,_⟩<;>cases z
def tbu(B H:Hp):Hp:=λq=>match B q with
 |some o=>some o
 |none=>match H q with
  |some (.tup xs)=>some (.tup xs)
  |_=>none
theorem nu:aD B (tbu B H):=λq o h=>by unfold tbu;rw[h]
theorem ny(sub:aD B H)(h:H q=some (.tup xs)):tbu B H q=some (.tup xs):=by
 unfold tbu;cases hb:B q with
 |none=>rw[h]
 |some o=>
  have:=sub q o hb;rw[h]at this;exact this.symm
theorem oG(h:tbu B H q=some o):B q=some o\/(B q=none/\∃xs,o=.tup xs/\H q=some (.tup xs)):=by
 unfold tbu at h;cases hb:B q with
 |some o'=>rw[hb]at h;exact .inl h
 |none=>
  rw[hb]at h;refine .inr ⟨rfl,?_⟩;dsimp only at h;split at h
  ·rename_i xs hx;cases h;exact⟨xs,rfl,hx⟩
  ·cases h
theorem a7.back(R:a7 G A B H σ s)(R1:Rel ⟨H,H,[],G.Z⟩ B1 H1 σ ρ):a7 G A (tbu B H1) H1 σ s/\aD B (tbu B H1)/\aD H H1/\∀q xs,B1 q=some (.tup xs)->tbu B H1 q=some (.tup xs):=by
 have eH:aD H H1:=λq o h=>R1.sH q o h λx hx=>by cases hx
 have uG:aD B H1:=R.sub.trans eH;refine⟨R.grow nu eH (λq o h=>?_) (λq h z=>?_) (λq xs h=>ny uG h) R1.nz,nu,eH,λq xs h=>ny uG (R1.sub _ _ h)⟩
 ·rcases oG h with h|⟨_,xs,rfl,h'⟩
  ·exact uG q o h
  ·exact h'
 ·cases h2:tbu B H1 q with
  |none=>rfl
  |some o=>
   rcases oG h2 with h3|⟨_,xs,rfl,h3⟩
   ·rw[z]at h3;cases h3
   ·cases h4:H q with
    |none=>exact absurd h4 h
    |some u=>
     have:=eH q u h4;rw[h3]at this;cases this;rw[R.cO q xs h4]at z;cases z
end
theorem Own.de(k:∀q xs,B q=some (.tup xs)->B' q=some (.tup xs))(h:Own B H p d)(e:dW d true=true):Own B' H p d:=by
 cases h with
 |lst h r=>exact .lst h (r.de k e)
 |dct h r=>exact .dct h (r.de k e)
theorem Own.mx(h:Own B H p d):∃o,H p=some o/\Mx o:=by
 cases h with
 |lst h r=>exact⟨_,h,trivial⟩
 |dct h r=>exact⟨_,h,trivial⟩
structure Xc where
 c:Str
 by_:Option Int
inductive RR(α:Type) where
 |ok (v : α) (s:SS)|er (x:Xc) (s:SS)
abbrev MN(α:Type):=SS->Option (RR α)
abbrev EN:=MN SV
def bN{α β:Type}(m:MN α)(k : α->MN β):MN β:=λs=>match m s with
 |some (.ok v s')=>k v s'
 |some (.er x s')=>some (.er x s')
 |none=>none
abbrev WX:=Xc->St->Hp->Prop
abbrev RL(β α:Type):=List Addr->Hp->β->α->Prop
def ROk{α β:Type}(G:FrN)(A:List Addr)(B:Hp)(σ:St)(W:WX)(Rl:RL β α)(Q : β->Hp->Prop):RR α->Prop
 | .ok v s'=>∀x A' B' H',Gro A A'->aD B B'->a7 G A' B' H' σ s'->Rl A' B' x v->Q x H'
 | .er y s'=>∀A' B' H',a7 G A' B' H' σ s'->W y σ H'
def NM{α β:Type}(W:WX)(Rl:RL β α)(t:St->Hp->(β->Hp->Prop)->Prop)(m:MN α):Prop :=
 ∀(G:FrN) (A:List Addr) (B H:Hp) (σ:St) (s:SS) (r:RR α) (Q : β->Hp->Prop),a7 G A B H σ s->m s=some r->ROk G A B σ W Rl Q r->t σ H Q
abbrev NE(W:WX)(t:TE)(m:EN):Prop:=NM W dz t m
abbrev NT(W:WX)(t:TT)(m:MN Bool):Prop:=NM W (λ_ _ (b c:Bool)=>b=c) t m
abbrev NA(W:WX)(t:TA)(m:MN (List SV)):Prop:=NM W bU t m
section
variable{W:WX}{G:FrN}{A:List Addr}{B H:Hp}{σ:St}{s:SS}
theorem ROk.up(q:ROk G A B σ W Rl Q r)(g:Gro A A1)(e:aD B B1):ROk G A1 B1 σ W Rl Q r:=by
 cases r with
 |ok v s'=>exact λx A' B' H' g' e'=>q x A' B' H' (g.trans g') (e.trans e')
 |er y s'=>exact q
theorem eU(h:NM W Rl t m)(R:a7 G A B H σ s)(e:bN m k s=some r)(q:ROk G A B σ W Rl' Q r)
  (c:∀x v A' B' H' s',Gro A A'->aD B B'->a7 G A' B' H' σ s'->Rl A' B' x v->k v s'=some r->ROk G A' B' σ W Rl' Q r->C x H'):t σ H C:=by
 unfold bN at e;split at e
 ·rename_i v s' h1
  exact h G A B H σ s _ C R h1 λx A' B' H' g eB R' V=>c x v A' B' H' s' g eB R' V e (q.up g eB)
 ·rename_i y s' h1
  cases e;exact h G A B H σ s _ C R h1 q
 ·cases e
end
def rdC(S:List (Option Cl)):SV->Option D
 | .pl d=>some d
 | .lc k=>match S[k]? with
  |some (some (.dat d))=>some d
  |_=>none
 | .tp _=>none
section
variable{W:WX}{G:FrN}{A:List Addr}{B H:Hp}{σ:St}{s:SS}
theorem wx(O:StO A B H S)(h:dz A B v x)(e:rdC S x=some d):View B H v d:=by
 cases h with
 |pl r=>cases e;exact .inl r
 |lc h=>
  simp only[rdC]at e;split at e
  ·rename_i d' hc
   cases e;cases O.cell _ _ _ hc h with
   |dat o=>exact .inr ⟨_,rfl,o⟩
  ·cases e
 |tp _ _=>cases e
def newD(d:D)(s:SS):RR SV:=.ok (.lc s.S.length) ⟨s.S++[some (.dat d)],s.t⟩
theorem nA{Q:VK}(R:a7 G A B H σ s)(hp:H p=none)(mo:Mx o)(ok:∀H',H' p=some o->Own B H' p d)(q:ROk G A B σ W dz Q (newD d s)):Q (.ref p) (upd H p o):=by
 obtain⟨g1,g2,g3⟩:=R.rO hp;have eH:aD H (upd H p o):=λq u h=>by rw[ao (λz=>by rw[z,hp]at h;cases h)];exact h
 have R2:a7 G A B (upd H p o) σ s:=R.grow (aD.refl _) eH (R.sub.trans eH) (λ_ _ z=>z) (λq xs h=>by
  by_cases z:q=p
  ·subst z;rw[ar]at h;cases h;cases mo
  ·rw[ao z]at h;exact R.cO q xs h) λq u w h=>by
  by_cases z:q=p
  ·subst z;rw[ar]at h;cases h;cases mo
  ·rw[ao z]at h;exact R.nz q u w h
 have R3:=R2.take (c:=.dat d) g1 g2 g3 ar mo (.dat (ok _ ar));exact q _ _ _ _ (Gro.app _ _) (aD.refl _) R3 (.lc (by rw[<-R.st.len];exact List.getElem?_concat_length))
theorem zM{Q:VK}(R:a7 G A B H σ s)(hp:H p=none)(rp:aP B vs ds)(q:ROk G A B σ W dz Q (.ok (.pl (.tuple ds)) s)):Q (.ref p) (upd H p (.tup vs)):=by
 obtain⟨R2,eB⟩:=R.oz (xs:=vs) hp;exact q _ A _ _ (Gro.refl _) eB R2 (.pl (.tup ar (rp.mono eB)))
def Lk(w:D×Bool)(s:SS):Option (RR SV):=match w with
 |(d,false)=>some (.ok (.pl d) s)
 |(.tuple ds,true)=>some (.ok (.pl (.tuple ds)) s)
 |(d,true)=>some (newD d s)
theorem DA{Q:VK}(R:a7 G A B H σ s)(h:mW B H w k)(e:Lk w s=some r)(q:ROk G A B σ W dz Q r):k Q:=by
 obtain⟨d,b⟩:=w;cases b with
 |false=>
  cases e;obtain⟨v,rp,hk⟩:=h;exact hk Q (q v A B H (Gro.refl _) (aD.refl _) R (.pl rp))
 |true=>
  cases d with
  |list ds=>
   cases e;obtain⟨vs,rp,hk⟩:=h;exact hk Q λp hp=>nA R hp trivial (λH' h'=>.lst h' rp) q
  |dict es=>
   cases e;obtain⟨kvs,rp,hk⟩:=h;exact hk Q λp hp=>nA R hp trivial (λH' h'=>.dct h' rp) q
  |tuple ds=>
   cases e;obtain⟨vs,rp,hk⟩:=h;exact hk Q λp hp=>zM R hp rp q
  |none=>exact h.elim
  |bool _=>exact h.elim
  |int _=>exact h.elim
  |str _=>exact h.elim
def yo(w:D×Bool)(s:SS):Option (RR SV):=match w with
 |(d,false)=>if fb d=true then some (.ok (.pl d) s)else none
 |(.tuple ds,true)=>if bV ds=true then some (.ok (.pl (.tuple ds)) s)else none
 |(d,true)=>if dW d true=true then some (newD d s)else none
theorem DB{Q:VK}(R:a7 G A B H σ s)(h:mW H H w k)(e:yo w s=some r)(q:ROk G A B σ W dz Q r):k Q:=by
 obtain⟨d,b⟩:=w;cases b with
 |false=>
  simp only[yo]at e;split at e
  ·rename_i hp
   cases e;obtain⟨v,rp,hk⟩:=h;exact hk Q (q v A B H (Gro.refl _) (aD.refl _) R (.pl (rp.de R.cO hp)))
  ·cases e
 |true=>
  cases d with
  |list ds=>
   simp only[yo]at e;split at e
   ·rename_i hpu
    cases e;obtain⟨vs,rp,hk⟩:=h;exact hk Q λp hp=>nA R hp trivial (λH' h'=>.lst h' (rp.de R.cO hpu)) q
   ·cases e
  |dict es=>
   simp only[yo]at e;split at e
   ·rename_i hpu
    cases e;obtain⟨kvs,rp,hk⟩:=h;exact hk Q λp hp=>nA R hp trivial (λH' h'=>.dct h' (rp.de R.cO hpu)) q
   ·cases e
  |tuple ds=>
   simp only[yo]at e;split at e
   ·rename_i hpu
    cases e;obtain⟨vs,rp,hk⟩:=h;exact hk Q λp hp=>zM R hp (rp.de R.cO hpu) q
   ·cases e
  |none=>exact h.elim
  |bool _=>exact h.elim
  |int _=>exact h.elim
  |str _=>exact h.elim
end
section
variable{W:WX}
def nO(m:PM):EN:=λs=>(m (vw s)).bind λx=>match x.1 with
 |(d,.fz)=>if fb d=true then some (.ok (.pl d) s)else none
 |(d,.new)=>if dW d true=true then some (newD d s)else none
 |_=>none
theorem jI(h:ME t m):NE W t (nO m):=by
 intro G A B H σ s r Q R e q;obtain⟨x,e1,e⟩:=zaa e;refine h _ H H σ (vw s) x.1 x.2 _ R.opn e1 λv B1 H1 E1 R1 V1 N1=>?_
 obtain⟨R2,eB,eH,kt⟩:=R.back R1;obtain⟨⟨d,k⟩,ρ1⟩:=x;cases k with
 |fz=>
  dsimp only at e;split at e
  ·rename_i hp
   cases e;have V1':Rep B1 v d:=V1;exact q v A _ H1 (Gro.refl _) eB R2 (.pl (V1'.de kt hp))
  ·cases e
 |new=>
  dsimp only at e;split at e
  ·rename_i hp
   cases e;obtain⟨p,rfl,hB,hF,ow,_⟩:=V1;have hF':H p=none:=hF;obtain⟨g1,g2,g3⟩:=R.rO hF';have ow':=ow.de kt hp;obtain⟨o,ho,mo⟩:=ow'.mx;have hB2:tbu B H1 p=none:=by
    cases h2:tbu B H1 p with
    |none=>rfl
    |some o'=>
     rcases oG h2 with h3|⟨_,xs,rfl,h3⟩
     ·rw[g3]at h3;cases h3
     ·exact absurd h3 (ow.ql xs)
   have R3:=R2.take (c:=.dat d) g1 g2 hB2 ho mo (.dat ow');refine q _ _ _ H1 (Gro.app _ _) eB R3 (.lc ?_);rw[<-R.st.len];exact List.getElem?_concat_length
  ·cases e
 |ro=>cases e
 | «at» j=>cases e
def nTo(m:Rho->Option (Bool×Rho)):MN Bool:=λs=>(m (vw s)).map λx=>.ok x.1 s
theorem wy(h:MT t m):NT W t (nTo m):=by
 intro G A B H σ s r Q R e q;obtain⟨x,e1,e⟩:=zab e;cases e;refine h _ H H σ (vw s) x.1 x.2 _ R.opn e1 λB1 H1 E1 R1=>?_
 obtain⟨R2,eB,eH,kt⟩:=R.back R1;exact q _ A _ H1 (Gro.refl _) eB R2 rfl
def dA(i:Nat):EN:=λs=>match s.t[i]? with
 |some (some x)=>some (.ok x s)
 |_=>none
theorem bz:NE W (kI i) (dA i):=by
 intro G A B H σ s r Q R e q;unfold dA at e;split at e
 ·rename_i x hx
  cases e;obtain⟨v,h1,h2⟩:=R.slot i _ hx;exact⟨v,h1,q v A B H (Gro.refl _) (aD.refl _) R h2⟩
 ·cases e
def nLit(d:D):EN:=λs=>some (.ok (.pl d) s)
theorem bC(h:∀B,Rep B v d):NE W (tC v) (nLit d):=by
 intro G A B H σ s r Q R e q;cases e;exact q v A B H (Gro.refl _) (aD.refl _) R (.pl (h B))
def nOp(g:D->D->Option (D×Bool))(a b:EN):EN:=bN a λx=>bN b λy s=>match rdC s.S x,rdC s.S y with
 |some c,some d=>(g c d).bind λw=>Lk w s
 |_,_=>(rdV s.S x).bind λc=>(rdV s.S y).bind λd=>(g c d).bind λw=>yo w s
theorem HF(J:OpJ r g)(ha:NE W ta a)(hb:NE W tb b):NE W (tOp r ta tb) (nOp g a b):=by
 intro G A B H σ s r0 Q R e q;refine eU (t:=ta) ha R e q λx v A1 B1 H1 s1 g1 eB1 R1 V1 e1 q1=>?_
 refine eU (t:=tb) hb R1 e1 q1 λy u A2 B2 H2 s2 g2 eB2 R2 V2 e2 q2=>?_
 have V1':=V1.mono g2 eB2;split at e2
 ·rename_i c d h1 h2
  obtain⟨w,e3,e4⟩:=zaa e2;exact DA R2 (J B2 H2 x y c d w R2.sub (wx R2.st V1' h1) (wx R2.st V2 h2) e3) e4 q2
 ·obtain⟨c,h1,e2⟩:=zaa e2
  obtain⟨d,h2,e2⟩:=zaa e2;obtain⟨w,e3,e4⟩:=zaa e2;exact DB R2 (J H2 H2 x y c d w (aD.refl _) (.inl (pX R2.st R2.sub V1' h1)) (.inl (pX R2.st R2.sub V2 h2)) e3) e4 q2
def qE(a:EN):MN Bool:=bN a λx s=>match x with
 | .pl (.bool b)=>some (.ok b s)
 |_=>none
theorem zN(ha:NE W ta a):NT W (Cv ta) (qE a):=by
 intro G A B H σ s r0 Q R e q;refine eU (t:=ta) ha R e q λx v A1 B1 H1 s1 g1 eB1 R1 V1 e1 q1=>?_
 split at e1
 ·cases e1
  cases V1 with
  |pl r=>cases r;exact⟨_,rfl,q1 _ A1 B1 H1 (Gro.refl _) (aD.refl _) R1 rfl⟩
 ·cases e1
theorem HG(ha:NE W ta a):NT W (tB ta) (qE a):=zN ha
def okB(b:Bool):MN Bool:=λs=>some (.ok b s)
theorem FQ(R:a7 G A B H σ s)(e:okB b s=some r)(q:ROk G A B σ W (λ_ _ (b c:Bool)=>b=c) Q r):Q b H:=by
 cases e;exact q b A B H (Gro.refl _) (aD.refl _) R rfl
def DC(a:MN Bool):MN Bool:=bN a λx=>okB (!x)
theorem DD(ha:NT W ta a):NT W (IC ta) (DC a):=by
 intro G A B H σ s r0 Q R e q;refine eU (t:=ta) ha R e q λx v A1 B1 H1 s1 g1 eB1 R1 V1 e1 q1=>?_
 subst V1;exact FQ R1 e1 q1
def ixV(S:List (Option Cl))(x:SV)(i:Int):Option SV:=match x with
 | .tp xs=>L2.atI xs i
 | .pl (.tuple ds)=>(L2.atI ds i).map .pl
 | .pl (.list ds)=>(L2.atI ds i).map .pl
 | .lc k=>match S[k]? with
  |some (some (.dat (.list ds)))=>(L2.atI ds i).map .pl
  |some (some (.lst xs))=>L2.atI xs i
  |_=>none
 |_=>none
theorem nC{P : α->β->Prop}(hl:xs.length=ys.length)(h:∀(n:Nat) (y : β),ys[n]?=some y->∃x,xs[n]?=some x/\P x y){i:Int}{y : β}(e:L2.atI ys i=some y):∃x,L2.atI xs i=some x/\P x y:=by
 unfold L2.atI at e⊢;rw[hl];obtain⟨j,e1,e2⟩:=zaa e;obtain⟨x,h1,h2⟩:=h j y e2;exact⟨x,by rw[e1,zai];exact h1,h2⟩
theorem JK(R:a7 G A B H σ s)(hV:dz A B v x)(e:ixV s.S x i=some y):∃u,dz A B u y/\∀Q:VK,Q u H->rIx K v (.int i) H Q:=by
 have lst:∀{a:Addr} {xs:List V} {u:V},H a=some (.lst xs)\/Rd H a (.lst xs)->L2.atI xs i=some u->∀Q:VK,Q u H->rIx K (.ref a) (.int i) H Q:=λh h1 Q q=>
  .inl ⟨_,_,_,_,rfl,rfl,.inl (h.elim .inl id),h1,q⟩
 cases x with
 |tp xs=>
  cases hV with
  |tp ht rs=>
   obtain⟨u,h1,h2⟩:=nC rs.length (λn y hy=>rs.get n y hy) e
   exact⟨u,h2,λQ q=>.inr (.inl ⟨_,_,_,_,rfl,rfl,.inl (.inl (R.sub _ _ ht)),h1,q⟩)⟩
 |pl d=>
  cases d with
  |tuple ds=>
   obtain⟨c,e1,rfl⟩:=zab e;cases hV with
   |pl rp=>
    cases rp with
    |tup ht rs=>
     obtain⟨u,h1,h2⟩:=nC rs.length (λn y hy=>rs.get n y hy) e1
     exact⟨u,.pl h2,λQ q=>.inr (.inl ⟨_,_,_,_,rfl,rfl,.inl (.inl (R.sub _ _ ht)),h1,q⟩)⟩
  |list ds=>
   obtain⟨c,e1,rfl⟩:=zab e;cases hV with
   |pl rp=>
    cases rp with
    |lst ht rs=>
     obtain⟨u,h1,h2⟩:=nC rs.length (λn y hy=>rs.get n y hy) e1
     exact⟨u,.pl h2,lst (.inr (ee R.sub ht)) h1⟩
  |_=>cases e
 |lc k=>
  simp only[ixV]at e;cases hV with
  |lc hA=>
   split at e
   ·rename_i ds hk
    obtain⟨c,e1,rfl⟩:=zab e;cases R.st.cell k _ _ hk hA with
    |dat ow=>
     obtain⟨xs,hp,rs⟩:=ow.list;obtain⟨u,h1,h2⟩:=nC rs.length (λn y hy=>rs.get n y hy) e1
     exact⟨u,.pl h2,lst (.inl hp) h1⟩
   ·rename_i xs hk
    cases R.st.cell k _ _ hk hA with
    |lst hp rs=>
     obtain⟨u,h1,h2⟩:=nC rs.length (λn y hy=>rs.get n y hy) e
     exact⟨u,h2,lst (.inl hp) h1⟩
   ·cases e
def nIx(a b:EN):EN:=bN a λx=>bN b λy s=>match y with
 | .pl (.int i)=>(ixV s.S x i).map λz=>.ok z s
 |_=>none
theorem o5(ha:NE W ta a)(hb:NE W tb b):NE W (tOp (rIx K) ta tb) (nIx a b):=by
 intro G A B H σ s r0 Q R e q;refine eU (t:=ta) ha R e q λx v A1 B1 H1 s1 g1 eB1 R1 V1 e1 q1=>?_
 refine eU (t:=tb) hb R1 e1 q1 λy u A2 B2 H2 s2 g2 eB2 R2 V2 e2 q2=>?_
 split at e2
 ·obtain⟨z,e3,e4⟩:=zab e2
  cases e4;cases V2 with
  |pl rp=>
   cases rp;obtain⟨w,h1,h2⟩:=JK (K:=K) R2 (V1.mono g2 eB2) e3;exact h2 Q (q2 w A2 B2 H2 (Gro.refl _) (aD.refl _) R2 h1)
 ·cases e2
def bu:MN (List SV):=λs=>some (.ok [] s)
theorem bA:NA W pF bu:=by
 intro G A B H σ s rs Q R e q;cases e;exact q [] A B H (Gro.refl _) (aD.refl _) R .nil
def aC(a:EN)(m:MN (List SV)):MN (List SV):=bN a λx=>bN m λxs s=>some (.ok (x::xs) s)
theorem aF(ha:NE W ta a)(hr:NA W tr m):NA W (fB ta tr) (aC a m):=by
 intro G A B H σ s r0 Q R e q;refine eU (t:=ta) ha R e q λx v A1 B1 H1 s1 g1 eB1 R1 V1 e1 q1=>?_
 refine eU (t:=tr) hr R1 e1 q1 λy u A2 B2 H2 s2 g2 eB2 R2 V2 e2 q2=>?_
 cases e2;exact q2 _ A2 B2 H2 (Gro.refl _) (aD.refl _) R2 (.cons (V1.mono g2 eB2) V2)
def kB:List SV->Option (List D)
 | []=>some []
 | .pl d::xs=>(kB xs).map λds=>d::ds
 |_=>none
theorem lN:∀{vs:List V} {xs:List SV} {ds:List D},bU A B vs xs->kB xs=some ds->aP B vs ds
 |_,_,ds,.nil,e=>by
  simp only[kB]at e;cases e;exact .nil
 |_,_,ds,.cons (x:=x) a b,e=>by
  cases x with
  |pl d=>
   simp only[kB]at e;obtain⟨ds',e1,rfl⟩:=zab e;cases a with
   |pl r=>exact .cons r (lN b e1)
  |lc k=>simp[kB]at e
  |tp k=>simp[kB]at e
def mkT(xs:List SV):SV:=match kB xs with
 |some ds=>.pl (.tuple ds)
 |none=>.tp xs
theorem FT(h:B t=some (.tup vs))(r:bU A B vs xs):dz A B (.ref t) (mkT xs):=by
 unfold mkT;split
 ·rename_i ds e;exact .pl (.tup h (lN r e))
 ·exact .tp h r
def gR(m:MN (List SV)):EN:=bN m λxs s=>cIf (xs.length<=sizeLine) (some (.ok (mkT xs) s)) none
theorem eV(h:NA W t m):NE W (Cz t) (gR m):=by
 intro G A B H σ s r0 Q R e q;refine eU (t:=t) h R e q λvs xs A1 B1 H1 s1 g1 eB1 R1 V1 e1 q1=>?_
 obtain⟨hz,e1⟩:=cW e1;cases e1;refine⟨by rw[V1.length];exact hz,λp hp=>?_⟩
 obtain⟨R2,eB2⟩:=R1.oz (xs:=vs) hp;exact q1 _ A1 _ _ (Gro.refl _) eB2 R2 (FT ar (V1.mono (Gro.refl _) eB2))
def mkL(xs:List SV):Cl:=match kB xs with
 |some ds=>.dat (.list ds)
 |none=>.lst xs
def JL(c:Cl)(s:SS):RR SV:=.ok (.lc s.S.length) ⟨s.S++[some c],s.t⟩
theorem DE{s:SS}{c:Cl}{p:Addr}{o:HO}{Q:VK}(R:a7 G A B H σ s)(hp:H p=none)(mo:Mx o)(ok:∀H',H' p=some o->eT (A++[p]) B H' p c)(q:ROk G A B σ W dz Q (JL c s)):Q (.ref p) (upd H p o):=by
 obtain⟨g1,g2,g3⟩:=R.rO hp;have eH:aD H (upd H p o):=λq u h=>by rw[ao (λz=>by rw[z,hp]at h;cases h)];exact h
 have R2:a7 G A B (upd H p o) σ s:=R.grow (aD.refl _) eH (R.sub.trans eH) (λ_ _ z=>z) (λq xs h=>by
  by_cases z:q=p
  ·subst z;rw[ar]at h;cases h;cases mo
  ·rw[ao z]at h;exact R.cO q xs h) λq u w h=>by
  by_cases z:q=p
  ·subst z;rw[ar]at h;cases h;cases mo
  ·rw[ao z]at h;exact R.nz q u w h
 have R3:=R2.take (c:=c) g1 g2 g3 ar mo (ok _ ar);exact q _ _ _ _ (Gro.app _ _) (aD.refl _) R3 (.lc (by rw[<-R.st.len];exact List.getElem?_concat_length))
def lZ(m:MN (List SV)):EN:=bN m λxs s=>cIf (xs.length<=sizeLine) (some (JL (mkL xs) s)) none
theorem kW(h:NA W t m):NE W (E8 t) (lZ m):=by
 intro G A B H σ s r0 Q R e q;refine eU (t:=t) h R e q λvs xs A1 B1 H1 s1 g1 eB1 R1 V1 e1 q1=>?_
 obtain⟨hz,e1⟩:=cW e1;cases e1;refine⟨by rw[V1.length];exact hz,λp hp=>DE R1 hp trivial (λH' h'=>?_) q1⟩
 unfold mkL;split
 ·rename_i ds ea;exact .dat (.lst h' (lN V1 ea))
 ·exact .lst h' (V1.mono (Gro.app _ _) (aD.refl _))
structure wz(A:List Addr)(B H:Hp)(A':List Addr)(B' H':Hp)(S':List (Option Cl))(v:V)(r:SV):Prop where
 gro:Gro A A'
 eB:aD B B'
 sub:aD B' H'
 tB:∀q xs,H' q=some (.tup xs)->B' q=some (.tup xs)
 kept:∀q o,H q=some o->q∉A->H' q=some o
 nb:∀q,H q≠none->B q=none->B' q=none
 fresh:∀a∈A',a∈A\/H a=none
 st:StO A' B' H' S'
 nz:∀q o u,H' q=some (.frz o u)->∃o0 u0,H q=some (.frz o0 u0)
 val:dz A' B' v r
inductive FR where
 |ok (r:SV) (S:List (Option Cl))|er (x:Xc) (S:List (Option Cl))
abbrev FN:=List (Option Cl)->List SV->Option FR
def spS(f:FN):Sp:=λvs H Q E=>∃A B S xs w,aD B H/\(∀q xs,H q=some (.tup xs)->B q=some (.tup xs))/\StO A B H S/\bU A B vs xs/\f S xs=some w/\
 match w with
 | .ok r S'=>∀v A' B' H',wz A B H A' B' H' S' v r->Q v H'
 | .er x S'=>∀A' B' H',wz A B H A' B' H' S' .non (.pl .none)->E (Zl.cl x.c) none H'
def spQ(f:FN):Sp:=λvs H Q _=>spS f vs H Q E0
theorem a7.post(R:a7 G A B H σ s)(P:wz A B H A' B' H' S' v r):a7 G A' B' H' σ ⟨S',s.t⟩:=by
 refine⟨P.sub,R.sB.trans P.eB,P.tB,λq o h n=>?_,λq h z=>?_,R.pre.trans P.gro,λa ha=>?_,P.st,R.len,λi x h=>?_,λq o u h=>?_⟩
 ·refine P.kept q o (R.kept q o h n) λhq=>?_
  rcases R.fresh q hq with h1|h1
  ·exact n h1
  ·rw[h1]at h;cases h
 ·refine P.nb q (λhq=>?_) (R.nB q h z)
  have:=(R.rO hq).1;exact h this
 ·rcases P.fresh a ha with h|h
  ·exact R.fresh a h
  ·exact .inr (R.rO h).1
 ·obtain⟨w,h1,h2⟩:=R.slot i x h
  exact⟨w,h1,h2.mono P.gro P.eB⟩
 ·obtain⟨o0,u0,h0⟩:=P.nz q o u h
  exact R.nz q o0 u0 h0
def frR(w:FR)(t:List (Option SV)):RR SV:=match w with
 | .ok r S=>.ok r ⟨S,t⟩
 | .er x S=>.er x ⟨S,t⟩
def kC(f:FN)(m:MN (List SV)):EN:=bN m λxs s=>(f s.S xs).map λw=>frR w s.t
theorem DF{σ:St}{s:SS}{vs:List V}{xs:List SV}{r0:RR SV}{Q:VK}{E:XK}(R:a7 G A B H σ s)(V:bU A B vs xs)(e:((f s.S xs).map λw=>frR w s.t)=some r0)(q:ROk G A B σ W dz Q r0)
  (hw:∀x H',W x σ H'->E (Zl.cl x.c) none H'):spS f vs H Q E:=by
 obtain⟨w,e2,e3⟩:=zab e;refine⟨A,B,s.S,xs,w,R.sub,R.cO,R.st,V,e2,?_⟩;cases w with
 |ok r S'=>
  cases e3;exact λv A' B' H' P=>q v A' B' H' P.gro P.eB (R.post P) P.val
 |er x S'=>
  cases e3;exact λA' B' H' P=>hw x H' (q A' B' H' (R.post P))
theorem FU(hw:∀x σ H',W x σ H'->E (Zl.cl x.c) none H')(h:NA W t m):NE W (mQ (spS f) [] E t) (kC f m):=by
 intro G A B H σ s r0 Q R e q;refine eU (t:=t) h R e q λvs xs A1 B1 H1 s1 g1 eB1 R1 V1 e1 q1=>?_
 rw[zaR];exact DF R1 V1 e1 q1 λx H'=>hw x σ H'
def W0:WX:=λ_ _ _=>False
theorem iA(h:NA W0 t m):NE W0 (mQ (spQ f) [] E0 t) (kC f m):=FU (λ_ _ _ z=>z.elim) h
end
inductive kJ where
 |nx (s:SS)|rt (r:SV) (s:SS)|bk (s:SS)|ct (s:SS)|er (x:Xc) (s:SS)
abbrev SN:=SS->Option kJ
def NOk(G:FrN)(W:WX)(D:Ends):kJ->Prop
 | .nx s=>∀A B H σ,a7 G A B H σ s->D.nx σ H
 | .rt r s=>∀v A B H σ,a7 G A B H σ s->dz A B v r->D.rt v H
 | .bk s=>∀A B H σ,a7 G A B H σ s->D.bk σ H
 | .ct s=>∀A B H σ,a7 G A B H σ s->D.ct σ H
 | .er x s=>∀A B H σ,a7 G A B H σ s->W x σ H
def NS(W:WX)(t:TS)(m:SN):Prop:=∀(G:FrN) (A:List Addr) (B H:Hp) (σ:St) (s:SS) (o:kJ) (D:Ends),a7 G A B H σ s->m s=some o->NOk G W D o->t D σ H
def bS{α:Type}(m:MN α)(k : α->SN):SN:=λs=>match m s with
 |some (.ok v s')=>k v s'
 |some (.er x s')=>some (.er x s')
 |none=>none
section
variable{W:WX}
theorem qF{k : α->SN}{G:FrN}{A:List Addr}{B H:Hp}{σ:St}{s:SS}{o:kJ}{D:Ends}{C : β->Hp->Prop}(h:NM W Rl t m)(R:a7 G A B H σ s)(e:bS m k s=some o)(q:NOk G W D o)
  (c:∀x v A' B' H' s',a7 G A' B' H' σ s'->Rl A' B' x v->k v s'=some o->C x H'):t σ H C:=by
 unfold bS at e;split at e
 ·rename_i v s' h1
  exact h G A B H σ s _ C R h1 λx A' B' H' g eB R' V=>c x v A' B' H' s' R' V e
 ·rename_i y s' h1
  cases e;exact h G A B H σ s _ C R h1 λA' B' H' R'=>q A' B' H' σ R'
 ·cases e
def dk(a b:SN):SN:=λs=>match a s with
 |some (.nx s')=>b s'
 |o=>o
theorem bW(ha:NS W t a)(hb:NS W u b):NS W (AJ t u) (dk a b):=by
 intro G A B H σ s o D R e q;unfold dk at e;split at e
 ·rename_i s' e1
  exact ha G A B H σ s _ _ R e1 λA' B' H' σ' R'=>hb G A' B' H' σ' s' o D R' e q
 ·rename_i o' hn
  refine ha G A B H σ s o _ R e ?_;cases o with
  |nx s'=>exact absurd e (hn s')
  |rt r s'=>exact q
  |bk s'=>exact q
  |ct s'=>exact q
  |er x s'=>exact q
def kD:SN:=λs=>some (.nx s)
theorem fQ:NS W Ck kD:=by
 intro G A B H σ s o D R e q;cases e;exact q A B H σ R
def kK(a:EN):SN:=bS a λx s=>some (.rt x s)
theorem fu(ha:NE W t a):NS W (Cm t) (kK a):=by
 intro G A B H σ s o D R e q;refine qF (t:=t) ha R e q λx v A' B' H' s' R' V' e1=>?_
 cases e1;exact q x A' B' H' σ R' V'
def nD(a:EN):SN:=bS a λ_ s=>some (.nx s)
theorem lO(ha:NE W t a):NS W (vM t) (nD a):=by
 intro G A B H σ s o D R e q;refine qF (t:=t) ha R e q λx v A' B' H' s' R' V' e1=>?_
 cases e1;exact q A' B' H' σ R'
def l4(c:MN Bool)(a b:SN):SN:=bS c λx=>if x=true then a else b
theorem kX(hc:NT W tc c)(ha:NS W t a)(hb:NS W u b):NS W (Cn tc t u) (l4 c a b):=by
 intro G A B H σ s o D R e q;refine qF (t:=tc) hc R e q λx v A' B' H' s' R' V' e1=>?_
 subst V'
 by_cases h:x=true
 ·rw[if_pos h]at e1⊢;exact ha G A' B' H' σ s' o D R' e1 q
 ·rw[if_neg h]at e1⊢;exact hb G A' B' H' σ s' o D R' e1 q
def NG(W:WX)(g:TG)(mg:SV->SN):Prop:=∀(G:FrN) (A:List Addr) (B H:Hp) (σ:St) (s:SS) (v:V) (x:SV) (o:kJ) (D:Ends),a7 G A B H σ s->dz A B v x->mg x s=some o->NOk G W D o->g v σ H D.nx
def ngN(i:Nat):SV->SN:=λx s=>if i<s.t.length then some (.nx ⟨s.S,s.t.set i (some x)⟩)else none
theorem eg:NG W (mP i) (ngN i):=λG A B H σ s v x o D R rv e q=>by
 unfold ngN at e;split at e
 ·rename_i h;cases e;exact q A B H _ (R.set h rv)
 ·cases e
def NGs(g:TGs)(mg:List SV->SS->Option SS):Prop:=∀(G:FrN) (A:List Addr) (B H:Hp) (σ:St) (s:SS) (vs:List V) (xs:List SV) (s':SS) (Q:St->Hp->Prop),a7 G A B H σ s->bU A B vs xs->mg xs s=some s'->(∀σ',a7 G A B H σ' s'->Q σ' H)->g vs σ H Q
def DG:List SV->SS->Option SS:=λxs s=>match xs with
 | []=>some s
 |_=>none
def lP(i:Nat)(gs:List SV->SS->Option SS):List SV->SS->Option SS:=λxs s=>match xs with
 |x::xs=>if i<s.t.length then gs xs ⟨s.S,s.t.set i (some x)⟩else none
 |_=>none
theorem FV:NGs EZ DG:=λG A B H σ s vs xs s' Q R rv e q=>by
 cases rv with
 |nil=>cases e;exact⟨rfl,q σ R⟩
 |cons _ _=>cases e
theorem nE(hs:NGs gs ms):NGs (vN (mP i) gs) (lP i ms):=λG A B H σ s vs xs s' Q R rv e q=>by
 cases rv with
 |nil=>cases e
 |cons r rs=>
  simp only[lP]at e;split at e
  ·rename_i h
   exact⟨_,_,rfl,hs G A B H _ _ _ _ s' Q (R.set h r) rs e fun σ2 R2=>q σ2 R2⟩
  ·cases e
theorem aP.plV:∀{vs:List V} {ds:List D},aP B vs ds->bU A B vs (ds.map .pl)
 |_,_,.nil=>.nil
 |_,_,.cons a b=>.cons (.pl a) (aP.plV b)
def qG(S:List (Option Cl)):SV->Option (List SV)
 | .tp xs=>some xs
 | .pl (.tuple ds)=>some (ds.map .pl)
 | .pl (.list ds)=>some (ds.map .pl)
 | .lc k=>match S[k]? with
  |some (some (.dat (.list ds)))=>some (ds.map .pl)
  |some (some (.lst xs))=>some xs
  |_=>none
 |_=>none
theorem DH(R:a7 G A B H σ s)(h:dz A B v x)(e:qG s.S x=some xs):∃t vs,v=.ref t/\(SqT K H t vs\/SqL K H t vs)/\bU A B vs xs:=by
 cases x with
 |lc k=>
  simp only[qG]at e;cases h with
  |lc hA=>
   split at e
   ·rename_i ds hk
    cases e;cases R.st.cell k _ _ hk hA with
    |dat ow=>
     obtain⟨ys,hp,rs⟩:=ow.list;exact⟨_,_,rfl,.inr (SqL.of hp),rs.plV⟩
   ·rename_i ys hk
    cases e;cases R.st.cell k _ _ hk hA with
    |lst hp rs=>exact⟨_,_,rfl,.inr (SqL.of hp),rs⟩
   ·cases e
 |tp ys=>cases e;cases h with|tp h1 h2=>exact⟨_,_,rfl,.inl (.inl (.inl (R.sub _ _ h1))),h2⟩
 |pl d=>
  cases d with
  |tuple ds=>cases e;cases h with|pl r=>cases r with|tup h1 h2=>exact⟨_,_,rfl,.inl (.inl (.inl (R.sub _ _ h1))),h2.plV⟩
  |list ds=>cases e;cases h with|pl r=>cases r with|lst h1 h2=>exact⟨_,_,rfl,.inr (.inl (ee R.sub h1)),h2.plV⟩
  |_=>cases e
def ngT(n:Nat)(ms:List SV->SS->Option SS):SV->SN:=λx s=>(qG s.S x).bind λxs=>if xs.length=n then(ms xs s).map .nx else none
theorem FW(h:NGs gs ms):NG W (zr K n gs) (ngT n ms):=λG A B H σ s v x o D R rv e q=>by
 obtain⟨xs,e1,e⟩:=zaa e;obtain⟨t,vs,rfl,h1,h2⟩:=DH (K:=K) R rv e1;split at e
 ·rename_i hn
  obtain⟨s2,e2,e3⟩:=zab e;cases e3;exact⟨_,_,rfl,h1,by rw[h2.length];exact hn,h G A B H σ s _ _ s2 _ R h2 e2 fun σ' R'=>q A B H σ' R'⟩
 ·cases e
def jJ(a:EN)(g:SV->SN):SN:=bS a g
theorem gi(ha:NE W t a)(hg:NG W tg g):NS W (AK t tg) (jJ a g):=by
 intro G A B H σ s o D R e q;exact qF (t:=t) ha R e q λx v A' B' H' s' R' V' e1=>hg G A' B' H' σ s' x v o D R' V' e1 q
theorem bU.set(r:dz A B x c):∀{v:List V} {d:List SV} (i:Nat),bU A B v d->bU A B (v.set i x) (d.set i c)
 |_,_,_,.nil=>.nil
 |_,_,0,.cons _ b=>.cons r b
 |_,_,i+1,.cons a b=>.cons a (bU.set r i b)
def l5(n:Nat)(kp:List Nat)(ok:SS->Prop)(g:SV->SN)(b:SN):List SV->SN
 | []=>λs=>cIf (ok s) (some (.nx s)) none
 |d::ds=>λs=>cIf (ok s) (match g d s with
   |some (.nx s1)=>(match b s1 with
    |some (.nx s')=>l5 n kp ok g b ds (gcE n kp s')
    |some (.ct s')=>l5 n kp ok g b ds (gcE n kp s')
    |some (.bk s')=>some (.nx s')
    |some (.rt r s')=>some (.rt r s')
    |some (.er x s')=>some (.er x s')
    |none=>none)
   |_=>none) none
theorem a7.down(R1:a7 G A1 B1 H1 σ1 s1)(R:a7 ⟨B1,H1,A1,G.Z⟩ A B H σ s):a7 G A B H σ s:=by
 refine⟨R.sub,R1.sB.trans R.sB,R.cO,λq o h n=>R.kept q o (R1.kept q o h n) λhq=>?_,λq h z=>R.nB q (λhq=>h (R1.rO hq).1) (R1.nB q h z),R1.pre.trans R.pre,λa ha=>?_,R.st,R.len,R.slot,R.nz⟩
 ·rcases R1.fresh q hq with h1|h1
  ·exact n h1
  ·rw[h1]at h;cases h
 ·rcases R.fresh a ha with h|h
  ·exact R1.fresh a h
  ·exact .inr (R1.rO h).1
theorem a7.up(R1:a7 G A1 B1 H1 σ1 s1):a7 ⟨B1,H1,A1,G.Z⟩ A1 B1 H1 σ1 s1 :=
 ⟨R1.sub,aD.refl _,R1.cO,λ_ _ h _=>h,λ_ _ z=>z,Gro.refl _,λ_ h=>.inl h,R1.st,R1.len,R1.slot,R1.nz⟩
theorem NOk.up{s1:SS}(R1:a7 G A1 B1 H1 σ1 s1){D:Ends}{o:kJ}(h:NOk G W D o):NOk ⟨B1,H1,A1,G.Z⟩ W D o:=by
 cases o with
 |nx s=>exact λA B H σ R=>h A B H σ (R1.down R)
 |bk s=>exact λA B H σ R=>h A B H σ (R1.down R)
 |ct s=>exact λA B H σ R=>h A B H σ (R1.down R)
 |rt r s=>exact λv A B H σ R V=>h v A B H σ (R1.down R) V
 |er x s=>exact λA B H σ R=>h A B H σ (R1.down R)
def Ll(A:List Addr)(B H:Hp)(x:V)(H':Hp)(y:SV):Prop:=(H'=H/\dz A B x y)\/∃p xs cs,y=.pl (.tuple cs)/\x=.ref p/\H p=none/\H'=upd H p (.tup xs)/\aP B xs cs
theorem zO{b:SN}{ok:SS->Prop}{G:FrN}{J:It}{ds:List SV}{A1:List Addr}{B1 H1:Hp}{σ1:St}{s1:SS}{W0:Ends}{o:kJ}
  (hg:NG W tg g) (hb:NS W tb b) (R1:a7 G A1 B1 H1 σ1 s1) (e:l5 s1.S.length kp ok g b ds s1=some o) (q:NOk G W W0 o)
  (I:∀A B H σ s,a7 ⟨B1,H1,A1,G.Z⟩ A B H σ s->ok s->J.stop ds.length H/\∀(i:Nat) (d:SV),ds[i]?=some d->J.go i H/\∀x H',J.yld i H x H'->Ll A B H x H' d) :
  ∃W:Nat->Nat->St->Hp->Prop,(∃m,W 0 m σ1 H1)/\∀i m σ H,W i m σ H->
   (J.stop i H/\W0.nx σ H)\/(J.go i H/\∃N:St->Hp->Prop,(∀σ' H',N σ' H'->∃m',m'<m/\W (i+1) m' σ' H')/\∀x H',J.yld i H x H'->tg x σ H' fun σ2 H2=>tb {W0 with nx:=N,ct:=N,bk:=W0.nx} σ2 H2):=by
 have q':=q.up R1;have hio:(FrN.mk B1 H1 A1 G.Z).io.length<=s1.S.length:=Nat.le_of_eq R1.st.len;refine⟨λi m σ H=>m=ds.length-i/\i<=ds.length/\∃A B s,a7 ⟨B1,H1,A1,G.Z⟩ A B H σ s/\l5 s1.S.length kp ok g b (ds.drop i) s=some o,⟨ds.length,rfl,Nat.zero_le _,A1,B1,s1,R1.up,e⟩,?_⟩
 rintro i m σ2 H2 ⟨rfl,hil,A2,B2,s2,R2,e2⟩
 by_cases hlt:i<ds.length
 ·refine .inr ?_
  rw[zbb hlt]at e2;obtain⟨hok,e2⟩:=cW (show cIf (ok s2) _ none=some o from e2);obtain⟨go,yl⟩:=(I A2 B2 H2 σ2 s2 R2 hok).2 i ds[i] (zaC hlt);refine⟨go,fun σ' H'=>∃A' B' s',a7 ⟨B1,H1,A1,G.Z⟩ A' B' H' σ' s'/\l5 s1.S.length kp ok g b (ds.drop (i+1)) s'=some o,fun σ' H' h'=>⟨ds.length-(i+1),by omega,rfl,hlt,h'⟩,λy H3 hy=>?_⟩
  have had:∃B3,a7 ⟨B1,H1,A1,G.Z⟩ A2 B3 H3 σ2 s2/\dz A2 B3 y ds[i]:=by
   rcases yl y H3 hy with⟨rfl,h2⟩|⟨p,xs,cs,h1,rfl,h3,rfl,h5⟩
   ·exact⟨B2,R2,h2⟩
   ·obtain⟨R3,e3⟩:=R2.oz (xs:=xs) h3
    exact⟨_,R3,by rw[h1];exact .pl (.tup ar (h5.mono e3))⟩
  obtain⟨B3,R3,rp⟩:=had;split at e2
  ·rename_i s3 e3
   refine hg _ A2 B3 H3 σ2 s2 y ds[i] (.nx s3) ⟨fun σ2 H2=>tb {W0 with nx:=fun σ' H'=>∃A' B' s',a7 ⟨B1,H1,A1,G.Z⟩ A' B' H' σ' s'/\l5 s1.S.length kp ok g b (ds.drop (i+1)) s'=some o,ct:=fun σ' H'=>∃A' B' s',a7 ⟨B1,H1,A1,G.Z⟩ A' B' H' σ' s'/\l5 s1.S.length kp ok g b (ds.drop (i+1)) s'=some o,bk:=W0.nx} σ2 H2,W0.rt,W0.bk,W0.ct⟩ R3 rp e3 λA4 B4 H4 σ4 R4=>?_
   split at e2
   ·rename_i s' e5;exact hb _ A4 B4 H4 σ4 s3 _ _ R4 e5 λA' B' H' σ' R'=>(let⟨A3,R3⟩:=R'.gcE hio;⟨A3,B',_,R3,e2⟩)
   ·rename_i s' e5;exact hb _ A4 B4 H4 σ4 s3 _ _ R4 e5 λA' B' H' σ' R'=>(let⟨A3,R3⟩:=R'.gcE hio;⟨A3,B',_,R3,e2⟩)
   ·rename_i s' e5;cases e2;exact hb _ A4 B4 H4 σ4 s3 _ _ R4 e5 q'
   ·rename_i r s' e5;cases e2;exact hb _ A4 B4 H4 σ4 s3 _ _ R4 e5 q'
   ·rename_i r s' e5;cases e2;exact hb _ A4 B4 H4 σ4 s3 _ _ R4 e5 q'
   ·cases e2
  ·cases e2
 ·have hi':i=ds.length:=by omega
  subst hi';rw[List.drop_length]at e2;obtain⟨hok,e2⟩:=cW (show cIf (ok s2) _ none=some o from e2);cases e2;exact .inl ⟨(I A2 B2 H2 σ2 s2 R2 hok).1,q' A2 B2 H2 σ2 R2⟩
theorem zx.mono(h:zx B H x H' d)(e:aD B B'):zx B' H x H' d:=by
 rcases h with⟨h1,h2⟩|⟨p,xs,cs,h1,h2,h3,h4,h5⟩
 ·exact .inl ⟨h1,h2.mono e⟩
 ·exact .inr ⟨p,xs,cs,h1,h2,h3,h4,h5.mono e⟩
def stays(k:SV)(xs:List SV)(s:SS):Prop:=qG s.S k=some xs
def wA(kp:List Nat)(a:EN)(g:SV->SN)(b:SN):SN:=bS a λy s=>match y with
 | .lc k=>(qG s.S (.lc k)).bind λxs=>l5 s.S.length kp (stays (.lc k) xs) g b xs s
 | .pl (.list ds)=>l5 s.S.length kp (λ_=>True) g b (ds.map .pl) s
 |_=>none
theorem zP(h:SqL K H p xs)(r:bU A B xs ys):(Itl K p).stop ys.length H/\∀(i:Nat) (d:SV),ys[i]?=some d->(Itl K p).go i H/\∀x H',(Itl K p).yld i H x H'->Ll A B H x H' d:=by
 refine⟨⟨xs,h,by rw[r.length];exact zap _⟩,λi d hd=>?_⟩
 obtain⟨u,h1,h2⟩:=r.get i d hd;refine⟨⟨xs,u,h,h1⟩,λx H' hy=>.inl ⟨hy.1,?_⟩⟩
 have:=hy.2 xs h;rw[h1]at this;cases this;exact h2
theorem zQ(ha:NE W te a)(hg:NG W tg g)(hb:NS W tb b):NS W (vP (zj K te) tg tb) (wA kp a g b):=by
 intro G A B H σ s o D R e q;refine qF (t:=te) ha R e q λx v A1 B1 H1 s1 R1 V1 e1=>?_
 split at e1
 ·rename_i k
  obtain⟨xs,e2,e3⟩:=zaa e1;cases V1 with
  | @lc _ p hA=>
   have lst:∀{A':List Addr} {B' H':Hp} {σ':St} {s':SS} {G':FrN},a7 G' A' B' H' σ' s'->A'[k]?=some p->qG s'.S (.lc k)=some xs->∃vs,H' p=some (.lst vs)/\bU A' B' vs xs:=fun{A' B' H' σ' s' G'} R' hA' e'=>by
    simp only[qG]at e';split at e'
    ·rename_i ds hk
     cases e';cases R'.st.cell k _ _ hk hA' with
     |dat ow=>
      obtain⟨ys,hp,rs⟩:=ow.list;exact⟨_,hp,rs.plV⟩
    ·rename_i ys hk
     cases e';cases R'.st.cell k _ _ hk hA' with
     |lst hp rs=>exact⟨_,hp,rs⟩
    ·cases e'
   obtain⟨vs,hp,rs⟩:=lst R1 hA e2;refine⟨_,rfl,⟨vs,SqL.of hp⟩,?_⟩;refine zO hg hb R1 e3 q λA' B' H' σ' s' R' hok=>?_
   obtain⟨vs',hp',rs'⟩:=lst R' (R'.pre k _ hA) hok;exact zP (SqL.of hp') rs'
 ·rename_i ds
  cases V1 with
  |pl r=>
   cases r with
   |lst hp rs=>
    refine⟨_,rfl,⟨_,.inl (ee R1.sub hp)⟩,?_⟩;refine zO hg hb R1 e1 q λA' B' H' σ' s' R' hok=>?_
    exact zP (.inl (ee (R'.sB.trans R'.sub) hp)) (rs.mono R'.sB).plV
 ·cases e1
def qH(S:List (Option Cl))(k:Nat):Bool:=match S[k]? with
 |some (some (.dat (.list _)))=>true
 |some (some (.lst _))=>true
 |_=>false
theorem wB(R:a7 G A B H σ s)(hA:A[k]?=some a)(e:qH s.S k=true):tyV K "list" (.ref a) H:=by
 unfold qH at e;split at e
 ·rename_i ds hk
  cases R.st.cell k _ _ hk hA with
  |dat ow=>obtain⟨xs,hp,_⟩:=ow.list;exact .inl ⟨rfl,xs,SqL.of hp⟩
 ·rename_i ds hk
  cases R.st.cell k _ _ hk hA with
  |lst hp _=>exact .inl ⟨rfl,_,SqL.of hp⟩
 ·cases e
def zR(a:EN)(m:MN (List SV))(u:Nat->List SV->SS->Option (RR SV)):EN:=bN a λx s=>match x with
 | .lc k=>if qH s.S k=true then bN m (λxs s2=>u k xs s2) s else none
 |_=>none
theorem FX(ha:NE W te a)(h:NA W t m)
  (hu:∀(G:FrN) (A:List Addr) (B H:Hp) (σ:St) (s:SS) (p:Addr) (k:Nat) (vs:List V) (xs:List SV) (r0:RR SV) (Q:VK),a7 G A B H σ s->A[k]?=some p->bU A B vs xs->u k xs s=some r0->ROk G A B σ W dz Q r0->r (.ref p) vs H Q):NE W (tBM K "list" r te t) (zR a m u):=by
 intro G A B H σ s r0 Q R e q;refine eU (t:=te) ha R e q λx v A1 B1 H1 s1 g1 eB1 R1 V1 e1 q1=>?_
 split at e1
 ·rename_i k
  split at e1
  ·rename_i hl
   cases V1 with
   |lc hA=>
    refine⟨wB R1 hA hl,?_⟩;refine eU (t:=t) h R1 e1 q1 λvs xs A2 B2 H2 s2 g2 eB2 R2 V2 e2 q2=>?_
    exact hu G A2 B2 H2 σ s2 _ k vs xs r0 Q R2 (g2 _ _ hA) V2 e2 q2
  ·cases e1
 ·cases e1
def JM(f:List D->List D->Option (List D×D))(k:Nat)(xs:List SV)(s:SS):Option (RR SV):=(kB xs).bind λas=>match s.S[k]? with
  |some (some (.dat (.list ds)))=>(f ds as).map λw=>.ok (.pl w.2) ⟨s.S.set k (some (.dat (.list w.1))),s.t⟩
  |_=>none
theorem FY(J:wb r f)(G:FrN)(A:List Addr)(B H:Hp)(σ:St)(s:SS)(p:Addr)(k:Nat)(vs:List V)(xs:List SV)(r0:RR SV)(Q:VK)(R:a7 G A B H σ s)(hA:A[k]?=some p)(hV:bU A B vs xs)(e:JM f k xs s=some r0)(q:ROk G A B σ W dz Q r0):r (.ref p) vs H Q:=by
 obtain⟨as,e1,e⟩:=zaa e;split at e
 ·rename_i ds hk
  obtain⟨w,e2,e3⟩:=zab e;cases e3;cases R.st.cell k _ _ hk hA with
  |dat ow=>
   obtain⟨ys,hp,rx⟩:=ow.list;obtain⟨xs',u,rx',ru,hr⟩:=J B H _ ys ds vs as w hp rx R.sub (lN hV e1) e2;have R3:=R.write (o:=.lst xs') (c:=.dat (.list w.1)) hA trivial (.dat (.lst ar rx'));exact hr Q (q u A B _ (Gro.refl _) (aD.refl _) R3 (.pl ru))
 ·cases e
def DI(k:Nat)(xs:List SV)(s:SS):Option (RR SV):=match xs,s.S[k]? with
 | [.pl d],some (some (.dat (.list ds)))=>cIf (ds.length<sizeLine) (some (.ok (.pl .none) ⟨s.S.set k (some (.dat (.list (ds++[d])))),s.t⟩)) none
 | [x],some (some (.dat (.list ds)))=>cIf (ds.length<sizeLine) (some (.ok (.pl .none) ⟨s.S.set k (some (.lst (ds.map .pl++[x]))),s.t⟩)) none
 | [x],some (some (.lst ys))=>cIf (ys.length<sizeLine) (some (.ok (.pl .none) ⟨s.S.set k (some (.lst (ys++[x]))),s.t⟩)) none
 |_,_=>none
theorem bU.append:∀{v w:List V} {d c:List SV},bU A B v d->bU A B w c->bU A B (v++w) (d++c)
 |_,_,_,_,.nil,r=>r
 |_,_,_,_,.cons a b,r=>.cons a (bU.append b r)
theorem FZ(G:FrN)(A:List Addr)(B H:Hp)(σ:St)(s:SS)(p:Addr)(k:Nat)(vs:List V)(xs:List SV)(r0:RR SV)(Q:VK)(R:a7 G A B H σ s)(hA:A[k]?=some p)(hV:bU A B vs xs)(e:DI k xs s=some r0)(q:ROk G A B σ W dz Q r0):mS (.ref p) vs H Q:=by
 have go:∀{x:SV} {y:V} {ys:List V} {c:Cl},vs=[y]->H p=some (.lst ys)->ys.length<sizeLine->eT A B (upd H p (.lst (ys++[y]))) p c->r0=.ok (.pl .none) ⟨s.S.set k (some c),s.t⟩->mS (.ref p) vs H Q:=fun{x y ys c} h1 h2 h3 ok er=>by
  subst er h1;exact⟨p,ys,y,rfl,rfl,h2,h3,q .non A B _ (Gro.refl _) (aD.refl _) (R.write (o:=.lst (ys++[y])) hA trivial ok) (.pl .non)⟩
 unfold DI at e;split at e
 ·rename_i d ds hk
  obtain⟨hz,e⟩:=cW e;cases e;cases hV with
  |cons a b=>
   cases b;cases a with
   |pl r=>
    cases R.st.cell k _ _ hk hA with
    |dat ow=>
     obtain⟨ys,hp,rs⟩:=ow.list;exact go (x:=.pl d) rfl hp (by rw[rs.length];exact hz) (.dat (.lst ar (rs.append (.cons r .nil)))) rfl
 ·rename_i x ds _ hk
  obtain⟨hz,e⟩:=cW e;cases e;cases hV with
  |cons a b=>
   cases b;cases R.st.cell k _ _ hk hA with
   |dat ow=>
    obtain⟨ys,hp,rs⟩:=ow.list;exact go (x:=x) rfl hp (by rw[rs.length];exact hz) (.lst ar (rs.plV.append (.cons a .nil))) rfl
 ·rename_i x ys hk
  obtain⟨hz,e⟩:=cW e;cases e;cases hV with
  |cons a b=>
   cases b;cases R.st.cell k _ _ hk hA with
   |lst hp rs=>exact go (x:=x) rfl hp (by rw[rs.length];exact hz) (.lst ar (rs.append (.cons a .nil))) rfl
 ·cases e
def uH(a:EN)(m:MN (List SV)):EN:=zR a m DI
theorem yp(ha:NE W te a)(h:NA W t m):NE W (tBM K "list" mS te t) (uH a m):=FX ha h FZ
end
def fS(n:Nat)(S:List (Option Cl)):List (Option Cl):=if kU n S=true then gcS n S else S
def retS(n:Nat):kJ->Option FR
 | .rt r s=>if blV n r=true then some (.ok r (fS n s.S))else some (.ok r s.S)
 | .nx s=>some (.ok (.pl .none) (fS n s.S))
 | .er x s=>some (.er x (fS n s.S))
 |_=>none
def fnS(n k:Nat)(b:SN):FN:=λS xs=>if xs.length=n then(b ⟨S,xs.map some++List.replicate k none⟩).bind (retS S.length)else none
theorem sX(sub:aD B H)(tB:∀q xs,H q=some (.tup xs)->B q=some (.tup xs))(O:StO A B H S)(rv:bU A B vs xs)(hl:xs.length=n)(hN:N.length=n+k) :
  a7 ⟨B,H,A,λq=>∃o u,H q=some (.frz o u)⟩ A B H (L2.start N vs) ⟨S,xs.map some++List.replicate k none⟩:=by
 have hvl:vs.length=n:=rv.length.trans hl;refine⟨sub,aD.refl _,tB,λ_ _ h _=>h,λ_ _ z=>z,Gro.refl _,λ_ h=>.inl h,O,?_,λi x h=>?_,λq o u h=>⟨o,u,h⟩⟩
 ·simp[L2.start,hl,hvl,hN]
 ·have h':(xs.map some++List.replicate k none)[i]?=some (some x):=h
  by_cases hi:i<n
  ·rw[zax (by simpa[hl]using hi),zao]at h'
   obtain⟨c,h1,h2⟩:=zab h';cases h2;obtain⟨y,h3,h4⟩:=rv.get i _ h1;refine⟨y,?_,h4⟩;unfold L2.start;rw[zax (by simpa[hvl]using hi),zao,h3]
   rfl
  ·rw[zaN (by simpa[hl]using zba hi)]at h'
   have:=zaG (zaj h');cases this
theorem post_of(R':a7 ⟨B,H,A,λq=>∃o u,H q=some (.frz o u)⟩ A' B' H' σ' s')(V':dz A' B' v r):wz A B H A' B' H' s'.S v r:=⟨R'.pre,R'.sB,R'.sub,R'.cO,R'.kept,R'.nB,R'.fresh,R'.st,R'.nz,V'⟩
theorem qI(hn:A.length<=n)(R':a7 ⟨B,H,A,λq=>∃o u,H q=some (.frz o u)⟩ A' B' H' σ' s')(V':dz A' B' v r)(hb:blV n r=true):∃A'',wz A B H A'' B' H' (fS n s'.S) v r:=by
 unfold fS;split
 ·exact⟨_,post_of (R'.gc hn) (V'.take _ hb)⟩
 ·exact⟨_,post_of R' V'⟩
theorem F1(hb:NS (λx _ H=>E (Zl.cl x.c) none H) t b)(hN:N.length=n+k)(h:spS (fnS n k b) vs H Q E):t {nx:=λ_ H'=>Q .non H',rt:=Q} (L2.start N vs) H:=by
 obtain⟨A,B,S,xs,w0,sub,tB,O,rv,e,q⟩:=h;unfold fnS at e;split at e
 case isFalse=>cases e
 rename_i hl
 obtain⟨w,e1,e2⟩:=zaa e;have R:=sX (k:=k) sub tB O rv hl hN;refine hb _ A B H _ _ w _ R e1 ?_;have hn:A.length<=S.length:=Nat.le_of_eq O.len;cases w with
 |nx s'=>cases e2;exact λA' B' H' σ' R'=>(let⟨A2,p⟩:=qI hn R' (.pl .non) rfl;q _ A2 B' H' p)
 |bk s'=>cases e2
 |ct s'=>cases e2
 |er x s'=>cases e2;exact λA' B' H' σ' R'=>(let⟨A2,p⟩:=qI hn R' (.pl .non) rfl;q A2 B' H' p)
 |rt r' s'=>
  simp only[retS]at e2;split at e2
  ·rename_i hbl
   cases e2;exact λv A' B' H' σ' R' V'=>(let⟨A2,p⟩:=qI hn R' V' hbl;q v A2 B' H' p)
  ·cases e2
   exact λv A' B' H' σ' R' V'=>q v A' B' H' (post_of R' V')
theorem uI(hb:NS W0 t b)(hN:N.length=n+k)(h:spQ (fnS n k b) vs H Q E):t {nx:=λ_ H'=>Q .non H',rt:=Q} (L2.start N vs) H:=F1 (E:=E0) hb hN h
theorem F2(h:spS (fnS n k b) vs H Q E):vs.length=n:=by
 obtain⟨A,B,S,xs,w,sub,tB,O,rv,e,q⟩:=h;unfold fnS at e;split at e
 ·rename_i hl;exact rv.length.trans hl
 ·cases e
theorem uJ(h:spQ (fnS n k b) vs H Q E):vs.length=n:=F2 (E:=E0) h
def Lm:kJ->Option (D×Bool)
 | .rt (.pl d) _=>some (d,false)
 | .rt (.lc k) s=>match s.S[k]? with
  |some (some (.dat d))=>some (d,true)
  |_=>none
 | .nx _=>some (.none,false)
 |_=>none
def fnO(n k:Nat)(b:SN)(ds:List D):Option (D×Bool):=if ds.length=n then(b ⟨[],ds.map (λd=>some (.pl d))++List.replicate k none⟩).bind Lm else none
theorem F3(hb:NS W0 t b)(hN:N.length=n+k)(h:spM (fnO n k b) vs H Q E):t {nx:=λ_ H'=>Q .non H',rt:=Q} (L2.start N vs) H:=by
 obtain⟨B,ds,d,o,sub,tB,rp,e,q⟩:=h;unfold fnO at e;split at e
 case isFalse=>cases e
 rename_i hl
 obtain⟨w,e1,e2⟩:=zaa e;have O:StO [] B H ([]:List (Option Cl)):=⟨rfl,List.nodup_nil,(λa h=>by cases h),(λa h=>by cases h),λk c a h=>by simp at h⟩
 have R:=sX (k:=k) (xs:=ds.map .pl) sub tB O (aP.plV rp) (by simpa using hl) hN
 rw[List.map_map]at R;refine hb _ [] B H _ _ w _ R e1 ?_;have post:∀{A':List Addr} {B' H':Hp} {σ':St} {s':SS},a7 ⟨B,H,[],λq=>∃o u,H q=some (.frz o u)⟩ A' B' H' σ' s'->aD H H'/\aD B B'/\aD B' H'/\(∀q,H q≠none->B q=none->B' q=none)/\(∀q xs,H' q=some (.tup xs)->B' q=some (.tup xs))/\∀q o u,H' q=some (.frz o u)->H q≠none:=λR'=>
  ⟨λq u z=>R'.kept q u z (by simp),R'.sB,R'.sub,R'.nB,R'.cO,λq o u z=>(let⟨_,_,y⟩:=R'.nz q o u z;by rw[y];simp)⟩
 cases w with
 |nx s'=>
  cases e2;intro A' B' H' σ' R';obtain⟨p1,p2,p3,p4,p5,p6⟩:=post R';exact q _ B' H' ⟨p1,p2,p3,p4,p5,p6,.non⟩
 |bk s'=>cases e2
 |ct s'=>cases e2
 |er x s'=>cases e2
 |rt r s'=>
  intro v A' B' H' σ' R' V';obtain⟨p1,p2,p3,p4,p5,p6⟩:=post R';cases r with
  |pl c=>
   cases e2;cases V' with
   |pl rv=>exact q v B' H' ⟨p1,p2,p3,p4,p5,p6,rv⟩
  |tp xs=>cases e2
  |lc j=>
   have e2':(match s'.S[j]? with
    |some (some (.dat d))=>some (d,true)
    |_=>none)=some (d,o):=e2
   split at e2'
   ·rename_i d' hj
    cases e2';obtain⟨a,rfl,hA⟩:∃a,v=.ref a/\A'[j]?=some a:=by cases V' with|lc h=>exact⟨_,rfl,h⟩
    ·have ha:=zaj hA
     cases R'.st.cell j _ _ hj hA with
     |dat ow=>
      have hn:H a=none:=by
       rcases R'.fresh a ha with z|z
       ·cases z
       ·exact z
      exact q _ B' H' ⟨p1,p2,p3,p4,p5,p6,⟨_,rfl,hn,R'.st.dis _ ha,ow⟩⟩
   ·cases e2'
theorem F4(h:spM (fnO n k b) vs H Q E):vs.length=n:=by
 obtain⟨B,ds,d,o,sub,tB,rp,e,q⟩:=h;unfold fnO at e;split at e
 ·rename_i hl;exact rp.length.trans hl
 ·cases e
end
end Mir
namespace L2
open PySem PySem.Spec PyProof.Rows
section
variable{κ:Type} [DecidableEq κ]
def jj(kvs:List (κ×V))(k : κ):Option V:=(kvs.find? λkv=>decide (kv.1=k)).map (·.2)
def putK(kvs:List (κ×V))(k : κ)(v:V):List (κ×V) :=
 if(kvs.any λkv=>decide (kv.1=k))=true then kvs.map (λkv=>if kv.1=k then(kv.1,v)else kv)else kvs++[(k,v)]
def zS(kvs:List (κ×V))(k : κ):List (κ×V):=kvs.filter λkv=>decide (kv.1≠k)
theorem kY{k : κ}(e:p.1=k):jj (p::r) k=some p.2:=by simp[jj,List.find?_cons,e]
theorem kZ{k : κ}(e : ¬p.1=k):jj (p::r) k=jj r k:=by simp[jj,List.find?_cons,e]
theorem qJ(k : κ):∀kvs:List (κ×V),(kvs.any λkv=>decide (kv.1=k))=(jj kvs k).isSome
 | []=>rfl
 |p::r=>by
  rw[List.any_cons]
  by_cases e:p.1=k
  ·simp only[kY e,decide_eq_true e,Bool.true_or,Option.isSome_some]
  ·rw[kZ e,zaO e,Bool.false_or];exact qJ k r
theorem o6(kvs:List (κ×V))(k : κ)(v:V):(putK kvs k v).length<=kvs.length+1:=by
 unfold putK;split
 ·rw[zal];omega
 ·rw[zau,zaw,List.length_nil];omega
theorem DJ{k : κ}(v:V)(h:jj kvs k=none):putK kvs k v=kvs++[(k,v)]:=by
 unfold putK;rw[qJ,h];exact if_neg (by decide)
theorem me.jK(r:me o u):o.isSome=u.isSome:=by
 cases o with
 |none=>cases u with
  |none=>rfl
  |some _=>exact(show False from r).elim
 |some _=>cases u with
  |none=>exact(show False from r).elim
  |some _=>rfl
theorem me.getD(r:me o u)(rd:RelV d d'):RelV (o.getD d) (u.getD d'):=by
 cases o with
 |none=>cases u with
  |none=>exact rd
  |some _=>exact(show False from r).elim
 |some _=>cases u with
  |none=>exact(show False from r).elim
  |some _=>exact r
theorem KV.val(r:KV kvs vs)(k : κ):me (jj kvs k) (valueAt vs k):=by
 unfold KV at r
 induction r with
 |nil=>exact True.intro
 | @cons p q ps qs h t ih=>
  obtain⟨h1,h2⟩:=h
  by_cases e:p.1=k
  ·have e':q.1=k:=h1.symm.trans e
   have b:valueAt (q::qs) k=some q.2:=by simp[valueAt,List.find?_cons,e']
   rw[kY e,b];exact h2
  ·have e' : ¬q.1=k:=λz=>e (h1.trans z)
   have b:valueAt (q::qs) k=valueAt qs k:=by simp[valueAt,List.find?_cons,e']
   rw[kZ e,b];exact ih
theorem KV.any(r:KV kvs vs)(k : κ):(kvs.any λkv=>decide (kv.1=k))=vs.any λkv=>decide (kv.1=k):=by
 unfold KV at r
 induction r with
 |nil=>rfl
 |cons h t ih=>rw[List.any_cons,List.any_cons,ih,h.1]
theorem KV.repl(r:KV kvs vs)(k : κ)(ry:RelV y u) :
  KV (kvs.map λkv=>if kv.1=k then(kv.1,y)else kv) (vs.map λkv=>if kv.1=k then(kv.1,u)else kv):=by
 unfold KV at r⊢
 induction r with
 |nil=>exact .nil
 | @cons p q ps qs h t ih=>
  rw[zaz,zaz];refine .cons ?_ ih;obtain⟨h1,h2⟩:=h
  by_cases e:p.1=k
  ·rw[if_pos e,if_pos (h1.symm.trans e)];exact⟨h1,ry⟩
  ·rw[if_neg e,if_neg (λz=>e (h1.trans z))];exact⟨h1,h2⟩
theorem KV.put(r:KV kvs vs)(k : κ)(ry:RelV y u):KV (putK kvs k y) (stored vs k u):=by
 unfold putK stored;rw[r.any k]
 by_cases e:(vs.any λkv=>decide (kv.1=k))=true
 ·rw[if_pos e,if_pos e];exact r.repl k ry
 ·rw[if_neg e,if_neg e];exact Paired.snoc r ⟨rfl,ry⟩
theorem KV.drop(r:KV kvs vs)(k : κ):KV (zS kvs k) (without vs k):=by
 unfold KV at r⊢;unfold zS without
 induction r with
 |nil=>exact .nil
 | @cons p q ps qs h t ih=>
  obtain⟨h1,h2⟩:=h;rw[List.filter_cons,List.filter_cons]
  by_cases e:p.1=k
  ·have a : ¬decide (p.1≠k)=true:=by simp[e]
   have b : ¬decide (q.1≠k)=true:=by simp[h1.symm.trans e]
   rw[if_neg a,if_neg b];exact ih
  ·have e' : ¬q.1=k:=λz=>e (h1.trans z)
   have a:decide (p.1≠k)=true:=by simp[e]
   have b:decide (q.1≠k)=true:=by simp[e']
   rw[if_pos a,if_pos b];exact .cons ⟨h1,h2⟩ ih
theorem KV.keys{vs:List (κ×Value)}(r:KV kvs vs):kvs.map (·.1)=vs.map (·.1):=by
 unfold KV at r
 induction r with
 |nil=>rfl
 |cons h t ih=>rw[zaz,zaz,ih,h.1]
theorem KV.length{vs:List (κ×Value)}(r:KV kvs vs):kvs.length=vs.length:=Paired.length r
end
theorem wC(r:RelV (kV k) u):(bY P w).is k u=true:=by
 cases k with
 |inl i=>obtain⟨t,e⟩:=(show∃t,u=Value.int i t from r);subst e;exact vG P w i t
 |inr x=>obtain⟨t,e⟩:=(show∃t,u=Value.str x t from r);subst e;exact vH P w x t
theorem DK(e:kV a=kV b):a=b:=by
 cases a with
 |inl i=>cases b with
  |inl j=>have e':V.int i=V.int j:=e;injection e' with e';rw[e']
  |inr y=>exact nomatch (show V.int i=V.str y from e)
 |inr x=>cases b with
  |inl j=>exact nomatch (show V.str x=V.int j from e)
  |inr y=>have e':V.str x=V.str y:=e;injection e' with e';rw[e']
theorem sY:∀{ks:List Key} {us:List Value},Vals (ks.map kV) us->ItemsAre (bY P w) ks us
 | [],_,r=>by rw[List.map_nil]at r;cases r;exact .nil
 |k::ks,_,r=>by
  rw[zaz]at r;cases r with
  |cons h t=>exact .cons (wC h) (sY t)
abbrev KT(H:Hp):List (List Key×V)->List (List Key×Addr×Value)->Prop:=Paired λp q=>p.1=q.1/\H q.2.1=some (.tup (p.1.map kV))/\RelV p.2 q.2.2
theorem KT.val(r:KT H kvs xs)(k:List Key):me (jj kvs k) ((atKey xs k).map (·.2)):=by
 induction r with
 |nil=>exact True.intro
 | @cons p q ps qs h t ih=>
  obtain⟨h1,_,h2⟩:=h
  by_cases e:p.1=k
  ·have e':q.1=k:=h1.symm.trans e
   have b:atKey (q::qs) k=some q.2:=by simp[atKey,List.find?_cons,e']
   rw[kY e,b];exact h2
  ·have e' : ¬q.1=k:=λz=>e (h1.trans z)
   have b:atKey (q::qs) k=atKey qs k:=by simp[atKey,List.find?_cons,e']
   rw[kZ e,b];exact ih
theorem KT.repl(r:KT H kvs xs)(k:List Key)(ry:RelV y u) :
  KT H (kvs.map λkv=>if kv.1=k then(kv.1,y)else kv) (xs.map (putAt k u)):=by
 induction r with
 |nil=>exact .nil
 | @cons p q ps qs h t ih=>
  rw[zaz,zaz];refine .cons ?_ ih;obtain⟨h1,h2,h3⟩:=h;unfold putAt
  by_cases e:p.1=k
  ·rw[if_pos e,if_pos (h1.symm.trans e)];exact⟨h1,h2,ry⟩
  ·rw[if_neg e,if_neg (λz=>e (h1.trans z))];exact⟨h1,h2,h3⟩
theorem KT.put(r:KT H kvs xs)(k:List Key)(hb:H b=some (.tup (k.map kV)))(ry:RelV y u) :
  KT H (putK kvs k y) (storedH xs k b u):=by
 have e:(kvs.any λkv=>decide (kv.1=k))=(atKey xs k).isSome:=by
  rw[qJ,(r.val k).jK,Option.isSome_map]
 unfold putK storedH;rw[e]
 by_cases q:(atKey xs k).isSome=true
 ·rw[if_pos q,if_pos q];exact r.repl k ry
 ·rw[if_neg q,if_neg q];exact Paired.snoc r ⟨rfl,hb,ry⟩
theorem KT.keeps(r:KT H kvs xs)(ht:∀b ys,H b=some (.tup ys)->H' b=some (.tup ys)):KT H' kvs xs :=
 Paired.Iy r λ_ _ z=>⟨z.1,ht _ _ z.2.1,z.2.2⟩
section
variable{P:Program}{w:World}{H:Hp}{h:Heap}{a:Addr}
theorem HH(ok:HOk P w H h)(e:Rd H a u):cb P w H h a u:=e.ok ok
theorem o7(ok:HOk P w H h)(e:Rd H a (.dK kvs)):kvs.length<=sizeLine/\(a==sysModules)=false/\∃vs,KV kvs vs/\h.DictOf (bY P w) a vs :=
 show cb P w H h a (.dK kvs)from HH ok e
theorem DM(ok:HOk P w H h)(e:H a=some (.dK kvs)):kvs.length<=sizeLine/\(a==sysModules)=false/\∃vs,KV kvs vs/\h.DictOf (bY P w) a vs:=o7 ok (.inl e)
theorem qK(ok:HOk P w H h)(e:H a=some (.tup (ks.map kV))):(tupleKind (bY P w)).is h ks a:=by
 obtain⟨_,its,r,o,h1,h2,n,h3⟩:=cb.Ht (P:=P) (w:=w) (H:=H) (ok a _ e);exact⟨o,its.toArray,n,h1,h2,h3,by simpa using sY r⟩
theorem wD(ok:HOk P w H h)(e:Rd H a (.dT kvs)):kvs.length<=sizeLine/\(a==sysModules)=false/\
  ∃xs,KT H kvs xs/\h.DictOfH (tupleKind (bY P w)) a xs:=by
 obtain⟨z,y,xs,r,o,es,ep,h1,h2,h3,h4,h5⟩:=(show cb P w H h a (.dT kvs)from HH ok e);refine⟨z,y,xs,r,o,es,ep,h1,h2,h3,h4,λx hx=>?_,h5⟩
 have all:∀{l:List (List Key×V)} {m:List (List Key×Addr×Value)},KT H l m->∀x∈m,(tupleKind (bY P w)).is h x.1 x.2.1:=by
  intro l m q
  induction q with
  |nil=>intro x hx;exact nomatch hx
  | @cons p q ps qs hq t ih=>
   intro x hx;rcases zaf hx with e|hx
   ·subst e
    exact qK ok (by rw[<-hq.1];exact hq.2.1)
   ·exact ih x hx
 exact all r x hx
theorem Ln(ok:HOk P w H h)(e:H a=some (.dT kvs)):kvs.length<=sizeLine/\(a==sysModules)=false/\
  ∃xs,KT H kvs xs/\h.DictOfH (tupleKind (bY P w)) a xs:=wD ok (.inl e)
end
def nF(H:Hp)(a:Addr)(y:V)(r:Option V):Prop :=
 (∃kvs k,Rd H a (.dK kvs)/\y=kV k/\r=jj kvs k)\/∃kvs k b,Rd H a (.dT kvs)/\y=.ref b/\H b=some (.tup (k.map kV))/\r=jj kvs k
def Be(H:Hp)(a:Addr)(y v:V)(H':Hp):Prop :=
 (∃kvs k,H a=some (.dK kvs)/\y=kV k/\kvs.length<sizeLine/\H'=upd H a (.dK (putK kvs k v)))\/
 ∃kvs k b,H a=some (.dT kvs)/\y=.ref b/\H b=some (.tup (k.map kV))/\kvs.length<sizeLine/\H'=upd H a (.dT (putK kvs k v))
theorem nF.k{k:Key}(e:H a=some (.dK kvs)):nF H a (kV k) (jj kvs k):=.inl ⟨kvs,k,.inl e,rfl,rfl⟩
theorem nF.t{k:List Key}(e:H a=some (.dT kvs))(eb:H b=some (.tup (k.map kV))):nF H a (.ref b) (jj kvs k):=.inr ⟨kvs,k,b,.inl e,rfl,eb,rfl⟩
theorem Be.k{k:Key}{v:V}(e:H a=some (.dK kvs))(hl:kvs.length<sizeLine):Be H a (kV k) v (upd H a (.dK (putK kvs k v))):=.inl ⟨kvs,k,e,rfl,hl,rfl⟩
theorem Be.t{k:List Key}{v:V}(e:H a=some (.dT kvs))(eb:H b=some (.tup (k.map kV)))(hl:kvs.length<sizeLine) :
  Be H a (.ref b) v (upd H a (.dT (putK kvs k v))):=.inr ⟨kvs,k,b,e,rfl,eb,hl,rfl⟩
section
variable{X:Cx}{pins:List (Addr×Obj)}{σ:St}{H:Hp}{s:Shared}{a:Addr}{y v:V}{u r:Value}{o:Option V}{A:Around}{E:Value->Shared->Prop}
theorem Inv.big(I:Inv X pins σ H s):sysModules<s.heap.objs.size:=by
 have h:mainGlobals<s.heap.objs.size:=(I.mod.glob.keeps I.bk).lt;exact Nat.lt_trans (by decide) h
theorem Bf(hu:A.units+1<cLine)(I:Inv X pins σ H s)(g:nF H a y (some v))(ry:RelV y u)(h:∀w' s',Inv X pins σ H s'->RelV v w'->Q w' s') :
  wpAny (model X.prog X.w) A (getItem (.ref a) u) Q E s:=by
 rcases g with⟨kvs,k,e,ey,l⟩|⟨kvs,k,b,e,ey,eb,l⟩
 ·subst ey
  obtain⟨z,hd,vs,rel,dd⟩:=o7 I.hok e;obtain⟨w',hw,rw'⟩:=me.some_of (v:=v) (o:=valueAt vs k) (by rw[l];exact rel.val k)
  exact wpAny_getItem_of (wC ry) dd.mapOf hw (h w' _ (I.tok _) rw')
 ·subst ey
  cases(show u=Value.ref b from ry);obtain⟨z,hd,xs,rel,dd⟩:=wD I.hok e;obtain⟨w',hw,rw'⟩:=me.some_of (v:=v) (o:=(atKey xs k).map (·.2)) (by rw[l];exact rel.val k)
  obtain⟨p,hp,hp2⟩:=zab hw;refine wpAny_getItem_heap (tupleKind_room_in1 hu) (qK I.hok eb) dd hp ?_;rw[hp2];exact h w' _ (I.tok _) rw'
theorem MC(hu:A.units+1<cLine)(I:Inv X pins σ H s)(g:nF H a y o)(ry:RelV y u)(h:∀s',Inv X pins σ H s'->Q (.bool o.isSome) s') :
  wpAny (model X.prog X.w) A (compareOp .In u (.ref a)) Q E s:=by
 rcases g with⟨kvs,k,e,ey,l⟩|⟨kvs,k,b,e,ey,eb,l⟩
 ·subst ey
  obtain⟨z,hd,vs,rel,dd⟩:=o7 I.hok e;refine wpAny_in_of (wC ry) hd dd.mapOf ?_;rw[<-(rel.val k).jK,<-l];exact h _ (I.tok _)
 ·subst ey
  cases(show u=Value.ref b from ry);obtain⟨z,hd,xs,rel,dd⟩:=wD I.hok e;refine wpAny_in_heap (tupleKind_room_in1 hu) (qK I.hok eb) hd dd ?_;have q:=(rel.val k).jK;rw[Option.isSome_map]at q;rw[<-q,<-l];exact h _ (I.tok _)
theorem F5(hu:A.units+1<cLine)(I:Inv X pins σ H s)(g:nF H a y o)(ry:RelV y u)(h:∀s',Inv X pins σ H s'->Q (.bool (!o.isSome)) s') :
  wpAny (model X.prog X.w) A (compareOp .NotIn u (.ref a)) Q E s:=by
 rcases g with⟨kvs,k,e,ey,l⟩|⟨kvs,k,b,e,ey,eb,l⟩
 ·subst ey
  obtain⟨z,hd,vs,rel,dd⟩:=o7 I.hok e;refine wpAny_notIn_of (wC ry) hd dd.mapOf ?_;rw[<-(rel.val k).jK,<-l];exact h _ (I.tok _)
 ·subst ey
  cases(show u=Value.ref b from ry);obtain⟨z,hd,xs,rel,dd⟩:=wD I.hok e;refine wpAny_notIn_heap (tupleKind_room_in1 hu) (qK I.hok eb) hd dd ?_;have q:=(rel.val k).jK;rw[Option.isSome_map]at q;rw[<-q,<-l];exact h _ (I.tok _)
theorem uK(I:Inv X pins σ H s)(mu:Mut (H a))(hs:Heap.SameBut a s.heap h')(he:∃q,h'.get? a=some q)(new:cb X.prog X.w (upd H a ob) h' a ob) :
  Inv X pins σ (upd H a ob) {s with heap:=h',toks:=t'} :=
 I.write (x:=a) (e:=a) mu (.inl rfl) (λb q hb z=>(hs.2 b hb).trans z) he new
theorem yq(z:kvs.length<=sizeLine)(hd:(a==sysModules)=false)(rel:KV kvs vs)(dd:h'.DictOf (bY P w) a vs) :
  cb P w H' h' a (.dK kvs):=⟨z,hd,vs,rel,dd⟩
theorem Bg(hu:A.units+1<cLine)(I:Inv X pins σ H s)(g:Be H a y v H')(ry:RelV y u)(rv:RelV v r)(h:∀s',Inv X pins σ H' s'->Q () s') :
  wpAny (model X.prog X.w) A (setItem (.ref a) u r) Q E s:=by
 rcases g with⟨kvs,k,e,ey,l,eH⟩|⟨kvs,k,b,e,ey,eb,l,eH⟩
 ·subst ey eH
  obtain⟨z,hd,vs,rel,dd⟩:=DM I.hok e;have hz:vs.length<=sizeLine:=by rw[<-rel.length];exact z
  have hl:(putK kvs k v).length<=sizeLine:=by have:=o6 kvs k v;omega
  refine wpAny_setItem_pairs (hsz:=hz) (wC ry) dd λh' dd' hs=>h _ ?_
  have he:∃q,h'.get? a=some q:=let⟨q,_,_,hq,_⟩:=dd';⟨q,hq⟩
  exact uK I (by rw[e];exact True.intro) hs he (yq hl hd (rel.put k rv) dd')
 ·subst ey eH
  cases(show u=Value.ref b from ry);obtain⟨z,hd,xs,rel,dd⟩:=Ln I.hok e;have hz:xs.length<=sizeLine:=by rw[<-Paired.length rel];exact z
  have hl:(putK kvs k v).length<=sizeLine:=by have:=o6 kvs k v;omega
  refine wpAny_setItem_heap (hsz:=hz) (tupleKind_room_in1 hu) (qK I.hok eb) dd λh' dd' hs=>h _ ?_
  obtain⟨q,es,ep,hq,h2,h3,h4,_,h5⟩:=dd';refine uK I (by rw[e];exact True.intro) hs ⟨q,hq⟩ ⟨hl,hd,_,(rel.put k eb rv).keeps λc ys ec=>?_,q,es,ep,hq,h2,h3,h4,h5⟩
  rw[ao (KA ec e (λz=>nomatch z))]
  exact ec
end
section
variable{X:Cx}{pins:List (Addr×Obj)}{σ:St}{H:Hp}{s:Shared}{a:Addr}{kvs:List (Key×V)}{k:Key}{u:Value}{A:Around}{E:Value->Shared->Prop}
theorem Lp(I:Inv X pins σ H s)(e:Rd H a (.dK kvs))(h:∀t s',Inv X pins σ H s'->Q (.int kvs.length t) s'):wpAny (model X.prog X.w) A (call (.builtin "len") [.ref a]) Q E s:=by
 obtain⟨z,hd,vs,rel,dd⟩:=o7 I.hok e;refine call_len_dict hd dd (by rw[<-rel.length];rw[sizeLine_eq]at z;omega) ?_
 rw[<-rel.length];exact h _ _ (I.tok _)
end
def Lq(i:Expr):Prop:=∀ov iv,subscripted i false ov iv=operate [ov,iv] (getItem ov iv)
theorem F6{s:Shared}{env:Env}{value slice:Expr}{pos:Pos}{T id:String}{Q:Value->Shared->Prop}
  (hl:typeLookup (.type T) "__getitem__"=pure (some (.builtin id))) (hs:Lq slice)
  (h:wpAny (model prog w) A (eval value env) (λo s₁=>wpAny (model prog w) A (eval slice env) (λi s₂=>s₂.TypeIs o T/\wpAny (model prog w) A (getItem o i) Q E s₂) E s₁) E s) :
  wpAny (model prog w) A (eval (.Subscript value slice pos) env) Q E s:=by
 refine Subscript_ (za6 h (λo s₁ h₁=>za6 h₁ (λi s₂ h₂=>?_) λ_ _ x=>x) λ_ _ x=>x)
 obtain⟨hT,h₂⟩:=h₂;unfold subscriptTail;refine zaI ?_;rw[getitemInPython_of_ne hT.not_modules];refine zaI (wpAny_specialOf hT hl ?_);have fin:wpAny (model prog w) A (subscripted slice false o i) (λr s₃=>wpAny (model prog w) A (letTemporaryGo value o r>>=λ_=>pure r) Q E s₃) E s₂:=by
  rw[hs o i];exact wpAny_operating (za6 h₂ (λr s₃ h₃=>zaI (wpAny_letTemporaryGo (zaZ h₃))) λ_ _ x=>x)
 first
  |exact zaZ (zaI fin)
  |exact zaI (zaZ (zaI fin))
  |exact zaI fin
theorem wF{σ:St}{s:Shared}{a:Addr}{y:V}{o:Option V}(I:Inv X pins σ H s)(g:nF H a y o):s.TypeIs (.ref a) "dict":=by
 rcases g with⟨kvs,k,e,_,_⟩|⟨kvs,k,b,e,_,_,_⟩
 ·obtain⟨_,_,vs,_,dd⟩:=o7 I.hok e
  exact dd.typeIs
 ·obtain⟨_,_,xs,_,dd⟩:=wD I.hok e
  exact dd.typeIs
def Lr(td ty:TE):TE:=fun σ H Q=>td σ H λx H1=>ty σ H1 λy H2=>∃a v,x=.ref a/\nF H2 a y (some v)/\Q v H2
def MH(ty td:TE):TE:=fun σ H Q=>ty σ H λy H1=>td σ H1 λx H2=>∃a o,x=.ref a/\nF H2 a y o/\Q (.bl o.isSome) H2
def F7(ty td:TE):TE:=fun σ H Q=>ty σ H λy H1=>td σ H1 λx H2=>∃a o,x=.ref a/\nF H2 a y o/\Q (.bl (!o.isSome)) H2
def zT(td ty tv:TE):TS:=λD σ H=>tv σ H λv H1=>td σ H1 λx H2=>ty σ H2 λy H3=>∃a H4,x=.ref a/\Be H3 a y v H4/\D.nx σ H4
section
variable{X:Cx}{o i e value:Expr}{pos pos' tpos:Pos}{td ty tv:TE}
theorem dP(hu:X.A.units+1<cLine)(ho:PE X o td)(hi:PE X i ty)(hs:Lq i):PE X (.Subscript o i pos) (Lr td ty):=by
 intro pins s σ H Q I h;refine F6 PySem.F.slot_dict_getitem.lookup hs (thn (ho pins s σ H _ I h) λu s1 ⟨x,H1,I1,rx,q1⟩=>thn (hi pins s1 σ H1 _ I1 q1) λiv s2 ⟨y,H2,I2,ry,a,v,ex,g,q2⟩=>?_)
 subst ex;obtain rfl:u=Value.ref a:=rx;exact⟨wF I2 g,Bf hu I2 g ry λw' s3 I3 rw'=>⟨v,H2,I3,rw',q2⟩⟩
theorem uL(hu:X.A.units+1<cLine)(hi:PE X i ty)(ho:PE X o td):PC X .In i o (MH ty td):=by
 intro pins s σ H Q I h;refine thn (hi pins s σ H _ I h) λiv s1 ⟨y,H1,I1,ry,q1⟩=>thn (ho pins s1 σ H1 _ I1 q1) λu s2 ⟨x,H2,I2,rx,a,ov,ex,g,q2⟩=>?_
 subst ex;obtain rfl:u=Value.ref a:=rx;exact MC hu I2 g ry λs3 I3=>⟨.bl ov.isSome,H2,I3,rfl,q2⟩
theorem Bh(hu:X.A.units+1<cLine)(hi:PE X i ty)(ho:PE X o td):PC X .NotIn i o (F7 ty td):=by
 intro pins s σ H Q I h;refine thn (hi pins s σ H _ I h) λiv s1 ⟨y,H1,I1,ry,q1⟩=>thn (ho pins s1 σ H1 _ I1 q1) λu s2 ⟨x,H2,I2,rx,a,ov,ex,g,q2⟩=>?_
 subst ex;obtain rfl:u=Value.ref a:=rx;exact F5 hu I2 g ry λs3 I3=>⟨.bl (!ov.isSome),H2,I3,rfl,q2⟩
theorem fh(hu:X.A.units+1<cLine)(ho:PE X o td)(hi:PE X i ty)(hv:PE X value tv)(hs:swapsWith value (some (.Subscript o i pos')) pos.line X.env=pure false) :
  PS X (.Assign [.Subscript o i pos'] value pos) (zT td ty tv):=by
 intro pins s σ H D I h;refine wpAny_Assign_Subscript (thn (hv pins s σ H _ I h) λr s1 ⟨v,H1,I1,rv,q1⟩=>thn (ho pins s1 σ H1 _ I1 q1) λu s2 ⟨x,H2,I2,rx,q2⟩=>thn (hi pins s2 σ H2 _ I2 q2) λiv s3 ⟨y,H3,I3,ry,a,H4,ex,g,q3⟩=>?_) hs
 subst ex;obtain rfl:u=Value.ref a:=rx;exact Bg hu I3 g ry rv λs4 I4=>⟨σ,H4,I4,q3⟩
end
theorem DN(h:Heap)(hb:sysModules<h.objs.size):cb P w H (h.push {cls:=.type "dict",data:=.dict #[]}) h.objs.size (.dK []) :=
 ⟨Nat.zero_le _,beq_eq_false_iff_ne.mpr (Ne.symm (zaS hb)),[],.nil,Heap.DictOf.new h⟩
def DO:TE:=λ_ H Q=>∀p,H p=none->Q (.ref p) (upd H p (.dK []))
section
variable{X:Cx}{pos:Pos}
theorem gF:PE X (.Dict [] [] pos) DO:=λpins s σ H Q I h=>
 wpAny_Dict_empty ⟨.ref s.heap.objs.size,_,I.laid (a:=s.heap.objs.size) (o:=.dK []) (t':=s.toks) (λ_ _ q=>zar _ q) (zap _) (DN s.heap I.big),rfl,h _ (I.hok.fresh (zap _))⟩
end
structure M1(X:Cx)(o:Expr)(m:Str)(apos:Pos)(e:Expr)(cpos:Pos):Prop where
 base:attributeBase o m X.env (eval o X.env)=eval o X.env
 few:((backTo cpos (starEach [e] X.env)).all (λx=>!x.1)&&(backToKw cpos (keywordEach [] X.env)).all (λx=>x.1.isSome)
  &&decide (([e]:List Expr).length+([]:List Keyword).length+(if([]:List Keyword).isEmpty then 0 else 1)<30))=true
 line:(apos.endLine==cpos.line)=true
 trees:backTo cpos (starEach [e] X.env)=[(false,eval e X.env)]
structure M2(X:Cx)(o:Expr)(m:Str)(apos:Pos)(e f:Expr)(cpos:Pos):Prop where
 base:attributeBase o m X.env (eval o X.env)=eval o X.env
 few:((backTo cpos (starEach [e,f] X.env)).all (λx=>!x.1)&&(backToKw cpos (keywordEach [] X.env)).all (λx=>x.1.isSome)
  &&decide (([e,f]:List Expr).length+([]:List Keyword).length+(if([]:List Keyword).isEmpty then 0 else 1)<30))=true
 line:(apos.endLine==cpos.line)=true
 trees:backTo cpos (starEach [e,f] X.env)=[(false,eval e X.env),(false,eval f X.env)]
section
variable{X:Cx}{pins:List (Addr×Obj)}{σ:St}{H:Hp}{s:Shared}{a:Addr}{kvs:List (Key×V)}{A:Around}{E:Value->Shared->Prop}
theorem DP(I:Inv X pins σ H s)(e:Rd H a (.dK kvs))(h:∀p s',H p=none->Inv X pins σ (upd H p (.dK kvs)) s'->Q (.ref p) s'):wpAny (model X.prog X.w) A (call (.type "dict") [.ref a]) Q E s:=by
 obtain⟨z,hd,vs,rel,dd⟩:=o7 I.hok e;refine kt_call_dict hd dd (by rw[<-rel.length];exact z) λh' dd' hs=>?_
 refine h _ _ (I.hok.fresh (zap _)) (I.laid (a:=s.heap.objs.size) (o:=.dK kvs) (t':=s.toks) (λb q hq=>?_) (zap _) (yq z (beq_eq_false_iff_ne.mpr (Ne.symm (zaS I.big))) rel dd'))
 exact(hs.2 b (zaS (zaq hq))).trans (zar _ hq)
end
section
variable{X:Cx}
theorem oH:∀{ns:List Int} {us:List Value},Vals (ns.map V.int) us->IntsAre us ns
 | [],us,h=>by cases h;first|exact .nil|trivial
 |n::ns,us,h=>by
  cases h with
  |cons r t=>
   obtain⟨tk,rfl⟩:=r;exact .cons _ _ (oH t)
end
end L2
namespace Mir
open PySem L2
variable [Zc]
def kE:PM:=fun ρ=>some ((.dict [],.new),ρ)
theorem i3:ME DO kE:=by
 intro F B H σ ρ r ρ' Q R e q;cases e;exact hI (res:=(.dict [],true)) (k:=λQ=>∀p,H p=none->Q (.ref p) (upd H p (.dK []))) (Q:=Q) R ⟨[],.nil,λQ h=>h⟩ λv B' H' E R' V' N=>q v B' H' E R' V' N
def DQ:Option Sl->Option (List (D×D))
 |some (.own (.dict es))=>some es
 |some (.io (.dict es))=>some es
 |_=>none
theorem zU(h:DQ s=some es):∃t,s=some t/\t.e9=true/\slD t=.dict es:=by
 unfold DQ at h;split at h
 ·cases h;exact⟨_,rfl,rfl,rfl⟩
 ·cases h;exact⟨_,rfl,rfl,rfl⟩
 ·cases h
theorem Own.dict{es:List (D×D)}(h:Own B H p (.dict es)):∃kvs,H p=some (.dK kvs)/\aZ B kvs es:=by
 cases h with
 |dct h r=>exact⟨_,h,r⟩
theorem aZ.snoc(hk:pJ k c)(hx:Rep B x d):∀{kvs:List (Key×V)} {es:List (D×D)},aZ B kvs es->aZ B (kvs++[(k,x)]) (es++[(c,d)])
 |_,_,.nil=>.cons hk hx .nil
 |_,_,.cons h1 h2 r=>.cons h1 h2 (aZ.snoc hk hx r)
theorem aZ.length:∀{kvs:List (Key×V)} {es:List (D×D)},aZ B kvs es->kvs.length=es.length
 |_,_,.nil=>rfl
 |_,_,.cons _ _ r=>by rw[zaw,zaw,aZ.length r]
theorem DJ{k:Key}(h:jj kvs k=none):putK kvs k v=kvs++[(k,v)]:=by
 unfold putK;rw[if_neg];intro z;rw[List.any_eq_true]at z;obtain⟨p,hp,e⟩:=z;have e':=of_decide_eq_true e;unfold jj at h;rw[Option.map_eq_none_iff,List.find?_eq_none]at h;exact h p hp (by simpa using e')
def DR:List (D×D)->Option (List Int)
 | []=>some []
 |(_,.int i)::r=>(DR r).map (i::·)
 |_=>none
theorem oH:∀{kvs:List (Key×V)} {es:List (D×D)} {ns:List Int},aZ B kvs es->DR es=some ns->kvs.map (·.2)=ns.map V.int
 |_,_,_,.nil,h=>by cases h;rfl
 |_,_,ns,.cons (d:=d) hk hx r,h=>by
  cases d with
  |int i=>
   obtain⟨ms,h1,h2⟩:=zab (show(DR _).map (i::·)=some ns from h)
   subst h2;cases hx;rw[zaz,zaz,oH r h1]
  |_=>cases h
theorem Rel.fresh(R:Rel F B H σ ρ)(hp:H p=none)(n1:∀xs,o≠.tup xs)(n2:∀a u,o≠.frz a u):Rel F B (upd H p o) σ ρ/\Ext σ ρ B H ρ B (upd H p o):=by
 refine⟨R.grow (λ_ _ z=>z) (eZ hp) (λq u z=>eZ hp q u (R.sub q u z)) (λ_ _ z=>z) (λq xs z=>?_) λq a u z y=>?_,Ext.grow (λ_ _ z=>z) (eZ hp) λ_ _ z=>z⟩
 ·by_cases w:q=p
  ·subst w;rw[ar]at z;cases z;exact absurd rfl (n1 xs)
  ·rw[ao w]at z;exact R.cO q xs z
 ·by_cases w:q=p
  ·subst w;rw[ar]at z;cases z;exact absurd rfl (n2 a u)
  ·rw[ao w,y]at z;cases z
end Mir
namespace L2
open PySem PySem.Spec PyProof.Rows
section
variable{X:Cx}
def HI:List V->Hp->VK->Prop:=λxs H Q=>∃a kvs,xs=[V.ref a]/\Rd H a (.dK kvs)/\Q (.int kvs.length) H
theorem lQ:d7 X (.builtin "len") HI:=by
 intro pins s σ H xs us Q I r h;obtain⟨a,kvs,rfl,ha,q⟩:=h;cases r with
 |cons r1 r=>
  cases r;obtain rfl:=r1;exact Lp I ha λt s' I'=>⟨.int kvs.length,H,I',⟨t,rfl⟩,q⟩
def DS:List V->Hp->VK->Prop:=λxs H Q=>∃a kvs,xs=[V.ref a]/\Rd H a (.dK kvs)/\∀p,H p=none->Q (.ref p) (upd H p (.dK kvs))
theorem eI:d7 X (.type "dict") DS:=by
 intro pins s σ H xs us Q I r h;obtain⟨a,kvs,rfl,ha,q⟩:=h;cases r with
 |cons r1 r=>
  cases r;obtain rfl:=r1;exact DP I ha λp s' hp I'=>⟨.ref p,_,I',rfl,q p hp⟩
def DT:List V->Hp->VK->Prop:=λxs H Q=>∃a kvs,xs=[V.ref a]/\Rd H a (.dK kvs)/\∀p,H p=none->Q (.ref p) (upd H p (.lst (kvs.map λq=>kV q.1)))
theorem DU(h:(bY P w).is k u=true):RelV (kV k) u:=by
 rw[xH]at h;rcases cZ h with⟨i,t,rfl,rfl⟩|⟨x,t,rfl,rfl⟩
 ·exact⟨t,rfl⟩
 ·exact⟨t,rfl⟩
theorem Bi(us:List Value)(r:KV kvs vs)(hl:us.length=vs.length)(hv:∀(j:Nat) (v:Value),us[j]?=some v->∃k x,vs[j]?=some (k,x)/\(bY P w).is k v=true):Vals (kvs.map λq=>kV q.1) us:=by
 induction r generalizing us with
 |nil=>
  cases us with
  |nil=>exact .nil
  |cons u us=>cases hl
 | @cons a b l1 l2 h t ih=>
  cases us with
  |nil=>cases hl
  |cons u us=>
   obtain⟨k,x,e1,e2⟩:=hv 0 u rfl;have e3:b=(k,x):=by simpa using e1
   subst e3;have e4:a.1=k:=h.1;refine .cons ?_ (ih us (by simpa using hl) λj v e=>hv (j+1) v (by simpa using e))
   show RelV (kV a.1) u;rw[e4];exact DU e2
theorem o8(hc:X.calm=true):d7 X (.type "list") DT:=by
 intro pins s σ H xs us Q I r h;obtain⟨a,kvs,rfl,ha,q⟩:=h;cases r with
 |cons r1 r=>
  cases r;obtain rfl:=r1;obtain⟨z,hd,vs,rel,dd⟩:=o7 I.hok ha;obtain⟨ep,hat⟩:=dd.dictAt;refine PySem.W.kdl_call (PySem.W.kdl_dict (knd:=bY X.prog X.w) (kvs:=vs) (ep:=ep) hd) (I.ok.hd hc) hat (by rw[<-rel.length];exact z) λh' tk acc' c' hk hD hacc=>?_
  have kv:Vals (kvs.map λq=>kV q.1) acc'.toList:=Bi acc'.toList rel (by rw[Array.length_toList];exact hacc.1) λj u e=>hacc.2 j u (by rw[<-Array.getElem?_toList];exact e)
  refine⟨.ref s.heap.objs.size,_,I.laid (a:=s.heap.objs.size) (o:=.lst (kvs.map λq=>kV q.1)) (t':=tk) hk (zap _) ⟨by rw[zal];exact z,acc'.toList,c',kv,?_⟩,rfl,q _ (I.hok.fresh (zap _))⟩
  rw[hD,Array.toArray_toList]
end
end L2
namespace Mir
open PySem L2
variable [Zc]
def keyOf:D->Option Key
 | .int i=>some (.inl i)
 | .str x=>some (.inr x)
 |_=>none
theorem pJ.of(h:pJ k c):keyOf c=some k:=by
 cases k with
 |inl i=>obtain rfl:=(show c=.int i from h);rfl
 |inr x=>obtain rfl:=(show c=.str x from h);rfl
theorem uM(h:keyOf c=some k):pJ k c:=by
 unfold keyOf at h;split at h
 ·cases h;exact rfl
 ·cases h;exact rfl
 ·cases h
def gG:List (D×D)->Key->Option D
 | [],_=>none
 |(c,d)::r,k=>if keyOf c=some k then some d else gG r k
theorem lR:∀{kvs:List (Key×V)} {es:List (D×D)},aZ B kvs es->(∀d,gG es k=some d->∃u,jj kvs k=some u/\Rep B u d)/\(gG es k=none->jj kvs k=none)
 |_,_,.nil=>⟨λd h=>(by cases h),λ_=>rfl⟩
 |_,_,.cons (k:=k') (x:=x) (c:=c) (d:=d) (kvs:=kvs) (es:=es) hk hx r=>by
  have ih:=lR (k:=k) r
  by_cases e:k'=k
  ·subst e
   have hl:gG ((c,d)::es) k'=some d:=if_pos hk.of;refine⟨λd' h=>?_,λh=>?_⟩
   ·rw[hl]at h;cases h
    exact⟨x,kY rfl,hx⟩
   ·rw[hl]at h;cases h
  ·have hv:jj ((k',x)::kvs) k=jj kvs k:=kZ e
   have hl:gG ((c,d)::es) k=gG es k:=if_neg λz=>e (by rw[hk.of]at z;exact zaQ z)
   rw[hv,hl];exact ih
theorem View.key(h:View B H y d)(e:keyOf d=some k):y=kV k:=by
 unfold keyOf at e;split at e
 ·cases e
  rcases h with h|⟨p,_,h⟩
  ·cases h;rfl
  ·cases h
 ·cases e
  rcases h with h|⟨p,_,h⟩
  ·cases h;rfl
  ·cases h
 ·cases e
def Ls:R2:=λx y H Q=>∃a v,x=.ref a/\nF H a y (some v)/\Q v H
def MJ:R2:=λy x H Q=>∃a o,x=.ref a/\nF H a y o/\Q (.bl o.isSome) H
def F8:R2:=λy x H Q=>∃a o,x=.ref a/\nF H a y o/\Q (.bl (!o.isSome)) H
def gT:D->D->Option (D×Bool)
 | .dict es,c=>(keyOf c).bind λk=>(gG es k).map λd=>(d,false)
 |_,_=>none
theorem iB:OpJ Ls gT:=by
 intro B H x y c d res s hx hy e;unfold gT at e;split at e
 ·obtain⟨k,h1,e⟩:=zaa e
  obtain⟨v,h2,e⟩:=zab e;cases e;obtain rfl:=hy.key h1;obtain⟨a,kvs,rfl,r1,rk⟩:=hx.dict s;obtain⟨u,h3,h4⟩:=(lR rk).1 v h2;exact⟨u,h4,λQ q=>⟨a,u,rfl,.inl ⟨kvs,k,r1,rfl,h3.symm⟩,q⟩⟩
 ·cases e
def uN:D->D->Option (D×Bool)
 |c,.dict es=>(keyOf c).map λk=>(.bool (gG es k).isSome,false)
 |_,_=>none
def nG:D->D->Option (D×Bool)
 |c,.dict es=>(keyOf c).map λk=>(.bool (!(gG es k).isSome),false)
 |_,_=>none
theorem uO(r:aZ B kvs es):(jj kvs k).isSome=(gG es k).isSome:=by
 cases h:gG es k with
 |none=>rw[(lR r).2 h];rfl
 |some d=>obtain⟨u,h1,_⟩:=(lR r).1 d h;rw[h1];rfl
theorem zV:OpJ MJ uN:=by
 intro B H y x c d res s hy hx e;unfold uN at e;split at e
 ·obtain⟨k,h1,e⟩:=zab e
  cases e;obtain rfl:=hy.key h1;obtain⟨a,kvs,rfl,r1,rk⟩:=hx.dict s;exact⟨.bl _,.bl _,λQ q=>⟨a,_,rfl,.inl ⟨kvs,k,r1,rfl,rfl⟩,by rw[uO rk];exact q⟩⟩
 ·cases e
theorem DV:OpJ F8 nG:=by
 intro B H y x c d res s hy hx e;unfold nG at e;split at e
 ·obtain⟨k,h1,e⟩:=zab e
  cases e;obtain rfl:=hy.key h1;obtain⟨a,kvs,rfl,r1,rk⟩:=hx.dict s;exact⟨.bl _,.bl _,λQ q=>⟨a,_,rfl,.inl ⟨kvs,k,r1,rfl,rfl⟩,by rw[uO rk];exact q⟩⟩
 ·cases e
def k6:List D->Option (D×Bool)
 | [.dict es]=>some (.int es.length,false)
 |_=>none
theorem uP:mX HI k6:=by
 intro B H vs ds res s h e;unfold k6 at e;split at e
 ·cases e
  obtain⟨v,rfl,hh⟩:=gO h;obtain⟨a,kvs,rfl,r1,rk⟩:=hh.dict s;exact iW λQ q=>⟨a,kvs,rfl,r1,by rw[rk.length];exact q⟩
 ·cases e
def gU:List D->Option (D×Bool)
 | [.dict es]=>some (.dict es,true)
 |_=>none
theorem i4:mX DS gU:=by
 intro B H vs ds res s h e;unfold gU at e;split at e
 ·cases e
  obtain⟨v,rfl,hh⟩:=gO h;obtain⟨a,kvs,rfl,r1,rk⟩:=hh.dict s;exact⟨kvs,rk,λQ q=>⟨a,kvs,rfl,r1,q⟩⟩
 ·cases e
def qL:List D->Option (D×Bool)
 | [.dict es]=>some (.list (es.map (·.1)),true)
 |_=>none
theorem qM:∀{kvs:List (Key×V)} {es:List (D×D)},aZ B kvs es->aP B (kvs.map λq=>kV q.1) (es.map (·.1))
 |_,_,.nil=>.nil
 |_,_,.cons (k:=k) (c:=c) hk hx r=>by
  refine .cons ?_ (qM r);cases k with
  |inl i=>obtain rfl:=(show c=.int i from hk);exact .int i
  |inr x=>obtain rfl:=(show c=.str x from hk);exact .str x
theorem zW:mX DT qL:=by
 intro B H vs ds res s h e;unfold qL at e;split at e
 ·cases e
  obtain⟨v,rfl,hh⟩:=gO h;obtain⟨a,kvs,rfl,r1,rk⟩:=hh.dict s;exact⟨_,qM rk,λQ q=>⟨a,kvs,rfl,r1,q⟩⟩
 ·cases e
def putD(es:List (D×D))(c d:D)(k:Key):List (D×D):=if(gG es k).isSome then es.map λp=>if keyOf p.1=some k then(p.1,d)else p else es++[(c,d)]
theorem zX(k:Key):∀kvs:List (Key×V),(kvs.any λkv=>decide (kv.1=k))=(jj kvs k).isSome
 | []=>rfl
 |p::l=>by
  rw[List.any_cons,zX k l]
  by_cases h:p.1=k
  ·rw[kY h,zaH h];rfl
  ·rw[kZ h,zaO h];rfl
theorem aZ.map(hv:Rep B v d):∀{kvs:List (Key×V)} {es:List (D×D)},aZ B kvs es->aZ B (kvs.map λp=>if p.1=k then(p.1,v)else p) (es.map λp=>if keyOf p.1=some k then(p.1,d)else p)
 |_,_,.nil=>.nil
 |_,_,.cons (k:=k') h1 h2 t=>by
  rw[zaz,zaz]
  by_cases e:k'=k
  ·subst e
   rw[if_pos rfl,if_pos h1.of];exact .cons h1 hv (aZ.map hv t)
  ·rw[if_neg e,if_neg λz=>e (by rw[h1.of]at z;exact zaQ z)]
   exact .cons h1 h2 (aZ.map hv t)
theorem aZ.put(hk:pJ k c)(hv:Rep B v d)(r:aZ B kvs es):aZ B (putK kvs k v) (putD es c d k):=by
 unfold putK putD;rw[zX,uO r];split
 ·exact aZ.map hv r
 ·exact aZ.snoc hk hv r
def i5(i:Nat)(a b:PM):SM:=fun ρ=>(sv a ρ).bind λx=>(kP x.1 x.2).bind λy=>(DQ y.2[i]?).bind λ_=>(sv b y.2).bind λz=>(keyOf z.1.1).bind λk=>(DQ z.2[i]?).bind λes=>cIf (es.length<100000) (some (.nx (Mir.putAt z.2 i (.dict (putD es z.1.1 y.1 k))))) none
theorem hU(ha:ME tv a)(hb:ME ty b):MS (zT (kI i) ty tv) (i5 i a b):=by
 intro F B H σ ρ o D R e q;obtain⟨x,e1,e⟩:=zaa e;obtain⟨y,e2,e⟩:=zaa e;obtain⟨es0,e3,e⟩:=zaa e;obtain⟨z,e4,e⟩:=zaa e;obtain⟨k,e5,e⟩:=zaa e;obtain⟨es,e6,e⟩:=zaa e;obtain⟨hz,e⟩:=cW e;cases e;refine ha.sv F B H σ ρ x.1 x.2 _ R e1 λv B1 H1 E1 R1 V1 N1=>?_
 have w:CZ B1 σ v x.1:=(Vl.weak (F:=F) (H:=H1) (ρ:=x.2) (vs:=[v]) (rs:=[x.1]) ⟨⟨V1,jX e1⟩,trivial⟩).1;obtain⟨B2,R2,rp,E2⟩:=R1.frz w e2;obtain⟨s0,hs0,ho0,hd0⟩:=zU e3;obtain⟨p,hv,hB,ow⟩:=R2.ownAt hs0 ho0;refine⟨_,hv,?_⟩;refine hb.sv F B2 H1 σ y.2 z.1 z.2 _ R2 e4 λu B3 H3 E3 R3 V3 N3=>?_
 obtain rfl:=(V3.view R3).key e5;obtain⟨s,hs,ho,hd⟩:=zU e6;obtain⟨p',hv',hB',ow'⟩:=R3.ownAt hs ho;rw[hv]at hv';cases hv';rw[hd]at ow';obtain⟨kvs,hp,rk⟩:=ow'.dict;obtain⟨R4,E4⟩:=R3.write (o:=.dK (putK kvs k v)) (d:=.dict (putD es z.1.1 y.1 k)) hs ho hv ⟨(λ_ z=>by cases z),λ_ _ z=>by cases z⟩ (.dct ar (aZ.put (uM e5) (rp.mono E3.sB) rk))
 have ep:Mir.putAt z.2 i (.dict (putD es z.1.1 y.1 k))=z.2.set i (s.put (.dict (putD es z.1.1 y.1 k))):=by unfold Mir.putAt;rw[hs]
 rw[ep]at q;exact⟨p,_,rfl,.inl ⟨kvs,k,hp,rfl,by rw[rk.length,sizeLine_eq];omega,rfl⟩,q B3 _ σ R4⟩
end Mir
namespace L2
open PySem PySem.Spec PyProof.Rows
section
variable{X:Cx}{pins:List (Addr×Obj)}{σ:St}{H:Hp}{s:Shared}{a:Addr}{kvs:List (Key×V)}
theorem Inv.view(I:Inv X pins σ H s)(e:H a=some u)(nt:∀xs,u≠.tup xs)(no:∀x,u≠.own x)(nz:∀o v,X.H₀ a≠some (.frz o v))(nb:∀ps,u≠.tbl ps)(new:cb X.prog X.w (upd H a u') s.heap a u'):Inv X pins σ (upd H a u') s:=by
 have nn:∀b,H b=none->b≠a:=λb z y=>by rw[y,e]at z;cases z
 refine⟨I.ok,I.os,I.bare,⟨I.base.keep,I.base.slot,λb o q n hx=>?_,I.base.there,λb xs q=>?_,λb o v q=>?_,λb ps q=>?_⟩,I.loc,I.cell,?_,λx c hc=>?_,λp hp=>?_,λb v q=>?_,I.len⟩
 ·have:=I.base.free b o q n hx
  rw[ao (nn b this)];exact this
 ·have z:=I.base.tups b xs q
  rw[ao (λy=>by rw[y,e]at z;exact nt xs (zaQ z))];exact z
 ·have z:=I.base.jd b o v q
  rw[ao (λy=>nz o v (by rw[<-y];exact q))];exact z
 ·obtain⟨m,z⟩:=I.base.iN b ps q
  exact⟨m,by rw[ao (λy=>by rw[y,e]at z;exact nb _ (zaQ z))];exact z⟩
 ·rw[ao (nn _ I.free)];exact I.free
 ·have z:=I.f7 x c hc
  rw[ao (nn _ z)];exact z
 ·obtain⟨a1,a2,a3,a4,a5⟩:=I.pin p hp
  exact⟨a1,by rw[ao (nn _ a2)];exact a2,a3,a4,a5⟩
 ·by_cases z:b=a
  ·subst z
   rw[ar]at q;cases q;exact new
  ·rw[ao z]at q
   refine(I.hok b v q).stay (λ_ _ _ r=>r) (λc r=>?_) λc xs hk r=>?_
   ·rw[ao (λy=>by rw[y,e]at r;exact no b (zaQ r))];exact r
   ·rw[ao (λy=>by
     rw[y,e]at r;cases xs with
     |tup l=>exact nt l (zaQ r)
     |tbl l=>exact nb l (zaQ r)
     |_=>exact hk)];exact r
theorem Inv.zY(I:Inv X pins σ H s)(e:H a=some (.dK kvs)):∀o v,X.H₀ a≠some (.frz o v):=λo v z=>by
 have:=I.base.jd a o v z;rw[e]at this;cases this
theorem Inv.JN(I:Inv X pins σ H s)(e:H a=some (.dK kvs)):∃o,Inv X pins σ (upd H a (.frz o (.dK kvs))) s:=by
 obtain⟨z,hd,vs,rel,dd⟩:=DM I.hok e;obtain⟨o,es,ep,ho,r⟩:=id dd;exact⟨o,I.view e (λ_ z=>by cases z) (λ_ z=>by cases z) (I.zY e) (λ_ z=>by cases z) ⟨ho,z,hd,vs,rel,dd⟩⟩
theorem Inv.jk(I:Inv X pins σ H s)(e:H a=some (.frz o (.dK kvs)))(nz:∀o v,X.H₀ a≠some (.frz o v)):Inv X pins σ (upd H a (.dK kvs)) s:=by
 obtain⟨_,z,hd,vs,rel,dd⟩:=I.hok a _ e;exact I.view e (λ_ z=>by cases z) (λ_ z=>by cases z) nz (λ_ z=>by cases z) ⟨z,hd,vs,rel,dd⟩
def F9(a:Addr)(o:Obj)(kvs:List (Key×V))(D:Ends):Ends where
 nx:=fun σ H=>H a=some (.frz o (.dK kvs))/\D.nx σ (upd H a (.dK kvs))
 rt:=λv H=>H a=some (.frz o (.dK kvs))/\D.rt v (upd H a (.dK kvs))
 bk:=fun σ H=>H a=some (.frz o (.dK kvs))/\D.bk σ (upd H a (.dK kvs))
 ct:=fun σ H=>H a=some (.frz o (.dK kvs))/\D.ct σ (upd H a (.dK kvs))
def HJ(t:TS):TS:=λD σ H=>∃a kvs,H a=some (.dK kvs)/\∀o,t (F9 a o kvs D) σ (upd H a (.frz o (.dK kvs)))
theorem JO{st:Stmt}(h:PS X st t):PS X st (HJ t):=by
 intro pins s σ H D I hw;obtain⟨a,kvs,e,q⟩:=hw;obtain⟨o,I1⟩:=I.JN e;have nz:=I.zY e;refine za6 (h pins s σ _ _ I1 (q o)) (λf s1 z=>?_) λ_ _ z=>z
 cases f with
 |next=>obtain⟨σ',H',I',e',z⟩:=z;exact⟨σ',_,I'.jk e' nz,z⟩
 |brk=>obtain⟨σ',H',I',e',z⟩:=z;exact⟨σ',_,I'.jk e' nz,z⟩
 |cont=>obtain⟨σ',H',I',e',z⟩:=z;exact⟨σ',_,I'.jk e' nz,z⟩
 |ret u=>obtain⟨v,σ',H',I',r,e',z⟩:=z;exact⟨v,σ',_,I'.jk e' nz,r,z⟩
def HK(t:TE):TE:=fun σ H Q=>∃a kvs,H a=some (.dK kvs)/\∀o,t σ (upd H a (.frz o (.dK kvs))) λv H'=>H' a=some (.frz o (.dK kvs))/\Q v (upd H' a (.dK kvs))
theorem JP(h:PE X ex t):PE X ex (HK t):=by
 intro pins s σ H Q I hw;obtain⟨a,kvs,e,q⟩:=hw;obtain⟨o,I1⟩:=I.JN e;have nz:=I.zY e;refine za6 (h pins s σ _ _ I1 (q o)) (λu s1 z=>?_) λ_ _ z=>z
 obtain⟨v,H',I',r,e',z⟩:=z;exact⟨v,_,I'.jk e' nz,r,z⟩
def ItD(a:Addr)(o:Obj)(kvs:List (Key×V)):It where
 go:=λi H=>H a=some (.frz o (.dK kvs))/\i<kvs.length
 yld:=λi H x H'=>H'=H/\∃k v,kvs[i]?=some (k,v)/\x=kV k
 stop:=λi H=>H a=some (.frz o (.dK kvs))/\kvs.length<=i
theorem Lu(r:KV kvs vs)(i:Nat)(h:vs[i]?=some (k,x)):∃v,kvs[i]?=some (k,v):=by
 induction r generalizing i with
 |nil=>simp at h
 |cons h1 t ih=>
  cases i with
  |zero=>
   rename_i p q l l'
   have e:q=(k,x):=by simpa using h
   subst e;exact⟨p.2,by show some p=_;exact congrArg some (Prod.ext h1.1 rfl)⟩
  |succ i=>simpa using ih i (by simpa using h)
theorem Bj{K:zag}{a it:Addr}{o:Obj}{kvs:List (Key×V)}{vs:List (Key×Value)}{ep:Nat}{h₁:Heap}(rel:KV kvs vs)(ho:h₁.get? a=some o)(hat:h₁.DictAt (bY P w) a vs ep) :
  Turn P w K tg (ItD a o kvs) [it] it (λi h=>h.IsKeyIter it a i vs.length ep) where
 mem:=by simp
 obj:=λi h st b hb=>by
  have e:b=it:=by simpa using hb
  subst e;obtain⟨o,e,c,d⟩:=st;exact⟨o,e,λv z=>by rw[d]at z;cases z⟩
 keep:=λi h h' st k=>st.at λo e=>k it (by simp) o e
 item:=by
  intro X hP hw hK hc i pins s σ H E I hf st hg;subst hP hw hK;obtain⟨hH,hi⟩:=hg;obtain⟨hg,_⟩:=I.hok a _ hH;have hd:s.heap.DictAt (bY X.prog X.w) a vs ep:=hat.at' λo' e=>by rw[ho]at e;cases e;exact hg
  obtain⟨f0,f1,f2,f3,f4,f5⟩:=hf it (by simp)
  have hl:=rel.length;obtain⟨⟨k,x⟩,hx⟩:∃p,vs[i]?=some p:=⟨vs[i]'(by omega),by simp⟩
  refine wpAny_pyNext_dict_item st hd hx λkey h' hkey st' sb=>?_
  have I1:Inv X pins σ H {s with heap:=h'}:=I.turned (t':=s.toks) (λb o hb e=>(sb.2 b hb).trans e) f0 f1 f3 f4 f5
  obtain⟨oi,e,c,d⟩:=id st';obtain⟨v,hv⟩:=Lu rel i hx;exact⟨key,rfl,vO (s:={s with heap:=h'}) e c d (by decide) ⟨kV k,H,I1,DU hkey,⟨rfl,k,v,hv,rfl⟩,st',λb hb=>(hf b hb).1⟩⟩
 done:=by
  intro X hP hw hK hc i pins s σ H E I hf st hg;subst hP hw hK;obtain⟨hH,hi⟩:=hg;obtain⟨hg,_⟩:=I.hok a _ hH;have hd:s.heap.DictAt (bY X.prog X.w) a vs ep:=hat.at' λo' e=>by rw[ho]at e;cases e;exact hg
  obtain⟨f0,f1,f2,f3,f4,f5⟩:=hf it (by simp)
  have hl:=rel.length;exact wpAny_pyNext_dict_end (I.ok.hd hc) st hd (by simp;omega) λh' eb=>⟨rfl,I.turned (t':=s.toks) (λb o hb e=>eb b o hb e) f0 f1 f3 f4 f5⟩
 self:=λA i s Q E st q=>wpAny_pyIter_keyiter st q
def Ga(tl:TE):TI:=fun σ H R=>tl σ H λx H1=>∃a o kvs,x=.ref a/\H1 a=some (.frz o (.dK kvs))/\R (ItD a o kvs) H1
theorem pY(hl:PE X l tl):PI X tg l (Ga tl):=by
 intro pins s σ H R I h;refine thn (hl pins s σ H _ I h) λv s1 ⟨x,H1,I1,r1,q1⟩=>?_
 obtain⟨a,o,kvs,e,hH,q⟩:=q1;subst e;cases r1;obtain⟨ho,z,hd,vs,rel,dd⟩:=I1.hok a _ hH;obtain⟨ep,hat⟩:=dd.dictAt;refine wpAny_pyIter_dict hd hat ?_;refine⟨s1.heap.objs.size,[s1.heap.objs.size],_,_,H1,rfl,I1.kept (t':=s1.toks) λb o e=>zar _ e,Bj rel ho hat,⟨_,zaL _ rfl,rfl,rfl⟩,λb hb=>?_,q⟩
 have e:b=s1.heap.objs.size:=by simpa using hb
 subst e;exact I1.pE (zap _) (I1.hok.fresh (zap _))
end
end L2
namespace Mir
open PySem L2
variable [Zc]
mutual
theorem Rep.map(hL:∀p xs,Rd B p (.lst xs)->Rd B' p (.lst xs))(hT:∀p xs,B p=some (.tup xs)->B' p=some (.tup xs))(hD:∀p kvs,Rd B p (.dK kvs)->Rd B' p (.dK kvs)):∀{v:V} {d:D},Rep B v d->Rep B' v d
 |_,_,.non=>.non
 |_,_,.bl b=>.bl b
 |_,_,.int i=>.int i
 |_,_,.str x=>.str x
 |_,_,.lst h r=>.lst (hL _ _ h) (aP.map hL hT hD r)
 |_,_,.tup h r=>.tup (hT _ _ h) (aP.map hL hT hD r)
 |_,_,.dct h r=>.dct (hD _ _ h) (aZ.map' hL hT hD r)
theorem aP.map(hL:∀p xs,Rd B p (.lst xs)->Rd B' p (.lst xs))(hT:∀p xs,B p=some (.tup xs)->B' p=some (.tup xs))(hD:∀p kvs,Rd B p (.dK kvs)->Rd B' p (.dK kvs)):∀{vs:List V} {ds:List D},aP B vs ds->aP B' vs ds
 |_,_,.nil=>.nil
 |_,_,.cons h r=>.cons (Rep.map hL hT hD h) (aP.map hL hT hD r)
theorem aZ.map'(hL:∀p xs,Rd B p (.lst xs)->Rd B' p (.lst xs))(hT:∀p xs,B p=some (.tup xs)->B' p=some (.tup xs))(hD:∀p kvs,Rd B p (.dK kvs)->Rd B' p (.dK kvs)):∀{kvs:List (Key×V)} {es:List (D×D)},aZ B kvs es->aZ B' kvs es
 |_,_,.nil=>.nil
 |_,_,.cons hk h r=>.cons hk (Rep.map hL hT hD h) (aZ.map' hL hT hD r)
end
section
variable{B:Hp}{a:Addr}{o:Obj}{kvs:List (Key×V)}
theorem mv(hB:B a=some (.dK kvs)):∀p xs,Rd B p (.lst xs)->Rd (upd B a (.frz o (.dK kvs))) p (.lst xs):=λp xs h=>by
 by_cases z:p=a
 ·subst z
  rcases h with h|⟨o',h⟩<;>(rw[hB]at h;cases h)
 ·rcases h with h|⟨o',h⟩
  ·exact .inl (by rw[ao z];exact h)
  ·exact .inr ⟨o',by rw[ao z];exact h⟩
theorem mw(hB:B a=some (.dK kvs)):∀p xs,B p=some (.tup xs)->upd B a (.frz o (.dK kvs)) p=some (.tup xs):=λp xs h=>by
 rw[ao (λz=>by rw[z,hB]at h;cases h)];exact h
theorem my(hB:B a=some (.dK kvs)):∀p kvs',Rd B p (.dK kvs')->Rd (upd B a (.frz o (.dK kvs))) p (.dK kvs'):=λp xs h=>by
 by_cases z:p=a
 ·subst z
  rcases h with h|⟨o',h⟩
  ·rw[hB]at h;cases h
   exact .inr ⟨o,ar⟩
  ·rw[hB]at h;cases h
 ·rcases h with h|⟨o',h⟩
  ·exact .inl (by rw[ao z];exact h)
  ·exact .inr ⟨o',by rw[ao z];exact h⟩
theorem oI(hB:B a=some (.frz o (.dK kvs))):∀p xs,Rd B p (.lst xs)->Rd (upd B a (.dK kvs)) p (.lst xs):=λp xs h=>by
 by_cases z:p=a
 ·subst z
  rcases h with h|⟨o',h⟩<;>(rw[hB]at h;cases h)
 ·rcases h with h|⟨o',h⟩
  ·exact .inl (by rw[ao z];exact h)
  ·exact .inr ⟨o',by rw[ao z];exact h⟩
theorem oJ(hB:B a=some (.frz o (.dK kvs))):∀p xs,B p=some (.tup xs)->upd B a (.dK kvs) p=some (.tup xs):=λp xs h=>by
 rw[ao (λz=>by rw[z,hB]at h;cases h)];exact h
theorem oK(hB:B a=some (.frz o (.dK kvs))):∀p kvs',Rd B p (.dK kvs')->Rd (upd B a (.dK kvs)) p (.dK kvs'):=λp xs h=>by
 by_cases z:p=a
 ·subst z
  rcases h with h|⟨o',h⟩
  ·rw[hB]at h;cases h
  ·rw[hB]at h;cases h
   exact .inl ar
 ·rcases h with h|⟨o',h⟩
  ·exact .inl (by rw[ao z];exact h)
  ·exact .inr ⟨o',by rw[ao z];exact h⟩
end
def iQ(ρ:Rho):Bool:=ρ.all λs=>match s with
 | .ro _=>false
 |_=>true
theorem zZ(h:iQ ρ=true){i:Nat}(z : ρ[i]?=some (.ro d)):False:=by
 have:=(List.all_eq_true.mp h) _ (zaj z);cases this
def Fr.hide(F:Fr)(a:Addr)(u:HO):Fr:=⟨λq=>if q=a then(F.B a).map λ_=>u else F.B q,λq=>if q=a then(F.H a).map λ_=>u else F.H q,F.io,λq=>F.Z q\/q=a⟩
section
variable{F:Fr}{B H:Hp}{σ:St}{ρ:Rho}{a:Addr}{o:Obj}{kvs:List (Key×V)}
theorem Own.ne(hp:B p=none)(hB:B a=some u):p≠a:=λz=>by rw[z,hB]at hp;cases hp
theorem Rel.hide(R:Rel F B H σ ρ)(hB:B a=some (.dK kvs))(nr:iQ ρ=true):Rel (F.hide a (.frz o (.dK kvs))) (upd B a (.frz o (.dK kvs))) (upd H a (.frz o (.dK kvs))) σ ρ:=by
 have own:∀{p:Addr} {d:D},B p=none->Own B H p d->Own (upd B a (.frz o (.dK kvs))) (upd H a (.frz o (.dK kvs))) p d:=fun{p d} hp h=>by
  have z:=Own.ne hp hB;cases h with
  |lst h r=>exact .lst (by rw[ao z];exact h) (aP.map (mv hB) (mw hB) (my hB) r)
  |dct h r=>exact .dct (by rw[ao z];exact h) (aZ.map' (mv hB) (mw hB) (my hB) r)
 refine⟨λq u h=>?_,λq u h=>?_,λq u h n=>?_,λq h1 h2=>?_,R.len,λi s hs=>?_,R.dist,λi d p h1 h2=>?_,R.fx,R.ioN,λq xs h=>?_,R.exv,λq o' u h=>?_⟩
 ·by_cases z:q=a
  ·subst z;rw[ar]at h⊢;exact h
  ·rw[ao z]at h⊢;exact R.sub q u h
 ·by_cases z:q=a
  ·subst z
   have e:(∃x,F.B q=some x)/\HO.frz o (HO.dK kvs)=u:=by simpa[Fr.hide]using h
   rw[ar,e.2]
  ·rw[ao z];exact R.sB q u (by simpa[Fr.hide,z]using h)
 ·by_cases z:q=a
  ·subst z
   have e:(∃x,F.H q=some x)/\HO.frz o (HO.dK kvs)=u:=by simpa[Fr.hide]using h
   rw[ar,e.2]
  ·rw[ao z];exact R.sH q u (by simpa[Fr.hide,z]using h) n
 ·by_cases z:q=a
  ·subst z
   have g1:F.H q≠none:=λy=>h1 (by simp[Fr.hide,y])
   have g2:F.B q=none:=by simpa[Fr.hide]using h2
   have:=R.nB q g1 g2;rw[hB]at this;cases this
  ·rw[ao z];exact R.nB q (by simpa[Fr.hide,z]using h1) (by simpa[Fr.hide,z]using h2)
 ·have:=R.slot i s hs
  cases s with
  |no=>trivial
  |ex=>trivial
  |fz d=>obtain⟨v,h1,h2⟩:=this;exact⟨v,h1,Rep.map (mv hB) (mw hB) (my hB) h2⟩
  |own d=>obtain⟨p,h1,h2,h3⟩:=this;exact⟨p,h1,by rw[ao (Own.ne h2 hB)];exact h2,own h2 h3⟩
  |io d=>obtain⟨p,h1,h2,h3⟩:=this;exact⟨p,h1,by rw[ao (Own.ne h2 hB)];exact h2,own h2 h3⟩
  |ro d=>exact(zZ nr hs).elim
 ·have h3:=R.jD i d p h1 h2
  obtain⟨p',g1,g2,_⟩:=R.slot i _ h1;rw[h2]at g1;cases g1
  have z:=Own.ne g2 hB;show(if p=a then _ else F.H p)=none
  rw[if_neg z];exact h3
 ·have z:q≠a:=λz=>by rw[z,ar]at h;cases h
  rw[ao z]at h⊢;exact R.cO q xs h
 ·by_cases z:q=a
  ·exact .inr z
  ·rw[ao z]at h;exact .inl (R.nz q o' u h)
theorem Rel.show(R0:∃B0 H0 σ0 ρ0,Rel F B0 H0 σ0 ρ0/\B0 a=some (.dK kvs))(R:Rel (F.hide a (.frz o (.dK kvs))) B H σ ρ)(hB:B a=some (.frz o (.dK kvs)))(nr:iQ ρ=true):Rel F (upd B a (.dK kvs)) (upd H a (.dK kvs)) σ ρ:=by
 obtain⟨B0,H0,σ0,ρ0,R0,hB0⟩:=R0;have own:∀{p:Addr} {d:D},B p=none->Own B H p d->Own (upd B a (.dK kvs)) (upd H a (.dK kvs)) p d:=fun{p d} hp h=>by
  have z:=Own.ne hp hB;cases h with
  |lst h r=>exact .lst (by rw[ao z];exact h) (aP.map (oI hB) (oJ hB) (oK hB) r)
  |dct h r=>exact .dct (by rw[ao z];exact h) (aZ.map' (oI hB) (oJ hB) (oK hB) r)
 refine⟨λq u h=>?_,λq u h=>?_,λq u h n=>?_,λq h1 h2=>?_,R.len,λi s hs=>?_,R.dist,λi d p h1 h2=>?_,R.fx,R.ioN,λq xs h=>?_,R.exv,λq o' u h=>?_⟩
 ·by_cases z:q=a
  ·subst z;rw[ar]at h⊢;exact h
  ·rw[ao z]at h⊢;exact R.sub q u h
 ·by_cases z:q=a
  ·subst z
   have:=R0.sB q u h;rw[hB0]at this;rw[ar];exact this
  ·rw[ao z];exact R.sB q u (by simpa[Fr.hide,z]using h)
 ·by_cases z:q=a
  ·subst z
   have:=R0.sH q u h n;rw[R0.sub q _ hB0]at this;rw[ar];exact this
  ·rw[ao z];exact R.sH q u (by simpa[Fr.hide,z]using h) n
 ·by_cases z:q=a
  ·subst z
   have:=R0.nB q h1 h2;rw[hB0]at this;cases this
  ·rw[ao z];exact R.nB q (by simpa[Fr.hide,z]using h1) (by simpa[Fr.hide,z]using h2)
 ·have:=R.slot i s hs
  cases s with
  |no=>trivial
  |ex=>trivial
  |fz d=>obtain⟨v,h1,h2⟩:=this;exact⟨v,h1,Rep.map (oI hB) (oJ hB) (oK hB) h2⟩
  |own d=>obtain⟨p,h1,h2,h3⟩:=this;exact⟨p,h1,by rw[ao (Own.ne h2 hB)];exact h2,own h2 h3⟩
  |io d=>obtain⟨p,h1,h2,h3⟩:=this;exact⟨p,h1,by rw[ao (Own.ne h2 hB)];exact h2,own h2 h3⟩
  |ro d=>exact(zZ nr hs).elim
 ·have h3:=R.jD i d p h1 h2
  obtain⟨p',g1,g2,_⟩:=R.slot i _ h1;rw[h2]at g1;cases g1
  have z:=Own.ne g2 hB;have:(if p=a then(F.H a).map λ_=>HO.frz o (.dK kvs)else F.H p)=none:=h3
  rw[if_neg z]at this;exact this
 ·have z:q≠a:=λz=>by rw[z,ar]at h;cases h
  rw[ao z]at h⊢;exact R.cO q xs h
 ·have z:q≠a:=λz=>by rw[z,ar]at h;cases h
  rw[ao z]at h;rcases R.nz q o' u h with w|w
  ·exact w
  ·exact absurd w z
end
theorem oM(h:G a=some (.frz o (.dK kvs)))(r:aZ B kvs es):ml G B (ItD a o kvs) (es.map (·.1)):=λH s=>by
 have h':=s _ _ h;have hl:=r.length;refine⟨⟨h',by rw[zal];omega⟩,λi d hd=>?_⟩
 have hi:i<es.length:=by have:=(zac hd).1;rwa[zal]at this
 refine⟨⟨h',by omega⟩,λx H' hy=>?_⟩
 obtain⟨rfl,k,v,hk,rfl⟩:=hy;refine .inl ⟨rfl,?_⟩;have kr:=qM r;obtain⟨w,h1,h2⟩:=kr.get i d hd;have e:(kvs.map λq=>kV q.1)[i]?=some (kV k):=by rw[zao,hk];rfl
 rw[e]at h1;cases h1;exact h2
theorem uQ(hg:MG tg g)(hb:MS tb b){F:Fr}{B1 H1:Hp}{σ:St}{ρ1:Rho}{J:It}{ds:List D}{o:Out}{D:Ends}(R1:Rel F B1 H1 σ ρ1)(I1:ml B1 B1 J ds)(e:forL g b ds ρ1=some o)(q:kQ F D o) :
  ∃W:Nat->Nat->St->Hp->Prop,(∃m,W 0 m σ H1)/\∀i m σ H,W i m σ H->(J.stop i H/\D.nx σ H)\/(J.go i H/\∃N:St->Hp->Prop,(∀σ' H',N σ' H'->∃m',m'<m/\W (i+1) m' σ' H')/\∀x H',J.yld i H x H'->tg x σ H' fun σ2 H2=>tb {D with nx:=N,ct:=N,bk:=D.nx} σ2 H2):=by
 have q':=q.down R1;refine⟨λi m σ H=>m=ds.length-i/\i<=ds.length/\∃B ρ,Rel ⟨B1,F.H,F.io,F.Z⟩ B H σ ρ/\forL g b (ds.drop i) ρ=some o,⟨ds.length,rfl,Nat.zero_le _,B1,ρ1,R1.down,e⟩,?_⟩
 rintro i m σ2 H2 ⟨rfl,hil,B2,ρ2,R2,e2⟩
 have sH:aD B1 H2:=R2.sB.trans R2.sub
 by_cases hlt:i<ds.length
 ·refine .inr ?_
  obtain⟨go,yl⟩:=(I1 H2 sH).2 i ds[i] (zaC hlt);rw[zbb hlt]at e2;obtain⟨ρ3,e3,e4⟩:=zaa (show(g ds[i] ρ2).bind _=some o from e2);obtain⟨w,e5,e6⟩:=zaa e4;refine⟨go,fun σ' H'=>∃B' ρ',Rel ⟨B1,F.H,F.io,F.Z⟩ B' H' σ' ρ'/\forL g b (ds.drop (i+1)) ρ'=some o,fun σ' H' h'=>⟨ds.length-(i+1),by omega,rfl,hlt,h'⟩,λy H3 hy=>?_⟩
  have had:∃B3,Rel ⟨B1,F.H,F.io,F.Z⟩ B3 H3 σ2 ρ2/\Rep B3 y ds[i]:=by
   rcases yl y H3 hy with⟨rfl,h2⟩|⟨p,xs,cs,h1,rfl,h3,rfl,h5⟩
   ·exact⟨B2,R2,h2.mono R2.sB⟩
   ·obtain⟨R3,E3,e3⟩:=R2.oz (xs:=xs) h3
    exact⟨_,R3,by rw[h1];exact .tup ar (h5.mono (R2.sB.trans e3))⟩
  obtain⟨B3,R3,rp⟩:=had;refine hg _ B3 H3 σ2 ρ2 y ds[i] ρ3 _ R3 rp e3 λB4 H4 σ4 R4 _=>?_
  refine hb _ B4 H4 σ4 ρ3 w _ R4 e5 ?_;cases w with
  |nx ρ'=>exact λB' H' σ' R'=>⟨B',ρ',R',e6⟩
  |ct ρ'=>exact λB' H' σ' R'=>⟨B',ρ',R',e6⟩
  |bk ρ'=>cases e6;exact q'
  |rt r ρ'=>cases e6;exact q'
 ·have hi':i=ds.length:=by omega
  subst hi';rw[List.drop_length]at e2;cases e2;exact .inl ⟨(I1 H2 sH).1,q' B2 H2 σ2 R2⟩
def Bl:Out->Rho
 | .nx ρ=>ρ
 | .rt _ ρ=>ρ
 | .bk ρ=>ρ
 | .ct ρ=>ρ
def o9:RV->Option (List (D×D))
 |(.dict es,.fz)=>some es
 |_=>none
theorem nH(h:o9 r=some es):r=(.dict es,.fz):=by
 unfold o9 at h;split at h
 ·cases h;rfl
 ·cases h
def z4(dv:PM)(g:D->Rho->Option Rho)(b:SM):SM:=fun ρ=>(dv ρ).bind λx=>(o9 x.1).bind λes=>if iQ ρ=true then(forL g b (es.map (·.1)) x.2).bind λo=>if iQ (Bl o)=true then some o else none else none
def Calm(tl:TE)(dv:PM):Prop:=∀(F:Fr) (B H:Hp) (σ:St) (ρ:Rho) (r:RV) (ρ':Rho),Rel F B H σ ρ->dv ρ=some (r,ρ')->ρ'=ρ/\∃v,Rep B v r.1/\(∀Q:VK,Q v H->tl σ H Q)/\∀a o kvs,B a=some (.dK kvs)->∀Q:VK,Q v (upd H a (.frz o (.dK kvs)))->tl σ (upd H a (.frz o (.dK kvs))) Q
def kF(i:Nat):PM:=fun ρ=>match ρ[i]? with
 |some (.fz d)=>some ((d,.fz),ρ)
 |_=>none
theorem k7:Calm (kI i) (kF i):=by
 intro F B H σ ρ r ρ' R e;unfold kF at e;split at e
 ·rename_i d h
  cases e;obtain⟨v,h1,h2⟩:=R.slot i _ h;exact⟨rfl,v,h2,λQ q=>⟨v,h1,q⟩,λa o kvs _ Q q=>⟨v,h1,q⟩⟩
 ·cases e
def yr(dv:PM)(j:Nat):PM:=fun ρ=>(dv ρ).bind λx=>match x.1.1 with
 | .tuple ds=>(ds[j]?).map λd=>((d,.fz),x.2)
 |_=>none
theorem uR{j:Nat}(h:Calm tl dv):Calm (tOp (rIx K) tl (tC (.int (j:Int)))) (yr dv j):=by
 intro F B H σ ρ r ρ' R e;obtain⟨x,e1,e⟩:=zaa e;obtain⟨⟨c,k⟩,ρ1⟩:=x;cases c with
 |tuple ds=>
  obtain⟨d,e2,e⟩:=zab (show(ds[j]?).map _=some (r,ρ')from e);cases e;obtain⟨rfl,v,rv,h1,h2⟩:=h F B H σ ρ _ _ R e1;refine⟨rfl,?_⟩;cases rv with
  | @tup p xs _ hp rp=>
   obtain⟨w,g1,g2⟩:=rp.get j d e2;have at1:atI xs (j:Int)=some w:=by
    have hl:j<xs.length:=(zac g1).1;unfold atI;have:ixN xs.length (j:Int)=some j:=FA hl;rw[this];exact g1
   refine⟨w,g2,λQ q=>h1 _ (.inr (.inl ⟨p,xs,(j:Int),w,rfl,rfl,.inl (.inl (R.sub _ _ hp)),at1,q⟩)),λa o kvs ha Q q=>h2 a o kvs ha _ (.inr (.inl ⟨p,xs,(j:Int),w,rfl,rfl,.inl (.inl ?_),at1,q⟩))⟩
   rw[ao (λz=>by rw[z,ha]at hp;cases hp)]
   exact R.sub _ _ hp
 |_=>cases e
theorem Own.show(hB:B a=some (.frz o (.dK kvs)))(z:p≠a)(h:Own B H p d):Own (upd B a (.dK kvs)) (upd H a (.dK kvs)) p d:=by
 cases h with
 |lst h r=>exact .lst (by rw[ao z];exact h) (aP.map (oI hB) (oJ hB) (oK hB) r)
 |dct h r=>exact .dct (by rw[ao z];exact h) (aZ.map' (oI hB) (oJ hB) (oK hB) r)
theorem wG(hB:B a=some (.frz o (.dK kvs)))(hH:H a=some (.frz o (.dK kvs)))(V:Val (F.hide a (.frz o (.dK kvs))) B H σ ρ v r):Val F (upd B a (.dK kvs)) (upd H a (.dK kvs)) σ ρ v r:=by
 obtain⟨c,k⟩:=r;cases k with
 |fz=>exact Rep.map (oI hB) (oJ hB) (oK hB) V
 |new=>
  obtain⟨p,rfl,h1,h2,h3,h4⟩:=V;have z:=Own.ne h1 hB;refine⟨p,rfl,by rw[ao z];exact h1,?_,Own.show hB z h3,h4⟩
  have:(if p=a then(F.H a).map λ_=>HO.frz o (.dK kvs)else F.H p)=none:=h2
  rw[if_neg z]at this;exact this
 | «at» i=>exact V
 |ro=>
  obtain⟨p,rfl,h1,h2⟩:=V;have z:p≠a:=λz=>by
   subst z;cases h1 with
   |lst h _=>rw[hH]at h;cases h
   |dct h _=>rw[hH]at h;cases h
  exact⟨p,rfl,Own.show hB z h1,h2⟩
theorem nI{a:Addr}{ob:Obj}{kvs:List (Key×V)}(R0:Rel F B0 H0 σ0 ρ0)(hB:B0 a=some (.dK kvs)){o:Out}{D:Ends}(nr:iQ (Bl o)=true)(q:kQ F D o):kQ ⟨upd B0 a (.frz ob (.dK kvs)),(F.hide a (.frz ob (.dK kvs))).H,F.io,(F.hide a (.frz ob (.dK kvs))).Z⟩ (F9 a ob kvs D) o:=by
 have up:∀{B H σ ρ},Rel ⟨upd B0 a (.frz ob (.dK kvs)),(F.hide a (.frz ob (.dK kvs))).H,F.io,(F.hide a (.frz ob (.dK kvs))).Z⟩ B H σ ρ->Rel (F.hide a (.frz ob (.dK kvs))) B H σ ρ/\B a=some (.frz ob (.dK kvs)):=fun{B H σ ρ} R=>by
  refine⟨⟨R.sub,λq u h=>R.sB q u ?_,R.sH,λq h z=>R.nB q h ?_,R.len,R.slot,R.dist,R.jD,R.fx,R.ioN,R.cO,R.exv,R.nz⟩,R.sB a _ ar⟩
  ·show upd B0 a _ q=some u
   by_cases w:q=a
   ·subst w
    have e:(∃x,F.B q=some x)/\HO.frz ob (HO.dK kvs)=u:=by simpa[Fr.hide]using h
    rw[ar,e.2]
   ·rw[ao w];exact R0.sB q u (by simpa[Fr.hide,w]using h)
  ·show upd B0 a _ q=none
   by_cases w:q=a
   ·subst w
    have g1:F.H q≠none:=λy=>h (by simp[Fr.hide,y])
    have g2:F.B q=none:=by simpa[Fr.hide]using z
    have:=R0.nB q g1 g2;rw[hB]at this;cases this
   ·rw[ao w];exact R0.nB q (by simpa[Fr.hide,w]using h) (by simpa[Fr.hide,w]using z)
 cases o with
 |nx ρ=>exact λB H σ R=>⟨R.sub a _ (up R).2,q _ _ _ (Rel.show ⟨_,_,_,_,R0,hB⟩ (up R).1 (up R).2 nr)⟩
 |bk ρ=>exact λB H σ R=>⟨R.sub a _ (up R).2,q _ _ _ (Rel.show ⟨_,_,_,_,R0,hB⟩ (up R).1 (up R).2 nr)⟩
 |ct ρ=>exact λB H σ R=>⟨R.sub a _ (up R).2,q _ _ _ (Rel.show ⟨_,_,_,_,R0,hB⟩ (up R).1 (up R).2 nr)⟩
 |rt r ρ=>exact λv B H σ R V=>⟨R.sub a _ (up R).2,q _ _ _ _ (Rel.show ⟨_,_,_,_,R0,hB⟩ (up R).1 (up R).2 nr) (wG (up R).2 (R.sub a _ (up R).2) V)⟩
def uS(t:TS):TS:=λD σ H=>HJ t D σ H\/t D σ H
theorem _root_.L2.pZ{X:Cx}{st:Stmt}{t:TS}(h:PS X st t):PS X st (uS t):=by
 intro pins s σ H D I hw;rcases hw with hw|hw
 ·exact JO h pins s σ H D I hw
 ·exact h pins s σ H D I hw
theorem Gb(hc:Calm tl dv)(hg:MG tg g)(hb:MS tb b):MS (uS (vP (Ga tl) tg tb)) (z4 dv g b):=by
 intro F B H σ ρ o D R e q;obtain⟨x,e1,e⟩:=zaa e;obtain⟨es,e2,e⟩:=zaa e;split at e
 rotate_left
 ·cases e
 rename_i nr
 obtain⟨o',e3,e⟩:=zaa e;split at e
 rotate_left
 ·cases e
 rename_i nr2
 cases e;obtain⟨r,ρ1⟩:=x;obtain⟨rfl,v,rv,h1,h2⟩:=hc F B H σ ρ r ρ1 R e1;obtain rfl:=nH e2;cases rv with
 | @dct a kvs _ hd rk=>
  rcases hd with hd|⟨ob,hd⟩
  ·refine .inl ⟨a,kvs,R.sub a _ hd,λob=>?_⟩
   have R':=R.hide (o:=ob) hd nr;refine h2 a ob kvs hd _ ⟨a,ob,kvs,rfl,ar,?_⟩;exact uQ hg hb R'.down (oM ar (aZ.map' (mv hd) (mw hd) (my hd) rk)) e3 (nI R hd nr2 q)
  ·exact .inr (h1 _ ⟨a,ob,kvs,rfl,R.sub a _ hd,uQ hg hb R (oM hd rk) e3 q⟩)
end Mir
namespace Mir
open PySem L2
variable [Zc]
theorem HL{e:PM}(hc:MT tc c)(he:ME te e){F:Fr}{B1 H1:Hp}{σ:St}{ρ1:Rho}{J:It}{ds out:List D}{Q:VK}(R1:Rel F B1 H1 σ ρ1)(I1:ml H1 B1 J ds)(e2:iU c e (fr.map λp=>cX ρ1 p.2) ds=some out)(hz:out.length<sizeLine)
  (q:∀v B' H',Ext σ ρ1 B1 H1 ρ1 B' H'->Rel F B' H' σ ρ1->Val F B' H' σ ρ1 v (.list out,.new)->(∀p,Kd.new=Kd.new->v=.ref p->H1 p=none)->Q v H') :
  ∃W:Nat->Nat->List V->Hp->Prop,(∃m,W 0 m [] H1)/\∀i m ys H2,W i m ys H2->ys.length<sizeLine/\
 ((J.stop i H2/\∀D,H2 D=none->Q (.ref D) (upd H2 D (.lst ys)))\/
  (J.go i H2/\∀v H3,J.yld i H2 v H3->tc (some v::aU σ fr) H3 λb H4=>
   if b=true then te (some v::aU σ fr) H4 λy H5=>∃m',m'<m/\W (i+1) m' (ys++[y]) H5 else∃m',m'<m/\W (i+1) m' ys H4)):=by
 refine⟨λi m ys H2=>m=ds.length-i/\i<=ds.length/\∃B2 done rest,aD B1 B2/\aD H1 H2/\(∀q,H1 q≠none->B1 q=none->B2 q=none)/\Rel F B2 H2 σ ρ1/\aP B2 ys done/\iU c e (fr.map λp=>cX ρ1 p.2) (ds.drop i)=some rest/\done++rest=out,
  ⟨ds.length,rfl,Nat.zero_le _,B1,[],out,aD.refl _,aD.refl _,λ_ _ z=>z,R1,.nil,e2,rfl⟩,?_⟩
 rintro i m ys H2 ⟨rfl,hil,B2,done,rest,eB,eH,nb,R2,rp,hcl,hdr⟩
 have hlen:ys.length<=out.length:=by rw[<-hdr,zau,rp.length];omega
 refine⟨by omega,?_⟩
 by_cases hlt:i<ds.length
 ·refine .inr ?_
  obtain⟨go,yl⟩:=(I1 H2 eH).2 i ds[i] (zaC hlt);refine⟨go,λv H3 hy=>?_⟩
  rw[zbb hlt]at hcl;obtain⟨b,c1,c2⟩:=zaa (show(c (.fz ds[i]::fr.map λp=>cX ρ1 p.2)).bind _=some rest from hcl)
  have had:∃B3,aD B2 B3/\aD H2 H3/\(∀q,H2 q≠none->B2 q=none->B3 q=none)/\Rel F B3 H3 σ ρ1/\Rep B3 v ds[i]:=by
   rcases yl v H3 hy with⟨rfl,h2⟩|⟨p,xs,cs,h1,rfl,h3,rfl,h5⟩
   ·exact⟨B2,aD.refl _,aD.refl _,λ_ _ z=>z,R2,h2.mono eB⟩
   ·obtain⟨R3,E3,e3⟩:=R2.oz (xs:=xs) h3
    refine⟨_,e3,eZ h3,λq h z=>?_,R3,?_⟩
    ·rw[ao (show q≠p from λy=>h (by rw[y];exact h3))];exact z
    ·rw[h1];exact .tup ar (h5.mono (eB.trans e3))
  obtain⟨B3,eB3,eH3,nb3,R3,rv⟩:=had;have Ri:=R3.inner fr rv;refine hc (F0 H3) B3 H3 _ _ b.1 b.2 _ Ri c1 λB4 H4 E4 R4=>?_
  obtain⟨eH4,nb4⟩:=il gf E4;have R4o:Rel F B4 H4 σ ρ1:=R3.grow E4.sB eH4 R4.sub nb4 R4.cO R4.nz;have nbA:∀q,H1 q≠none->B1 q=none->B4 q=none:=λq h z=>by
   have h2:H2 q≠none:=λy=>h (eH.free y)
   have h3:H3 q≠none:=λy=>h2 (eH3.free y)
   exact nb4 q h3 (nb3 q h2 (nb q h z))
  cases hb:b.1 with
  |false=>
   rw[hb,if_neg zam]at c2;rw[if_neg zam];exact⟨ds.length-(i+1),by omega,rfl,hlt,B4,done,rest,eB.trans (eB3.trans E4.sB),eH.trans (eH3.trans eH4),nbA,R4o,rp.mono (eB3.trans E4.sB),c2,hdr⟩
  |true=>
   rw[hb,if_pos rfl]at c2;rw[if_pos rfl];obtain⟨y,c3,c2⟩:=zaa c2;obtain⟨z,c4,c2⟩:=zaa c2;obtain⟨rest',c5,c6⟩:=zab c2;subst c6;have Ri4:=R4o.inner fr (rv.mono E4.sB);refine he.sv (F0 H4) B4 H4 _ _ y.1 y.2 _ Ri4 c3 λu B5 H5 E5 R5 V5 N5=>?_
   obtain⟨eH5,nb5⟩:=il gf E5;have R5o:Rel F B5 H5 σ ρ1:=R4o.grow E5.sB eH5 R5.sub nb5 R5.cO R5.nz;rw[C1 c4]at V5;refine⟨ds.length-(i+1),by omega,rfl,hlt,B5,done++[z],rest',eB.trans (eB3.trans (E4.sB.trans E5.sB)),eH.trans (eH3.trans (eH4.trans eH5)),λq h w=>?_,R5o,(rp.mono (eB3.trans (E4.sB.trans E5.sB))).append (.cons V5 .nil),c5,by rw[zaD];exact hdr⟩
   have h2:H2 q≠none:=λy=>h (eH.free y)
   have h3:H3 q≠none:=λy=>h2 (eH3.free y)
   have h4:H4 q≠none:=λy=>h3 (eH4.free y)
   exact nb5 q h4 (nbA q h w)
 ·have hi':i=ds.length:=by omega
  subst hi';refine .inl ⟨(I1 H2 eH).1,λp hp=>?_⟩
  rw[List.drop_length]at hcl;cases hcl;rw[zaR]at hdr;subst hdr;have E2:Ext σ ρ1 B1 H1 ρ1 B2 H2:=Ext.grow eB eH nb;have:=hI (res:=(.list done,true)) (k:=λQ=>∀p,H2 p=none->Q (.ref p) (upd H2 p (.lst ys))) (Q:=Q) R2 ⟨ys,rp,λQ h=>h⟩ λv B' H' E R' V' N=>q v B' H' (E2.trans E) R' V' λp z1 z2=>E2.live p (N p z1 z2)
  exact this p hp
def Bm(fr:List (Str×Nat))(dv:PM)(c:Rho->Option (Bool×Rho))(e:PM):PM:=fun ρ=>(dv ρ).bind λx=>(o9 x.1).bind λes=>if iQ ρ=true then(iU c e (fr.map λp=>cX ρ p.2) (es.map (·.1))).bind λout=>cIf (out.length<sizeLine) (some ((.list out,.new),ρ)) none else none
def DW(t:TE):TE:=fun σ H Q=>HK t σ H Q\/t σ H Q
theorem _root_.L2.Gd{X:Cx}{ex:Expr}{t:TE}(h:PE X ex t):PE X ex (DW t):=by
 intro pins s σ H Q I hw;rcases hw with hw|hw
 ·exact JP h pins s σ H Q I hw
 ·exact h pins s σ H Q I hw
theorem DX(hd:Calm tl dv)(hc:MT tc c)(he:ME te e):ME (DW (tLC fr (Ga tl) tc te)) (Bm fr dv c e):=by
 intro F B H σ ρ r0 ρ' Q R e0 q;obtain⟨x,e1,e0⟩:=zaa e0;obtain⟨es,e2,e0⟩:=zaa e0;split at e0
 rotate_left
 ·cases e0
 rename_i nr
 obtain⟨out,e3,e0⟩:=zaa e0;obtain⟨hz,e0⟩:=cW e0;cases e0;obtain⟨r,ρ1⟩:=x;obtain⟨_,v,rv,h1,h2⟩:=hd F B H σ ρ r ρ1 R e1;obtain rfl:=nH e2;cases rv with
 | @dct a kvs _ hdd rk=>
  rcases hdd with hdd|⟨ob,hdd⟩
  ·refine .inl ⟨a,kvs,R.sub a _ hdd,λob=>?_⟩
   have R':=R.hide (o:=ob) hdd nr;refine h2 a ob kvs hdd _ ⟨a,ob,kvs,rfl,ar,?_⟩;refine HL (Q:=λv H'=>H' a=some (.frz ob (.dK kvs))/\Q v (upd H' a (.dK kvs))) hc he R' (oM ar (aZ.map' (mv hdd) (mw hdd) (my hdd) rk)) e3 hz λw B' H' E' RR V' N'=>?_
   have hB':B' a=some (.frz ob (.dK kvs)):=E'.sB a _ ar;have hH':=RR.sub a _ hB';refine⟨hH',q w _ _ ?_ (Rel.show ⟨_,_,_,_,R,hdd⟩ RR hB' nr) (wG hB' hH' V') λp z1 z2=>?_⟩
   ·refine⟨λp u h=>?_,λp u h n=>?_,E'.own,E'.ref,λp h=>?_⟩
    ·by_cases z:p=a
     ·subst z;rw[ar,<-hdd];exact h
     ·rw[ao z];exact E'.sB p u (by rw[ao z];exact h)
    ·by_cases z:p=a
     ·subst z
      rw[R.sub p _ hdd]at h;exact⟨by rw[ar];exact h,λy=>by rw[hdd]at y;cases y⟩
     ·obtain⟨k1,k2⟩:=E'.keep p u (by rw[ao z];exact h) n
      exact⟨by rw[ao z];exact k1,λy=>by rw[ao z];exact k2 (by rw[ao z];exact y)⟩
    ·have z:p≠a:=λz=>by rw[z,ar]at h;cases h
     rw[ao z]at h;have:=E'.live p h;rw[ao z]at this;exact this
   ·have:=N' p rfl z2
    have z:p≠a:=λz=>by rw[z,ar]at this;cases this
    rw[ao z]at this;exact this
  ·exact .inr (h1 _ ⟨a,ob,kvs,rfl,R.sub a _ hdd,HL hc he R (oM (R.sub a _ hdd) rk) e3 hz q⟩)
end Mir
namespace L2
open PySem PySem.Spec PyProof.Rows
section
variable{X:Cx}{K:zag}
def HM(K:zag):List V->Hp->VK->Prop:=λxs H Q=>∃p ys,xs=[V.ref p]/\((SqL K H p ys/\∀l,H l=none->Q (.ref l) (upd H l (.tup ys)))\/(SqT K H p ys/\Q (.ref p) H))
theorem wH(h:X.K=K):d7 X (.type "tuple") (HM K):=h▸rL
def HN:V->List V->Hp->VK->Prop:=λx vs H Q=>∃(l:Addr) (zs:List Str) (z:Str) (j:Nat),x=.ref l/\vs=[.str z]/\H l=some (.lst (zs.map V.str))/\zs[j]?=some z/\(∀m,m<j->zs[m]?≠some z)/\Q .non (upd H l (.lst ((zs.eraseIdx j).map V.str)))
theorem Vals.erase:∀{xs:List V} {us:List Value} (j:Nat),Vals xs us->Vals (xs.eraseIdx j) (us.eraseIdx j)
 |_,_,_,.nil=>.nil
 |_,_,0,.cons _ t=>t
 |_,_,j+1,.cons h t=>.cons h (Vals.erase j t)
theorem uT{α β:Type}(f : α->β):∀(l:List α) (j:Nat),(l.eraseIdx j).map f=(l.map f).eraseIdx j
 | [],_=>rfl
 |_::_,0=>rfl
 |a::l,j+1=>by
  show f a::(l.eraseIdx j).map f=f a::(l.map f).eraseIdx j;rw[uT f l j]
def eqS(z:Str):Value->Bool
 | .str a _=>a==z
 |_=>false
theorem uU:∀{zs:List Str} {us:List Value},Vals (zs.map V.str) us->∀(i:Nat) (u:Value),us[i]?=some u->∃a t,zs[i]?=some a/\u=.str a t
 | [],us,h,i,u,e=>by cases h;simp at e
 |a::zs,us,h,i,u,e=>by
  cases h with
  |cons h1 t=>
   cases i with
   |zero=>
    obtain⟨tk,rfl⟩:=h1;have:u=.str a tk:=by simpa using e.symm
    exact⟨a,tk,rfl,this⟩
   |succ i=>simpa using uU t i u (by simpa using e)
theorem Ge:MtM X "list.remove" HN:=by
 intro pins s σ H x vs v us Q I rx rv h;obtain⟨l,zs,z,j,rfl,rfl,hH,hj,hno,q⟩:=h;cases rx;obtain⟨u,rfl,ru⟩:=rv.one;obtain⟨tk,rfl⟩:=ru;obtain⟨hz,its,n,r,hl,e⟩:=I.CI hH;have hlen:its.length=zs.length:=by rw[<-r.length,zal]
 have hjz:j<zs.length:=(zac hj).1;refine call_meets F.slot_list_remove ⟨_,e,rfl⟩ F.entry_list_remove (F.args_list_remove_2 _ _) (PySem.MeetsSeq.list_remove l its.toArray n (.str z tk) (eqS z) (λy hy=>?_) j (by rw[zaK];omega) ?_ (λm hm hmj=>?_) (by rw[zaK,hlen];rwa[zal]at hz)) ⟨e,?_⟩
 ·obtain⟨i,hi,rfl⟩:=List.getElem_of_mem (show y∈its by simpa using hy)
  obtain⟨a,t,_,ha⟩:=uU r i its[i] (zaC hi);rw[ha];exact eqGives_str a z t tk
 ·have hji:j<its.length:=by omega
  obtain⟨a,t,h1,ha⟩:=uU r j its[j] (zaC hji);show eqS z (its.toArray[j]'(by simpa using hji))=true
  have:its.toArray[j]'(by simpa using hji)=its[j]:=by simp
  rw[this,ha];rw[hj]at h1;cases h1;simp[eqS]
 ·have hmi:m<its.length:=by simpa using hm
  obtain⟨a,t,h1,ha⟩:=uU r m its[m] (zaC hmi);have:its.toArray[m]'hm=its[m]:=by simp
  rw[this,ha];have ne:a≠z:=λw=>hno m hmj (by rw[h1,w])
  simp[eqS,ne]
 ·refine⟨.non,_,I.Fh (its':=its.eraseIdx j) hH e (by simp) ?_ ?_,rfl,q⟩
  ·have:=Vals.erase j r
   rwa[<-uT]at this
  ·rw[zal]
   have:=List.length_eraseIdx_le zs j;rw[zal]at hz;omega
end
end L2
namespace Mir
open PySem L2
variable [Zc]
def qN:List D->Option (List Str)
 | []=>some []
 | .str z::r=>(qN r).map (z::·)
 |_=>none
def wI:List Str->Str->Option Nat
 | [],_=>none
 |a::l,z=>if a=z then some 0 else(wI l z).map (· +1)
theorem z5:∀{zs:List Str} {j:Nat},wI zs z=some j->zs[j]?=some z/\∀m,m<j->zs[m]?≠some z
 | [],j,h=>by cases h
 |a::l,j,h=>by
  by_cases e:a=z
  ·have:wI (a::l) z=some 0:=if_pos e
   rw[this]at h;cases h
   exact⟨by rw[e];rfl,λm hm=>by omega⟩
  ·have:wI (a::l) z=(wI l z).map (· +1):=if_neg e
   rw[this]at h;obtain⟨i,h1,rfl⟩:=zab h;obtain⟨g1,g2⟩:=z5 h1;refine⟨g1,λm hm=>?_⟩
   cases m with
   |zero=>exact λw=>e (by simpa using w)
   |succ m=>exact g2 m (by omega)
theorem wJ:∀{xs:List V} {ds:List D} {zs:List Str},aP B xs ds->qN ds=some zs->xs=zs.map V.str
 |_,_,_,.nil,h=>by cases h;rfl
 |_,_,zs,.cons (d:=d) hx r,h=>by
  cases d with
  |str z=>
   obtain⟨ms,h1,h2⟩:=zab (show(qN _).map (z::·)=some zs from h)
   subst h2;cases hx;rw[zaz,wJ r h1]
  |_=>cases h
def p0(ds:List D):List D->Option (List D×D)
 | [.str z]=>(qN ds).bind λzs=>(wI zs z).map λj=>(ds.eraseIdx j,.none)
 |_=>none
theorem DY:wb HN p0:=by
 intro B H p xs ds vs as w hp rx s rv e;unfold p0 at e;split at e
 ·rename_i z
  obtain⟨zs,e1,e⟩:=zaa e;obtain⟨j,e2,e⟩:=zab e;cases e;cases rv with
  |cons a b=>
   cases b;cases a;obtain rfl:=wJ rx e1;obtain⟨g1,g2⟩:=z5 e2;refine⟨(zs.eraseIdx j).map V.str,.non,?_,.non,λQ q=>⟨p,zs,z,j,rfl,rfl,hp,g1,g2,q⟩⟩
   have:=aP.eraseIdx j rx
   rwa[<-uT]at this
 ·cases e
def yt:List D->Option (D×Bool)
 | [.list ds]=>some (.tuple ds,true)
 | [.tuple ds]=>some (.tuple ds,false)
 |_=>none
theorem Gf:mX (HM K) yt:=by
 intro B H vs ds res s h e;unfold yt at e;split at e
 ·cases e
  obtain⟨v,rfl,hh⟩:=gO h;obtain⟨p,xs,rfl,r1,rp1⟩:=hh.list s;exact⟨xs,rp1,λQ q=>⟨p,xs,rfl,.inl ⟨jF r1,q⟩⟩⟩
 ·cases e
  obtain⟨v,rfl,hh⟩:=gO h;rcases hh with hh|⟨p,rfl,hh⟩
  ·cases hh with
   | @tup p xs _ h1 h2=>exact⟨.ref p,.tup h1 h2,λQ q=>⟨p,xs,rfl,.inr ⟨.inl (.inl (s _ _ h1)),q⟩⟩⟩
  ·cases hh
 ·cases e
def uV:D->D->Option (D×Bool)
 | .str z,.int i=>cIf (z.length<=sizeLine) ((atI z.cps.toList i).map λc=>(.str ⟨#[c]⟩,false)) none
 |c,d=>gIx c d
theorem HP:OpJ (rIx K) uV:=by
 intro B H x y c d res s hx hy e;unfold uV at e;split at e
 ·obtain⟨hz,e⟩:=cW e
  obtain⟨w,h1,h2⟩:=zab e;cases h2;rcases hx with hx|⟨p,_,hx⟩
  ·cases hx
   rcases hy with hy|⟨p,_,hy⟩
   ·cases hy
    exact⟨.str ⟨#[w]⟩,.str _,λQ q=>.inr (.inr ⟨_,_,w,rfl,rfl,hz,h1,q⟩)⟩
   ·cases hy
  ·cases hx
 ·exact b9 B H x y _ _ res s hx hy e
end Mir
namespace L2
open PySem PySem.Spec PyProof.Rows
def Ite(K:zag)(a:Addr):It :=
 ⟨λi H=>∃xs x,SqL K H a xs/\xs[i]?=some x,
  λi H v H'=>∃p x,v=.ref p/\H p=none/\H'=upd H p (.tup [.int i,x])/\∀xs,SqL K H a xs->xs[i]?=some x,
  λi H=>∃xs,SqL K H a xs/\xs.length<=i⟩
theorem Bo{K:zag}{cx}{pos:Pos}{e it l:Addr}(hei:e≠it) :
  Turn P w K (.Tuple elts cx pos) (Ite K l) [e,it] e (λi h=>(∃old,IsEnum h e it ((i:Nat):Int) old)/\h.IsListIter it l i) where
 mem:=by simp
 obj:=λi h st b hb=>by
  obtain⟨⟨old,he⟩,⟨o1,g1,c1,d1⟩⟩:=st;simp only[List.mem_cons,List.not_mem_nil,or_false]at hb;rcases hb with rfl|rfl
  ·exact⟨_,he,λv e=>by cases e⟩
  ·exact⟨_,g1,λv e=>by rw[d1]at e;cases e⟩
 keep:=λi h h' st k=>by
  obtain⟨⟨old,he⟩,h1⟩:=st;exact⟨⟨old,k e (by simp) _ he⟩,h1.at λo x=>k it (by simp) o x⟩
 item:=by
  intro X hP hw hK hc i pins s σ H E I hf st hg;subst hP hw hK;obtain⟨⟨old,he⟩,h1⟩:=st;obtain⟨xs,x,q1,hx⟩:=hg;obtain⟨us,r1,p1,_⟩:=I.list q1;obtain⟨u,hu,ru⟩:=r1.get hx;have lt:∀b∈[e,it],b<s.heap.objs.size:=λb hb=>by
   obtain⟨o1,g1,_,_⟩:=id h1;simp only[List.mem_cons,List.not_mem_nil,or_false]at hb;rcases hb with rfl|rfl
   ·exact zaq he
   ·exact zaq g1
  refine wpAny_pyNext_enum_item he h1 p1.isList (x:=u) (by simpa using hu) hei λh' heo h1' hT hsz hk=>?_
  refine⟨_,rfl,wpAny_letOwnedTupleGo_enum (s:={s with heap:=h',toks:=s.toks+1}) heo λh3 he3 sb=>?_⟩
  have hfr:H s.heap.objs.size=none:=I.hok.fresh (zap _);have up:∀b o,b≠e->h'.get? b=some o->h3.get? b=some o:=λb o hb x=>(sb.2 b hb).trans x
  have IA:Inv X pins σ (upd H s.heap.objs.size (.tup [.int i,x])) {s with heap:=s.heap.push {cls:=.type "tuple",data:=.seq #[.int i s.toks,u]},toks:=s.toks+1} :=
   I.laid (λb o e=>zar _ e) (zap _) (cb.CU (its:=[.int i s.toks,u]) (by simp only[List.length_cons,List.length_nil,sizeLine];omega) (.cons ⟨_,rfl⟩ (.cons ru .nil)))
  have IB:Inv X pins σ (upd H s.heap.objs.size (.tup [.int i,x])) {s with heap:=h3,toks:=s.toks+1}:=by
   refine Inv.uC (s:={s with heap:=s.heap.push {cls:=.type "tuple",data:=.seq #[.int i s.toks,u]},toks:=s.toks+1}) (h':=h3) (t':=s.toks+1) (fp:=[e,it]) IA (λb o hb g=>?_) (λb hb=>?_)
   ·simp only[List.mem_cons,List.not_mem_nil,or_false,not_or]at hb
    obtain⟨b1,b2⟩:=hb;refine up b o b1 ?_
    by_cases eb:b=s.heap.objs.size
    ·subst eb
     have e':(s.heap.push {cls:=.type "tuple",data:=.seq #[.int i s.toks,u]}).get? s.heap.objs.size=some {cls:=.type "tuple",data:=.seq #[.int i s.toks,u]}:=zaL _ rfl;rw[e']at g;cases g;exact hT
    ·have e0:(s.heap.push {cls:=.type "tuple",data:=.seq #[.int i s.toks,u]}).get? b=s.heap.get? b:=Heap.get?_push_ne _ _ _ eb
     exact hk b o b1 b2 (e0▸g)
   ·obtain⟨f0,f1⟩:=hf b hb
    exact⟨by rw[ao (λe=>absurd (lt b hb) (by rw[e];exact za3 _))];exact f0,f1⟩
  have ec:((i+1:Nat):Int)=(i:Int)+1:=by push_cast;rfl
  refine⟨.ref s.heap.objs.size,_,IB,rfl,⟨_,x,rfl,hfr,rfl,λxs' h=>by rw[I.vL h q1];exact hx⟩,⟨⟨u,ec▸he3⟩,h1'.at λo x=>up it o (Ne.symm hei) x⟩,λb hb=>?_⟩
  rw[ao (λe=>absurd (lt b hb) (by rw[e];exact za3 _))]
  exact(hf b hb).1
 done:=by
  intro X hP hw hK hc i pins s σ H E I hf st hg;subst hP hw hK;obtain⟨⟨old,he⟩,h1⟩:=st;obtain⟨xs,q1,hl⟩:=hg;obtain⟨us,r1,p1,_⟩:=I.list q1;have l1:=r1.length;refine wpAny_pyNext_enum_end (I.ok.hd hc) he h1 p1.isList (by simp;omega) λh' hk=>⟨rfl,?_⟩
  refine Inv.uC (t':=s.toks) (fp:=[e,it]) I (λb o hb g=>?_) hf
  simp only[List.mem_cons,List.not_mem_nil,or_false,not_or]at hb;exact hk b o hb.2 g
 self:=λ_ _ _ _ _ st h=>by obtain⟨⟨old,he⟩,_⟩:=st;exact wpAny_pyIter_enum he h
def HQ(K:zag)(ta:TA):TI:=fun σ H R=>ta σ H λvs H1=>∃a xs,vs=[.ref a]/\SqL K H1 a xs/\R (Ite K a) H1
section
variable{X:Cx}
theorem Gg(hg:Gl X "enumerate")(hm:X.mg "enumerate"=none)(ha:PA X [a] ta)(hs:starEach [a] X.env=[(false,eval a X.env)]:=by rfl) :
  PI X (.Tuple elts cx tp) (.Call (.Name "enumerate" p) [a] [] pos) (HQ X.K ta):=by
 intro pins s σ H R I h;refine Call_ (ot I hg hm boot_enumerate (PyProof.Rows.callWith_type1 (thn (ha pos pins s σ H _ I h) λus s1 ⟨vs,H1,I1,r1,q1⟩=>?_) (by rw[hs];rfl) (by rfl)))
 obtain⟨l1,xs,e,g1,q⟩:=q1;subst e;cases r1 with
 |cons r rr=>
  cases rr;cases r;obtain⟨us,rv1,p1,_⟩:=I1.list g1;have k1:l1<s1.heap.objs.size:=by obtain⟨o,_,e,_⟩:=id p1;exact zaq e
  refine call_enumerate_list p1.isList λh' he h1 hsz hk=>?_
  refine wpAny_pyIter_enum he ?_;refine⟨s1.heap.objs.size+1,[s1.heap.objs.size+1,s1.heap.objs.size],_,_,H1,rfl,I1.kept (t':=s1.toks) hk,Bo (Nat.succ_ne_self _),⟨⟨_,he⟩,h1⟩,λb hb=>?_,q⟩
  have hb':s1.heap.objs.size<=b:=by
   simp only[List.mem_cons,List.not_mem_nil,or_false]at hb;rcases hb with rfl|rfl
   ·exact Nat.le_add_right _ _
   ·exact zap _
  exact I1.pE hb' (I1.hok.fresh hb')
end
def ItI(a:Addr)(o:Obj)(kvs:List (Key×V)):It where
 go:=λi H=>H a=some (.frz o (.dK kvs))/\i<kvs.length
 yld:=λi H x H'=>∃p k v,x=.ref p/\H p=none/\H'=upd H p (.tup [kV k,v])/\kvs[i]?=some (k,v)
 stop:=λi H=>H a=some (.frz o (.dK kvs))/\kvs.length<=i
theorem Gh(r:KV kvs vs)(i:Nat){k:Key}(h:vs[i]?=some (k,x)):∃v,kvs[i]?=some (k,v)/\RelV v x:=by
 induction r generalizing i with
 |nil=>simp at h
 |cons h1 t ih=>
  cases i with
  |zero=>
   rename_i p q l l'
   have e:q=(k,x):=by simpa using h
   subst e;exact⟨p.2,congrArg some (Prod.ext h1.1 rfl),h1.2⟩
  |succ i=>simpa using ih i (by simpa using h)
theorem qO:entryFor table "dict_itemiterator.__iter__"=some Builtin.«dict_keyiterator.__iter__»:=entryFor_alias (id':="dict_keyiterator.__iter__") (by kernel_rfl) rfl (by decide+kernel) (by kernel_rfl)
theorem yu{K:zag}{cx}{pos:Pos}{a it:Addr}{o:Obj}{kvs:List (Key×V)}{vs:List (Key×Value)}{ep:Nat}{h₁:Heap}(rel:KV kvs vs)(ho:h₁.get? a=some o)(hat:h₁.DictAt (bY P w) a vs ep) :
  Turn P w K (.Tuple elts cx pos) (ItI a o kvs) [it] it (λi h=>∃ok ov,IsItemIter h it a i vs.length ep ok ov) where
 mem:=by simp
 obj:=λi h st b hb=>by
  have e:b=it:=by simpa using hb
  subst e;obtain⟨ok,ov,st⟩:=st;exact⟨_,st,λv e=>by cases e⟩
 keep:=λi h h' st k=>by
  obtain⟨ok,ov,st⟩:=st;exact⟨ok,ov,k it (by simp) _ st⟩
 item:=by
  intro X hP hw hK hc i pins s σ H E I hf st hg;subst hP hw hK;obtain⟨ok,ov,st⟩:=st;obtain⟨hH,hi⟩:=hg;obtain⟨hg,_⟩:=I.hok a _ hH;have hd:s.heap.DictAt (bY X.prog X.w) a vs ep:=hat.at' λo' e=>by rw[ho]at e;cases e;exact hg
  have hl:=rel.length;obtain⟨⟨k,x⟩,hx⟩:∃p,vs[i]?=some p:=⟨vs[i]'(by omega),by simp⟩
  obtain⟨v,hv,rv⟩:=Gh rel i hx;have lt:it<s.heap.objs.size:=zaq st;refine wpAny_pyNext_items_item st hd hx λkey h' hkey heo hT hsz hk=>?_
  refine⟨_,rfl,wpAny_letOwnedTupleGo_items (s:={s with heap:=h'}) heo λh3 he3 sb=>?_⟩
  have hfr:H s.heap.objs.size=none:=I.hok.fresh (zap _);have up:∀b o,b≠it->h'.get? b=some o->h3.get? b=some o:=λb o hb x=>(sb.2 b hb).trans x
  have IA:Inv X pins σ (upd H s.heap.objs.size (.tup [kV k,v])) {s with heap:=s.heap.push {cls:=.type "tuple",data:=.seq #[key,x]},toks:=s.toks} :=
   I.laid (λb o e=>zar _ e) (zap _) (cb.CU (its:=[key,x]) (by simp only[List.length_cons,List.length_nil,sizeLine];omega) (.cons (DU hkey) (.cons rv .nil)))
  have IB:Inv X pins σ (upd H s.heap.objs.size (.tup [kV k,v])) {s with heap:=h3,toks:=s.toks}:=by
   refine Inv.uC (s:={s with heap:=s.heap.push {cls:=.type "tuple",data:=.seq #[key,x]},toks:=s.toks}) (h':=h3) (t':=s.toks) (fp:=[it]) IA (λb o hb g=>?_) (λb hb=>?_)
   ·have b1:b≠it:=by simpa using hb
    refine up b o b1 ?_
    by_cases eb:b=s.heap.objs.size
    ·subst eb
     have e':(s.heap.push {cls:=.type "tuple",data:=.seq #[key,x]}).get? s.heap.objs.size=some {cls:=.type "tuple",data:=.seq #[key,x]}:=zaL _ rfl;rw[e']at g;cases g;exact hT
    ·have e0:(s.heap.push {cls:=.type "tuple",data:=.seq #[key,x]}).get? b=s.heap.get? b:=Heap.get?_push_ne _ _ _ eb
     exact hk b o b1 (e0▸g)
   ·have eb:b=it:=by simpa using hb
    subst eb;obtain⟨f0,f1⟩:=hf b hb;exact⟨by rw[ao (zaS lt)];exact f0,f1⟩
  refine⟨.ref s.heap.objs.size,_,IB,rfl,⟨_,k,v,rfl,hfr,rfl,hv⟩,⟨_,_,he3⟩,λb hb=>?_⟩
  have eb:b=it:=by simpa using hb
  subst eb;rw[ao (zaS lt)];exact(hf b hb).1
 done:=by
  intro X hP hw hK hc i pins s σ H E I hf st hg;subst hP hw hK;obtain⟨ok,ov,st⟩:=st;obtain⟨hH,hi⟩:=hg;obtain⟨hg,_⟩:=I.hok a _ hH;have hd:s.heap.DictAt (bY X.prog X.w) a vs ep:=hat.at' λo' e=>by rw[ho]at e;cases e;exact hg
  obtain⟨f0,f1,f2,f3,f4,f5⟩:=hf it (by simp)
  have hl:=rel.length;exact wpAny_pyNext_items_end (I.ok.hd hc) st hd (by simp;omega) λh' eb=>⟨rfl,I.turned (t':=s.toks) (λb o hb e=>eb b o hb e) f0 f1 f3 f4 f5⟩
 self:=λA i s Q E st q=>by
  obtain⟨ok,ov,st⟩:=st;refine wpAny_pyIter_slot (id:="dict_itemiterator.__iter__") ⟨_,st,rfl⟩ F.slot_dict_itemiterator_iter (wpAny_call_entry F.slot_dict_itemiterator_iter ⟨_,st,rfl⟩ qO ?_ (F.args_dict_itemiterator_iter_1 _));show wpAny _ _ (ret (.ref it)) _ _ s;exact zaZ ⟨_,rfl,"dict_itemiterator",_,⟨_,st,rfl⟩,F.slot_dict_itemiterator_next.lookup,q⟩
def JQ(tl:TE):TI:=fun σ H R=>tl σ H λx H1=>∃a o kvs,x=.ref a/\H1 a=some (.frz o (.dK kvs))/\R (ItI a o kvs) H1
section
variable{X:Cx}
theorem wK{elts:List Expr}{cx}{tp:Pos}{tl:TE}{apos cpos:Pos}(hl:PE X l tl)(hbase:attributeBase l "items" X.env (eval l X.env)=eval l X.env:=by rfl)(hline:(apos.endLine==cpos.line)=true:=by rfl) :
  PI X (.Tuple elts cx tp) (.Call (.Attribute l "items" apos) [] [] cpos) (JQ tl):=by
 intro pins s σ H R I h;refine wpAny_Call_method0_late hbase hline (thn (hl pins s σ H _ I h) λv s1 ⟨x,H1,I1,r1,q1⟩=>?_)
 obtain⟨a,o,kvs,e,hH,q⟩:=q1;subst e;cases r1;obtain⟨ho,z,hd,vs,rel,dd⟩:=I1.hok a _ hH;obtain⟨ob,_,_,g1,g2,_⟩:=id dd;obtain⟨ep,hat⟩:=dd.dictAt;refine⟨"dict","dict.items",PySem.F.plainAttrs_dict,PySem.F.slot_dict_items,PySem.F.type_dict_items,dd.typeIs,λb eb=>by cases eb;exact⟨ob,g1,g2.2.1⟩,Calls.callWith_builtin rfl (PySem.evalArgs_none ?_)⟩
 refine call_meetsIn PySem.F.slot_dict_items dd.typeIs PySem.F.entry_dict_items (PySem.F.args_dict_items_1 _) (meets_dict_items (bY X.prog X.w) a hd) ⟨⟨vs,dd⟩,?_⟩;have Lv:(s1.heap.push {cls:=.type "dict_items",data:=.fields #[.ref a]}).IsItemsView s1.heap.objs.size a:=⟨_,zaL _ rfl,rfl,rfl⟩;have I2:Inv X pins σ H1 {s1 with heap:=s1.heap.push {cls:=.type "dict_items",data:=.fields #[.ref a]}}:=I1.kept (t':=s1.toks) λb o e=>zar _ e
 refine wpAny_pyIter_items (s:={s1 with heap:=s1.heap.push {cls:=.type "dict_items",data:=.fields #[.ref a]}}) Lv (hat.push _) ?_
 refine⟨_,[_],_,_,H1,rfl,I2.kept (t':=s1.toks) λb o e=>zar _ e,yu rel ho hat,⟨_,_,zaL _ rfl⟩,λb hb=>?_,q⟩
 have e:b=(s1.heap.push {cls:=.type "dict_items",data:=.fields #[.ref a]}).objs.size:=by simpa using hb
 subst e;exact I2.pE (zap _) (I2.hok.fresh (zap _))
end
end L2
namespace Mir
open PySem L2
variable [Zc]
def k8(es:List (D×D)):List D:=es.map λp=>PyData.tuple [p.1,p.2]
theorem DZ:∀{kvs:List (Key×V)} {es:List (D×D)} (_:aZ B kvs es) (i:Nat) {k:Key} {v:V} {p:D×D},kvs[i]?=some (k,v)->es[i]?=some p->pJ k p.1/\Rep B v p.2
 |_,_,.nil,i,k,v,p,h,_=>by simp at h
 |_,_,.cons hk hx r,0,k,v,p,h1,h2=>by
  simp only[List.getElem?_cons_zero,Option.some.injEq]at h1 h2;subst h2;cases h1;exact⟨hk,hx⟩
 |_,_,.cons hk hx r,i+1,k,v,p,h1,h2=>DZ r i (by simpa using h1) (by simpa using h2)
theorem pJ.rep(h:pJ k c):Rep B (kV k) c:=by
 cases k with
 |inl i=>obtain rfl:=(show c=.int i from h);exact .int i
 |inr x=>obtain rfl:=(show c=.str x from h);exact .str x
theorem D1(h:G a=some (.frz o (.dK kvs)))(r:aZ B kvs es):ml G B (ItI a o kvs) (k8 es):=λH s=>by
 have h':=s _ _ h;have hl:=r.length;have hp:(k8 es).length=es.length:=by unfold k8;rw[zal]
 refine⟨⟨h',by omega⟩,λi d hd=>?_⟩
 have hi:i<es.length:=by have:=(zac hd).1;omega
 refine⟨⟨h',by omega⟩,λx H' hy=>?_⟩
 obtain⟨p,k,v,rfl,hn,rfl,hk⟩:=hy;have e:(k8 es)[i]?=(es[i]?).map λp=>PyData.tuple [p.1,p.2]:=by unfold k8;rw[zao]
 rw[e]at hd;obtain⟨q,h1,rfl⟩:=zab hd;obtain⟨g1,g2⟩:=DZ r i hk h1;exact .inr ⟨p,[kV k,v],[q.1,q.2],rfl,rfl,hn,rfl,.cons g1.rep (.cons g2 .nil)⟩
def z6(dv:PM)(g:D->Rho->Option Rho)(b:SM):SM:=fun ρ=>(dv ρ).bind λx=>(o9 x.1).bind λes=>if iQ ρ=true then(forL g b (k8 es) x.2).bind λo=>if iQ (Bl o)=true then some o else none else none
theorem Gi(hc:Calm tl dv)(hg:MG tg g)(hb:MS tb b):MS (uS (vP (JQ tl) tg tb)) (z6 dv g b):=by
 intro F B H σ ρ o D R e q;obtain⟨x,e1,e⟩:=zaa e;obtain⟨es,e2,e⟩:=zaa e;split at e
 rotate_left
 ·cases e
 rename_i nr
 obtain⟨o',e3,e⟩:=zaa e;split at e
 rotate_left
 ·cases e
 rename_i nr2
 cases e;obtain⟨r,ρ1⟩:=x;obtain⟨rfl,v,rv,h1,h2⟩:=hc F B H σ ρ r ρ1 R e1;obtain rfl:=nH e2;cases rv with
 | @dct a kvs _ hd rk=>
  rcases hd with hd|⟨ob,hd⟩
  ·refine .inl ⟨a,kvs,R.sub a _ hd,λob=>?_⟩
   have R':=R.hide (o:=ob) hd nr;refine h2 a ob kvs hd _ ⟨a,ob,kvs,rfl,ar,?_⟩;exact uQ hg hb R'.down (D1 ar (aZ.map' (mv hd) (mw hd) (my hd) rk)) e3 (nI R hd nr2 q)
  ·exact .inr (h1 _ ⟨a,ob,kvs,rfl,R.sub a _ hd,uQ hg hb R (D1 hd rk) e3 q⟩)
end Mir
set_option maxHeartbeats 1000000
namespace L2
open PySem PySem.Spec PyProof.Rows
def aX(a:Int)(x:Str)(c:Int)(y:Str):Bool:=if a=c then(if x=y then false else decide (x.cps.toList<y.cps.toList))else decide (a<c)
section
open PySem.SeqAt
open PySem.AutoSeq1 (wpAny_loadPart')
open PySem.MeetsSeq PySem.MeetsSeq2 PySem.MeetsSeq3
theorem wL(l b:Addr)(n n2:Nat)(dd dd2:Option Addr)(sl sl2:Array (Option Value))(a c:Int)(x y:Str)(t t2 u u2:Tok) :
  Meets (Builtin.«tuple.__lt__» ⟨[.ref l,.ref b],[]⟩)
   (λ_ R s=>s.heap.get? l=some {cls:=.type "tuple",dict:=dd,data:=.seq #[.int a t,.str x u] n,slots:=sl}/\s.heap.get? b=some {cls:=.type "tuple",dict:=dd2,data:=.seq #[.int c t2,.str y u2] n2,slots:=sl2}/\
    R (.ok (.ret (.bool (aX a x c y)))) s) :=
 .of_wp λprog w A R s h=>by
  obtain⟨hp,g,d,tk,os⟩:=s;obtain⟨hl,hb,h⟩:=h;have f2:=AutoSeq1.sub_tuple_tuple
  wp_walk using wpAny_loadPart' hl,wpAny_loadPart' hb,wpAny_forIn_list _ (λrest b s'=>b.1=none/\s'=⟨hp,g,d,tk,os⟩/\
   ((rest=[(.int a t,.int c t2),(.str x u,.str y u2)])\/(rest=[(.str x u,.str y u2)]/\a=c)\/(rest=[]/\a=c/\x=y))) _
  case turn=>
   rintro⟨p,q⟩ rest b s' ⟨hb',rfl,hz⟩
   rcases hz with hz|⟨hz,e0⟩|⟨hz,_,_⟩
   ·cases hz
    refine zaI ((EqAt.int_int a t c t2) prog w _ _ ?_);cases hac:(a==c)with
    |true=>
     have e:a=c:=by simpa using hac
     wp_walk
     exact⟨rfl,rfl,.inr (.inl ⟨rfl,e⟩)⟩
    |false=>
     have e:a≠c:=by simpa using hac
     have hri:=HT.CC A.in1 ⟨hp,g,d,tk,os⟩ a t c t2 prog w;have hR:R (.ok (.ret (.bool (decide (a<c))))) ⟨hp,g,d,tk,os⟩:=by
      unfold aX at h
      rwa[if_neg e]at h
     wp_walk using hri
     exact⟨_,rfl,by simpa using hR⟩
   ·cases hz
    refine zaI ((EqAt.str_str x u y u2) prog w _ _ ?_);cases hxy:(x==y)with
    |true=>
     have e:x=y:=by simpa using hxy
     wp_walk
     exact⟨rfl,rfl,.inr (.inr ⟨rfl,e0,e⟩)⟩
    |false=>
     have e:x≠y:=by simpa using hxy
     have hri:∀(E:Value->Shared->Prop) (Q:Value->Shared->Prop),Q (.bool (decide (x.cps.toList<y.cps.toList))) ⟨hp,g,d,tk,os⟩->wpAny (model prog w) A.in1 (richCompare .Lt (.str x u) (.str y u2)) Q E ⟨hp,g,d,tk,os⟩:=λE Q hq=>(PyProof.Rows.lt_str hq:wpAny (model prog w) A.in1 (compareOp .Lt (.str x u) (.str y u2)) Q E ⟨hp,g,d,tk,os⟩)
     have hR:R (.ok (.ret (.bool (decide (x.cps.toList<y.cps.toList))))) ⟨hp,g,d,tk,os⟩:=by
      unfold aX at h
      rwa[if_pos e0,if_neg e]at h
     wp_walk using hri
     exact⟨_,rfl,by simpa using hR⟩
   ·cases hz
  case fin=>
   rintro⟨b1,b2⟩ s' ⟨hb',rfl,hz⟩
   simp only at hb';subst hb';rcases hz with hz|⟨hz,_⟩|⟨_,e1,e2⟩
   ·cases hz
   ·cases hz
   ·have hR:R (.ok (.ret (.bool false))) ⟨hp,g,d,tk,os⟩:=by
     unfold aX at h
     rwa[if_pos e1,if_pos e2]at h
    wp_walk
    exact⟨_,rfl,by simpa[Builtin.Tuple.tupleCompareSizes]using hR⟩
  case h=>exact⟨rfl,rfl,.inl rfl⟩
end
section
variable{prog:Program}{w:World}{A:Around}{E:Value->Shared->Prop}{s:Shared}
theorem wM(hl:IsTup s.heap l #[.int a t,.str x u])(hb:IsTup s.heap b #[.int c t2,.str y u2])(hu:A.units<cLine)(h:Q (.bool (aX a x c y)) s) :
  wpAny (model prog w) A (compareOp .Lt (.ref l) (.ref b)) Q E s:=by
 obtain⟨⟨cls,dd,data,sl⟩,ho,hc,n,hd⟩:=id hl;obtain⟨⟨cls2,dd2,data2,sl2⟩,ho2,hc2,n2,hd2⟩:=id hb;simp only at hc hd hc2 hd2;subst hc hd hc2 hd2;exact richCompare_meets_room (op:=.Lt) ⟨_,ho,rfl⟩ ⟨_,ho2,rfl⟩ PySem.F.slot_tuple_lt PySem.F.entry_tuple_lt (PySem.F.args_tuple_lt_2 _ _) (wL l b n n2 dd dd2 sl sl2 a c x y t t2 u u2)
  ⟨ho,ho2,show Value.bool (aX a x c y)≠Value.notImplemented/\Q (.bool (aX a x c y)) s from⟨(λx=>nomatch x),h⟩⟩ hu
end
section
variable{X:Cx}{K:zag}
def D2(K:zag):R2:=λx y H Q=>∃a b i z j v,x=.ref a/\y=.ref b/\SqT K H a [.int i,.str z]/\SqT K H b [.int j,.str v]/\Q (.bl (aX i z j v)) H
theorem JR(h:X.K=K)(hu:X.A.units<cLine):OpR X (compareOp .Lt) (D2 K):=by
 subst h;intro pins s σ H x y v u Q I rx ry h;obtain⟨a,b,i,z,j,w,rfl,rfl,ha,hb,q⟩:=h;cases rx;cases ry;obtain⟨its,r1,p1,_⟩:=I.tuple ha;obtain⟨its2,r2,p2,_⟩:=I.tuple hb;cases r1 with
 |cons e1 r1=>
  cases r1 with
  |cons e2 r1=>
   cases r1;cases r2 with
   |cons f1 r2=>
    cases r2 with
    |cons f2 r2=>
     cases r2;obtain⟨t1,rfl⟩:=e1;obtain⟨t2,rfl⟩:=e2;obtain⟨t3,rfl⟩:=f1;obtain⟨t4,rfl⟩:=f2;exact wM p1 p2 hu ⟨.bl _,H,I,rfl,q⟩
end
end L2
namespace Mir
open PySem L2
variable [Zc]
def JS:D->D->Option (D×Bool)
 | .tuple [.int i,.str z],.tuple [.int j,.str w]=>some (.bool (aX i z j w),false)
 |_,_=>none
theorem Lw:OpJ (D2 K) JS:=by
 intro B H x y c d res s hx hy e;unfold JS at e;split at e
 ·cases e
  obtain⟨p,xs,rfl,h1,r1⟩:=hx.tuple s;obtain⟨q,ys,rfl,h2,r2⟩:=hy.tuple s;cases r1 with
  |cons a1 r1=>
   cases r1 with
   |cons a2 r1=>
    cases r1;cases r2 with
    |cons b1 r2=>
     cases r2 with
     |cons b2 r2=>
      cases r2;cases a1;cases a2;cases b1;cases b2
      exact⟨.bl _,.bl _,λQ q'=>⟨p,q,_,_,_,_,rfl,rfl,.inl (.inl h1),.inl (.inl h2),q'⟩⟩
 ·cases e
end Mir
set_option maxHeartbeats 1000000
namespace L2
open PySem PySem.Spec PyProof.Rows
section
open PySem.SeqAt
open PySem.AutoSeq1 (wpAny_loadPart')
open PySem.MeetsSeq PySem.MeetsSeq2 PySem.MeetsSeq3
end
end L2
namespace Mir
open PySem L2
variable [Zc]
end Mir
namespace L2
open PySem PySem.Spec PyProof.Rows
section
variable{X:Cx}
def z7:V->List V->Hp->VK->Prop:=λx xs H Q=>∃a kvs,x=.ref a/\xs=[]/\H a=some (.dK kvs)/\Q .non (upd H a (.dK []))
theorem sZ:MtR X "dict.clear" z7:=by
 intro pins s σ H x xs v us Q I rx rv h;obtain⟨a,kvs,rfl,rfl,e,h1⟩:=h;cases rx;cases rv;obtain⟨z,hd,vs,rel,dd⟩:=DM I.hok e;refine call_meetsIn PySem.F.slot_dict_clear dd.typeIs PySem.F.entry_dict_clear (PySem.F.args_dict_clear_1 _) (meets_dict_clear (bY X.prog X.w) a) ⟨vs,dd,by rw[<-rel.length];exact z,λh' dd' hs=>?_⟩
 have he:∃q,h'.get? a=some q:=let⟨q,_,_,hq,_⟩:=dd';⟨q,hq⟩
 exact⟨.non,_,uK I (by rw[e];exact True.intro) hs he (yq (Nat.zero_le _) hd .nil dd'),rfl,h1⟩
end
end L2
namespace Mir
open PySem L2
section
variable [Zc] [Zl]{W:WX}
def D3(f:List D->List D->Option (List D×D))(a:EN):EN:=bN a λx s=>match x with
 | .lc k=>if qH s.S k=true then JM f k [] s else none
 |_=>none
theorem JT(J:wb r f)(ha:NE W te a):NE W (CH K "list" r te) (D3 f a):=by
 intro G A B H σ s r0 Q R e q;refine eU (t:=te) ha R e q λx v A1 B1 H1 s1 g1 eB1 R1 V1 e1 q1=>?_
 split at e1
 ·rename_i k
  split at e1
  ·rename_i hl
   cases V1 with
   |lc hA=>exact⟨wB R1 hA hl,FY J G A1 B1 H1 σ s1 _ k [] [] r0 Q R1 hA .nil e1 q1⟩
  ·cases e1
 ·cases e1
def tf(a:EN):EN:=bN a λx s=>match x with
 | .lc k=>match s.S[k]? with
  |some (some (.dat (.dict _)))=>some (.ok (.pl .none) ⟨s.S.set k (some (.dat (.dict []))),s.t⟩)
  |_=>none
 |_=>none
theorem z8(ha:NE W te a):NE W (CH K "dict" z7 te) (tf a):=by
 intro G A B H σ s r0 Q R e q;refine eU (t:=te) ha R e q λx v A1 B1 H1 s1 g1 eB1 R1 V1 e1 q1=>?_
 split at e1
 ·rename_i k
  split at e1
  ·rename_i es hk
   cases e1;cases V1 with
   |lc hA=>
    cases R1.st.cell k _ _ hk hA with
    |dat ow=>
     obtain⟨kvs,hp,rk⟩:=ow.dict;refine⟨.inr (.inr (.inl ⟨rfl,.inl ⟨kvs,hp⟩⟩)),_,kvs,rfl,rfl,hp,?_⟩;exact q1 .non A1 B1 _ (Gro.refl _) (aD.refl _) (R1.write (o:=.dK []) (c:=.dat (.dict [])) hA trivial (.dat (.dct ar .nil))) (.pl .non)
  ·cases e1
 ·cases e1
theorem uW{k : α->SN}{G:FrN}{A:List Addr}{B H:Hp}{σ:St}{s:SS}{o:kJ}{D:Ends}{C : β->Hp->Prop}(h:NM W Rl t m)(R:a7 G A B H σ s)(e:bS m k s=some o)(q:NOk G W D o)
  (c:∀x v A' B' H' s',Gro A A'->aD B B'->a7 G A' B' H' σ s'->Rl A' B' x v->k v s'=some o->C x H'):t σ H C:=by
 unfold bS at e;split at e
 ·rename_i v s' h1
  exact h G A B H σ s _ C R h1 λx A' B' H' g eB R' V=>c x v A' B' H' s' g eB R' V e
 ·rename_i y s' h1
  cases e;exact h G A B H σ s _ C R h1 λA' B' H' R'=>q A' B' H' σ R'
 ·cases e
def JU(x y k:SV)(s:SS):Option kJ:=match x,y,k with
 | .lc j,.pl yd,.pl kd=>(keyOf kd).bind λkey=>match s.S[j]? with
  |some (some (.dat (.dict es)))=>cIf (es.length<100000) (some (.nx ⟨s.S.set j (some (.dat (.dict (putD es kd yd key)))),s.t⟩)) none
  |_=>none
 |_,_,_=>none
def tj(d k v:EN):SN:=bS v λy=>bS d λx=>bS k λz=>JU x y z
theorem z9(hd:NE W td d)(hk:NE W ty k)(hv:NE W tv v):NS W (zT td ty tv) (tj d k v):=by
 intro G A B H σ s o D R e q;refine uW (t:=tv) hv R e q λy yv A1 B1 H1 s1 g1 eB1 R1 V1 e1=>?_
 refine uW (t:=td) hd R1 e1 q λx xv A2 B2 H2 s2 g2 eB2 R2 V2 e2=>?_
 refine uW (t:=ty) hk R2 e2 q λz zv A3 B3 H3 s3 g3 eB3 R3 V3 e3=>?_
 unfold JU at e3;split at e3
 ·rename_i j yd kd
  obtain⟨key,e4,e5⟩:=zaa e3;split at e5
  ·rename_i es hj
   obtain⟨hz,e6⟩:=cW e5;cases e6;have V2':=V2.mono g3 eB3;cases V1 with
   |pl ry=>
    cases V3 with
    |pl rz=>
     cases V2' with
     |lc hA=>
      cases R3.st.cell j _ _ hj hA with
      |dat ow=>
       obtain⟨kvs,hp,rk⟩:=ow.dict;obtain rfl:z=kV key:=View.key (H:=H3) (.inl rz) e4;have R4:=R3.write (o:=.dK (putK kvs key y)) (c:=.dat (.dict (putD es kd yd key))) hA trivial (.dat (.dct ar (aZ.put (uM e4) (ry.mono (eB2.trans eB3)) rk)));exact⟨_,_,rfl,.inl ⟨kvs,key,hp,rfl,by rw[rk.length,sizeLine_eq];omega,rfl⟩,q A3 B3 _ σ R4⟩
  ·cases e5
 ·cases e3
def jl(f:List D->Option (D×D))(m:MN (List SV)):EN:=bN m λxs s=>(rP s.S xs).bind λds=>(f ds).bind λc=>if(dW c.1 true&&dW c.2 true)=true then some (.ok (.tp [.lc s.S.length,.lc (s.S.length+1)]) ⟨s.S++[some (.dat c.1)]++[some (.dat c.2)],s.t⟩)else none
theorem a7.opened{B H B' H':Hp}{s:SS}(R:a7 G A B H σ s)(eH:aD H H')(nz:∀q o u,H' q=some (.frz o u)->H q≠none):a7 G A (tbu B H') H' σ s:=by
 have uG:aD B H':=R.sub.trans eH;refine R.grow nu eH (λq u h=>?_) (λq h z=>?_) (λq xs h=>ny uG h) λq u w h=>?_
 ·rcases oG h with h|⟨_,xs,rfl,h'⟩
  ·exact uG q u h
  ·exact h'
 ·cases h2:tbu B H' q with
  |none=>rfl
  |some u=>
   rcases oG h2 with h3|⟨_,xs,rfl,h3⟩
   ·rw[z]at h3;cases h3
   ·cases h4:H q with
    |none=>exact absurd h4 h
    |some u4=>
     have:=eH q u4 h4;rw[h3]at this;cases this;rw[R.cO q xs h4]at z;cases z
 ·have hq:=nz q u w h
  cases h2:H q with
  |none=>exact absurd h2 hq
  |some o2=>
   have:=eH q o2 h2;rw[h]at this;cases this;exact R.nz q u w h2
theorem wN(h:B p=none)(n:∀xs,H p≠some (.tup xs)):tbu B H p=none:=by
 cases h2:tbu B H p with
 |none=>rfl
 |some o'=>
  rcases oG h2 with h3|⟨_,xs,rfl,h3⟩
  ·rw[h]at h3;cases h3
  ·exact absurd h3 (n xs)
theorem k9(h:NA W t m):NE W (mQ (spD f) [] E t) (jl f m):=by
 intro G A B H σ s r0 Q R e q;refine eU (t:=t) h R e q λvs xs A1 B1 H1 s1 g1 eB1 R1 V1 e1 q1=>?_
 rw[zaR];obtain⟨ds,h1,e1⟩:=zaa e1;obtain⟨c,h2,e1⟩:=zaa e1;split at e1
 case isFalse=>cases e1
 rename_i hp
 rw[Bool.and_eq_true]at hp;cases e1;refine⟨H1,ds,c,aD.refl _,λ_ _ z=>z,qD R1.st R1.sub V1 h1,h2,λv B' H' P=>?_⟩
 obtain⟨a,p,r,rfl,ha,hpr,hp0,hr0,hBp,hBr,op,or⟩:=P.val;have R2:=R1.opened (B':=B') P.eH P.nz;have uG:aD B1 H':=R1.sub.trans P.eH;have kt:∀q xs,B' q=some (.tup xs)->tbu B1 H' q=some (.tup xs):=λq xs h=>ny uG (P.sub _ _ h)
 have op':=op.de kt hp.1;have or':=or.de kt hp.2;obtain⟨o1,ho1,mo1⟩:=op'.mx;obtain⟨o2,ho2,mo2⟩:=or'.mx;obtain⟨gp1,gp2,gp3⟩:=R1.rO hp0;obtain⟨gr1,gr2,gr3⟩:=R1.rO hr0;have R3:=R2.take (c:=.dat c.1) gp1 gp2 (wN gp3 (op.ql)) ho1 mo1 (.dat op');have R4:=R3.take (c:=.dat c.2) gr1 (λz=>by
  rcases zae z with z|z
  ·exact gr2 z
  ·exact hpr (zad z).symm) (wN gr3 (or.ql)) ho2 mo2 (.dat or')
 refine q1 _ _ _ H' ((Gro.app _ _).trans (Gro.app _ _)) nu R4 (.tp (ny uG ha) (.cons (.lc ?_) (.cons (.lc ?_) .nil)))
 ·rw[<-R1.st.len]
  exact Gro.app _ _ _ _ List.getElem?_concat_length
 ·rw[<-R1.st.len]
  have:(A1++[p]).length=A1.length+1:=by simp
  rw[<-this];exact List.getElem?_concat_length
end
end Mir
namespace L2
open PySem PySem.Spec PyProof.Rows
end L2
namespace Mir
open PySem L2
section
variable [Zc] [Zl]{W:WX}
def HR(es:List (D×D))(k:Key):List (D×D):=es.filter λp=>decide (keyOf p.1≠some k)
theorem aZ.drop:∀{kvs:List (Key×V)} {es:List (D×D)},aZ B kvs es->aZ B (zS kvs k) (HR es k)
 |_,_,.nil=>.nil
 |_,_,.cons (k:=k') (c:=c') hk hv r=>by
  have ih:=aZ.drop (k:=k) r;unfold zS HR at ih⊢;rw[List.filter_cons,List.filter_cons];have e:(decide (keyOf c'≠some k))=decide (k'≠k):=by
   rw[hk.of];simp
  dsimp only;rw[e];split
  ·exact .cons hk hv ih
  ·exact ih
end
variable [Zc]
end Mir
namespace L2
open PySem PySem.W PySem.Calls PySem.Spec PyProof.Rows
open PySem.AutoSeq1 (wpAny_loadPart')
theorem tuple_addW0(l b:Addr)(items items2:Array Value)(n n2:Nat)(dd dd2:Option Addr)(sl sl2:Array (Option Value))(hc0:items.isEmpty=true) :
  Meets (Builtin.«tuple.__add__» ⟨[.ref l,.ref b],[]⟩) (λ_ R s=>s.heap.get? l=some {cls:=.type "tuple",dict:=dd,data:=.seq items n,slots:=sl}/\s.heap.get? b=some {cls:=.type "tuple",dict:=dd2,data:=.seq items2 n2,slots:=sl2}/\R (.ok (.ret (Value.ref b))) s) :=
 .of_wp λprog w A R s h=>by
  obtain⟨hp,g,d,tk,os⟩:=s;obtain⟨hl,hb,h⟩:=h
  have f2:=PySem.AutoSeq1.sub_tuple_tuple
  wp_walk using wpAny_loadPart' hl,wpAny_loadPart' hb
  exact⟨_,rfl,h⟩
section
variable{prog:Program}{w:World}{A:Around}{E:Value->Shared->Prop}{s:Shared}
theorem D4{ws:List Value}(ht:IsTup s.heap t ([]:List Value).toArray)(hb:IsTup s.heap b ws.toArray)(h1:Q (.ref b) s):wpAny (model prog w) A (binaryOp .Add (.ref t) (.ref b)) Q E s:=by
 obtain⟨⟨cls,dd,data,sl⟩,ho,hc,n,hd⟩:=id ht;obtain⟨⟨cls2,dd2,data2,sl2⟩,ho2,hc2,n2,hd2⟩:=id hb;simp only at hc hd hc2 hd2;subst hc hd hc2 hd2;exact concat_meets ⟨_,ho,rfl⟩ ⟨_,ho2,rfl⟩ noFill_tuple_add seq_tuple_add PySem.F.slot_tuple_add PySem.F.entry_tuple_add (PySem.F.args_tuple_add_2 _ _)
   (tuple_addW0 t b _ ws.toArray n n2 dd dd2 sl sl2 rfl) ⟨ho,ho2,h1⟩
end
def HS(K:zag):R2:=λx y H Q=>∃a b ys,x=.ref a/\y=.ref b/\SqT K H a []/\SqT K H b ys/\Q (.ref b) H
section
variable{X:Cx}
theorem Gj:OpR X (binaryOp .Add) (HS X.K):=by
 intro pins s σ H x y v u Q I rx ry h;obtain⟨a,b,ys,rfl,rfl,ha,hb,q⟩:=h;cases rx;cases ry;obtain⟨its,r1,p1,_⟩:=I.tuple ha;obtain⟨its2,r2,p2,_⟩:=I.tuple hb;cases r1;exact D4 p1 p2 ⟨.ref b,H,I,rfl,q⟩
def D6(K:zag):R2:=λx y H Q=>Mir.uu K x y H Q\/HS K x y H Q
theorem D8{K:zag}(h:X.K=K):OpR X (binaryOp .Add) (D6 K):=h▸Mir.zz.or Gj
end
end L2
namespace Mir
open PySem L2
variable [Zc]
def tm:D->D->Option (D×Bool)
 | .tuple [],.tuple b=>some (.tuple b,false)
 |x,y=>et x y
theorem JV:OpJ (D6 K) tm:=by
 intro B H x y c d res s hx hy e;unfold tm at e;split at e
 ·rename_i b
  cases e;obtain⟨p,xs,rfl,r1,rp1⟩:=hx.tuple s;cases rp1;have hy':Rep B y (.tuple b):=by
   rcases hy with h|⟨p,rfl,h⟩
   ·exact h
   ·cases h
  refine⟨y,hy',λQ q=>.inr ?_⟩
  cases hy' with
  |tup h r=>
   exact⟨_,_,_,rfl,rfl,.inl (.inl r1),.inl (.inl (s _ _ h)),q⟩
 ·have:=gA (K:=K) B H x y c d res s hx hy e
  obtain⟨r0,o⟩:=res;cases o with
  |false=>obtain⟨v,h1,h2⟩:=this;exact⟨v,h1,λQ q=>.inl (h2 Q q)⟩
  |true=>
   cases r0 with
   |list ds=>obtain⟨v,h1,h2⟩:=this;exact⟨v,h1,λQ q=>.inl (h2 Q q)⟩
   |tuple ds=>obtain⟨v,h1,h2⟩:=this;exact⟨v,h1,λQ q=>.inl (h2 Q q)⟩
   |dict ds=>obtain⟨v,h1,h2⟩:=this;exact⟨v,h1,λQ q=>.inl (h2 Q q)⟩
   |_=>exact this
theorem Bp(a b:List D)(h:a.length+b.length<=100000)(hb:b≠[]):∃o,tm (.tuple a) (.tuple b)=some (.tuple (a++b),o):=by
 cases a with
 |nil=>exact⟨false,rfl⟩
 |cons c a=>exact⟨true,by show cIf _ _ _=_;rw[bR ⟨sT h,hb⟩]⟩
end Mir
namespace Mir
open PySem L2
section
variable [Zc]
def Ag(N:List Nat)(σ σ':St):Prop:=σ'.length=σ.length/\∀n,n∉N->σ'[n]?=σ[n]?
theorem Ag.refl(N:List Nat)(σ:St):Ag N σ σ:=⟨rfl,λ_ _=>rfl⟩
theorem Ag.trans(a:Ag N σ σ1)(b:Ag N σ1 σ2):Ag N σ σ2:=⟨b.1.trans a.1,λn h=>(b.2 n h).trans (a.2 n h)⟩
theorem Ag.set(h:i∈N)(v:Option V):Ag N σ (σ.set i v):=⟨zaM,λn hn=>zaA (λe:i=n=>hn (by rw[<-e];exact h))⟩
def oN(N:List Nat)(σ0:St)(F:Fr)(D:Ends):Out->Prop
 | .nx ρ=>∀B H σ,Rel F B H σ ρ->Ag N σ0 σ->D.nx σ H
 | .rt r ρ=>∀v B H σ,Rel F B H σ ρ->Val F B H σ ρ v r->D.rt v H
 | .bk ρ=>∀B H σ,Rel F B H σ ρ->Ag N σ0 σ->D.bk σ H
 | .ct ρ=>∀B H σ,Rel F B H σ ρ->Ag N σ0 σ->D.ct σ H
theorem oN.step{D:Ends}{o:Out}(h:oN N σ F D o)(a:Ag N σ σ1):oN N σ1 F D o:=by
 cases o with
 |nx ρ=>exact λB H σ' R b=>h B H σ' R (a.trans b)
 |bk ρ=>exact λB H σ' R b=>h B H σ' R (a.trans b)
 |ct ρ=>exact λB H σ' R b=>h B H σ' R (a.trans b)
 |rt r ρ=>exact h
theorem oN.down{σ1:St}{ρ1:Rho}(R1:Rel F B1 H1 σ1 ρ1){D:Ends}{o:Out}(h:oN N σ F D o):oN N σ ⟨B1,F.H,F.io,F.Z⟩ D o:=by
 cases o with
 |nx ρ=>exact λB H σ R a=>h B H σ (R1.up R) a
 |bk ρ=>exact λB H σ R a=>h B H σ (R1.up R) a
 |ct ρ=>exact λB H σ R a=>h B H σ (R1.up R) a
 |rt r ρ=>exact λv B H σ R V=>h v B H σ (R1.up R) V
variable{N:List Nat}
theorem Rel.Bq(R:Rel F B H σ ρ)(hB:B p=none)(hF:F.H p=none)(hH:H p=some (.lst xs))(hn:∀(n:Nat) (s:Sl),ρ[n]?=some s->s.isRef=true->σ[n]?≠some (some (.ref p)))(ys:List V):Rel F B (upd H p (.lst ys)) σ ρ:=by
 refine⟨λq o h=>?_,R.sB,λq o h hx=>?_,R.nB,R.len,λn s hs=>?_,R.dist,R.jD,R.fx,R.ioN,λq zs h=>?_,R.exv,λq o u h=>?_⟩
 ·rw[ao (λz=>by rw[z,hB]at h;cases h)];exact R.sub q o h
 ·rw[ao (λz=>by rw[z,hF]at h;cases h)];exact R.sH q o h hx
 ·have ok:=R.slot n s hs
  have ne:s.isRef=true->∀q,σ[n]?=some (some (.ref q))->∀o,H q=some o->upd H p (.lst ys) q=some o:=λhr q hq o ho=>by
   rw[ao (λz=>hn n s hs hr (by rw[hq,z]))];exact ho
  cases s with
  |no=>trivial
  |ex=>trivial
  |fz d=>exact ok
  |own d=>obtain⟨q,h1,h2,h3⟩:=ok;exact⟨q,h1,h2,h3.mono (aD.refl _) (ne rfl q h1)⟩
  |io d=>obtain⟨q,h1,h2,h3⟩:=ok;exact⟨q,h1,h2,h3.mono (aD.refl _) (ne rfl q h1)⟩
  |ro d=>obtain⟨q,h1,h3⟩:=ok;exact⟨q,h1,h3.mono (aD.refl _) (ne rfl q h1)⟩
 ·by_cases z:q=p
  ·subst z;rw[ar]at h;cases h
  ·rw[ao z]at h;exact R.cO q zs h
 ·by_cases z:q=p
  ·subst z;rw[ar]at h;cases h
  ·rw[ao z]at h;exact R.nz q o u h
structure JW(F:Fr)(B H:Hp)(σ:St)(ρ:Rho)(i:Nat)(ps:List Addr)(b:Nat):Prop where
 here:∃a,σ[i]?=some (some (.ref a))/\H a=some (.tup (ps.map .ref))
 lst:∀p∈ps,∃xs,H p=some (.lst xs)/\xs.length<=b
 out:∀p∈ps,B p=none/\F.H p=none
 free:∀p∈ps,∀(n:Nat) (s:Sl),ρ[n]?=some s->s.isRef=true->σ[n]?≠some (some (.ref p))
theorem JW.Bq(d:JW F B H σ ρ i ps b)(hp:p∈ps)(ys:List V)(b2:Nat)(hb:b<=b2)(hy:ys.length<=b2):JW F B (upd H p (.lst ys)) σ ρ i ps b2:=by
 obtain⟨xs,hx,_⟩:=d.lst p hp;refine⟨?_,λq hq=>?_,d.out,d.free⟩
 ·obtain⟨a,h1,h2⟩:=d.here
  exact⟨a,h1,by rw[ao (λz=>by rw[z,hx]at h2;cases h2)];exact h2⟩
 ·by_cases z:q=p
  ·subst z;exact⟨ys,ar,hy⟩
  ·rw[ao z];obtain⟨zs,h1,h2⟩:=d.lst q hq;exact⟨zs,h1,zaX h2 hb⟩
structure Sv(N:List Nat)(i:Nat)(F:Fr)(Bs:Hp)(σs:St)(ρs:Rho)(ps:List Addr)(b:Nat)(B:Hp)(σ:St):Prop where
 slot:∀(n:Nat) (d:D),n≠i->ρs[n]?=some (.fz d)->∃v,σs[n]?=some (some v)/\Rep Bs v d
 sBs:aD F.B Bs
 nBs:∀q,F.H q≠none->F.B q=none->Bs q=none
 sB:aD Bs B
 ag:Ag N σs σ
 ni:i∉N
 here:∃a,σs[i]?=some (some (.ref a))/\B a=some (.tup (ps.map .ref))
 out:∀p∈ps,Bs p=none/\F.H p=none
 lst:∀p∈ps,∃xs,B p=some (.lst xs)/\xs.length<=b
 len : ρs.length=σs.length
 io:F.io=[]
theorem Sv.go(s:Sv N i F Bs σs ρs ps b B σ)(e:aD B B')(a:Ag N σ σ'):Sv N i F Bs σs ρs ps b B' σ':=by
 refine⟨s.slot,s.sBs,s.nBs,s.sB.trans e,s.ag.trans a,s.ni,?_,s.out,λp hp=>?_,s.len,s.io⟩
 ·obtain⟨c,h1,h2⟩:=s.here;exact⟨c,h1,e _ _ h2⟩
 ·obtain⟨xs,h1,h2⟩:=s.lst p hp;exact⟨xs,e _ _ h1,h2⟩
end
def yw:D->Bool
 | .list _=>false
 | .tuple _=>false
 |_=>true
mutual
inductive Nw(G B:Hp):V->D->Prop
 |lst {p:Addr} {xs:List V} {ds:List D}:G p=none->B p=some (.lst xs)->xs.length=ds.length->Nw G B (.ref p) (.list ds)
 |tup {a:Addr} {xs:List V} {ds:List D}:B a=some (.tup xs)->Nws G B xs ds->Nw G B (.ref a) (.tuple ds)
 |oth {v:V} {d:D}:yw d=true->Nw G B v d
inductive Nws(G B:Hp):List V->List D->Prop
 |nil:Nws G B [] []
 |cons {v:V} {vs:List V} {d:D} {ds:List D}:Nw G B v d->Nws G B vs ds->Nws G B (v::vs) (d::ds)
end
mutual
theorem Nw.mono(e:aD B B'):∀{v:V} {d:D},Nw G B v d->Nw G B' v d
 |_,_,.lst a b c=>.lst a (e _ _ b) c
 |_,_,.tup a b=>.tup (e _ _ a) (Nws.mono e b)
 |_,_,.oth a=>.oth a
theorem Nws.mono(e:aD B B'):∀{v:List V} {d:List D},Nws G B v d->Nws G B' v d
 |_,_,.nil=>.nil
 |_,_,.cons a b=>.cons (Nw.mono e a) (Nws.mono e b)
end
mutual
theorem Nw.pure:∀{v:V} {d:D},Rep B v d->fb d=true->Nw G B v d
 |_,_,.non,_=>.oth rfl
 |_,_,.bl b,_=>.oth rfl
 |_,_,.int i,_=>.oth rfl
 |_,_,.str x,_=>.oth rfl
 |_,_,.lst _ _,h=>by simp[fb]at h
 |_,_,.dct _ _,h=>by simp[fb]at h
 |_,_,.tup h r,e=>.tup h (Nws.pure r (by simpa[fb]using e))
theorem Nws.pure:∀{v:List V} {d:List D},aP B v d->bV d=true->Nws G B v d
 |_,_,.nil,_=>.nil
 |_,_,.cons a b,e=>by
  simp only[bV,Bool.and_eq_true]at e;exact .cons (Nw.pure a e.1) (Nws.pure b e.2)
end
theorem Nw.own(hG:G p=none)(o:Own B0 H p d)(r:Rep B (.ref p) d)(s:aD B H):Nw G B (.ref p) d:=by
 cases o with
 |dct h _=>exact .oth rfl
 |lst h _=>
  cases r with
  |lst hr rr=>
   rcases hr with e|⟨u,e⟩
   ·exact .lst hG e rr.length
   ·have:=s _ _ e
    rw[h]at this;cases this
section
variable [Zc]
def MEW(t:TE)(m:PM):Prop:=∀(F:Fr) (B H:Hp) (σ:St) (ρ:Rho) (r:RV) (ρ':Rho) (Q:VK),Rel F B H σ ρ->m ρ=some (r,ρ')->
  (∀v B' H',Ext σ ρ B H ρ' B' H'->Rel F B' H' σ ρ'->Val F B' H' σ ρ' v r->(∀p,r.2=.new->v=.ref p->H p=none)->(r.2=.fz->Nw F.H B' v r.1)->Q v H')->t σ H Q
theorem MEW.sv(h:MEW t m):MEW t (sv m):=by
 intro F B H σ ρ r ρ' Q R e q;unfold Mir.sv at e;split at e
 ·rename_i d ρ1 e1
  cases e;refine h F B H σ ρ _ _ Q R e1 λv B' H' E R' V' N W=>?_
  obtain⟨B2,R2,rp,s2,k2⟩:=R'.sN V';obtain⟨p,rfl,hB,hF,o,nn⟩:=V';refine q _ B2 H' ⟨E.sB.trans s2,λq o h1 h2=>?_,E.own,E.ref,E.live⟩ R2 rp (λ_ z=>by cases z) (λ_=>Nw.own hF o rp R2.sub)
  obtain⟨h3,h4⟩:=E.keep q o h1 h2;refine⟨h3,λz=>?_⟩
  by_cases y:q=p
  ·subst y
   exact absurd (N q rfl rfl) (by rw[h1];simp)
  ·rw[k2 q (λz=>y (by cases z;rfl))];exact h4 z
 ·rename_i hx
  exact h F B H σ ρ r ρ' Q R e q
def NwL(G B:Hp):List V->List RV->Prop
 | [],[]=>True
 |v::vs,r::rs=>(r.2=.fz->Nw G B v r.1)/\NwL G B vs rs
 |_,_=>False
theorem NwL.mono(e:aD B B'):∀{vs:List V} {rs:List RV},NwL G B vs rs->NwL G B' vs rs
 | [],[],_=>trivial
 |_::_,_::_,⟨a,b⟩=>⟨λz=>(a z).mono e,NwL.mono e b⟩
 | [],_::_,h=>h.elim
 |_::_,[],h=>h.elim
def nr(m:SM):SM:=fun ρ=>(m ρ).bind λo=>match o with
 | .rt _ _=>none
 |o=>some o
end
mutual
inductive NwB(G Bs B:Hp)(b:Nat):V->D->Prop
 |lst {p:Addr} {xs:List V} {ds:List D}:G p=none->Bs p=none->B p=some (.lst xs)->xs.length<=b->NwB G Bs B b (.ref p) (.list ds)
 |tup {a:Addr} {xs:List V} {ds:List D}:B a=some (.tup xs)->nJ G Bs B b xs ds->NwB G Bs B b (.ref a) (.tuple ds)
 |oth {v:V} {d:D}:yw d=true->NwB G Bs B b v d
inductive nJ(G Bs B:Hp)(b:Nat):List V->List D->Prop
 |nil:nJ G Bs B b [] []
 |cons {v:V} {vs:List V} {d:D} {ds:List D}:NwB G Bs B b v d->nJ G Bs B b vs ds->nJ G Bs B b (v::vs) (d::ds)
end
mutual
theorem NwB.mono(e:aD B B'):∀{v:V} {d:D},NwB G Bs B b v d->NwB G Bs B' b v d
 |_,_,.lst a b c d=>.lst a b (e _ _ c) d
 |_,_,.tup a b=>.tup (e _ _ a) (nJ.mono e b)
 |_,_,.oth a=>.oth a
theorem nJ.mono(e:aD B B'):∀{v:List V} {d:List D},nJ G Bs B b v d->nJ G Bs B' b v d
 |_,_,.nil=>.nil
 |_,_,.cons a b=>.cons (NwB.mono e a) (nJ.mono e b)
end
mutual
def uX:D->Bool
 | .list ds=>decide (ds.length<=90000)
 | .tuple ds=>p9 ds
 | .none=>true
 | .bool _=>true
 | .int _=>true
 | .str _=>true
 | .dict _=>true
def p9:List D->Bool
 | []=>true
 |d::ds=>uX d&&p9 ds
end
mutual
theorem NwB.of(k:∀p,G p=none->G' p=none/\Bs p=none):∀{v:V} {d:D},Nw G B v d->uX d=true->NwB G' Bs B 90000 v d
 |_,_,.lst a b c,h=>.lst (k _ a).1 (k _ a).2 b (by rw[c];simpa[uX]using h)
 |_,_,.tup a b,h=>.tup a (nJ.of k b (by simpa[uX]using h))
 |_,_,.oth a,_=>.oth a
theorem nJ.of(k:∀p,G p=none->G' p=none/\Bs p=none):∀{v:List V} {d:List D},Nws G B v d->p9 d=true->nJ G' Bs B 90000 v d
 |_,_,.nil,_=>.nil
 |_,_,.cons a b,h=>by
  simp only[p9,Bool.and_eq_true]at h;exact .cons (NwB.of k a h.1) (nJ.of k b h.2)
end
mutual
inductive Dd(G B H:Hp)(b:Nat):V->D->Prop
 |lst {p:Addr} {xs:List V} {ds:List D}:G p=none->B p=none->H p=some (.lst xs)->xs.length<=b->Dd G B H b (.ref p) (.list ds)
 |tup {a:Addr} {xs:List V} {ds:List D}:H a=some (.tup xs)->Dds G B H b xs ds->Dd G B H b (.ref a) (.tuple ds)
 |oth {v:V} {d:D}:yw d=true->Dd G B H b v d
inductive Dds(G B H:Hp)(b:Nat):List V->List D->Prop
 |nil:Dds G B H b [] []
 |cons {v:V} {vs:List V} {d:D} {ds:List D}:Dd G B H b v d->Dds G B H b vs ds->Dds G B H b (v::vs) (d::ds)
end
mutual
theorem Dd.of(s:aD B H)(k:∀p xs,B p=some (.lst xs)->Bs p=none->B5 p=none):∀{v:V} {d:D},NwB G Bs B b v d->Dd G B5 H b v d
 |_,_,.lst a b c d=>.lst a (k _ _ c b) (s _ _ c) d
 |_,_,.tup a b=>.tup (s _ _ a) (Dds.of s k b)
 |_,_,.oth a=>.oth a
theorem Dds.of(s:aD B H)(k:∀p xs,B p=some (.lst xs)->Bs p=none->B5 p=none):∀{v:List V} {d:List D},nJ G Bs B b v d->Dds G B5 H b v d
 |_,_,.nil=>.nil
 |_,_,.cons a b=>.cons (Dd.of s k a) (Dds.of s k b)
end
mutual
theorem Dd.Bq(hp:∃xs,H p=some (.lst xs))(hb:b<=b2)(hy:ys.length<=b2):∀{v:V} {d:D},Dd G B H b v d->Dd G B (upd H p (.lst ys)) b2 v d
 |_,_,.lst (p:=q) h1 h2 h3 h4=>by
  by_cases z:q=p
  ·subst z;exact .lst h1 h2 ar hy
  ·exact .lst h1 h2 (by rw[ao z];exact h3) (zaX h4 hb)
 |_,_,.tup (a:=q) h1 h2=>by
  refine .tup ?_ (Dds.Bq hp hb hy h2);rw[ao (λz=>by obtain⟨xs,hx⟩:=hp;rw[z,hx]at h1;cases h1)];exact h1
 |_,_,.oth a=>.oth a
theorem Dds.Bq(hp:∃xs,H p=some (.lst xs))(hb:b<=b2)(hy:ys.length<=b2):∀{v:List V} {d:List D},Dds G B H b v d->Dds G B (upd H p (.lst ys)) b2 v d
 |_,_,.nil=>.nil
 |_,_,.cons a c=>.cons (Dd.Bq hp hb hy a) (Dds.Bq hp hb hy c)
end
theorem Dds.get:∀{vs:List V} {ds:List D} (j:Nat) {d:D},Dds G B H b vs ds->ds[j]?=some d->∃v,vs[j]?=some v/\Dd G B H b v d
 |_,_,_,_,.nil,e=>by simp at e
 |_,_,0,_,.cons a _,e=>by simp at e;subst e;exact⟨_,rfl,a⟩
 |_,_,j+1,_,.cons _ c,e=>by
  obtain⟨v,h1,h2⟩:=Dds.get j c (by simpa using e)
  exact⟨v,by simpa using h1,h2⟩
section
variable [Zc]
structure Sg(N:List Nat)(i:Nat)(F:Fr)(Bs:Hp)(σs:St)(ρs:Rho)(v:V)(d:D)(b:Nat)(B:Hp)(σ:St):Prop where
 slot:∀(n:Nat) (d:D),n≠i->ρs[n]?=some (.fz d)->∃v,σs[n]?=some (some v)/\Rep Bs v d
 sBs:aD F.B Bs
 nBs:∀q,F.H q≠none->F.B q=none->Bs q=none
 sB:aD Bs B
 ag:Ag N σs σ
 ni:i∉N
 here : σs[i]?=some (some v)
 nw:NwB F.H Bs B b v d
 len : ρs.length=σs.length
 io:F.io=[]
theorem Sg.go(s:Sg N i F Bs σs ρs v d b B σ)(e:aD B B')(a:Ag N σ σ'):Sg N i F Bs σs ρs v d b B' σ' :=
 ⟨s.slot,s.sBs,s.nBs,s.sB.trans e,s.ag.trans a,s.ni,s.here,s.nw.mono e,s.len,s.io⟩
variable{N:List Nat}
end
end Mir
namespace L2
open PySem PySem.Spec PyProof.Rows
theorem Def.imp{K:zag}{base:Heap}{CX:CXT}{k:Nat}{x:Str}{ps:List Str}{sp sp':Sp}(D:Def P w K mg base CX k x ps sp)(h:∀vs H Q E,sp' vs H Q E->sp vs H Q E):Def P w K mg base CX k x ps sp':=by
 obtain⟨f,fd,F,m,kp,b⟩:=D.ex;exact⟨⟨f,fd,kM.imp F h,m,kp,b⟩⟩
end L2
namespace Mir
open PySem L2
section
variable [Zc]
def pd(as:List D):List D:=as.mapIdx λi a=>PyData.tuple [.int i,a]
theorem Br{i:Nat}(h:(pd as)[i]?=some d):∃a,d=.tuple [.int i,a]/\as[i]?=some a:=by
 unfold pd at h;rw[List.getElem?_mapIdx]at h;obtain⟨a,h1,h2⟩:=zab h;exact⟨a,h2.symm,h1⟩
theorem JX(h1:Rd G p (.lst xs))(r1:aP B xs as):ml G B (Ite K p) (pd as):=λH s=>by
 have g1:SqL K H p xs:=jF (ee s h1);refine⟨⟨xs,g1,by rw[r1.length];simp[pd]⟩,λi d hd=>?_⟩
 obtain⟨a,rfl,ha⟩:=Br hd;obtain⟨x,x1,x2⟩:=r1.get i a ha;refine⟨⟨xs,x,g1,x1⟩,λv H' hy=>?_⟩
 obtain⟨p',x',rfl,hp,rfl,e1⟩:=hy;have e1':=e1 xs g1;rw[x1]at e1';cases e1';exact .inr ⟨p',[.int i,x],[.int i,a],rfl,rfl,hp,rfl,.cons (.int _) (.cons x2 .nil)⟩
def Lx(m:Rho->Option (List RV×Rho)):Rho->Option (List D×Rho):=fun ρ=>((m ρ).bind Jq).bind λx=>(kP x.1 x.2).bind λy=>(asL y.1).map λds=>(pd ds,y.2)
section
variable{K:zag}{ta:TA}{m:Rho->Option (List RV×Rho)}
theorem Gk(h:MA ta m):MF (HQ K ta) (Lx m):=by
 intro F B H σ ρ ds ρ' Q R e q;obtain⟨x,e0,e⟩:=zaa e;obtain⟨x0,e1,e3⟩:=zaa e0;obtain⟨y,e4,e⟩:=zaa e;obtain⟨ds',e2,e⟩:=zab e;cases e;rw[Ft e3]at e1;refine h F B H σ ρ _ _ _ R e1 λvs B1 H1 E1 R1 V1=>?_
 match vs,V1 with
 | [v],V1=>
  obtain⟨B2,R2,rp,E2⟩:=R1.frz V1.weak.1 e4;rw[Jm e2]at rp;cases rp with
  |lst h r=>exact⟨_,_,rfl,jF (ee R2.sub h),q _ B2 H1 (E1.trans E2) R2 (JX h r)⟩
end
end
end Mir
namespace L2
open PySem
def HU(xs:List V)(H:Hp)(Q:VK):Prop:=Jb xs H Q\/∃a o kvs n,xs=[.ref a,.ty n]/\(H a=some (.dK kvs)\/H a=some (.frz o (.dK kvs)))/\n∈cy/\Q (.bl (iO "dict" n)) H
theorem lT:d7 X (.builtin "isinstance") HU:=by
 intro pins s σ H xs us Q I r h;rcases h with h|⟨a,o,kvs,n,rfl,hd,h2,q⟩
 ·exact jC pins s σ H xs us Q I r h
 ·obtain⟨u,v,rfl,ru,rv⟩:=vals2 r
  cases rv;have fin:∀{vs} {h:Heap},h=s.heap->h.DictOf (bY X.prog X.w) a vs->wpAny (model X.prog X.w) X.A (call (.builtin "isinstance") [u,.type n]) (EP X pins σ Q) X.xe s:=fun{vs h} eh p=>by
   subst eh;cases(show u=Value.ref a from ru);obtain⟨o,es,ep,h1,h3,_⟩:=p;exact za4 PySem.W.kitx_dict I.kIn ⟨o,h1,h3.1⟩ (sL X.K "dict" (by decide) n h2) (λz=>nomatch z) λtk=>⟨.bl _,H,I.tok tk,rfl,q⟩
  rcases hd with hd|hd
  ·obtain⟨_,_,vs,_,p⟩:=(show cb X.prog X.w H s.heap a (.dK kvs)from I.hok a _ hd)
   exact fin rfl p
  ·obtain⟨_,_,_,vs,_,p⟩:=(show cb X.prog X.w H s.heap a (.frz o (.dK kvs))from I.hok a _ hd)
   exact fin rfl p
end L2
namespace Mir
open PySem L2
section
variable [Zc]
def jL(n:String):D->Option (D×Bool)
 | .dict _=>if n∈cy then some (.bool (iO "dict" n),false)else none
 |d=>gC n d
def lg(n:String)(a:PM):PM:=mUn (jL n) a
theorem qa(ha:ME ta a):ME (tCB HU (fB ta (fB (tC (.ty n)) pF))) (lg n a):=by
 intro F B H σ ρ r0 ρ' Q R e q;obtain⟨x,e1,e⟩:=zaa e;obtain⟨res,e4,e⟩:=zab e;cases e
 by_cases hd:∃es,x.1.1=.dict es
 ·obtain⟨es,hd⟩:=hd
  refine ha.sv F B H σ ρ x.1 x.2 _ R e1 λv B1 H1 E1 R1 V1 N1=>?_
  rw[hd]at e4;have e4':(if n∈cy then some ((PyData.bool (iO "dict" n),false):D×Bool)else none)=some res:=e4
  by_cases hn:n∈cy
  ·rw[if_pos hn]at e4'
   cases e4';have rp:=(V1.view R1).rep R1.sub;rw[hd]at rp;cases rp with
   |dct h _=>
    rcases h with h|⟨o,h⟩
    ·exact .inr ⟨_,⟨.none,none,.plain,#[]⟩,_,n,rfl,.inl h,hn,q _ B1 H1 E1 R1 (.bl _) λp z=>by cases z⟩
    ·exact .inr ⟨_,o,_,n,rfl,.inr h,hn,q _ B1 H1 E1 R1 (.bl _) λp z=>by cases z⟩
  ·rw[if_neg hn]at e4';cases e4'
 ·have e5:gC n x.1.1=some res:=by
   revert e4 hd
   cases x.1.1 with
   |dict es=>intro _ hd;exact absurd ⟨es,rfl⟩ hd
   |_=>intro e4 _;exact e4
  refine ha.sv F B H σ ρ x.1 x.2 _ R e1 λv B1 H1 E1 R1 V1 N1=>.inl ?_
  unfold gC at e5;split at e5
  ·rename_i hd'
   cases e5;have rp:=(V1.view R1).rep R1.sub;have ht:=rp.ty hd'.1;have hk:tyD x.1.1∈cV:=by
    have h2:=hd'.1
    revert h2
    cases x.1.1 with
    |none=>intro _;show "NoneType"∈cV;decide
    |bool _=>intro _;show "bool"∈cV;decide
    |int _=>intro _;show "int"∈cV;decide
    |str _=>intro _;show "str"∈cV;decide
    |list _=>intro _;show "list"∈cV;decide
    |tuple _=>intro _;show "tuple"∈cV;decide
    |dict _=>intro h2;exact absurd rfl h2
   exact⟨v,n,rfl,by rw[ht];exact hk,hd'.2,by rw[ht];exact q _ B1 H1 E1 R1 (.bl _) λp z=>by cases z⟩
  ·cases e5
end
end Mir
namespace L2
open PySem
theorem hv1(h:a+b<c)(hb : 1<=b:=by decide):a+1<c:=by omega
end L2
namespace Mir
open PySem L2
end Mir
namespace L2
open PySem PySem.Spec PyProof.Rows PySem.W
abbrev yx(X:Cx)(qual:Str)(scope:Scope)(L f:Addr)(cd:Value):Env:=envX qual scope L f cd (eY X.env.cells scope.names [])
def tq(X:Cx)(A:Around)(qual:Str)(scope:Scope)(N':List Str)(s₂:Shared)(H₂:Hp)(f:Addr)(cd:Value):Cx where
 prog:=X.prog
 w:=X.w
 K:=X.K
 mg:=X.mg
 base:=X.base
 A:=A.deeper (yx X qual scope s₂.heap.objs.size f cd)
 N:=N'
 s₀:=s₂
 H₀:=H₂
 env:=yx X qual scope s₂.heap.objs.size f cd
 outer:=X.stack
 stack:=yx X qual scope s₂.heap.objs.size f cd::X.stack
 ex:=[]
 calm:=true
 fn:=λ_=>false
 pn:=[]
 xe:=λ_ _=>False
section
variable{X:Cx}{scope:Scope}{x:Str}{fr:List (Str×Nat)}{pins:List (Addr×Obj)}{σ:St}{H:Hp}{s:Shared}
theorem Blk.kinds'(B:Blk X scope x fr)(h:scope.names.lookup y=some .cell\/scope.names.lookup y=some .free):(y,NameKind.free)∈scope.names:=by
 rcases h with h|h
 ·exact absurd rfl (B.cell _ (za5 h))
 ·exact za5 h
theorem Gm(I:Inv X pins σ H s)(B:Blk X scope x fr)(hA:A.frames=some X.stack)(hd:A.handled=none)(rv:RelV v u)
  (old:∀b ob,s.heap.get? b=some ob->h₁.get? b=some ob) (hns:h₁.Ns s.heap.objs.size λy=>[(x,u)].reverse.lookup y) :
  Inv (tq X A qual scope (bJ x fr) s H f cd) [] (some v::aU σ fr) H {s with heap:=h₁,toks:=tk}:=by
 have e0:=I.env0;have noA:∀b:Addr,b∉([]:List Addr):=λb=>by simp
 refine⟨⟨I.ok.mod,B.kind,rfl,rfl,zap _,λy z c h1 h2=>I.ok.inj y z c (B.sub I.ok _ _ h1) (B.sub I.ok _ _ h2),λy hy=>mT _ _ _ (.inl (B.kinds' hy)),λy c h _=>(zam h).elim,λ_=>hd,Around.frames_deeper hA,.inr ⟨rfl,rfl⟩,
  λb z=>absurd z (noA b),I.bs,zaX I.ok.bsz I.sz,λb _ _=>noA b,λb z=>absurd z (noA b),I.stack,I.mO,I.tab⟩,
  rfl,I.bare,Un.kept old,⟨_,hns,λi y w' h1 h2 h3=>?_⟩,λy c e=>?_,I.hok.fresh (zap _),λy c e=>I.f7 y c (B.sub I.ok _ _ e),λp hp=>absurd (show p∈([]:List (Addr×Obj))from hp) (by simp),I.hok.kept old,?_⟩
 ·cases i with
  |zero=>
   simp only[List.getElem?_cons_zero,Option.some.injEq]at h2;subst h2;have e1:x=y:=by simpa[bJ,tq]using h1
   subst e1;exact⟨u,rv,.inl ⟨B.here,by simp⟩⟩
  |succ i=>
   have h1':(fr.map (·.1))[i]?=some y:=by
    have z:(x::fr.map (·.1))[i+1]?=some y:=h1
    rw[zat]at z;exact z
   have h2':(aU σ fr)[i]?=some (some w'):=by simpa using h2
   rw[zao]at h1';unfold aU at h2';rw[zao]at h2';cases e:fr[i]? with
   |none=>rw[e]at h1';cases h1'
   |some p=>
    rw[e]at h1' h2';have e1:p.1=y:=by simpa using h1'
    have e2 : σ.getD p.2 none=some w':=by simpa using h2'
    have hs:=List.all_eq_true.mp B.seen p (zaj e);rw[Bool.and_eq_true]at hs;have hs1:scope.names.lookup p.1=some .free:=by simpa using hs.1
    have hs2:X.N[p.2]?=some p.1:=by simpa using hs.2
    rw[e1]at hs1 hs2;have hk:X.env.kindOf y=some .cell:=B.frees _ (za5 hs1) rfl;have e3 : σ[p.2]?=some (some w'):=by
     rw[List.getD_eq_getElem?_getD]at e2;cases q : σ[p.2]? with
     |none=>rw[q]at e2;simp at e2
     |some z=>rw[q]at e2;simp at e2;rw[e2]
    obtain⟨m,hn,hl⟩:=I.loc;obtain⟨u,r,l⟩:=hl p.2 y w' hs2 e3 (.inr (.inl hk));refine⟨u,r,.inr ⟨.inr hs1,?_⟩⟩;rcases l with⟨z,_⟩|⟨_,c,ec,z⟩
    ·rw[hk]at z;cases z
    ·obtain⟨c',hc'⟩:=mT (cells:=X.env.cells) scope.names [] y (.inl (za5 hs1))
     have:=B.sub I.ok _ _ hc';rw[ec]at this;cases this;obtain⟨ob,ho,hd⟩:=z;exact⟨c,hc',ob,old _ _ ho,hd⟩
 ·obtain⟨v,ob,ho,hd⟩:=I.cell y c (B.sub I.ok _ _ e)
  exact⟨v,ob,old _ _ ho,hd⟩
 ·show _=(bJ x fr).length
  simp[bJ,aU]
theorem D9(I:Inv X pins σ H s)(B:Blk X scope x fr)(hco:scope.isCoroutine=false)(hgen:scope.isGenerator=false)
  (hA:A.frames=some X.stack) (hr:dH (k+1) A) (ho:s.heap.get? f=some (kla_obj name qual params body scope (eY X.env.cells scope.names []) pm c' ctv)) (hcd:s.heap.CodeRec (.ref c') qual)
  (hbind:bindArgs (kla_fn name qual params body scope (eY X.env.cells scope.names []) pm (.ref c') ctv) ⟨[u],[]⟩=pure [(x,u)]) (rv:RelV v u)
  (he:∀s₂ H₂,PE (tq X A qual scope (bJ x fr) s₂ H₂ f (.ref c')) body te) (q:te (some v::aU σ fr) H Q) :
  codeAny (model X.prog X.w) A (.call (.ref f) ⟨[u],[]⟩) (λr s'=>match r with| .ok (.ret u')=>∃v' H',Inv X pins σ H' s'/\RelV v' u'/\(∀b ps,H b=some (.tbl ps)->∃more,H' b=some (.tbl (ps++more)))/\Q v' H'|_=>False) s:=by
 refine kla_callFunE hr.depth ho rfl hco hgen rfl hcd ?_;rw[hbind];refine zaZ (wpAny_newFunctionEnv B.cell (λy hy=>?_) (λh₁ hns hsb=>⟨?_,?_⟩) B.kind)
 ·have e:y=(x,u):=by simpa using hy
  rw[e];exact B.here
 ·exact(I.nolimit).fresh _ hsb
 ·have old:∀b ob,s.heap.get? b=some ob->h₁.get? b=some ob:=λb ob e=>hsb.extBut b ob (zaS (zaq e)) (zar _ e)
  have J:=Gm (tk:=s.toks+1) (f:=f) (cd:=.ref c') (qual:=qual) I B hA hr.hd rv old hns;refine kla_codeExpr (za6 (he s H [] _ _ H Q J q) (λu' s' h=>?_) λ_ _ z=>z.elim)
  obtain⟨v',H',J',r',q'⟩:=h;obtain⟨hh,g,d,t,os'⟩:=s';obtain rfl:os'=s.os:=J'.os;exact⟨v',H',I.call (h':=hh) (g':=g) (d':=d) (t':=t) (ch:=[]) J'.base J'.hok J'.bare (λb z=>absurd z (by simp)),r',J'.base.iN,q'⟩
theorem Ea(I:Inv X pins σ H s)(B:Blk X scope x fr)
  (hl:gx X.K=some (c,T,ps)) (hp:ps=#[rawInt pos.line,rawInt pos.col,.str qual t]) (hcode:X.env.code=.ref c)
  (h:∀f c' H' pm ctv s',Inv X pins σ H' s'->aD H H'->(∀b,H b=none->H' b=none\/∃m,H' b=some (.tbl m))->s'.heap.get? f=some (kla_obj name qual params body scope (eY X.env.cells scope.names []) pm c' ctv)->jg X pins H' f->
   (∃more,H' c'=some (.tbl (#[.none,.str qual t]++more)))->Q (.ref f) s') :
  wpAny M A (makeFunction name qual params (.expr body) scope X.env [] [] [] pos fl) Q E s:=by
 obtain⟨more,hT⟩:=I.tab c T ps hl;have hcl:=xT (scope:=scope) (env:=X.env) (B.clos I.ok);have hg:s.heap.Ns mainGlobals X.mg:=I.ok.mod.glob.keeps I.bk;have C:CodeHd s.heap c T:=codeHd_of_K I.kIn (qj hl).2;have nT:∀b o,X.base.get? b=some o->b≠T:=λb o e z=>by
  have:=(I.bs b o e).2;rw[z,hT]at this;cases this
 have hgT:mainGlobals≠T:=by
  obtain⟨o,es,ep,e,_⟩:=I.ok.mod.glob;exact nT _ _ e
 have hb:s.heap.BuiltinsAt X.mg T:=by
  obtain⟨bm,ob,b1,b2,b3,b4,b5,b6⟩:=I.ok.mod.bmain;refine⟨bm,ob,b1,b2,λz=>?_,nT _ _ b3,I.bk _ _ b3,b4,b5,b6⟩
  obtain⟨o,es,ep,e,d,_⟩:=I.ok.mod.glob;rw[z,e]at b3;cases b3;rw[d]at b6;cases b6
 subst hp;have g2:(#[rawInt pos.line,rawInt pos.col,Value.str qual t]++more)[2]?=some (.str qual t):=by rw[Array.getElem?_append_left (by simp)];rfl
 have d0:(#[rawInt pos.line,rawInt pos.col,Value.str qual t]++more).getD 0 .none=rawInt pos.line:=by rw[Array.getD_eq_getD_getElem?,Array.getElem?_append_left (by simp)];rfl
 have d1:(#[rawInt pos.line,rawInt pos.col,Value.str qual t]++more).getD 1 .none=rawInt pos.col:=by rw[Array.getD_eq_getD_getElem?,Array.getElem?_append_left (by simp)];rfl
 rcases I.hok T _ hT with⟨e0,_⟩|⟨e0,qs,hq,hc⟩
 ·exact absurd e0 (vT hl more)
 rcases hc with rfl|⟨c',q,t',m',rfl,e2,e3⟩
 ·refine kla_makeFunction (mg:=X.mg) hcl I.ok.glob hg hcode C hq trivial rfl hgT hb λc' ctv h' tk hx hge hlt hrec htb=>?_
  have hc0:H c'=none:=I.hok.fresh hge;have old:∀b o,b≠T->s.heap.get? b=some o->(h'.push (kla_obj name qual params body scope (eY X.env.cells scope.names []) ((X.mg "__name__").getD .none) c' ctv)).get? b=some o:=λb o hb' e=>zar _ (hx b o hb' e)
  have tn:∀b,H b=none->b≠T:=λb e z=>by rw[z,hT]at e;cases e
  have nc:∀b o,H b=some o->b≠c':=λb o e=>eA e hc0
  have J:Inv X pins σ (upd H c' (.tbl #[.none,.str qual t])) {s with heap:=h'.push (kla_obj name qual params body scope (eY X.env.cells scope.names []) ((X.mg "__name__").getD .none) c' ctv),toks:=tk}:=by
   refine I.step (g':=s.gens) (d':=s.drawn) (ch:=[]) (λ_ z=>nomatch z) (λb o _ _ _ e n=>old b o (tn b n) e) (λb o _ _ _ e n=>⟨o.slots,old b o (tn b n) e⟩) (λb o _ e n=>?_) (λb o _ e=>?_) (λb xs e=>?_) (λb o u e=>?_) (λb ps' e=>⟨#[],?_⟩) (λm hm=>?_) (λb u e=>?_) I.bare
   ·rw[ao (zaS (zaF (zaq e) hge))];exact n
   ·by_cases hb':b=T
    ·exact⟨_,by rw[hb'];exact zar _ htb⟩
    ·exact⟨o,old b o hb' e⟩
   ·rw[ao (nc _ _ e)];exact e
   ·rw[ao (nc _ _ e)];exact e
   ·rw[ao (nc _ _ e),e];simp
   ·obtain⟨o,es,ep,ho,r⟩:=hm
    exact⟨o,es,ep,old _ o (tn _ I.free) ho,r⟩
   ·by_cases hbc:b=c'
    ·subst hbc
     rw[ar]at e;cases e;obtain⟨c2,oc,vs,tk2,ec,eo,ed⟩:=hrec;cases ec;exact .inl ⟨rfl,qual,t,rfl,b,oc,vs,tk2,rfl,zar _ eo,ed⟩
    ·rw[ao hbc]at e
     by_cases hbT:b=T
     ·subst hbT
      rw[hT]at e;cases e;refine .inr ⟨e0,_,zar _ htb,.inr ⟨c',qual,t,#[],?_,g2,?_⟩⟩
      ·rw[d0,d1];rfl
      ·rw[ar];rfl
     ·refine(I.hok b u e).stay (λb' u' hb' q=>old b' u' ?_ q) (λb' q=>by rw[ao (nc _ _ q)];exact q) λb' v' _ q=>by rw[ao (nc _ _ q)];exact q
      rintro rfl
      rcases hb' with z|z
      ·exact hbT z.symm
      ·rw[hT]at z;cases z
  have hf0:(upd H c' (.tbl #[.none,.str qual t])) h'.objs.size=none:=by
   rw[ao (Nat.ne_of_gt hlt)];exact I.hok.fresh (zaX hge (Nat.le_of_lt hlt))
  refine h h'.objs.size c' _ _ ctv _ J (λb o e=>by rw[ao (nc _ _ e)];exact e) (λb e=>?_) (zaL _ rfl) (I.pE (zaX hge (Nat.le_of_lt hlt)) hf0) ⟨#[],by rw[ar];rfl⟩
  by_cases z:b=c'
  ·exact .inr ⟨_,by rw[z];exact ar⟩
  ·exact .inl (by rw[ao z];exact e)
 ·rw[g2]at e2
  cases e2;rw[d0,d1]at hq;refine kla_makeFunctionHit (mg:=X.mg) (cv:=.ref c') hcl I.ok.glob hg hcode C hq trivial (by simp[codeAmong,rawInt]) hb λctv h' tk hk hsz=>?_
  have J:Inv X pins σ H {s with heap:=h'.push (kla_obj name qual params body scope (eY X.env.cells scope.names []) ((X.mg "__name__").getD .none) c' ctv),toks:=tk}:=I.kept λb o e=>zar _ (hk b o e)
  exact h h'.objs.size c' H _ ctv _ J (aD.refl _) (λb e=>.inl e) (zaL _ rfl) (I.pE hsz (I.hok.fresh hsz)) ⟨m',e3⟩
end
def HV(K:zag)(fr:List (Str×Nat))(tl te:TE):TE:=fun σ H Q=>tl σ H λx H1=>∃a xs v0,x=.ref a/\SqL K H1 a xs/\xs[0]?=some v0/\
 ∀H2,aD H1 H2->(∀b,H1 b=none->H2 b=none\/∃m,H2 b=some (.tbl m))->te (some v0::aU σ fr) H2 λk0 H3=>∃W:Nat->V->V->Hp->Prop,W 1 v0 k0 H3/\
  ∀i b kb H4,W i b kb H4->SqL K H4 a xs/\(xs.length<=i->Q b H4)/\∀v,xs[i]?=some v->te (some v::aU σ fr) H4 λk H5=>D2 K k kb H5 λr H6=>∃c,r=.bl c/\if c=true then W (i+1) v k H6 else W (i+1) b kb H6
section
variable{X:Cx}{scope:Scope}{x:Str}{fr:List (Str×Nat)}{pins:List (Addr×Obj)}{σ:St}{H:Hp}{s:Shared}
theorem code_at(I:Inv X pins σ H s)(h:H c=some (.tbl (#[.none,.str q t]++more))):s.heap.CodeRec (.ref c) q:=by
 have e0:(#[Value.none,.str q t]++more)[0]?=some .none:=by rw[Array.getElem?_append_left (by simp)];rfl
 have e1:(#[Value.none,.str q t]++more)[1]?=some (.str q t):=by rw[Array.getElem?_append_left (by simp)];rfl
 rcases I.hok c _ h with⟨_,q',t',z,r⟩|⟨z,_⟩
 ·rw[e1]at z;cases z;exact r
 ·exact absurd e0 z
theorem tw(hl:IsTup s.heap l #[.int a t,.str x u])(hb:IsTup s.heap b #[.int c t2,.str y u2])(hu:A.units<cLine)(h:Q (.bool (aX a x c y)) s) :
  wpAny (model prog w) A (richCompare .Lt (.ref l) (.ref b)) Q E s:=wM hl hb hu h
theorem wO(I:Inv X pins σ H s)(B:Blk X scope x fr)(hco:scope.isCoroutine=false)(hgen:scope.isGenerator=false)
  (hr:dH (k+2) X.A) (ho:s.heap.get? f=some (kla_obj name qual params body scope (eY X.env.cells scope.names []) pm c' ctv)) (hc:H c'=some (.tbl (#[.none,.str qual t]++more)))
  (hbind:∀(pm ctv:Value) (c':Addr) (cl:List (Str×Addr)) (u:Value),bindArgs (kla_fn name qual params body scope cl pm (.ref c') ctv) ⟨[u],[]⟩=pure [(x,u)]) (rv:RelV v u)
  (he:∀s₂ H₂ f c',PE (tq X X.A.in1 qual scope (bJ x fr) s₂ H₂ f (.ref c')) body te) (q:te (some v::aU σ fr) H Q)
  (h:∀u' s' v' H',Inv X pins σ H' s'->RelV v' u'->(∃more,H' c'=some (.tbl (#[.none,.str qual t]++more)))->Q v' H'->P u' s') :
  wpAny (model X.prog X.w) X.A.in1 (call (.ref f) [u]) P E s:=by
 refine wpAny_call (codeAny_mono (D9 I B hco hgen I.ok.frames hr.in1 ho (code_at I hc) (hbind _ _ _ _ _) rv (λs₂ H₂=>he s₂ H₂ f c') q) λr s' hq=>?_)
 cases r with
 |error e=>exact hq.elim
 |ok fl=>
  cases fl with
  |next=>exact hq.elim
  |brk=>exact hq.elim
  |cont=>exact hq.elim
  |ret u'=>
   obtain⟨v',H',J,r',tb,q'⟩:=hq;obtain⟨m2,z⟩:=tb _ _ hc;exact h u' s' v' H' J r' ⟨more++m2,by rw[z,Array.append_assoc]⟩ q'
structure HW(X:Cx)(pins:List (Addr×Obj))(σ:St)(a it S f c':Addr)(fo:Obj)(qual:Str)(t:Tok)(i:Nat)(H:Hp)(s:Shared):Prop where
 inv:Inv X pins σ H s
 fi:jg X pins H it
 fs:jg X pins H S
 ff:jg X pins H f
 n1:it≠S
 n2:it≠f
 n3:S≠f
 li:s.heap.IsListIter it a i
 lf:s.heap.get? f=some fo
 nf:∀v,fo.data≠.cell v
 lc:∃more,H c'=some (.tbl (#[.none,.str qual t]++more))
theorem jg.to(h:jg X pins H b)(e:H' b=none):jg X pins H' b:=⟨e,h.2⟩
theorem Eb{body:Expr}{pm ctv:Value}{a it S f c':Addr}{te:TE}{xs:List V}{Q:VK}{W:Nat->V->V->Hp->Prop}{R:Result->Shared->Prop}(B:Blk X scope x fr)(hco:scope.isCoroutine=false)(hgen:scope.isGenerator=false)
  (hr:dH (k+2) X.A) (hbind:∀(pm ctv:Value) (c':Addr) (cl:List (Str×Addr)) (u:Value),bindArgs (kla_fn name qual params body scope cl pm (.ref c') ctv) ⟨[u],[]⟩=pure [(x,u)])
  (he:∀s₂ H₂ f c',PE (tq X X.A.in1 qual scope (bJ x fr) s₂ H₂ f (.ref c')) body te)
  (turn:∀i b kb H4,W i b kb H4->SqL X.K H4 a xs/\(xs.length<=i->Q b H4)/\∀v,xs[i]?=some v->te (some v::aU σ fr) H4 λk H5=>D2 X.K k kb H5 λr H6=>∃c,r=.bl c/\if c=true then W (i+1) v k H6 else W (i+1) b kb H6)
  (hR:∀u s',EP X pins σ Q u s'->R (.ok (.ret u)) s') :
  ∀(n i:Nat) (H:Hp) (s:Shared) (b kb:V) (ub uk:Value) (cn:Nat),xs.length-i=n->HW X pins σ a it S f c' (kla_obj name qual params body scope (eY X.env.cells scope.names []) pm c' ctv) qual t i H s->
   s.heap.get? S=some (seqObj "list" #[ub,uk] cn)->RelV b ub->RelV kb uk->W i b kb H->codeAny (model X.prog X.w) X.A (.builtin "min.loop" ⟨[.ref it,.ref f,.ref S],[]⟩) R s:=by
 have hname:(toString "min"++toString ".loop":String)="min.loop":=by decide
 intro n
 induction n with
 |zero=>
  intro i H s b kb ub uk cn hn L hS rb rk w;obtain⟨sq,fin,_⟩:=turn i b kb H w;obtain⟨its,rv,p,hz⟩:=L.inv.list sq;have hl:=rv.length;refine codeAny_builtin PySem.F.entry_min_loop ?_;rw[Around.under_plainId PySem.F.plain_min_loop _];show wpAny _ X.A.in1 (seqItems? (.ref S)>>=_) _ _ s;refine zaI (wpAny_seqItems hS rfl ?_);show wpAny _ X.A.in1 (tryCatch (pyNext (.ref it)) _>>=_) _ _ s;refine zaI (wpAny_tryCatch (wpAny_pyNext_list_end (show X.A.in1.handled=none from hr.hd) L.li p.isList (by simp;omega) λh' eb=>?_))
  obtain⟨f0,f1,f2,f3,f4,f5⟩:=L.fi;obtain⟨g0,g1,g2,g3,g4,g5⟩:=L.fs;have I1:Inv X pins σ H {s with heap:=h'}:=L.inv.turned (t':=s.toks) (λb o hb e=>eb b o hb e) f0 f1 f3 f4 f5
  have hS':h'.get? S=some (seqObj "list" #[ub,uk] cn):=eb S _ (Ne.symm L.n1) hS;have s1:=Heap.SameBut.update h' S (Obj.mapSeq λ_=>(#[]:Array Value))
  show wpAny _ X.A.in1 (updateSeq S (λ_=>#[])>>=_) _ _ _
  refine zaI ?_;refine wpAny_updateSeq hS' rfl (zaI (wpAny_letGo (zaZ ?_)));refine hR ub _ ⟨b,H,?_,rb,fin (by omega)⟩
  exact I1.turned (t':=s.toks) (λb o hb e=>(s1.2 b hb).trans e) g0 g1 g3 g4 g5
 |succ n ih=>
  intro i H s b kb ub uk cn hn L hS rb rk w;obtain⟨sq,_,step⟩:=turn i b kb H w;obtain⟨its,rv,p,hz⟩:=L.inv.list sq;have hl:=rv.length;have hi:i<xs.length:=by omega
  have hxi:xs[i]?=some xs[i]:=zaC hi;obtain⟨u,hu,ru⟩:=rv.get hxi;refine codeAny_builtin PySem.F.entry_min_loop ?_;rw[Around.under_plainId PySem.F.plain_min_loop _];show wpAny _ X.A.in1 (seqItems? (.ref S)>>=_) _ _ s;refine zaI (wpAny_seqItems hS rfl ?_);show wpAny _ X.A.in1 (tryCatch (pyNext (.ref it)) _>>=_) _ _ s;refine zaI (wpAny_tryCatch (wpAny_pyNext_list_item L.li p.isList (x:=u) (by simpa using hu) λh' st' sb=>?_))
  obtain⟨f0,f1,f2,f3,f4,f5⟩:=L.fi;obtain⟨g0,g1,g2,g3,g4,g5⟩:=L.fs;have I1:Inv X pins σ H {s with heap:=h'}:=L.inv.turned (t':=s.toks) (λb o hb e=>(sb.2 b hb).trans e) f0 f1 f3 f4 f5
  have hS1:h'.get? S=some (seqObj "list" #[ub,uk] cn):=(sb.2 S (Ne.symm L.n1)).trans hS;have hf1:=(sb.2 f (Ne.symm L.n2)).trans L.lf;obtain⟨oi,ei,ci,di⟩:=id st';have IP:=Inv.pinned I1 (fp:=[it,S,f]) (λz hz=>by
    simp only[List.mem_cons,List.not_mem_nil,or_false]at hz;rcases hz with rfl|rfl|rfl
    ·exact L.fi
    ·exact L.fs
    ·exact L.ff) λz hz=>by
    simp only[List.mem_cons,List.not_mem_nil,or_false]at hz;rcases hz with rfl|rfl|rfl
    ·exact⟨oi,ei,λv z=>by rw[di]at z;cases z⟩
    ·exact⟨_,hS1,λv z=>by cases z⟩
    ·exact⟨_,hf1,L.nf⟩
  obtain⟨more,hcm⟩:=L.lc;show wpAny _ X.A.in1 (tryCatch (holding [u] (call (.ref f) [u])) _>>=_) _ _ _;refine zaI (wpAny_tryCatch (wpAny_holding ?_));refine wO IP B hco hgen hr hf1 hcm hbind ru he (step _ hxi) λuk' s2 vk' H2 J rk' lc2 q2=>?_
  have pi:=J.pin (it,oi) (zan _ (zan _ (bx (by simp) ei)))
  have pS:=J.pin (S,_) (zan _ (zan _ (bx (by simp) hS1)))
  have pf:=J.pin (f,_) (zan _ (zan _ (bx (by simp) hf1)))
  have J2:Inv X pins σ H2 s2:=Inv.dU (pins:=pins) J;obtain⟨pa,pb,i1,z1,i2,z2,e1,e2,t1,t2,cc,ec,w2⟩:=q2;subst e1 e2;cases ec;obtain rfl:uk'=Value.ref pa:=rk';obtain rfl:uk=Value.ref pb:=rk;obtain⟨is1,r1,p1,_⟩:=J2.tuple t1;obtain⟨is2,r2,p2,_⟩:=J2.tuple t2;cases r1 with
  |cons a1 r1=>
   cases r1 with
   |cons a2 r1=>
    cases r1;cases r2 with
    |cons b1 r2=>
     cases r2 with
     |cons b2 r2=>
      cases r2;obtain⟨k1,rfl⟩:=a1;obtain⟨k2,rfl⟩:=a2;obtain⟨k3,rfl⟩:=b1;obtain⟨k4,rfl⟩:=b2;show wpAny _ X.A.in1 (tryCatch (holding [u,.ref pa] (richCompare .Lt (.ref pa) (.ref pb)>>=_)) _>>=_) _ _ _;refine zaI (wpAny_tryCatch (wpAny_holding (zaI (tw p1 p2 (by have:=hr.un;show X.A.units+1<cLine;omega) ?_))))
      refine zaI (wpAny_holding (wpAny_truthy_bool ?_));refine zaI (wpAny_letGo (zaZ ?_));have L2':HW X pins σ a it S f c' (kla_obj name qual params body scope (eY X.env.cells scope.names []) pm c' ctv) qual t (i+1) H2 s2 :=
       ⟨J2,L.fi.to pi.2.1,L.fs.to pS.2.1,L.ff.to pf.2.1,L.n1,L.n2,L.n3,⟨oi,pi.1,ci,di⟩,pf.1,L.nf,lc2⟩
      by_cases hb':aX i1 z1 i2 z2=true
      ·rw[hb']at w2⊢
       rw[if_pos rfl]at w2⊢;have s1:=Heap.SameBut.update s2.heap S (Obj.mapSeq λ_=>#[u,.ref pa])
       obtain⟨c2,hc2⟩:∃c2,(s2.heap.update S (Obj.mapSeq λ_=>#[u,.ref pa])).get? S=some (seqObj "list" #[u,.ref pa] c2):=⟨_,get?_update_seq pS.1 λ_=>#[u,.ref pa]⟩
       refine zaI ?_;refine wpAny_updateSeq pS.1 rfl (zaI (wpAny_letGo ?_));rw[hname];have I3:Inv X pins σ H2 {s2 with heap:=s2.heap.update S (Obj.mapSeq λ_=>#[u,.ref pa])}:=J2.turned (t':=s2.toks) (λb o hb e=>(s1.2 b hb).trans e) pS.2.1 g1 g3 g4 g5
       refine zaZ ⟨plainId_quiet PySem.F.plain_min_loop _,ih (i+1) H2 _ xs[i] (.ref pa) u (.ref pa) c2 (by omega) ⟨I3,L2'.fi,L2'.fs,L2'.ff,L.n1,L.n2,L.n3,⟨oi,(s1.2 it L.n1).trans pi.1,ci,di⟩,(s1.2 f (Ne.symm L.n3)).trans pf.1,L.nf,lc2⟩ hc2 ru rfl w2⟩
      ·have hb2:aX i1 z1 i2 z2=false:=by simpa using hb'
       rw[hb2]at w2⊢;rw[if_neg zam]at w2⊢;refine zaI (wpAny_letGo ?_);rw[hname];exact zaZ ⟨plainId_quiet PySem.F.plain_min_loop _,ih (i+1) H2 _ b (.ref pb) ub (.ref pb) cn (by omega) L2' pS.1 rb rfl w2⟩
end
def HX(X:Cx)(pos:Pos):Prop:=∃c T ps t,gx X.K=some (c,T,ps)/\ps=#[rawInt pos.line,rawInt pos.col,.str (X.env.qual++"<lambda>") t]/\X.env.code=.ref c
section
variable{X:Cx}{scope:Scope}{x:Str}{fr:List (Str×Nat)}
theorem Gn{Ly p pos kpos:Pos}{tl te:TE}(B:Blk X scope x fr)(hL:HX X Ly)(hr:dH (k+2) X.A)(hg:Gl X "min")(hm:X.mg "min"=none)(hl:PE X e tl)
  (he:∀s₂ H₂ f c',PE (tq X X.A.in1 (X.env.qual++"<lambda>") scope (bJ x fr) s₂ H₂ f (.ref c')) body te)
  (hbind:∀(pm ctv:Value) (c':Addr) (cl:List (Str×Addr)) (u:Value),bindArgs (kla_fn "<lambda>" (X.env.qual++"<lambda>") params body scope cl pm (.ref c') ctv) ⟨[u],[]⟩=pure [(x,u)])
  (hco:scope.isCoroutine=false:=by rfl) (hgen:scope.isGenerator=false:=by rfl) (hdef:defaultsOf params X.env=([],[]):=by rfl)
  (hst:backTo pos (starEach [e] X.env)=(false,eval e X.env)::backTo pos (starEach [] X.env):=by rfl) (hpl:(backTo pos (starEach [e] X.env)).any (·.1)=false:=by rfl) (hst2:starEach [e] X.env=(false,eval e X.env)::starEach [] X.env:=by rfl) :
  PE X (.Call (.Name "min" p) [e] [⟨some "key",.Lambda params body scope Ly,kpos⟩] pos) (HV X.K fr tl te):=by
 have ha:PA X [e] (fB tl pF):=aa hl aq hst2;intro pins s σ H Q I h;obtain⟨c,T,ps,t,MK,hps,hcode⟩:=hL;have hname:(toString "min"++toString ".loop":String)="min.loop":=by decide
 refine wpAny_Call_Name_kw (ot I hg hm PyProof.Rows.boot_min ?_ (by decide) (by decide))
 refine callWith_kw (thn (ha pos pins s σ H (λvs H1=>∃v,vs=[v]/\(λx H1=>∃a xs v0,x=.ref a/\SqL X.K H1 a xs/\xs[0]?=some v0/\
  ∀H2,aD H1 H2->(∀b,H1 b=none->H2 b=none\/∃m,H2 b=some (.tbl m))->te (some v0::aU σ fr) H2 λk0 H3=>∃W:Nat->V->V->Hp->Prop,W 1 v0 k0 H3/\
  ∀i b kb H4,W i b kb H4->SqL X.K H4 a xs/\(xs.length<=i->Q b H4)/\∀v,xs[i]?=some v->te (some v::aU σ fr) H4 λk H5=>D2 X.K k kb H5 λr H6=>∃c,r=.bl c/\if c=true then W (i+1) v k H6 else W (i+1) b kb H6) v H1) I ?_) λus s1 ⟨vs,H1,I1,r1,v,ev,q1⟩=>?_) hst hpl rfl rfl
 ·show tl σ H _
  have h':tl σ H _:=h;refine Eq.mp (congrArg (tl σ H) ?_) h';funext x H1
  exact propext ⟨λz=>⟨x,rfl,z⟩,λ⟨v,ev,z⟩=>by cases ev;exact z⟩
 subst ev;obtain⟨a,xs,v0,rfl,sq,h0,q⟩:=q1;obtain⟨ua,rfl,ra⟩:∃ua,us=[ua]/\RelV (.ref a) ua:=by
  cases r1 with
  |cons ra rr=>
   cases rr;exact⟨_,rfl,ra⟩
 obtain rfl:ua=Value.ref a:=ra;refine kws_cons (kla_eval hdef (Ea I1 B MK hps hcode λf c' H2 pm ctv s2 J sm nn ho ff hc=>kws_nil ?_))
 have sq2:SqL X.K H2 a xs:=by
  rcases sq with(z|⟨o,z⟩)|z
  ·exact .inl (.inl (sm _ _ z))
  ·exact .inl (.inr ⟨o,sm _ _ z⟩)
  ·exact .inr z
 obtain⟨its,rv,p1,hz⟩:=J.list sq2;have hln:=rv.length;have hxl : 0<xs.length:=(zac h0).1;obtain⟨u0,hu0,ru0⟩:=rv.get h0;show wpAny (model X.prog X.w) X.A (call (.builtin "min") [.ref a] [(Str.ofString "key",.ref f)]) _ _ s2;refine kmk_tree PySem.F.kind_min PySem.F.plain_min PySem.F.entry_min (kmk_min_key _ _) ?_;show wpAny _ X.A.in1 (Builtin.Builtins.bindParams "min" ["key","default"] 0 ⟨[],[(Str.ofString "key",.ref f)]⟩>>=_) _ _ s2;refine zaI (wpAny_of_eq (show Builtin.Builtins.bindParams "min" ["key","default"] 0 ⟨[],[(Str.ofString "key",.ref f)]⟩=pure [some (.ref f),none]from rfl) ?_);refine zaI (zaZ ?_);refine zaI (wpAny_pyIter_list p1.isList ?_);refine zaI (wpAny_newList ?_ (Nat.zero_le _));rw[hname];refine zaZ ⟨plainId_quiet PySem.F.plain_min_loop _,?_⟩;generalize hG1:s2.heap.push {cls:=.type "list_iterator",data:=.fields #[.ref a,.int 0 0]}=G1;have hS:G1.objs.size=s2.heap.objs.size+1:=by rw[<-hG1,Heap.size_push]
 have old:∀b o,s2.heap.get? b=some o->(G1.push (seqObj "list" #[] 0)).get? b=some o:=λb o e=>zar _ (by rw[<-hG1];exact zar _ e)
 have gI:(G1.push (seqObj "list" #[] 0)).get? s2.heap.objs.size=some {cls:=.type "list_iterator",data:=.fields #[.ref a,.int 0 0]}:=zar _ (by rw[<-hG1];exact zaL _ rfl)
 have gS:(G1.push (seqObj "list" #[] 0)).get? G1.objs.size=some (seqObj "list" #[] 0):=zaL _ rfl;have I3:Inv X pins σ H2 {s2 with heap:=G1.push (seqObj "list" #[] 0)}:=J.kept (t':=s2.toks) old
 have fi:jg X pins H2 s2.heap.objs.size:=J.pE (zap _) (J.hok.fresh (zap _));have fs:jg X pins H2 G1.objs.size:=J.pE (by omega) (J.hok.fresh (by omega))
 have hfl:f<s2.heap.objs.size:=zaq ho;have n1:s2.heap.objs.size≠G1.objs.size:=by omega
 have n2:s2.heap.objs.size≠f:=Nat.ne_of_gt hfl;have n3:G1.objs.size≠f:=by rw[hS];exact Nat.ne_of_gt (Nat.lt_succ_of_lt hfl)
 obtain⟨g0,g1,g2,g3,g4,g5⟩:=fs;refine codeAny_builtin PySem.F.entry_min_loop ?_;rw[Around.under_plainId PySem.F.plain_min_loop _];show wpAny _ X.A.in1 (seqItems? (.ref _)>>=_) _ _ _;refine zaI (wpAny_seqItems gS rfl ?_);show wpAny _ X.A.in1 (tryCatch (pyNext (.ref s2.heap.objs.size)) _>>=_) _ _ _;obtain⟨MW,rv3,p3,_⟩:=I3.list sq2;obtain⟨u3,hu3,ru3⟩:=rv3.get h0;refine zaI (wpAny_tryCatch (wpAny_pyNext_list_item (it:=s2.heap.objs.size) (i:=0) ⟨_,gI,rfl,rfl⟩ p3.isList (x:=u3) (by simpa using hu3) λh' st' sb=>?_))
 have I4:Inv X pins σ H2 {s2 with heap:=h'}:=I3.turned (t':=s2.toks) (λb o hb e=>(sb.2 b hb).trans e) fi.1 fi.2.1 fi.2.2.2.1 fi.2.2.2.2.1 fi.2.2.2.2.2
 have hS4:h'.get? G1.objs.size=some (seqObj "list" #[] 0):=(sb.2 _ (Ne.symm n1)).trans gS;have hf4:=(sb.2 f (Ne.symm n2)).trans (old _ _ ho);obtain⟨oi,ei,ci,di⟩:=id st';have IP:=Inv.pinned I4 (fp:=[s2.heap.objs.size,G1.objs.size,f]) (λz hz=>by
   simp only[List.mem_cons,List.not_mem_nil,or_false]at hz;rcases hz with rfl|rfl|rfl
   ·exact fi
   ·exact⟨g0,g1,g2,g3,g4,g5⟩
   ·exact ff) λz hz=>by
   simp only[List.mem_cons,List.not_mem_nil,or_false]at hz;rcases hz with rfl|rfl|rfl
   ·exact⟨oi,ei,λv z=>by rw[di]at z;cases z⟩
   ·exact⟨_,hS4,λv z=>by cases z⟩
   ·exact⟨_,hf4,λv z=>by cases z⟩
 obtain⟨more,hcm⟩:=hc;show wpAny _ X.A.in1 (tryCatch (holding [u3] (call (.ref f) [u3])) _>>=_) _ _ _;refine zaI (wpAny_tryCatch (wpAny_holding ?_));refine wO IP B hco hgen hr hf4 hcm hbind ru3 he (q H2 sm nn) λuk s5 vk H5 J5 rk lc5 q5=>?_
 obtain⟨W,w0,turn⟩:=q5;have pi:=J5.pin (s2.heap.objs.size,oi) (zan _ (zan _ (bx (by simp) ei)))
 have pS:=J5.pin (G1.objs.size,_) (zan _ (zan _ (bx (by simp) hS4)))
 have pf:=J5.pin (f,_) (zan _ (zan _ (bx (by simp) hf4)))
 have J6:Inv X pins σ H5 s5:=Inv.dU (pins:=pins) J5;have s1':=Heap.SameBut.update s5.heap G1.objs.size (Obj.mapSeq λ_=>#[u3,uk])
 obtain⟨c2,hc2⟩:∃c2,(s5.heap.update G1.objs.size (Obj.mapSeq λ_=>#[u3,uk])).get? G1.objs.size=some (seqObj "list" #[u3,uk] c2):=⟨_,get?_update_seq pS.1 λ_=>#[u3,uk]⟩
 show wpAny _ X.A.in1 (updateSeq G1.objs.size (λ_=>#[u3,uk])>>=_) _ _ _
 refine zaI ?_;refine wpAny_updateSeq pS.1 rfl ?_;rw[hname];have I7:Inv X pins σ H5 {s5 with heap:=s5.heap.update G1.objs.size (Obj.mapSeq λ_=>#[u3,uk])}:=J6.turned (t':=s5.toks) (λb o hb e=>(s1'.2 b hb).trans e) pS.2.1 g1 g3 g4 g5
 refine zaZ ⟨plainId_quiet PySem.F.plain_min_loop _,Eb B hco hgen hr hbind he turn (λu s' z=>z) _ 1 H5 _ v0 vk u3 uk c2 rfl
  ⟨I7,fi.to pi.2.1,⟨pS.2.1,g1,g2,g3,g4,g5⟩,ff.to pf.2.1,n1,n2,n3,⟨oi,(s1'.2 _ n1).trans pi.1,ci,di⟩,(s1'.2 f (Ne.symm n3)).trans pf.1,(λv z=>by cases z),lc5⟩ hc2 ru3 rk w0⟩
end
section
variable{P:Program}{w:World}{K:zag}{mg:Str->Option Value}{base:Heap}
theorem Top.ML{st:Stmt}{sp:Sp}{lp:Pos}(hK:(gx K).isSome=true)(hlp:tW (.stmts (d9 st))=some lp)(hq:((x++".<locals>.":Str)++"<lambda>":Str)=x++".<locals>.<lambda>")(T:Top K mg x st)(S:bL N ps (aN st))(len:∀vs H Q E,sp vs H Q E->vs.length=ps.length)
  (hb:∀(kV doc pm:Value) (an:Option Addr) (cdv ct:Value) (us:List Value),us.length=ps.length->bindArgs (PySem.W.fnOf x x (g8 st) (d9 st) (aN st) .none kV doc pm an cdv ct) ⟨us,[]⟩=pure (ps.zip us))
  (hbody:∀(f:Addr) (cdv:Value) (A:Around) (outer:List Env) (s:Shared) (H:Hp) (vs:List V) (Q:VK) (E:XK),HX (ox CX0 P w K mg base N x (aN st) f cdv A outer s H E).nox lp->dH k (A.deeper (envOfC x (aN st) s.heap.objs.size f cdv))->sp vs H Q E->
   ∃t,PSs (ox CX0 P w K mg base N x (aN st) f cdv A outer s H E).nox (d9 st) t/\t {nx:=λ_ H'=>Q .non H',rt:=Q} (start N vs) H):Def P w K mg base CX0 (k+1) x ps sp:=by
 obtain⟨f,fd,F,m⟩:=T.ex;refine⟨⟨f,fd,?_,m,F.kp,F.binds hb⟩⟩;obtain⟨oc,od,kV,doc,pm,an,cdv,ct,osl,rfl,lk,hcd⟩:=F.ex;refine d8 lk hcd S len λA outer s H vs Q E hr hsp=>?_
 obtain⟨⟨c,T',ps'⟩,hl⟩:=Option.isSome_iff_exists.mp hK;obtain⟨e1,e2⟩:=IY hl lk hlp;obtain⟨t,h,q⟩:=hbody f cdv A outer s H vs Q E ⟨c,T',ps',0,hl,by rw[e2];show _=#[_,_,Value.str (x++".<locals>."++"<lambda>") 0];rw[hq],e1⟩ hr hsp
 exact⟨t,h.nox,q⟩
end
def btK(ks:Nat->Int×Str)(i j:Nat):Bool:=aX (ks i).1 (ks i).2 (ks j).1 (ks j).2
section
variable{prog:Program}{w:World}{A:Around}{R:Result->Shared->Prop}
theorem Bu(hh:A.handled=none)(hu:A.units+1<cLine){l it S:Addr}{vs:List Value}{h0:Heap}{s0:Shared}(ks:Nat->Int×Str)(hl:h0.IsList l vs.toArray)(hi:h0.objs.size<=it)(hS:h0.objs.size<=S)(n1:it≠S)
  (ht:∀i v,vs[i]?=some v->∃p t u,v=.ref p/\IsTup h0 p #[.int (ks i).1 t,.str (ks i).2 u])
  (hR:∀v h' tk,vs[argBest (btK ks) (vs.length-1)]?=some v->(∀b o,h0.get? b=some o->h'.get? b=some o)->R (.ok (.ret v)) {s0 with heap:=h',toks:=tk}) :
  ∀(n j:Nat) (h:Heap) (tk:Nat) (ub:Value) (cn:Nat),vs.length-(j+1)=n->j+1<=vs.length->(∀b o,h0.get? b=some o->h.get? b=some o)->h.IsListIter it l (j+1)->h.get? S=some (seqObj "list" #[ub,ub] cn)->
   vs[argBest (btK ks) j]?=some ub->codeAny (model prog w) A (.builtin "min.loop" ⟨[.ref it,.none,.ref S],[]⟩) R {s0 with heap:=h,toks:=tk}:=by
 have hname:(toString "min"++toString ".loop":String)="min.loop":=by decide
 have neI:∀b o,h0.get? b=some o->b≠it:=λb o e=>zaS (zaF (zaq e) hi)
 have neS:∀b o,h0.get? b=some o->b≠S:=λb o e=>zaS (zaF (zaq e) hS)
 have lst:∀h:Heap,(∀b o,h0.get? b=some o->h.get? b=some o)->h.IsList l vs.toArray:=λh k=>by
  obtain⟨o,e,r⟩:=hl;exact⟨o,k _ _ e,r⟩
 intro n
 induction n with
 |zero=>
  intro j h tk ub cn hn hj kp li hSo hb;refine codeAny_builtin PySem.F.entry_min_loop ?_;rw[Around.under_plainId PySem.F.plain_min_loop _];show wpAny _ A.in1 (seqItems? (.ref S)>>=_) _ _ _;refine zaI (wpAny_seqItems hSo rfl ?_);show wpAny _ A.in1 (tryCatch (pyNext (.ref it)) _>>=_) _ _ _;refine zaI (wpAny_tryCatch (wpAny_pyNext_list_end (show A.in1.handled=none from hh) li (lst h kp) (by simp;omega) λh' eb=>?_))
  have hS':h'.get? S=some (seqObj "list" #[ub,ub] cn):=eb S _ (Ne.symm n1) hSo;have s1:=Heap.SameBut.update h' S (Obj.mapSeq λ_=>(#[]:Array Value))
  show wpAny _ A.in1 (updateSeq S (λ_=>#[])>>=_) _ _ _
  refine zaI ?_;refine wpAny_updateSeq hS' rfl (zaI (wpAny_letGo (zaZ ?_)));refine hR ub _ _ (by rw[show vs.length-1=j by omega];exact hb) λb o e=>(s1.2 b (neS b o e)).trans (eb b o (neI b o e) (kp b o e))
 |succ n ih=>
  intro j h tk ub cn hn hj kp li hSo hb;have hlt:j+1<vs.length:=by omega
  refine codeAny_builtin PySem.F.entry_min_loop ?_;rw[Around.under_plainId PySem.F.plain_min_loop _];show wpAny _ A.in1 (seqItems? (.ref S)>>=_) _ _ _;refine zaI (wpAny_seqItems hSo rfl ?_);show wpAny _ A.in1 (tryCatch (pyNext (.ref it)) _>>=_) _ _ _;refine zaI (wpAny_tryCatch (wpAny_pyNext_list_item li (lst h kp) (x:=vs[j+1]) (by simp) λh' st' sb=>?_))
  have kp1:∀b o,h0.get? b=some o->h'.get? b=some o:=λb o e=>(sb.2 b (neI b o e)).trans (kp b o e)
  have hS1:h'.get? S=some (seqObj "list" #[ub,ub] cn):=(sb.2 S (Ne.symm n1)).trans hSo;obtain⟨p1,t1,u1,e1,q1⟩:=ht (j+1) _ (zaC hlt);obtain⟨p2,t2,u2,e2,q2⟩:=ht _ _ hb;subst e2;have up:∀{p:Addr} {xs:Array Value},IsTup h0 p xs->IsTup h' p xs:=fun{p xs} ⟨o,e,r⟩=>⟨o,kp1 _ _ e,r⟩
  have hb1:vs[j+1]?=some (.ref p1):=by rw[zaC hlt,e1]
  rw[e1];show wpAny _ A.in1 (tryCatch (holding [.ref p1,.ref p1] (richCompare .Lt (.ref p1) (.ref p2)>>=_)) _>>=_) _ _ _;refine zaI (wpAny_tryCatch (wpAny_holding (zaI (tw (up q1) (up q2) hu ?_))));refine zaI (wpAny_holding (wpAny_truthy_bool ?_));refine zaI (wpAny_letGo (zaZ ?_));cases hc:aX (ks (j+1)).1 (ks (j+1)).2 (ks (argBest (btK ks) j)).1 (ks (argBest (btK ks) j)).2 with
  |true=>
   simp only[if_true];have hc':btK ks (j+1) (argBest (btK ks) j)=true:=hc;have s1:=Heap.SameBut.update h' S (Obj.mapSeq λ_=>#[Value.ref p1,.ref p1])
   obtain⟨c2,hc2⟩:∃c2,(h'.update S (Obj.mapSeq λ_=>#[Value.ref p1,.ref p1])).get? S=some (seqObj "list" #[Value.ref p1,.ref p1] c2):=⟨_,get?_update_seq hS1 λ_=>#[Value.ref p1,.ref p1]⟩
   refine zaI ?_;refine wpAny_updateSeq hS1 rfl (zaI (wpAny_letGo ?_));rw[hname];obtain⟨oi,ei,ci,di⟩:=id st';exact zaZ ⟨plainId_quiet PySem.F.plain_min_loop _,ih (j+1) _ _ (.ref p1) c2 (by omega) hlt (λb o e=>(s1.2 b (neS b o e)).trans (kp1 b o e)) ⟨oi,(s1.2 it n1).trans ei,ci,di⟩ hc2 (by simp only[argBest,hc',if_true];exact hb1)⟩
  |false=>
   simp only[Bool.false_eq_true,if_false];have hc':btK ks (j+1) (argBest (btK ks) j)=false:=hc;refine zaI (wpAny_letGo ?_);rw[hname];exact zaZ ⟨plainId_quiet PySem.F.plain_min_loop _,ih (j+1) _ _ (.ref p2) cn (by omega) hlt kp1 st' hS1 (by simp only[argBest,hc',Bool.false_eq_true,if_false];exact hb)⟩
end
section
variable{X:Cx}{K:zag}
def HY(K:zag):List V->Hp->VK->Prop:=λvs H Q=>∃(a:Addr) (xs:List V) (ks:Nat->Int×Str) (v:V),vs=[.ref a]/\SqL K H a xs/\(∀(i:Nat) (x:V),xs[i]?=some x->∃p,x=.ref p/\SqT K H p [.int (ks i).1,.str (ks i).2])/\
 xs[argBest (btK ks) (xs.length-1)]?=some v/\Q v H
theorem Bv(h:X.K=K)(hc:X.calm=true)(hu:X.A.units+1<cLine):d7 X (.builtin "min") (HY K):=by
 subst h;intro pins s σ H vs us Q I r h;obtain⟨a,xs,ks,v,rfl,sq,ht,hv,q⟩:=h;obtain⟨u,rfl,ra⟩:=vals1 r;obtain rfl:u=Value.ref a:=ra;obtain⟨its,rv,p,hz⟩:=I.list sq;have hln:=rv.length;have hname:(toString "min"++toString ".loop":String)="min.loop":=by decide
 have hb0 : 0<xs.length:=Nat.lt_of_le_of_lt (Nat.zero_le _) (zac hv).1;have tup:∀i v,its[i]?=some v->∃p t u,v=.ref p/\IsTup s.heap p #[.int (ks i).1 t,.str (ks i).2 u]:=λi v hi=>by
  have hlt:i<xs.length:=by rw[hln];exact(zac hi).1
  obtain⟨u',hu',ru'⟩:=rv.get (zaC hlt);rw[hi]at hu';cases hu'
  obtain⟨pp,e,hs⟩:=ht i _ (zaC hlt);rw[e]at ru';obtain rfl:v=Value.ref pp:=ru';obtain⟨is,r1,p1,_⟩:=I.tuple hs;cases r1 with
  |cons a1 r1=>
   cases r1 with
   |cons a2 r1=>
    cases r1;obtain⟨k1,rfl⟩:=a1;obtain⟨k2,rfl⟩:=a2;exact⟨pp,k1,k2,rfl,p1⟩
 refine call_function_tree PySem.F.kind_min PySem.F.plain_min PySem.F.entry_min (PySem.F.args_min1 _) ?_
 show wpAny _ X.A.in1 (Builtin.Builtins.bindParams "min" ["key","default"] 0 ⟨[],[]⟩>>=_) _ _ s;refine zaI (wpAny_of_eq (show Builtin.Builtins.bindParams "min" ["key","default"] 0 ⟨[],[]⟩=pure [none,none]from rfl) ?_);refine zaI (zaZ ?_);refine zaI (wpAny_pyIter_list p.isList ?_);refine zaI (wpAny_newList ?_ (Nat.zero_le _));rw[hname];refine zaZ ⟨plainId_quiet PySem.F.plain_min_loop _,?_⟩;generalize hG1:s.heap.push {cls:=.type "list_iterator",data:=.fields #[.ref a,.int 0 0]}=G1;have hS:G1.objs.size=s.heap.objs.size+1:=by rw[<-hG1,Heap.size_push]
 have old:∀b o,s.heap.get? b=some o->(G1.push (seqObj "list" #[] 0)).get? b=some o:=λb o e=>zar _ (by rw[<-hG1];exact zar _ e)
 have gI:(G1.push (seqObj "list" #[] 0)).get? s.heap.objs.size=some {cls:=.type "list_iterator",data:=.fields #[.ref a,.int 0 0]}:=zar _ (by rw[<-hG1];exact zaL _ rfl)
 have gS:(G1.push (seqObj "list" #[] 0)).get? G1.objs.size=some (seqObj "list" #[] 0):=zaL _ rfl;have n1:s.heap.objs.size≠G1.objs.size:=by omega
 refine codeAny_builtin PySem.F.entry_min_loop ?_;rw[Around.under_plainId PySem.F.plain_min_loop _];show wpAny _ X.A.in1 (seqItems? (.ref _)>>=_) _ _ _;refine zaI (wpAny_seqItems gS rfl ?_);show wpAny _ X.A.in1 (tryCatch (pyNext (.ref s.heap.objs.size)) _>>=_) _ _ _;have hil : 0<its.length:=by omega
 have pl:(G1.push (seqObj "list" #[] 0)).IsList a its.toArray:=by
  obtain⟨o,e,r⟩:=p.isList;exact⟨o,old _ _ e,r⟩
 refine zaI (wpAny_tryCatch (wpAny_pyNext_list_item (it:=s.heap.objs.size) (i:=0) ⟨_,gI,rfl,rfl⟩ pl (x:=its[0]) (by simp) λh' st' sb=>?_))
 have hS4:h'.get? G1.objs.size=some (seqObj "list" #[] 0):=(sb.2 _ (Ne.symm n1)).trans gS;have s1':=Heap.SameBut.update h' G1.objs.size (Obj.mapSeq λ_=>#[its[0],its[0]])
 obtain⟨c2,hc2⟩:∃c2,(h'.update G1.objs.size (Obj.mapSeq λ_=>#[its[0],its[0]])).get? G1.objs.size=some (seqObj "list" #[its[0],its[0]] c2):=⟨_,get?_update_seq hS4 λ_=>#[its[0],its[0]]⟩
 show wpAny _ X.A.in1 (updateSeq G1.objs.size (λ_=>#[its[0],its[0]])>>=_) _ _ _
 refine zaI ?_;refine wpAny_updateSeq hS4 rfl ?_;rw[hname];obtain⟨oi,ei,ci,di⟩:=id st';have kp:∀b o,s.heap.get? b=some o->(h'.update G1.objs.size (Obj.mapSeq λ_=>#[its[0],its[0]])).get? b=some o:=λb o e=>by
  have hb:=zaq e;exact(s1'.2 b (zaS (by rw[hS];exact Nat.lt_succ_of_lt hb))).trans ((sb.2 b (zaS hb)).trans (old b o e))
 refine zaZ ⟨plainId_quiet PySem.F.plain_min_loop _,Bu (s0:=s) (I.ok.hd hc) hu ks p.isList (zap _) (by omega) n1 tup (λv' h2 tk2 hv' kp'=>?_) _ 0 _ _ its[0] c2 rfl hil kp ⟨oi,(s1'.2 _ n1).trans ei,ci,di⟩ hc2 (zaC hil)⟩
 rw[<-hln]at hv';obtain⟨u',hu',ru'⟩:=rv.get hv;rw[hv']at hu';cases hu';exact⟨v,H,I.kept kp',ru',q⟩
end
end L2
namespace Mir
open PySem L2
section
variable [Zc]
def wQ(e:PM)(ρn:Rho):List D->Option (List (D×Int×Str))
 | []=>some []
 |d::ds=>(sv e (.fz d::ρn)).bind λy=>match y.1 with
  |(.tuple [.int i,.str z],.fz)=>(wQ e ρn ds).map ((d,i,z)::·)
  |_=>none
def l9:D×Int×Str->List (D×Int×Str)->D×Int×Str
 |b,[]=>b
 |b,c::r=>l9 (if aX c.2.1 c.2.2 b.2.1 b.2.2=true then c else b) r
def Ec(fr:List (Str×Nat))(l e:PM):PM:=fun ρ=>(l ρ).bind λx=>match x.1 with
 |(.list ds,.fz)=>(wQ e (fr.map λp=>cX x.2 p.2) ds).bind λks=>match ks with
  |b::r=>some (((l9 b r).1,.fz),x.2)
  | []=>none
 |_=>none
theorem tD(h:wQ e ρn (d::ds)=some ks) :
  ∃y i z r,sv e (.fz d::ρn)=some y/\y.1=(.tuple [.int i,.str z],.fz)/\wQ e ρn ds=some r/\ks=(d,i,z)::r:=by
 obtain⟨y,h1,h2⟩:=zaa (show(sv e (.fz d::ρn)).bind _=some ks from h);split at h2
 ·rename_i i z hy
  obtain⟨r,h3,h4⟩:=zab h2;exact⟨y,i,z,r,h1,hy,h3,h4.symm⟩
 ·cases h2
theorem qP(h:Rep B v (.tuple [.int i,.str z])):∃p,v=.ref p/\B p=some (.tup [.int i,.str z]):=by
 cases h with
 |tup h r=>
  cases r with
  |cons a r=>
   cases r with
   |cons b r=>
    cases r;cases a;cases b;exact⟨_,rfl,h⟩
theorem Rel.tabs(R:Rel F B H σ ρ)(sm:aD H H2)(nn:∀b,H b=none->H2 b=none\/∃m,H2 b=some (.tbl m)):Rel F B H2 σ ρ:=by
 have back:∀q o,H2 q=some o->(∀m,o≠.tbl m)->H q=some o:=λq o h n=>by
  cases e:H q with
  |some u=>rw[sm q u e]at h;exact h
  |none=>
   rcases nn q e with z|⟨m,z⟩
   ·rw[z]at h;cases h
   ·rw[z]at h;cases h;exact absurd rfl (n m)
 exact R.grow (aD.refl _) sm (R.sub.trans sm) (λq _ z=>z) (λq xs h=>R.cO q xs (back q _ h λm z=>by cases z)) λq o u h z=>by rw[back q _ h λm z=>by cases z]at z;cases z
theorem Gq(hl:ME tl l)(he:ME te e):ME (HV K fr tl te) (Ec fr l e):=by
 intro F B H σ ρ r0 ρ' Q R e0 q;obtain⟨x,e1,e0⟩:=zaa e0;obtain⟨r1,ρ1⟩:=x;split at e0
 case h_2=>cases e0
 rename_i ds hx
 obtain rfl:r1=(.list ds,.fz):=hx;obtain⟨ks,e2,e0⟩:=zaa e0;split at e0
 case h_2=>cases e0
 rename_i b0 Aa
 cases e0;refine hl F B H σ ρ _ ρ1 _ R e1 λv B1 H1 E1 R1 V1 N1=>?_
 have V1':Rep B1 v (.list ds):=V1;cases V1' with
 |lst hrd rps=>
 rename_i a xs
 match ds,rps,e2 with
 | [],_,e2=>cases e2
 |d0::ds,.cons (x:=v0) (xs:=xs) rv0 rps,e2=>
 obtain⟨y,i0,z0,r,k1,k2,k3,k4⟩:=tD e2;obtain⟨rfl,rfl⟩:b0=(d0,i0,z0)/\Aa=r:=by cases k4;exact⟨rfl,rfl⟩
 refine⟨a,v0::xs,v0,rfl,jF (ee R1.sub hrd),rfl,λH2 sm nn=>?_⟩
 have R2:Rel F B1 H2 σ ρ1:=R1.tabs sm nn;have Ri:=R2.inner fr rv0;refine he.sv (F0 H2) B1 H2 _ _ y.1 y.2 _ Ri k1 λu B3 H3 E3 R3 V3 N3=>?_
 obtain⟨eH3,nb3⟩:=il gf E3;have R3o:Rel F B3 H3 σ ρ1:=R2.grow E3.sB eH3 R3.sub nb3 R3.cO R3.nz;rw[k2]at V3;have V3':Rep B3 u (.tuple [.int i0,.str z0]):=V3;have nbA:∀q,H1 q≠none->B1 q=none->B3 q=none:=λq h z=>nb3 q (λy=>h (sm.free y)) z
 refine⟨λi b kb H4=>1<=i/\i<=(d0::ds).length/\∃B4 bd rest,aD B1 B4/\aD H1 H4/\(∀q,H1 q≠none->B1 q=none->B4 q=none)/\Rel F B4 H4 σ ρ1/\Rep B4 b bd.1/\Rep B4 kb (.tuple [.int bd.2.1,.str bd.2.2])/\
   wQ e (fr.map λp=>cX ρ1 p.2) ((d0::ds).drop i)=some rest/\l9 bd rest=l9 (d0,i0,z0) Aa,
  ⟨zap _,by simp,B3,(d0,i0,z0),Aa,E3.sB,sm.trans eH3,nbA,R3o,rv0.mono E3.sB,V3',k3,rfl⟩,?_⟩
 rintro i b kb H4 ⟨h1,hil,B4,bd,rest,eB,eH,nb,R4,rb,rk,hk,hb⟩
 refine⟨jF (ee R4.sub (ee eB hrd)),λhle=>?_,λv hv=>?_⟩
 ·have hi:i=(d0::ds).length:=by
   have:=rps.length;simp only[List.length_cons]at hle hil⊢;omega
  rw[hi,List.drop_length]at hk;cases hk;have E4:Ext σ ρ1 B1 H1 ρ1 B4 H4:=Ext.grow eB eH nb;refine q b B4 H4 (E1.trans E4) R4 ?_ (λp z=>by cases z)
  show Rep B4 b (l9 (d0,i0,z0) Aa).1;rw[<-hb];exact rb
 ·obtain⟨c,hc,rc⟩:=(aP.cons rv0 rps).Ji i v hv
  have hlt:i<(d0::ds).length:=(zac hc).1;rw[zbb hlt]at hk;have hce:(d0::ds)[i]=c:=(zac hc).2;rw[hce]at hk;obtain⟨y',i',z',r',k1',k2',k3',k4'⟩:=tD hk;subst k4';have Ri':=R4.inner fr (rc.mono eB);refine he.sv (F0 H4) B4 H4 _ _ y'.1 y'.2 _ Ri' k1' λu' B5 H5 E5 R5 V5 N5=>?_
  obtain⟨eH5,nb5⟩:=il gf E5;have R5o:Rel F B5 H5 σ ρ1:=R4.grow E5.sB eH5 R5.sub nb5 R5.cO R5.nz;rw[k2']at V5;have V5':Rep B5 u' (.tuple [.int i',.str z']):=V5;obtain⟨pu,rfl,hpu⟩:=qP V5';obtain⟨pk,rfl,hpk⟩:=qP (rk.mono E5.sB);have Lz:∀q,H1 q≠none->B1 q=none->B5 q=none:=λq h z=>nb5 q (λy=>h (eH.free y)) (nb q h z)
  refine⟨pu,pk,i',z',bd.2.1,bd.2.2,rfl,rfl,.inl (.inl (R5o.sub _ _ hpu)),.inl (.inl (R5o.sub _ _ hpk)),_,rfl,?_⟩;simp only[l9]at hb
  by_cases hp:aX i' z' bd.2.1 bd.2.2=true
  ·rw[if_pos hp]
   rw[if_pos hp]at hb;exact⟨by omega,hlt,B5,(c,i',z'),r',eB.trans E5.sB,eH.trans eH5,Lz,R5o,(rc.mono eB).mono E5.sB,V5',k3',hb⟩
  ·rw[if_neg hp]
   rw[if_neg hp]at hb;exact⟨by omega,hlt,B5,bd,r',eB.trans E5.sB,eH.trans eH5,Lz,R5o,rb.mono E5.sB,rk.mono E5.sB,k3',hb⟩
end
end Mir
namespace L2
open PySem
theorem dH.lam(r:dH k A)(h:j+2<=k)(env:Env):dH j (A.in1.deeper env):=(dH.in1 (k:=j+1) (r.mono h)).deeper env
theorem Gr{ts:List Addr}{h:Heap}(e:((gx K).all λx=>ts.contains x.2.1)=true)(t:∀T∈ts,h.get? T=some (PySem.W.tabObj #[])):∀c T ps,gx K=some (c,T,ps)->h.get? T=some (PySem.W.tabObj #[]):=λc T ps z=>by
 rw[z]at e;exact t T (by simpa using e)
end L2
namespace Mir
open PySem L2
section
variable [Zc]
def pairD:D->Option (Int×Str)
 | .tuple [.int i,.str z]=>some (i,z)
 |_=>none
def pkD(ds:List D)(i:Nat):Int×Str:=((ds[i]?).bind pairD).getD (0,"")
def wR:List D->Option (D×Bool)
 | [.list ds]=>if(ds.all λd=>(pairD d).isSome)=true then(ds[argBest (btK (pkD ds)) (ds.length-1)]?).map λd=>(d,false)else none
 |_=>none
theorem Ed(h:pairD d=some p):d=.tuple [.int p.1,.str p.2]:=by
 unfold pairD at h;split at h
 ·cases h;rfl
 ·cases h
theorem JY:mX (HY K) wR:=by
 intro B H vs ds res s h e;unfold wR at e;split at e
 ·rename_i l
  split at e
  ·rename_i hall
   obtain⟨d,h1,h2⟩:=zab e;cases h2;obtain⟨v,rfl,hv⟩:=gO h;obtain⟨p,xs,rfl,hr,rp⟩:=hv.list s;obtain⟨x,hx,rx⟩:=rp.get _ d h1;rw[<-rp.length]at hx;refine⟨x,rx,λQ q=>⟨p,xs,pkD l,x,rfl,jF hr,λi y hy=>?_,hx,q⟩⟩
   obtain⟨c,hc,rc⟩:=rp.Ji i y hy;have hp:=List.all_eq_true.mp hall c (zaj hc);obtain⟨pr,hpr⟩:=Option.isSome_iff_exists.mp hp;have e2:pkD l i=pr:=by unfold pkD;rw[hc];show(pairD c).getD _=_;rw[hpr];rfl
   rw[Ed hpr]at rc;obtain⟨a,rfl,ha⟩:=qP rc;exact⟨a,rfl,by rw[e2];exact .inl (.inl (s _ _ ha))⟩
  ·cases e
 ·cases e
end
end Mir
namespace L2
open PySem PySem.Spec PyProof.Rows
def Its(x:Str):It:=⟨λi _=>i<x.cps.size,λi H v H'=>H'=H/\∃c,x.cps[i]?=some c/\v=.str ⟨#[c]⟩,λi _=>x.cps.size<=i⟩
theorem Bw{K:zag}{it:Addr}{x:Str}{t:Tok}{T:String}(hW:∀A:Around,A.handled=none->Walks P w A it [it] [it] x.cps.size (SignAt x) λi h=>h.IsStrIter it T x t i)
  (hT : ["enumerate","zip","dict_itemiterator","dict_reverseitemiterator","odict_iterator","itertools.zip_longest","itertools.pairwise"].contains T=false)
  (hS:∀(A:Around) (i:Nat) (s:Shared) (Q:Value->Shared->Prop) (E:Value->Shared->Prop),s.heap.IsStrIter it T x t i->Q (.ref it) s->wpAny (model P w) A (pyIter (.ref it)) Q E s) :
  Turn P w K tg (Its x) [it] it (λi h=>i<=x.cps.size/\h.IsStrIter it T x t i) where
 mem:=by simp
 obj:=λi h st b hb=>by
  have e:b=it:=by simpa using hb
  subst e;obtain⟨_,o,e,c,d⟩:=st;exact⟨o,e,λv z=>by rw[d]at z;cases z⟩
 keep:=λi h h' st k=>by
  obtain⟨hi,o,e,c,d⟩:=st;exact⟨hi,o,k it (by simp) o e,c,d⟩
 item:=by
  intro X hP hw hK hc i pins s σ H E I hf st hg;subst hP hw hK;obtain⟨f0,f1,f2,f3,f4,f5⟩:=hf it (by simp)
  refine(hW X.A (I.ok.hd hc)).item i s _ _ hg st.2 λv h' tk hv st' kk=>?_
  obtain⟨c,u,hcu,rfl⟩:=hv;have I1:Inv X pins σ H {s with heap:=h',toks:=tk}:=I.turned (λb o hb e=>kk b o (by simpa using hb) e) f0 f1 f3 f4 f5
  obtain⟨o,e,ec,ed⟩:=id st';exact⟨_,rfl,vO (s:={s with heap:=h',toks:=tk}) e ec ed hT ⟨.str ⟨#[c]⟩,H,I1,⟨u,rfl⟩,⟨rfl,c,hcu,rfl⟩,⟨hg,st'⟩,λb hb=>(hf b hb).1⟩⟩
 done:=by
  intro X hP hw hK hc i pins s σ H E I hf st hg;subst hP hw hK;obtain⟨f0,f1,f2,f3,f4,f5⟩:=hf it (by simp)
  have hi:i=x.cps.size:=Nat.le_antisymm st.1 hg;subst hi;exact(hW X.A (I.ok.hd hc)).done s _ _ st.2 λh' tk kk=>⟨rfl,I.turned (λb o hb e=>kk b o (by simpa using hb) e) f0 f1 f3 f4 f5⟩
 self:=λA i s Q E st h=>hS A i s Q E st.2 h
section
variable{X:Cx}{tg:Expr}
def LA(te:TE):TI:=fun σ H R=>te σ H λv H1=>∃x,v=.str x/\R (Its x) H1
theorem JZ(hl:PE X l tl):PI X tg l (LA tl):=by
 intro pins s σ H R I h;refine thn (hl pins s σ H _ I h) λv s1 ⟨y,H1,I1,r1,q1⟩=>?_
 obtain⟨x,rfl,q⟩:=q1;obtain⟨t,rfl⟩:=r1;have fin:∀(o:Obj) (T:String),(∀A:Around,A.handled=none->Walks X.prog X.w A s1.heap.objs.size [s1.heap.objs.size] [s1.heap.objs.size] x.cps.size (SignAt x) λi h=>h.IsStrIter s1.heap.objs.size T x t i)->
   ["enumerate","zip","dict_itemiterator","dict_reverseitemiterator","odict_iterator","itertools.zip_longest","itertools.pairwise"].contains T=false->
   (∀(A:Around) (i:Nat) (s:Shared) (Q:Value->Shared->Prop) (E:Value->Shared->Prop),s.heap.IsStrIter s1.heap.objs.size T x t i->Q (.ref s1.heap.objs.size) s->wpAny (model X.prog X.w) A (pyIter (.ref s1.heap.objs.size)) Q E s)->
   (s1.heap.push o).IsStrIter s1.heap.objs.size T x t 0->PIE X pins σ tg R (.ref s1.heap.objs.size) {s1 with heap:=s1.heap.push o}:=λo T hW hT hS st=>
  ⟨s1.heap.objs.size,[s1.heap.objs.size],_,_,H1,rfl,I1.kept (t':=s1.toks) λb o e=>zar _ e,Bw hW hT hS,⟨Nat.zero_le _,st⟩,λb hb=>by
   have e:b=s1.heap.objs.size:=by simpa using hb
   subst e;exact I1.pE (zap _) (I1.hok.fresh (zap _)),q⟩
 cases ha:x.cps.all (· <128)
 ·exact wpAny_pyIter_wide ha (fin _ _ (λA' hA=>Walks.strWide hA _ x t) (by decide) (λ_ _ _ _ _ st hQ=>wpAny_pyIter_striter_wide st hQ) ⟨_,zaL _ rfl,rfl,rfl⟩)
 ·exact wpAny_pyIter_ascii ha (fin _ _ (λA' hA=>Walks.strAscii hA _ x t) (by decide) (λ_ _ _ _ _ st hQ=>wpAny_pyIter_striter_ascii st hQ) ⟨_,zaL _ rfl,rfl,rfl⟩)
def leS(x y:Str):Bool:=!decide (y.cps.toList<x.cps.toList)
def Gs:R2:=λa b H Q=>∃x y,a=.str x/\b=.str y/\Q (.bl (leS x y)) H
theorem Ee:OpR X (compareOp .LtE) Gs:=by
 intro pins s σ H x y v u Q I rx ry h;obtain⟨a,b,rfl,rfl,q⟩:=h;obtain⟨t1,rfl⟩:=rx;obtain⟨t2,rfl⟩:=ry;exact PySem.P.le_str ⟨.bl (leS a b),H,I,rfl,q⟩
end
end L2
namespace Mir
open PySem L2
section
variable [Zc]
def oO(x:Str):List D:=x.cps.toList.map λc=>.str ⟨#[c]⟩
def J0(a:PM):Rho->Option (List D×Rho):=fun ρ=>(sv a ρ).bind λx=>match x.1.1 with
 | .str z=>some (oO z,x.2)
 |_=>none
theorem J3:ml G B (Its x) (oO x):=λH _=>by
 refine⟨by simp[oO,Its],λi d hd=>?_⟩
 unfold oO at hd;rw[zao]at hd;obtain⟨c,h1,h2⟩:=zab hd;rw[Array.getElem?_toList]at h1;refine⟨(Array.getElem?_eq_some_iff.mp h1).1,λv H' hy=>.inl ⟨hy.1,?_⟩⟩
 obtain⟨_,c',h3,h4⟩:=hy;rw[h1]at h3;cases h3;rw[h4,<-h2];exact .str _
theorem J4(ha:ME ta a):MI (LA ta) (J0 a):=by
 intro F B H σ ρ ds ρ' Q R e q;obtain⟨x,e1,e⟩:=zaa e;split at e
 ·rename_i z hz
  cases e;refine ha.sv F B H σ ρ x.1 x.2 _ R e1 λv B1 H1 E1 R1 V1 N1=>?_
  have w:=V1.view R1;rw[hz]at w;exact⟨z,w.str,q _ B1 H1 E1 R1 J3⟩
 ·cases e
def wU:D->D->Option (D×Bool)
 | .str x,.str y=>some (.bool (leS x y),false)
 |_,_=>none
theorem HZ:OpJ Gs wU:=by
 intro B H x y c d res s hx hy e;unfold wU at e;split at e
 ·cases e
  have:=hx.str;subst this
  have:=hy.str;subst this
  exact fN λQ q=>⟨_,_,rfl,rfl,q⟩
 ·cases e
theorem Bx(h:Gs x y H Q)(k:∀v H',Q v H'->Q' v H'):Gs x y H Q':=by
 obtain⟨a,b,e1,e2,q⟩:=h;exact⟨a,b,e1,e2,k _ _ q⟩
end
end Mir
namespace L2
open PySem PySem.Spec PyProof.Rows
section
variable{X:Cx}
def Ia(H0:Hp)(t:TS):TS:=λD σ H=>∃a kvs,H a=some (.dK kvs)/\∀o,(∀o' v,H0 a≠some (.frz o' v))->t (F9 a o kvs D) σ (upd H a (.frz o (.dK kvs)))
theorem Gu{st:Stmt}(h:PS X st t):PS X st (Ia X.H₀ t):=by
 intro pins s σ H D I hw;obtain⟨a,kvs,e,q⟩:=hw;obtain⟨o,I1⟩:=I.JN e;have nz:=I.zY e;refine za6 (h pins s σ _ _ I1 (q o nz)) (λf s1 z=>?_) λ_ _ z=>z
 cases f with
 |next=>obtain⟨σ',H',I',e',z⟩:=z;exact⟨σ',_,I'.jk e' nz,z⟩
 |brk=>obtain⟨σ',H',I',e',z⟩:=z;exact⟨σ',_,I'.jk e' nz,z⟩
 |cont=>obtain⟨σ',H',I',e',z⟩:=z;exact⟨σ',_,I'.jk e' nz,z⟩
 |ret u=>obtain⟨v,σ',H',I',r,e',z⟩:=z;exact⟨v,σ',_,I'.jk e' nz,r,z⟩
def LB(H0:Hp)(t:TS):TS:=λD σ H=>∃a o kvs,H a=some (.frz o (.dK kvs))/\(∀o' v,H0 a≠some (.frz o' v))/\t D σ (upd H a (.dK kvs))
theorem J7{st:Stmt}(h:PS X st t):PS X st (LB X.H₀ t):=by
 intro pins s σ H D I hw;obtain⟨a,o,kvs,e,nz,q⟩:=hw;exact h pins s σ _ _ (I.jk e nz) q
def Ef(H0:Hp)(t:TS):TS:=λD σ H=>Ia H0 t D σ H\/t D σ H
theorem Eg{st:Stmt}(h:PS X st t):PS X st (Ef X.H₀ t):=by
 intro pins s σ H D I hw;rcases hw with hw|hw
 ·exact Gu h pins s σ H D I hw
 ·exact h pins s σ H D I hw
def Ib(H0:Hp)(t:TS):TS:=λD σ H=>LB H0 t D σ H\/t D σ H
theorem Gv{st:Stmt}(h:PS X st t):PS X st (Ib X.H₀ t):=by
 intro pins s σ H D I hw;rcases hw with hw|hw
 ·exact J7 h pins s σ H D I hw
 ·exact h pins s σ H D I hw
end
theorem J8:starEach (.Constant c k p::es) env=(false,eval (.Constant c k p) env)::starEach es env:=by rfl
theorem J9:starEach (.Tuple l c p::es) env=(false,eval (.Tuple l c p) env)::starEach es env:=by rfl
theorem Ka:starEach (.List l p::es) env=(false,eval (.List l p) env)::starEach es env:=by rfl
theorem Kb:starEach (.Dict l c p::es) env=(false,eval (.Dict l c p) env)::starEach es env:=by rfl
open PySem PySem.Spec
structure WS(X:Cx)(st:Stmt)(t:TS):Prop where
 h:PS X st t
structure WSs(X:Cx)(ss:List Stmt)(t:TS):Prop where
 h:PSs X ss t
inductive LW(X:Cx):List Expr->TA->Prop
 |nil:LW X [] pF
 |c {c k} {p:Pos} {te:TE} {es:List Expr} {t:TA}:PE X (.Constant c k p) te->LW X es t->LW X (.Constant c k p::es) (fB te t)
 |t {l c} {p:Pos} {te:TE} {es:List Expr} {t:TA}:PE X (.Tuple l c p) te->LW X es t->LW X (.Tuple l c p::es) (fB te t)
 |l {l} {p:Pos} {te:TE} {es:List Expr} {t:TA}:PE X (.List l p) te->LW X es t->LW X (.List l p::es) (fB te t)
 |d {l c} {p:Pos} {te:TE} {es:List Expr} {t:TA}:PE X (.Dict l c p) te->LW X es t->LW X (.Dict l c p::es) (fB te t)
theorem LW.pa{t:TA}(h:LW X es t):PA X es t:=by
 induction h with
 |nil=>exact aq
 |c a _ ih=>exact aa a ih J8
 |t a _ ih=>exact aa a ih J9
 |l a _ ih=>exact aa a ih Ka
 |d a _ ih=>exact aa a ih Kb
section
variable{X:Cx}{st:Stmt}{rest:List Stmt}{t u:TS}{pos:Pos}
theorem wV(h:PS X st t):WS X st t:=⟨h⟩
theorem gH(h1:WS X st t)(h2:WSs X rest u):WSs X (st::rest) (AJ t u):=⟨aw h1.h h2.h⟩
theorem Gw(h1:WS X st t):WSs X [st] t:=⟨aH h1.h⟩
theorem fold_list:foldedSetIterable (.List l p) env x=pure x:=by rfl
theorem Kc{K:zag}{p:Pos}{body:List Stmt}{g:TG}{tb:TS}(hK:X.K=K)(hp:PassesOwn (model X.prog X.w) X.A X.env X.xe)(hc:X.calm=true)(hi:LW X es ta)(hg:PG X tg g)(hb:PSs X body tb):WS X (.For tg (.List es p) body [] pos) (vP (zj K (E8 ta)) g tb):=⟨jV hp hc (Mir.wc hK (cU hi.pa)) hg hb λ_=>fold_list⟩
theorem mkBody{R:TS->Prop}(h:WSs X body t)(r:R t):∃t,PSs X body t/\R t:=⟨t,h.h,r⟩
end
end L2
namespace Mir
open PySem L2
section
variable [Zc]
def qQ(g:D->Rho->Option Rho)(b:EM):List D->EM
 | [],ρ=>some (.ok (.nx ρ))
 |d::ds,ρ=>(g d ρ).bind fun ρ1=>(b ρ1).bind λo=>match o with
  | .ok (.nx ρ2)=>qQ g b ds ρ2
  | .ok (.ct ρ2)=>qQ g b ds ρ2
  | .ok (.bk ρ2)=>some (.ok (.nx ρ2))
  | .ok (.rt r ρ2)=>some (.ok (.rt r ρ2))
  | .er c ρ2=>some (.er c ρ2)
theorem mr.down(R1:Rel F B1 H1 σ1 ρ1){D:Ends}{W:Str->Hp->Prop}{o:oE}(h:mr F D W o):mr ⟨B1,F.H,F.io,F.Z⟩ D W o:=by
 cases o with
 |ok o=>exact kQ.down R1 h
 |er c ρ=>exact λB H σ R=>h B H σ (R1.up R)
theorem Ab{W0:Str->Hp->Prop}{b:EM}(hg:MG tg g)(hb:MSE W0 tb b){F:Fr}{B1 H1:Hp}{σ:St}{ρ1:Rho}{J:It}{ds:List D}{o:oE}{D:Ends}(R1:Rel F B1 H1 σ ρ1)(I1:ml B1 B1 J ds)(e:qQ g b ds ρ1=some o)(q:mr F D W0 o) :
  ∃W:Nat->Nat->St->Hp->Prop,(∃m,W 0 m σ H1)/\∀i m σ H,W i m σ H->(J.stop i H/\D.nx σ H)\/(J.go i H/\∃N:St->Hp->Prop,(∀σ' H',N σ' H'->∃m',m'<m/\W (i+1) m' σ' H')/\∀x H',J.yld i H x H'->tg x σ H' fun σ2 H2=>tb {D with nx:=N,ct:=N,bk:=D.nx} σ2 H2):=by
 have q':=q.down R1;refine⟨λi m σ H=>m=ds.length-i/\i<=ds.length/\∃B ρ,Rel ⟨B1,F.H,F.io,F.Z⟩ B H σ ρ/\qQ g b (ds.drop i) ρ=some o,⟨ds.length,rfl,Nat.zero_le _,B1,ρ1,R1.down,e⟩,?_⟩
 rintro i m σ2 H2 ⟨rfl,hil,B2,ρ2,R2,e2⟩
 have sH:aD B1 H2:=R2.sB.trans R2.sub
 by_cases hlt:i<ds.length
 ·refine .inr ?_
  obtain⟨go,yl⟩:=(I1 H2 sH).2 i ds[i] (zaC hlt);rw[zbb hlt]at e2;obtain⟨ρ3,e3,e4⟩:=zaa (show(g ds[i] ρ2).bind _=some o from e2);obtain⟨w,e5,e6⟩:=zaa e4;refine⟨go,fun σ' H'=>∃B' ρ',Rel ⟨B1,F.H,F.io,F.Z⟩ B' H' σ' ρ'/\qQ g b (ds.drop (i+1)) ρ'=some o,fun σ' H' h'=>⟨ds.length-(i+1),by omega,rfl,hlt,h'⟩,λy H3 hy=>?_⟩
  have had:∃B3,Rel ⟨B1,F.H,F.io,F.Z⟩ B3 H3 σ2 ρ2/\Rep B3 y ds[i]:=by
   rcases yl y H3 hy with⟨rfl,h2⟩|⟨p,xs,cs,h1,rfl,h3,rfl,h5⟩
   ·exact⟨B2,R2,h2.mono R2.sB⟩
   ·obtain⟨R3,E3,e3⟩:=R2.oz (xs:=xs) h3
    exact⟨_,R3,by rw[h1];exact .tup ar (h5.mono (R2.sB.trans e3))⟩
  obtain⟨B3,R3,rp⟩:=had;refine hg _ B3 H3 σ2 ρ2 y ds[i] ρ3 _ R3 rp e3 λB4 H4 σ4 R4 _=>?_
  refine hb _ B4 H4 σ4 ρ3 w _ R4 e5 ?_;cases w with
  |er c ρ'=>cases e6;exact q'
  |ok w=>
   cases w with
   |nx ρ'=>exact λB' H' σ' R'=>⟨B',ρ',R',e6⟩
   |ct ρ'=>exact λB' H' σ' R'=>⟨B',ρ',R',e6⟩
   |bk ρ'=>cases e6;exact q'
   |rt r ρ'=>cases e6;exact q'
 ·have hi':i=ds.length:=by omega
  subst hi';rw[List.drop_length]at e2;cases e2;exact .inl ⟨(I1 H2 sH).1,q' B2 H2 σ2 R2⟩
def Ic:oE->Rho
 | .ok o=>Bl o
 | .er _ ρ=>ρ
def fzW(H0:Hp)(W:Str->Hp->Prop):Str->Hp->Prop:=λc H=>(∃a o kvs,H a=some (.frz o (.dK kvs))/\(∀o' v,H0 a≠some (.frz o' v))/\W c (upd H a (.dK kvs)))\/W c H
theorem yy(ht:∀σ H Q,Q vs H->t σ H Q)(hl:vs.length<=100)(hw:∀H,W c H->W' H):MSE (fzW H0 W) (Ib H0 (xU W' t)) (fun ρ=>some (.er c ρ)):=by
 intro F B H σ ρ o D R e q;cases e;rcases q B H σ R with⟨a,ob,kvs,h1,h2,h3⟩|h
 ·exact .inl ⟨a,ob,kvs,h1,h2,ht _ _ _ ⟨hl,hw _ h3⟩⟩
 ·exact .inr (ht _ _ _ ⟨hl,hw _ h⟩)
theorem By{σ0:St}{ρ0:Rho}{a:Addr}{ob:Obj}{kvs:List (Key×V)}(R0:Rel F B0 Hz σ0 ρ0)(hB:B0 a=some (.dK kvs))(nz:∀o' v,H0 a≠some (.frz o' v)){o:oE}{D:Ends}(nr:iQ (Ic o)=true)(q:mr F D W o):mr ⟨upd B0 a (.frz ob (.dK kvs)),(F.hide a (.frz ob (.dK kvs))).H,F.io,(F.hide a (.frz ob (.dK kvs))).Z⟩ (F9 a ob kvs D) (fzW H0 W) o:=by
 cases o with
 |ok o=>exact nI R0 hB nr q
 |er c ρ=>
  intro B H σ R;have h:=nI (ob:=ob) (o:=.nx ρ) (D:=⟨λ_ H=>W c H,λ_ _=>True,λ_ _=>True,λ_ _=>True⟩) R0 hB nr q B H σ R
  exact .inl ⟨a,ob,kvs,h.1,nz,h.2⟩
def Ac(dv:PM)(g:D->Rho->Option Rho)(b:EM):EM:=fun ρ=>(dv ρ).bind λx=>(o9 x.1).bind λes=>if iQ ρ=true then(qQ g b (es.map (·.1)) x.2).bind λo=>if iQ (Ic o)=true then some o else none else none
theorem Eh(hc:Calm tl dv)(hg:MG tg g)(hb:MSE (fzW H0 W) tb b):MSE W (Ef H0 (vP (Ga tl) tg tb)) (Ac dv g b):=by
 intro F B H σ ρ o D R e q;obtain⟨x,e1,e⟩:=zaa e;obtain⟨es,e2,e⟩:=zaa e;split at e
 rotate_left
 ·cases e
 rename_i nr
 obtain⟨o',e3,e⟩:=zaa e;split at e
 rotate_left
 ·cases e
 rename_i nr2
 cases e;obtain⟨r,ρ1⟩:=x;obtain⟨rfl,v,rv,h1,h2⟩:=hc F B H σ ρ r ρ1 R e1;obtain rfl:=nH e2;cases rv with
 | @dct a kvs _ hd rk=>
  rcases hd with hd|⟨ob,hd⟩
  ·refine .inl ⟨a,kvs,R.sub a _ hd,λob nz=>?_⟩
   have R':=R.hide (o:=ob) hd nr;refine h2 a ob kvs hd _ ⟨a,ob,kvs,rfl,ar,?_⟩;exact Ab hg hb R'.down (oM ar (aZ.map' (mv hd) (mw hd) (my hd) rk)) e3 (By R hd nz nr2 q)
  ·refine .inr (h1 _ ⟨a,ob,kvs,rfl,R.sub a _ hd,Ab hg hb R (oM hd rk) e3 ?_⟩)
   cases o with
   |ok o=>exact q
   |er c ρ=>exact λB H σ R=>.inr (q B H σ R)
def oP(m:PM)(j:Nat):Rho->Option (D×D):=fun ρ=>(m ρ).bind λx=>match x.1,x.2[j]? with
 |(c,.new),some (.own d)=>some (c,d)
 |_,_=>none
theorem Ad(h:ME te m):MD (Cm (Cz (fB te (fB (kI j) pF)))) (oP m j):=by
 intro F B H σ ρ c E R e q;obtain⟨x,e1,e⟩:=zaa e;obtain⟨r,ρ1⟩:=x;split at e
 case h_2=>cases e
 rename_i c1 d1 hr hj
 cases e;obtain rfl:=(show r=(c1,.new)from hr);refine h F B H σ ρ _ ρ1 _ R e1 λv B1 H1 E1 R1 V1 _=>?_
 obtain⟨p,rfl,bp,hp,op,np⟩:=V1;obtain⟨s,vj,bj,oj⟩:=R1.slot j _ hj;have hne:p≠s:=λz=>np j _ hj rfl (z▸vj)
 refine⟨_,vj,(by simp only[List.length_cons,List.length_nil,sizeLine];omega),λa ha=>?_⟩
 obtain⟨R',_,eB⟩:=R1.oz (xs:=[.ref p,.ref s]) ha;have pa:p≠a:=λz=>op.g9 (z▸ha)
 have ra:s≠a:=λz=>oj.g9 (z▸ha)
 refine q _ _ _ σ ρ1 R' ⟨a,p,s,rfl,ar,hne,hp,R1.jD j _ s hj vj,by rw[ao pa];exact bp,by rw[ao ra];exact bj,op.mono eB λo h=>by rw[ao pa];exact h,oj.mono eB λo h=>by rw[ao ra];exact h⟩
end
section
variable [Zc] [Zl]{W:WX}
theorem DK(h:kV k=kV k'):k=k':=by
 cases k<;>cases k'<;>simp[kV]at h<;>simp[h]
def yz(n e j:Nat):List (D×D)->SS->Option SS
 | [],s=>some s
 |p::es,s=>(keyOf p.1).bind λkey=>match s.S[j]? with
  |some (some (.dat (.dict ds)))=>if ds.length<100000/\n<s.t.length/\e<s.t.length then yz n e j es ⟨s.S.set j (some (.dat (.dict (putD ds p.1 p.2 key)))),(s.t.set n (some (.pl p.1))).set e (some (.pl p.2))⟩else none
  |_=>none
def wW(i d n e:Nat):SN:=λs=>match s.t[i]?,s.t[d]? with
 |some (some (.tp [_,.lc k])),some (some (.lc j))=>if j=k\/d=n\/d=e\/n=e then none else match s.S[k]? with
  |some (some (.dat (.dict es)))=>(yz n e j es s).map .nx
  |_=>none
 |_,_=>none
theorem Ei(h:H a=some w):upd (upd H a u) a w=H:=by
 funext q
 by_cases z:q=a
 ·subst z;rw[ar,h]
 ·rw[ao z,ao z]
theorem wX(h:a≠b):upd (upd H a u) b w=upd (upd H b w) a u:=by
 funext q
 by_cases z:q=b
 ·subst z;rw[ar,ao (λy=>h y.symm),ar]
 ·rw[ao z]
  by_cases y:q=a
  ·subst y;rw[ar,ar]
  ·rw[ao y,ao y,ao z]
theorem Gx:NS W (uS (vP (JQ (tOp (rIx K) (kI i) (tC (.int 1)))) (zr K' 2 (vN (mP n) (vN (mP e) EZ))) (zT (kI d) (kI n) (kI e)))) (wW i d n e):=by
 intro G A B H σ s o D R ev q;unfold wW at ev;split at ev
 case h_2=>cases ev
 rename_i x0 k j hi hd
 split at ev
 ·cases ev
 rename_i hne
 have hjk:j≠k:=λz=>hne (.inl z)
 have hdn:d≠n:=λz=>hne (.inr (.inl z))
 have hde:d≠e:=λz=>hne (.inr (.inr (.inl z)))
 have hnE:n≠e:=λz=>hne (.inr (.inr (.inr z)))
 split at ev
 case h_2=>cases ev
 rename_i es hk
 obtain⟨sf,e1,ev⟩:=zab ev;cases ev;obtain⟨v,vi,rv⟩:=R.slot i _ hi;obtain⟨w,vd,rw'⟩:=R.slot d _ hd;cases rw' with
 | @lc _ b hb=>
 cases rv with
 | @tp t vs _ ht rs=>
 cases rs with
 | @cons v0 _ vs' _ r0 rs=>
 cases rs with
 | @cons v1 _ vs'' _ r1 rs=>
 cases rs with
 |nil=>
 cases r1 with
 | @lc _ a ha=>
 have hab:b≠a:=λz=>by
  subst z;exact hjk ((List.getElem?_inj (zac hb).1 R.st.nd).mp (hb.trans ha.symm))
 cases R.st.cell k _ _ hk ha with
 |dat ow=>
 obtain⟨kvs,hH,rk⟩:=ow.dict;have hta:t≠a:=λz=>by
  have:=R.sub t _ ht;rw[z,hH]at this;cases this
 refine .inl ⟨a,kvs,hH,λob=>?_⟩
 refine⟨.ref t,vi,.inr (.inl ⟨t,_,1,.ref a,rfl,rfl,.inl (.inl (by rw[ao hta];exact R.sub t _ ht)),rfl,a,ob,kvs,rfl,ar,?_⟩)⟩
 have hl:=rk.length;refine⟨λc m σ' H'=>m=es.length-c/\c<=es.length/\∃B' H'' s',H'=upd H'' a (.frz ob (.dK kvs))/\H'' a=some (.dK kvs)/\a7 G A B' H'' σ' s'/\aD B B'/\σ'[d]?=some (some (.ref b))/\yz n e j (es.drop c) s'=some sf,⟨es.length,rfl,Nat.zero_le _,B,H,s,rfl,hH,R,aD.refl _,vd,e1⟩,?_⟩
 rintro c m σ' H' ⟨rfl,hc,B',H'',s',rfl,hH',R',eB,vd',e2⟩
 by_cases hlt:c<es.length
 ·refine .inr ⟨⟨ar,by omega⟩,fun σ2 H2=>∃B' H'' s',H2=upd H'' a (.frz ob (.dK kvs))/\H'' a=some (.dK kvs)/\a7 G A B' H'' σ2 s'/\aD B B'/\σ2[d]?=some (some (.ref b))/\yz n e j (es.drop (c+1)) s'=some sf,fun σ2 H2 h=>⟨es.length-(c+1),by omega,rfl,hlt,h⟩,?_⟩
  rintro x H3 ⟨p,k0,u,rfl,hp,rfl,hku⟩
  have hpa:p≠a:=λz=>by rw[z,ar]at hp;cases hp
  rw[ao hpa]at hp;obtain⟨g1,g2⟩:=DZ rk c hku (zaC hlt);rw[zbb hlt]at e2;obtain⟨key,e3,e4⟩:=zaa (show(keyOf es[c].1).bind _=some sf from e2);have g1r:Rep B (kV k0) es[c].1:=g1.rep;have hkey:kV k0=kV key:=View.key (H:=H) (.inl g1r) e3;obtain rfl:=DK hkey;split at e4
  case h_2=>cases e4
  rename_i ds hj
  split at e4
  case isFalse=>cases e4
  rename_i hz
  obtain⟨z1,z2,z3⟩:=hz;cases R'.st.cell j _ _ hj hb with
  |dat ow=>
  obtain⟨hvs,hHb,rh⟩:=ow.dict;have hpb:b≠p:=λz=>by rw[z,hp]at hHb;cases hHb
  obtain⟨R1,eB1⟩:=R'.oz (xs:=[kV k0,u]) hp;have R2:=R1.write (k:=j) (a:=b) (o:=.dK (putK hvs k0 u)) (c:=.dat (.dict (putD ds es[c].1 es[c].2 k0))) hb trivial (.dat (.dct ar (aZ.put (uM e3) ((g2.mono eB).mono eB1) (rh.mono eB1))));have R3:=(R2.set (i:=n) (v:=kV k0) (x:=.pl es[c].1) z2 (.pl ((g1r.mono eB).mono eB1))).set (i:=e) (v:=u) (x:=.pl es[c].2) (by simpa using z3) (.pl ((g2.mono eB).mono eB1))
  have ln : σ'.length=s'.t.length:=R'.len.symm;have s_e:((σ'.set n (some (kV k0))).set e (some u))[e]?=some (some u):=by
   rw[zav];rw[zaM,ln];exact z3
  have s_n:((σ'.set n (some (kV k0))).set e (some u))[n]?=some (some (kV k0)):=by
   rw[zaA (λy=>hnE y.symm),zav];rw[ln];exact z2
  have s_d:((σ'.set n (some (kV k0))).set e (some u))[d]?=some (some (.ref b)):=by
   rw[zaA (λy=>hde y.symm),zaA (λy=>hdn y.symm)];exact vd'
  have hb3:(upd (upd H'' a (.frz ob (.dK kvs))) p (.tup [kV k0,u])) b=some (.dK hvs):=by rw[ao hpb,ao hab];exact hHb
  refine⟨p,[kV k0,u],rfl,.inl (.inl (.inl ar)),rfl,_,_,rfl,_,_,rfl,rfl,?_⟩;refine⟨u,s_e,.ref b,s_d,kV k0,s_n,_,_,rfl,.inl ⟨hvs,k0,hb3,rfl,by rw[rh.length,sizeLine_eq];omega,rfl⟩,?_⟩
  refine⟨_,_,_,?_,?_,R3,eB.trans eB1,s_d,e4⟩
  ·rw[wX (a:=a) (b:=p) (λz=>hpa z.symm),wX (a:=a) (b:=b) (λz=>hab z.symm)]
  ·rw[ao (λz=>hab z.symm),ao (λz=>hpa z.symm)];exact hH'
 ·have hc':c=es.length:=by omega
  subst hc';rw[List.drop_length]at e2;cases e2;refine .inl ⟨⟨ar,by omega⟩,ar,?_⟩
  rw[Ei hH'];exact q A B' H'' σ' R'
end
end Mir
namespace L2
open PySem PySem.W PySem.Calls PySem.Spec PyProof.Rows
open PySem.AutoSeq1 (wpAny_loadPart')
section
variable{prog:Program}{w:World}{A:Around}{s:Shared}
def EqP(prog:Program)(w:World)(A:Around)(s:Shared)(y x:Value):Prop:=∀(E:Value->Shared->Prop) (Q:Bool->Shared->Prop),Q true s->wpAny (model prog w) A (eqBool y x) Q E s
theorem wY:(forIn ([0:n]:Std.Legacy.Range) c f:Sem β)=forIn (List.range' 0 n) c f:=by
 rw[Std.Legacy.Range.forIn_eq_forIn_range'];have hsz:([0:n]:Std.Legacy.Range).size=n:=by simp[Std.Legacy.Range.size]
 show forIn (List.range' 0 ([0:n]:Std.Legacy.Range).size 1) c f=_;rw[hsz]
variable{K:Type} [DecidableEq K]{knd:PySem.KeyKind prog w K}
theorem pairs_at(h:Pairs knd es kvs):∀(i:Nat) (e:DictEntry),es[i]?=some e->∃kv,kvs[i]?=some kv/\knd.is kv.1 e.key=true/\e.val=kv.2:=by
 induction h with
 |nil=>intro i e h;simp at h
 | @cons e' kv es kvs h1 h2 _ ih=>
  intro i e h;cases i with
  |zero=>cases(show some e'=some e by simpa using h);exact⟨kv,rfl,h1,h2⟩
  |succ i=>simpa using ih i e (by simpa using h)
theorem Ae{β:Type}:∀{kvs:List (K×β)} {x:Nat} {u:K×β} {k:K},(kvs.map (·.1)).Nodup->kvs[x]?=some u->u.1=k->kvs.findIdx? (λkv=>decide (kv.1=k))=some x
 | [],_,_,_,_,h,_=>by simp at h
 |a::kvs,0,u,k,_,h,e=>by
  have:a=u:=by simpa using h
  rw[List.findIdx?_cons,this,e];simp
 |a::kvs,x+1,u,k,hn,h,e=>by
  have hn':=List.nodup_cons.mp (show(a.1::kvs.map (·.1)).Nodup from hn)
  have h':kvs[x]?=some u:=by simpa using h
  have ne : ¬a.1=k:=λz=>hn'.1 (by rw[z,<-e];exact List.mem_map_of_mem (zaj h'))
  rw[List.findIdx?_cons,zaO ne,Ae hn'.2 h' e];rfl
theorem Ej(hl:s.heap.DictOf knd l kvs)(hb:s.heap.DictOf knd b kws)(hls:(l==sysModules)=false)(hbs:(b==sysModules)=false)(hk:kvs.map (·.1)=kws.map (·.1))
  (he:∀(j:Nat) (v u:K×Value),kvs[j]?=some v->kws[j]?=some u->EqP prog w A s v.2 u.2):wpAny (model prog w) A (Builtin.«dict.__eq__» ⟨[.ref l,.ref b],[]⟩) (λfin s'=>fin=.done (.ret (.bool true))/\s'=s) E s:=by
 obtain⟨o,es,ep,ho,hx,hd,hks,hp,hn⟩:=hl;obtain⟨o2,es2,ep2,ho2,hx2,hd2,LC,hp2,hn2⟩:=hb;have hlen:kvs.length=kws.length:=by simpa using congrArg List.length hk
 have e1:es.size=kvs.length:=by rw[<-hp.length];simp
 have e2:es2.size=kws.length:=by rw[<-hp2.length];simp
 have t1:s.TypeIs (.ref l) "dict":=⟨o,ho,hx.1⟩;have t2:s.TypeIs (.ref b) "dict":=⟨o2,ho2,hx2.1⟩;show wpAny _ _ (Builtin.Dict.dictSlotArgs "__eq__" ⟨[.ref l,.ref b],[]⟩>>=_) _ _ _;refine zaI ?_;unfold Builtin.Dict.dictSlotArgs;refine zaI (wpAny_notOrdered_dict t1 ?_);show wpAny _ _ (pure (Value.ref l,Value.ref b)) _ _ s;refine zaZ ?_;dsimp only;refine zaI (wpAny_isInstance t2 (b:=true) (by rw[isSubtype_type];kernel_rfl) ?_)
 show wpAny _ _ (Builtin.Dict.samePairs _ l b>>=_) _ _ s;refine zaI ?_;unfold Builtin.Dict.samePairs;have sh:∀(d:Addr) (Q:Unit->Shared->Prop),(d==sysModules)=false->Q () s->wpAny (model prog w) A (Builtin.Dict.showsAll d) Q E s:=λd Q h q=>by
  unfold Builtin.Dict.showsAll;rw[if_neg (by rw[h];exact zam)]
  exact zaZ q
 refine zaI (sh l _ hls ?_);refine zaI (sh b _ hbs ?_);refine zaI (wpAny_dictEntries ho hd ?_);refine zaI (wpAny_dictEntries ho2 hd2 ?_);dsimp only;rw[if_neg (by rw[e1,e2,hlen];simp)]
 refine zaI (wpAny_dictEpoch ho hd ?_);refine zaI ?_;rw[wY];refine wpAny_forIn_list _ (λrest c s'=>s'=s/\c=(none,())/\∃i,rest=List.range' i (es.size-i)/\i<=es.size) _ ?_ ?_ _ _ ⟨rfl,rfl,0,by simp,Nat.zero_le _⟩
 ·rintro x rest c s' ⟨rfl,rfl,i,hr,hi⟩
  have hi2:i<es.size:=by
   rcases Nat.lt_or_ge i es.size with h|h
   ·exact h
   ·rw[show es.size-i=0 by omega]at hr;cases hr
  rw[show es.size-i=(es.size-(i+1))+1 by omega,List.range'_succ]at hr
  injection hr with hx1 hr1
  subst hx1;refine zaI (wpAny_dictEntries ho hd ?_);rw[Array.getElem?_eq_getElem hi2];dsimp only;obtain⟨kv,hkv,is1,ev⟩:=pairs_at hp x es[x] (by rw[Array.getElem?_toList];exact Array.getElem?_eq_getElem hi2)
  obtain⟨k',is2,eh⟩:=hks es[x] (Array.getElem_mem hi2);have ek:k'=kv.1:=knd.inj _ _ _ is2 is1;have hx3:x<es2.size:=by omega
  obtain⟨kw,hkw,is3,ev2⟩:=pairs_at hp2 x es2[x] (by rw[Array.getElem?_toList];exact Array.getElem?_eq_getElem hx3)
  have ekk:kw.1=kv.1:=by
   have h1:(kvs.map (·.1))[x]?=some kv.1:=by rw[zao,hkv];rfl
   have h2:(kws.map (·.1))[x]?=some kw.1:=by rw[zao,hkw];rfl
   rw[hk,h2]at h1;exact zaQ h1
  have hf:es2.findIdx? (λe=>knd.is kv.1 e.key)=some x:=by
   have h:=(hp2.findIdx kv.1).trans (Ae hn2 hkw ekk);rw[<-h];obtain⟨l⟩:=es2;simp
  refine zaI (wpAny_holding ?_);rw[eh,ek];refine zaI (wpAny_dictFind_of is1 ho2 hd2 LC ?_);rw[hf];dsimp only;refine zaI (wpAny_dictEntries ho2 hd2 ?_);rw[Array.getElem?_eq_getElem hx3];dsimp only;refine wpAny_holding ?_;rw[ev,ev2];refine he x kv kw hkv hkw _ _ ?_;rw[if_neg (by simp)]
  refine zaI (wpAny_dictEpoch ho hd ?_);rw[if_neg (by simp)]
  exact zaZ ⟨rfl,rfl,x+1,by rw[hr1],hi2⟩
 ·rintro c s' ⟨rfl,rfl,_⟩
  exact zaZ (zaZ ⟨rfl,rfl⟩)
theorem wZ(hu:A.units<cLine)(hl:s.heap.DictOf knd l kvs)(hb:s.heap.DictOf knd b kws)(hls:(l==sysModules)=false)(hbs:(b==sysModules)=false)(hk:kvs.map (·.1)=kws.map (·.1))
  (he:∀(j:Nat) (v u:K×Value),kvs[j]?=some v->kws[j]?=some u->EqP prog w A.in1 s v.2 u.2) (q:Q (.bool true) s):wpAny (model prog w) A (richCompare .Eq (.ref l) (.ref b)) Q E s:=by
 obtain⟨o,es,ep,ho,hx,_⟩:=id hl;obtain⟨o2,es2,ep2,ho2,hx2,_⟩:=id hb;refine wpAny_richCompare_same_room (op:=.Eq) (T:="dict") ⟨o,ho,hx.1⟩ ⟨o2,ho2,hx2.1⟩ PySem.F.slot_dict_eq ?_ hu;refine wpAny_call_entry PySem.F.slot_dict_eq ⟨o,ho,hx.1⟩ PySem.F.entry_dict_eq ?_ (PySem.F.args_dict_eq_2 _ _);refine za6 (Ej hl hb hls hbs hk he) (λfin s' h=>?_) λ_ _ e=>e
 obtain⟨rfl,rfl⟩:=h;exact⟨_,rfl,⟨(λx=>nomatch x),q⟩⟩
theorem Ek(hu:A.units<cLine)(hl:s.heap.DictOf knd l kvs)(hb:s.heap.DictOf knd b kws)(hls:(l==sysModules)=false)(hbs:(b==sysModules)=false)(hk:kvs.map (·.1)=kws.map (·.1))
  (he:∀(j:Nat) (v u:K×Value),kvs[j]?=some v->kws[j]?=some u->EqP prog w A.in1 s v.2 u.2):EqP prog w A s (.ref l) (.ref b):=by
 intro E Q q;unfold eqBool;refine wpAny_holding ?_;refine wpAny_ite_split (λ_=>?_) (λ_=>?_)
 ·exact zaI (wpAny_rule (zaZ q))
 ·exact zaI (wZ hu hl hb hls hbs hk he (wpAny_truthy_bool q))
theorem yA(hl:s.heap.get? l=some {cls:=.type "tuple",dict:=dd,data:=.seq #[x1,x2] n,slots:=sl})(hb:s.heap.get? b=some {cls:=.type "tuple",dict:=dd2,data:=.seq #[y1,y2] n2,slots:=sl2})
  (h1:EqP prog w A s x1 y1) (h2:EqP prog w A s x2 y2):wpAny (model prog w) A (Builtin.«tuple.__ne__» ⟨[.ref l,.ref b],[]⟩) (λfin s'=>fin=.done (.ret (.bool false))/\s'=s) E s:=by
 obtain⟨hp,g,d,tk,os⟩:=s;have f2:=PySem.AutoSeq1.sub_tuple_tuple
 wp_walk using wpAny_loadPart' hl,wpAny_loadPart' hb,wpAny_forIn_list _ (λrest b s'=>b.1=none/\s'=⟨hp,g,d,tk,os⟩/\∀p∈rest,EqP prog w A ⟨hp,g,d,tk,os⟩ p.1 p.2) _
 case turn=>
  rintro⟨y,x⟩ rest b s' ⟨hb',rfl,hz⟩
  refine zaI (hz (y,x) zas _ _ ?_)
  wp_walk
  exact⟨rfl,rfl,λp hp=>hz p (zak _ hp)⟩
 case fin=>
  rintro⟨b1,b2⟩ s' ⟨hb',rfl,_⟩
  simp only at hb';subst hb'
  wp_walk
  exact⟨rfl,rfl⟩
 case h=>
  refine⟨rfl,rfl,λp hp=>?_⟩
  have:p=(x1,y1)\/p=(x2,y2):=by simpa using hp
  rcases this with rfl|rfl
  ·exact h1
  ·exact h2
theorem yB(hl:s.heap.get? l=some {cls:=.type "tuple",dict:=dd,data:=.seq #[x1,x2] n,slots:=sl})(hb:s.heap.get? b=some {cls:=.type "tuple",dict:=dd2,data:=.seq #[y1,y2] n2,slots:=sl2})
  (h1:EqP prog w A s x1 y1) (h2:EqP prog w A s x2 y2):wpAny (model prog w) A (Builtin.«tuple.__eq__» ⟨[.ref l,.ref b],[]⟩) (λfin s'=>fin=.done (.ret (.bool true))/\s'=s) E s:=by
 obtain⟨hp,g,d,tk,os⟩:=s;have f2:=PySem.AutoSeq1.sub_tuple_tuple
 wp_walk using wpAny_loadPart' hl,wpAny_loadPart' hb,wpAny_forIn_list _ (λrest b s'=>b.1=none/\s'=⟨hp,g,d,tk,os⟩/\∀p∈rest,EqP prog w A ⟨hp,g,d,tk,os⟩ p.1 p.2) _
 case turn=>
  rintro⟨y,x⟩ rest b s' ⟨hb',rfl,hz⟩
  refine zaI (hz (y,x) zas _ _ ?_)
  wp_walk
  exact⟨rfl,rfl,λp hp=>hz p (zak _ hp)⟩
 case fin=>
  rintro⟨b1,b2⟩ s' ⟨hb',rfl,_⟩
  simp only at hb';subst hb'
  wp_walk
  exact⟨rfl,rfl⟩
 case h=>
  refine⟨rfl,rfl,λp hp=>?_⟩
  have:p=(x1,y1)\/p=(x2,y2):=by simpa using hp
  rcases this with rfl|rfl
  ·exact h1
  ·exact h2
end
def w4(K:zag)(H:Hp)(x y:V):Prop:=∃d,gy K H x d/\gy K H y d/\SeqAt.shaped d=true
def w6(K:zag)(H:Hp)(x y:V):Prop:=w4 K H x y\/∃(p q:Addr) (kvs kws:List (Key×V)),x=.ref p/\y=.ref q/\Rd H p (.dK kvs)/\Rd H q (.dK kws)/\kvs.map (·.1)=kws.map (·.1)/\∀(j:Nat) (a b:Key×V),kvs[j]?=some a->kws[j]?=some b->w4 K H a.2 b.2
def El(K:zag)(H:Hp)(x y:V):Prop:=∃(a b:Addr) (x1 x2 y1 y2:V),x=.ref a/\y=.ref b/\SqT K H a [x1,x2]/\SqT K H b [y1,y2]/\w6 K H x1 y1/\w6 K H x2 y2
def Ke(K:zag):R2:=λx y H Q=>El K H x y/\Q (.bl false) H
def Kf(K:zag):R2:=λx y H Q=>El K H x y/\Q (.bl true) H
section
variable{X:Cx}{A:Around}
theorem w4.eqP{σ:St}(I:Inv X pins σ H s){x y:V}{v u:Value}(rx:RelV x v)(ry:RelV y u)(h:w4 X.K H x y)(hu:A.units+64<cLine):EqP X.prog X.w A s v u:=by
 obtain⟨d,ha,hb,sd⟩:=h;obtain⟨as,ra⟩:=ha.reads I rx;obtain⟨bs,rb⟩:=hb.reads I ry;intro E Q q;refine SeqAt.eqAt_reads d d A s v u as bs ra rb (SeqAt.canLay_of_shaped sd) (SeqAt.canLay_of_shaped sd) (SeqAt.room_of_shaped sd hu) X.prog X.w E Q ?_;rw[SeqAt.eqv_refl d (SeqAt.canLay_of_shaped sd)];exact q
theorem yC:∀{kvs:List (κ×V)} {vs:List (κ×Value)},KV kvs vs->∀(j:Nat) (b : κ×Value),vs[j]?=some b->∃a,kvs[j]?=some a/\a.1=b.1/\RelV a.2 b.2
 | [],[],_,j,b,e=>by simp at e
 |a::kvs,c::vs,h,0,b,e=>by
  cases h with
  |cons h1 h2=>cases(show some c=some b by simpa using e);exact⟨a,rfl,h1.1,h1.2⟩
 |a::kvs,c::vs,h,j+1,b,e=>by
  cases h with
  |cons h1 h2=>simpa using yC h2 j b (by simpa using e)
theorem uY:∀{kvs:List (κ×V)} {vs:List (κ×Value)},KV kvs vs->vs.map (·.1)=kvs.map (·.1)
 | [],[],_=>rfl
 |a::kvs,c::vs,h=>by
  cases h with
  |cons h1 h2=>rw[zaz,zaz,uY h2,h1.1]
theorem w6.eqP{σ:St}(I:Inv X pins σ H s){x y:V}{v u:Value}(rx:RelV x v)(ry:RelV y u)(h:w6 X.K H x y)(hu:A.units+65<cLine):EqP X.prog X.w A s v u:=by
 rcases h with h|⟨p,q,kvs,kws,rfl,rfl,h1,h2,hk,he⟩
 ·exact h.eqP I rx ry (by omega)
 ·cases rx
  cases ry;obtain⟨_,y1,vs,r1,d1⟩:=(show cb X.prog X.w H s.heap p (.dK kvs)from h1.ok I.hok);obtain⟨_,y2,ws,r2,d2⟩:=(show cb X.prog X.w H s.heap q (.dK kws)from h2.ok I.hok);refine Ek (by omega) d1 d2 y1 y2 (by rw[uY r1,uY r2,hk]) λj a b ha hb=>?_
  obtain⟨c,hc,_,rc⟩:=yC r1 j a ha;obtain⟨d,hd,_,rd⟩:=yC r2 j b hb;exact(he j c d hc hd).eqP I rc rd (by show A.units+1+64<cLine;omega)
theorem Kg(hu:X.A.units+100<cLine):OpR X (compareOp .NotEq) (Ke X.K):=by
 intro pins s σ H x y v u Q I rx ry h;obtain⟨⟨a,b,x1,x2,y1,y2,rfl,rfl,s1,s2,l1,l2⟩,q⟩:=h;cases rx;cases ry;obtain⟨its,rv,pl,_⟩:=I.tuple s1;obtain⟨its2,rv2,pl2,_⟩:=I.tuple s2;obtain⟨u1,u2,rfl,ru1,ru2⟩:=rv.two;obtain⟨w1,w2,rfl,rw1,rw2⟩:=rv2.two;obtain⟨⟨c,dd,dt,sl⟩,e,hc,n,hd⟩:=pl;obtain⟨⟨c2,dd2,dt2,sl2⟩,e2,hc2,n2,hd2⟩:=pl2;simp only at hc hd hc2 hd2;subst hc hd hc2 hd2;show wpAny _ _ (richCompare .NotEq (.ref a) (.ref b)) _ _ _;refine wpAny_richCompare_same_room (op:=.NotEq) (T:="tuple") ⟨_,e,rfl⟩ ⟨_,e2,rfl⟩ PySem.F.slot_tuple_ne ?_ (by omega)
 refine wpAny_call_entry PySem.F.slot_tuple_ne ⟨_,e,rfl⟩ PySem.F.entry_tuple_ne ?_ (PySem.F.args_tuple_ne_2 _ _);refine za6 (yA (A:=X.A.in1) e e2 (l1.eqP I ru1 rw1 (by show X.A.units+1+65<cLine;omega)) (l2.eqP I ru2 rw2 (by show X.A.units+1+65<cLine;omega))) (λfin s' h=>?_) λ_ _ e=>e
 obtain⟨rfl,rfl⟩:=h;exact⟨_,rfl,(λx=>nomatch x),.bl false,H,I,rfl,q⟩
theorem Kh(hu:X.A.units+100<cLine):OpR X (compareOp .Eq) (Kf X.K):=by
 intro pins s σ H x y v u Q I rx ry h;obtain⟨⟨a,b,x1,x2,y1,y2,rfl,rfl,s1,s2,l1,l2⟩,q⟩:=h;cases rx;cases ry;obtain⟨its,rv,pl,_⟩:=I.tuple s1;obtain⟨its2,rv2,pl2,_⟩:=I.tuple s2;obtain⟨u1,u2,rfl,ru1,ru2⟩:=rv.two;obtain⟨w1,w2,rfl,rw1,rw2⟩:=rv2.two;obtain⟨⟨c,dd,dt,sl⟩,e,hc,n,hd⟩:=pl;obtain⟨⟨c2,dd2,dt2,sl2⟩,e2,hc2,n2,hd2⟩:=pl2;simp only at hc hd hc2 hd2;subst hc hd hc2 hd2;show wpAny _ _ (richCompare .Eq (.ref a) (.ref b)) _ _ _;refine wpAny_richCompare_same_room (op:=.Eq) (T:="tuple") ⟨_,e,rfl⟩ ⟨_,e2,rfl⟩ PySem.F.slot_tuple_eq ?_ (by omega)
 refine wpAny_call_entry PySem.F.slot_tuple_eq ⟨_,e,rfl⟩ PySem.F.entry_tuple_eq ?_ (PySem.F.args_tuple_eq_2 _ _);refine za6 (yB (A:=X.A.in1) e e2 (l1.eqP I ru1 rw1 (by show X.A.units+1+65<cLine;omega)) (l2.eqP I ru2 rw2 (by show X.A.units+1+65<cLine;omega))) (λfin s' h=>?_) λ_ _ e=>e
 obtain⟨rfl,rfl⟩:=h;exact⟨_,rfl,(λx=>nomatch x),.bl true,H,I,rfl,q⟩
theorem Gy{K:zag}(h:X.K=K)(hr:dH k X.A):OpR X (compareOp .NotEq) (Ke K):=h▸Kg (by have:=hr.un;omega)
theorem Gz{K:zag}(h:X.K=K)(hr:dH k X.A):OpR X (compareOp .Eq) (Kf K):=h▸Kh (by have:=hr.un;omega)
end
end L2
namespace Mir
open PySem L2
variable [Zc]
def uZ:D->Prop
 | .dict es=>∀e∈es,SeqAt.shaped e.2=true
 |d=>SeqAt.shaped d=true
def nK:D->Prop
 | .tuple [c,d]=>uZ c/\uZ d
 |_=>False
def GA:D->D->Option (D×Bool):=λc d=>cIf (c=d/\nK c) (some (.bool false,false)) none
def GB:D->D->Option (D×Bool):=λc d=>cIf (c=d/\nK c) (some (.bool true,false)) none
theorem Em(h:pJ k c)(h':pJ k' c):k=k':=by
 cases k<;>cases k'<;>(unfold pJ at h h';rw[h]at h';first|cases h';rfl|cases h')
theorem qR:∀{kvs kws:List (Key×V)} {es:List (D×D)},aZ H kvs es->aZ H kws es->(∀e∈es,SeqAt.shaped e.2=true)->kvs.map (·.1)=kws.map (·.1)/\∀(j:Nat) (a b:Key×V),kvs[j]?=some a->kws[j]?=some b->w4 K H a.2 b.2
 |_,_,_,.nil,.nil,_=>⟨rfl,λj a b h=>by simp at h⟩
 |_,_,_,.cons k1 r1 t1,.cons k2 r2 t2,h=>by
  obtain⟨h1,h2⟩:=qR (K:=K) t1 t2 λe he=>h e (zak _ he)
  refine⟨by rw[zaz,zaz,h1,Em k1 k2],λj a b ha hb=>?_⟩
  cases j with
  |zero=>
   cases(zaQ (show some _=some a by simpa using ha))
   cases(zaQ (show some _=some b by simpa using hb))
   have:=h _ zas;exact⟨_,r1.data (SeqAt.canLay_of_shaped this),r2.data (SeqAt.canLay_of_shaped this),this⟩
  |succ j=>exact h2 j a b (by simpa using ha) (by simpa using hb)
theorem w8(hx:Rep H x d)(hy:Rep H y d)(h:uZ d):w6 K H x y:=by
 cases hx with
 |dct r1 k1=>
  cases hy with
  |dct r2 k2=>
   obtain⟨h1,h2⟩:=qR (K:=K) k1 k2 h;exact .inr ⟨_,_,_,_,rfl,rfl,r1,r2,h1,h2⟩
 |non=>exact .inl ⟨_,.non,hy.data (SeqAt.canLay_of_shaped h),h⟩
 |bl b=>exact .inl ⟨_,.bl b,hy.data (SeqAt.canLay_of_shaped h),h⟩
 |int i=>exact .inl ⟨_,.int i,hy.data (SeqAt.canLay_of_shaped h),h⟩
 |str z=>exact .inl ⟨_,.str z,hy.data (SeqAt.canLay_of_shaped h),h⟩
 |lst r1 k1=>exact .inl ⟨_,Rep.data (.lst r1 k1) (SeqAt.canLay_of_shaped h),hy.data (SeqAt.canLay_of_shaped h),h⟩
 |tup r1 k1=>exact .inl ⟨_,Rep.data (.tup r1 k1) (SeqAt.canLay_of_shaped h),hy.data (SeqAt.canLay_of_shaped h),h⟩
theorem tF(hx:Rep H x d)(hy:Rep H y d)(h:nK d):El K H x y:=by
 unfold nK at h;split at h
 ·cases hx with
  |tup r1 k1=>
   cases hy with
   |tup r2 k2=>
    cases k1 with
    |cons a1 t1=>
     cases t1 with
     |cons a2 t1=>
      cases t1;cases k2 with
      |cons b1 t2=>
       cases t2 with
       |cons b2 t2=>
        cases t2;exact⟨_,_,_,_,_,_,rfl,rfl,.inl (.inl r1),.inl (.inl r2),w8 a1 b1 h.1,w8 a2 b2 h.2⟩
 ·cases h
theorem LD:OpJ (Ke K) GA:=by
 intro B H x y c d res s hx hy e;unfold GA at e;obtain⟨⟨hc,hp⟩,e2⟩:=cW e;cases e2;subst hc;exact fN λQ q=>⟨tF (hx.rep s) (hy.rep s) hp,q⟩
theorem LG:OpJ (Kf K) GB:=by
 intro B H x y c d res s hx hy e;unfold GB at e;obtain⟨⟨hc,hp⟩,e2⟩:=cW e;cases e2;subst hc;exact fN λQ q=>⟨tF (hx.rep s) (hy.rep s) hp,q⟩
end Mir
namespace L2
open PySem PySem.W PySem.Calls PySem.Spec PyProof.Rows
section
variable{prog:Program}{w:World}{A:Around}{s:Shared}{K:Type} [DecidableEq K]{knd:PySem.KeyKind prog w K}
theorem En(hl:s.heap.DictOf knd l kvs)(hb:s.heap.DictOf knd b [])(hls:(l==sysModules)=false)(hbs:(b==sysModules)=false)(hne:kvs≠[]):wpAny (model prog w) A (Builtin.«dict.__eq__» ⟨[.ref l,.ref b],[]⟩) (λfin s'=>fin=.done (.ret (.bool false))/\s'=s) E s:=by
 obtain⟨o,es,ep,ho,hx,hd,hks,hp,hn⟩:=hl;obtain⟨o2,es2,ep2,ho2,hx2,hd2,LC,hp2,hn2⟩:=hb;have e1:es.size=kvs.length:=by rw[<-hp.length];simp
 have e2:es2.size=0:=by have:=hp2.length;simpa using this
 have t1:s.TypeIs (.ref l) "dict":=⟨o,ho,hx.1⟩;have t2:s.TypeIs (.ref b) "dict":=⟨o2,ho2,hx2.1⟩;have hpos : 0<kvs.length:=List.length_pos_iff.mpr hne;show wpAny _ _ (Builtin.Dict.dictSlotArgs "__eq__" ⟨[.ref l,.ref b],[]⟩>>=_) _ _ _;refine zaI ?_;unfold Builtin.Dict.dictSlotArgs;refine zaI (wpAny_notOrdered_dict t1 ?_);show wpAny _ _ (pure (Value.ref l,Value.ref b)) _ _ s;refine zaZ ?_;dsimp only;refine zaI (wpAny_isInstance t2 (b:=true) (by rw[isSubtype_type];kernel_rfl) ?_)
 show wpAny _ _ (Builtin.Dict.samePairs _ l b>>=_) _ _ s;refine zaI ?_;unfold Builtin.Dict.samePairs;have sh:∀(d:Addr) (Q:Unit->Shared->Prop),(d==sysModules)=false->Q () s->wpAny (model prog w) A (Builtin.Dict.showsAll d) Q E s:=λd Q h q=>by
  unfold Builtin.Dict.showsAll;rw[if_neg (by rw[h];exact zam)]
  exact zaZ q
 refine zaI (sh l _ hls ?_);refine zaI (sh b _ hbs ?_);refine zaI (wpAny_dictEntries ho hd ?_);refine zaI (wpAny_dictEntries ho2 hd2 ?_);dsimp only;rw[if_pos (by rw[e1,e2];simp;omega)]
 exact zaI (wpAny_rule (zaZ (zaZ ⟨rfl,rfl⟩)))
theorem Eo(hu:A.units<cLine)(hl:s.heap.DictOf knd l kvs)(hb:s.heap.DictOf knd b [])(hls:(l==sysModules)=false)(hbs:(b==sysModules)=false)(q:Q (.bool kvs.isEmpty) s):wpAny (model prog w) A (richCompare .Eq (.ref l) (.ref b)) Q E s:=by
 obtain⟨o,es,ep,ho,hx,_⟩:=id hl;obtain⟨o2,es2,ep2,ho2,hx2,_⟩:=id hb;cases kvs with
 |nil=>exact wZ hu hl hb hls hbs rfl (λj v u h=>by simp at h) q
 |cons kv kvs=>
  refine wpAny_richCompare_same_room (op:=.Eq) (T:="dict") ⟨o,ho,hx.1⟩ ⟨o2,ho2,hx2.1⟩ PySem.F.slot_dict_eq ?_ hu;refine wpAny_call_entry PySem.F.slot_dict_eq ⟨o,ho,hx.1⟩ PySem.F.entry_dict_eq ?_ (PySem.F.args_dict_eq_2 _ _);refine za6 (En hl hb hls hbs (by simp)) (λfin s' h=>?_) λ_ _ e=>e
  obtain⟨rfl,rfl⟩:=h;exact⟨_,rfl,⟨(λx=>nomatch x),q⟩⟩
end
def Ie:R2:=λx y H Q=>∃(p q:Addr) (kvs:List (Key×V)),x=.ref p/\y=.ref q/\Rd H p (.dK kvs)/\Rd H q (.dK [])/\Q (.bl kvs.isEmpty) H
theorem GC(hu:X.A.units<cLine):OpR X (compareOp .Eq) Ie:=by
 intro pins s σ H x y v u Q I rx ry h;obtain⟨p,q,kvs,rfl,rfl,h1,h2,hq⟩:=h;cases rx;cases ry;obtain⟨_,y1,vs,r1,d1⟩:=(show cb X.prog X.w H s.heap p (.dK kvs)from h1.ok I.hok);obtain⟨_,y2,ws,r2,d2⟩:=(show cb X.prog X.w H s.heap q (.dK [])from h2.ok I.hok);cases r2;have e:vs.isEmpty=kvs.isEmpty:=by cases r1<;>rfl
 exact Eo hu d1 d2 y1 y2 ⟨.bl kvs.isEmpty,H,I,by rw[e];rfl,hq⟩
end L2
namespace Mir
open PySem L2
variable [Zc]
def Af:D->D->Option (D×Bool)
 | .dict es,.dict []=>some (.bool es.isEmpty,false)
 |_,_=>none
theorem Ki:OpJ Ie Af:=by
 intro B H x y c d res s hx hy e;unfold Af at e;split at e
 ·cases e
  have hx:=hx.rep s;have hy:=hy.rep s;cases hx with
  |dct r1 k1=>
   cases hy with
   |dct r2 k2=>
    cases k2;refine fN λQ q=>⟨_,_,_,rfl,rfl,r1,r2,?_⟩
    cases k1<;>exact q
 ·cases e
end Mir
namespace aM
open PySem
structure Row where
 key:Int
 above:Option Str
 mark:Bool
 below:List Str
section
variable{α:Type} [DecidableEq α]
theorem lh:∀(l k:List α),l.Nodup->(∀x∈l,x∈k)->l.length<=k.length
 | [],_,_,_=>Nat.zero_le _
 |a::l,k,h,hs=>by
  have ha:=hs a zas;have hn:=List.nodup_cons.mp h;have:=lh l (k.erase a) hn.2 λx hx=>(List.mem_erase_of_ne (λe=>hn.1 (by rw[<-e];exact hx))).mpr (hs x (zak _ hx))
  rw[List.length_erase_of_mem ha]at this;have : 0<k.length:=List.length_pos_of_mem ha;rw[zaw];omega
end
variable(keys:List Str)(row:Str->Row)
def Ig:Nat->Option Str->Option Str
 |0,x=>x
 |_+1,none=>none
 |k+1,some n=>if n∈keys then Ig k (row n).above else some n
def reach:Nat->Str->Bool
 |0,_=>false
 |k+1,n=>if n∈keys then(match(row n).above with
  |none=>true
  |some a=>reach k a)else false
variable(lt:Int->Str->Int->Str->Bool)
structure MQ(ak:List Str):Prop where
 ak:ak.Perm (keys.filter λn=>(row n).above.isNone)
 mark:∀n∈keys,(row n).above=none->(row n).mark=false
 up:∀n∈keys,∀a,(row n).above=some a->a∈keys/\(row a).below.count n=1/\lt (row n).key n (row a).key a=false
 down:∀n∈keys,∀(i:Nat) (l:Str),(row n).below[i]?=some l->l∈keys/\(row l).above=some n/\(i:Int)-(if(row l).mark then 1 else 0)<=((row l).below.length:Int)
 come:∀n∈keys,Ig keys row keys.length (some n)=none
structure MR(ak:List Str):Prop where
 MX:∀n∈ak,ak.count n=1/\n∈keys/\(row n).above=none
 top2:∀n∈keys,(row n).above=none->n∈ak
 mark:∀n∈keys,(row n).above=none->(row n).mark=false
 up:∀n∈keys,∀a,(row n).above=some a->a∈keys/\n∈(row a).below/\lt (row n).key n (row a).key a=false
 down:∀n∈keys,∀(i:Nat) (l:Str),(row n).below[i]?=some l->l∈keys/\l∉(row n).below.take i/\(row l).above=some n/\(i:Int)-(if(row l).mark then 1 else 0)<=((row l).below.length:Int)
 come:∀n∈keys,reach keys row (keys.length+1) n=true
end aM
set_option maxHeartbeats 4000000
namespace K73
open PySem L2 Mir
def hX:SM :=
  (cI (dM 5 (mOp gIx (aj 0) (mOp d5 (mOp et (aj 2) (aj 3)) (mCB dN (ai (aj 0) aG)))))
  (cI (dM 6 (mOp gIx (aj 0) (mOp d5 (mOp et (aj 2) (aj 4)) (mCB dN (ai (aj 0) aG)))))
  (fL (aL (mOp gEq (mCB dN (ai (mOp gIx (mOp gT (aj 1) (aj 5)) (mC (.int 3))) aG)) (mCB dN (ai (mOp gIx (mOp gT (aj 1) (aj 6)) (mC (.int 3))) aG))))
  (fc (eN (ai (aj 5) (ai (aj 6) aG))))
  dJ)))
def nL:SM :=
  (xW (wa (ai (aj 3) aG)) (mgN 4)
  hX)
def yD:SM :=
  (cI (xW (wa (ai (mCB dN (ai (aj 0) aG)) aG)) (mgN 3)
  nL)
  (fc (eN aG)))
def j2:List D->Option (D×Bool):=fnM 3 4 yD
def w9:Rho->Option (Bool×Rho) :=
  (aL (mOp gNe (aj 0) (aj 1)))
def xa:PM :=
  (aj 0)
def pe:Rho->Option (Bool×Rho) :=
  (aL (aj 4))
def ll:SM :=
  (cI (oY (mOp gT (aj 1) (aj 2)) (mgU 4 (bE (mgN 5) (bE (mgN 6) (bE (mgN 7) (bE (mgN 8) gM))))))
  (cI (i5 1 (gz (ai (aj 5) (ai (mC .none) (ai (mC (.bool false)) (ai (aj 8) aG))))) (aj 2))
  (cI (eD (uq 0 iX (ai (aj 2) aG)))
  (cI (eD (uq 3 iX (ai (gz (ai (mC (.str "cut")) (ai (aj 2) aG))) aG)))
  (cI (oY (mOp gT (aj 1) (aj 6)) (mgU 4 (bE (mgN 5) (bE (mgN 9) (bE (mgN 10) (bE (mgN 8) gM))))))
  (cI (dM 8 (mCB yt (ai (mLC [("_law_name",2)] (Fs (aj 8)) w9 xa) aG)))
  (cI (i5 1 (gz (ai (aj 5) (ai (aj 9) (ai (mOp oB (aj 9) (mC .none)) (ai (aj 8) aG))))) (aj 6))
  (cI (dM 4 (aj 10))
  (dM 2 (aj 6))))))))))
def Bz:SM :=
  (cI (dM 3 (eN aG))
  (cI (dM 4 (mOp oB (mOp gIx (mOp gT (aj 1) (aj 2)) (mC (.int 1))) (mC .none)))
  (cI (gN pe
  ll 1000000)
  (fc (aj 3)))))
def ip:List D->Option ((D×Bool)×D×D):=fnJ 3 8 Bz
def u9:SM :=
  (fc (mOp JS (gz (ai (mOp gIx (mOp gT (aj 0) (aj 1)) (mC (.int 0))) (ai (aj 1) aG))) (gz (ai (mOp gIx (mOp gT (aj 0) (aj 2)) (mC (.int 0))) (ai (aj 2) aG)))))
def eP:List D->Option (D×Bool):=fnM 3 0 u9
def yE:SM :=
  (cI (oY (mOp gT (aj 1) (aj 2)) (mgU 4 (bE (mgN 4) (bE (mgN 5) (bE (mgN 6) (bE (mgN 7) gM))))))
  (cI (i5 1 (gz (ai (aj 4) (ai (aj 3) (ai (mC (.bool false)) (ai (aj 7) aG))))) (aj 2))
  (cI (oY (mOp gT (aj 1) (aj 3)) (mgU 4 (bE (mgN 4) (bE (mgN 5) (bE (mgN 6) (bE (mgN 7) gM))))))
  (cI (i5 1 (gz (ai (aj 4) (ai (aj 5) (ai (aj 6) (ai (mOp tm (aj 7) (gz (ai (aj 2) aG))) aG))))) (aj 3))
  (eD (uq 0 p0 (ai (aj 2) aG)))))))
def gj:List D->Option ((D×Bool)×D×D):=fnJ 4 4 yE
def rQ:SM :=
  (cI (dM 1 (mC (.str "abcdefghijklmnopqrstuvwxyz")))
  (cI (dM 2 (mOp et (mOp uV (aj 1) (mOp d5 (mOp mZ (aj 0) (mC (.int 52))) (mC (.int 26)))) (mOp uV (aj 1) (mOp d5 (mOp mZ (aj 0) (mC (.int 2))) (mC (.int 26))))))
  (cI (fL (aL (mOp gEq (mOp d5 (aj 0) (mC (.int 2))) (mC (.int 1))))
  (dM 2 (mOp et (aj 2) (mOp gIx (eN (ai (mC (.str "a")) (ai (mC (.str "zz")) (ai (mC (.str "aaa")) (ai (mC (.str "zzzz")) (ai (mC (.str "bbbbb")) (ai (mC (.str "zzzzzz")) aG))))))) (mOp d5 (mOp mZ (aj 0) (mC (.int 2))) (mC (.int 6))))))
  dJ)
  (fc (aj 2)))))
def c8:List D->Option (D×Bool):=fnM 1 2 rQ
def va:SM :=
  (cI (fL (aL (mOp gEq (mOp d5 (aj 0) (mC (.int 3))) (mC (.int 0))))
  (fc (mOp Cp (mOp d5 (mOp mZ (aj 0) (mC (.int 3))) (mC (.int 5))) (mC (.int 2))))
  dJ)
  (cI (fL (aL (mOp gEq (mOp d5 (aj 0) (mC (.int 3))) (mC (.int 1))))
  (fc (mOp Cp (mOp d5 (mOp mZ (aj 0) (mC (.int 3))) (mC (.int 61))) (mC (.int 30))))
  dJ)
  (fc (mOp Cp (mOp d5 (mOp mZ (aj 0) (mC (.int 3))) (mOp et (mOp xZ (mC (.int 2)) (mOp C4 (mC (.int 10)) (mC (.int 59)))) (mC (.int 1)))) (mOp C4 (mC (.int 10)) (mC (.int 59)))))))
def dQ:List D->Option (D×Bool):=fnM 1 0 va
def gw:SM :=
  (cI (dM 6 (mOp mZ (aj 5) (mC (.int 5))))
  (cI (dM 7 (bg j2 (ai (aj 2) (ai (aj 3) (ai (mOp d5 (aj 6) (mC (.int 97))) aG)))))
  (cI (dM 8 (mCB qL (ai (aj 3) aG)))
  (fL (mj (aL (mOp gEq (mOp d5 (aj 5) (mC (.int 5))) (mC (.int 4)))) (aL (mOp gGt (mCB dN (ai (aj 8) aG)) (mC (.int 0)))))
  (eD (j1 2 3 ip (ai (mOp gIx (aj 8) (mOp d5 (aj 6) (mCB dN (ai (aj 8) aG)))) aG)))
  (fL (mj (aL (mOp gGt (mOp d5 (aj 5) (mC (.int 5))) (mC (.int 0)))) (aL (mOp gNe (aj 7) (eN aG))))
  (cI (fL (aL (bg eP (ai (aj 3) (ai (mOp gIx (aj 7) (mC (.int 0))) (ai (mOp gIx (aj 7) (mC (.int 1))) aG)))))
  (eD (sP 7 m4))
  dJ)
  (eD (j1 2 3 gj (ai (mOp gIx (aj 7) (mC (.int 0))) (ai (mOp gIx (aj 7) (mC (.int 1))) aG)))))
  (cI (dM 9 (bg c8 (ai (mOp et (aj 1) (aj 4)) aG)))
  (cI (i5 3 (gz (ai (bg dQ (ai (aj 6) aG)) (ai (mC .none) (ai (mC (.bool false)) (ai (gz aG) aG))))) (aj 9))
  (eD (uq 2 iX (ai (aj 9) aG))))))))))
def vb:Rho->Option (D×D) :=
  (kz (dM 2 (eN aG))
  (kz (dM 3 kE)
  (kz (xW (Lx (ai (aj 0) aG)) (mgU 2 (bE (mgN 4) (bE (mgN 5) gM)))
  gw)
  (Dt 2 3))))
def dq:List D->Option (D×D):=fnD 2 8 vb
def BA:SN :=
  (kK (gR (aC (lZ bu) (aC (nO kE) bu))))
def fD:FN:=fnS 0 0 BA
def md:SM :=
  (cI (fL (aL (mOp gLt (aj 1) (mCB dN (ai (aj 0) aG))))
  (fc (mOp gIx (aj 0) (aj 1)))
  dJ)
  (fc (mC (.int 0))))
def cg:List D->Option (D×Bool):=fnM 2 0 md
def ph:PM :=
  (um wU wU (mC (.str "a")) (aj 0) (mC (.str "z")))
def BB:SM :=
  (cI (fL (mOr (fJ (aL (lg "str" (aj 0)))) (mOr (aL (mOp gLt (mCB dN (ai (aj 0) aG)) (mC (.int 1)))) (aL (mOp gGt (mCB dN (ai (aj 0) aG)) (mC (.int 8))))))
  (fc (mC (.bool false)))
  dJ)
  (fc (mCB Js (ai (mLC [] (J0 (aj 0)) xV ph) aG))))
def cw:List D->Option (D×Bool):=fnM 1 0 BB
def xb:EM :=
  (nh (eIf (fJ (aL (bg cw (ai (aj 1) aG))))
  (ux "NoName" (ai (mC (.str "a name has one to eight small letters")) aG))
  (g6 dJ))
  (nh (eIf (aL (mOp uN (aj 1) (mOp gIx (aj 0) (mC (.int 1)))))
  (ux "Twice" (ai (mC (.str "the name is in the pile")) aG))
  (g6 dJ))
  (nh (g6 (dM 3 (mCB gU (ai (mOp gIx (aj 0) (mC (.int 1))) aG))))
  (nh (g6 (i5 3 (gz (ai (aj 2) (ai (mC .none) (ai (mC (.bool false)) (ai (gz aG) aG))))) (aj 1)))
  (g6 (fc (gz (ai (mOp et (mOp gIx (aj 0) (mC (.int 0))) (eN (ai (aj 1) aG))) (ai (aj 3) aG)))))))))
def gk:List D->Option ((D×Bool) ⊕ Str):=fnX 3 1 xb
def xc:Rho->Option (D×D) :=
  (kz (fL (fJ (aL (bg cw (ai (aj 1) aG))))
  oA
  dJ)
  (kz (fL (aL (mOp uN (aj 1) (mOp gIx (aj 0) (mC (.int 1)))))
  oA
  dJ)
  (kz (dM 3 (mCB gU (ai (mOp gIx (aj 0) (mC (.int 1))) aG)))
  (kz (i5 3 (gz (ai (aj 2) (ai (mC .none) (ai (mC (.bool false)) (ai (gz aG) aG))))) (aj 1))
  (oP (mOp et (mOp gIx (aj 0) (mC (.int 0))) (eN (ai (aj 1) aG))) 3)))))
def gm:List D->Option (D×D):=fnD 3 1 xc
def qS:SM :=
  (cI (fL (mOr (fJ (aL (oD "tuple" (aj 0)))) (mOr (aL (mOp gNe (mCB dN (ai (aj 0) aG)) (mC (.int 4)))) (fJ (aL (oD "tuple" (mOp gIx (aj 0) (mC (.int 3))))))))
  (fc (mC (.bool false)))
  dJ)
  (cI (fL (mOr (aL (oD "bool" (mOp gIx (aj 0) (mC (.int 0))))) (fJ (aL (oD "bool" (mOp gIx (aj 0) (mC (.int 2)))))))
  (fc (mC (.bool false)))
  dJ)
  (fc (mOp gEq (aj 0) (aj 1)))))
def fR:List D->Option (D×Bool):=fnM 2 0 qS
def fj:SM :=
  (fL (mOr (aL (mOp nG (aj 3) (mOp gIx (aj 0) (mC (.int 1))))) (fJ (aL (bg fR (ai (mOp gT (mOp gIx (aj 0) (mC (.int 1))) (aj 3)) (ai (aj 4) aG))))))
  (fc (mC (.bool false)))
  dJ)
def rR:SM :=
  (cI (fL (mOr (fJ (aL (lg "tuple" (aj 0)))) (mOr (aL (mOp gNe (mCB dN (ai (aj 0) aG)) (mC (.int 2)))) (mOr (fJ (aL (lg "list" (mOp gIx (aj 0) (mC (.int 0)))))) (aL (mOp gNe (mOp gIx (aj 0) (mC (.int 0))) (aj 1))))))
  (fc (mC (.bool false)))
  dJ)
  (cI (fL (mOr (fJ (aL (lg "dict" (mOp gIx (aj 0) (mC (.int 1)))))) (aL (mOp gNe (mCB k6 (ai (mOp gIx (aj 0) (mC (.int 1))) aG)) (mCB k6 (ai (aj 2) aG)))))
  (fc (mC (.bool false)))
  dJ)
  (cI (z6 (kF 2) (mgU 2 (bE (mgN 3) (bE (mgN 4) gM)))
  fj)
  (fc (mC (.bool true))))))
def cj:List D->Option (D×Bool):=fnM 3 2 rR
def lq:SM :=
  (cI (fL (aL (mOp uN (aj 3) (aj 2)))
  oA
  dJ)
  (i5 2 (mOp gT (mOp gIx (aj 1) (mC (.int 1))) (aj 3)) (aj 3)))
def rS:EM :=
  (nh (g6 (dM 2 (mCB gU (ai (mOp gIx (aj 0) (mC (.int 1))) aG))))
  (nh (Ac (yr (kF 1) 1) (mgN 3)
  (nh (eIf (aL (mOp uN (aj 3) (aj 2)))
  (fun ρ=>some (.er "Twice" ρ))
  (g6 dJ))
  (g6 (i5 2 (mOp gT (mOp gIx (aj 1) (mC (.int 1))) (aj 3)) (aj 3)))))
  (g6 (fc (gz (ai (mOp et (mOp gIx (aj 0) (mC (.int 0))) (mOp gIx (aj 1) (mC (.int 0)))) (ai (aj 2) aG)))))))
def fT:List D->Option ((D×Bool) ⊕ Str):=fnX 2 2 rS
def rT:Rho->Option (D×D) :=
  (kz (dM 2 (mCB gU (ai (mOp gIx (aj 0) (mC (.int 1))) aG)))
  (kz (z4 (yr (kF 1) 1) (mgN 3)
  lq)
  (oP (mOp et (mOp gIx (aj 0) (mC (.int 0))) (mOp gIx (aj 1) (mC (.int 0)))) 2)))
def hZ:List D->Option (D×D):=fnD 2 2 rT
def yF:SM :=
  (fc (gz (ai (mOp gIx (mOp gT (aj 0) (aj 1)) (mC (.int 0))) (ai (aj 1) aG))))
def j3:List D->Option (D×Bool):=fnM 2 0 yF
def dF:PM :=
  (bg j3 (ai (mOp gIx (aj 1) (mC (.int 1))) (ai (aj 0) aG)))
def rU:EM :=
  (nh (eIf (aL (mOp gEq (mCB dN (ai (mOp gIx (aj 0) (mC (.int 0))) aG)) (mC (.int 0))))
  (ux "Empty" (ai (mC (.str "the pile has no names")) aG))
  (g6 dJ))
  (g6 oA))
def fU:List D->Option ((D×Bool) ⊕ Str):=fnX 1 0 rU
def vc:SM :=
  (cI (fL (aL (mOp gEq (mCB dN (ai (mOp gIx (aj 0) (mC (.int 0))) aG)) (mC (.int 0))))
  oA
  dJ)
  (fc (Ec [("pile",0)] (mOp gIx (aj 0) (mC (.int 0))) dF)))
def h8:List D->Option (D×Bool):=fnM 1 0 vc
def bM:Str->Option SM :=
  λc=>if c="NoName"then some ((dM 3 (eN (ai (df 4 true) (ai (df 4 true) (ai (df 4 false) (ai (df 4 false) aG)))))))else if c="Twice"then some ((dM 3 (eN (ai (df 4 true) (ai (df 4 false) (ai (df 4 true) (ai (df 4 false) aG)))))))else if c="Empty"then some ((dM 3 (eN (ai (df 4 true) (ai (df 4 false) (ai (df 4 false) (ai (df 4 true) aG)))))))else none
def rV:SM :=
  (cI (dM 3 (eN aG))
  (cI (zJ (eIf (aL (mOp gEq (aj 0) (mC (.int 0))))
  (eX eD (ji gk (ai (aj 1) (ai (aj 2) (ai (mC (.int 1)) aG)))))
  (eIf (aL (mOp gEq (aj 0) (mC (.int 1))))
  (eX eD (ji fT (ai (aj 1) (ai (aj 2) aG))))
  (eX eD (ji fU (ai (aj 1) aG))))) 4 bM)
  (fc (aj 3))))
def bh:List D->Option (D×Bool):=fnM 3 2 rV
def kG:Rho->Option (Bool×Rho) :=
  (aL (mOp gIx (mOp gT (mOp gIx (aj 1) (mC (.int 1))) (aj 0)) (mC (.int 2))))
def kH:PM :=
  (aj 0)
def rW:SM :=
  (cI (dM 1 (Bm [("pile",0)] (yr (kF 0) 1) kG kH))
  (fc (mOp et (mCB dN (ai (mOp gIx (aj 0) (mC (.int 0))) aG)) (mOp xZ (mC (.int 2)) (mCB dN (ai (aj 1) aG))))))
def bq:List D->Option (D×Bool):=fnM 1 1 rW
def i6:SN :=
  (l4 (nTo (aL (mOp gNe (bg bh (ai (mC (.int 0)) (ai (aj 0) (ai (aj 5) aG)))) (eN (ai (mC (.bool true)) (ai (mC (.bool true)) (ai (mC (.bool false)) (ai (mC (.bool false)) aG))))))))
  (kK (nLit (.bool false)))
  kD)
def pL:SN :=
  (dk (wA [0,1,2,3,4,6,7] (lZ (aC (nLit .none) (aC (nLit (.int 5)) (aC (nLit (.bool true)) (aC (nLit (.str "")) (aC (nLit (.str "A")) (aC (nLit (.str "abcdefghi")) (aC (nLit (.str "a b")) (aC (nLit (.str "a1")) (aC (gR (aC (nLit (.str "a")) bu)) (aC (lZ (aC (nLit (.str "a")) bu)) (aC (nO kE) bu)))))))))))) (ngN 5)
  i6)
  (dk (l4 (nTo (mj (aL (mOp gGt (mCB dN (ai (aj 1) aG)) (mC (.int 0)))) (aL (mOp gNe (bg bh (ai (mC (.int 0)) (ai (aj 0) (ai (mOp gIx (aj 1) (mC (.int 0))) aG)))) (eN (ai (mC (.bool true)) (ai (mC (.bool false)) (ai (mC (.bool true)) (ai (mC (.bool false)) aG)))))))))
  (kK (nLit (.bool false)))
  kD)
  (dk (jJ (jl gm (aC (dA 0) (aC (dA 3) (aC (dA 4) bu)))) (ngN 6))
  (dk (jJ (nO (mCB gU (ai (aj 2) aG))) (ngN 7))
  (dk (tj (dA 7) (dA 3) (gR (aC (dA 4) (aC (nLit .none) (aC (nLit (.bool false)) (aC (gR bu) bu))))))
  (dk (l4 (nTo (mOr (fJ (aL (bg cj (ai (aj 6) (ai (mOp et (aj 1) (eN (ai (aj 3) aG))) (ai (aj 7) aG)))))) (aL (mOp gNe (bg bq (ai (aj 6) aG)) (mOp et (bg bq (ai (aj 0) aG)) (mC (.int 1)))))))
  (kK (nLit (.bool false)))
  kD)
  (dk (nD (D3 mm (nIx (dA 6) (nLit (.int 0)))))
  (dk (nD (tf (nIx (dA 6) (nLit (.int 1)))))
  (kK (nO (bg cj (ai (aj 0) (ai (aj 1) (ai (aj 2) aG))))))))))))))
def fk:FN:=fnS 5 3 pL
def g7:PM :=
  (gz (ai (mOp gIx (mOp gT (aj 1) (aj 0)) (mC (.int 0))) (ai (aj 0) aG)))
def nM:SM :=
  (cI (fL (aL (mOp Af (aj 1) kE))
  (fc (mOp gEq (bg bh (ai (mC (.int 2)) (ai (aj 0) (ai (mC .none) aG)))) (eN (ai (mC (.bool true)) (ai (mC (.bool false)) (ai (mC (.bool false)) (ai (mC (.bool true)) aG)))))))
  dJ)
  (cI (dM 2 (bg h8 (ai (aj 0) aG)))
  (fc (sO (oD "str" (aj 2)) (mOp gEq (aj 2) (mOp gIx (mCB wR (ai (Bm [("_law_held",1)] (kF 1) xV g7) aG)) (mC (.int 1))))))))
def bZ:List D->Option (D×Bool):=fnM 2 1 nM
def mz:SN :=
  (dk (jJ (jl hZ (aC (dA 0) (aC (dA 1) bu))) (ngN 4))
  (dk (jJ (nO (mCB gU (ai (mOp gIx (aj 2) (mC (.int 1))) aG))) (ngN 5))
  (dk (wW 3 5 6 7)
  (dk (l4 (nTo (fJ (aL (bg cj (ai (aj 4) (ai (mOp et (mOp gIx (aj 2) (mC (.int 0))) (mOp gIx (aj 3) (mC (.int 0)))) (ai (aj 5) aG)))))))
  (kK (nLit (.bool false)))
  kD)
  (dk (l4 (nTo (mOr (aL (mOp gNe (bg bq (ai (aj 4) aG)) (mOp et (bg bq (ai (aj 0) aG)) (bg bq (ai (aj 1) aG))))) (fJ (aL (bg bZ (ai (aj 4) (ai (aj 5) aG)))))))
  (kK (nLit (.bool false)))
  kD)
  (dk (nD (uH (nIx (dA 4) (nLit (.int 0))) (aC (nLit (.str "zz")) bu)))
  (dk (nD (tf (nIx (dA 4) (nLit (.int 1)))))
  (kK (nO (sO (bg cj (ai (aj 0) (ai (mOp gIx (aj 2) (mC (.int 0))) (ai (mOp gIx (aj 2) (mC (.int 1))) aG)))) (bg cj (ai (aj 1) (ai (mOp gIx (aj 3) (mC (.int 0))) (ai (mOp gIx (aj 3) (mC (.int 1))) aG))))))))))))))
def dR:FN:=fnS 4 4 mz
def GD:SN :=
  (l4 (DC (qE (kC dR (aC (dA 8) (aC (dA 9) (aC (dA 10) (aC (dA 11) bu)))))))
  (kK (nLit (.bool false)))
  kD)
def Ah:SN :=
  (dk (jJ (jl dq (aC (nO (yh wq (aj 0) (fK (mC (.int 4))) (fK (mC (.int 64))) (fK (mC (.int 2))))) (aC (nLit (.int 0)) bu))) (ngN 1))
  (dk (jJ (jl dq (aC (nO (yh wq (aj 0) (fK (mC (.int 5))) (fK (mC (.int 64))) (fK (mC (.int 2))))) (aC (nLit (.int 100)) bu))) (ngN 2))
  (dk (jJ (gR (aC (nO (mCB sQ (ai (mOp gIx (aj 1) (mC (.int 0))) aG))) (aC (nO (mCB gU (ai (mOp gIx (aj 1) (mC (.int 1))) aG))) bu))) (ngN 3))
  (dk (jJ (gR (aC (nO (mCB sQ (ai (mOp gIx (aj 2) (mC (.int 0))) aG))) (aC (nO (mCB gU (ai (mOp gIx (aj 2) (mC (.int 1))) aG))) bu))) (ngN 4))
  (dk (jJ (nO (bg dQ (ai (bg cg (ai (aj 0) (ai (mC (.int 1)) aG))) aG))) (ngN 5))
  (dk (jJ (kC fD bu) (ngN 6))
  (dk (nD (uH (nIx (dA 6) (nLit (.int 0))) (aC (nLit (.str "aa")) bu)))
  (dk (tj (nIx (dA 6) (nLit (.int 1))) (nLit (.str "aa")) (gR (aC (nLit (.int 0)) (aC (nLit .none) (aC (nLit (.bool false)) (aC (gR bu) bu))))))
  (dk (l4 (qE (nOp GA (kC fD bu) (gR (aC (lZ bu) (aC (nO kE) bu)))))
  (kK (nLit (.bool false)))
  kD)
  (dk (l4 (DC (qE (kC fk (aC (dA 3) (aC (nIx (dA 1) (nLit (.int 0))) (aC (nIx (dA 1) (nLit (.int 1))) (aC (nO (bg c8 (ai (mOp et (mC (.int 200)) (mOp d5 (bg cg (ai (aj 0) (ai (mC (.int 0)) aG))) (mC (.int 100)))) aG))) (aC (dA 5) bu))))))))
  (kK (nLit (.bool false)))
  kD)
  (dk (l4 (nTo (mOr (fJ (aL (bg bZ (ai (aj 3) (ai (mOp gIx (aj 1) (mC (.int 1))) aG))))) (fJ (aL (bg bZ (ai (aj 4) (ai (mOp gIx (aj 2) (mC (.int 1))) aG)))))))
  (kK (nLit (.bool false)))
  kD)
  (dk (jJ (lZ (aC (gR (aC (dA 3) (aC (dA 4) (aC (dA 1) (aC (dA 2) bu))))) (aC (gR (aC (dA 4) (aC (dA 3) (aC (dA 2) (aC (dA 1) bu))))) (aC (gR (aC (dA 3) (aC (kC fD bu) (aC (dA 1) (aC (gR (aC (lZ bu) (aC (nO kE) bu))) bu))))) bu)))) (ngN 7))
  (dk (nD (uH (dA 7) (aC (gR (aC (kC fD bu) (aC (dA 3) (aC (gR (aC (lZ bu) (aC (nO kE) bu))) (aC (dA 1) bu))))) bu)))
  (dk (wA [0,1,2,3,4,5,6,7,12,13] (dA 7) (ngT 4 (lP 8 (lP 9 (lP 10 (lP 11 DG)))))
  GD)
  (dk (l4 (nTo (mj (aL (mOp gGt (mCB k6 (ai (mOp gIx (aj 1) (mC (.int 1))) aG)) (mC (.int 0)))) (aL (mOp gEq (mOp d5 (bg cg (ai (aj 0) (ai (mC (.int 2)) aG))) (mC (.int 3))) (mC (.int 1))))))
  (dk (jJ (nO (mOp gIx (mCB qL (ai (mOp gIx (aj 1) (mC (.int 1))) aG)) (mOp d5 (bg cg (ai (aj 0) (ai (mC (.int 3)) aG))) (mCB k6 (ai (mOp gIx (aj 1) (mC (.int 1))) aG))))) (ngN 12))
  (dk (jJ (jl gm (aC (dA 4) (aC (dA 12) (aC (dA 5) bu)))) (ngN 13))
  (dk (l4 (nTo (aL (mOp gNe (bg bh (ai (mC (.int 1)) (ai (aj 3) (ai (aj 13) aG)))) (eN (ai (mC (.bool true)) (ai (mC (.bool false)) (ai (mC (.bool true)) (ai (mC (.bool false)) aG))))))))
  (kK (nLit (.bool false)))
  kD)
  (kK (nO (mOp gEq (bg bh (ai (mC (.int 1)) (ai (aj 13) (ai (aj 3) aG)))) (eN (ai (mC (.bool true)) (ai (mC (.bool false)) (ai (mC (.bool true)) (ai (mC (.bool false)) aG)))))))))))
  kD)
  (kK (nOp GB (kC fD bu) (gR (aC (lZ bu) (aC (nO kE) bu))))))))))))))))))))
def Ih:List D->Option (D×Bool):=fnO 1 13 Ah
local macro_rules | `(tactic| walk_at "mir") => `(tactic| simp only [*, fnM, cI, fL, aL, mOp, sv, aj, mC, mCB, ai, aG, mh, gB0, gI0, gI, et, xZ, Mq, gIx, Fz, gSl, dN, Mr, Ms, Mt, Mu, gIs, oB, Ju, Jv, Jw, asB, asI, mUn, oD, zD, zE, C9, De, C7, C8, we, m5, rN, gP, isNone,
 mj,mOr,fJ,sO,Mh,KW,Mi,gz,eN,gZ,kP,dM,sto,fC,fc,KY,eD,dJ,Mo,AX,bg,A0,yb,A5,yc,ye,A6,A7,qx,qy,wj,wk,o4,Mw,My,wa,Mm,rg1,rg2,Mj,Ml,asL,asT,xW,mgN,mgT,mgU,asS,bE,gM,oY,KZ,qp,Mir.putAt,Sl.put,uq,sP,iX,Mv,mm,
 List.length_cons,List.length_nil,List.map_cons,List.map_nil,List.cons_append,List.nil_append,List.replicate,List.getElem?_cons_zero,List.getElem?_cons_succ,List.getElem?_nil,List.set_cons_zero,List.set_cons_succ,
 Option.bind_some,Option.bind_none,Option.map_some,Option.map_none,if_true,if_false,CW,Bool.false_eq_true,reduceIte,decide_true,decide_false,Bool.not_true,Bool.not_false,ite_true,ite_false,Nat.reduceAdd,Nat.reduceEqDiff,Bool.and_true,Bool.true_and,Bool.and_false,Bool.not_eq_true,not_true_eq_false,not_false_eq_true,Int.reduceLT,Int.reduceLE,Int.reduceEq,Nat.reduceLeDiff])
local macro_rules | `(tactic| walk_at "st") => `(tactic| (apply aW; · (walk_at "mir"; try exact rfl)))
theorem Lb(h1:sv a ρ=some ((x,.ro),ρ1))(h2:sv b ρ1=some (r,ρ2))(h3:g x r.1=some res):mOp g a b ρ=some (jY res,ρ2):=by
 unfold mOp;rw[h1,zai];dsimp only;rw[h2,zai];dsimp only[mh,Option.bind_some];rw[h3,zaT]
theorem qT(l:List D)(k:Int)(d:D)(h:L2.atI l k=some d):gIx (.list l) (.int k)=some (d,false):=by
 show(L2.atI l k).map _=_;rw[h];rfl
def NIo(s:Sl):Prop:=∀d,s≠.io d
theorem NIo.no:NIo .no:=λd h=>by cases h
theorem NIo.fz(x:D):NIo (.fz x):=λd h=>by cases h
theorem NIo.own(x:D):NIo (.own x):=λd h=>by cases h
theorem j4(q:Sl)(h : ρ[i]?=some s)(hs:NIo s):fC ρ i q=some (ρ.set i q):=by
 unfold fC;rw[h];cases s<;>first|rfl|exact absurd rfl (hs _)
theorem fm(h : ρ[i]?=some s)(hs:NIo s):mgN i d ρ=some (ρ.set i (.fz d)):=j4 _ h hs
def LT:Str:="abcdefghijklmnopqrstuvwxyz"
def letter(j:Nat):Str:=⟨#[LT.cps.toList.getD j 97]⟩
theorem LH:∀j:Nat,j<26->atI LT.cps.toList (j:Int)=some (LT.cps.toList.getD j 97):=by decide
theorem tG(j:Nat)(h:j<26):uV (.str LT) (.int (j:Int))=some (.str (letter j),false):=by
 show cIf (LT.length<=sizeLine) _ none=_;rw[bR (by rw[sizeLine_eq];decide),LH j h];rfl
def sfx(j:Nat):Str:=(["a","zz","aaa","zzzz","bbbbb","zzzzzz"]:List Str).getD j ""
def aK(k:Nat):Str:=if k%2=1 then letter (k/52%26)++letter (k/2%26)++sfx (k/2%6)else letter (k/52%26)++letter (k/2%26)
theorem lr:∀i:Nat,i<300->∀j:Nat,j<i->aK i≠aK j:=by decide+kernel
theorem Ai(m:Str):keyOf (.str m)=some (.inr m):=rfl
def cm:Option Str->D
 |none=>.none
 |some a=>.str a
def bX(r:aM.Row):D:=.tuple [.int r.key,cm r.above,.bool r.mark,.tuple (r.below.map .str)]
def bQ(keys:List Str)(row:Str->aM.Row):List (D×D):=keys.map λn=>(PyData.str n,bX (row n))
theorem iq(row:Str->aM.Row)(n:Str):∀keys:List Str,gG (bQ keys row) (.inr n)=if n∈keys then some (bX (row n))else none
 | []=>rfl
 |m::keys=>by
  show(if keyOf (.str m)=some (.inr n)then some (bX (row m))else gG (bQ keys row) (.inr n))=_
  by_cases e:m=n
  ·subst e
   rw[if_pos (Ai m),if_pos zas]
  ·have e1 : ¬keyOf (.str m)=some (.inr n):=λz=>e (Sum.inr.inj (zaQ z))
   rw[if_neg e1,iq row n keys]
   by_cases h:n∈keys
   ·rw[if_pos h,if_pos (zak _ h)]
   ·rw[if_neg h,if_neg λz=>by
     rcases zaf z with z|z
     ·exact e z.symm
     ·exact h z]
def aV(row:Str->aM.Row)(n:Str)(r:aM.Row):Str->aM.Row:=λm=>if m=n then r else row m
theorem ve(keys:List Str)(row:Str->aM.Row)(n:Str)(r:aM.Row)(h:n∈keys):putD (bQ keys row) (.str n) (bX r) (.inr n)=bQ keys (aV row n r):=by
 unfold putD;rw[iq,if_pos h];show(bQ keys row).map _=_;unfold bQ;rw[List.map_map];refine List.map_congr_left λm _=>?_
 show(if keyOf (.str m)=some (.inr n)then(PyData.str m,bX r)else(PyData.str m,bX (row m)))=(PyData.str m,bX (aV row n r m))
 unfold aV
 by_cases e:m=n
 ·subst e
  rw[if_pos (Ai m),if_pos rfl]
 ·have e1 : ¬keyOf (.str m)=some (.inr n):=λz=>e (Sum.inr.inj (zaQ z))
  rw[if_neg e1,if_neg e]
theorem vf(keys:List Str)(row:Str->aM.Row)(n:Str)(r:aM.Row)(h:n∉keys):putD (bQ keys row) (.str n) (bX r) (.inr n)=bQ (keys++[n]) (aV row n r):=by
 unfold putD;rw[iq,if_neg h];show bQ keys row++[(.str n,bX r)]=_;unfold bQ;rw[za1]
 congr 1
 ·refine List.map_congr_left λm hm=>?_
  show _=(PyData.str m,bX (aV row n r m));unfold aV;rw[if_neg λz=>h (by rw[<-z];exact hm)]
 ·show [(PyData.str n,bX r)]=[(PyData.str n,bX (aV row n r n))]
  unfold aV;rw[if_pos rfl]
theorem jM(keys:List Str)(row:Str->aM.Row):(bQ keys row).length=keys.length:=by unfold bQ;rw[zal]
theorem jN(keys:List Str)(row:Str->aM.Row):(bQ keys row).map (·.1)=keys.map .str:=by unfold bQ;rw[List.map_map];rfl
theorem Aj(keys:List Str)(row:Str->aM.Row)(n:Str)(h:n∈keys):gT (.dict (bQ keys row)) (.str n)=some (bX (row n),false):=by
 show(gG (bQ keys row) (.inr n)).map _=_;rw[iq,if_pos h];rfl
theorem qb(keys:List Str)(row:Str->aM.Row)(n:Str):uN (.str n) (.dict (bQ keys row))=some (.bool (decide (n∈keys)),false):=by
 show some (PyData.bool (gG (bQ keys row) (.inr n)).isSome,false)=_;rw[iq]
 by_cases h:n∈keys
 ·rw[if_pos h,zaH h];rfl
 ·rw[if_neg h,zaO h];rfl
theorem qU(j:Nat):(letter j).length=1:=rfl
theorem GF:∀j:Nat,j<6->(sfx j).length<=6:=by decide
theorem add_str(a b:Str)(h:a.length+b.length<=1000):et (.str a) (.str b)=some (.str (a++b),false):=by
 show cIf (a.length+b.length<=sizeLine) _ none=_;rw[bR (by rw[sizeLine_eq];omega)]
theorem two_len(i j:Nat):(letter i++letter j).length=2:=rfl
theorem Ak(k:Nat):c8 [.int (k:Int)]=some (.str (aK k),false):=by
 have hk:∀{ρ:Rho},ρ[0]?=some (.fz (.int (k:Int)))->∀(a b:Nat),0<a->a<1000->0<b->IE (mOp d5 (mOp mZ (aj 0) (mC (.int (a:Int)))) (mC (.int (b:Int)))) ρ ((k/a%b:Nat):Int):=fun{ρ} h a b ha ha2 hb=>by
  have:=ft (yg (dy h) (cB (i:=(a:Int))) ⟨by omega,by omega⟩) (cB (i:=(b:Int))) (by omega)
  rwa[show((k:Int)/(a:Int)%(b:Int))=((k/a%b:Nat):Int) by rw[Int.natCast_emod,Int.natCast_ediv]]at this
 have l1:∀{ρ:Rho},ρ[0]?=some (.fz (.int (k:Int)))->ρ[1]?=some (.fz (.str LT))->mOp uV (aj 1) (mOp d5 (mOp mZ (aj 0) (mC (.int 52))) (mC (.int 26))) ρ=some ((.str (letter (k/52%26)),.fz),ρ):=fun{ρ} h0 h1=>bP (r:=(.int ((k/52%26:Nat):Int),.fz)) (res:=(.str (letter (k/52%26)),false)) (au (aB h1)) (au (hk h0 52 26 (by omega) (by omega) (by omega))) (tG _ (by omega))
 have l2:∀{ρ:Rho},ρ[0]?=some (.fz (.int (k:Int)))->ρ[1]?=some (.fz (.str LT))->mOp uV (aj 1) (mOp d5 (mOp mZ (aj 0) (mC (.int 2))) (mC (.int 26))) ρ=some ((.str (letter (k/2%26)),.fz),ρ):=fun{ρ} h0 h1=>bP (r:=(.int ((k/2%26:Nat):Int),.fz)) (res:=(.str (letter (k/2%26)),false)) (au (aB h1)) (au (hk h0 2 26 (by omega) (by omega) (by omega))) (tG _ (by omega))
 have em:∀{ρ:Rho},ρ[0]?=some (.fz (.int (k:Int)))->IE (mOp d5 (aj 0) (mC (.int 2))) ρ ((k:Int)%2):=fun{ρ} h=>ft (dy h) cB (by decide)
 have two:=add_str (letter (k/52%26)) (letter (k/2%26)) (by rw[qU,qU];omega)
 have hd:∀(u:SM) (o:Option Out),u [.fz (.int (k:Int)),.fz (.str LT),.fz (.str (letter (k/52%26)++letter (k/2%26)))]=o->cI (dM 1 (mC (.str "abcdefghijklmnopqrstuvwxyz"))) (cI (dM 2 (mOp et (mOp uV (aj 1) (mOp d5 (mOp mZ (aj 0) (mC (.int 52))) (mC (.int 26)))) (mOp uV (aj 1) (mOp d5 (mOp mZ (aj 0) (mC (.int 2))) (mC (.int 26)))))) u) [.fz (.int (k:Int)),.no,.no]=o:=λu o h=>by
  refine aW (ρ1:=[.fz (.int (k:Int)),.fz (.str LT),.no]) (gh rfl rfl) ?_;exact aW (ρ1:=[.fz (.int (k:Int)),.fz (.str LT),.fz (.str (letter (k/52%26)++letter (k/2%26)))]) (gh (bP (r:=(.str (letter (k/2%26)),.fz)) (res:=(.str (letter (k/52%26)++letter (k/2%26)),false)) (au (l1 rfl rfl)) (au (l2 rfl rfl)) two) rfl) h
 by_cases odd:k%2=1
 ·have en:aK k=letter (k/52%26)++letter (k/2%26)++sfx (k/2%6):=if_pos odd
  rw[en];refine d8 (o:=.rt (.str (letter (k/52%26)++letter (k/2%26)++sfx (k/2%6)),.fz) [.fz (.int (k:Int)),.fz (.str LT),.fz (.str (letter (k/52%26)++letter (k/2%26)++sfx (k/2%6)))]) rfl (hd _ _ ?_) rfl;have six:∀j:Nat,j<6->gIx (.list [.str "a",.str "zz",.str "aaa",.str "zzzz",.str "bbbbb",.str "zzzzzz"]) (.int (j:Int))=some (.str (sfx j),false):=λj hj=>by
   have:j=0\/j=1\/j=2\/j=3\/j=4\/j=5:=by omega
   rcases this with rfl|rfl|rfl|rfl|rfl|rfl<;>rfl
  refine aW (ρ1:=[.fz (.int (k:Int)),.fz (.str LT),.fz (.str (letter (k/52%26)++letter (k/2%26)++sfx (k/2%6)))]) (pK (tEq (em rfl) cB (by omega)) (gh (bP (r:=(.str (sfx (k/2%6)),.fz)) (res:=(.str (letter (k/52%26)++letter (k/2%26)++sfx (k/2%6)),false)) (au (aB rfl)) (au (bP (r:=(.int ((k/2%6:Nat):Int),.fz)) (res:=(.str (sfx (k/2%6)),false)) (dw (gQ (rs:=[(.str "a",.fz),(.str "zz",.fz),(.str "aaa",.fz),(.str "zzzz",.fz),(.str "bbbbb",.fz),(.str "zzzzzz",.fz)]) rfl rfl (by simp))) (au (hk rfl 2 6 (by omega) (by omega) (by omega))) (six _ (by omega)))) (add_str _ _ (by have:=GF (k/2%6) (by omega);rw[two_len];omega))) rfl)) (dO (aB rfl))
 ·have en:aK k=letter (k/52%26)++letter (k/2%26):=if_neg odd
  rw[en];exact d8 (o:=.rt (.str (letter (k/52%26)++letter (k/2%26)),.fz) [.fz (.int (k:Int)),.fz (.str LT),.fz (.str (letter (k/52%26)++letter (k/2%26)))]) rfl (hd _ _ (aW (ρ1:=[.fz (.int (k:Int)),.fz (.str LT),.fz (.str (letter (k/52%26)++letter (k/2%26)))]) (iP (tNe (em rfl) cB (by omega)) rfl) (dO (aB rfl)))) rfl
theorem key_is(c:Int):∃v:Int,dQ [.int c]=some (.int v,false):=by
 have em:∀{ρ:Rho},IE (mOp d5 (aj 0) (mC (.int 3))) (.fz (.int c)::ρ) (c%3):=fun{ρ}=>ft (dy rfl) cB (by decide)
 have ed:∀{ρ:Rho},IE (mOp mZ (aj 0) (mC (.int 3))) (.fz (.int c)::ρ) (c/3):=fun{ρ}=>yg (dy rfl) cB ⟨by decide,by decide⟩
 by_cases h0:c%3=0
 ·exact⟨c/3%5-2,d8 (o:=.rt (.int (c/3%5-2),.fz) [.fz (.int c)]) rfl (mq (pK (tEq em cB h0) (dO (yf (ft ed cB (by decide)) cB)))) rfl⟩
 ·by_cases h1:c%3=1
  ·exact⟨c/3%61-30,d8 (o:=.rt (.int (c/3%61-30),.fz) [.fz (.int c)]) rfl (aW (ρ1:=[.fz (.int c)]) (iP (tNe em cB h0) rfl) (mq (pK (tEq em cB h1) (dO (yf (ft ed cB (by decide)) cB))))) rfl⟩
  ·have ep:∀{ρ:Rho},IE (mOp C4 (mC (.int 10)) (mC (.int 59))) ρ ((10:Int)^(59:Int).toNat):=fun{ρ}=>Jy cB cB ⟨by decide,by decide,by decide⟩
   have e2:IE (mOp xZ (mC (.int 2)) (mOp C4 (mC (.int 10)) (mC (.int 59)))) [.fz (.int c)] (2*(10:Int)^(59:Int).toNat):=Di cB ep (IntMulOk.of_left (by decide))
   exact⟨_,d8 (o:=.rt (.int (c/3%(2*(10:Int)^(59:Int).toNat+1)-(10:Int)^(59:Int).toNat),.fz) [.fz (.int c)]) rfl (aW (ρ1:=[.fz (.int c)]) (iP (tNe em cB h0) rfl) (aW (ρ1:=[.fz (.int c)]) (iP (tNe em cB h1) rfl) (dO (yf (ft ed (kT e2 cB) (by decide)) ep)))) rfl⟩
theorem mB(h:n∈keys){a b:PM}{ρ:Rho}(ha:sv a ρ=some ((.dict (bQ keys row),.fz),ρ))(hb:b ρ=some ((.str n,.fz),ρ)):mOp gT a b ρ=some ((bX (row n),.fz),ρ):=bP (r:=(.str n,.fz)) (res:=(bX (row n),false)) ha (au hb) (Aj keys row n h)
theorem nN{a:PM}(h:a ρ=some ((bX r,.fz),ρ)):IE (mOp gIx a (mC (.int 0))) ρ r.key:=bP (r:=(.int 0,.fz)) (res:=(.int r.key,false)) (au h) (au rfl) rfl
theorem tH{a:PM}(h:a ρ=some ((bX r,.fz),ρ)):mOp gIx a (mC (.int 1)) ρ=some ((cm r.above,.fz),ρ):=bP (r:=(.int 1,.fz)) (res:=(cm r.above,false)) (au h) (au rfl) rfl
theorem xf{a:PM}(h:a ρ=some ((bX r,.fz),ρ)):mOp gIx a (mC (.int 2)) ρ=some ((.bool r.mark,.fz),ρ):=bP (r:=(.int 2,.fz)) (res:=(.bool r.mark,false)) (au h) (au rfl) rfl
theorem tI{a:PM}(h:a ρ=some ((bX r,.fz),ρ)):mOp gIx a (mC (.int 3)) ρ=some ((.tuple (r.below.map .str),.fz),ρ):=bP (r:=(.int 3,.fz)) (res:=(.tuple (r.below.map .str),false)) (au h) (au rfl) rfl
theorem BC(keys:List Str)(row:Str->aM.Row)(x y:Str)(hx:x∈keys)(hy:y∈keys):eP [.dict (bQ keys row),.str x,.str y]=some (.bool (aX (row x).key x (row y).key y),false):=by
 generalize hH:PyData.dict (bQ keys row)=X;have rx:mOp gT (aj 0) (aj 1) [.fz X,.fz (.str x),.fz (.str y)]=some ((bX (row x),.fz),[.fz X,.fz (.str x),.fz (.str y)]):=mB hx (by rw[hH];exact au (aB rfl)) (aB rfl)
 have ry:mOp gT (aj 0) (aj 2) [.fz X,.fz (.str x),.fz (.str y)]=some ((bX (row y),.fz),[.fz X,.fz (.str x),.fz (.str y)]):=mB hy (by rw[hH];exact au (aB rfl)) (aB rfl)
 have tx:=fP (rs:=[(.int (row x).key,.fz),(.str x,.fz)]) (l8 (nN rx) (az (au (aB (i:=1) rfl)) aQ)) rfl (by simp)
 have ty:=fP (rs:=[(.int (row y).key,.fz),(.str y,.fz)]) (l8 (nN ry) (az (au (aB (i:=2) rfl)) aQ)) rfl (by simp)
 exact d8 (o:=.rt (.bool (aX (row x).key x (row y).key y),.fz) [.fz X,.fz (.str x),.fz (.str y)]) rfl (dO (bP (r:=(.tuple [.int (row y).key,.str y],.fz)) (res:=(.bool (aX (row x).key x (row y).key y),false)) (au tx) (au ty) rfl)) rfl
theorem tJ:∀zs:List Str,qN (zs.map PyData.str)=some zs
 | []=>rfl
 |z::zs=>by
  show(qN (zs.map PyData.str)).map (z::·)=_
  rw[tJ zs];rfl
def Is(ρ:Rho)(i:Nat)(d:D):Prop:=ρ[i]?=some (.fz d)\/ρ[i]?=some (.own d)\/ρ[i]?=some (.io d)
theorem yj(h : ρ[i]?=some (.io d)):aj i ρ=some ((d,.at i),ρ):=by unfold aj;rw[h]
theorem HB(h1:sv a ρ=some ((x,.at i),ρ1))(h2:sv b ρ1=some (r,ρ2))(h4 : ρ2[i]?=some (.io y))(h3:g y r.1=some res):mOp g a b ρ=some (jY res,ρ2):=by
 unfold mOp;rw[h1,zai];dsimp only;rw[h2,zai];simp only[mh,h4,Option.bind_some,h3,Option.map_some]
theorem qV(h:Is ρ i x)(h2:sv b ρ=some (r,ρ))(h3:g x r.1=some res):mOp g (aj i) b ρ=some (jY res,ρ):=by
 rcases h with h|h|h
 ·exact bP (au (aB h)) h2 h3
 ·exact K5 (ng (gv h)) h2 h h3
 ·exact HB (ng (yj h)) h2 h h3
theorem GG{rs:List RV}(h:Is ρ i x)(h2:m ρ=some (rs,ρ)):∃k,ai (aj i) m ρ=some ((x,k)::rs,ρ):=by
 rcases h with h|h|h
 ·exact⟨_,az (au (aB h)) h2⟩
 ·exact⟨_,pW (ng (gv h)) h2 h⟩
 ·refine⟨.at i,?_⟩
  unfold ai;rw[ng (yj h),zai];dsimp only
  rw[h2,zai];simp only[mh,h,Option.map_some]
theorem Ep(h:Is ρ i x)(h2:g [x]=some res):mCB g (ai (aj i) aG) ρ=some (jY res,ρ):=by
 obtain⟨k,e⟩:=GG h aQ;exact eE e h2
theorem yG{l:List D}(h:Is ρ i (.list l)):IE (mCB dN (ai (aj i) aG)) ρ (l.length:Int):=Ep (res:=(.int (l.length:Int),false)) h rfl
theorem GH(h:Is ρ i (.dict (bQ keys row))):IE (mCB k6 (ai (aj i) aG)) ρ (keys.length:Int):=Ep (res:=(.int (keys.length:Int),false)) h (by show some (PyData.int ((bQ keys row).length:Int),false)=_;rw[jM])
theorem jm{n:Str}{b:PM}(h:Is ρ i (.dict (bQ keys row)))(hn:n∈keys)(hb:b ρ=some ((.str n,.fz),ρ)):mOp gT (aj i) b ρ=some ((bX (row n),.fz),ρ):=qV (r:=(.str n,.fz)) (res:=(bX (row n),false)) h (au hb) (Aj keys row n hn)
theorem qc{a:PM}(h:a ρ=some ((d,.fz),ρ1))(hg:g d ρ1=some ρ2):oY a g ρ=some (.nx ρ2):=by
 unfold oY;rw[au h,zai];dsimp only[kP,Option.bind_some];rw[hg];rfl
def BD(keys:List Str)(n:Str):List Str:=if n∈keys then keys else keys++[n]
theorem nP(h:n∈keys):BD keys n=keys:=if_pos h
theorem gJ(h:n∉keys):BD keys n=keys++[n]:=if_neg h
theorem qW(keys:List Str)(row:Str->aM.Row)(n:Str)(r:aM.Row):putD (bQ keys row) (.str n) (bX r) (.inr n)=bQ (BD keys n) (aV row n r):=by
 by_cases h:n∈keys
 ·rw[nP h,ve _ _ _ _ h]
 ·rw[gJ h,vf _ _ _ _ h]
theorem i7{a b:PM}{row:Str->aM.Row}{n:Str}{r:aM.Row}{s:Sl}(ha:a ρ=some ((bX r,.fz),ρ))(hb:b ρ=some ((.str n,.fz),ρ))(h : ρ[i]?=some s)(hs:s=.own (.dict (bQ keys row))\/s=.io (.dict (bQ keys row)))(hl:keys.length<=1000):i5 i a b ρ=some (.nx (ρ.set i (s.put (.dict (bQ (BD keys n) (aV row n r)))))):=by
 have hl':(bQ keys row).length<100000:=by rw[jM];omega
 have ho:DQ (some s)=some (bQ keys row):=by rcases hs with rfl|rfl<;>rfl
 unfold i5;rw[au ha,zai];dsimp only[kP,Option.bind_some]
 rw[h,ho,zai,au hb,zai];dsimp only[keyOf,Option.bind_some]
 rw[h,ho,zai,bR hl',qW];unfold Mir.putAt;rw[h]
theorem vg(h0:qp ρ[i]?=some ds0)(h1:m ρ=some (rs,ρ1))(h2:gZ rs ρ1=some (as,ρ2))(h3:qp ρ2[i]?=some ds)(h4:f ds as=some w)(h5:Mir.putAt ρ2 i (.list w.1)=ρ3):uq i f m ρ=some ((w.2,.fz),ρ3):=by
 unfold uq;rw[h0,zai,h1,zai];dsimp only
 rw[h2,zai];dsimp only
 rw[h3,zai,h4,zaT,h5]
theorem yH(d:D)(h:ds.length<=100000):iX ds [d]=some (ds++[d],.none):=by
 show cIf _ _ _=_;rw[bR (wm h)]
theorem xg{ρ ρ1 ρ2 ρ3:Rho}{rs:List RV}{ds:List D}{s t s0 t0:Sl}{d d1 d2 dS dT:D}{o:Bool}{r:RV}(hij:i≠j)(a:ownAt ρ i=some s0)(b:ownAt ρ j=some t0)(h1:m ρ=some (rs,ρ1))(h2:gZ rs ρ1=some (ds,ρ2))(h3:ownAt ρ2 i=some s)(h4:ownAt ρ2 j=some t)(h5:f (dS::dT::ds)=some ((d,o),d1,d2))(h6:(ρ2.set i (s.put d1)).set j (t.put d2)=ρ3)(e1:slD s=dS:=by rfl)(e2:slD t=dT:=by rfl)(h7:kO d o=r:=by rfl):j1 i j f m ρ=some (r,ρ3):=by
 subst e1 e2 h7;unfold j1;rw[if_neg hij,a,zai,b,zai,h1,zai];dsimp only
 rw[h2,zai];dsimp only
 rw[h3,zai,h4,zai,h5,zaT,h6]
theorem yI(h0:ds.length+2=n)(h1:b (.io d0::.io e0::ds.map .fz++List.replicate k .no)=some o)(h2:AX o=some r)(h3:io2 (yi o)=some d):fnJ n k b (d0::e0::ds)=some (r,d):=by
 show(if ds.length+2=n then _ else _)=_
 rw[if_pos h0,h1,zai,h2,zai,h3,zaT]
abbrev TD(ak:List Str):D:=.list (ak.map .str)
abbrev HD(keys:List Str)(row:Str->aM.Row):D:=.dict (bQ keys row)
theorem Er:∀{zs:List Str},z∈zs->∃j,wI zs z=some j/\zs.eraseIdx j=zs.erase z
 | [],h=>by cases h
 |a::zs,h=>by
  unfold wI
  by_cases e:a=z
  ·subst e
   exact⟨0,if_pos rfl,by simp⟩
  ·obtain⟨j,h1,h2⟩:=Er (zs:=zs) ((zaf h).resolve_left λq=>e q.symm)
   refine⟨j+1,?_,?_⟩
   ·rw[if_neg e,h1];rfl
   ·rw[List.eraseIdx_cons_succ,h2,List.erase_cons_tail (by simpa using e)]
theorem Kj{zs:List Str}(h:z∈zs):p0 (zs.map .str) [.str z]=some ((zs.erase z).map .str,.none):=by
 obtain⟨j,h1,h2⟩:=Er h;show(qN (zs.map .str)).bind _=_;rw[tJ,zai,h1,zaT,<-h2,uT]
def bH(row:Str->aM.Row)(name on:Str):Str->aM.Row :=
 aV (aV row name ⟨(row name).key,some on,false,(row name).below⟩) on ⟨((aV row name ⟨(row name).key,some on,false,(row name).below⟩) on).key,((aV row name ⟨(row name).key,some on,false,(row name).below⟩) on).above,((aV row name ⟨(row name).key,some on,false,(row name).below⟩) on).mark,((aV row name ⟨(row name).key,some on,false,(row name).below⟩) on).below++[name]⟩
theorem GI(hn:name∈keys)(ho:on∈keys)(ht:name∈ak)(hk:keys.length<=1000)(hb:∀n∈keys,(row n).below.length<=1000):gj [TD ak,HD keys row,.str name,.str on]=some ((.none,false),TD (ak.erase name),HD keys (bH row name on)):=by
 have e1:bX (row name)=.tuple [.int (row name).key,cm (row name).above,.bool (row name).mark,.tuple ((row name).below.map .str)]:=rfl
 let dB:=aV row name ⟨(row name).key,some on,false,(row name).below⟩
 have hb1:(dB on).below.length<=1000:=by
  show(aV row name ⟨(row name).key,some on,false,(row name).below⟩ on).below.length<=1000;unfold aV;split
  ·exact hb name hn
  ·exact hb on ho
 refine yI (o:=.nx [.io (TD (ak.erase name)),.io (HD keys (bH row name on)),.fz (.str name),.fz (.str on),.fz (.int (dB on).key),.fz (cm (dB on).above),.fz (.bool (dB on).mark),.fz (.tuple ((dB on).below.map .str))]) rfl ?_ rfl rfl;refine aW (ρ1:=[.io (TD ak),.io (HD keys row),.fz (.str name),.fz (.str on),.fz (.int (row name).key),.fz (cm (row name).above),.fz (.bool (row name).mark),.fz (.tuple ((row name).below.map .str))]) (qc (jm (.inr (.inr rfl)) hn (aB rfl)) rfl) ?_;refine aW (ρ1:=[.io (TD ak),.io (HD keys dB),.fz (.str name),.fz (.str on),.fz (.int (row name).key),.fz (cm (row name).above),.fz (.bool (row name).mark),.fz (.tuple ((row name).below.map .str))]) ((i7 (i:=1) (r:=⟨(row name).key,some on,false,(row name).below⟩) (fP (rs:=[(.int (row name).key,.fz),(.str on,.fz),(.bool false,.fz),(.tuple ((row name).below.map .str),.fz)]) rfl rfl (by simp)) (aB rfl) rfl (.inr rfl) hk).trans (by rw[nP hn];rfl)) ?_
 refine aW (ρ1:=[.io (TD ak),.io (HD keys dB),.fz (.str name),.fz (.str on),.fz (.int (dB on).key),.fz (cm (dB on).above),.fz (.bool (dB on).mark),.fz (.tuple ((dB on).below.map .str))]) (qc (jm (.inr (.inr rfl)) ho (aB rfl)) rfl) ?_;refine aW (ρ1:=[.io (TD ak),.io (HD keys (bH row name on)),.fz (.str name),.fz (.str on),.fz (.int (dB on).key),.fz (cm (dB on).above),.fz (.bool (dB on).mark),.fz (.tuple ((dB on).below.map .str))]) ?_ ?_
 ·have ea:∃k,sv (mOp tm (aj 7) (gz (ai (aj 2) aG))) [.io (TD ak),.io (HD keys dB),.fz (.str name),.fz (.str on),.fz (.int (dB on).key),.fz (cm (dB on).above),.fz (.bool (dB on).mark),.fz (.tuple ((dB on).below.map .str))]=some ((.tuple (((dB on).below++[name]).map .str),.fz),k)/\k=[.io (TD ak),.io (HD keys dB),.fz (.str name),.fz (.str on),.fz (.int (dB on).key),.fz (cm (dB on).above),.fz (.bool (dB on).mark),.fz (.tuple ((dB on).below.map .str))]:=by
   obtain⟨o,ho⟩:=Bp ((dB on).below.map .str) [.str name] (by simp;omega) (by simp)
   refine⟨_,?_,rfl⟩;have h:=bP (a:=aj 7) (b:=gz (ai (aj 2) aG)) (r:=(.tuple [.str name],.fz)) (res:=(.tuple (((dB on).below++[name]).map .str),o)) (ρ:=[.io (TD ak),.io (HD keys dB),.fz (.str name),.fz (.str on),.fz (.int (dB on).key),.fz (cm (dB on).above),.fz (.bool (dB on).mark),.fz (.tuple ((dB on).below.map .str))]) (g:=tm) (au (aB rfl)) (au (fP (rs:=[(.str name,.fz)]) rfl rfl (by simp))) (by rw[ho,za1];rfl)
   cases o
   ·exact au h
   ·exact au h
  obtain⟨_,ea,rfl⟩:=ea;exact(i7 (i:=1) (r:=⟨(dB on).key,(dB on).above,(dB on).mark,(dB on).below++[name]⟩) (fP (rs:=[(.int (dB on).key,.fz),(cm (dB on).above,.fz),(.bool (dB on).mark,.fz),(.tuple (((dB on).below++[name]).map .str),.fz)]) (az (au (aB rfl)) (az (au (aB rfl)) (az (au (aB rfl)) (az ea aQ)))) rfl (by simp)) (aB rfl) rfl (.inr rfl) hk).trans (by rw[nP ho];rfl)
 ·exact jZ (vg (rs:=[(.str name,.fz)]) rfl rfl rfl rfl (Kj ht) rfl)
theorem qX(ne:x≠y)(h:aX a x c y=false):aX c y a x=true:=by
 unfold aX at h⊢
 by_cases e:a=c
 ·subst e
  rw[if_pos rfl,if_neg ne]at h;rw[if_pos rfl,if_neg (λz=>ne z.symm)]
  have h1 : ¬x.cps.toList<y.cps.toList:=of_decide_eq_false h;refine zaH ?_;rcases List.le_iff_lt_or_eq.mp (List.not_lt.mp h1)with h2|h2
  ·exact h2
  ·refine absurd ?_ ne
   cases x;cases y
   congr 1
   exact(Array.toList_inj.mp h2).symm
 ·rw[if_neg e]at h
  rw[if_neg (λz=>e z.symm)]
  have:=of_decide_eq_false h;exact zaH (by omega)
theorem iC(h1:aX a x b y=true)(h2:aX b y c z=true):aX a x c z=true:=by
 unfold aX at h1 h2⊢
 by_cases e1:a=b
 ·subst e1
  rw[if_pos rfl]at h1
  by_cases e2:a=c
  ·subst e2
   rw[if_pos rfl]at h2⊢;split at h1
   ·cases h1
   split at h2
   ·cases h2
   have l1:=of_decide_eq_true h1;have l2:=of_decide_eq_true h2;have l3:x.cps.toList<z.cps.toList:=List.lt_trans l1 l2;rw[if_neg (λq=>by rw[q]at l3;exact List.lt_irrefl _ l3)]
   exact zaH l3
  ·rw[if_neg e2]at h2⊢;exact h2
 ·rw[if_neg e1]at h1
  have l1:=of_decide_eq_true h1
  by_cases e2:b=c
  ·subst e2;rw[if_neg e1];exact h1
  ·rw[if_neg e2]at h2
   have l2:=of_decide_eq_true h2;rw[if_neg (by omega)]
   exact zaH (by omega)
theorem oQ:aX a x a x=false:=by
 unfold aX;rw[if_pos rfl,if_pos rfl]
theorem h9(h:PyData.strOk x=true):SeqAt.shaped (.str x)=true:=by
 unfold SeqAt.shaped;rw[zaH (by simp[PyData.depth]),Bool.and_true]
 simp only[PyData.canLay0,h]
theorem GJ(hx:PyData.strOk x=true)(hy:PyData.strOk y=true):gNe (.str x) (.str y)=some (.bool (!decide (x=y)),false):=by
 unfold gNe;rw[if_pos ⟨h9 hx,h9 hy⟩];simp only[PyData.eqv]
 by_cases e:x=y
 ·subst e;simp
 ·simp[e]
theorem j5{ρn:Rho}:∀l:List Str,(∀x∈l,∃ρ,c (.fz (.str x)::ρn)=some (p x,ρ))->(∀x∈l,∃ρ,sv e (.fz (.str x)::ρn)=some ((.str x,.fz),ρ))->iU c e ρn (l.map .str)=some ((l.filter p).map .str)
 | [],_,_=>rfl
 |x::l,h,h2=>by
  have ih:=j5 l (λy hy=>h y (zak _ hy)) λy hy=>h2 y (zak _ hy)
  obtain⟨ρ,e1⟩:=h x zas;obtain⟨ρ2,e2⟩:=h2 x zas;show(c (.fz (.str x)::ρn)).bind _=_;rw[e1,zai];dsimp only
  cases hp:p x with
  |false=>rw[if_neg (by simp),ih,List.filter_cons_of_neg (by simp[hp])]
  |true=>rw[if_pos rfl,e2,zai];dsimp only[asF,Option.bind_some];rw[ih,List.filter_cons_of_pos (by simp[hp])];rfl
theorem j6(hx:PyData.strOk x=true)(hy:PyData.strOk y=true):PyData.strOk (x++y)=true:=by
 unfold PyData.strOk at*;show(x.cps++y.cps).all _=true;rw[Array.all_append,hx,hy];rfl
theorem tK:∀j:Nat,j<26->PyData.strOk (letter j)=true:=by decide+kernel
theorem Kk:∀j:Nat,j<6->PyData.strOk (sfx j)=true:=by decide+kernel
theorem xh(k:Nat):PyData.strOk (aK k)=true:=by
 unfold aK;have h1:=tK (k/52%26) (by omega)
 have h2:=tK (k/2%26) (by omega)
 split
 ·exact j6 (j6 h1 h2) (Kk _ (by omega))
 ·exact j6 h1 h2
structure Bt(K:Str->Int)(c:Nat)(ak keys:List Str)(row:Str->aM.Row):Prop where
 nd:keys.Nodup
 nm:∀n∈keys,∃i,i<c/\n=aK i
 tn:ak.Nodup
 tk:∀t∈ak,t∈keys/\(row t).above=none
 ne:∀n∈keys,(row n).above=none->n∈ak
 mkd:∀n∈keys,(row n).mark=true->(row n).above≠none
 ab:∀n∈keys,∀a,(row n).above=some a->a∈keys
 bl:∀n∈keys,(row n).below.length<=c/\∀b∈(row n).below,b∈keys
 ho:∀n∈keys,∀a,(row n).above=some a->aX (K a) a (K n) n=true
theorem Bt.kl(h:Bt K c ak keys row):keys.length<=c:=by
 have:=aM.lh keys ((List.range c).map aK) h.nd λx hx=>by
  obtain⟨i,hi,rfl⟩:=h.nm x hx;exact List.mem_map_of_mem (List.mem_range.mpr hi)
 simpa using this
theorem Bt.tl(h:Bt K c ak keys row):ak.length<=c:=zaX (aM.lh ak keys h.tn λx hx=>(h.tk x hx).1) h.kl
theorem Bt.ok(h:Bt K c ak keys row)(hn:n∈keys):PyData.strOk n=true:=by
 obtain⟨i,_,rfl⟩:=h.nm n hn;exact xh i
theorem aR(row:Str->aM.Row)(n:Str)(r:aM.Row):aV row n r n=r:=if_pos rfl
theorem aI(row:Str->aM.Row)(r:aM.Row)(h:m≠n):aV row n r m=row m:=if_neg h
def bK(row:Str->aM.Row)(name:Str):Str->aM.Row:=aV row name ⟨(row name).key,none,false,(row name).below⟩
def ez(row:Str->aM.Row)(name a:Str):Str->aM.Row:=aV (bK row name) a ⟨(bK row name a).key,(bK row name a).above,(bK row name a).above.isSome,(bK row name a).below.filter λx=>!decide (x=name)⟩
theorem qY(row:Str->aM.Row)(name n:Str):(bK row name n).above=if n=name then none else(row n).above:=by
 unfold bK aV;split<;>rfl
theorem eJ(row:Str->aM.Row)(name a n:Str):(ez row name a n).above=if n=name then none else(row n).above:=by
 rw[<-qY];unfold ez
 by_cases e:n=a
 ·subst e;rw[aR]
 ·rw[aI _ _ e]
theorem qZ:(ez row name a n).below.length<=(row n).below.length/\∀b∈(ez row name a n).below,b∈(row n).below:=by
 have h1:(bK row name n).below=(row n).below:=by
  unfold bK aV;split
  ·rename_i e;rw[e]
  ·rfl
 unfold ez
 by_cases e:n=a
 ·subst e
  rw[aR];show(List.filter _ (bK row name n).below).length<=_/\∀b∈List.filter _ (bK row name n).below,_;rw[h1];exact⟨zaY _ _,λb hb=>(List.mem_filter.mp hb).1⟩
 ·rw[aI _ _ e,h1]
  exact⟨zap _,λb hb=>hb⟩
theorem BF:(ez row name a n).mark=true->(ez row name a n).above.isSome=true\/(n≠name/\(row n).mark=true):=by
 intro h
 by_cases e:n=a
 ·subst e
  left;unfold ez at h⊢;rw[aR]at h⊢;exact h
 ·unfold ez at h⊢
  rw[aI _ _ e]at h⊢;unfold bK at h⊢
  by_cases e2:n=name
  ·subst e2;rw[aR]at h;cases h
  ·rw[aI _ _ e2]at h
   exact Or.inr ⟨e2,h⟩
theorem Es(row:Str->aM.Row)(name n:Str):(bK row name n).key=(row n).key:=by
 unfold bK aV;split
 ·rename_i e;rw[e]
 ·rfl
theorem Et(row:Str->aM.Row)(name a n:Str):(ez row name a n).key=(row n).key:=by
 rw[<-Es row name];unfold ez
 by_cases e:n=a
 ·subst e;rw[aR]
 ·rw[aI _ _ e]
theorem Bt.cut(h:Bt K c ak keys row)(hn:name∈keys)(ha:(row name).above=some a):Bt K c (ak++[name]) keys (ez row name a):=by
 have hnt:name∉ak:=λz=>by rw[(h.tk name z).2]at ha;cases ha
 refine⟨h.nd,h.nm,?_,λt ht=>?_,λm hm e=>?_,λn hk hm=>?_,λn hk b hb=>?_,λn hk=>?_,λn hk b hb=>?_⟩
 ·rw[List.nodup_append]
  refine⟨h.tn,by simp,λx hx y hy=>?_⟩
  rw[zad hy];exact λe=>hnt (by rw[<-e];exact hx)
 ·rw[eJ]
  rcases zae ht with ht|ht
  ·refine⟨(h.tk t ht).1,?_⟩
   split
   ·rfl
   ·exact(h.tk t ht).2
  ·rw[zad ht]
   exact⟨hn,if_pos rfl⟩
 ·by_cases z:m=name
  ·rw[z];simp
  ·rw[eJ,if_neg z]at e;exact zaW _ (h.ne m hm e)
 ·rcases BF hm with e|⟨e1,e2⟩
  ·exact λz=>by rw[z]at e;cases e
  ·rw[eJ,if_neg e1]
   exact h.mkd n hk e2
 ·rw[eJ]at hb
  split at hb
  ·cases hb
  ·exact h.ab n hk b hb
 ·exact⟨zaX qZ.1 (h.bl n hk).1,λb hb=>(h.bl n hk).2 b (qZ.2 b hb)⟩
 ·rw[eJ]at hb
  split at hb
  ·cases hb
  ·exact h.ho n hk b hb
inductive Ch(row:Str->aM.Row):Str->List Str->Str->Prop
 |one {n a:Str}:(row n).above=some a->(row a).mark=false->Ch row n [n] a
 |more {n a L:Str} {C:List Str}:(row n).above=some a->(row a).mark=true->Ch row a C L->Ch row n (n::C) L
theorem tL{α:Type}{p q : α->Bool}:∀l:List α,(∀x∈l,p x=true->q x=true)->(∃x∈l,p x=false/\q x=true)->l.countP p<l.countP q
 | [],_,⟨x,hx,_⟩=>by cases hx
 |y::l,h,⟨x,hx,e1,e2⟩=>by
  rw[List.countP_cons,List.countP_cons];have hle:l.countP p<=l.countP q:=List.countP_mono_left λz hz=>h z (zak _ hz)
  rcases zaf hx with rfl|hx'
  ·rw[e1,e2,if_neg zam,if_pos rfl];omega
  ·have:=tL l (λz hz=>h z (zak _ hz)) ⟨x,hx',e1,e2⟩
   have hy:=h y (zas);cases hp:p y with
   |false=>rw[if_neg zam];omega
   |true=>rw[hy hp,if_pos rfl];omega
section
variable{K:Str->Int}{c:Nat}{ak keys:List Str}{row:Str->aM.Row}
def rank(K:Str->Int)(keys:List Str)(n:Str):Nat:=keys.countP λm=>aX (K m) m (K n) n
theorem An(h:Bt K c ak keys row)(hn:n∈keys)(ha:(row n).above=some a):rank K keys a<rank K keys n :=
 tL keys (λm _ e=>iC e (h.ho n hn a ha)) ⟨a,h.ab n hn a ha,oQ,h.ho n hn a ha⟩
theorem LJ(h:Bt K c ak keys row):∀(m:Nat) (n:Str),n∈keys->rank K keys n<=m->(row n).above≠none->∃C L,Ch row n C L/\C.length<=m:=by
 intro m
 induction m with
 |zero=>
  intro n hn hr ha;cases e:(row n).above with
  |none=>exact absurd e ha
  |some a=>have:=An h hn e;omega
 |succ m ih=>
  intro n hn hr ha;cases e:(row n).above with
  |none=>exact absurd e ha
  |some a=>
   have hk:=h.ab n hn a e;cases em:(row a).mark with
   |false=>exact⟨[n],a,.one e em,by simp⟩
   |true=>
    obtain⟨C,L,h1,h2⟩:=ih a hk (by have:=An h hn e;omega) (h.mkd a hk em)
    exact⟨n::C,L,.more e em h1,by rw[zaw];omega⟩
theorem LK(h:Bt K c ak keys row)(hn:n∈keys)(ha:(row n).above≠none):∃C L,Ch row n C L/\C.length<=c:=by
 obtain⟨C,L,h1,h2⟩:=LJ h keys.length n hn List.countP_le_length ha;exact⟨C,L,h1,zaX h2 h.kl⟩
theorem Ch.mem(h:Bt K c ak keys row):∀{C:List Str} {n L:Str},Ch row n C L->n∈keys->(∀x∈C,x∈keys)/\L∈keys
 |_,n,_,.one ha _,hn=>⟨λx hx=>by rw[zad hx];exact hn,h.ab n hn _ ha⟩
 |_,n,_,.more ha _ hc,hn=>by
  obtain⟨h1,h2⟩:=Ch.mem h hc (h.ab n hn _ ha);exact⟨λx hx=>(zaf hx).elim (λe=>e▸hn) (h1 x),h2⟩
theorem Ch.tr(h:Bt K c ak keys row):∀{C:List Str} {n L:Str},Ch row n C L->n∈keys->(cF n).above=(row n).above->(∀m∈keys,aX (K m) m (K n) n=true->(cF m).above=(row m).above/\(cF m).mark=(row m).mark)->Ch cF n C L
 |_,n,a,.one ha hm,hn,e,k=>.one (e.trans ha) (((k a (h.ab n hn a ha) (h.ho n hn a ha)).2).trans hm)
 |_,n,_,.more (a:=a) ha hm hc,hn,e,k=>
  .more (e.trans ha) (((k a (h.ab n hn a ha) (h.ho n hn a ha)).2).trans hm) (Ch.tr h hc (h.ab n hn a ha) (k a (h.ab n hn a ha) (h.ho n hn a ha)).1 λm hm l=>k m hm (iC l (h.ho n hn a ha)))
theorem tM(h1:m≠n)(h2:m≠a):ez row n a m=row m:=by
 unfold ez bK;rw[aI _ _ h2,aI _ _ h1]
theorem tN(h:a≠n):(bK row n a).mark=(row a).mark:=by
 unfold bK;rw[aI _ _ h]
theorem Bt.neA(h:Bt K c ak keys row)(hn:n∈keys)(ha:(row n).above=some a):a≠n:=λe=>by
 have:=h.ho n hn a ha;rw[e,oQ]at this;cases this
theorem Ch.cut(h:Bt K c ak keys row)(hn:n∈keys)(ha:(row n).above=some a)(hc:Ch row a C L):Ch (ez row n a) a C L:=by
 have ne:=h.neA hn ha;refine Ch.tr h hc (h.ab n hn a ha) (by rw[eJ,if_neg ne]) λm hm l=>?_
 have e1:m≠n:=λe=>by
  subst e;have:=iC l (h.ho m hn a ha);rw[oQ]at this;cases this
 have e2:m≠a:=λe=>by
  subst e;rw[oQ]at l;cases l
 rw[tM e1 e2];exact⟨rfl,rfl⟩
end
def cuts:List Str->(Str->aM.Row)->Str->aM.Row
 | [],row=>row
 |n::C,row=>cuts C (ez row n ((row n).above.getD n))
theorem lU(ha:(row n).above=some a):cuts (n::C) row=cuts C (ez row n a):=by
 show cuts C (ez row n ((row n).above.getD n))=_;rw[ha];rfl
theorem xi:∀(C:List Str) (row:Str->aM.Row) (n:Str),(cuts C row n).key=(row n).key
 | [],_,_=>rfl
 |x::C,row,n=>(xi C _ n).trans (Et _ _ _ _)
def stp(n:Str):D:=.tuple [.str "cut",.str n]
section
variable{keys:List Str}{row:Str->aM.Row}{ak:List Str}{c:Nat}
def mk(keys:List Str)(row:Str->aM.Row):Nat:=(keys.filter λn=>(row n).mark).length
def b1(b:Bool):Nat:=if b then 1 else 0
theorem j7(y:Str)(l:List Str)(row:Str->aM.Row):mk (y::l) row=b1 (row y).mark+mk l row:=by
 unfold mk b1;rw[List.filter_cons];cases(row y).mark with
 |true=>rw[if_pos rfl,if_pos rfl,zaw,Nat.add_comm]
 |false=>rw[if_neg zam,if_neg zam,Nat.zero_add]
theorem Ii:∀l:List Str,x∉l->mk l (aV row x r)=mk l row
 | [],_=>rfl
 |y::l,h=>by
  rw[j7,j7,Ii l (λz=>h (zak _ z)),aI _ _ (λz=>h (by rw[z];exact zas))]
end
theorem vh(c:Int)(n:Nat)(h : 0<n):∃a:Nat,c%(n:Int)=(a:Int)/\a<n:=by
 have h1:=Int.emod_nonneg c (show(n:Int)≠0 by omega)
 have h2:=Int.emod_lt_of_pos c (show(0:Int)<(n:Int) by omega)
 exact⟨(c%(n:Int)).toNat,by omega,by omega⟩
theorem Kl(c:Int){n k j:Nat}(hk:k<n)(hj:j<k):(c+(k:Int))%(n:Int)≠(c+(j:Int))%(n:Int):=λe=>by
 have h:=Int.emod_eq_emod_iff_emod_sub_eq_zero.mp e;rw[show c+(k:Int)-(c+(j:Int))=(k:Int)-(j:Int) by omega,Int.emod_eq_of_lt (by omega) (by omega)]at h
 omega
theorem yJ{n:Nat}(h:IE a ρ (n:Int))(hn:n<=100000):wa (ai a aG) ρ=some ((List.range n).map (λk:Nat=>PyData.int (k:Int)),ρ):=by
 rw[Jx (j:=(n:Int)) (k:=.fz) (l8 h aQ) ⟨by omega,by omega⟩,Int.toNat_natCast,Dg]
theorem vm{α:Type}{f : α->D}(I:Rho->Prop)(R:RV->Prop):∀(l:List α) (ρ:Rho),I ρ->(∀x∈l,∀ρ,I ρ->∃ρ1 o,g (f x) ρ=some ρ1/\b ρ1=some o/\((∃ρ2,o=.nx ρ2/\I ρ2)\/∃r ρ2,o=.rt r ρ2/\R r))->∃o,forL g b (l.map f) ρ=some o/\((∃ρ2,o=.nx ρ2/\I ρ2)\/∃r ρ2,o=.rt r ρ2/\R r)
 | [],ρ,h,_=>⟨_,rfl,.inl ⟨ρ,rfl,h⟩⟩
 |x::l,ρ,h,hb=>by
  obtain⟨ρ1,o,h1,h2,h3⟩:=hb x zas ρ h;rcases h3 with⟨ρ2,rfl,i2⟩|⟨r,ρ2,rfl,i2⟩
  ·obtain⟨o,e1,e2⟩:=vm I R l ρ2 i2 λy hy=>hb y (zak _ hy)
   exact⟨o,jH h1 h2 e1,e2⟩
  ·exact⟨_,FD h1 h2,.inr ⟨r,ρ2,rfl,i2⟩⟩
theorem Eu{i:Nat}(h:ak[i]?=some t):gIx (TD ak) (.int (i:Int))=some (.str t,false):=qT _ _ _ (by rw[Mir.mR,zao,h];rfl)
def Km(ak:List Str)(row:Str->aM.Row)(r:RV):Prop:=∃a b,(∃i j:Nat,i≠j/\ak[i]?=some a/\ak[j]?=some b)/\(row a).below.length=(row b).below.length/\r=(.list [.str a,.str b],.new)
theorem xj{a:PM}(h:a ρ=some ((bX r,.fz),ρ)):IE (mCB dN (ai (mOp gIx a (mC (.int 3))) aG)) ρ (r.below.length:Int):=eE (rs:=[(.tuple (r.below.map .str),.fz)]) (res:=(.int (r.below.length:Int),false)) (az (au (tI h)) aQ) (by show some (PyData.int ((r.below.map PyData.str).length:Int),false)=_;rw[zal])
theorem BG(hk:∀t∈ak,t∈keys)(st:Int){k j:Nat}(hkn:k<ak.length)(hj:j<k)(n5:NIo s5)(n6:NIo s6) :
  ∃o,hX [.fz (TD ak),.fz (HD keys row),.fz (.int st),.fz (.int (k:Int)),.fz (.int (j:Int)),s5,s6]=some o/\((∃x y,o=.nx [.fz (TD ak),.fz (HD keys row),.fz (.int st),.fz (.int (k:Int)),.fz (.int (j:Int)),.fz x,.fz y])\/∃r ρ2,o=.rt r ρ2/\Km ak row r):=by
 obtain⟨i,e1,hi⟩:=vh (st+(k:Int)) ak.length (by omega)
 obtain⟨i',e2,hi'⟩:=vh (st+(j:Int)) ak.length (by omega)
 have ne:i≠i':=λz=>Kl st hkn hj (by rw[e1,e2,z])
 have g1:ak[i]?=some ak[i]:=zaC hi;have g2:ak[i']?=some ak[i']:=zaC hi';have m1:=hk _ (List.getElem_mem hi);have m2:=hk _ (List.getElem_mem hi');generalize ak[i]=a at g1 m1;generalize ak[i']=b at g2 m2;have ln:∀{ρ:Rho},ρ[0]?=some (.fz (TD ak))->IE (mCB dN (ai (aj 0) aG)) ρ (ak.length:Int):=fun{ρ} h=>by
  have:=yG (i:=0) (l:=ak.map .str) (.inl h)
  rwa[zal]at this
 have v1:∀{ρ:Rho},ρ[0]?=some (.fz (TD ak))->ρ[2]?=some (.fz (.int st))->ρ[3]?=some (.fz (.int (k:Int)))->mOp gIx (aj 0) (mOp d5 (mOp et (aj 2) (aj 3)) (mCB dN (ai (aj 0) aG))) ρ=some ((.str a,.fz),ρ):=fun{ρ} h0 h2 h3=>bP (r:=(.int (i:Int),.fz)) (res:=(.str a,false)) (au (aB h0)) (au ((ft (kT (dy h2) (dy h3)) (ln h0) (by omega)).is e1)) (Eu g1)
 have v2:∀{ρ:Rho},ρ[0]?=some (.fz (TD ak))->ρ[2]?=some (.fz (.int st))->ρ[4]?=some (.fz (.int (j:Int)))->mOp gIx (aj 0) (mOp d5 (mOp et (aj 2) (aj 4)) (mCB dN (ai (aj 0) aG))) ρ=some ((.str b,.fz),ρ):=fun{ρ} h0 h2 h3=>bP (r:=(.int (i':Int),.fz)) (res:=(.str b,false)) (au (aB h0)) (au ((ft (kT (dy h2) (dy h3)) (ln h0) (by omega)).is e2)) (Eu g2)
 have go:∀o,fL (aL (mOp gEq (mCB dN (ai (mOp gIx (mOp gT (aj 1) (aj 5)) (mC (.int 3))) aG)) (mCB dN (ai (mOp gIx (mOp gT (aj 1) (aj 6)) (mC (.int 3))) aG)))) (fc (eN (ai (aj 5) (ai (aj 6) aG)))) dJ [.fz (TD ak),.fz (HD keys row),.fz (.int st),.fz (.int (k:Int)),.fz (.int (j:Int)),.fz (.str a),.fz (.str b)]=some o->hX [.fz (TD ak),.fz (HD keys row),.fz (.int st),.fz (.int (k:Int)),.fz (.int (j:Int)),s5,s6]=some o:=λo h=>by
  refine aW (ρ1:=[.fz (TD ak),.fz (HD keys row),.fz (.int st),.fz (.int (k:Int)),.fz (.int (j:Int)),.fz (.str a),s6]) (gh (v1 rfl rfl rfl) (j4 (s:=s5) _ rfl n5)) ?_;exact aW (ρ1:=[.fz (TD ak),.fz (HD keys row),.fz (.int st),.fz (.int (k:Int)),.fz (.int (j:Int)),.fz (.str a),.fz (.str b)]) (gh (v2 rfl rfl rfl) (j4 (s:=s6) _ rfl n6)) h
 have l1:=xj (jm (i:=1) (ρ:=[.fz (TD ak),.fz (HD keys row),.fz (.int st),.fz (.int (k:Int)),.fz (.int (j:Int)),.fz (.str a),.fz (.str b)]) (b:=aj 5) (.inl rfl) m1 (aB rfl));have l2:=xj (jm (i:=1) (ρ:=[.fz (TD ak),.fz (HD keys row),.fz (.int st),.fz (.int (k:Int)),.fz (.int (j:Int)),.fz (.str a),.fz (.str b)]) (b:=aj 6) (.inl rfl) m2 (aB rfl))
 by_cases e:((row a).below.length:Int)=((row b).below.length:Int)
 ·exact⟨_,go _ (pK (tEq l1 l2 e) (dO (gQ (rs:=[(.str a,.fz),(.str b,.fz)]) rfl rfl (by simp)))),.inr ⟨_,_,rfl,a,b,⟨i,i',ne,g1,g2⟩,by omega,rfl⟩⟩
 ·exact⟨_,go _ (iP (tNe l1 l2 e) rfl),.inl ⟨_,_,rfl⟩⟩
theorem GK(hk:∀t∈ak,t∈keys)(hl:ak.length<=1000)(st:Int):∃L:List Str,j2 [TD ak,HD keys row,.int st]=some (TD L,true)/\(L=[]\/∃(a b:Str) (i j:Nat),L=[a,b]/\i≠j/\ak[i]?=some a/\ak[j]?=some b/\(row a).below.length=(row b).below.length):=by
 have ln:IE (mCB dN (ai (aj 0) aG)) [.fz (TD ak),.fz (HD keys row),.fz (.int st),.no,.no,.no,.no] (ak.length:Int):=by
  have:=yG (i:=0) (l:=ak.map .str) (ρ:=[.fz (TD ak),.fz (HD keys row),.fz (.int st),.no,.no,.no,.no]) (.inl rfl)
  rwa[zal]at this
 obtain⟨o,h1,h2⟩:=vm (g:=mgN 3) (b:=nL) (f:=λk:Nat=>PyData.int (k:Int)) (fun ρ=>∃s3 s4 s5 s6,NIo s3/\NIo s4/\NIo s5/\NIo s6/\ρ=[.fz (TD ak),.fz (HD keys row),.fz (.int st),s3,s4,s5,s6]) (Km ak row) (List.range ak.length) [.fz (TD ak),.fz (HD keys row),.fz (.int st),.no,.no,.no,.no] ⟨_,_,_,_,NIo.no,NIo.no,NIo.no,NIo.no,rfl⟩ (λk hkm ρ hρ=>by
  obtain⟨s3,s4,s5,s6,n3,n4,n5,n6,rfl⟩:=hρ;have hkn:=List.mem_range.mp hkm;obtain⟨o,g1,g2⟩:=vm (g:=mgN 4) (b:=hX) (f:=λk:Nat=>PyData.int (k:Int)) (fun ρ=>∃s4 s5 s6,NIo s4/\NIo s5/\NIo s6/\ρ=[.fz (TD ak),.fz (HD keys row),.fz (.int st),.fz (.int (k:Int)),s4,s5,s6]) (Km ak row) (List.range k) [.fz (TD ak),.fz (HD keys row),.fz (.int st),.fz (.int (k:Int)),s4,s5,s6] ⟨_,_,_,n4,n5,n6,rfl⟩ (λj hjm ρ hρ=>by
   obtain⟨s4,s5,s6,n4,n5,n6,rfl⟩:=hρ;obtain⟨o,f1,f2⟩:=BG (row:=row) hk st hkn (List.mem_range.mp hjm) n5 n6;refine⟨_,o,fm (s:=s4) rfl n4,f1,?_⟩;rcases f2 with⟨x,y,rfl⟩|f2
   ·exact .inl ⟨_,rfl,_,_,_,NIo.fz _,NIo.fz _,NIo.fz _,rfl⟩
   ·exact .inr f2)
  refine⟨_,o,fm (s:=s3) rfl n3,uv (yJ (dy rfl) (by omega)) g1,?_⟩
  rcases g2 with⟨ρ2,rfl,s4,s5,s6,n4,n5,n6,rfl⟩|g2
  ·exact .inl ⟨_,rfl,_,_,_,_,NIo.fz _,n4,n5,n6,rfl⟩
  ·exact .inr g2)
 rcases h2 with⟨ρ2,rfl,_⟩|⟨r,ρ2,rfl,a,b,⟨i,j,ne,g1,g2⟩,ed,rfl⟩
 ·exact⟨[],d8 (o:=.rt (.list [],.new) ρ2) rfl (aW (uv (yJ ln (by omega)) h1) (dO (gQ (rs:=[]) rfl rfl (by simp)))) rfl,.inl rfl⟩
 ·exact⟨[a,b],d8 rfl (mq (uv (yJ ln (by omega)) h1)) rfl,.inr ⟨a,b,i,j,rfl,ne,g1,g2,ed⟩⟩
theorem Bt.more(h:Bt K c ak keys row)(hd:c<=d):Bt K d ak keys row :=
 ⟨h.nd,λn hn=>by obtain⟨i,hi,e⟩:=h.nm n hn;exact⟨i,by omega,e⟩,h.tn,h.tk,h.ne,h.mkd,h.ab,λn hn=>⟨by have:=(h.bl n hn).1;omega,(h.bl n hn).2⟩,h.ho⟩
theorem dh(ne:on≠name):bH row name on on=⟨(row on).key,(row on).above,(row on).mark,(row on).below++[name]⟩:=by
 unfold bH;rw[aR,aI _ _ ne]
theorem cK(ne:on≠name):bH row name on name=⟨(row name).key,some on,false,(row name).below⟩:=by
 unfold bH;rw[aI _ _ (λz=>ne z.symm),aR]
theorem cG(h1:n≠on)(h2:n≠name):bH row name on n=row n:=by
 unfold bH;rw[aI _ _ h1,aI _ _ h2]
theorem lu(ne:on≠name)(n:Str):(bH row name on n).key=(row n).key:=by
 by_cases e:n=on
 ·subst e;rw[dh ne]
 ·by_cases e2:n=name
  ·subst e2;rw[cK ne]
  ·rw[cG e e2]
theorem Bt.hung(h:Bt K c ak keys row)(hn:name∈ak)(ho:on∈ak)(ne:on≠name)(hlt:aX (K on) on (K name) name=true):Bt K (c+1) (ak.erase name) keys (bH row name on):=by
 have hk:=(h.tk name hn).1;have ok:=(h.tk on ho).1;refine⟨h.nd,(h.more (Nat.le_succ c)).nm,h.tn.erase _,λt ht=>?_,λm hm e=>?_,λn hnk hm=>?_,λn hnk a ha=>?_,λn hnk=>?_,λn hnk a ha=>?_⟩
 ·obtain⟨h1,h2⟩:=(za9 h.tn).mp ht
  refine⟨(h.tk t h2).1,?_⟩
  by_cases e:t=on
  ·subst e;rw[dh ne];exact(h.tk t h2).2
  ·rw[cG e h1];exact(h.tk t h2).2
 ·refine(za9 h.tn).mpr ⟨λz=>?_,h.ne m hm ?_⟩
  ·rw[z,cK ne]at e;cases e
  ·by_cases z:m=on
   ·rw[z,dh ne]at e;rw[z];exact e
   ·by_cases w:m=name
    ·rw[w,cK ne]at e;cases e
    ·rw[cG z w]at e;exact e
 ·by_cases e:n=on
  ·subst e;rw[dh ne]at hm⊢;exact h.mkd n hnk hm
  ·by_cases e2:n=name
   ·subst e2;rw[cK ne]at hm;cases hm
   ·rw[cG e e2]at hm⊢;exact h.mkd n hnk hm
 ·by_cases e:n=on
  ·subst e;rw[dh ne]at ha;exact h.ab n hnk a ha
  ·by_cases e2:n=name
   ·subst e2;rw[cK ne]at ha;cases ha;exact ok
   ·rw[cG e e2]at ha;exact h.ab n hnk a ha
 ·by_cases e:n=on
  ·subst e
   rw[dh ne];refine⟨?_,λb hb=>?_⟩
   ·show((row n).below++[name]).length<=c+1
    rw[zau,za7];have:=(h.bl n hnk).1;omega
   ·rcases zae (show b∈(row n).below++[name]from hb)with hb|hb
    ·exact(h.bl n hnk).2 b hb
    ·rw[zad hb];exact hk
  ·by_cases e2:n=name
   ·subst e2;rw[cK ne];exact⟨Nat.le_succ_of_le (h.bl n hnk).1,(h.bl n hnk).2⟩
   ·rw[cG e e2];exact⟨by have:=(h.bl n hnk).1;omega,(h.bl n hnk).2⟩
 ·by_cases e:n=on
  ·subst e;rw[dh ne]at ha;exact h.ho n hnk a ha
  ·by_cases e2:n=name
   ·subst e2;rw[cK ne]at ha;cases ha;exact hlt
   ·rw[cG e e2]at ha;exact h.ho n hnk a ha
theorem Bt.new(hc:c<130)(h:Bt K c ak keys row)(v:Int):aK c∉keys/\Bt (λn=>if n=aK c then v else K n) (c+1) (ak++[aK c]) (keys++[aK c]) (aV row (aK c) ⟨v,none,false,[]⟩):=by
 have hn:aK c∉keys:=λz=>by
  obtain⟨i,hi,e⟩:=h.nm _ z;exact lr c (by omega) i hi e
 refine⟨hn,?_,λn hnk=>?_,?_,λt ht=>?_,λm hm e=>?_,λn hnk hm=>?_,λn hnk a ha=>?_,λn hnk=>?_,λn hnk a ha=>?_⟩
 ·rw[List.nodup_append]
  exact⟨h.nd,by simp,λx hx y hy=>by rw[zad hy];exact λe=>hn (by rw[<-e];exact hx)⟩
 ·rcases zae hnk with hx|hx
  ·obtain⟨i,hi,e⟩:=h.nm n hx;exact⟨i,by omega,e⟩
  ·exact⟨c,by omega,zad hx⟩
 ·rw[List.nodup_append]
  exact⟨h.tn,by simp,λx hx y hy=>by rw[zad hy];exact λe=>hn (by rw[<-e];exact(h.tk x hx).1)⟩
 ·rcases zae ht with hx|hx
  ·refine⟨zaW _ (h.tk t hx).1,?_⟩
   rw[aI _ _ (λz=>hn (by rw[<-z];exact(h.tk t hx).1))]
   exact(h.tk t hx).2
  ·rw[zad hx,aR]
   exact⟨by simp,rfl⟩
 ·by_cases z:m=aK c
  ·rw[z];simp
  ·rw[aI _ _ z]at e
   exact zaW _ (h.ne m ((zae hm).resolve_right λw=>z (zad w)) e)
 ·by_cases e:n=aK c
  ·subst e;rw[aR]at hm;cases hm
  ·rw[aI _ _ e]at hm⊢
   exact h.mkd n ((zae hnk).resolve_right λz=>e (zad z)) hm
 ·by_cases e:n=aK c
  ·subst e;rw[aR]at ha;cases ha
  ·rw[aI _ _ e]at ha
   exact zaW _ (h.ab n ((zae hnk).resolve_right λz=>e (zad z)) a ha)
 ·by_cases e:n=aK c
  ·subst e;rw[aR];exact⟨Nat.zero_le _,λb hb=>by cases hb⟩
  ·rw[aI _ _ e]
   have h1:=h.bl n ((zae hnk).resolve_right λz=>e (zad z))
   exact⟨by have:=h1.1;omega,λb hb=>zaW _ (h1.2 b hb)⟩
 ·by_cases e:n=aK c
  ·subst e;rw[aR]at ha;cases ha
  ·rw[aI _ _ e]at ha
   have hk:=(zae hnk).resolve_right λz=>e (zad z)
   rw[if_neg e,if_neg (λz=>hn (by rw[<-z];exact h.ab n hk a ha))]
   exact h.ho n hk a ha
abbrev Bk(c:Nat)(ak keys:List Str)(row:Str->aM.Row):Prop:=Bt (λn=>(row n).key) c ak keys row
theorem Bt.re(h:Bt K c ak keys row)(e:∀n∈keys,K n=(row n).key):Bk c ak keys row :=
 ⟨h.nd,h.nm,h.tn,h.tk,h.ne,h.mkd,h.ab,h.bl,λn hn a ha=>by rw[<-e n hn,<-e a (h.ab n hn a ha)];exact h.ho n hn a ha⟩
theorem Bk.new(hc:c<130)(h:Bk c ak keys row)(v:Int):aK c∉keys/\Bk (c+1) (ak++[aK c]) (keys++[aK c]) (aV row (aK c) ⟨v,none,false,[]⟩) :=
 ⟨(Bt.new hc h v).1,(Bt.new hc h v).2.re λn _=>by
  by_cases e:n=aK c
  ·subst e;rw[aR,if_pos rfl]
  ·rw[aI _ _ e,if_neg e]⟩
theorem pj{l:List Str}(h:∀x∈l,PyData.strOk x=true):PyData.canLayAll0 (l.map .str)=true/\PyData.depthAll (l.map .str)<=1:=by
 induction l with
 |nil=>exact⟨rfl,by simp[PyData.depthAll]⟩
 |cons x l ih=>
  obtain⟨h1,h2⟩:=ih λy hy=>h y (zak _ hy)
  refine⟨?_,?_⟩
  ·simp only[List.map_cons,PyData.canLayAll0,PyData.canLay0,h x List.mem_cons_self,h1,Bool.and_true]
  ·simp only[List.map_cons,PyData.depthAll,PyData.depth]
   omega
theorem lV(h:∀x∈l,PyData.strOk x=true):SeqAt.shaped (TD l)=true:=by
 obtain⟨h1,h2⟩:=pj h;unfold SeqAt.shaped;rw[zaH (by simp only[PyData.depth];omega),Bool.and_true]
 simp only[PyData.canLay0,h1]
theorem GL(h:∀x∈l,PyData.strOk x=true):gNe (TD l) (.list [])=some (.bool (!l.isEmpty),false):=by
 unfold gNe;rw[if_pos ⟨lV h,lV (l:=[]) λx hx=>by cases hx⟩]
 cases l with
 |nil=>rfl
 |cons x l=>simp[PyData.eqv,PyData.eqvAll]
theorem lW:∀l:List Str,bV (l.map .str)=true
 | []=>rfl
 |x::l=>by
  show(fb (.str x)&&bV (l.map .str))=true;rw[lW l];rfl
theorem GN(h0:qp ρ[i]?=some ds)(h4:f ds []=some w)(h5:Mir.putAt ρ i (.list w.1)=ρ1):sP i f ρ=some ((w.2,.fz),ρ1):=by
 unfold sP;rw[h0,zai,h4,zaT,h5]
theorem Ew(h:Is ρ i (HD keys row)):mCB qL (ai (aj i) aG) ρ=some ((TD keys,.new),ρ):=Ep (res:=(TD keys,true)) h (by show some (PyData.list ((bQ keys row).map (·.1)),true)=_;rw[jN])
theorem nQ(h:Is ρ i (TD l)):IE (mCB dN (ai (aj i) aG)) ρ (l.length:Int):=by
 have:=yG h
 rwa[zal]at this
theorem GO(h:Is ρ i (TD l))(hl : 0<l.length)(ha:IE a ρ v):∃n∈l,mOp gIx (aj i) (mOp d5 a (mCB dN (ai (aj i) aG))) ρ=some ((.str n,.fz),ρ):=by
 obtain⟨k,e,hk⟩:=vh v l.length hl;exact⟨l[k],List.getElem_mem hk,qV (r:=(.int (k:Int),.fz)) (res:=(.str l[k],false)) h (au ((ft ha (nQ h) (by omega)).is e)) (Eu (zaC hk))⟩
inductive Up(row:Str->aM.Row):Str->Str->Prop
 |refl (m:Str):Up row m m
 |step {m a n:Str}:(row m).above=some a->Up row a n->Up row m n
theorem Up.trans(h1:Up row m x)(h2:Up row x y):Up row m y:=by
 induction h1 with
 |refl m=>exact h2
 |step e h ih=>exact .step e (ih h2)
section
variable{K:Str->Int}{c:Nat}{ak keys:List Str}{row:Str->aM.Row}
structure Fm(keys:List Str)(row:Str->aM.Row):Prop where
 nd:∀n∈keys,(row n).below.Nodup
 up:∀n∈keys,∀b∈(row n).below,b∈keys/\(row b).above=some n
 dn:∀m∈keys,∀a,(row m).above=some a->m∈(row a).below
 dg:∀n∈keys,∀(i:Nat) (b:Str),(row n).below[i]?=some b->i<=(row b).below.length+b1 (row b).mark
open Classical in
open Classical in
theorem Fm.zero(row:Str->aM.Row):Fm [] row:=⟨(λn hn=>by cases hn),(λn hn=>by cases hn),(λn hn=>by cases hn),λn hn=>by cases hn⟩
theorem Fm.new(f:Fm keys row)(ab:∀n∈keys,∀a,(row n).above=some a->a∈keys)(hx:x∉keys)(v:Int):Fm (keys++[x]) (aV row x ⟨v,none,false,[]⟩):=by
 have ne:∀{n:Str},n∈keys->n≠x:=fun{n} hn e=>hx (e▸hn)
 have spl:∀{n:Str},n∈keys++[x]->n≠x->n∈keys:=fun{n} hn e=>(zae hn).resolve_right λz=>e (zad z)
 refine⟨λn hn=>?_,λn hn b hb=>?_,λm hm a e=>?_,λn hn i b e=>?_⟩
 ·by_cases e:n=x
  ·subst e;rw[aR];exact List.nodup_nil
  ·rw[aI _ _ e];exact f.nd n (spl hn e)
 ·by_cases e:n=x
  ·subst e;rw[aR]at hb;cases hb
  ·rw[aI _ _ e]at hb
   obtain⟨h1,h2⟩:=f.up n (spl hn e) b hb;rw[aI _ _ (ne h1)];exact⟨zaW _ h1,h2⟩
 ·by_cases z:m=x
  ·subst z;rw[aR]at e;cases e
  ·rw[aI _ _ z]at e
   rw[aI _ _ (ne (ab m (spl hm z) a e))];exact f.dn m (spl hm z) a e
 ·by_cases z:n=x
  ·subst z;rw[aR]at e;simp at e
  ·rw[aI _ _ z]at e
   have hb:=f.up n (spl hn z) b (zaj e);rw[aI _ _ (ne hb.1)];exact f.dg n (spl hn z) i b e
theorem Fm.hung(f:Fm keys row)(hx:x∈keys)(hy:y∈keys)(ne:y≠x)(tx:(row x).above=none)(ed:(row x).below.length=(row y).below.length):Fm keys (bH row x y):=by
 have kb:∀{n:Str},n≠y->(bH row x y n).below=(row n).below:=fun{n} e=>by
  by_cases z:n=x
  ·subst z;rw[cK ne]
  ·rw[cG e z]
 have ky:(bH row x y y).below=(row y).below++[x]:=by rw[dh ne]
 have ka:∀{n:Str},n≠x->(bH row x y n).above=(row n).above:=fun{n} e=>by
  by_cases z:n=y
  ·subst z;rw[dh ne]
  ·rw[cG z e]
 have kx:(bH row x y x).above=some y:=by rw[cK ne]
 have km:∀{n:Str},n≠x->(bH row x y n).mark=(row n).mark:=fun{n} e=>by
  by_cases z:n=y
  ·subst z;rw[dh ne]
  ·rw[cG z e]
 have nb:∀n∈keys,x∉(row n).below:=λn hn z=>by
  rw[(f.up n hn x z).2]at tx;cases tx
 have old:∀n∈keys,∀b∈(row n).below,b∈keys/\(bH row x y b).above=some n:=λn hn b hb=>by
  obtain⟨h1,h2⟩:=f.up n hn b hb;exact⟨h1,by rw[ka λe=>nb n hn (e▸hb)];exact h2⟩
 have dl:∀b:Str,(row b).below.length<=(bH row x y b).below.length:=λb=>by
  by_cases z:b=y
  ·subst z;rw[ky,zau];omega
  ·rw[kb z];exact zap _
 have odg:∀n∈keys,∀(i:Nat) (b:Str),(row n).below[i]?=some b->i<=(bH row x y b).below.length+b1 (bH row x y b).mark:=λn hn i b e=>by
  have h1:=f.dg n hn i b e;have h2:=dl b;rw[km λz=>nb n hn (z▸zaj e)]
  omega
 refine⟨λn hn=>?_,λn hn b hb=>?_,λm hm a e=>?_,λn hn i b e=>?_⟩
 ·by_cases z:n=y
  ·subst z
   rw[ky,List.nodup_append];exact⟨f.nd n hn,by simp,λp hp q hq=>by rw[zad hq];exact λe=>nb n hn (e▸hp)⟩
  ·rw[kb z];exact f.nd n hn
 ·by_cases z:n=y
  ·subst z
   rw[ky]at hb;rcases zae hb with hb|hb
   ·exact old n hn b hb
   ·rw[zad hb];exact⟨hx,kx⟩
  ·rw[kb z]at hb;exact old n hn b hb
 ·by_cases z:m=x
  ·subst z
   rw[kx]at e;cases e
   rw[ky];simp
  ·rw[ka z]at e
   have:=f.dn m hm a e
   by_cases w:a=y
   ·subst w;rw[ky];exact zaW _ this
   ·rw[kb w];exact this
 ·by_cases z:n=y
  ·subst z
   rw[ky]at e
   by_cases l:i<(row n).below.length
   ·rw[zax l]at e;exact odg n hn i b e
   ·rw[zaN (by omega)]at e
    cases q:i-(row n).below.length with
    |zero=>
     rw[q]at e;simp at e;subst e;rw[kb λw=>ne w.symm]
     omega
    |succ k=>rw[q]at e;simp at e
  ·rw[kb z]at e;exact odg n hn i b e
structure FmX(keys:List Str)(row:Str->aM.Row)(x:Str):Prop where
 nd:∀n∈keys,(row n).below.Nodup
 up:∀n∈keys,∀b∈(row n).below,b∈keys/\(row b).above=some n
 dn:∀m∈keys,∀a,(row m).above=some a->m∈(row a).below
 dg:∀n∈keys,∀(i:Nat) (b:Str),(row n).below[i]?=some b->b≠x->i<=(row b).below.length+b1 (row b).mark
theorem Fm.x(f:Fm keys row)(x:Str):FmX keys row x:=⟨f.nd,f.up,f.dn,λn hn i b e _=>f.dg n hn i b e⟩
theorem xk:∀l:List Str,l.Nodup->n∈l->(l.filter λx=>!decide (x=n)).length+1=l.length
 |y::l,nd,h=>by
  obtain⟨n1,n2⟩:=List.nodup_cons.mp nd;rw[List.filter_cons]
  by_cases e:y=n
  ·subst e
   rw[if_neg (by simp),zaw,List.filter_eq_self.mpr λx hx=>by
    have:x≠y:=λe=>n1 (e▸hx)
    simpa using this]
  ·rw[if_pos (by simpa using e),zaw,zaw,xk l n2 ((zaf h).resolve_left λz=>e z.symm)]
theorem vn:∀(l:List Str) (i:Nat) (b:Str),(l.filter p)[i]?=some b->∃j,i<=j/\l[j]?=some b
 | [],i,b,h=>by simp at h
 |y::l,i,b,h=>by
  rw[List.filter_cons]at h;split at h
  ·cases i with
   |zero=>exact⟨0,zap _,by simpa using h⟩
   |succ i=>
    obtain⟨j,h1,h2⟩:=vn l i b (by simpa using h)
    exact⟨j+1,by omega,by simpa using h2⟩
  ·obtain⟨j,h1,h2⟩:=vn l i b h
   exact⟨j+1,by omega,by simpa using h2⟩
theorem FmX.cut(f:FmX keys row n)(sa:∀m∈keys,(row m).above≠some m)(hn:n∈keys)(hk:a∈keys)(ha:(row n).above=some a)(ne:a≠n):FmX keys (ez row n a) a/\((row a).mark=false->Fm keys (ez row n a)):=by
 have ca:∀{m:Str},m≠n->(ez row n a m).above=(row m).above:=fun{m} e=>by rw[eJ,if_neg e]
 have ba:(ez row n a a).below=(row a).below.filter λx=>!decide (x=n):=by
  unfold ez bK;rw[aR,aI _ _ ne]
 have bo:∀{m:Str},m≠a->(ez row n a m).below=(row m).below:=fun{m} e=>by
  unfold ez bK;rw[aI _ _ e]
  by_cases z:m=n
  ·subst z;rw[aR]
  ·rw[aI _ _ z]
 have sub:∀{m b:Str},m∈keys->b∈(ez row n a m).below->b∈(row m).below/\b≠n:=fun{m b} hm hb=>by
  by_cases e:m=a
  ·subst e
   rw[ba]at hb;obtain⟨h1,h2⟩:=List.mem_filter.mp hb;exact⟨h1,by simpa using h2⟩
  ·rw[bo e]at hb
   refine⟨hb,λz=>?_⟩
   subst z;rw[(f.up m hm b hb).2]at ha;cases ha;exact e rfl
 have dl:=xk (n:=n) (row a).below (f.nd a hk) (f.dn n hn a ha);have o:FmX keys (ez row n a) a:=by
  refine⟨λm hm=>?_,λm hm b hb=>?_,λm hm x e=>?_,λm hm i b e nb=>?_⟩
  ·by_cases e:m=a
   ·subst e;rw[ba];exact(f.nd m hm).sublist List.filter_sublist
   ·rw[bo e];exact f.nd m hm
  ·obtain⟨h1,h2⟩:=sub hm hb
   rw[ca h2];exact f.up m hm b h1
  ·by_cases z:m=n
   ·subst z;rw[eJ,if_pos rfl]at e;cases e
   ·rw[ca z]at e
    have:=f.dn m hm x e
    by_cases w:x=a
    ·subst w;rw[ba];exact List.mem_filter.mpr ⟨this,by simpa using z⟩
    ·rw[bo w];exact this
  ·have hb:=(sub hm (zaj e)).2
   have key:∀j,i<=j->(row m).below[j]?=some b->i<=(ez row n a b).below.length+b1 (ez row n a b).mark:=λj hj ej=>by
    have:=f.dg m hm j b ej hb;rw[bo nb,tM hb nb];omega
   by_cases z:m=a
   ·subst z
    rw[ba]at e;obtain⟨j,h1,h2⟩:=vn _ i b e;exact key j h1 h2
   ·rw[bo z]at e;exact key i (zap _) e
 refine⟨o,λhm=>⟨o.nd,o.up,o.dn,λm hmk i b e=>?_⟩⟩
 by_cases nb:b=a
 ·subst nb
  have hu:=o.up m hmk b (zaj e);have hs:(ez row n b b).mark=true:=by
   unfold ez;rw[aR];show(bK row n b).above.isSome=true;rw[qY,if_neg ne,<-ca ne,hu.2];rfl
  have mb:m≠b:=λz=>by
   subst z;exact sa m hmk (f.up m hmk m (sub hmk (zaj e)).1).2
  rw[bo mb]at e;have:=f.dg m hmk i b e (λz=>ne z)
  rw[ba,hs];rw[hm]at this;have h1:b1 true=1:=rfl;have h0:b1 false=0:=rfl;omega
 ·exact o.dg m hmk i b e nb
theorem Fm.cuts:∀(C ak:List Str) (row:Str->aM.Row) (n L:Str),Bt K c ak keys row->n∈keys->FmX keys row n->Ch row n C L->Fm keys (cuts C row):=by
 intro C
 induction C with
 |nil=>intro ak row n L _ _ _ hch;cases hch
 |cons x C ih=>
  intro ak row n L h hn f hch;have sa:∀m∈keys,(row m).above≠some m:=λm hm e=>h.neA hm e rfl
  cases hch with
  |one ha hm=>
   rw[lU ha];exact(f.cut sa hn (h.ab x hn _ ha) ha (h.neA hn ha)).2 hm
  |more ha hm hch=>
   rename_i a
   have hka:=h.ab x hn a ha;rw[lU ha];exact ih (ak++[x]) (ez row x a) a L (h.cut hn ha) hka (f.cut sa hn hka ha (h.neA hn ha)).1 (Ch.cut h hn ha hch)
end
theorem lx(f:Option Str):oB (cm f) .none=some (.bool f.isSome,false):=by cases f<;>rfl
theorem xl(l:List Str)(x:Str):l.map PyData.str++[.str x]=(l++[x]).map .str:=by rw[za1];rfl
theorem Kn{l:List D}(h1:sv a ρ=some ((.tuple l,k),ρ1)):Fs a ρ=some (l,ρ1):=by
 unfold Fs;rw[h1];rfl
theorem xm(hc:c<=200){K:Str->Int}(h:Bt K c ak keys row)(hn:name∈keys)(ha:(row name).above=some a){sts:List D}(hs:sts.length<=1000){s5 s6 s7 s8 s9 s10:Sl}(n5:NIo s5)(n6:NIo s6)(n7:NIo s7)(n8:NIo s8)(n9:NIo s9)(n10:NIo s10) :
  ll [.io (TD ak),.io (HD keys row),.fz (.str name),.own (.list sts),.fz (.bool true),s5,s6,s7,s8,s9,s10]=some (.nx [.io (TD (ak++[name])),.io (HD keys (ez row name a)),.fz (.str a),.own (.list (sts++[.tuple [.str "cut",.str name]])),.fz (.bool (bK row name a).mark),.fz (.int (bK row name a).key),.fz (.str a),.fz (.bool (row name).mark),.fz (.tuple (((bK row name a).below.filter λx=>!decide (x=name)).map .str)),.fz (cm (bK row name a).above),.fz (.bool (bK row name a).mark)]):=by
 have hka:=h.ab name hn a ha;have kl:=h.kl;have tl:=h.tl;have okn:=h.ok hn;refine aW (ρ1:=[.io (TD ak),.io (HD keys row),.fz (.str name),.own (.list sts),.fz (.bool true),.fz (.int (row name).key),.fz (.str a),.fz (.bool (row name).mark),.fz (.tuple ((row name).below.map .str)),s9,s10]) (qc (jm (.inr (.inr rfl)) hn (aB rfl)) ?_) ?_
 ·show(mgN 5 (.int (row name).key) _).bind (fun ρ1=>(mgN 6 (cm (row name).above) ρ1).bind fun ρ2=>(mgN 7 (.bool (row name).mark) ρ2).bind fun ρ3=>(mgN 8 (.tuple ((row name).below.map .str)) ρ3).bind fun ρ4=>some ρ4)=_
  rw[fm (s:=s5) rfl n5,zai,fm (s:=s6) rfl n6,zai,fm (s:=s7) rfl n7,zai,fm (s:=s8) rfl n8,zai,ha];rfl
 refine aW (ρ1:=[.io (TD ak),.io (HD keys (bK row name)),.fz (.str name),.own (.list sts),.fz (.bool true),.fz (.int (row name).key),.fz (.str a),.fz (.bool (row name).mark),.fz (.tuple ((row name).below.map .str)),s9,s10]) ((i7 (i:=1) (r:=⟨(row name).key,none,false,(row name).below⟩) (fP (rs:=[(.int (row name).key,.fz),(.none,.fz),(.bool false,.fz),(.tuple ((row name).below.map .str),.fz)]) rfl rfl (by simp)) (aB rfl) rfl (.inr rfl) (by omega)).trans (by rw[nP hn];rfl)) ?_
 refine aW (ρ1:=[.io (TD (ak++[name])),.io (HD keys (bK row name)),.fz (.str name),.own (.list sts),.fz (.bool true),.fz (.int (row name).key),.fz (.str a),.fz (.bool (row name).mark),.fz (.tuple ((row name).below.map .str)),s9,s10]) (jZ (vg (rs:=[(.str name,.fz)]) rfl rfl rfl rfl (yH _ (by rw[zal];omega)) (by rw[xl];rfl))) ?_
 refine aW (ρ1:=[.io (TD (ak++[name])),.io (HD keys (bK row name)),.fz (.str name),.own (.list (sts++[.tuple [.str "cut",.str name]])),.fz (.bool true),.fz (.int (row name).key),.fz (.str a),.fz (.bool (row name).mark),.fz (.tuple ((row name).below.map .str)),s9,s10]) (jZ (vg (rs:=[(.tuple [.str "cut",.str name],.fz)]) rfl (az (au (fP (rs:=[(.str "cut",.fz),(.str name,.fz)]) rfl rfl (by simp))) aQ) rfl rfl (yH _ (by omega)) rfl)) ?_
 refine aW (ρ1:=[.io (TD (ak++[name])),.io (HD keys (bK row name)),.fz (.str name),.own (.list (sts++[.tuple [.str "cut",.str name]])),.fz (.bool true),.fz (.int (bK row name a).key),.fz (.str a),.fz (.bool (row name).mark),.fz (.tuple ((bK row name a).below.map .str)),.fz (cm (bK row name a).above),.fz (.bool (bK row name a).mark)]) (qc (jm (.inr (.inr rfl)) hka (aB rfl)) ?_) ?_
 ·show(some ([.io (TD (ak++[name])),.io (HD keys (bK row name)),.fz (.str name),.own (.list (sts++[.tuple [.str "cut",.str name]])),.fz (.bool true),.fz (.int (bK row name a).key),.fz (.str a),.fz (.bool (row name).mark),.fz (.tuple ((row name).below.map .str)),s9,s10]:Rho)).bind (fun ρ1=>(mgN 9 (cm (bK row name a).above) ρ1).bind fun ρ2=>(mgN 10 (.bool (bK row name a).mark) ρ2).bind fun ρ3=>(mgN 8 (.tuple ((bK row name a).below.map .str)) ρ3).bind fun ρ4=>some ρ4)=_
  rw[zai,fm (s:=s9) rfl n9,zai,fm (s:=s10) rfl n10,zai];rfl
 have bk:∀b∈(bK row name a).below,b∈keys:=λb hb=>by
  have e:(bK row name a).below=(row a).below:=by
   unfold bK aV;split
   ·rename_i e;rw[e]
   ·rfl
  rw[e]at hb;exact(h.bl a hka).2 b hb
 have bl:(bK row name a).below.length<=1000:=by
  have e:(bK row name a).below=(row a).below:=by
   unfold bK aV;split
   ·rename_i e;rw[e]
   ·rfl
  rw[e];have:=(h.bl a hka).1;omega
 refine aW (ρ1:=[.io (TD (ak++[name])),.io (HD keys (bK row name)),.fz (.str name),.own (.list (sts++[.tuple [.str "cut",.str name]])),.fz (.bool true),.fz (.int (bK row name a).key),.fz (.str a),.fz (.bool (row name).mark),.fz (.tuple (((bK row name a).below.filter λx=>!decide (x=name)).map .str)),.fz (cm (bK row name a).above),.fz (.bool (bK row name a).mark)]) (gh (eE (rs:=[(.list (((bK row name a).below.filter λx=>!decide (x=name)).map .str),.fz)]) (res:=(.tuple (((bK row name a).below.filter λx=>!decide (x=name)).map .str),true)) (az (dw (Hx (Kn (au (aB rfl))) (j5 (p:=λx=>!decide (x=name)) _ (λx hx=>⟨_,test_ev (k:=.fz) (bP (r:=(.str name,.fz)) (res:=(.bool (!decide (x=name)),false)) (au (aB rfl)) (au (aB rfl)) (GJ (h.ok (bk x hx)) okn))⟩) λx hx=>⟨_,au (aB rfl)⟩) (by rw[zal];exact zaX (zaY _ _) (by omega)))) aQ) rfl) rfl) ?_
 refine aW (ρ1:=[.io (TD (ak++[name])),.io (HD keys (ez row name a)),.fz (.str name),.own (.list (sts++[.tuple [.str "cut",.str name]])),.fz (.bool true),.fz (.int (bK row name a).key),.fz (.str a),.fz (.bool (row name).mark),.fz (.tuple (((bK row name a).below.filter λx=>!decide (x=name)).map .str)),.fz (cm (bK row name a).above),.fz (.bool (bK row name a).mark)]) ((i7 (i:=1) (r:=⟨(bK row name a).key,(bK row name a).above,(bK row name a).above.isSome,(bK row name a).below.filter λx=>!decide (x=name)⟩) (fP (rs:=[(.int (bK row name a).key,.fz),(cm (bK row name a).above,.fz),(.bool (bK row name a).above.isSome,.fz),(.tuple (((bK row name a).below.filter λx=>!decide (x=name)).map .str),.fz)]) (az (au (aB rfl)) (az (au (aB rfl)) (az (au (bP (r:=(.none,.fz)) (res:=(.bool (bK row name a).above.isSome,false)) (au (aB rfl)) (au rfl) (lx _))) (az (au (aB rfl)) aQ)))) rfl (by simp)) (aB rfl) rfl (.inr rfl) (by omega)).trans (by rw[nP hka];rfl)) ?_
 exact aW (ρ1:=[.io (TD (ak++[name])),.io (HD keys (ez row name a)),.fz (.str name),.own (.list (sts++[.tuple [.str "cut",.str name]])),.fz (.bool (bK row name a).mark),.fz (.int (bK row name a).key),.fz (.str a),.fz (.bool (row name).mark),.fz (.tuple (((bK row name a).below.filter λx=>!decide (x=name)).map .str)),.fz (cm (bK row name a).above),.fz (.bool (bK row name a).mark)]) (gh (aB rfl) rfl) (gh (aB rfl) rfl)
theorem BH(hc:c<=200):∀(C:List Str) (ak:List Str) (row:Str->aM.Row) (name L:Str) (sts:List D) (s5 s6 s7 s8 s9 s10:Sl) (fuel:Nat),NIo s5->NIo s6->NIo s7->NIo s8->NIo s9->NIo s10->Ch row name C L->Bt K c ak keys row->name∈keys->sts.length+C.length<=1000->C.length<fuel->
  ∃n' tl,gN pe ll fuel [.io (TD ak),.io (HD keys row),.fz (.str name),.own (.list sts),.fz (.bool true),s5,s6,s7,s8,s9,s10]=some (.nx (.io (TD (ak++C))::.io (HD keys (cuts C row))::.fz n'::.own (.list (sts++C.map stp))::tl))/\Bt K c (ak++C) keys (cuts C row):=by
 intro C
 induction C with
 |nil=>intro ak row name L sts s5 s6 s7 s8 s9 s10 fuel _ _ _ _ _ _ hch;cases hch
 |cons x C ih=>
  intro ak row name L sts s5 s6 s7 s8 s9 s10 fuel n5 n6 n7 n8 n9 n10 hch h hn hs hf;rw[zaw]at hs hf;obtain⟨fuel,rfl⟩:∃k,fuel=k+1:=⟨fuel-1,by omega⟩
  cases hch with
  |one ha hm=>
   obtain⟨fuel,rfl⟩:∃k,fuel=k+1:=⟨fuel-1,by omega⟩
   have ne:=h.neA hn ha;rw[lU ha];exact⟨_,_,wg (test_ev (k:=.fz) (aB rfl)) (xm hc h hn ha (by omega) n5 n6 n7 n8 n9 n10) (sS (test_ev (k:=.fz) (by rw[tN ne,hm];exact aB rfl))),h.cut hn ha⟩
  |more ha hm hch=>
   rename_i a
   have ne:=h.neA hn ha;rw[lU ha];obtain⟨n',tl,h1,h2⟩:=ih (ak++[x]) (ez row x a) a L (sts++[.tuple [.str "cut",.str x]]) (.fz (.int (bK row x a).key)) (.fz (.str a)) (.fz (.bool (row x).mark)) (.fz (.tuple (((bK row x a).below.filter λy=>!decide (y=x)).map .str))) (.fz (cm (bK row x a).above)) (.fz (.bool (bK row x a).mark)) fuel (NIo.fz _) (NIo.fz _) (NIo.fz _) (NIo.fz _) (NIo.fz _) (NIo.fz _) (Ch.cut h hn ha hch) (h.cut hn ha) (h.ab x hn a ha) (by rw[zau,za7];omega) (by omega)
   refine⟨n',tl,wg (test_ev (k:=.fz) (aB rfl)) (xm hc h hn ha (by omega) n5 n6 n7 n8 n9 n10) ?_,?_⟩
   ·rw[tN ne,hm]at h1⊢
    rw[h1,zaD,zaD];rfl
   ·rw[zaD]at h2;exact h2
theorem LL(hc:c<=200)(h:Bt K c ak keys row)(hn:name∈keys)(hch:Ch row name C L)(hl:C.length<=200):ip [TD ak,HD keys row,.str name]=some ((.list (C.map stp),true),TD (ak++C),HD keys (cuts C row))/\Bt K c (ak++C) keys (cuts C row):=by
 obtain⟨n',tl,h1,h2⟩:=BH hc C ak row name L [] .no .no .no .no .no .no 1000000 NIo.no NIo.no NIo.no NIo.no NIo.no NIo.no hch h hn (by simp;omega) (by omega)
 refine⟨?_,h2⟩;have ea:(row name).above.isSome=true:=by cases hch with|one ha _=>rw[ha];rfl|more ha _ _=>rw[ha];rfl
 refine yI (o:=.rt (.list (C.map stp),.at 3) (.io (TD (ak++C))::.io (HD keys (cuts C row))::.fz n'::.own (.list (C.map stp))::tl)) rfl ?_ rfl rfl;refine aW (ρ1:=[.io (TD ak),.io (HD keys row),.fz (.str name),.own (.list []),.no,.no,.no,.no,.no,.no,.no]) (fe (gQ (rs:=[]) rfl rfl (by simp)) rfl) ?_
 refine aW (ρ1:=[.io (TD ak),.io (HD keys row),.fz (.str name),.own (.list []),.fz (.bool true),.no,.no,.no,.no,.no,.no]) (gh (bP (r:=(.none,.fz)) (res:=(.bool true,false)) (au (tH (jm (.inr (.inr rfl)) hn (aB rfl)))) (au rfl) (by rw[lx,ea])) rfl) ?_
 rw[List.nil_append]at h1;exact aW h1 (dO (gv rfl))
theorem Ko(hc:c<=200)(h:Bt K c ak keys row)(hF:Fm keys row)(hn:name∈keys):∃jO cF sts,ip [TD ak,HD keys row,.str name]=some ((.list sts,true),TD jO,HD keys cF)/\Bt K c jO keys cF/\(∀n,(cF n).key=(row n).key)/\Fm keys cF:=by
 cases ea:(row name).above with
 |some a=>
  obtain⟨C,L,h1,h2⟩:=LK h hn (by rw[ea];simp)
  obtain⟨h3,h4⟩:=LL hc h hn h1 (by omega)
  exact⟨_,_,_,h3,h4,xi C row,Fm.cuts C ak row name L h hn (hF.x name) h1⟩
 |none=>
  refine⟨ak,row,[],?_,h,λ_=>rfl,hF⟩
  refine yI (o:=.rt (.list [],.at 3) [.io (TD ak),.io (HD keys row),.fz (.str name),.own (.list []),.fz (.bool false),.no,.no,.no,.no,.no,.no]) rfl ?_ rfl rfl;refine aW (ρ1:=[.io (TD ak),.io (HD keys row),.fz (.str name),.own (.list []),.no,.no,.no,.no,.no,.no,.no]) (fe (gQ (rs:=[]) rfl rfl (by simp)) rfl) ?_
  refine aW (ρ1:=[.io (TD ak),.io (HD keys row),.fz (.str name),.own (.list []),.fz (.bool false),.no,.no,.no,.no,.no,.no]) (gh (bP (r:=(.none,.fz)) (res:=(.bool false,false)) (au (tH (jm (.inr (.inr rfl)) hn (aB rfl)))) (au rfl) (by rw[lx,ea];rfl)) rfl) ?_
  exact aW (sS (n:=999999) (test_ev (k:=.fz) (aB rfl))) (dO (gv rfl))
def Lo(f:Nat)(keys:List Str):Prop:=∀n∈keys,∃i,f<=i/\i<130/\n=aK i
theorem Lo.new(h:Lo f keys)(hf:f<=c)(hc:c<130):Lo f (keys++[aK c]):=λn hn=>by
 rcases zae hn with z|z
 ·exact h n z
 ·exact⟨c,hf,hc,zad z⟩
abbrev bst(f:Nat)(cs:D)(T H:D)(k cell:Int)(s6 s7 s8 s9:Sl):Rho:=[.fz cs,.fz (.int (f:Int)),.own T,.own H,.fz (.int k),.fz (.int cell),s6,s7,s8,s9]
theorem yK{f c k:Nat}(hck:c=f+k)(hc:c<130)(h:Bk c ak keys row)(hF:Fm keys row)(hO:Lo f keys)(cs:D)(cell:Int)(n6:NIo s6)(n7:NIo s7)(n8:NIo s8)(n9:NIo s9) :
  ∃jO keys' cF t6 t7 t8 t9,gw (bst f cs (TD ak) (HD keys row) (k:Int) cell s6 s7 s8 s9)=some (.nx (bst f cs (TD jO) (HD keys' cF) (k:Int) cell t6 t7 t8 t9))/\Bk (c+1) jO keys' cF/\(Fm keys' cF/\Lo f keys')/\NIo t6/\NIo t7/\NIo t8/\NIo t9:=by
 have kl:=h.kl;have tl:=h.tl;obtain⟨L,hL,hL2⟩:=GK (row:=row) (λt ht=>(h.tk t ht).1) (by omega) (cell/5%97)
 have okL:∀x∈L,PyData.strOk x=true:=λx hx=>by
  rcases hL2 with rfl|⟨a,b,i,j,rfl,_,g1,g2,_⟩
  ·cases hx
  ·have:x=a\/x=b:=by simpa using hx
   rcases this with rfl|rfl
   ·exact h.ok (h.tk x (zaj g1)).1
   ·exact h.ok (h.tk x (zaj g2)).1
 have hd:∀o,fL (mj (aL (mOp gEq (mOp d5 (aj 5) (mC (.int 5))) (mC (.int 4)))) (aL (mOp gGt (mCB dN (ai (aj 8) aG)) (mC (.int 0)))))
   (eD (j1 2 3 ip (ai (mOp gIx (aj 8) (mOp d5 (aj 6) (mCB dN (ai (aj 8) aG)))) aG)))
   (fL (mj (aL (mOp gGt (mOp d5 (aj 5) (mC (.int 5))) (mC (.int 0)))) (aL (mOp gNe (aj 7) (eN aG))))
   (cI (fL (aL (bg eP (ai (aj 3) (ai (mOp gIx (aj 7) (mC (.int 0))) (ai (mOp gIx (aj 7) (mC (.int 1))) aG)))))
   (eD (sP 7 m4))
   dJ)
   (eD (j1 2 3 gj (ai (mOp gIx (aj 7) (mC (.int 0))) (ai (mOp gIx (aj 7) (mC (.int 1))) aG)))))
   (cI (dM 9 (bg c8 (ai (mOp et (aj 1) (aj 4)) aG)))
   (cI (i5 3 (gz (ai (bg dQ (ai (aj 6) aG)) (ai (mC .none) (ai (mC (.bool false)) (ai (gz aG) aG))))) (aj 9))
   (eD (uq 2 iX (ai (aj 9) aG)))))) (bst f cs (TD ak) (HD keys row) (k:Int) cell (.fz (.int (cell/5))) (.own (TD L)) (.own (TD keys)) s9)=some o->gw (bst f cs (TD ak) (HD keys row) (k:Int) cell s6 s7 s8 s9)=some o:=λo ho=>by
  refine aW (ρ1:=bst f cs (TD ak) (HD keys row) (k:Int) cell (.fz (.int (cell/5))) s7 s8 s9) (gh (yg (dy rfl) cB ⟨by decide,by decide⟩) (j4 (s:=s6) _ rfl n6)) ?_
  refine aW (ρ1:=bst f cs (TD ak) (HD keys row) (k:Int) cell (.fz (.int (cell/5))) (.own (TD L)) s8 s9) (fe (dm (rs:=[(TD ak,.at 2),(HD keys row,.at 3),(.int (cell/5%97),.fz)]) (pW (ng (gv rfl)) (pW (ng (gv rfl)) (l8 (ft (dy rfl) cB (by decide)) aQ) rfl) rfl) hL (lW L)) (j4 (s:=s7) _ rfl n7)) ?_
  exact aW (ρ1:=bst f cs (TD ak) (HD keys row) (k:Int) cell (.fz (.int (cell/5))) (.own (TD L)) (.own (TD keys)) s9) (fe (Ew (.inr (.inl rfl))) (j4 (s:=s8) _ rfl n8)) ho
 have em:IE (mOp d5 (aj 5) (mC (.int 5))) (bst f cs (TD ak) (HD keys row) (k:Int) cell (.fz (.int (cell/5))) (.own (TD L)) (.own (TD keys)) s9) (cell%5):=ft (dy rfl) cB (by decide)
 have el:IE (mCB dN (ai (aj 8) aG)) (bst f cs (TD ak) (HD keys row) (k:Int) cell (.fz (.int (cell/5))) (.own (TD L)) (.own (TD keys)) s9) (keys.length:Int):=nQ (.inr (.inl rfl))
 by_cases c1:cell%5=4/\0<keys.length
 ·obtain⟨n,hn,en⟩:=GO (ρ:=bst f cs (TD ak) (HD keys row) (k:Int) cell (.fz (.int (cell/5))) (.own (TD L)) (.own (TD keys)) s9) (i:=8) (l:=keys) (.inr (.inl rfl)) c1.2 (a:=aj 6) (dy rfl)
  obtain⟨jO,cF,sts,h1,h2,h2k,h2f⟩:=Ko (by omega:c<=200) h hF hn
  refine⟨jO,keys,cF,_,_,_,_,hd _ (pK (qz (tEq em cB c1.1) (gD (ku el cB) (zaH (by omega)))) (jZ (xg (r:=(.list sts,.new)) (ρ3:=bst f cs (TD jO) (HD keys cF) (k:Int) cell (.fz (.int (cell/5))) (.own (TD L)) (.own (TD keys)) s9) (by decide) rfl rfl (az (au en) aQ) rfl rfl rfl h1 rfl))),(h2.re λn _=>(h2k n).symm).more (Nat.le_succ c),⟨h2f,hO⟩,NIo.fz _,NIo.own _,NIo.own _,n9⟩
 ·have t1:mj (aL (mOp gEq (mOp d5 (aj 5) (mC (.int 5))) (mC (.int 4)))) (aL (mOp gGt (mCB dN (ai (aj 8) aG)) (mC (.int 0)))) (bst f cs (TD ak) (HD keys row) (k:Int) cell (.fz (.int (cell/5))) (.own (TD L)) (.own (TD keys)) s9)=some (false,bst f cs (TD ak) (HD keys row) (k:Int) cell (.fz (.int (cell/5))) (.own (TD L)) (.own (TD keys)) s9):=by
   by_cases e:cell%5=4
   ·exact qz (tEq em cB e) (gD (ku el cB) (zaO (by omega)))
   ·exact zF (tNe em cB e)
  have enw:mOp gNe (aj 7) (eN aG) (bst f cs (TD ak) (HD keys row) (k:Int) cell (.fz (.int (cell/5))) (.own (TD L)) (.own (TD keys)) s9)=some ((.bool (!L.isEmpty),.fz),bst f cs (TD ak) (HD keys row) (k:Int) cell (.fz (.int (cell/5))) (.own (TD L)) (.own (TD keys)) s9):=qV (r:=(.list [],.fz)) (res:=(.bool (!L.isEmpty),false)) (.inr (.inl rfl)) (dw (gQ (rs:=[]) rfl rfl (by simp))) (GL okL)
  by_cases c2 : 0<cell%5/\L≠[]
  ·obtain⟨a,b,i,j,rfl,ne,g1,g2,ed⟩:=hL2.resolve_left c2.2
   have ma:=zaj g1;have mb:=zaj g2;have ka:=(h.tk a ma).1;have kb:=(h.tk b mb).1;have nab:a≠b:=λe=>by
    subst e;obtain⟨hi,e1⟩:=zac g1;obtain⟨hj,e2⟩:=zac g2;have pw:=List.pairwise_iff_getElem.mp h.tn;rcases Nat.lt_or_gt_of_ne ne with q|q
    ·exact pw i j hi hj q (e1.trans e2.symm)
    ·exact pw j i hj hi q (e2.trans e1.symm)
   have fin:∀x y:Str,x∈ak->y∈ak->y≠x->eD (j1 2 3 gj (ai (mOp gIx (aj 7) (mC (.int 0))) (ai (mOp gIx (aj 7) (mC (.int 1))) aG))) (bst f cs (TD ak) (HD keys row) (k:Int) cell (.fz (.int (cell/5))) (.own (TD [x,y])) (.own (TD keys)) s9)=some (.nx (bst f cs (TD (ak.erase x)) (HD keys (bH row x y)) (k:Int) cell (.fz (.int (cell/5))) (.own (TD [x,y])) (.own (TD keys)) s9)):=λx y hx hy hne=>by
    have i0:mOp gIx (aj 7) (mC (.int 0)) (bst f cs (TD ak) (HD keys row) (k:Int) cell (.fz (.int (cell/5))) (.own (TD [x,y])) (.own (TD keys)) s9)=some ((.str x,.fz),bst f cs (TD ak) (HD keys row) (k:Int) cell (.fz (.int (cell/5))) (.own (TD [x,y])) (.own (TD keys)) s9):=qV (r:=(.int 0,.fz)) (res:=(.str x,false)) (.inr (.inl rfl)) (au rfl) rfl;have i1:mOp gIx (aj 7) (mC (.int 1)) (bst f cs (TD ak) (HD keys row) (k:Int) cell (.fz (.int (cell/5))) (.own (TD [x,y])) (.own (TD keys)) s9)=some ((.str y,.fz),bst f cs (TD ak) (HD keys row) (k:Int) cell (.fz (.int (cell/5))) (.own (TD [x,y])) (.own (TD keys)) s9):=qV (r:=(.int 1,.fz)) (res:=(.str y,false)) (.inr (.inl rfl)) (au rfl) rfl;exact jZ (xg (r:=(.none,.fz)) (by decide) rfl rfl (az (au i0) (az (au i1) aQ)) rfl rfl rfl (GI (h.tk x hx).1 (h.tk y hy).1 hx (by omega) λn hn=>by have:=(h.bl n hn).1;omega) rfl)
   have i0:mOp gIx (aj 7) (mC (.int 0)) (bst f cs (TD ak) (HD keys row) (k:Int) cell (.fz (.int (cell/5))) (.own (TD [a,b])) (.own (TD keys)) s9)=some ((.str a,.fz),bst f cs (TD ak) (HD keys row) (k:Int) cell (.fz (.int (cell/5))) (.own (TD [a,b])) (.own (TD keys)) s9):=qV (r:=(.int 0,.fz)) (res:=(.str a,false)) (.inr (.inl rfl)) (au rfl) rfl;have i1:mOp gIx (aj 7) (mC (.int 1)) (bst f cs (TD ak) (HD keys row) (k:Int) cell (.fz (.int (cell/5))) (.own (TD [a,b])) (.own (TD keys)) s9)=some ((.str b,.fz),bst f cs (TD ak) (HD keys row) (k:Int) cell (.fz (.int (cell/5))) (.own (TD [a,b])) (.own (TD keys)) s9):=qV (r:=(.int 1,.fz)) (res:=(.str b,false)) (.inr (.inl rfl)) (au rfl) rfl;have tb:aL (bg eP (ai (aj 3) (ai (mOp gIx (aj 7) (mC (.int 0))) (ai (mOp gIx (aj 7) (mC (.int 1))) aG)))) (bst f cs (TD ak) (HD keys row) (k:Int) cell (.fz (.int (cell/5))) (.own (TD [a,b])) (.own (TD keys)) s9)=some (aX (row a).key a (row b).key b,bst f cs (TD ak) (HD keys row) (k:Int) cell (.fz (.int (cell/5))) (.own (TD [a,b])) (.own (TD keys)) s9):=(ef (rs:=[(HD keys row,.at 3),(.str a,.fz),(.str b,.fz)]) (pW (ng (gv rfl)) (az (au i0) (az (au i1) aQ)) rfl) (BC keys row a b ka kb)).t;have t2:mj (aL (mOp gGt (mOp d5 (aj 5) (mC (.int 5))) (mC (.int 0)))) (aL (mOp gNe (aj 7) (eN aG))) (bst f cs (TD ak) (HD keys row) (k:Int) cell (.fz (.int (cell/5))) (.own (TD [a,b])) (.own (TD keys)) s9)=some (true,bst f cs (TD ak) (HD keys row) (k:Int) cell (.fz (.int (cell/5))) (.own (TD [a,b])) (.own (TD keys)) s9):=qz (gD (ku em cB) (zaH c2.1)) (test_ev (k:=.fz) enw);cases eb:aX (row a).key a (row b).key b with
   |true=>
    rw[eb]at tb;exact⟨ak.erase b,keys,bH row b a,_,_,_,_,hd _ (iP t1 (pK t2 (aW (ρ1:=bst f cs (TD ak) (HD keys row) (k:Int) cell (.fz (.int (cell/5))) (.own (TD [b,a])) (.own (TD keys)) s9) (pK tb (jZ (GN rfl rfl rfl))) (fin b a mb ma nab)))),(h.hung mb ma nab eb).re λn _=>(lu nab n).symm,⟨hF.hung kb ka nab (h.tk b mb).2 ed.symm,hO⟩,NIo.fz _,NIo.own _,NIo.own _,n9⟩
   |false=>
    rw[eb]at tb;exact⟨ak.erase a,keys,bH row a b,_,_,_,_,hd _ (iP t1 (pK t2 (aW (ρ1:=bst f cs (TD ak) (HD keys row) (k:Int) cell (.fz (.int (cell/5))) (.own (TD [a,b])) (.own (TD keys)) s9) (iP tb rfl) (fin a b ma mb λz=>nab z.symm)))),(h.hung ma mb (λz=>nab z.symm) (qX nab eb)).re λn _=>(lu (λz=>nab z.symm) n).symm,⟨hF.hung ka kb (λz=>nab z.symm) (h.tk a ma).2 ed,hO⟩,NIo.fz _,NIo.own _,NIo.own _,n9⟩
  ·have t2:mj (aL (mOp gGt (mOp d5 (aj 5) (mC (.int 5))) (mC (.int 0)))) (aL (mOp gNe (aj 7) (eN aG))) (bst f cs (TD ak) (HD keys row) (k:Int) cell (.fz (.int (cell/5))) (.own (TD L)) (.own (TD keys)) s9)=some (false,bst f cs (TD ak) (HD keys row) (k:Int) cell (.fz (.int (cell/5))) (.own (TD L)) (.own (TD keys)) s9):=by
    by_cases e : 0<cell%5
    ·have:L=[]:=Classical.byContradiction λz=>c2 ⟨e,z⟩
     subst this;exact qz (gD (ku em cB) (zaH e)) (test_ev (k:=.fz) enw)
    ·exact zF (gD (ku em cB) (zaO e))
   obtain⟨v,hv⟩:=key_is (cell/5);obtain⟨hnk,hB⟩:=Bk.new (by omega:c<130) h v
   have ea:IE (mOp et (aj 1) (aj 4)) (bst f cs (TD ak) (HD keys row) (k:Int) cell (.fz (.int (cell/5))) (.own (TD L)) (.own (TD keys)) s9) (c:Int):=(kT (dy rfl) (dy rfl)).is (by omega)
   refine⟨_,_,_,_,_,_,_,hd _ (iP t1 (iP t2 ?_)),hB,⟨hF.new h.ab hnk v,hO.new (by omega) hc⟩,NIo.fz (.int (cell/5)),NIo.own (TD L),NIo.own (TD keys),NIo.fz (.str (aK c))⟩
   refine aW (ρ1:=bst f cs (TD ak) (HD keys row) (k:Int) cell (.fz (.int (cell/5))) (.own (TD L)) (.own (TD keys)) (.fz (.str (aK c)))) (gh (dm (rs:=[(.int (c:Int),.fz)]) (l8 ea aQ) (Ak c) rfl) (j4 (s:=s9) _ rfl n9)) ?_;refine aW (ρ1:=bst f cs (TD ak) (HD (keys++[aK c]) (aV row (aK c) ⟨v,none,false,[]⟩)) (k:Int) cell (.fz (.int (cell/5))) (.own (TD L)) (.own (TD keys)) (.fz (.str (aK c)))) ((i7 (i:=3) (r:=⟨v,none,false,[]⟩) (fP (rs:=[(.int v,.fz),(.none,.fz),(.bool false,.fz),(.tuple [],.fz)]) (l8 (iY (rs:=[(.int (cell/5),.fz)]) rfl hv) (az (au rfl) (az (au rfl) (az (au (fP (rs:=[]) rfl rfl (by simp))) aQ)))) rfl (by simp)) (aB rfl) rfl (.inl rfl) (by omega)).trans (by rw[gJ hnk];rfl)) ?_
   exact jZ (vg (rs:=[(.str (aK c),.fz)]) rfl rfl rfl rfl (yH _ (by rw[zal];omega)) (by rw[xl];rfl))
theorem Ex(cs:List Int):pd (cs.map .int)=(cs.zipIdx).map λp:Int×Nat=>PyData.tuple [.int (p.2:Int),.int p.1]:=by
 unfold pd;refine List.ext_getElem? λi=>?_
 rw[List.getElem?_mapIdx,zao,zao,List.getElem?_zipIdx];cases cs[i]? <;>simp
theorem yL(csD:D):∀(cs:List Int) (k:Nat) (ak keys:List Str) (row:Str->aM.Row) (s4 s5 s6 s7 s8 s9:Sl),NIo s4->NIo s5->NIo s6->NIo s7->NIo s8->NIo s9->f+k+cs.length<=130->Bk (f+k) ak keys row->Fm keys row->Lo f keys->
  ∃jO keys' cF tl,forL (mgU 2 (bE (mgN 4) (bE (mgN 5) gM))) gw ((cs.zipIdx k).map λp:Int×Nat=>PyData.tuple [.int (p.2:Int),.int p.1]) [.fz csD,.fz (.int (f:Int)),.own (TD ak),.own (HD keys row),s4,s5,s6,s7,s8,s9]=some (.nx (.fz csD::.fz (.int (f:Int))::.own (TD jO)::.own (HD keys' cF)::tl))/\Bk (f+k+cs.length) jO keys' cF/\Fm keys' cF/\Lo f keys':=by
 intro cs
 induction cs with
 |nil=>intro k ak keys row s4 s5 s6 s7 s8 s9 _ _ _ _ _ _ _ h hF hO;exact⟨ak,keys,row,_,rfl,h,hF,hO⟩
 |cons x cs ih=>
  intro k ak keys row s4 s5 s6 s7 s8 s9 n4 n5 n6 n7 n8 n9 hl h hF hO;rw[zaw]at hl⊢;obtain⟨LM,LN,dB,t6,t7,t8,t9,h1,h2,⟨h2f,h2o⟩,m6,m7,m8,m9⟩:=yK (f:=f) (k:=k) rfl (by omega) h hF hO csD x n6 n7 n8 n9
  obtain⟨jO,keys',cF,tl,h3,h4,h4f,h4o⟩:=ih (k+1) LM LN dB (.fz (.int (k:Int))) (.fz (.int x)) t6 t7 t8 t9 (NIo.fz _) (NIo.fz _) m6 m7 m8 m9 (by omega) h2 h2f h2o
  refine⟨jO,keys',cF,tl,?_,by rw[show f+k+(cs.length+1)=f+(k+1)+cs.length by omega];exact h4,h4f,h4o⟩
  rw[List.zipIdx_cons,zaz];refine jH (ρ1:=bst f csD (TD ak) (HD keys row) (k:Int) x s6 s7 s8 s9) ?_ h1 h3;show(mgN 4 (.int (k:Int)) _).bind (fun ρ1=>(mgN 5 (.int x) ρ1).bind fun ρ2=>some ρ2)=_
  rw[fm (s:=s4) rfl n4,zai,fm (s:=s5) rfl n5,zai];rfl
theorem Bt.zero(row:Str->aM.Row):Bk 0 [] [] row:=⟨by simp,(λn hn=>by cases hn),by simp,(λn hn=>by cases hn),(λn hn=>by cases hn),(λn hn=>by cases hn),(λn hn=>by cases hn),(λn hn=>by cases hn),λn hn=>by cases hn⟩
theorem yM(h0:ds.length=n)(h1:b (ds.map .fz++List.replicate k .no)=some w):fnD n k b ds=some w:=by unfold fnD;rw[if_pos h0,h1]
theorem fV(h1:a ρ=some (.nx ρ1))(h2:b ρ1=o):kz a b ρ=o:=by unfold kz;rw[h1,zai];exact h2
theorem Bt.Ij(c:Nat)(row:Str->aM.Row):Bk c [] [] row:=⟨by simp,(λn hn=>by cases hn),by simp,(λn hn=>by cases hn),(λn hn=>by cases hn),(λn hn=>by cases hn),(λn hn=>by cases hn),(λn hn=>by cases hn),λn hn=>by cases hn⟩
theorem xn(f:Nat)(cs:List Int)(hl:f+cs.length<=130):∃ak keys row,dq [.list (cs.map .int),.int (f:Int)]=some (TD ak,HD keys row)/\Bk (f+cs.length) ak keys row/\Fm keys row/\Lo f keys:=by
 obtain⟨ak,keys,row,tl,h1,h2,h2f,h2o⟩:=yL (f:=f) (.list (cs.map .int)) cs 0 [] [] (λ_=>⟨0,none,false,[]⟩) .no .no .no .no .no .no NIo.no NIo.no NIo.no NIo.no NIo.no NIo.no (by omega) (Bt.Ij _ _) (Fm.zero _) (λn hn=>by cases hn)
 refine⟨ak,keys,row,?_,h2.more (by omega),h2f,h2o⟩
 refine yM rfl ?_;refine fV (ρ1:=[.fz (.list (cs.map .int)),.fz (.int (f:Int)),.own (TD []),.no,.no,.no,.no,.no,.no,.no]) (fe (gQ (rs:=[]) rfl rfl (by simp)) rfl) ?_
 refine fV (ρ1:=[.fz (.list (cs.map .int)),.fz (.int (f:Int)),.own (TD []),.own (HD [] λ_=>⟨0,none,false,[]⟩),.no,.no,.no,.no,.no,.no]) (fe rfl rfl) ?_
 rw[<-Ex]at h1;exact fV (uv (ds:=pd (cs.map .int)) rfl h1) rfl
def names(c:Nat):List Str:=(List.range c).map aK
theorem gp:n∈names c↔∃i,i<c/\n=aK i:=by
 unfold names;rw[List.mem_map]
 constructor
 ·rintro⟨i,hi,rfl⟩;exact⟨i,List.mem_range.mp hi,rfl⟩
 ·rintro⟨i,hi,rfl⟩;exact⟨i,List.mem_range.mpr hi,rfl⟩
theorem yN(c:Nat):names (c+1)=names c++[aK c]:=by unfold names;rw[List.range_succ,za1];rfl
theorem BI(hc:c<130):aK c∉names c:=λz=>by
 obtain⟨i,hi,e⟩:=gp.mp z;exact lr c (by omega) i hi e
theorem Ey:∀c:Nat,c<=130->(names c).Nodup:=by
 intro c
 induction c with
 |zero=>intro _;exact List.nodup_nil
 |succ c ih=>
  intro hc;rw[yN,List.nodup_append];exact⟨ih (by omega),by simp,λx hx y hy=>by rw[zad hy];exact λe=>BI (c:=c) (by omega) (by rw[<-e];exact hx)⟩
structure Gp(o:Str->Prop)(c:Nat)(row:Str->aM.Row):Prop where
 ab:∀i,i<c->∀a,(row (aK i)).above=some a->(∃j,j<c/\a=aK j)/\(row a).key<(row (aK i)).key
 mkd:∀i,i<c->(row (aK i)).mark=true->(row (aK i)).above≠none
 bl:∀i,i<c->(row (aK i)).below.length<=c/\∀b∈(row (aK i)).below,(∃j,j<c/\b=aK j)/\(row b).above=some (aK i)
 nd:∀i,i<c->(row (aK i)).below.Nodup
 dg:∀i,i<c->∀(p:Nat) (b:Str),(row (aK i)).below[p]?=some b->p<=(row b).below.length+b1 (row b).mark
 dn:∀i,i<c->∀a,(row (aK i)).above=some a->¬o a->aK i∈(row a).below
theorem Gp.new(h:Gp o c row)(hc:c<130)(ha:∀a,above=some a->(∃j,j<c/\a=aK j)/\(row a).key<key)(hm:mark=true->above≠none)(ho:∀a,above=some a->o a):Gp o (c+1) (aV row (aK c) ⟨key,above,mark,[]⟩):=by
 have ne:∀i,i<c->aK i≠aK c:=λi hi e=>lr c (by omega) i hi e.symm
 have cs:∀(P:Nat->Prop),P c->(∀i,i<c->P i)->∀i,i<c+1->P i:=λP h1 h2 i hi=>by
  by_cases z:i=c
  ·subst z;exact h1
  ·exact h2 i (by omega)
 refine⟨cs _ (λa e=>?_) λi hi a e=>?_,cs _ (λe=>?_) λi hi e=>?_,cs _ ?_ λi hi=>?_,cs _ ?_ λi hi=>?_,cs _ (λp b e=>?_) λi hi p b e=>?_,cs _ (λa e n=>?_) λi hi a e n=>?_⟩
 ·rw[aR]at e⊢
  obtain⟨⟨j,hj,rfl⟩,h2⟩:=ha a e;rw[aI _ _ (ne j hj)];exact⟨⟨j,by omega,rfl⟩,h2⟩
 ·rw[aI _ _ (ne i hi)]at e⊢
  obtain⟨⟨j,hj,rfl⟩,h2⟩:=h.ab i hi a e;rw[aI _ _ (ne j hj)];exact⟨⟨j,by omega,rfl⟩,h2⟩
 ·rw[aR]at e⊢;exact hm e
 ·rw[aI _ _ (ne i hi)]at e⊢;exact h.mkd i hi e
 ·rw[aR];exact⟨Nat.zero_le _,λb hb=>by cases hb⟩
 ·rw[aI _ _ (ne i hi)]
  obtain⟨h1,h2⟩:=h.bl i hi;refine⟨by omega,λb hb=>?_⟩
  obtain⟨⟨j,hj,rfl⟩,e⟩:=h2 b hb;rw[aI _ _ (ne j hj)];exact⟨⟨j,by omega,rfl⟩,e⟩
 ·rw[aR];exact List.nodup_nil
 ·rw[aI _ _ (ne i hi)];exact h.nd i hi
 ·rw[aR]at e;simp at e
 ·rw[aI _ _ (ne i hi)]at e
  obtain⟨⟨j,hj,rfl⟩,_⟩:=(h.bl i hi).2 b (zaj e);rw[aI _ _ (ne j hj)];exact h.dg i hi p _ e
 ·rw[aR]at e;exact absurd (ho a e) n
 ·rw[aI _ _ (ne i hi)]at e
  obtain⟨⟨j,hj,rfl⟩,_⟩:=h.ab i hi a e;rw[aI _ _ (ne j hj)];exact h.dn i hi _ e n
theorem Gp.upd(h:Gp (λx=>o x\/x=aK c0) c row)(h0:c0<c)(e0:(row (aK c0)).below=[])(hl:ns.length<=c)(hn:ns.Nodup)(hb:∀b∈ns,(∃j,j<c/\b=aK j)/\(row b).above=some (aK c0))(hg:∀(p:Nat) (b:Str),ns[p]?=some b->p<=(row b).below.length+b1 (row b).mark)(hd:∀i,i<c->(row (aK i)).above=some (aK c0)->aK i∈ns):Gp o c (aV row (aK c0) ⟨(row (aK c0)).key,(row (aK c0)).above,(row (aK c0)).mark,ns⟩):=by
 have ek:∀m,(aV row (aK c0) ⟨(row (aK c0)).key,(row (aK c0)).above,(row (aK c0)).mark,ns⟩ m).key=(row m).key/\(aV row (aK c0) ⟨(row (aK c0)).key,(row (aK c0)).above,(row (aK c0)).mark,ns⟩ m).above=(row m).above/\(aV row (aK c0) ⟨(row (aK c0)).key,(row (aK c0)).above,(row (aK c0)).mark,ns⟩ m).mark=(row m).mark/\(row m).below.length<=(aV row (aK c0) ⟨(row (aK c0)).key,(row (aK c0)).above,(row (aK c0)).mark,ns⟩ m).below.length:=λm=>by
  by_cases z:m=aK c0
  ·subst z;rw[aR,e0];exact⟨rfl,rfl,rfl,Nat.zero_le _⟩
  ·rw[aI _ _ z];exact⟨rfl,rfl,rfl,zap _⟩
 refine⟨λi hi a e=>?_,λi hi e=>?_,λi hi=>?_,λi hi=>?_,λi hi p b e=>?_,λi hi a e n=>?_⟩
 ·rw[(ek _).2.1]at e
  rw[(ek _).1,(ek _).1];exact h.ab i hi a e
 ·rw[(ek _).2.2.1]at e
  rw[(ek _).2.1];exact h.mkd i hi e
 ·by_cases z:aK i=aK c0
  ·rw[z,aR]
   exact⟨hl,λb hbn=>⟨(hb b hbn).1,by rw[(ek b).2.1];exact(hb b hbn).2⟩⟩
  ·rw[aI _ _ z]
   exact⟨(h.bl i hi).1,λb hbn=>⟨((h.bl i hi).2 b hbn).1,by rw[(ek b).2.1];exact((h.bl i hi).2 b hbn).2⟩⟩
 ·by_cases z:aK i=aK c0
  ·rw[z,aR];exact hn
  ·rw[aI _ _ z];exact h.nd i hi
 ·have q:=(ek b).2.2
  rw[q.1]
  by_cases z:aK i=aK c0
  ·rw[z,aR]at e
   have:=hg p b e;omega
  ·rw[aI _ _ z]at e
   have:=h.dg i hi p b e;omega
 ·rw[(ek _).2.1]at e
  by_cases z:a=aK c0
  ·subst z;rw[aR];exact hd i hi e
  ·rw[aI _ _ z]
   exact h.dn i hi a e λw=>w.elim n z
theorem Gp.bt(h:Gp o c row)(hc:c<=130)(h0 : 0<c)(ha:(row (aK 0)).above=none)(no:∀x,¬o x)(ht:∀i,0<i->i<c->(row (aK i)).above≠none):Bk c [aK 0] (names c) row/\Fm (names c) row:=by
 refine⟨⟨Ey c hc,λn hn=>gp.mp hn,by simp,λt ht=>?_,λn hn e=>?_,λn hn e=>?_,λn hn a e=>?_,λn hn=>?_,λn hn a e=>?_⟩,⟨λn hn=>?_,λn hn b hb=>?_,λn hn a e=>?_,λn hn p b e=>?_⟩⟩
 ·rw[zad ht]
  exact⟨gp.mpr ⟨0,h0,rfl⟩,ha⟩
 all_goals obtain⟨i,hi,rfl⟩:=gp.mp hn
 ·by_cases z:i=0
  ·rw[z];simp
  ·exact absurd e (ht i (by omega) hi)
 ·exact h.mkd i hi e
 ·exact gp.mpr (h.ab i hi a e).1
 ·exact⟨(h.bl i hi).1,λb hb=>gp.mpr ((h.bl i hi).2 b hb).1⟩
 ·have hk:=(h.ab i hi a e).2
  unfold aX;rw[if_neg (by omega)]
  exact zaH hk
 ·exact h.nd i hi
 ·exact⟨gp.mpr ((h.bl i hi).2 b hb).1,((h.bl i hi).2 b hb).2⟩
 ·exact h.dn i hi a e (no a)
 ·exact h.dg i hi p b e
inductive Hs:List Str->(Str->aM.Row)->List (Str×Str)->List Str->(Str->aM.Row)->Prop
 |nil {T:List Str} {row:Str->aM.Row}:Hs T row [] T row
 |cons {T T':List Str} {row cF:Str->aM.Row} {x y:Str} {r:List (Str×Str)}:x∈T->y∈T->y≠x->aX (row y).key y (row x).key x=true->(row x).below.length=(row y).below.length->Hs (T.erase x) (bH row x y) r T' cF->Hs T row ((x,y)::r) T' cF
theorem Hs.snoc(h:Hs T row r T' cF)(hx:x∈T')(hy:y∈T')(ne:y≠x)(lt:aX (cF y).key y (cF x).key x=true)(ed:(cF x).below.length=(cF y).below.length):Hs T row (r++[(x,y)]) (T'.erase x) (bH cF x y):=by
 induction h with
 |nil=>exact .cons hx hy ne lt ed .nil
 |cons a b c d e _ ih=>exact .cons a b c d e (ih hx hy lt ed)
theorem Hs.len(h:Hs T row r T' cF):T'.length+r.length=T.length:=by
 induction h with
 |nil=>rfl
 |cons a b c d e _ ih=>
  rw[List.length_erase_of_mem a]at ih;have:=List.length_pos_of_mem a;rw[zaw];omega
theorem Hs.sub(h:Hs T row r T' cF)(nd:T.Nodup):T'.Nodup/\(∀t∈T',t∈T)/\∀m,m∉T->cF m=row m:=by
 induction h with
 |nil=>exact⟨nd,λt ht=>ht,λ_ _=>rfl⟩
 | @cons T T' row cF x y r a b c d e _ ih=>
  obtain⟨h1,h2,h3⟩:=ih (nd.erase _);refine⟨h1,λt ht=>List.mem_of_mem_erase (h2 t ht),λm hm=>?_⟩
  rw[h3 m λz=>hm (List.mem_of_mem_erase z),cG (λz=>hm (by rw[z];exact b)) (λz=>hm (by rw[z];exact a))]
theorem Hs.ak(h:Hs T row r T' cF)(nd:T.Nodup)(ha:∀t∈T,(row t).above=none):T'=T.filter (λt=>(cF t).above.isNone):=by
 induction h with
 |nil=>exact(List.filter_eq_self.mpr λt ht=>by rw[ha t ht];rfl).symm
 | @cons T T' row cF x y r a b c d e hs ih=>
  have nx:x∉T.erase x:=λz=>((za9 nd).mp z).1 rfl
  have hx:(cF x).above=some y:=by rw[(hs.sub (nd.erase _)).2.2 x nx,cK c]
  rw[ih (nd.erase _) λt ht=>?_,List.Nodup.erase_eq_filter nd,List.filter_filter]
  ·refine List.filter_congr λt ht=>?_
   by_cases z:t=x
   ·subst z;rw[hx];rfl
   ·simp[z]
  ·obtain⟨z1,z2⟩:=(za9 nd).mp ht
   by_cases w:t=y
   ·subst w;rw[dh c];exact ha t z2
   ·rw[cG w z1];exact ha t z2
section
variable{c:Nat}{ak keys:List Str}{row:Str->aM.Row}
theorem Bt.LO(h:Bt K d ak keys row)(f:Fm keys row)(nm:∀n∈keys,∃i,i<c/\n=aK i):Bt K c ak keys row:=by
 have kl:keys.length<=c:=by
  have:=aM.lh keys ((List.range c).map aK) h.nd λx hx=>by
   obtain⟨i,hi,rfl⟩:=nm x hx;exact List.mem_map_of_mem (List.mem_range.mpr hi)
  simpa using this
 exact⟨h.nd,nm,h.tn,h.tk,h.ne,h.mkd,h.ab,λn hn=>⟨zaX (aM.lh _ keys (f.nd n hn) (h.bl n hn).2) kl,(h.bl n hn).2⟩,h.ho⟩
theorem Bk.hang(h:Bk c ak keys row)(f:Fm keys row)(hx:x∈ak)(hy:y∈ak)(ne:y≠x)(lt:aX (row y).key y (row x).key x=true)(ed:(row x).below.length=(row y).below.length):Bk c (ak.erase x) keys (bH row x y)/\Fm keys (bH row x y):=by
 have f':=f.hung (h.tk x hx).1 (h.tk y hy).1 ne (h.tk x hx).2 ed;exact⟨((Bt.hung h hx hy ne lt).LO f' h.nm).re λn _=>(lu ne n).symm,f'⟩
theorem Hs.inv(hs:Hs ak row r T' cF):Bk c ak keys row->Fm keys row->Bk c T' keys cF/\Fm keys cF:=by
 induction hs with
 |nil=>exact λh f=>⟨h,f⟩
 |cons a b c' d e _ ih=>exact λh f=>ih (Bk.hang h f a b c' d e).1 (Bk.hang h f a b c' d e).2
end
theorem GP(x y:Str):PyData.eqv (.str x) (.str y)=decide (x=y):=by
 simp only[PyData.eqv]
 by_cases e:x=y
 ·subst e;simp
 ·simp[e]
theorem i8:∀a b:List Str,PyData.eqvAll (a.map .str) (b.map .str)=decide (a=b)
 | [],[]=>by simp[PyData.eqvAll]
 | [],_::_=>by simp[PyData.eqvAll]
 |_::_,[]=>by simp[PyData.eqvAll]
 |x::a,y::b=>by
  simp only[List.map_cons,PyData.eqvAll];rw[GP,i8 a b,Bool.eq_iff_iff];simp
theorem Kq(ha:∀x∈a,PyData.strOk x=true)(hb:∀x∈b,PyData.strOk x=true):gNe (TD a) (TD b)=some (.bool (!decide (a=b)),false):=by
 unfold gNe;rw[if_pos ⟨lV ha,lV hb⟩];show some (PyData.bool (!PyData.eqvAll (a.map .str) (b.map .str)),false)=_;rw[i8]
variable{keys:List Str}{row:Str->aM.Row}{ak:List Str}{c:Nat}
theorem yO(keys:List Str)(row:Str->aM.Row)(n:Str):nG (.str n) (HD keys row)=some (.bool (!decide (n∈keys)),false):=by
 show some (PyData.bool (!(gG (bQ keys row) (.inr n)).isSome),false)=_;rw[iq]
 by_cases h:n∈keys
 ·rw[if_pos h,zaH h];rfl
 ·rw[if_neg h,zaO h];rfl
theorem xo(hn:n∈keys):j3 [HD keys row,.str n]=some (.tuple [.int (row n).key,.str n],false) :=
 d8 (o:=.rt (.tuple [.int (row n).key,.str n],.fz) [.fz (HD keys row),.fz (.str n)]) rfl (dO (fP (rs:=[(.int (row n).key,.fz),(.str n,.fz)]) (l8 (nN (jm (.inl rfl) hn (aB rfl))) (az (au (aB rfl)) aQ)) rfl (by simp))) rfl
theorem Ez{dv:PM}{ρ:Rho}{ys:List D}(h1:dv ρ=some ((HD keys row,.fz),ρ))(hr:iQ ρ=true)(h2:iU cc e (fr.map λp=>cX ρ p.2) (keys.map .str)=some ys)(h3:ys.length<=100000):Bm fr dv cc e ρ=some ((.list ys,.new),ρ):=by
 unfold Bm;rw[h1,zai];dsimp only[o9,Option.bind_some];rw[if_pos hr,jN,h2,zai,bR (wm h3)]
theorem jP(hkl:keys.length<=950):bq [.tuple [TD ak,HD keys row]]=some (.int ((ak.length:Int)+2*((keys.filter λn=>(row n).mark).length:Int)),false):=by
 have fl:(keys.filter λn=>(row n).mark).length<=1000:=zaX (zaY _ _) (by omega)
 have f1:Bm [("pile",0)] (yr (kF 0) 1) kG kH [.fz (.tuple [TD ak,HD keys row]),.no]=some ((TD (keys.filter λn=>(row n).mark),.new),[.fz (.tuple [TD ak,HD keys row]),.no]):=by
  refine Ez rfl rfl ?_ (by rw[zal];omega)
  refine j5 (p:=λn=>(row n).mark) keys (λn hn=>⟨_,test_ev (k:=.fz) (xf (mB hn (au (bP (r:=(.int 1,.fz)) (res:=(HD keys row,false)) (au (aB rfl)) (au rfl) rfl)) (aB rfl)))⟩) λn hn=>⟨_,au (aB rfl)⟩
 have l0:IE (mCB dN (ai (mOp gIx (aj 0) (mC (.int 0))) aG)) [.fz (.tuple [TD ak,HD keys row]),.own (TD (keys.filter λn=>(row n).mark))] (ak.length:Int):=eE (rs:=[(TD ak,.fz)]) (res:=(.int (ak.length:Int),false)) (az (au (bP (r:=(.int 0,.fz)) (res:=(TD ak,false)) (au (aB rfl)) (au rfl) rfl)) aQ) (by show some (PyData.int ((ak.map PyData.str).length:Int),false)=_;rw[zal])
 have l1:IE (mCB dN (ai (aj 1) aG)) [.fz (.tuple [TD ak,HD keys row]),.own (TD (keys.filter λn=>(row n).mark))] ((keys.filter λn=>(row n).mark).length:Int):=nQ (.inr (.inl rfl))
 exact d8 (o:=.rt (.int ((ak.length:Int)+2*((keys.filter λn=>(row n).mark).length:Int)),.fz) [.fz (.tuple [TD ak,HD keys row]),.own (TD (keys.filter λn=>(row n).mark))]) rfl (aW (fe f1 rfl) (dO (kT l0 (Di cB l1 (K7 (.inl ⟨by omega,by omega⟩)))))) rfl
theorem vo(h1:a ρ=some (.ok (.nx ρ1)))(h2:b ρ1=o):nh a b ρ=o:=by unfold nh;rw[h1];exact h2
theorem nR{c:Str}(h1:a ρ=some (.er c ρ1)):nh a b ρ=some (.er c ρ1):=by unfold nh;rw[h1];rfl
theorem nS(h:m ρ=some o):g6 m ρ=some (.ok o):=by unfold g6;rw[h];rfl
theorem q0{c:Rho->Option (Bool×Rho)}(h1:c ρ=some (true,ρ1))(h2:a ρ1=o):eIf c a b ρ=o:=by unfold eIf;rw[h1,zai];dsimp only;rw[if_pos rfl,h2]
theorem xp{c:Rho->Option (Bool×Rho)}(h1:c ρ=some (false,ρ1))(h2:b ρ1=o):eIf c a b ρ=o:=by unfold eIf;rw[h1,zai];dsimp only;rw[if_neg zam,h2]
theorem vp{c:Str}{ρ:Rho}(hl:ds.length=n)(h:b (ds.map .fz++List.replicate k .no)=some (.er c ρ)):fnX n k b ds=some (.inr c):=by
 unfold fnX;rw[if_pos hl,h];rfl
theorem nU{ds:List D}{c:Str}(h1:m ρ=some (rs,ρ1))(h2:gZ rs ρ1=some (ds,ρ2))(h3:f ds=some (.inr c)):ji f m ρ=some (.inr (c,ρ2)):=by
 unfold ji;rw[h1,zai];dsimp only;rw[h2,zai];dsimp only;rw[h3];rfl
theorem Ao{c:Str}(h:m ρ=some (.inr (c,ρ1))):eX k m ρ=some (.er c ρ1):=by
 unfold eX;rw[h,zai]
abbrev PD(ak keys:List Str)(row:Str->aM.Row):D:=.tuple [TD ak,HD keys row]
theorem eS(h : ρ[i]?=some (.fz (PD ak keys row))):mOp gIx (aj i) (mC (.int 1)) ρ=some ((HD keys row,.fz),ρ):=bP (r:=(.int 1,.fz)) (res:=(HD keys row,false)) (au (aB h)) (au rfl) rfl
theorem i9(h : ρ[i]?=some (.fz (PD ak keys row))):mOp gIx (aj i) (mC (.int 0)) ρ=some ((TD ak,.fz),ρ):=bP (r:=(.int 0,.fz)) (res:=(TD ak,false)) (au (aB h)) (au rfl) rfl
theorem xq(h : ρ[i]?=some (.fz (PD ak keys row)))(hj : ρ[j]?=some (.fz (.str n))):BE (mOp nG (aj j) (mOp gIx (aj i) (mC (.int 1)))) ρ (!decide (n∈keys)):=bP (r:=(HD keys row,.fz)) (res:=(.bool (!decide (n∈keys)),false)) (au (aB hj)) (au (eS h)) (yO keys row n)
def rOk(r:aM.Row):Prop:=(∀a,r.above=some a->PyData.strOk a=true)/\∀b∈r.below,PyData.strOk b=true
theorem q9(h:rOk r):SeqAt.shaped (bX r)=true:=by
 obtain⟨h1,h2⟩:=pj h.2;have ha:PyData.canLay0 (cm r.above)=true/\PyData.depth (cm r.above)=0:=by
  cases e:r.above with
  |none=>exact⟨rfl,by simp[cm,PyData.depth]⟩
  |some a=>exact⟨by simp only[cm,PyData.canLay0,h.1 a e],by simp[cm,PyData.depth]⟩
 unfold SeqAt.shaped bX;rw[zaH (by simp only[PyData.depth,PyData.depthAll,ha.2];omega),Bool.and_true]
 simp only[PyData.canLay0,PyData.canLayAll0,ha.1,h1,Bool.and_true,Bool.true_and]
theorem GQ(r:aM.Row):PyData.eqv (bX r) (bX r)=true:=by
 unfold bX;cases r.above with
 |none=>simp[cm,PyData.eqv,PyData.eqvAll,i8]
 |some a=>simp[cm,PyData.eqv,PyData.eqvAll,i8]
theorem entry_is(h:rOk r):fR [bX r,bX r]=some (.bool true,false):=by
 have t1:mOr (fJ (aL (oD "tuple" (aj 0)))) (mOr (aL (mOp gNe (mCB dN (ai (aj 0) aG)) (mC (.int 4)))) (fJ (aL (oD "tuple" (mOp gIx (aj 0) (mC (.int 3))))))) [.fz (bX r),.fz (bX r)]=some (false,[.fz (bX r),.fz (bX r)]) :=
  kS (d6 (test_ev (k:=.fz) (v:=true) (qA (au (aB rfl)) (gP _)))) (kS (gD (wo (eE (rs:=[(bX r,.fz)]) (res:=(.int 4,false)) (az (au (aB rfl)) aQ) rfl) cB) rfl) (d6 (test_ev (k:=.fz) (v:=true) (qA (au (tI (aB rfl))) (gP _)))))
 have t2:mOr (aL (oD "bool" (mOp gIx (aj 0) (mC (.int 0))))) (fJ (aL (oD "bool" (mOp gIx (aj 0) (mC (.int 2)))))) [.fz (bX r),.fz (bX r)]=some (false,[.fz (bX r),.fz (bX r)]) :=
  kS (test_ev (k:=.fz) (v:=false) (qA (au (nN (aB rfl))) (m5 _))) (d6 (test_ev (k:=.fz) (v:=true) (qA (au (xf (aB rfl))) (by simp[gC,tyD,cy,iO]))))
 refine d8 (o:=.rt (.bool true,.fz) [.fz (bX r),.fz (bX r)]) rfl (aW (iP t1 rfl) (aW (iP t2 rfl) (dO (bP (r:=(bX r,.fz)) (res:=(.bool true,false)) (au (aB rfl)) (au (aB rfl)) ?_)))) rfl;show gEq (bX r) (bX r)=_;unfold gEq;rw[if_pos ⟨q9 h,q9 h⟩,GQ]
theorem nV(h1:sv a ρ=some ((d,k),ρ1))(h2:jL n d=some (.bool v,false)):lg n a ρ=some ((.bool v,.fz),ρ1):=by
 unfold lg mUn;rw[h1,zai];dsimp only;rw[h2];rfl
theorem GR{dv:PM}{o:Out}(h1:dv ρ=some ((HD keys row,.fz),ρ1))(hr:iQ ρ=true)(h2:forL g b (keys.map λn=>PyData.tuple [.str n,bX (row n)]) ρ1=some o)(h3:iQ (Bl o)=true):z6 dv g b ρ=some o:=by
 unfold z6;rw[h1,zai];dsimp only[o9,Option.bind_some];rw[if_pos hr,show k8 (bQ keys row)=keys.map λn=>PyData.tuple [.str n,bX (row n)]from by unfold k8 bQ;rw[List.map_map];rfl,h2,zai,if_pos h3]
theorem BJ(T:D):∀(l:List Str) (x y:D),(∀n∈l,n∈keys)->(∀n∈keys,rOk (row n))->∃x' y',forL (mgU 2 (bE (mgN 3) (bE (mgN 4) gM))) fj (l.map λn=>PyData.tuple [.str n,bX (row n)]) [.fz (PD ak keys row),.fz T,.fz (HD keys row),.fz x,.fz y]=some (.nx [.fz (PD ak keys row),.fz T,.fz (HD keys row),.fz x',.fz y']):=by
 intro l
 induction l with
 |nil=>intro x y _ _;exact⟨x,y,rfl⟩
 |cons n l ih=>
  intro x y hl hk;obtain⟨x',y',h1⟩:=ih (.str n) (bX (row n)) (λm hm=>hl m (zak _ hm)) hk
  have hn:=hl n zas;refine⟨x',y',?_⟩;rw[zaz];refine jH (ρ1:=[.fz (PD ak keys row),.fz T,.fz (HD keys row),.fz (.str n),.fz (bX (row n))]) rfl ?_ h1;refine iP (kS (gD (xq (i:=0) (j:=3) rfl rfl) (by rw[zaH hn];rfl)) (d6 (v:=true) ?_)) rfl
  exact(ef (rs:=[(bX (row n),.fz),(bX (row n),.fz)]) (az (au (mB hn (au (eS rfl)) (aB rfl))) (az (au (aB rfl)) aQ)) (entry_is (hk n hn))).t
theorem nW(hk:∀n∈keys,rOk (row n))(ht:∀t∈ak,PyData.strOk t=true):cj [PD ak keys row,TD ak,HD keys row]=some (.bool true,false):=by
 have t1:mOr (fJ (aL (lg "tuple" (aj 0)))) (mOr (aL (mOp gNe (mCB dN (ai (aj 0) aG)) (mC (.int 2)))) (mOr (fJ (aL (lg "list" (mOp gIx (aj 0) (mC (.int 0)))))) (aL (mOp gNe (mOp gIx (aj 0) (mC (.int 0))) (aj 1))))) [.fz (PD ak keys row),.fz (TD ak),.fz (HD keys row),.no,.no]=some (false,[.fz (PD ak keys row),.fz (TD ak),.fz (HD keys row),.no,.no]) :=
  kS (d6 (test_ev (k:=.fz) (v:=true) (nV (au (aB rfl)) (by simp[jL,gC,tyD,cy,iO])))) (kS (gD (wo (eE (rs:=[(PD ak keys row,.fz)]) (res:=(.int 2,false)) (az (au (aB rfl)) aQ) rfl) cB) rfl) (kS (d6 (test_ev (k:=.fz) (v:=true) (nV (au (i9 rfl)) (by simp[jL,gC,tyD,cy,iO])))) (test_ev (k:=.fz) (v:=false) (bP (r:=(TD ak,.fz)) (res:=(.bool false,false)) (au (i9 rfl)) (au (aB rfl)) (by rw[Kq ht ht,zaH rfl];rfl)))))
 have l0:IE (mCB k6 (ai (mOp gIx (aj 0) (mC (.int 1))) aG)) [.fz (PD ak keys row),.fz (TD ak),.fz (HD keys row),.no,.no] (keys.length:Int):=eE (rs:=[(HD keys row,.fz)]) (res:=(.int (keys.length:Int),false)) (az (au (eS rfl)) aQ) (by show some (PyData.int ((bQ keys row).length:Int),false)=_;rw[jM])
 have t2:mOr (fJ (aL (lg "dict" (mOp gIx (aj 0) (mC (.int 1)))))) (aL (mOp gNe (mCB k6 (ai (mOp gIx (aj 0) (mC (.int 1))) aG)) (mCB k6 (ai (aj 2) aG)))) [.fz (PD ak keys row),.fz (TD ak),.fz (HD keys row),.no,.no]=some (false,[.fz (PD ak keys row),.fz (TD ak),.fz (HD keys row),.no,.no]) :=
  kS (d6 (test_ev (k:=.fz) (v:=true) (nV (au (eS rfl)) (by simp[jL,cy,iO])))) (gD (wo l0 (GH (.inl rfl))) (by simp))
 have lp:∃s t,forL (mgU 2 (bE (mgN 3) (bE (mgN 4) gM))) fj (keys.map λn=>PyData.tuple [.str n,bX (row n)]) [.fz (PD ak keys row),.fz (TD ak),.fz (HD keys row),.no,.no]=some (.nx [.fz (PD ak keys row),.fz (TD ak),.fz (HD keys row),s,t])/\iQ [.fz (PD ak keys row),.fz (TD ak),.fz (HD keys row),s,t]=true:=by
  have gen:∀l:List Str,(∀n∈l,n∈keys)->∃s t,forL (mgU 2 (bE (mgN 3) (bE (mgN 4) gM))) fj (l.map λn=>PyData.tuple [.str n,bX (row n)]) [.fz (PD ak keys row),.fz (TD ak),.fz (HD keys row),.no,.no]=some (.nx [.fz (PD ak keys row),.fz (TD ak),.fz (HD keys row),s,t])/\iQ [.fz (PD ak keys row),.fz (TD ak),.fz (HD keys row),s,t]=true:=λl hl=>by
   cases l with
   |nil=>exact⟨.no,.no,rfl,rfl⟩
   |cons n l=>
    have hn:=hl n zas;obtain⟨x',y',h1⟩:=BJ (ak:=ak) (TD ak) l (.str n) (bX (row n)) (λm hm=>hl m (zak _ hm)) hk
    refine⟨.fz x',.fz y',?_,rfl⟩;rw[zaz];refine jH (ρ1:=[.fz (PD ak keys row),.fz (TD ak),.fz (HD keys row),.fz (.str n),.fz (bX (row n))]) rfl ?_ h1;refine iP (kS (gD (xq (i:=0) (j:=3) rfl rfl) (by rw[zaH hn];rfl)) (d6 (v:=true) ?_)) rfl
    exact(ef (rs:=[(bX (row n),.fz),(bX (row n),.fz)]) (az (au (mB hn (au (eS rfl)) (aB rfl))) (az (au (aB rfl)) aQ)) (entry_is (hk n hn))).t
  exact gen keys λn hn=>hn
 obtain⟨s,t,h1,h2⟩:=lp;exact d8 (o:=.rt (.bool true,.fz) [.fz (PD ak keys row),.fz (TD ak),.fz (HD keys row),s,t]) rfl (aW (iP t1 rfl) (aW (iP t2 rfl) (aW (GR (ρ1:=[.fz (PD ak keys row),.fz (TD ak),.fz (HD keys row),.no,.no]) rfl rfl h1 h2) (dO rfl)))) rfl
section
variable{α β:Type}
theorem fE(h:m s=some (.ok v s')):bN m k s=k v s':=by unfold bN;rw[h]
theorem nX(h:m s=some (.ok v s')):bS m k s=k v s':=by unfold bS;rw[h]
theorem cQ(h:a s=some (.nx s'))(h2:b s'=o):dk a b s=o:=by unfold dk;rw[h];exact h2
theorem GS(h:a s=some (.rt r s')):dk a b s=some (.rt r s'):=by unfold dk;rw[h]
theorem LP{c:MN Bool}(h:c s=some (.ok true s'))(h2:a s'=o):l4 c a b s=o:=by unfold l4;rw[nX h,if_pos rfl];exact h2
theorem ja{c:MN Bool}(h:c s=some (.ok false s'))(h2:b s'=o):l4 c a b s=o:=by unfold l4;rw[nX h,if_neg zam];exact h2
theorem gq(h:a s=some (.ok x s'))(hi:i<s'.t.length):jJ a (ngN i) s=some (.nx ⟨s'.S,s'.t.set i (some x)⟩):=by unfold jJ;rw[nX h];unfold ngN;rw[if_pos hi]
theorem nY(h:a s=some (.ok x s')):kK a s=some (.rt x s'):=by unfold kK;rw[nX h]
theorem jQ(h:a s=some (.ok x s')):nD a s=some (.nx s'):=by unfold nD;rw[nX h]
theorem aO(h:s.t[i]?=some (some x)):dA i s=some (.ok x s):=by unfold dA;rw[h]
theorem aJ(h:a s=some (.ok x s1))(h2:m s1=some (.ok xs s2)):aC a m s=some (.ok (x::xs) s2):=by unfold aC;rw[fE h,fE h2]
theorem jR(h:a s=some (.ok (.pl (.bool b)) s')):qE a s=some (.ok b s'):=by unfold qE;rw[fE h]
theorem nZ(h:a s=some (.ok b s')):DC a s=some (.ok (!b) s'):=by unfold DC;rw[fE h];rfl
theorem jS(h:m s=some (.ok xs s1))(h2:f s1.S xs=some (.ok r S')):kC f m s=some (.ok r ⟨S',s1.t⟩):=by unfold kC;rw[fE h,h2];rfl
theorem f6:nLit d s=some (.ok (.pl d) s):=rfl
theorem dD:bu s=some (.ok [] s):=rfl
theorem yP(h0:xs.length=n)(h1:b ⟨S,xs.map some++List.replicate k none⟩=some o)(h2:retS S.length o=some w):fnS n k b S xs=some w:=by
 unfold fnS;rw[if_pos h0,h1];exact h2
end
theorem tO(h:kU n S=true){c:Cl}(hc:some c∈S.take n):blC n c=true:=by
 unfold kU at h;exact(List.all_eq_true.mp h) _ hc
theorem Ap{c:Option Cl}(h:∀d,c=some d->blC n d=true):gcC n c=c:=by
 cases c with
 |none=>rfl
 |some d=>simp only[gcC,h d rfl,if_true]
theorem GU(h:kU S.length S=true):gcS S.length (S++X)=S:=by
 unfold gcS;rw[List.take_left];refine(List.map_congr_left λc hc=>Ap λd e=>?_).trans (List.map_id _)
 subst e;exact tO h (by rw[List.take_length];exact hc)
theorem BK(h:kU S.length S=true):kU S.length (S++X)=true:=by
 unfold kU at h⊢;rw[List.take_left];rw[List.take_length]at h;exact h
theorem EA(h:kU S.length S=true):fS S.length (S++X)=S:=by
 unfold fS;rw[if_pos (BK h),GU h]
theorem Aq{α:Type}{S X:List α}{j:Nat}{c : α}(h:S[j]?=some c):(S++X)[j]?=some c:=by
 rw[zax (zac h).1];exact h
theorem GV(h:∀y,x=some y->blV n y=true):gcV n x=x:=by
 cases x with
 |none=>rfl
 |some y=>simp only[gcV,h y rfl,if_true]
def GW(n:Nat)(t:List (Option SV)):Bool:=t.all λx=>match x with
 |some x=>blV n x
 |none=>true
theorem GX(h:GW n t=true)(hx:some x∈t):blV n x=true:=(List.all_eq_true.mp h) _ hx
theorem GY(h:GW n t=true):gcT n t=t:=by
 unfold gcT;refine(List.map_congr_left λc hc=>GV λd e=>?_).trans (List.map_id _)
 subst e;exact GX h hc
theorem tP(h:S[j]?=some (some (.dat d))):rdV S (.lc j)=some d:=by simp only[rdV,h]
theorem ly:rdV S (.pl d)=some d:=by simp only[rdV]
theorem dG{k:Nat}(h:s.t[k]?=some (some x))(e:rdV s.S x=some d):(vw s)[k]?=some (.fz d):=by
 unfold vw;rw[zao,h];simp only[Option.map_some,Bc,e]
theorem tQ{k:Nat}(h:s.t[k]?=some (some (.pl d))):(vw s)[k]?=some (.fz d):=dG h ly
theorem xr{m:PM}(h:m (vw s)=some ((d,.fz),ρ))(hp:fb d=true):nO m s=some (.ok (.pl d) s):=by
 unfold nO;rw[h,zai];dsimp only;rw[if_pos hp]
theorem LQ(h:IE m (vw s) i):nO m s=some (.ok (.pl (.int i)) s):=xr h rfl
theorem Ik(h:BE m (vw s) b):nO m s=some (.ok (.pl (.bool b)) s):=xr h rfl
theorem mD{m:PM}(h:m (vw s)=some ((d,.new),ρ))(hp:dW d true=true):nO m s=some (.ok (.lc s.S.length) ⟨s.S++[some (.dat d)],s.t⟩):=by
 unfold nO;rw[h,zai];dsimp only;rw[if_pos hp];rfl
theorem j8(h:m (vw s)=some (b,ρ)):nTo m s=some (.ok b s):=by unfold nTo;rw[h];rfl
theorem lA(h1:a s=some (.ok x s1))(h2:b s1=some (.ok (.pl (.int i)) s2))(h3:ixV s2.S x i=some y):nIx a b s=some (.ok y s2):=by
 unfold nIx;rw[fE h1,fE h2];simp only[h3,Option.map_some]
theorem Il:lZ bu s=some (.ok (.lc s.S.length) ⟨s.S++[some (.dat (.list []))],s.t⟩):=by
 unfold lZ;rw[fE (show bu s=some (.ok [] s)from rfl),bR (show([]:List SV).length<=sizeLine from Nat.zero_le _)];rfl
theorem n0(h:m s=some (.ok xs s1))(h1:kB xs=some ds)(h2:xs.length<=100):gR m s=some (.ok (.pl (.tuple ds)) s1):=by
 unfold gR;rw[fE h,bR (sT (by omega))]
 simp only[mkT,h1]
theorem Ar{ds:List D}{d:D}{ds0:List D}(h:a s=some (.ok (.lc k) s1))(h0:s1.S[k]?=some (some (.dat (.list ds0))))(h1:m s1=some (.ok [.pl d] s2))(h2:s2.S[k]?=some (some (.dat (.list ds))))(h3:ds.length<=100000):uH a m s=some (.ok (.pl .none) ⟨s2.S.set k (some (.dat (.list (ds++[d])))),s2.t⟩):=by
 unfold uH zR;rw[fE h];simp only[qH,h0,if_true];rw[fE h1];simp only[DI,h2,bR (wm h3)]
theorem Kr(h:i<s.t.length):ngN i x s=some (.nx ⟨s.S,s.t.set i (some x)⟩):=by unfold ngN;rw[if_pos h]
abbrev dt(d:D):Option Cl:=some (.dat d)
section
variable{α:Type}
theorem apk{S X:List α}(h:X[k]?=some a):(S++X)[S.length+k]?=some a:=by rw[zaN (Nat.le_add_right _ _),Nat.add_sub_cancel_left];exact h
theorem lB{S:List α}(h:S[i]?=some a):i<S.length:=(zac h).1
end
theorem EB(r:aM.Row):fb (bX r)=true:=by
 unfold bX;have:fb (cm r.above)=true:=by cases r.above<;>rfl
 simp only[fb,bV,this,lW,Bool.and_true]
theorem ia(keys:List Str)(row:Str->aM.Row):dW (HD keys row) true=true:=by
 show bV ((bQ keys row).map (·.2))=true
 unfold bQ;rw[List.map_map]
 induction keys with
 |nil=>rfl
 |cons n l ih=>simp only[List.map_cons,bV,Function.comp,EB,Bool.true_and];exact ih
theorem j9(l:List Str):dW (TD l) true=true:=lW l
theorem lC(hn:S.length<=n)(ht:GW n t=true):gcE n kp ⟨S,t⟩=⟨S,t⟩:=by
 unfold gcE;split
 ·rename_i h
  rw[Bool.and_eq_true]at h;unfold gc;dsimp only;rw[GY ht]
  congr 1
  unfold gcS;rw[List.take_of_length_le hn];refine(List.map_congr_left λc hc=>Ap λd e=>?_).trans (List.map_id _)
  subst e;exact tO h.1 (by rw[List.take_of_length_le hn];exact hc)
 ·rfl
theorem tR(h0:ok s):l5 n kp ok g b [] s=some (.nx s):=by unfold l5;rw[bR h0]
theorem iD(h0:ok s)(h1:g d s=some (.nx s1))(h2:b s1=some (.nx s2))(h3:gcE n kp s2=s3)(h4:l5 n kp ok g b ds s3=o):l5 n kp ok g b (d::ds) s=o:=by
 unfold l5;rw[bR h0,h1];dsimp only;rw[h2];dsimp only;rw[h3];exact h4
theorem As(hv:v s=some (.ok (.pl (bX r)) s1))(hd:d s1=some (.ok (.lc j) s2))(hk:k s2=some (.ok (.pl (.str n)) s3))(hj:s3.S[j]?=some (dt (HD keys row)))(hl:keys.length<=1000):tj d k v s=some (.nx ⟨s3.S.set j (dt (HD (BD keys n) (aV row n r))),s3.t⟩):=by
 unfold tj;rw[nX hv,nX hd,nX hk];unfold JU;dsimp only[keyOf,Option.bind_some];rw[hj];dsimp only;rw[bR (by rw[jM];omega),qW]
theorem cA(hp:S[p]?=some (dt (TD ak)))(hq:S[q]?=some (dt (HD keys row))):rdV S (.tp [.lc p,.lc q])=some (PD ak keys row):=by
 simp only[rdV,rP,hp,hq,Option.bind_some,Option.map_some]
theorem jb(h:m s=some (.ok xs s1))(h1:kB xs=none)(h2:xs.length<=100):gR m s=some (.ok (.tp xs) s1):=by
 unfold gR;rw[fE h,bR (sT (by omega))]
 simp only[mkT,h1]
theorem Ch.above(h:Ch row n C L):∃a,(row n).above=some a:=by cases h with|one e _=>exact⟨_,e⟩|more e _ _=>exact⟨_,e⟩
theorem LR{α:Type}{S:List α}{a : α}:(S++[a]).length=S.length+1:=by simp
theorem Ks(h0:xs.length=n)(h1:b ⟨S,xs.map some++List.replicate k none⟩=some (.rt r ⟨S',t'⟩))(h2:blV S.length r=false):fnS n k b S xs=some (.ok r S') :=
 yP h0 h1 (show(if blV S.length r=true then _ else _)=_ from if_neg (by rw[h2];simp))
structure Al(T0:List Str)(BL:Str->aM.Row)(sts:List (Str×Str))(T:List Str)(row:Str->aM.Row)(al:List (Nat×Str))(on:Str)(rest:List Str):Prop where
 hs:Hs T0 BL sts T row
 nk:(al.map Prod.fst).Nodup
 ae:∀p∈al,p.2∈T/\(row p.2).below.length=p.1/\p.2≠on/\p.2∉rest
 oo:on∈T/\on∉rest
 rs:∀t∈rest,t∈T
 cov:∀t∈T,t=on\/(∃p∈al,p.2=t)\/t∈rest
theorem Au:∀{al:List (Nat×Str)},al.lookup d=some t->(d,t)∈al
 |(e,u)::al,h=>by
  by_cases z:d=e
  ·subst z;rw[za8,beq_self_eq_true]at h;cases h;exact zas
  ·rw[za8,beq_eq_false_iff_ne.mpr z]at h;exact zak _ (Au h)
theorem Av:∀{al:List (Nat×Str)},(al.map Prod.fst).Nodup->∀{p q:Nat×Str},p∈al->q∈al->p.1=q.1->p=q
 |x::al,nd,p,q,hp,hq,e=>by
  rw[zaz,List.nodup_cons]at nd;rcases zaf hp with rfl|hp'<;>rcases zaf hq with rfl|hq'
  ·rfl
  ·exact absurd (e▸List.mem_map_of_mem hq') nd.1
  ·exact absurd (e▸List.mem_map_of_mem hp') nd.1
  ·exact Av nd.2 hp' hq' e
theorem Al.turn{al:List (Nat×Str)}{on:Str}{rest:List Str}(A:Al T0 BL sts T row al on rest)(ndT:T.Nodup){t x y:Str}(hl:al.lookup (row on).below.length=some t)(xy:(x=on/\y=t)\/(x=t/\y=on))(lt:aX (row y).key y (row x).key x=true) :
  y≠x/\x∈T/\y∈T/\Al T0 BL (sts++[(x,y)]) (T.erase x) (bH row x y) (al.filter λp=>decide (p.1≠(row on).below.length)) y rest:=by
 have mt:=Au hl;obtain⟨t1,t2,t3,t4⟩:=A.ae _ mt;dsimp only at t1 t2 t3 t4;have ne:y≠x:=by rcases xy with⟨rfl,rfl⟩|⟨rfl,rfl⟩<;>first|exact t3|exact λe=>t3 e.symm
 have hx:x∈T/\x∉rest:=by rcases xy with⟨rfl,rfl⟩|⟨rfl,rfl⟩<;>first|exact A.oo|exact⟨t1,t4⟩
 have hy:y∈T/\y∉rest:=by rcases xy with⟨rfl,rfl⟩|⟨rfl,rfl⟩<;>first|exact A.oo|exact⟨t1,t4⟩
 have ed:(row x).below.length=(row y).below.length:=by rcases xy with⟨rfl,rfl⟩|⟨rfl,rfl⟩<;>omega
 have er:∀{u:Str},u∈T->u≠x->u∈T.erase x:=fun{u} h1 h2=>(za9 ndT).mpr ⟨h2,h1⟩
 have oth:∀p∈al,p.1≠(row on).below.length->p.2≠x/\p.2≠y:=λp hp hd=>by
  obtain⟨p1,p2,p3,p4⟩:=A.ae p hp;have pt:p.2≠t:=λe=>hd (by rw[<-p2,e];exact t2)
  rcases xy with⟨rfl,rfl⟩|⟨rfl,rfl⟩
  ·exact⟨p3,pt⟩
  ·exact⟨pt,p3⟩
 refine⟨ne,hx.1,hy.1,A.hs.snoc hx.1 hy.1 ne lt ed,A.nk.sublist (List.filter_sublist.map _),λp hp=>?_,⟨er hy.1 ne,hy.2⟩,λu hu=>er (A.rs u hu) λe=>hx.2 (e▸hu),λu hu=>?_⟩
 ·obtain⟨h1,h2⟩:=List.mem_filter.mp hp
  have hd:p.1≠(row on).below.length:=of_decide_eq_true h2;obtain⟨p1,p2,p3,p4⟩:=A.ae p h1;obtain⟨q1,q2⟩:=oth p h1 hd;exact⟨er p1 q1,by rw[cG q2 q1];exact p2,q2,p4⟩
 ·obtain⟨u1,u2⟩:=(za9 ndT).mp hu
  rcases A.cov u u2 with rfl|⟨p,hp,rfl⟩|h
  ·rcases xy with⟨rfl,rfl⟩|⟨rfl,rfl⟩
   ·exact absurd rfl u1
   ·exact .inl rfl
  ·by_cases hd:p.1=(row on).below.length
   ·have:=Av A.nk hp mt hd
    subst this;rcases xy with⟨rfl,rfl⟩|⟨rfl,rfl⟩
    ·exact .inl rfl
    ·exact absurd rfl u1
   ·exact .inr (.inl ⟨p,List.mem_filter.mpr ⟨hp,zaH hd⟩,rfl⟩)
  ·exact .inr (.inr h)
structure Am(T0:List Str)(BL:Str->aM.Row)(sts:List (Str×Str))(T:List Str)(row:Str->aM.Row)(al:List (Nat×Str))(rest:List Str):Prop where
 hs:Hs T0 BL sts T row
 nk:(al.map Prod.fst).Nodup
 ae:∀p∈al,p.2∈T/\(row p.2).below.length=p.1/\p.2∉rest
 rs:∀t∈rest,t∈T
 cov:∀t∈T,(∃p∈al,p.2=t)\/t∈rest
 nd:rest.Nodup
def free(row:Str->aM.Row)(l:List Str):Str->aM.Row:=λm=>if m∈l then⟨(row m).key,none,false,(row m).below⟩else row m
def stF(b:Str):D:=.tuple [.str "free",.str b]
abbrev St(B:List (Option Cl))(keys:List Str)(row:Str->aM.Row)(ts:List Str)(sts:List Str):List (Option Cl):=B++[dt (HD keys row),dt (TD ts),dt (.list (sts.map stF))]
theorem EC(x y:Str)(hx:PyData.strOk x=true)(hy:PyData.strOk y=true):gEq (.str x) (.str y)=some (.bool (x==y),false):=by
 unfold gEq;rw[if_pos ⟨h9 hx,h9 hy⟩];simp only[PyData.eqv]
theorem vq{α:Type}{S:List α}{u : α}(h:x≠i):(S.set i u)[x]?=S[x]?:=zaA λe=>h e.symm
def Wk(W:List (Option Cl))(i j:Nat)(T keys:List Str)(row:Str->aM.Row):List (Option Cl):=(W.set i (dt (TD T))).set j (dt (HD keys row))
structure Wx(W:List (Option Cl))(i j:Nat):Prop where
 li:i<W.length
 lj:j<W.length
 ij:i≠j
section
variable{W:List (Option Cl)}{i j:Nat}{T T' keys':List Str}{cF:Str->aM.Row}
theorem Wx.si(h:Wx W i j):(Wk W i j T keys row).set i (dt (TD T'))=Wk W i j T' keys row:=by
 unfold Wk;rw[List.set_comm _ _ (λe=>h.ij e.symm),List.set_set]
theorem Wx.go(e1:x≠i)(e2:x≠j):(Wk W i j T keys row)[x]?=W[x]?:=by
 unfold Wk;rw[vq e2,vq e1]
theorem Wx.len:(Wk W i j T keys row).length=W.length:=by unfold Wk;simp
theorem Wx.app(h:Wx W i j)(c:Option Cl):Wk W i j T keys row++[c]=Wk (W++[c]) i j T keys row:=by
 unfold Wk;rw[List.set_append_left _ _ h.li,List.set_append_left _ _ (by rw[zaM];exact h.lj)]
theorem Wx.more(h:Wx W i j)(c:Option Cl):Wx (W++[c]) i j:=⟨by rw[LR];exact Nat.lt_succ_of_lt h.li,by rw[LR];exact Nat.lt_succ_of_lt h.lj,h.ij⟩
theorem Wk.self(hi:W[i]?=some (dt (TD T)))(hj:W[j]?=some (dt (HD keys row))):Wk W i j T keys row=W:=by
 unfold Wk;apply List.ext_getElem?;intro x
 by_cases e:x=j
 ·rw[e,hj];exact zav (by rw[zaM];exact lB hj)
 ·rw[vq e]
  by_cases e2:x=i
  ·rw[e2,hi];exact zav (lB hi)
  ·rw[vq e2]
end
abbrev tp(l:List Str):D:=.tuple (l.map .str)
theorem jG{ρn:Rho}:∀l:List Str,(∀x∈l,∃ρ,sv e (.fz (.str x)::ρn)=some ((.int (g x),.fz),ρ))->iU xV e ρn (l.map .str)=some ((l.map g).map .int)
 | [],_=>rfl
 |x::l,h=>by
  have ih:=jG l λy hy=>h y (zak _ hy)
  obtain⟨ρ,e1⟩:=h x zas;show(sv e (.fz (.str x)::ρn)).bind _=_;rw[e1,zai];dsimp only[asF,Option.bind_some];rw[ih];rfl
section
variable{ρ:Rho}{A B:List D}(h3 : ρ[3]?=some (.fz (.list (A++B))))(h4 : ρ[4]?=some (.fz (.list A)))
include h4
include h3
end
theorem Bt.rok(h:Bt K c ak keys row):∀n∈keys,rOk (row n):=λn hn=>⟨λa ha=>h.ok (h.ab n hn a ha),λb hb=>h.ok ((h.bl n hn).2 b hb)⟩
theorem Bt.tok(h:Bt K c ak keys row):∀t∈ak,PyData.strOk t=true:=λt ht=>h.ok (h.tk t ht).1
theorem GZ{ds:List D}(h:a s=some (.ok (.lc k) s1))(hk:s1.S[k]?=some (dt (.list ds))):D3 mm a s=some (.ok (.pl .none) ⟨s1.S.set k (dt (.list [])),s1.t⟩):=by
 unfold D3;rw[fE h];simp only[qH,hk,if_true,JM,kB,Option.bind_some,mm,Option.map_some]
theorem ED{es:List (D×D)}(h:a s=some (.ok (.lc k) s1))(hk:s1.S[k]?=some (dt (.dict es))):tf a s=some (.ok (.pl .none) ⟨s1.S.set k (dt (.dict [])),s1.t⟩):=by
 unfold tf;rw[fE h];simp only[hk]
abbrev fr(a b i j:Nat)(n:Str)(s4 s5 s6:Option SV):List (Option SV):=[some (.tp [.lc a,.lc b]),some (.lc i),some (.lc j),some (.pl (.str n)),s4,s5,s6]
def Lst(row:Str->aM.Row)(l:List Str)(n:Str):Prop:=n∈l/\∀m∈l,m=n\/aX (row n).key n (row m).key m=true
theorem Im{a c:Int}(h1:aX a x c y=true)(h2:aX c y a x=true):False:=by
 have:=iC h1 h2;rw[oQ]at this;cases this
theorem Lst.one(h1:Lst row l n)(h2:Lst row l' m)(a:n∈l')(b:m∈l):n=m:=by
 rcases h1.2 m b with e|e
 ·exact e.symm
 ·rcases h2.2 n a with e2|e2
  ·exact e2
  ·exact(Im e e2).elim
theorem vt:∀(l:List Str) (b:Str),∃n,l9 (.str b,(row b).key,b) (l.map λt=>(PyData.str t,(row t).key,t))=(.str n,(row n).key,n)/\Lst row (b::l) n
 | [],b=>⟨b,rfl,zas,λm hm=>.inl (zad hm)⟩
 |t::l,b=>by
  by_cases hp:aX (row t).key t (row b).key b=true
  ·obtain⟨n,e,h1,h2⟩:=vt l t
   refine⟨n,?_,zak _ h1,λm hm=>?_⟩
   ·simp only[List.map_cons,l9,hp,if_true];exact e
   ·rcases zaf hm with rfl|hm
    ·rcases h2 t zas with z|z
     ·exact .inr (by rw[<-z];exact hp)
     ·exact .inr (iC z hp)
    ·exact h2 m hm
  ·obtain⟨n,e,h1,h2⟩:=vt l b
   have hp':aX (row t).key t (row b).key b=false:=by simpa using hp
   refine⟨n,?_,?_,λm hm=>?_⟩
   ·simp only[List.map_cons,l9,hp',Bool.false_eq_true,if_false];exact e
   ·rcases zaf h1 with z|z
    ·rw[z];exact zas
    ·exact zak _ (zak _ z)
   ·rcases zaf hm with rfl|hm
    ·exact h2 _ zas
    ·rcases zaf hm with rfl|hm
     ·by_cases eb:m=b
      ·rw[eb];exact h2 b zas
      ·have lt:=qX eb hp'
       rcases h2 b zas with z|z
       ·exact .inr (by rw[<-z];exact lt)
       ·exact .inr (iC z lt)
     ·exact h2 m (zak _ hm)
theorem Lst.top(h:Bt K c ak keys row)(hK:∀n∈keys,K n=(row n).key)(hl:Lst row keys n):n∈ak:=by
 refine h.ne n hl.1 ?_;cases e:(row n).above with
 |none=>rfl
 |some a=>
  have ha:=h.ab n hl.1 a e;have hp:=h.ho n hl.1 a e;rw[hK n hl.1,hK a ha]at hp;rcases hl.2 a ha with z|z
  ·rw[z,oQ]at hp;cases hp
  ·exact(Im hp z).elim
theorem G0{l:List Str}:(∀t∈l,t∈keys)->wQ dF [.fz (PD ak keys row)] (l.map .str)=some (l.map λt=>(PyData.str t,(row t).key,t)):=by
 induction l with
 |nil=>intro _;rfl
 |cons t l ih=>
  intro h;have e:sv dF (.fz (.str t)::[.fz (PD ak keys row)])=some ((.tuple [.int (row t).key,.str t],.fz),[.fz (.str t),.fz (PD ak keys row)]) :=
   au (dm (rs:=[(HD keys row,.fz),(.str t,.fz)]) (az (au (eS (ak:=ak) rfl)) (az (au (aB rfl)) aQ)) (xo (h t zas)) rfl)
  show(sv dF (.fz (.str t)::[.fz (PD ak keys row)])).bind _=_;rw[e,zai];show(wQ dF [.fz (PD ak keys row)] (l.map .str)).map _=_;rw[ih λx hx=>h x (zak _ hx)]
  rfl
theorem EF(hne:ak≠[])(ht:∀t∈ak,t∈keys):∃n,Lst row ak n/\h8 [PD ak keys row]=some (.str n,false):=by
 match ak,hne,ht with
 |b::l,_,ht=>
  obtain⟨n,e,h⟩:=vt (row:=row) l b;refine⟨n,h,d8 (o:=.rt (.str n,.fz) [.fz (PD (b::l) keys row)]) rfl (aW (iP (gD (zG (eE (rs:=[(TD (b::l),.fz)]) (res:=(.int (((b::l).length:Nat):Int),false)) (az (au (i9 (keys:=keys) (row:=row) rfl)) aQ) (by show some (PyData.int ((((b::l).map PyData.str).length:Nat):Int),false)=_;rw[zal])) cB) (zaO (by simp only[List.length_cons];omega))) rfl) (dO ?_)) rfl⟩
  unfold Ec;rw[show mOp gIx (aj 0) (mC (.int 0)) ([PD (b::l) keys row].map Sl.fz++List.replicate 0 Sl.no)=some ((TD (b::l),.fz),[.fz (PD (b::l) keys row)])from i9 (keys:=keys) (row:=row) rfl,zai];show(wQ dF [.fz (PD (b::l) keys row)] ((b::l).map .str)).bind _=_;rw[G0 ht,zai];show some (((l9 _ _).1,Kd.fz),_)=_;rw[e]
theorem Kt(l:List Str)(h:l[i]?=some n):pkD (l.map λt=>PyData.tuple [.int (row t).key,.str t]) i=((row n).key,n):=by
 unfold pkD;rw[zao,h];rfl
theorem yQ:∀k:Nat,argBest bt k<=k
 |0=>zap _
 |k+1=>by
  unfold argBest;split
  ·exact zap _
  ·exact Nat.le_succ_of_le (yQ k)
theorem G2(hne:l≠[]):∃n,Lst row l n/\wR [.list (l.map λt=>PyData.tuple [.int (row t).key,.str t])]=some (.tuple [.int (row n).key,.str n],false):=by
 have hpos : 0<l.length:=List.length_pos_iff.mpr hne;obtain⟨G,hG⟩:∃G,G=pkD (l.map λt=>PyData.tuple [.int (row t).key,.str t]):=⟨_,rfl⟩
 have at_:∀{i:Nat} {n:Str},l[i]?=some n->G i=((row n).key,n):=fun{i n} h=>by rw[hG];exact Kt l h
 have key:∀k,k<l.length->∀m j,j<=k->l[j]?=some m->∀n,l[argBest (btK G) k]?=some n->m=n\/aX (row n).key n (row m).key m=true:=by
  intro k
  induction k with
  |zero=>
   intro _ m j hj hm n hn;obtain rfl:j=0:=by omega
   have:l[0]?=some n:=hn;rw[hm]at this;cases this;exact .inl rfl
  |succ k ih=>
   intro hk m j hj hm n hn;have hle:=yQ (bt:=btK G) k;obtain⟨p,hp⟩:∃p,l[argBest (btK G) k]?=some p:=⟨_,zaC (by omega)⟩
   obtain⟨q,hq⟩:∃q,l[k+1]?=some q:=⟨_,zaC hk⟩;have eb:btK G (k+1) (argBest (btK G) k)=aX (row q).key q (row p).key p:=by
    show aX (G (k+1)).1 (G (k+1)).2 (G (argBest (btK G) k)).1 (G (argBest (btK G) k)).2=_;rw[at_ hq,at_ hp]
   have hn':l[if btK G (k+1) (argBest (btK G) k)=true then k+1 else argBest (btK G) k]?=some n:=hn
   rw[eb]at hn'
   by_cases hlt:aX (row q).key q (row p).key p=true
   ·rw[if_pos hlt]at hn'
    have en:q=n:=zaQ (hq.symm.trans hn');rw[<-en]
    by_cases ej:j=k+1
    ·rw[ej]at hm
     exact .inl (zaQ (hm.symm.trans hq))
    ·rcases ih (by omega) m j (by omega) hm p hp with z|z
     ·rw[z];exact .inr hlt
     ·exact .inr (iC hlt z)
   ·rw[if_neg hlt]at hn'
    have en:p=n:=zaQ (hp.symm.trans hn');rw[<-en]
    by_cases ej:j=k+1
    ·rw[ej]at hm
     have em:q=m:=zaQ (hq.symm.trans hm);rw[<-em]
     by_cases e:q=p
     ·exact .inl e
     ·exact .inr (qX e (by simpa using hlt))
    ·exact ih (by omega) m j (by omega) hm p hp
 have hle:=yQ (bt:=btK G) (l.length-1);obtain⟨n,hn⟩:∃n,l[argBest (btK G) (l.length-1)]?=some n:=⟨_,zaC (by omega)⟩
 refine⟨n,⟨zaj hn,λm hm=>?_⟩,?_⟩
 ·obtain⟨j,hj⟩:=List.mem_iff_getElem?.mp hm
  have:=(zac hj).1;exact key _ (by omega) m j (by omega) hj n hn
 ·unfold wR
  dsimp only;rw[if_pos (List.all_eq_true.mpr λd hd=>by obtain⟨t,_,rfl⟩:=List.mem_map.mp hd;rfl),zal,<-hG,zao,hn]
  rfl
variable{c:Nat}{ak keys:List Str}{row:Str->aM.Row}
def nm(z:Str):Bool:=z.cps.toList.all λc=>leS "a" ⟨#[c]⟩&&leS ⟨#[c]⟩ "z"
theorem pz{α:Type}(p : α->Bool):∀l:List α,boolsOf (l.map λc=>PyData.bool (p c))=some (l.map p)
 | []=>rfl
 |c::l=>by
  show(boolsOf (l.map λc=>PyData.bool (p c))).map _=_
  rw[pz p l];rfl
theorem G3(z:Str)(ρ:Rho):um wU wU (mC (.str "a")) (aj 0) (mC (.str "z")) (.fz (.str z)::ρ)=some ((.bool (leS "a" z&&leS z "z"),.fz),.fz (.str z)::ρ):=by
 have e:um wU wU (mC (.str "a")) (aj 0) (mC (.str "z")) (.fz (.str z)::ρ)=(match leS "a" z with|true=>some ((.bool (leS z "z"),.fz),.fz (.str z)::ρ)|false=>some ((.bool false,.fz),.fz (.str z)::ρ)):=by
  show(match((PyData.bool (leS "a" z),false):D×Bool)with
   |(.bool true,false)=>_
   |(.bool false,false)=>_
   |_=>_)=_
  cases leS "a" z<;>rfl
 rw[e];cases leS "a" z<;>rfl
theorem rf(z:Str)(hz:z.length<=1000):cw [.str z]=some (.bool (!decide ((z.length:Int)<1)&&(!decide ((8:Int)<(z.length:Int))&&nm z)),false):=by
 have el:IE (mCB dN (ai (aj 0) aG)) [.fz (.str z)] (z.length:Int):=eE (rs:=[(.str z,.fz)]) (res:=(.int (z.length:Int),false)) rfl (bR (zaX hz (by decide)))
 have ei:fJ (aL (lg "str" (aj 0))) [.fz (.str z)]=some (false,[.fz (.str z)]):=d6 (test_ev (k:=.fz) (v:=true) (nV (au (aB rfl)) (by simp[jL,gC,tyD,cy,iO])))
 by_cases h1:(z.length:Int)<1
 ·rw[zaH h1]
  exact d8 (o:=.rt (.bool false,.fz) [.fz (.str z)]) rfl (mq (pK (kS ei (K6 (gD (Dk el cB) (zaH h1)))) rfl)) rfl
 by_cases h2:(8:Int)<(z.length:Int)
 ·rw[zaH h2,zaO h1]
  exact d8 (o:=.rt (.bool false,.fz) [.fz (.str z)]) rfl (mq (pK (kS ei (kS (gD (Dk el cB) (zaO h1)) (gD (ku el cB) (zaH h2)))) rfl)) rfl
 ·rw[zaO h1,zaO h2]
  have hc:iU xV ph [] (oO z)=some (z.cps.toList.map λc=>PyData.bool (leS "a" ⟨#[c]⟩&&leS ⟨#[c]⟩ "z")):=Mir.jG (f:=λc=>PyData.str ⟨#[c]⟩) z.cps.toList λc _=>⟨_,au (G3 ⟨#[c]⟩ [])⟩
  refine d8 (o:=.rt (.bool (nm z),.fz) [.fz (.str z)]) rfl (aW (iP (kS ei (kS (gD (Dk el cB) (zaO h1)) (gD (ku el cB) (zaO h2)))) rfl) (dO (eE (rs:=[(.list (z.cps.toList.map λc=>PyData.bool (leS "a" ⟨#[c]⟩&&leS ⟨#[c]⟩ "z")),.fz)]) (res:=(.bool (nm z),false)) (az (dw (Hx (it:=J0 (aj 0)) (ds:=oO z) rfl hc ?_)) aQ) ?_))) rfl
  ·rw[zal];show z.cps.toList.length<=_;have:z.length=z.cps.toList.length:=rfl;omega
  ·show(boolsOf _).map _=_
   rw[pz];show some (PyData.bool _,false)=_;rw[List.all_map];rfl
theorem ir(d:D)(h:jL "str" d=some (.bool false,false)):cw [d]=some (.bool false,false) :=
 d8 (o:=.rt (.bool false,.fz) [.fz d]) rfl (mq (pK (K6 (d6 (test_ev (k:=.fz) (v:=false) (nV (au (aB rfl)) h)))) rfl)) rfl
theorem EG:∀i:Nat,i<300->nm (aK i)=true/\1<=(aK i).length/\(aK i).length<=8:=by decide+kernel
theorem pA(hi:i<300):cw [.str (aK i)]=some (.bool true,false):=by
 obtain⟨h1,h2,h3⟩:=EG i hi;rw[rf _ (by omega),h1,zaO (by omega),zaO (by omega)];rfl
def things:List D:=[.none,.int 5,.bool true,.str "",.str "A",.str "abcdefghi",.str "a b",.str "a1",.tuple [.str "a"],.list [.str "a"],.dict []]
theorem BM:∀d∈things,cw [d]=some (.bool false,false):=by
 have hs:∀z:Str,z.length<=1000->(!decide ((z.length:Int)<1)&&(!decide ((8:Int)<(z.length:Int))&&nm z))=false->cw [.str z]=some (.bool false,false):=λz h1 h2=>by rw[rf z h1,h2]
 intro d hd;simp only[things,List.mem_cons,List.not_mem_nil,or_false]at hd;rcases hd with rfl|rfl|rfl|rfl|rfl|rfl|rfl|rfl|rfl|rfl|rfl
 ·exact ir _ (by simp[jL,gC,tyD,cy,iO])
 ·exact ir _ (by simp[jL,gC,tyD,cy,iO])
 ·exact ir _ (by simp[jL,gC,tyD,cy,iO])
 ·exact hs _ (by decide) (by decide+kernel)
 ·exact hs _ (by decide) (by decide+kernel)
 ·exact hs _ (by decide) (by decide+kernel)
 ·exact hs _ (by decide) (by decide+kernel)
 ·exact hs _ (by decide) (by decide+kernel)
 ·exact ir _ (by simp[jL,gC,tyD,cy,iO])
 ·exact ir _ (by simp[jL,gC,tyD,cy,iO])
 ·exact ir _ (by simp[jL,gC,tyD,cy,iO])
theorem vv(h:a.length+b.length<=1000):et (TD a) (TD b)=some (TD (a++b),true):=by
 show et (.list (a.map .str)) (.list (b.map .str))=some (.list ((a++b).map .str),true);rw[za1];exact bR (zaX (show(a.map PyData.str).length+(b.map PyData.str).length<=1000 by rw[zal,zal];exact h) (by decide))
theorem G4{c:Str}{s:SM}(h:b ρ=some (.er c ρ0))(h2:su c=some s)(h3:FG ρ0=true)(h4:fC ρ0 i .ex=some ρ1)(h5:s ρ1=some (.nx ρ2))(h6:Hy i (.nx ρ2)=some (.nx ρ3)):zJ b i su ρ=some (.nx ρ3):=by
 unfold zJ;rw[h,zai];dsimp only;rw[h2,zai,if_pos h3,h4,zai,h5,zai,h6]
theorem f9{c:Str}(hb:(eIf (aL (mOp gEq (aj 0) (mC (.int 0)))) (eX eD (ji gk (ai (aj 1) (ai (aj 2) (ai (mC (.int 1)) aG))))) (eIf (aL (mOp gEq (aj 0) (mC (.int 1)))) (eX eD (ji fT (ai (aj 1) (ai (aj 2) aG)))) (eX eD (ji fU (ai (aj 1) aG))))) [.fz w,.fz a,.fz b,.own (.list []),.no]=some (.er c [.fz w,.fz a,.fz b,.own (.list []),.no]))(hs:bM c=some (dM 3 (eN (ai (df 4 true) (ai (df 4 x) (ai (df 4 y) (ai (df 4 z) aG))))))):bh [w,a,b]=some (.list [.bool true,.bool x,.bool y,.bool z],true):=by
 refine d8 (o:=.rt (.list [.bool true,.bool x,.bool y,.bool z],.at 3) [.fz w,.fz a,.fz b,.own (.list [.bool true,.bool x,.bool y,.bool z]),.no]) rfl ?_ rfl;refine aW (ρ1:=[.fz w,.fz a,.fz b,.own (.list []),.no]) (fe (gQ (rs:=[]) rfl rfl (by simp)) rfl) ?_
 refine aW (ρ1:=[.fz w,.fz a,.fz b,.own (.list [.bool true,.bool x,.bool y,.bool z]),.no]) (G4 hb hs rfl (ρ1:=[.fz w,.fz a,.fz b,.own (.list []),.ex]) rfl (ρ2:=[.fz w,.fz a,.fz b,.own (.list [.bool true,.bool x,.bool y,.bool z]),.ex]) (fe (gQ (rs:=[(.bool true,.fz),(.bool x,.fz),(.bool y,.fz),(.bool z,.fz)]) rfl rfl (by simp)) rfl) rfl) ?_
 exact dO (gv rfl)
theorem LS:bM "NoName"=some (dM 3 (eN (ai (df 4 true) (ai (df 4 true) (ai (df 4 false) (ai (df 4 false) aG)))))):=by
 unfold bM;rw[if_pos rfl]
theorem Io:bM "Twice"=some (dM 3 (eN (ai (df 4 true) (ai (df 4 false) (ai (df 4 true) (ai (df 4 false) aG)))))):=by
 unfold bM;rw[if_neg (by decide),if_pos rfl]
theorem LU:bM "Empty"=some (dM 3 (eN (ai (df 4 true) (ai (df 4 false) (ai (df 4 false) (ai (df 4 true) aG)))))):=by
 unfold bM;rw[if_neg (by decide),if_neg (by decide),if_pos rfl]
theorem G5(h:cw [d]=some (.bool false,false)):gk [p,d,.int k]=some (.inr "NoName") :=
 vp (ρ:=[.fz p,.fz d,.fz (.int k),.no]) rfl (nR (q0 (d6 (ef (rs:=[(d,.fz)]) rfl h).t) rfl))
theorem G6(h:cw [.str n]=some (.bool true,false))(hn:n∈keys):gk [PD ak keys row,.str n,.int k]=some (.inr "Twice") :=
 vp (ρ:=[.fz (PD ak keys row),.fz (.str n),.fz (.int k),.no]) rfl (vo (xp (d6 (ef (rs:=[(.str n,.fz)]) rfl h).t) (nS rfl)) (nR (q0 (test_ev (k:=.fz) (bP (r:=(HD keys row,.fz)) (res:=(.bool true,false)) (au (aB rfl)) (au (eS (ak:=ak) rfl)) (by rw[qb,zaH hn]))) rfl)))
theorem EH(h:cw [.str n]=some (.bool true,false))(hn:n∉keys)(hk:keys.length<=1000)(ht:ak.length<=900):gm [PD ak keys row,.str n,.int k]=some (TD (ak++[n]),HD (keys++[n]) (aV row n ⟨k,none,false,[]⟩)):=by
 refine yM rfl ?_;refine fV (ρ1:=[.fz (PD ak keys row),.fz (.str n),.fz (.int k),.no]) (iP (d6 (ef (rs:=[(.str n,.fz)]) rfl h).t) rfl) ?_;refine fV (ρ1:=[.fz (PD ak keys row),.fz (.str n),.fz (.int k),.no]) (iP (test_ev (k:=.fz) (bP (r:=(HD keys row,.fz)) (res:=(.bool false,false)) (au (aB rfl)) (au (eS (ak:=ak) rfl)) (by rw[qb,zaO hn]))) rfl) ?_
 refine fV (ρ1:=[.fz (PD ak keys row),.fz (.str n),.fz (.int k),.own (HD keys row)]) (fe (eE (rs:=[(HD keys row,.fz)]) (res:=(HD keys row,true)) (az (au (eS (ak:=ak) rfl)) aQ) rfl) rfl) ?_;refine fV (ρ1:=[.fz (PD ak keys row),.fz (.str n),.fz (.int k),.own (HD (keys++[n]) (aV row n ⟨k,none,false,[]⟩))]) ((i7 (i:=3) (r:=⟨k,none,false,[]⟩) (fP (rs:=[(.int k,.fz),(.none,.fz),(.bool false,.fz),(.tuple [],.fz)]) (az (au (aB rfl)) (az (au rfl) (az (au rfl) (az (au (fP (rs:=[]) rfl rfl (by simp))) aQ)))) rfl (by simp)) (aB rfl) rfl (.inl rfl) (by omega)).trans (by rw[gJ hn];rfl)) ?_
 unfold oP;rw[show mOp et (mOp gIx (aj 0) (mC (.int 0))) (eN (ai (aj 1) aG)) [.fz (PD ak keys row),.fz (.str n),.fz (.int k),.own (HD (keys++[n]) (aV row n ⟨k,none,false,[]⟩))]=some ((TD (ak++[n]),.new),[.fz (PD ak keys row),.fz (.str n),.fz (.int k),.own (HD (keys++[n]) (aV row n ⟨k,none,false,[]⟩))])from bP (r:=(.list [.str n],.fz)) (res:=(TD (ak++[n]),true)) (au (i9 (keys:=keys) (row:=row) rfl)) (dw (gQ (rs:=[(.str n,.fz)]) rfl rfl (by simp))) (vv (b:=[n]) (by simp;omega))]
 rfl
def mrg(k1:List Str)(r1 r2:Str->aM.Row):Str->aM.Row:=λn=>if n∈k1 then r1 n else r2 n
theorem yR(h:n∈k1):mrg k1 r1 r2 n=r1 n:=if_pos h
theorem vx(h:n∉k1):mrg k1 r1 r2 n=r2 n:=if_neg h
theorem vy(h:n∉k1):aV (mrg k1 r1 r2) n (r2 n)=mrg k1 r1 r2:=by
 funext m
 by_cases e:m=n
 ·subst e;rw[aR,vx h]
 ·rw[aI _ _ e]
theorem EI(h:∀n∈keys,row n=cF n):HD keys row=HD keys cF:=by
 show PyData.dict _=PyData.dict _
 congr 1
 exact List.map_congr_left λn hn=>by rw[h n hn]
theorem yS:HD k1 r1=HD k1 (mrg k1 r1 r2):=EI λn hn=>(yR hn).symm
def Dj(k1 k2:List Str):Prop:=∀n∈k2,n∉k1
theorem EJ(h : ρ[i]?=some (.fz (PD t k r))):yr (kF i) 1 ρ=some ((HD k r,.fz),ρ):=by
 unfold yr kF;rw[h];rfl
variable{t1 k1 t2 k2:List Str}{r1 r2:Str->aM.Row}
theorem tS:∀(l pre:List Str) (s3:Sl),(s3=.no\/∃d,s3=.fz d)->(∀n∈l,n∈k2/\n∉k1++pre)->l.Nodup->(k1++pre++l).length<=1000->
  ∃s3',(s3'=.no\/∃d,s3'=.fz d)/\forL (mgN 3) lq (l.map .str) [.fz (PD t1 k1 r1),.fz (PD t2 k2 r2),.own (HD (k1++pre) (mrg k1 r1 r2)),s3]=some (.nx [.fz (PD t1 k1 r1),.fz (PD t2 k2 r2),.own (HD (k1++(pre++l)) (mrg k1 r1 r2)),s3'])
 | [],pre,s3,hs,_,_,_=>⟨s3,hs,by rw[zaR];rfl⟩
 |n::l,pre,s3,hs,hl,nd,sz=>by
  obtain⟨h1,h2⟩:=hl n zas;have h3:n∉k1:=λz=>h2 (zaW _ z)
  obtain⟨nn,nd2⟩:=List.nodup_cons.mp nd;have sz2:(k1++pre).length<=1000:=by simp only[List.length_append,List.length_cons]at sz⊢;omega
  obtain⟨s3',hs',e⟩:=tS l (pre++[n]) (.fz (.str n)) (.inr ⟨_,rfl⟩) (λm hm=>⟨(hl m (zak _ hm)).1,λz=>by
   rw[<-zaD]at z;rcases zae z with z|z
   ·exact(hl m (zak _ hm)).2 z
   ·rw[zad z]at hm;exact nn hm⟩) nd2 (by simp only[List.length_append,List.length_cons,List.length_nil]at sz⊢;omega)
  refine⟨s3',hs',?_⟩;rw[zaz];refine jH (ρ1:=[.fz (PD t1 k1 r1),.fz (PD t2 k2 r2),.own (HD (k1++pre) (mrg k1 r1 r2)),.fz (.str n)]) (fm (s:=s3) rfl (by rcases hs with rfl|⟨d,rfl⟩;exact NIo.no;exact NIo.fz _)) ?_ (e.trans (by rw[zaD];rfl))
  refine aW (ρ1:=[.fz (PD t1 k1 r1),.fz (PD t2 k2 r2),.own (HD (k1++pre) (mrg k1 r1 r2)),.fz (.str n)]) (iP (test_ev (k:=.fz) (bP (r:=(HD (k1++pre) (mrg k1 r1 r2),.at 2)) (res:=(.bool false,false)) (au (aB rfl)) (ng (gv rfl)) (by rw[qb,zaO h2]))) rfl) ?_
  refine(i7 (i:=2) (r:=r2 n) (mB (keys:=k2) (row:=r2) h1 (au (eS (ak:=t2) rfl)) (aB rfl)) (aB rfl) rfl (.inl rfl) sz2).trans ?_;rw[gJ h2,vy h3,<-zaD];rfl
theorem G7{dv:PM}{o:Out}(h1:dv ρ=some ((HD keys row,.fz),ρ1))(hr:iQ ρ=true)(h2:forL g b (keys.map .str) ρ1=some o)(h3:iQ (Bl o)=true):z4 dv g b ρ=some o:=by
 unfold z4;rw[h1,zai];dsimp only;show(some (bQ keys row)).bind _=_;rw[zai,if_pos hr,jN,h2,zai,if_pos h3]
theorem G8(hd:Dj k1 k2)(nd:k2.Nodup)(hk:k1.length+k2.length<=1000)(ht:t1.length+t2.length<=1000):hZ [PD t1 k1 r1,PD t2 k2 r2]=some (TD (t1++t2),HD (k1++k2) (mrg k1 r1 r2)):=by
 refine yM rfl ?_;refine fV (ρ1:=[.fz (PD t1 k1 r1),.fz (PD t2 k2 r2),.own (HD k1 (mrg k1 r1 r2)),.no]) ((fe (eE (rs:=[(HD k1 r1,.fz)]) (res:=(HD k1 r1,true)) (az (au (eS (ak:=t1) rfl)) aQ) rfl) rfl).trans (by rw[yS (r1:=r1) (r2:=r2)];rfl)) ?_
 obtain⟨s3,hs,e⟩:=tS (t1:=t1) (k1:=k1) (t2:=t2) (k2:=k2) (r1:=r1) (r2:=r2) k2 [] .no (.inl rfl) (λn hn=>⟨hn,by rw[zaR];exact hd n hn⟩) nd (by simp;omega)
 rw[zaR,List.nil_append]at e;refine fV (G7 (EJ (i:=1) rfl) rfl e (by rcases hs with rfl|⟨d,rfl⟩<;>rfl)) ?_
 show oP _ 2 _=_;unfold oP;rw[show mOp et (mOp gIx (aj 0) (mC (.int 0))) (mOp gIx (aj 1) (mC (.int 0))) [.fz (PD t1 k1 r1),.fz (PD t2 k2 r2),.own (HD (k1++k2) (mrg k1 r1 r2)),s3]=some ((TD (t1++t2),.new),[.fz (PD t1 k1 r1),.fz (PD t2 k2 r2),.own (HD (k1++k2) (mrg k1 r1 r2)),s3])from bP (r:=(TD t2,.fz)) (res:=(TD (t1++t2),true)) (au (i9 (keys:=k1) (row:=r1) rfl)) (au (i9 (keys:=k2) (row:=r2) rfl)) (vv ht)];rfl
theorem EK{dv:PM}{c:Str}(h1:dv ρ=some ((HD keys row,.fz),ρ1))(hr:iQ ρ=true)(h2:qQ g b (keys.map .str) ρ1=some (.er c ρ2))(h3:iQ ρ2=true):Ac dv g b ρ=some (.er c ρ2):=by
 unfold Ac;rw[h1,zai];dsimp only;show(some (bQ keys row)).bind _=_;rw[zai,if_pos hr,jN,h2,zai];exact if_pos h3
theorem G9(h1:g d ρ=some ρ1)(h2:b ρ1=some (.ok (.nx ρ2)))(h3:qQ g b ds ρ2=o):qQ g b (d::ds) ρ=o:=by
 show(g d ρ).bind _=_;rw[h1,zai,h2,zai];exact h3
theorem Ha{ρ ρ1 ρ2:Rho}{c:Str}(h1:g d ρ=some ρ1)(h2:b ρ1=some (.er c ρ2)):qQ g b (d::ds) ρ=some (.er c ρ2):=by
 show(g d ρ).bind _=_;rw[h1,zai,h2,zai]
theorem rg:∀(l pre:List Str) (s3:Sl),(s3=.no\/∃d,s3=.fz d)->(∀n∈l,n∈k2/\n∉pre)->l.Nodup->(k1++pre++l).length<=1000->(∃n∈l,n∈k1)->
  ∃ρ',iQ ρ'=true/\qQ (mgN 3) (nh (eIf (aL (mOp uN (aj 3) (aj 2))) (fun ρ=>some (.er "Twice" ρ)) (g6 dJ)) (g6 (i5 2 (mOp gT (mOp gIx (aj 1) (mC (.int 1))) (aj 3)) (aj 3)))) (l.map .str) [.fz (PD t1 k1 r1),.fz (PD t2 k2 r2),.own (HD (k1++pre) (mrg k1 r1 r2)),s3]=some (.er "Twice" ρ')
 | [],pre,s3,_,_,_,_,h=>by obtain⟨n,hn,_⟩:=h;cases hn
 |n::l,pre,s3,hs,hl,nd,sz,hx=>by
  obtain⟨h1,h2⟩:=hl n zas;obtain⟨nn,nd2⟩:=List.nodup_cons.mp nd;have sz2:(k1++pre).length<=1000:=by simp only[List.length_append,List.length_cons]at sz⊢;omega
  have hg:mgN 3 (.str n) [.fz (PD t1 k1 r1),.fz (PD t2 k2 r2),.own (HD (k1++pre) (mrg k1 r1 r2)),s3]=some [.fz (PD t1 k1 r1),.fz (PD t2 k2 r2),.own (HD (k1++pre) (mrg k1 r1 r2)),.fz (.str n)]:=fm (s:=s3) rfl (by rcases hs with rfl|⟨d,rfl⟩;exact NIo.no;exact NIo.fz _)
  have tst:∀b:Bool,decide (n∈k1++pre)=b->aL (mOp uN (aj 3) (aj 2)) [.fz (PD t1 k1 r1),.fz (PD t2 k2 r2),.own (HD (k1++pre) (mrg k1 r1 r2)),.fz (.str n)]=some (b,[.fz (PD t1 k1 r1),.fz (PD t2 k2 r2),.own (HD (k1++pre) (mrg k1 r1 r2)),.fz (.str n)]):=λb hb=>test_ev (k:=.fz) (bP (r:=(HD (k1++pre) (mrg k1 r1 r2),.at 2)) (res:=(.bool b,false)) (au (aB rfl)) (ng (gv rfl)) (by rw[qb,hb]))
  rw[zaz]
  by_cases h3:n∈k1
  ·exact⟨_,rfl,Ha hg (nR (q0 (tst true (zaH (zaW _ h3))) rfl))⟩
  ·have h4:n∉k1++pre:=λz=>(zae z).elim h3 h2
   obtain⟨ρ',hn',e⟩:=rg l (pre++[n]) (.fz (.str n)) (.inr ⟨_,rfl⟩) (λm hm=>⟨(hl m (zak _ hm)).1,λz=>by
    rcases zae z with z|z
    ·exact(hl m (zak _ hm)).2 z
    ·rw[zad z]at hm;exact nn hm⟩) nd2 (by simp only[List.length_append,List.length_cons,List.length_nil]at sz⊢;omega) (by
    obtain⟨m,hm,hm2⟩:=hx;rcases zaf hm with rfl|hm
    ·exact absurd hm2 h3
    ·exact⟨m,hm,hm2⟩)
   refine⟨ρ',hn',G9 hg (vo (xp (tst false (zaO h4)) (nS rfl)) (nS ?_)) e⟩;refine(i7 (i:=2) (r:=r2 n) (mB (keys:=k2) (row:=r2) h1 (au (eS (ak:=t2) rfl)) (aB rfl)) (aB rfl) rfl (.inl rfl) sz2).trans ?_;rw[gJ h4,vy h3,<-zaD];rfl
theorem EL(nd:k2.Nodup)(hk:k1.length+k2.length<=1000)(hx:∃n∈k2,n∈k1):fT [PD t1 k1 r1,PD t2 k2 r2]=some (.inr "Twice"):=by
 obtain⟨ρ',hn,e⟩:=rg (t1:=t1) (k1:=k1) (t2:=t2) (k2:=k2) (r1:=r1) (r2:=r2) k2 [] .no (.inl rfl) (λn hn=>⟨hn,by simp⟩) nd (by simp;omega) hx
 rw[zaR]at e;refine vp rfl (vo (ρ1:=[.fz (PD t1 k1 r1),.fz (PD t2 k2 r2),.own (HD k1 (mrg k1 r1 r2)),.no]) (nS ((fe (eE (rs:=[(HD k1 r1,.fz)]) (res:=(HD k1 r1,true)) (az (au (eS (ak:=t1) rfl)) aQ) rfl) rfl).trans (by rw[yS (r1:=r1) (r2:=r2)];rfl))) (nR (EK (EJ (i:=1) rfl) rfl e hn)))
theorem BN:fU [PD [] keys row]=some (.inr "Empty") :=
 vp (ρ:=[.fz (PD [] keys row)]) rfl (nR (q0 (gD (zG (eE (rs:=[(TD [],.fz)]) (res:=(.int 0,false)) (az (au (i9 (keys:=keys) (row:=row) rfl)) aQ) rfl) cB) rfl) rfl))
theorem Ku(h:cw [d]=some (.bool false,false)):bh [.int 0,p,d]=some (.list [.bool true,.bool true,.bool false,.bool false],true) :=
 f9 (q0 (tEq (dy rfl) cB rfl) (Ao (nU (rs:=[(p,.fz),(d,.fz),(.int 1,.fz)]) rfl rfl (G5 h)))) LS
theorem Hb(h:cw [.str n]=some (.bool true,false))(hn:n∈keys):bh [.int 0,PD ak keys row,.str n]=some (.list [.bool true,.bool false,.bool true,.bool false],true) :=
 f9 (q0 (tEq (dy rfl) cB rfl) (Ao (nU (rs:=[(PD ak keys row,.fz),(.str n,.fz),(.int 1,.fz)]) rfl rfl (G6 h hn)))) Io
theorem Aw(nd:k2.Nodup)(hk:k1.length+k2.length<=1000)(hx:∃n∈k2,n∈k1):bh [.int 1,PD t1 k1 r1,PD t2 k2 r2]=some (.list [.bool true,.bool false,.bool true,.bool false],true) :=
 f9 (xp (tNe (dy rfl) cB (by decide)) (q0 (tEq (dy rfl) cB rfl) (Ao (nU (rs:=[(PD t1 k1 r1,.fz),(PD t2 k2 r2,.fz)]) rfl rfl (EL nd hk hx))))) Io
theorem Kv:bh [.int 2,PD [] keys row,d]=some (.list [.bool true,.bool false,.bool false,.bool true],true) :=
 f9 (xp (tNe (dy rfl) cB (by decide)) (xp (tNe (dy rfl) cB (by decide)) (Ao (nU (rs:=[(PD [] keys row,.fz)]) rfl rfl BN)))) LU
theorem Kw(h1:Bk C t1 k1 r1)(h2:Bk C t2 k2 r2)(hd:Dj k1 k2):Bk C (t1++t2) (k1++k2) (mrg k1 r1 r2):=by
 have e1:∀{n:Str},n∈k1->mrg k1 r1 r2 n=r1 n:=λh=>yR h
 have e2:∀{n:Str},n∈k2->mrg k1 r1 r2 n=r2 n:=λh=>vx (hd _ h)
 refine⟨?_,?_,?_,?_,?_,?_,?_,?_,?_⟩
 ·exact List.nodup_append.mpr ⟨h1.nd,h2.nd,λa ha b hb e=>hd b hb (e▸ha)⟩
 ·exact λn hn=>(zae hn).elim (h1.nm n) (h2.nm n)
 ·exact List.nodup_append.mpr ⟨h1.tn,h2.tn,λa ha b hb e=>hd b (h2.tk b hb).1 (e▸(h1.tk a ha).1)⟩
 ·intro t ht
  rcases zae ht with z|z
  ·exact⟨zaW _ (h1.tk t z).1,by rw[e1 (h1.tk t z).1];exact(h1.tk t z).2⟩
  ·exact⟨zan _ (h2.tk t z).1,by rw[e2 (h2.tk t z).1];exact(h2.tk t z).2⟩
 ·intro n hn ha
  rcases zae hn with z|z
  ·rw[e1 z]at ha;exact zaW _ (h1.ne n z ha)
  ·rw[e2 z]at ha;exact zan _ (h2.ne n z ha)
 ·intro n hn hm
  rcases zae hn with z|z
  ·rw[e1 z]at hm⊢;exact h1.mkd n z hm
  ·rw[e2 z]at hm⊢;exact h2.mkd n z hm
 ·intro n hn a ha
  rcases zae hn with z|z
  ·rw[e1 z]at ha;exact zaW _ (h1.ab n z a ha)
  ·rw[e2 z]at ha;exact zan _ (h2.ab n z a ha)
 ·intro n hn
  rcases zae hn with z|z
  ·rw[e1 z];exact⟨(h1.bl n z).1,λb hb=>zaW _ ((h1.bl n z).2 b hb)⟩
  ·rw[e2 z];exact⟨(h2.bl n z).1,λb hb=>zan _ ((h2.bl n z).2 b hb)⟩
 ·intro n hn a ha
  rcases zae hn with z|z
  ·rw[e1 z]at ha⊢
   rw[e1 (h1.ab n z a ha)];exact h1.ho n z a ha
  ·rw[e2 z]at ha⊢
   rw[e2 (h2.ab n z a ha)];exact h2.ho n z a ha
theorem mk_congr:∀{l:List Str},(∀n∈l,row n=cF n)->mk l row=mk l cF
 | [],_=>rfl
 |x::l,h=>by rw[j7,j7,h x zas,mk_congr λn hn=>h n (zak _ hn)]
theorem yT:∀a b:List Str,mk (a++b) row=mk a row+mk b row
 | [],b=>by rw[List.nil_append,show mk [] row=0 from rfl,Nat.zero_add]
 |x::a,b=>by rw[zay,j7,j7,yT a b,Nat.add_assoc]
theorem Kx(hd:Dj k1 k2):mk (k1++k2) (mrg k1 r1 r2)=mk k1 r1+mk k2 r2:=by
 rw[yT,mk_congr (λn hn=>yR hn),mk_congr (row:=mrg k1 r1 r2) (cF:=r2) (l:=k2) (λn hn=>vx (hd n hn))]
theorem Ky(hn:n∉keys):mk (keys++[n]) (aV row n ⟨k,none,false,[]⟩)=mk keys row:=by
 rw[yT,Ii keys hn,j7,aR];rfl
theorem Hc(h : ρ[i]?=some (.fz d)):kF i ρ=some ((d,.fz),ρ):=by unfold kF;rw[h]
theorem xt(a b c d:Bool):gEq (.list [.bool a,.bool b,.bool c,.bool d]) (.list [.bool a,.bool b,.bool c,.bool d])=some (.bool true,false):=by
 unfold gEq;rw[if_pos ⟨by cases a<;>cases b<;>cases c<;>cases d<;>decide,by cases a<;>cases b<;>cases c<;>cases d<;>decide⟩]
 cases a<;>cases b<;>cases c<;>cases d<;>rfl
theorem ri(a b c d:Bool):gNe (.list [.bool a,.bool b,.bool c,.bool d]) (.list [.bool a,.bool b,.bool c,.bool d])=some (.bool false,false):=by
 unfold gNe;rw[if_pos ⟨by cases a<;>cases b<;>cases c<;>cases d<;>decide,by cases a<;>cases b<;>cases c<;>cases d<;>decide⟩]
 cases a<;>cases b<;>cases c<;>cases d<;>rfl
theorem EO{a b c d:Bool}:eN (ai (mC (.bool a)) (ai (mC (.bool b)) (ai (mC (.bool c)) (ai (mC (.bool d)) aG)))) ρ=some ((.list [.bool a,.bool b,.bool c,.bool d],.new),ρ):=gQ (rs:=[(.bool a,.fz),(.bool b,.fz),(.bool c,.fz),(.bool d,.fz)]) rfl rfl (by simp)
theorem oR(h:Bk c ak keys row)(hk:keys.length<=1000):bZ [PD ak keys row,HD keys row]=some (.bool true,false):=by
 have tE:∀b:Bool,keys.isEmpty=b->aL (mOp Af (aj 1) kE) [.fz (PD ak keys row),.fz (HD keys row),.no]=some (b,[.fz (PD ak keys row),.fz (HD keys row),.no]):=λb hb=>test_ev (k:=.fz) (bP (r:=(.dict [],.fz)) (res:=(.bool b,false)) (au (aB rfl)) (dw rfl) (by
  show some (PyData.bool (bQ keys row).isEmpty,false)=_;rw[<-hb];cases keys<;>rfl))
 by_cases hne:keys=[]
 ·subst hne
  obtain rfl:ak=[]:=by
   cases ak with
   |nil=>rfl
   |cons t l=>exact absurd (h.tk t zas).1 (by simp)
  exact d8 (o:=.rt (.bool true,.fz) [.fz (PD [] [] row),.fz (HD [] row),.no]) rfl (mq (pK (tE true rfl) (dO (bP (r:=(.list [.bool true,.bool false,.bool false,.bool true],.fz)) (res:=(.bool true,false)) (dw (dm (rs:=[(.int 2,.fz),(PD [] [] row,.fz),(.none,.fz)]) rfl Kv rfl)) (dw EO) (xt _ _ _ _))))) rfl
 ·obtain⟨m,hl,em⟩:=G2 (row:=row) hne
  have hm:m∈ak:=hl.top h λ_ _=>rfl
  obtain⟨n,hn,en⟩:=EF (row:=row) (keys:=keys) (λz=>by rw[z]at hm;cases hm) (λt ht=>(h.tk t ht).1)
  obtain rfl:n=m:=hn.one hl (h.tk n hn.1).1 hm;have hE:keys.isEmpty=false:=by cases keys with|nil=>exact absurd rfl hne|cons _ _=>rfl
  have cmp:=Mir.jG (e:=g7) (ρn:=[.fz (HD keys row)]) (f:=PyData.str) (g:=λt=>PyData.tuple [.int (row t).key,.str t]) keys λx hx=>⟨[.fz (.str x),.fz (HD keys row)],au (fP (rs:=[(.int (row x).key,.fz),(.str x,.fz)]) (l8 (nN (jm (.inl rfl) hx (aB rfl))) (az (au (aB rfl)) aQ)) rfl (by simp))⟩
  refine d8 (o:=.rt (.bool true,.fz) [.fz (PD ak keys row),.fz (HD keys row),.fz (.str n)]) rfl (aW (iP (tE false hE) rfl) (aW (ρ1:=[.fz (PD ak keys row),.fz (HD keys row),.fz (.str n)]) (gh (dm (rs:=[(PD ak keys row,.fz)]) rfl en rfl) rfl) (dO ?_))) rfl;refine Dl (u:=true) (qA (au (aB rfl)) (FE n)) (λ_=>?_) (λz=>by cases z)
  exact bP (r:=(.str n,.fz)) (res:=(.bool true,false)) (au (aB rfl)) (au (bP (r:=(.int 1,.fz)) (res:=(.str n,false)) (au (eE (rs:=[(.list (keys.map λt=>PyData.tuple [.int (row t).key,.str t]),.fz)]) (res:=(.tuple [.int (row n).key,.str n],false)) (az (dw (Ez (Hc rfl) rfl cmp (by rw[zal];omega))) aQ) em)) (au rfl) rfl)) (by rw[EC n n (h.ok hl.1) (h.ok hl.1)];simp)
abbrev pt(a b i j:Nat)(n:Str)(k:Int)(x5 x6 x7:Option SV):List (Option SV):=[some (.tp [.lc a,.lc b]),some (.lc i),some (.lc j),some (.pl (.str n)),some (.pl (.int k)),x5,x6,x7]
theorem pB(ha:Z[a]?=some (dt (TD ak)))(hb:Z[b]?=some (dt (HD keys row)))(li:i<Z.length)(lj:j<Z.length)(hK:qG Z (.lc K)=some xs) :
  ∀(ys:List SV) (x5:Option SV),(∀y∈ys,∃d∈things,rdV Z y=some d/\blV Z.length y=true)->∃x5',l5 Z.length [0,1,2,3,4,6,7] (stays (.lc K) xs) (ngN 5) i6 ys ⟨Z,pt a b i j n k x5 none none⟩=some (.nx ⟨Z,pt a b i j n k x5' none none⟩)
 | [],x5,_=>⟨x5,tR hK⟩
 |y::ys,x5,h=>by
  obtain⟨d,hd,e1,e2⟩:=h y zas;obtain⟨x5',e⟩:=pB ha hb li lj hK ys (some y) λz hz=>h z (zak _ hz)
  have v0:(vw ⟨Z,pt a b i j n k (some y) none none⟩)[0]?=some (.fz (PD ak keys row)):=dG rfl (cA ha hb);have v5:(vw ⟨Z,pt a b i j n k (some y) none none⟩)[5]?=some (.fz d):=dG rfl e1;refine⟨x5',iD hK (Kr (by simp)) (ja (j8 (test_ev (k:=.fz) (v:=false) (bP (r:=(.list [.bool true,.bool true,.bool false,.bool false],.fz)) (res:=(.bool false,false)) (dw (dm (rs:=[(.int 0,.fz),(PD ak keys row,.fz),(d,.fz)]) (az (au rfl) (az (au (aB v0)) (az (au (aB v5)) aQ))) (Ku (BM d hd)) rfl)) (dw EO) (ri _ _ _ _)))) rfl) (lC (zap _) ?_) e⟩
  have la:=lB ha;have lb:=lB hb;simp[GW,blV,yk,la,lb,li,lj,e2]
def Ax(N:Nat):List SV:=[.pl .none,.pl (.int 5),.pl (.bool true),.pl (.str ""),.pl (.str "A"),.pl (.str "abcdefghi"),.pl (.str "a b"),.pl (.str "a1"),.pl (.tuple [.str "a"]),.lc (N+0),.lc (N+1)]
theorem vz(h:m s=some (.ok xs ⟨S++X,t⟩))(hl:xs.length<=100):lZ m s=some (.ok (.lc (S.length+X.length)) ⟨S++(X++[some (mkL xs)]),t⟩):=by
 unfold lZ;rw[fE h,bR (sT (by omega))]
 unfold JL;rw[zau,zaD]
theorem oa{m:PM}{ρ:Rho}(h:m (vw ⟨S++X,t⟩)=some ((d,.new),ρ))(hp:dW d true=true):nO m ⟨S++X,t⟩=some (.ok (.lc (S.length+X.length)) ⟨S++(X++[dt d]),t⟩):=by
 rw[mD h hp];dsimp only;rw[zau,zaD]
theorem jT(h:m s=some (.ok xs ⟨S++X,t⟩))(h1:rP (S++X) xs=some ds)(h2:f ds=some (c1,c2))(p1:dW c1 true=true)(p2:dW c2 true=true) :
  jl f m s=some (.ok (.tp [.lc (S.length+X.length),.lc (S.length+X.length+1)]) ⟨S++(X++[dt c1,dt c2]),t⟩):=by
 unfold jl;rw[fE h];dsimp only;rw[h1,zai,h2,zai];dsimp only;rw[if_pos (show(dW c1 true&&dW c2 true)=true by rw[p1,p2];rfl),zau]
 simp only[List.append_assoc,List.cons_append,List.nil_append]
theorem tT(h:a s=some (.ok (.lc k) s1))(hk:qG s1.S (.lc k)=some xs)(h2:l5 s1.S.length kp (stays (.lc k) xs) g b xs s1=o):wA kp a g b s=o:=by
 unfold wA;rw[nX h];dsimp only;rw[hk,zai];exact h2
theorem rj{α:Type}{S X:List α}{v : α}:(S++X).set (S.length+k) v=S++X.set k v:=by
 rw[List.set_append_right _ _ (Nat.le_add_right _ _),Nat.add_sub_cancel_left]
theorem Hd{k:Nat}{ds:List D}(h:a s=some (.ok (.lc (S.length+k)) ⟨S++X,t⟩))(hk:X[k]?=some (dt (.list ds))):D3 mm a s=some (.ok (.pl .none) ⟨S++X.set k (dt (.list [])),t⟩):=by
 rw[GZ h (apk hk)];dsimp only;rw[rj]
theorem xu{k:Nat}{es:List (D×D)}(h:a s=some (.ok (.lc (S.length+k)) ⟨S++X,t⟩))(hk:X[k]?=some (dt (.dict es))):tf a s=some (.ok (.pl .none) ⟨S++X.set k (dt (.dict [])),t⟩):=by
 rw[ED h (apk hk)];dsimp only;rw[rj]
theorem He{t:List (Option SV)}{k:Nat}{ds:List D}{d:D}(h:a s=some (.ok (.lc (S.length+k)) s1))(h1:m s1=some (.ok [.pl d] ⟨S++X,t⟩))(e:s1=⟨S++X,t⟩)(hk:X[k]?=some (dt (.list ds)))(h3:ds.length<=100000):uH a m s=some (.ok (.pl .none) ⟨S++X.set k (dt (.list (ds++[d]))),t⟩):=by
 subst e;rw[Ar h (apk hk) h1 (apk hk) h3];dsimp only;rw[rj]
theorem ER(hv:v s=some (.ok (.pl (bX r)) ⟨S++X,t⟩))(hd:d ⟨S++X,t⟩=some (.ok (.lc (S.length+j)) ⟨S++X,t⟩))(hk:k ⟨S++X,t⟩=some (.ok (.pl (.str n)) ⟨S++X,t⟩))(hj:X[j]?=some (dt (HD keys row)))(hl:keys.length<=1000):tj d k v s=some (.nx ⟨S++X.set j (dt (HD (BD keys n) (aV row n r))),t⟩):=by
 rw[As hv hd hk (apk hj) hl];dsimp only;rw[rj]
theorem ixp:ixV S (.tp [x,y]) 0=some x:=by rfl
theorem Hf:ixV S (.tp [x,y]) 1=some y:=by rfl
theorem Hg(h:∀m∈keys,rOk (row m))(hn:n∉keys):∀m∈keys++[n],rOk (aV row n ⟨k,none,false,[]⟩ m):=λm hm=>by
 by_cases e:m=n
 ·subst e;rw[aR];exact⟨(λa ha=>by cases ha),(λb hb=>by cases hb)⟩
 ·rw[aI _ _ e]
  exact h m ((zae hm).resolve_right λz=>e (zad z))
theorem Bk.ES(h:Bk c ak keys row)(hc:c<=300)(hn:n∈keys):cw [.str n]=some (.bool true,false):=by
 obtain⟨i,hi,rfl⟩:=h.nm n hn;exact pA (by omega)
theorem xw(h:Bk c ak keys row)(hc:c<=200)(hS:kU S.length S=true)(ha:S[a]?=some (dt (TD ak)))(hb:S[b]?=some (dt (HD keys row)))(hi:S[i]?=some (dt (TD ak)))(hj:S[j]?=some (dt (HD keys row)))
  (hm:cw [.str n]=some (.bool true,false)) (ok:PyData.strOk n=true) (hn:n∉keys) (k:Int):fk S [.tp [.lc a,.lc b],.lc i,.lc j,.pl (.str n),.pl (.int k)]=some (.ok (.pl (.bool true)) S):=by
 have kl:=h.kl;have tl:=h.tl;obtain⟨L,hL⟩:∃L:List (Option Cl),L=[dt (.list [.str "a"]),dt (.dict []),some (.lst (Ax S.length))]:=⟨_,rfl⟩;have e1:lZ (aC (nLit .none) (aC (nLit (.int 5)) (aC (nLit (.bool true)) (aC (nLit (.str "")) (aC (nLit (.str "A")) (aC (nLit (.str "abcdefghi")) (aC (nLit (.str "a b")) (aC (nLit (.str "a1")) (aC (gR (aC (nLit (.str "a")) bu)) (aC (lZ (aC (nLit (.str "a")) bu)) (aC (nO kE) bu))))))))))) ⟨S++[],pt a b i j n k none none none⟩=some (.ok (.lc (S.length+2)) ⟨S++L,pt a b i j n k none none none⟩):=by
  rw[hL];exact vz (X:=[dt (.list [.str "a"]),dt (.dict [])]) (aJ f6 (aJ f6 (aJ f6 (aJ f6 (aJ f6 (aJ f6 (aJ f6 (aJ f6 (aJ (n0 (aJ f6 dD) rfl (by simp)) (aJ (vz (X:=[]) (aJ f6 dD) (by simp)) (aJ (oa (X:=[dt (.list [.str "a"])]) rfl rfl) dD))))))))))) (by simp)
 have ga:∀{x:Nat} {d:D} {Y:List (Option Cl)},S[x]?=some (dt d)->(S++Y)[x]?=some (dt d):=λe=>Aq e
 have lS:∀{x:Nat} {d:D},S[x]?=some (dt d)->x<(S++L).length:=fun{x d} e=>by have:=lB e;rw[zau];omega
 have as:qG (S++L) (.lc (S.length+2))=some (Ax S.length):=by
  simp only[qG,apk (S:=S) (X:=L) (k:=2) (by rw[hL];rfl)]
 have b0:rdV (S++L) (.lc (S.length+0))=some (.list [.str "a"]):=tP (apk (by rw[hL];rfl))
 have b1:rdV (S++L) (.lc (S.length+1))=some (.dict []):=tP (apk (by rw[hL];rfl))
 have lL:(S++L).length=S.length+3:=by rw[zau,hL];rfl
 obtain⟨x5,lo⟩:=pB (ak:=ak) (keys:=keys) (row:=row) (Z:=S++L) (a:=a) (b:=b) (i:=i) (j:=j) (n:=n) (k:=k) (ga ha) (ga hb) (lS hi) (lS hj) as (Ax S.length) none (λy hy=>by
  have l0:S.length+0<S.length+3:=by omega
  have l1:S.length+1<S.length+3:=by omega
  simp only[Ax,List.mem_cons,List.not_mem_nil,or_false]at hy;rcases hy with rfl|rfl|rfl|rfl|rfl|rfl|rfl|rfl|rfl|rfl|rfl
  ·exact⟨_,by simp[things],ly,rfl⟩
  ·exact⟨_,by simp[things],ly,rfl⟩
  ·exact⟨_,by simp[things],ly,rfl⟩
  ·exact⟨_,by simp[things],ly,rfl⟩
  ·exact⟨_,by simp[things],ly,rfl⟩
  ·exact⟨_,by simp[things],ly,rfl⟩
  ·exact⟨_,by simp[things],ly,rfl⟩
  ·exact⟨_,by simp[things],ly,rfl⟩
  ·exact⟨_,by simp[things],ly,rfl⟩
  ·exact⟨_,by simp[things],b0,by rw[lL];exact zaH l0⟩
  ·exact⟨_,by simp[things],b1,by rw[lL];exact zaH l1⟩)
 obtain⟨y0,y1,y2,hY⟩:∃y0 y1 y2,L=[y0,y1,y2]:=⟨_,_,_,hL⟩;clear hL b0 b1;subst hY;have R:=h.rok;have T:=h.tok;obtain⟨R',hR'⟩:∃R',R'=aV row n ⟨k,none,false,[]⟩:=⟨_,rfl⟩;refine yP (o:=.rt (.pl (.bool true)) ⟨S++[y0,y1,y2,dt (.list []),dt (.dict []),dt (HD (keys++[n]) R')],pt a b i j n k x5 (some (.tp [.lc (S.length+3),.lc (S.length+4)])) (some (.lc (S.length+5)))⟩) rfl ?_ (by simp only[retS,blV,if_true,EA hS])
 refine cQ (s':=⟨S++[y0,y1,y2],pt a b i j n k x5 none none⟩) ?_ ?_
 ·rw[zaR]at e1
  exact tT e1 as lo
 have v0:∀{X x5 x6 x7},(vw ⟨S++X,pt a b i j n k x5 x6 x7⟩)[0]?=some (.fz (PD ak keys row)):=fun{X x5 x6 x7}=>dG rfl (cA (ga ha) (ga hb))
 have v1:∀{X x5 x6 x7},(vw ⟨S++X,pt a b i j n k x5 x6 x7⟩)[1]?=some (.fz (TD ak)):=fun{X x5 x6 x7}=>dG rfl (tP (ga hi))
 have v2:∀{X x5 x6 x7},(vw ⟨S++X,pt a b i j n k x5 x6 x7⟩)[2]?=some (.fz (HD keys row)):=fun{X x5 x6 x7}=>dG rfl (tP (ga hj))
 refine cQ (s':=⟨S++[y0,y1,y2],pt a b i j n k x5 none none⟩) (ja (j8 (ρ:=vw ⟨S++[y0,y1,y2],pt a b i j n k x5 none none⟩) ?_) rfl) ?_
 ·cases ht:ak with
  |nil=>exact zF (gD (ku (nQ (l:=[]) (.inl (by rw[<-ht];exact v1))) cB) rfl)
  |cons t l=>
   have mt:t∈ak:=by rw[ht];exact zas
   have it:mOp gIx (aj 1) (mC (.int 0)) (vw ⟨S++[y0,y1,y2],pt a b i j n k x5 none none⟩)=some ((.str t,.fz),vw ⟨S++[y0,y1,y2],pt a b i j n k x5 none none⟩):=bP (r:=(.int 0,.fz)) (res:=(.str t,false)) (au (aB v1)) (au rfl) (by rw[ht];exact qT _ 0 _ (Mir.Dm _ _))
   exact qz (gD (ku (nQ (l:=ak) (.inl v1)) cB) (zaH (by rw[ht];simp))) (test_ev (k:=.fz) (v:=false) (bP (r:=(.list [.bool true,.bool false,.bool true,.bool false],.fz)) (res:=(.bool false,false)) (dw (dm (rs:=[(.int 0,.fz),(PD ak keys row,.fz),(.str t,.fz)]) (az (au rfl) (az (au (aB v0)) (az (au it) aQ))) (Hb (h.ES (by omega) (h.tk t mt).1) (h.tk t mt).1) rfl)) (dw EO) (ri _ _ _ _)))
 refine cQ (s':=⟨S++[y0,y1,y2,dt (TD (ak++[n])),dt (HD (keys++[n]) R')],pt a b i j n k x5 (some (.tp [.lc (S.length+3),.lc (S.length+4)])) none⟩) (gq (i:=6) (s':=⟨S++[y0,y1,y2,dt (TD (ak++[n])),dt (HD (keys++[n]) R')],pt a b i j n k x5 none none⟩) (jT (X:=[y0,y1,y2]) (xs:=[.tp [.lc a,.lc b],.pl (.str n),.pl (.int k)]) (ds:=[PD ak keys row,.str n,.int k]) (aJ (aO rfl) (aJ (aO rfl) (aJ (aO rfl) dD))) (by simp only[rP,cA (ga ha) (ga hb),ly,Option.bind_some,Option.map_some]) (by rw[EH hm hn (by omega) (by omega),hR']) (j9 _) (ia _ _)) (by simp)) ?_
 refine cQ (s':=⟨S++[y0,y1,y2,dt (TD (ak++[n])),dt (HD (keys++[n]) R'),dt (HD keys row)],pt a b i j n k x5 (some (.tp [.lc (S.length+3),.lc (S.length+4)])) (some (.lc (S.length+5)))⟩) (gq (i:=7) (s':=⟨S++[y0,y1,y2,dt (TD (ak++[n])),dt (HD (keys++[n]) R'),dt (HD keys row)],pt a b i j n k x5 (some (.tp [.lc (S.length+3),.lc (S.length+4)])) none⟩) (oa (X:=[y0,y1,y2,dt (TD (ak++[n])),dt (HD (keys++[n]) R')]) (eE (rs:=[(HD keys row,.fz)]) (res:=(HD keys row,true)) (az (au (aB v2)) aQ) rfl) (ia _ _)) (by simp)) ?_
 refine cQ (s':=⟨S++[y0,y1,y2,dt (TD (ak++[n])),dt (HD (keys++[n]) R'),dt (HD (keys++[n]) R')],pt a b i j n k x5 (some (.tp [.lc (S.length+3),.lc (S.length+4)])) (some (.lc (S.length+5)))⟩) ((ER (j:=5) (r:=⟨k,none,false,[]⟩) (n0 (ds:=[.int k,.none,.bool false,.tuple []]) (aJ (aO rfl) (aJ f6 (aJ f6 (aJ (n0 dD rfl (by simp)) dD)))) rfl (by simp)) (aO rfl) (aO rfl) rfl (by omega)).trans (by rw[gJ hn,<-hR'];rfl)) ?_
 have w0:∀{X:List (Option Cl)} {x5 x6 x7},X[3]?=some (dt (TD (ak++[n])))->X[4]?=some (dt (HD (keys++[n]) R'))->x6=some (.tp [.lc (S.length+3),.lc (S.length+4)])->(vw ⟨S++X,pt a b i j n k x5 x6 x7⟩)[6]?=some (.fz (PD (ak++[n]) (keys++[n]) R')):=fun{X x5 x6 x7} z1 z2 z3=>by
  subst z3;exact dG rfl (cA (apk z1) (apk z2))
 obtain⟨s6,hs6⟩:∃s6:SS,s6=⟨S++[y0,y1,y2,dt (TD (ak++[n])),dt (HD (keys++[n]) R'),dt (HD (keys++[n]) R')],pt a b i j n k x5 (some (.tp [.lc (S.length+3),.lc (S.length+4)])) (some (.lc (S.length+5)))⟩:=⟨_,rfl⟩;have u0:(vw s6)[0]?=some (.fz (PD ak keys row)):=by rw[hs6];exact v0
 have u1:(vw s6)[1]?=some (.fz (TD ak)):=by rw[hs6];exact v1
 have u3:(vw s6)[3]?=some (.fz (.str n)):=by rw[hs6];exact tQ rfl
 have u6:(vw s6)[6]?=some (.fz (PD (ak++[n]) (keys++[n]) R')):=by rw[hs6];exact w0 rfl rfl rfl
 have u7:(vw s6)[7]?=some (.fz (HD (keys++[n]) R')):=by rw[hs6];exact dG rfl (tP (apk (k:=5) rfl))
 have t1:fJ (aL (bg cj (ai (aj 6) (ai (mOp et (aj 1) (eN (ai (aj 3) aG))) (ai (aj 7) aG))))) (vw s6)=some (false,vw s6) :=
  d6 (ef (rs:=[(PD (ak++[n]) (keys++[n]) R',.fz),(TD (ak++[n]),.fz),(HD (keys++[n]) R',.fz)]) (az (au (aB u6)) (az (dw (bP (r:=(.list [.str n],.fz)) (res:=(TD (ak++[n]),true)) (au (aB u1)) (dw (gQ (rs:=[(.str n,.fz)]) (az (au (aB u3)) aQ) rfl (by simp))) (vv (b:=[n]) (by simp;omega)))) (az (au (aB u7)) aQ))) (nW (by rw[hR'];exact Hg R hn) (λt ht=>(zae ht).elim (T t) λz=>by rw[zad z];exact ok))).t
 have t2:aL (mOp gNe (bg bq (ai (aj 6) aG)) (mOp et (bg bq (ai (aj 0) aG)) (mC (.int 1)))) (vw s6)=some (false,vw s6) :=
  gD (wo (iY (rs:=[(PD (ak++[n]) (keys++[n]) R',.fz)]) (az (au (aB u6)) aQ) (jP (by simp;omega))) (kT (iY (rs:=[(PD ak keys row,.fz)]) (az (au (aB u0)) aQ) (jP (by omega))) cB)) (by
   have e:((keys++[n]).filter λn=>(R' n).mark).length=(keys.filter λn=>(row n).mark).length:=by rw[hR'];exact Ky hn
   rw[e,zau];simp;omega)
 refine cQ (s':=s6) (ja (by rw[<-hs6];exact j8 (kS t1 t2)) rfl) ?_
 rw[hs6];refine cQ (s':=⟨S++[y0,y1,y2,dt (.list []),dt (HD (keys++[n]) R'),dt (HD (keys++[n]) R')],pt a b i j n k x5 (some (.tp [.lc (S.length+3),.lc (S.length+4)])) (some (.lc (S.length+5)))⟩) (jQ (Hd (k:=3) (lA (aO rfl) f6 ixp) rfl)) ?_;refine cQ (s':=⟨S++[y0,y1,y2,dt (.list []),dt (.dict []),dt (HD (keys++[n]) R')],pt a b i j n k x5 (some (.tp [.lc (S.length+3),.lc (S.length+4)])) (some (.lc (S.length+5)))⟩) (jQ (xu (k:=4) (lA (aO rfl) f6 Hf) rfl)) ?_;exact nY (Ik (ef (rs:=[(PD ak keys row,.fz),(TD ak,.fz),(HD keys row,.fz)]) (az (au (aB v0)) (az (au (aB v1)) (az (au (aB v2)) aQ))) (nW R T)))
theorem set_same{α:Type}{S:List α}{v : α}(h:S[j]?=some v):S.set j v=S:=by
 refine List.ext_getElem? λi=>?_
 by_cases e:j=i
 ·subst e;rw[zav (lB h),h]
 ·rw[zaA e]
theorem Ay:∀(l pre:List Str) (Z:List (Option Cl)) (x6 x7:Option SV),(∀n∈l,n∉k1++pre)->l.Nodup->(k1++pre++l).length<=1000->Z[j]?=some (dt (HD (k1++pre) (mrg k1 r1 r2)))->
  ∃y6 y7,yz 6 7 j (bQ l r2) ⟨Z,[x0,x1,x2,x3,x4,x5,x6,x7]⟩=some ⟨Z.set j (dt (HD (k1++(pre++l)) (mrg k1 r1 r2))),[x0,x1,x2,x3,x4,x5,y6,y7]⟩
 | [],pre,Z,x6,x7,_,_,_,hj=>⟨x6,x7,by
   rw[zaR];show some _=some _
   congr 2
   exact(set_same hj).symm⟩
 |n::l,pre,Z,x6,x7,hl,nd,sz,hj=>by
  have h2:=hl n zas;have h3:n∉k1:=λz=>h2 (zaW _ z)
  obtain⟨nn,nd2⟩:=List.nodup_cons.mp nd;have lj:=lB hj;obtain⟨y6,y7,e⟩:=Ay (x0:=x0) (x1:=x1) (x2:=x2) (x3:=x3) (x4:=x4) (x5:=x5) l (pre++[n]) (Z.set j (dt (HD (k1++(pre++[n])) (mrg k1 r1 r2)))) (some (.pl (.str n))) (some (.pl (bX (r2 n)))) (λm hm z=>by
   rw[<-zaD]at z;rcases zae z with z|z
   ·exact hl m (zak _ hm) z
   ·rw[zad z]at hm;exact nn hm) nd2 (by simp only[List.length_append,List.length_cons,List.length_nil]at sz⊢;omega) (zav lj)
  refine⟨y6,y7,?_⟩;rw[List.set_set,zaD]at e;simp only[List.cons_append,List.nil_append]at e
  revert e
  generalize some (SS.mk (Z.set j (dt (HD (k1++(pre++n::l)) (mrg k1 r1 r2)))) [x0,x1,x2,x3,x4,x5,y6,y7])=o;intro e;show yz 6 7 j ((PyData.str n,bX (r2 n))::bQ l r2) _=o;unfold yz;dsimp only[keyOf,Option.bind_some];rw[hj];dsimp only;rw[if_pos ⟨by rw[jM];simp only[List.length_append,List.length_cons]at sz⊢;omega,by simp,by simp⟩,qW,gJ h2,vy h3,zaD]
  exact e
abbrev pq(a b d e f g h i:Nat)(x4 x5 x6 x7:Option SV):List (Option SV):=[some (.tp [.lc a,.lc b]),some (.tp [.lc d,.lc e]),some (.tp [.lc f,.lc g]),some (.tp [.lc h,.lc i]),x4,x5,x6,x7]
theorem lX(hC:C<=200)(h1:Bk C t1 k1 r1)(h2:Bk C t2 k2 r2)(hd:Dj k1 k2)(hS:kU S.length S=true)(ha:S[a]?=some (dt (TD t1)))(hb:S[b]?=some (dt (HD k1 r1)))(hd1:S[d]?=some (dt (TD t2)))(he:S[e]?=some (dt (HD k2 r2)))(hf:S[f]?=some (dt (TD t1)))(hg:S[g]?=some (dt (HD k1 r1)))(hh:S[h]?=some (dt (TD t2)))(hi:S[i]?=some (dt (HD k2 r2))) :
  dR S [.tp [.lc a,.lc b],.tp [.lc d,.lc e],.tp [.lc f,.lc g],.tp [.lc h,.lc i]]=some (.ok (.pl (.bool true)) S):=by
 have kl1:=h1.kl;have kl2:=h2.kl;have tl1:=h1.tl;have tl2:=h2.tl;have hB:=Kw h1 h2 hd;obtain⟨M,hM⟩:∃M,M=mrg k1 r1 r2:=⟨_,rfl⟩;have ga:∀{x:Nat} {d:D} {Y:List (Option Cl)},S[x]?=some (dt d)->(S++Y)[x]?=some (dt d):=λe=>Aq e
 obtain⟨y6,y7,eu⟩:=Ay (r1:=r1) (r2:=r2) (j:=S.length+2) (x0:=some (.tp [.lc a,.lc b])) (x1:=some (.tp [.lc d,.lc e])) (x2:=some (.tp [.lc f,.lc g])) (x3:=some (.tp [.lc h,.lc i])) (x4:=some (.tp [.lc (S.length+0),.lc (S.length+1)])) (x5:=some (.lc (S.length+2))) k2 [] (S++[dt (TD (t1++t2)),dt (HD (k1++k2) M),dt (HD k1 (mrg k1 r1 r2))]) none none (λn hn=>by rw[zaR];exact hd n hn) h2.nd (by simp;omega) (by rw[zaR];exact apk rfl)
 rw[rj,List.nil_append,<-hM]at eu;refine yP (o:=.rt (.pl (.bool true)) ⟨S++[dt (.list ((t1++t2).map .str++[.str "zz"])),dt (.dict []),dt (HD (k1++k2) M)],pq a b d e f g h i (some (.tp [.lc (S.length+0),.lc (S.length+1)])) (some (.lc (S.length+2))) y6 y7⟩) rfl ?_ (by simp only[retS,blV,if_true,EA hS])
 refine cQ (s':=⟨S++[dt (TD (t1++t2)),dt (HD (k1++k2) M)],pq a b d e f g h i (some (.tp [.lc (S.length+0),.lc (S.length+1)])) none none none⟩) (gq (i:=4) (s':=⟨S++[dt (TD (t1++t2)),dt (HD (k1++k2) M)],pq a b d e f g h i none none none none⟩) (jT (X:=[]) (xs:=[.tp [.lc a,.lc b],.tp [.lc d,.lc e]]) (ds:=[PD t1 k1 r1,PD t2 k2 r2]) (by rw[zaR];exact aJ (aO rfl) (aJ (aO rfl) dD)) (by simp only[rP,cA (ga ha) (ga hb),cA (ga hd1) (ga he),Option.bind_some,Option.map_some]) (by rw[G8 hd h2.nd (by omega) (by omega),hM]) (j9 _) (ia _ _)) (by simp)) ?_
 have v2:∀{X x4 x5 x6 x7},(vw ⟨S++X,pq a b d e f g h i x4 x5 x6 x7⟩)[2]?=some (.fz (PD t1 k1 r1)):=fun{X x4 x5 x6 x7}=>dG rfl (cA (ga hf) (ga hg))
 have v0:∀{X x4 x5 x6 x7},(vw ⟨S++X,pq a b d e f g h i x4 x5 x6 x7⟩)[0]?=some (.fz (PD t1 k1 r1)):=fun{X x4 x5 x6 x7}=>dG rfl (cA (ga ha) (ga hb))
 have v1:∀{X x4 x5 x6 x7},(vw ⟨S++X,pq a b d e f g h i x4 x5 x6 x7⟩)[1]?=some (.fz (PD t2 k2 r2)):=fun{X x4 x5 x6 x7}=>dG rfl (cA (ga hd1) (ga he))
 have v3:∀{X x4 x5 x6 x7},(vw ⟨S++X,pq a b d e f g h i x4 x5 x6 x7⟩)[3]?=some (.fz (PD t2 k2 r2)):=fun{X x4 x5 x6 x7}=>dG rfl (cA (ga hh) (ga hi))
 refine cQ (s':=⟨S++[dt (TD (t1++t2)),dt (HD (k1++k2) M),dt (HD k1 r1)],pq a b d e f g h i (some (.tp [.lc (S.length+0),.lc (S.length+1)])) (some (.lc (S.length+2))) none none⟩) (gq (i:=5) (s':=⟨S++[dt (TD (t1++t2)),dt (HD (k1++k2) M),dt (HD k1 r1)],pq a b d e f g h i (some (.tp [.lc (S.length+0),.lc (S.length+1)])) none none none⟩) (oa (X:=[dt (TD (t1++t2)),dt (HD (k1++k2) M)]) (eE (rs:=[(HD k1 r1,.fz)]) (res:=(HD k1 r1,true)) (az (au (eS v2)) aQ) rfl) (ia _ _)) (by simp)) ?_
 refine cQ (s':=⟨S++[dt (TD (t1++t2)),dt (HD (k1++k2) M),dt (HD (k1++k2) M)],pq a b d e f g h i (some (.tp [.lc (S.length+0),.lc (S.length+1)])) (some (.lc (S.length+2))) y6 y7⟩) ?_ ?_
 ·have li:=lB hi
  have ne : ¬(S.length+2=i\/5=6\/5=7\/6=7):=by omega
  show wW 3 5 6 7 ⟨S++[dt (TD (t1++t2)),dt (HD (k1++k2) M),dt (HD k1 r1)],pq a b d e f g h i (some (.tp [.lc (S.length+0),.lc (S.length+1)])) (some (.lc (S.length+2))) none none⟩=_;rw[yS (r1:=r1) (r2:=r2)];unfold wW;dsimp only[pq,List.getElem?_cons_succ,List.getElem?_cons_zero];rw[if_neg ne,ga hi];dsimp only;rw[<-hM,eu];rfl
 obtain⟨s6,hs6⟩:∃s6:SS,s6=⟨S++[dt (TD (t1++t2)),dt (HD (k1++k2) M),dt (HD (k1++k2) M)],pq a b d e f g h i (some (.tp [.lc (S.length+0),.lc (S.length+1)])) (some (.lc (S.length+2))) y6 y7⟩:=⟨_,rfl⟩;have u0:(vw s6)[0]?=some (.fz (PD t1 k1 r1)):=by rw[hs6];exact v0
 have u1:(vw s6)[1]?=some (.fz (PD t2 k2 r2)):=by rw[hs6];exact v1
 have u2:(vw s6)[2]?=some (.fz (PD t1 k1 r1)):=by rw[hs6];exact v2
 have u3:(vw s6)[3]?=some (.fz (PD t2 k2 r2)):=by rw[hs6];exact v3
 have u4:(vw s6)[4]?=some (.fz (PD (t1++t2) (k1++k2) M)):=by rw[hs6];exact dG rfl (cA (apk (k:=0) rfl) (apk (k:=1) rfl))
 have u5:(vw s6)[5]?=some (.fz (HD (k1++k2) M)):=by rw[hs6];exact dG rfl (tP (apk (k:=2) rfl))
 rw[<-hM]at hB;have q1:fJ (aL (bg cj (ai (aj 4) (ai (mOp et (mOp gIx (aj 2) (mC (.int 0))) (mOp gIx (aj 3) (mC (.int 0)))) (ai (aj 5) aG))))) (vw s6)=some (false,vw s6) :=
  d6 (ef (rs:=[(PD (t1++t2) (k1++k2) M,.fz),(TD (t1++t2),.fz),(HD (k1++k2) M,.fz)]) (az (au (aB u4)) (az (dw (bP (r:=(TD t2,.fz)) (res:=(TD (t1++t2),true)) (au (i9 u2)) (au (i9 u3)) (vv (by omega)))) (az (au (aB u5)) aQ))) (nW hB.rok hB.tok)).t
 refine cQ (s':=s6) (ja (by rw[<-hs6];exact j8 q1) rfl) ?_
 have c1:aL (mOp gNe (bg bq (ai (aj 4) aG)) (mOp et (bg bq (ai (aj 0) aG)) (bg bq (ai (aj 1) aG)))) (vw s6)=some (false,vw s6) :=
  gD (wo (iY (rs:=[(PD (t1++t2) (k1++k2) M,.fz)]) (az (au (aB u4)) aQ) (jP (by simp;omega))) (kT (iY (rs:=[(PD t1 k1 r1,.fz)]) (az (au (aB u0)) aQ) (jP (by omega))) (iY (rs:=[(PD t2 k2 r2,.fz)]) (az (au (aB u1)) aQ) (jP (by omega))))) (by
   have e:((k1++k2).filter λn=>(M n).mark).length=(k1.filter λn=>(r1 n).mark).length+(k2.filter λn=>(r2 n).mark).length:=by rw[hM];exact Kx hd
   rw[e,zau];simp;omega)
 have c2:fJ (aL (bg bZ (ai (aj 4) (ai (aj 5) aG)))) (vw s6)=some (false,vw s6) :=
  d6 (ef (rs:=[(PD (t1++t2) (k1++k2) M,.fz),(HD (k1++k2) M,.fz)]) (az (au (aB u4)) (az (au (aB u5)) aQ)) (oR hB (by rw[zau];omega))).t
 refine cQ (s':=s6) (ja (j8 (kS c1 c2)) rfl) ?_;rw[hs6];refine cQ (s':=⟨S++[dt (.list ((t1++t2).map .str++[.str "zz"])),dt (HD (k1++k2) M),dt (HD (k1++k2) M)],pq a b d e f g h i (some (.tp [.lc (S.length+0),.lc (S.length+1)])) (some (.lc (S.length+2))) y6 y7⟩) (jQ (He (k:=0) (X:=[dt (TD (t1++t2)),dt (HD (k1++k2) M),dt (HD (k1++k2) M)]) (lA (aO rfl) f6 ixp) (aJ f6 dD) rfl rfl (by rw[zal,zau];omega))) ?_
 refine cQ (s':=⟨S++[dt (.list ((t1++t2).map .str++[.str "zz"])),dt (.dict []),dt (HD (k1++k2) M)],pq a b d e f g h i (some (.tp [.lc (S.length+0),.lc (S.length+1)])) (some (.lc (S.length+2))) y6 y7⟩) (jQ (xu (k:=1) (lA (aO rfl) f6 Hf) rfl)) ?_;exact nY (Ik (Dl (u:=true) (ef (rs:=[(PD t1 k1 r1,.fz),(TD t1,.fz),(HD k1 r1,.fz)]) (az (au (aB v0)) (az (au (i9 v2)) (az (au (eS v2)) aQ))) (nW h1.rok h1.tok)) (λ_=>ef (rs:=[(PD t2 k2 r2,.fz),(TD t2,.fz),(HD k2 r2,.fz)]) (az (au (aB v1)) (az (au (i9 v3)) (az (au (eS v3)) aQ))) (nW h2.rok h2.tok)) (λz=>by cases z)))
def cell(ns:List Int)(k:Nat):Int:=ns.getD k 0
theorem Hh(ns:List Int)(k:Nat):cg [.list (ns.map .int),.int k]=some (.int (cell ns k),false):=by
 unfold cg md cell
 by_cases h:k<ns.length
 ·have c:(k:Int)<((ns.map PyData.int).length:Int):=by simp only[List.length_map];omega
  have e:L2.atI ns (k:Int)=some ns[k]:=by rw[Mir.mR,zaC h]
  rw[List.getD_eq_getElem?_getD,zaC h,Option.getD_some]
  walk_at "mir"
 ·have c : ¬(k:Int)<((ns.map PyData.int).length:Int):=by simp only[List.length_map];omega
  rw[List.getD_eq_getElem?_getD,List.getElem?_eq_none (by omega),Option.getD_none]
  walk_at "mir"
theorem tU(f : α->β)(xs:List α)(lo hi st:Option Int):gE (xs.map f) lo hi st=(gE xs lo hi st).map f:=by
 unfold gE;rw[zal,List.map_filterMap]
 congr 1
 funext i
 rw[zao]
theorem xx:∀n:Nat,n<64->(sliceRange (sliceBounds (some 4) (some 64) (some 2) n).1 (sliceBounds (some 4) (some 64) (some 2) n).2.1 (sliceBounds (some 4) (some 64) (some 2) n).2.2).length<=30:=by decide+kernel
theorem xA:∀n:Nat,n<64->(sliceRange (sliceBounds (some 5) (some 64) (some 2) n).1 (sliceBounds (some 5) (some 64) (some 2) n).2.1 (sliceBounds (some 5) (some 64) (some 2) n).2.2).length<=30:=by decide+kernel
theorem LV{y:SV}{c d:D}{v:Bool}(h1:a s=some (.ok (.tp xs) s1))(h2:b s1=some (.ok y s2))(h3:rdV s2.S (.tp xs)=some c)(h4:rdV s2.S y=some d)(h5:g c d=some (.bool v,false)):nOp g a b s=some (.ok (.pl (.bool v)) s2):=by
 unfold nOp;rw[fE h1,fE h2];show((rdV s2.S (.tp xs)).bind λc=>(rdV s2.S y).bind λd=>(g c d).bind λw=>yo w s2)=_
 rw[h3,zai,h4,zai,h5];rfl
theorem rl:kC fD bu ⟨Z,t⟩=some (.ok (.tp [.lc Z.length,.lc (Z.length+1)]) ⟨Z++[dt (.list []),dt (.dict [])],t⟩):=by
 refine jS (xs:=[]) dD (Ks (t':=[]) rfl (nY (jb (xs:=[.lc Z.length,.lc (Z.length+1)]) (aJ Il (aJ ((mD (d:=.dict []) rfl rfl).trans (by dsimp only;rw[zau];rfl)) ?_)) rfl (by simp))) (by simp[blV,yk]))
 show some _=some _
 congr 2
 simp
theorem Az:gR (aC (lZ bu) (aC (nO kE) bu)) ⟨Z,t⟩=some (.ok (.tp [.lc Z.length,.lc (Z.length+1)]) ⟨Z++[dt (.list []),dt (.dict [])],t⟩):=by
 refine jb (xs:=[.lc Z.length,.lc (Z.length+1)]) (aJ Il (aJ ((mD (d:=.dict []) rfl rfl).trans (by dsimp only;rw[zau];rfl)) ?_)) rfl (by simp)
 show some _=some _
 congr 2
 simp
theorem LX(h:a s=some (.ok (.lc k) s1))(h0:s1.S[k]?=some (some (.lst ys0)))(h1:m s1=some (.ok [.tp xs] s2))(h2:s2.S[k]?=some (some (.lst ys)))(h3:ys.length<=100000):uH a m s=some (.ok (.pl .none) ⟨s2.S.set k (some (.lst (ys++[.tp xs]))),s2.t⟩):=by
 unfold uH zR;rw[fE h];simp only[qH,h0,if_true];rw[fE h1];simp only[DI,h2,bR (wm h3)]
theorem gP0:GA (.tuple [.list [],.dict []]) (.tuple [.list [],.dict []])=some (.bool false,false)/\GB (.tuple [.list [],.dict []]) (.tuple [.list [],.dict []])=some (.bool true,false):=by
 have h:nK (.tuple [.list [],.dict []]):=⟨by show SeqAt.shaped _=true;decide,λe he=>by cases he⟩
 exact⟨bR ⟨rfl,h⟩,bR ⟨rfl,h⟩⟩
theorem LY(h1:∀n∈K1,∃i,i<100/\n=aK i)(h2:Lo 100 K2):Dj K1 K2/\Dj K2 K1:=by
 have key:∀n,n∈K1->n∈K2->False:=λn a b=>by
  obtain⟨i,hi,e1⟩:=h1 n a;obtain⟨j,hj,hj2,e2⟩:=h2 n b;exact lr j (by omega) i (by omega) (e2.symm.trans e1)
 exact⟨λn a b=>key n b a,λn a b=>key n a b⟩
abbrev lt(X:D)(x1 x2 x3 x4 x5 x6 x7 x8 x9 x10 x11 x12 x13:Option SV):List (Option SV):=[some (.pl X),x1,x2,x3,x4,x5,x6,x7,x8,x9,x10,x11,x12,x13]
theorem Ip(cs:List Int):dW (.list (cs.map .int)) true=true:=by
 show bV (cs.map .int)=true
 induction cs with
 |nil=>rfl
 |cons c cs ih=>exact ih
theorem ET(ns:List Int)(hl:ns.length<=63){R1 R2:Str->aM.Row}{cs1 cs2:List Int}
  (p1:gE (ns.map PyData.int) (some 4) (some 64) (some 2)=cs1.map .int) (p2:gE (ns.map PyData.int) (some 5) (some 64) (some 2)=cs2.map .int)
  (b1:dq [.list (cs1.map .int),.int 0]=some (TD T1,HD K1 R1)) (b2:dq [.list (cs2.map .int),.int 100]=some (TD T2,HD K2 R2)) {rest:SN} {o:Option kJ}
  (h:rest ⟨[dt (.list (cs1.map .int)),dt (TD T1),dt (HD K1 R1),dt (.list (cs2.map .int)),dt (TD T2),dt (HD K2 R2),dt (TD T1),dt (HD K1 R1),dt (TD T2),dt (HD K2 R2)],lt (.list (ns.map .int)) (some (.tp [.lc 1,.lc 2])) (some (.tp [.lc 4,.lc 5])) (some (.tp [.lc 6,.lc 7])) (some (.tp [.lc 8,.lc 9])) none none none none none none none none none⟩=o) :
  (dk (jJ (jl dq (aC (nO (yh wq (aj 0) (fK (mC (.int 4))) (fK (mC (.int 64))) (fK (mC (.int 2))))) (aC (nLit (.int 0)) bu))) (ngN 1))
  (dk (jJ (jl dq (aC (nO (yh wq (aj 0) (fK (mC (.int 5))) (fK (mC (.int 64))) (fK (mC (.int 2))))) (aC (nLit (.int 100)) bu))) (ngN 2))
  (dk (jJ (gR (aC (nO (mCB sQ (ai (mOp gIx (aj 1) (mC (.int 0))) aG))) (aC (nO (mCB gU (ai (mOp gIx (aj 1) (mC (.int 1))) aG))) bu))) (ngN 3))
  (dk (jJ (gR (aC (nO (mCB sQ (ai (mOp gIx (aj 2) (mC (.int 0))) aG))) (aC (nO (mCB gU (ai (mOp gIx (aj 2) (mC (.int 1))) aG))) bu))) (ngN 4))
  rest)))) ⟨[],lt (.list (ns.map .int)) none none none none none none none none none none none none none⟩=o:=by
 refine cQ (s':=⟨[dt (.list (cs1.map .int)),dt (TD T1),dt (HD K1 R1)],lt (.list (ns.map .int)) (some (.tp [.lc 1,.lc 2])) none none none none none none none none none none none none⟩) (gq (i:=1) (s':=⟨[dt (.list (cs1.map .int)),dt (TD T1),dt (HD K1 R1)],lt (.list (ns.map .int)) none none none none none none none none none none none none none⟩) (jT (S:=[]) (X:=[dt (.list (cs1.map .int))]) (xs:=[.lc 0,.pl (.int 0)]) (ds:=[.list (cs1.map .int),.int 0]) (aJ (oa (S:=[]) (X:=[]) (show yh wq (aj 0) (fK (mC (.int 4))) (fK (mC (.int 64))) (fK (mC (.int 2))) _=some ((.list (cs1.map .int),.new),_)from by rw[<-p1];rfl) (Ip cs1)) (aJ f6 dD)) rfl b1 (j9 _) (ia _ _)) (by simp)) ?_
 refine cQ (s':=⟨[dt (.list (cs1.map .int)),dt (TD T1),dt (HD K1 R1),dt (.list (cs2.map .int)),dt (TD T2),dt (HD K2 R2)],lt (.list (ns.map .int)) (some (.tp [.lc 1,.lc 2])) (some (.tp [.lc 4,.lc 5])) none none none none none none none none none none none⟩) (gq (i:=2) (s':=⟨[dt (.list (cs1.map .int)),dt (TD T1),dt (HD K1 R1),dt (.list (cs2.map .int)),dt (TD T2),dt (HD K2 R2)],lt (.list (ns.map .int)) (some (.tp [.lc 1,.lc 2])) none none none none none none none none none none none none⟩) (jT (S:=[]) (X:=[dt (.list (cs1.map .int)),dt (TD T1),dt (HD K1 R1),dt (.list (cs2.map .int))]) (xs:=[.lc 3,.pl (.int 100)]) (ds:=[.list (cs2.map .int),.int 100]) (aJ (oa (S:=[]) (X:=[dt (.list (cs1.map .int)),dt (TD T1),dt (HD K1 R1)]) (show yh wq (aj 0) (fK (mC (.int 5))) (fK (mC (.int 64))) (fK (mC (.int 2))) _=some ((.list (cs2.map .int),.new),_)from by rw[<-p2];rfl) (Ip cs2)) (aJ f6 dD)) rfl b2 (j9 _) (ia _ _)) (by simp)) ?_
 refine cQ (s':=⟨[dt (.list (cs1.map .int)),dt (TD T1),dt (HD K1 R1),dt (.list (cs2.map .int)),dt (TD T2),dt (HD K2 R2),dt (TD T1),dt (HD K1 R1)],lt (.list (ns.map .int)) (some (.tp [.lc 1,.lc 2])) (some (.tp [.lc 4,.lc 5])) (some (.tp [.lc 6,.lc 7])) none none none none none none none none none none⟩) (gq (i:=3) (s':=⟨[dt (.list (cs1.map .int)),dt (TD T1),dt (HD K1 R1),dt (.list (cs2.map .int)),dt (TD T2),dt (HD K2 R2),dt (TD T1),dt (HD K1 R1)],lt (.list (ns.map .int)) (some (.tp [.lc 1,.lc 2])) (some (.tp [.lc 4,.lc 5])) none none none none none none none none none none none⟩) (jb (xs:=[.lc 6,.lc 7]) (aJ (mD (eE (rs:=[(TD T1,.fz)]) (res:=(TD T1,true)) (az (au (i9 (i:=1) (keys:=K1) (row:=R1) (dG rfl (cA rfl rfl)))) aQ) rfl) (j9 _)) (aJ (mD (eE (rs:=[(HD K1 R1,.fz)]) (res:=(HD K1 R1,true)) (az (au (eS (i:=1) (ak:=T1) (dG rfl (cA rfl rfl)))) aQ) rfl) (ia _ _)) dD)) rfl (by simp)) (by simp)) ?_
 refine cQ (s':=⟨[dt (.list (cs1.map .int)),dt (TD T1),dt (HD K1 R1),dt (.list (cs2.map .int)),dt (TD T2),dt (HD K2 R2),dt (TD T1),dt (HD K1 R1),dt (TD T2),dt (HD K2 R2)],lt (.list (ns.map .int)) (some (.tp [.lc 1,.lc 2])) (some (.tp [.lc 4,.lc 5])) (some (.tp [.lc 6,.lc 7])) (some (.tp [.lc 8,.lc 9])) none none none none none none none none none⟩) (gq (i:=4) (s':=⟨[dt (.list (cs1.map .int)),dt (TD T1),dt (HD K1 R1),dt (.list (cs2.map .int)),dt (TD T2),dt (HD K2 R2),dt (TD T1),dt (HD K1 R1),dt (TD T2),dt (HD K2 R2)],lt (.list (ns.map .int)) (some (.tp [.lc 1,.lc 2])) (some (.tp [.lc 4,.lc 5])) (some (.tp [.lc 6,.lc 7])) none none none none none none none none none none⟩) (jb (xs:=[.lc 8,.lc 9]) (aJ (mD (eE (rs:=[(TD T2,.fz)]) (res:=(TD T2,true)) (az (au (i9 (i:=2) (keys:=K2) (row:=R2) (dG rfl (cA rfl rfl)))) aQ) rfl) (j9 _)) (aJ (mD (eE (rs:=[(HD K2 R2,.fz)]) (res:=(HD K2 R2,true)) (az (au (eS (i:=2) (ak:=T2) (dG rfl (cA rfl rfl)))) aQ) rfl) (ia _ _)) dD)) rfl (by simp)) (by simp)) h
abbrev E0:Option Cl:=dt (.list [])
abbrev E1:Option Cl:=dt (.dict [])
abbrev P3:List SV:=[.tp [.tp [.lc 6,.lc 7],.tp [.lc 8,.lc 9],.tp [.lc 1,.lc 2],.tp [.lc 4,.lc 5]],.tp [.tp [.lc 8,.lc 9],.tp [.lc 6,.lc 7],.tp [.lc 4,.lc 5],.tp [.lc 1,.lc 2]],.tp [.tp [.lc 6,.lc 7],.tp [.lc 16,.lc 17],.tp [.lc 1,.lc 2],.tp [.lc 18,.lc 19]]]
abbrev P4:List SV:=[.tp [.tp [.lc 6,.lc 7],.tp [.lc 8,.lc 9],.tp [.lc 1,.lc 2],.tp [.lc 4,.lc 5]],.tp [.tp [.lc 8,.lc 9],.tp [.lc 6,.lc 7],.tp [.lc 4,.lc 5],.tp [.lc 1,.lc 2]],.tp [.tp [.lc 6,.lc 7],.tp [.lc 16,.lc 17],.tp [.lc 1,.lc 2],.tp [.lc 18,.lc 19]],.tp [.tp [.lc 21,.lc 22],.tp [.lc 6,.lc 7],.tp [.lc 23,.lc 24],.tp [.lc 1,.lc 2]]]
abbrev Y(ns cs1 cs2:List Int)(T1 K1:List Str)(R1:Str->aM.Row)(T2 K2:List Str)(R2:Str->aM.Row)(l:List (Option Cl))(t:List (Option SV)):SS:=⟨dt (.list (cs1.map .int))::dt (TD T1)::dt (HD K1 R1)::dt (.list (cs2.map .int))::dt (TD T2)::dt (HD K2 R2)::dt (TD T1)::dt (HD K1 R1)::dt (TD T2)::dt (HD K2 R2)::l,some (.pl (.list (ns.map .int)))::some (.tp [.lc 1,.lc 2])::some (.tp [.lc 4,.lc 5])::some (.tp [.lc 6,.lc 7])::some (.tp [.lc 8,.lc 9])::t⟩
def Tl(b:SN)(s:SS):Prop:=∃r,b s=some (.rt (.pl (.bool true)) r)
theorem jc(h:a s=some (.nx s'))(h2:Tl b s'):Tl (dk a b) s:=by
 obtain⟨r,hr⟩:=h2;exact⟨r,cQ h hr⟩
theorem LZ{a b c:SN}(h:a s=c s')(h2:Tl c s'):Tl (dk a b) s:=by
 obtain⟨r,hr⟩:=h2;exact⟨r,GS (h.trans hr)⟩
theorem EU(ns:List Int)(hl:ns.length<=63)(hb:∀k∈ns,Builtin.Int.intBits k<=1048576):Ih [.list (ns.map .int)]=some (.bool true,false):=by
 obtain⟨cs1,p1,l1⟩:∃cs1:List Int,gE (ns.map PyData.int) (some 4) (some 64) (some 2)=cs1.map .int/\cs1.length<=30:=⟨_,tU _ _ _ _ _,zaX (List.length_filterMap_le _ _) (xx _ (by omega))⟩
 obtain⟨cs2,p2,l2⟩:∃cs2:List Int,gE (ns.map PyData.int) (some 5) (some 64) (some 2)=cs2.map .int/\cs2.length<=30:=⟨_,tU _ _ _ _ _,zaX (List.length_filterMap_le _ _) (xA _ (by omega))⟩
 obtain⟨T1,K1,R1,b1,hB1,_,_⟩:=xn 0 cs1 (by omega)
 obtain⟨T2,K2,R2,b2,hB2,_,hO⟩:=xn 100 cs2 (by omega)
 have hN1:∀n∈K1,∃i,i<100/\n=aK i:=λn hn=>by
  obtain⟨i,hi,e⟩:=hB1.nm n hn;exact⟨i,by omega,e⟩
 obtain⟨dj,dj'⟩:=LY hN1 hO;have hB1:Bk 130 T1 K1 R1:=hB1.more (by omega)
 have hB2:Bk 130 T2 K2 R2:=hB2.more (by omega)
 have kl1:=hB1.kl;have kl2:=hB2.kl;have tl1:=hB1.tl;have tl2:=hB2.tl;have R0:Str->aM.Row:=λ_=>⟨0,none,false,[]⟩
 have hB0:Bk 130 [] [] R0:=Bt.Ij _ _;have ca:∀k:Nat,cg [.list (ns.map .int),.int (k:Int)]=some (.int (cell ns k),false):=Hh ns;obtain⟨v,hv⟩:=key_is (cell ns 1);obtain⟨q,hq,q1,q2⟩:∃q:Nat,(q:Int)=200+cell ns 0%100/\200<=q/\q<300:=⟨(200+cell ns 0%100).toNat,by omega,by omega,by omega⟩
 have hq1:aK q∉K1:=λz=>by
  obtain⟨i,hi,e⟩:=hN1 _ z;exact lr q q2 i (by omega) e
 obtain⟨RA,hRA⟩:∃RA,RA=aV R0 "aa" ⟨0,none,false,[]⟩:=⟨_,rfl⟩;have body:∃s':SS,Ah ⟨[],lt (.list (ns.map .int)) none none none none none none none none none none none none none⟩=some (.rt (.pl (.bool true)) s'):=by
  suffices H:Tl _ _ by
   obtain⟨r,hr⟩:=H;exact⟨r,ET ns hl p1 p2 b1 b2 hr⟩
  have ce:∀{s:SS} {k:Nat},(vw s)[0]?=some (.fz (.list (ns.map .int)))->IE (bg cg (ai (aj 0) (ai (mC (.int (k:Int))) aG))) (vw s) (cell ns k):=fun{s k} h0=>iY (rs:=[(.list (ns.map .int),.fz),(.int (k:Int),.fz)]) (az (au (aB h0)) (az (au rfl) aQ)) (ca k)
  refine jc (s':=(Y ns cs1 cs2 T1 K1 R1 T2 K2 R2 [] [some (.pl (.int v)),none,none,none,none,none,none,none,none])) (gq (i:=5) (s':=(Y ns cs1 cs2 T1 K1 R1 T2 K2 R2 [] [none,none,none,none,none,none,none,none,none])) (LQ (iY (rs:=[(.int (cell ns 1),.fz)]) (l8 (ce (k:=1) (tQ rfl)) aQ) hv)) (by simp)) ?_
  refine jc (s':=(Y ns cs1 cs2 T1 K1 R1 T2 K2 R2 [E0,E1] [some (.pl (.int v)),some (.tp [.lc 10,.lc 11]),none,none,none,none,none,none,none])) (gq (i:=6) (s':=(Y ns cs1 cs2 T1 K1 R1 T2 K2 R2 [E0,E1] [some (.pl (.int v)),none,none,none,none,none,none,none,none])) rl (by simp)) ?_
  refine jc (s':=(Y ns cs1 cs2 T1 K1 R1 T2 K2 R2 [dt (.list [.str "aa"]),dt (.dict [])] [some (.pl (.int v)),some (.tp [.lc 10,.lc 11]),none,none,none,none,none,none,none])) (jQ (Ar (k:=10) (ds0:=[]) (ds:=[]) (d:=.str "aa") (lA (aO rfl) f6 ixp) rfl (aJ f6 dD) rfl (by simp))) ?_
  refine jc (s':=(Y ns cs1 cs2 T1 K1 R1 T2 K2 R2 [dt (.list [.str "aa"]),dt (HD ["aa"] RA)] [some (.pl (.int v)),some (.tp [.lc 10,.lc 11]),none,none,none,none,none,none,none])) ((As (j:=11) (keys:=[]) (row:=R0) (n:="aa") (r:=⟨0,none,false,[]⟩) (n0 (ds:=[.int 0,.none,.bool false,.tuple []]) (aJ f6 (aJ f6 (aJ f6 (aJ (n0 dD rfl (Nat.zero_le _)) dD)))) rfl (by simp)) (lA (aO rfl) f6 Hf) f6 rfl (Nat.zero_le _)).trans (by rw[gJ (keys:=[]) (n:="aa") (λz=>by cases z),<-hRA];rfl)) ?_
  refine jc (s':=(Y ns cs1 cs2 T1 K1 R1 T2 K2 R2 [dt (.list [.str "aa"]),dt (HD ["aa"] RA),E0,E1,E0,E1] [some (.pl (.int v)),some (.tp [.lc 10,.lc 11]),none,none,none,none,none,none,none])) (ja (jR (LV (c:=.tuple [.list [],.dict []]) (d:=.tuple [.list [],.dict []]) rl Az rfl rfl gP0.1)) rfl) ?_;have nm:nO (bg c8 (ai (mOp et (mC (.int 200)) (mOp d5 (bg cg (ai (aj 0) (ai (mC (.int 0)) aG))) (mC (.int 100)))) aG)) (Y ns cs1 cs2 T1 K1 R1 T2 K2 R2 [dt (.list [.str "aa"]),dt (HD ["aa"] RA),E0,E1,E0,E1] [some (.pl (.int v)),some (.tp [.lc 10,.lc 11]),none,none,none,none,none,none,none])=some (.ok (.pl (.str (aK q))) (Y ns cs1 cs2 T1 K1 R1 T2 K2 R2 [dt (.list [.str "aa"]),dt (HD ["aa"] RA),E0,E1,E0,E1] [some (.pl (.int v)),some (.tp [.lc 10,.lc 11]),none,none,none,none,none,none,none])):=xr (dm (rs:=[(.int (q:Int),.fz)]) (l8 (IE.is (kT cB (ft (ce (k:=0) (tQ rfl)) cB (by decide))) hq.symm) aQ) (Ak q) rfl) rfl
  refine jc (s':=(Y ns cs1 cs2 T1 K1 R1 T2 K2 R2 [dt (.list [.str "aa"]),dt (HD ["aa"] RA),E0,E1,E0,E1] [some (.pl (.int v)),some (.tp [.lc 10,.lc 11]),none,none,none,none,none,none,none])) (ja (nZ (b:=true) (jR (jS (aJ (aO rfl) (aJ (lA (aO rfl) f6 ixp) (aJ (lA (aO rfl) f6 Hf) (aJ nm (aJ (aO rfl) dD))))) (xw hB1 (by omega) rfl rfl rfl rfl rfl (pA q2) (xh q) hq1 v)))) rfl) ?_
  refine jc (s':=(Y ns cs1 cs2 T1 K1 R1 T2 K2 R2 [dt (.list [.str "aa"]),dt (HD ["aa"] RA),E0,E1,E0,E1] [some (.pl (.int v)),some (.tp [.lc 10,.lc 11]),none,none,none,none,none,none,none])) (ja (j8 (kS (d6 (ef (rs:=[(PD T1 K1 R1,.fz),(HD K1 R1,.fz)]) (az (au (aB (i:=3) (dG rfl (cA rfl rfl)))) (az (au (eS (i:=1) (ak:=T1) (dG rfl (cA rfl rfl)))) aQ)) (oR hB1 (by omega))).t) (d6 (ef (rs:=[(PD T2 K2 R2,.fz),(HD K2 R2,.fz)]) (az (au (aB (i:=4) (dG rfl (cA rfl rfl)))) (az (au (eS (i:=2) (ak:=T2) (dG rfl (cA rfl rfl)))) aQ)) (oR hB2 (by omega))).t))) rfl) ?_
  refine jc (s':=(Y ns cs1 cs2 T1 K1 R1 T2 K2 R2 [dt (.list [.str "aa"]),dt (HD ["aa"] RA),E0,E1,E0,E1,E0,E1,E0,E1,some (.lst P3)] [some (.pl (.int v)),some (.tp [.lc 10,.lc 11]),some (.lc 20),none,none,none,none,none,none])) (gq (i:=7) (s':=(Y ns cs1 cs2 T1 K1 R1 T2 K2 R2 [dt (.list [.str "aa"]),dt (HD ["aa"] RA),E0,E1,E0,E1,E0,E1,E0,E1,some (.lst P3)] [some (.pl (.int v)),some (.tp [.lc 10,.lc 11]),none,none,none,none,none,none,none])) (vz (S:=[]) (X:=(Y ns cs1 cs2 T1 K1 R1 T2 K2 R2 [dt (.list [.str "aa"]),dt (HD ["aa"] RA),E0,E1,E0,E1,E0,E1,E0,E1] []).S) (aJ (jb (xs:=[.tp [.lc 6,.lc 7],.tp [.lc 8,.lc 9],.tp [.lc 1,.lc 2],.tp [.lc 4,.lc 5]]) (aJ (aO rfl) (aJ (aO rfl) (aJ (aO rfl) (aJ (aO rfl) dD)))) rfl (by simp)) (aJ (jb (xs:=[.tp [.lc 8,.lc 9],.tp [.lc 6,.lc 7],.tp [.lc 4,.lc 5],.tp [.lc 1,.lc 2]]) (aJ (aO rfl) (aJ (aO rfl) (aJ (aO rfl) (aJ (aO rfl) dD)))) rfl (by simp)) (aJ (jb (xs:=[.tp [.lc 6,.lc 7],.tp [.lc 16,.lc 17],.tp [.lc 1,.lc 2],.tp [.lc 18,.lc 19]]) (aJ (aO rfl) (aJ rl (aJ (aO rfl) (aJ Az dD)))) rfl (by simp)) dD))) (by simp)) (by simp)) ?_
  refine jc (s':=(Y ns cs1 cs2 T1 K1 R1 T2 K2 R2 [dt (.list [.str "aa"]),dt (HD ["aa"] RA),E0,E1,E0,E1,E0,E1,E0,E1,some (.lst P4),E0,E1,E0,E1] [some (.pl (.int v)),some (.tp [.lc 10,.lc 11]),some (.lc 20),none,none,none,none,none,none])) (jQ (LX (s2:=(Y ns cs1 cs2 T1 K1 R1 T2 K2 R2 [dt (.list [.str "aa"]),dt (HD ["aa"] RA),E0,E1,E0,E1,E0,E1,E0,E1,some (.lst P3),E0,E1,E0,E1] [some (.pl (.int v)),some (.tp [.lc 10,.lc 11]),some (.lc 20),none,none,none,none,none,none])) (k:=20) (ys:=P3) (ys0:=P3) (aO rfl) rfl (aJ (jb (xs:=[.tp [.lc 21,.lc 22],.tp [.lc 6,.lc 7],.tp [.lc 23,.lc 24],.tp [.lc 1,.lc 2]]) (aJ rl (aJ (aO rfl) (aJ Az (aJ (aO rfl) dD)))) rfl (by simp)) dD) rfl (show(3:Nat)<=100000 by decide))) ?_
  refine jc (s':=(Y ns cs1 cs2 T1 K1 R1 T2 K2 R2 [dt (.list [.str "aa"]),dt (HD ["aa"] RA),E0,E1,E0,E1,E0,E1,E0,E1,some (.lst P4),E0,E1,E0,E1] [some (.pl (.int v)),some (.tp [.lc 10,.lc 11]),some (.lc 20),some (.tp [.lc 21,.lc 22]),some (.tp [.lc 6,.lc 7]),some (.tp [.lc 23,.lc 24]),some (.tp [.lc 1,.lc 2]),none,none])) (tT (k:=20) (s1:=(Y ns cs1 cs2 T1 K1 R1 T2 K2 R2 [dt (.list [.str "aa"]),dt (HD ["aa"] RA),E0,E1,E0,E1,E0,E1,E0,E1,some (.lst P4),E0,E1,E0,E1] [some (.pl (.int v)),some (.tp [.lc 10,.lc 11]),some (.lc 20),none,none,none,none,none,none])) (aO rfl) rfl (iD (s1:=(Y ns cs1 cs2 T1 K1 R1 T2 K2 R2 [dt (.list [.str "aa"]),dt (HD ["aa"] RA),E0,E1,E0,E1,E0,E1,E0,E1,some (.lst P4),E0,E1,E0,E1] [some (.pl (.int v)),some (.tp [.lc 10,.lc 11]),some (.lc 20),some (.tp [.lc 6,.lc 7]),some (.tp [.lc 8,.lc 9]),some (.tp [.lc 1,.lc 2]),some (.tp [.lc 4,.lc 5]),none,none])) (s2:=(Y ns cs1 cs2 T1 K1 R1 T2 K2 R2 [dt (.list [.str "aa"]),dt (HD ["aa"] RA),E0,E1,E0,E1,E0,E1,E0,E1,some (.lst P4),E0,E1,E0,E1] [some (.pl (.int v)),some (.tp [.lc 10,.lc 11]),some (.lc 20),some (.tp [.lc 6,.lc 7]),some (.tp [.lc 8,.lc 9]),some (.tp [.lc 1,.lc 2]),some (.tp [.lc 4,.lc 5]),none,none])) (s3:=(Y ns cs1 cs2 T1 K1 R1 T2 K2 R2 [dt (.list [.str "aa"]),dt (HD ["aa"] RA),E0,E1,E0,E1,E0,E1,E0,E1,some (.lst P4),E0,E1,E0,E1] [some (.pl (.int v)),some (.tp [.lc 10,.lc 11]),some (.lc 20),some (.tp [.lc 6,.lc 7]),some (.tp [.lc 8,.lc 9]),some (.tp [.lc 1,.lc 2]),some (.tp [.lc 4,.lc 5]),none,none])) rfl rfl (ja (nZ (b:=true) (jR (jS (aJ (aO rfl) (aJ (aO rfl) (aJ (aO rfl) (aJ (aO rfl) dD)))) (lX (C:=130) (by omega) hB1 hB2 dj rfl rfl rfl rfl rfl rfl rfl rfl rfl)))) rfl) (lC (zap _) rfl) (iD (s1:=(Y ns cs1 cs2 T1 K1 R1 T2 K2 R2 [dt (.list [.str "aa"]),dt (HD ["aa"] RA),E0,E1,E0,E1,E0,E1,E0,E1,some (.lst P4),E0,E1,E0,E1] [some (.pl (.int v)),some (.tp [.lc 10,.lc 11]),some (.lc 20),some (.tp [.lc 8,.lc 9]),some (.tp [.lc 6,.lc 7]),some (.tp [.lc 4,.lc 5]),some (.tp [.lc 1,.lc 2]),none,none])) (s2:=(Y ns cs1 cs2 T1 K1 R1 T2 K2 R2 [dt (.list [.str "aa"]),dt (HD ["aa"] RA),E0,E1,E0,E1,E0,E1,E0,E1,some (.lst P4),E0,E1,E0,E1] [some (.pl (.int v)),some (.tp [.lc 10,.lc 11]),some (.lc 20),some (.tp [.lc 8,.lc 9]),some (.tp [.lc 6,.lc 7]),some (.tp [.lc 4,.lc 5]),some (.tp [.lc 1,.lc 2]),none,none])) (s3:=(Y ns cs1 cs2 T1 K1 R1 T2 K2 R2 [dt (.list [.str "aa"]),dt (HD ["aa"] RA),E0,E1,E0,E1,E0,E1,E0,E1,some (.lst P4),E0,E1,E0,E1] [some (.pl (.int v)),some (.tp [.lc 10,.lc 11]),some (.lc 20),some (.tp [.lc 8,.lc 9]),some (.tp [.lc 6,.lc 7]),some (.tp [.lc 4,.lc 5]),some (.tp [.lc 1,.lc 2]),none,none])) rfl rfl (ja (nZ (b:=true) (jR (jS (aJ (aO rfl) (aJ (aO rfl) (aJ (aO rfl) (aJ (aO rfl) dD)))) (lX (C:=130) (by omega) hB2 hB1 dj' rfl rfl rfl rfl rfl rfl rfl rfl rfl)))) rfl) (lC (zap _) rfl) (iD (s1:=(Y ns cs1 cs2 T1 K1 R1 T2 K2 R2 [dt (.list [.str "aa"]),dt (HD ["aa"] RA),E0,E1,E0,E1,E0,E1,E0,E1,some (.lst P4),E0,E1,E0,E1] [some (.pl (.int v)),some (.tp [.lc 10,.lc 11]),some (.lc 20),some (.tp [.lc 6,.lc 7]),some (.tp [.lc 16,.lc 17]),some (.tp [.lc 1,.lc 2]),some (.tp [.lc 18,.lc 19]),none,none])) (s2:=(Y ns cs1 cs2 T1 K1 R1 T2 K2 R2 [dt (.list [.str "aa"]),dt (HD ["aa"] RA),E0,E1,E0,E1,E0,E1,E0,E1,some (.lst P4),E0,E1,E0,E1] [some (.pl (.int v)),some (.tp [.lc 10,.lc 11]),some (.lc 20),some (.tp [.lc 6,.lc 7]),some (.tp [.lc 16,.lc 17]),some (.tp [.lc 1,.lc 2]),some (.tp [.lc 18,.lc 19]),none,none])) (s3:=(Y ns cs1 cs2 T1 K1 R1 T2 K2 R2 [dt (.list [.str "aa"]),dt (HD ["aa"] RA),E0,E1,E0,E1,E0,E1,E0,E1,some (.lst P4),E0,E1,E0,E1] [some (.pl (.int v)),some (.tp [.lc 10,.lc 11]),some (.lc 20),some (.tp [.lc 6,.lc 7]),some (.tp [.lc 16,.lc 17]),some (.tp [.lc 1,.lc 2]),some (.tp [.lc 18,.lc 19]),none,none])) rfl rfl (ja (nZ (b:=true) (jR (jS (aJ (aO rfl) (aJ (aO rfl) (aJ (aO rfl) (aJ (aO rfl) dD)))) (lX (C:=130) (by omega) hB1 hB0 (λn hn=>by cases hn) rfl rfl rfl rfl rfl rfl rfl rfl rfl)))) rfl) (lC (zap _) rfl) (iD (s1:=(Y ns cs1 cs2 T1 K1 R1 T2 K2 R2 [dt (.list [.str "aa"]),dt (HD ["aa"] RA),E0,E1,E0,E1,E0,E1,E0,E1,some (.lst P4),E0,E1,E0,E1] [some (.pl (.int v)),some (.tp [.lc 10,.lc 11]),some (.lc 20),some (.tp [.lc 21,.lc 22]),some (.tp [.lc 6,.lc 7]),some (.tp [.lc 23,.lc 24]),some (.tp [.lc 1,.lc 2]),none,none])) (s2:=(Y ns cs1 cs2 T1 K1 R1 T2 K2 R2 [dt (.list [.str "aa"]),dt (HD ["aa"] RA),E0,E1,E0,E1,E0,E1,E0,E1,some (.lst P4),E0,E1,E0,E1] [some (.pl (.int v)),some (.tp [.lc 10,.lc 11]),some (.lc 20),some (.tp [.lc 21,.lc 22]),some (.tp [.lc 6,.lc 7]),some (.tp [.lc 23,.lc 24]),some (.tp [.lc 1,.lc 2]),none,none])) (s3:=(Y ns cs1 cs2 T1 K1 R1 T2 K2 R2 [dt (.list [.str "aa"]),dt (HD ["aa"] RA),E0,E1,E0,E1,E0,E1,E0,E1,some (.lst P4),E0,E1,E0,E1] [some (.pl (.int v)),some (.tp [.lc 10,.lc 11]),some (.lc 20),some (.tp [.lc 21,.lc 22]),some (.tp [.lc 6,.lc 7]),some (.tp [.lc 23,.lc 24]),some (.tp [.lc 1,.lc 2]),none,none])) rfl rfl (ja (nZ (b:=true) (jR (jS (aJ (aO rfl) (aJ (aO rfl) (aJ (aO rfl) (aJ (aO rfl) dD)))) (lX (C:=130) (by omega) hB0 hB1 (λn _ z=>by cases z) rfl rfl rfl rfl rfl rfl rfl rfl rfl)))) rfl) (lC (zap _) rfl) (tR rfl)))))) ?_
  have v1:(vw (Y ns cs1 cs2 T1 K1 R1 T2 K2 R2 [dt (.list [.str "aa"]),dt (HD ["aa"] RA),E0,E1,E0,E1,E0,E1,E0,E1,some (.lst P4),E0,E1,E0,E1] [some (.pl (.int v)),some (.tp [.lc 10,.lc 11]),some (.lc 20),some (.tp [.lc 21,.lc 22]),some (.tp [.lc 6,.lc 7]),some (.tp [.lc 23,.lc 24]),some (.tp [.lc 1,.lc 2]),none,none]))[1]?=some (.fz (PD T1 K1 R1)):=dG rfl (cA rfl rfl);have v3:(vw (Y ns cs1 cs2 T1 K1 R1 T2 K2 R2 [dt (.list [.str "aa"]),dt (HD ["aa"] RA),E0,E1,E0,E1,E0,E1,E0,E1,some (.lst P4),E0,E1,E0,E1] [some (.pl (.int v)),some (.tp [.lc 10,.lc 11]),some (.lc 20),some (.tp [.lc 21,.lc 22]),some (.tp [.lc 6,.lc 7]),some (.tp [.lc 23,.lc 24]),some (.tp [.lc 1,.lc 2]),none,none]))[3]?=some (.fz (PD T1 K1 R1)):=dG rfl (cA rfl rfl);have v4:(vw (Y ns cs1 cs2 T1 K1 R1 T2 K2 R2 [dt (.list [.str "aa"]),dt (HD ["aa"] RA),E0,E1,E0,E1,E0,E1,E0,E1,some (.lst P4),E0,E1,E0,E1] [some (.pl (.int v)),some (.tp [.lc 10,.lc 11]),some (.lc 20),some (.tp [.lc 21,.lc 22]),some (.tp [.lc 6,.lc 7]),some (.tp [.lc 23,.lc 24]),some (.tp [.lc 1,.lc 2]),none,none]))[4]?=some (.fz (PD T2 K2 R2)):=dG rfl (cA rfl rfl);have eL:IE (mCB k6 (ai (mOp gIx (aj 1) (mC (.int 1))) aG)) (vw (Y ns cs1 cs2 T1 K1 R1 T2 K2 R2 [dt (.list [.str "aa"]),dt (HD ["aa"] RA),E0,E1,E0,E1,E0,E1,E0,E1,some (.lst P4),E0,E1,E0,E1] [some (.pl (.int v)),some (.tp [.lc 10,.lc 11]),some (.lc 20),some (.tp [.lc 21,.lc 22]),some (.tp [.lc 6,.lc 7]),some (.tp [.lc 23,.lc 24]),some (.tp [.lc 1,.lc 2]),none,none])) (K1.length:Int):=eE (rs:=[(HD K1 R1,.fz)]) (res:=(.int (K1.length:Int),false)) (az (au (eS v1)) aQ) (by show some (PyData.int ((bQ K1 R1).length:Int),false)=_;rw[jM])
  by_cases c1 : 0<K1.length/\cell ns 2%3=1
  ·obtain⟨n,hn,en⟩:∃n∈K1,L2.atI (K1.map PyData.str) (cell ns 3%(K1.length:Int))=some (.str n):=by
    have hp:(0:Int)<(K1.length:Int):=by omega
    have m1:=Int.emod_nonneg (cell ns 3) (show(K1.length:Int)≠0 by omega)
    have m2:=Int.emod_lt_of_pos (cell ns 3) hp;obtain⟨j,hj⟩:∃j:Nat,(j:Int)=cell ns 3%(K1.length:Int):=⟨(cell ns 3%(K1.length:Int)).toNat,by omega⟩
    have lj:j<K1.length:=by omega
    refine⟨K1[j],List.getElem_mem lj,?_⟩;rw[<-hj];exact Mir.Dr (by rw[zao,zaC lj];rfl)
   have hn2:n∉K2:=λz=>dj n z hn
   obtain⟨R3,hR3⟩:∃R3,R3=aV R2 n ⟨v,none,false,[]⟩:=⟨_,rfl⟩;have nd3:(K2++[n]).Nodup:=List.nodup_append.mpr ⟨hB2.nd,by simp,λa ha b hb e=>by rw[zad hb]at e;exact hn2 (e▸ha)⟩
   refine LZ (LP (s':=(Y ns cs1 cs2 T1 K1 R1 T2 K2 R2 [dt (.list [.str "aa"]),dt (HD ["aa"] RA),E0,E1,E0,E1,E0,E1,E0,E1,some (.lst P4),E0,E1,E0,E1] [some (.pl (.int v)),some (.tp [.lc 10,.lc 11]),some (.lc 20),some (.tp [.lc 21,.lc 22]),some (.tp [.lc 6,.lc 7]),some (.tp [.lc 23,.lc 24]),some (.tp [.lc 1,.lc 2]),none,none])) (j8 (qz (gD (ku eL cB) (zaH (by omega))) (tEq (ft (ce (k:=2) (tQ rfl)) cB (by decide)) cB c1.2))) rfl) ?_
   refine jc (s':=(Y ns cs1 cs2 T1 K1 R1 T2 K2 R2 [dt (.list [.str "aa"]),dt (HD ["aa"] RA),E0,E1,E0,E1,E0,E1,E0,E1,some (.lst P4),E0,E1,E0,E1] [some (.pl (.int v)),some (.tp [.lc 10,.lc 11]),some (.lc 20),some (.tp [.lc 21,.lc 22]),some (.tp [.lc 6,.lc 7]),some (.tp [.lc 23,.lc 24]),some (.tp [.lc 1,.lc 2]),some (.pl (.str n)),none])) (gq (i:=12) (s':=(Y ns cs1 cs2 T1 K1 R1 T2 K2 R2 [dt (.list [.str "aa"]),dt (HD ["aa"] RA),E0,E1,E0,E1,E0,E1,E0,E1,some (.lst P4),E0,E1,E0,E1] [some (.pl (.int v)),some (.tp [.lc 10,.lc 11]),some (.lc 20),some (.tp [.lc 21,.lc 22]),some (.tp [.lc 6,.lc 7]),some (.tp [.lc 23,.lc 24]),some (.tp [.lc 1,.lc 2]),none,none])) (xr (bP (r:=(.int (cell ns 3%(K1.length:Int)),.fz)) (res:=(.str n,false)) (dw (eE (rs:=[(HD K1 R1,.fz)]) (res:=(TD K1,true)) (az (au (eS v1)) aQ) (by show some (PyData.list ((bQ K1 R1).map (·.1)),true)=_;rw[jN]))) (au (ft (ce (k:=3) (tQ rfl)) eL (by omega))) (qT _ _ _ en)) rfl) (by simp)) ?_
   refine jc (s':=(Y ns cs1 cs2 T1 K1 R1 T2 K2 R2 [dt (.list [.str "aa"]),dt (HD ["aa"] RA),E0,E1,E0,E1,E0,E1,E0,E1,some (.lst P4),E0,E1,E0,E1,dt (TD (T2++[n])),dt (HD (K2++[n]) R3)] [some (.pl (.int v)),some (.tp [.lc 10,.lc 11]),some (.lc 20),some (.tp [.lc 21,.lc 22]),some (.tp [.lc 6,.lc 7]),some (.tp [.lc 23,.lc 24]),some (.tp [.lc 1,.lc 2]),some (.pl (.str n)),some (.tp [.lc 25,.lc 26])])) (gq (i:=13) (s':=(Y ns cs1 cs2 T1 K1 R1 T2 K2 R2 [dt (.list [.str "aa"]),dt (HD ["aa"] RA),E0,E1,E0,E1,E0,E1,E0,E1,some (.lst P4),E0,E1,E0,E1,dt (TD (T2++[n])),dt (HD (K2++[n]) R3)] [some (.pl (.int v)),some (.tp [.lc 10,.lc 11]),some (.lc 20),some (.tp [.lc 21,.lc 22]),some (.tp [.lc 6,.lc 7]),some (.tp [.lc 23,.lc 24]),some (.tp [.lc 1,.lc 2]),some (.pl (.str n)),none])) (jT (S:=[]) (X:=(Y ns cs1 cs2 T1 K1 R1 T2 K2 R2 [dt (.list [.str "aa"]),dt (HD ["aa"] RA),E0,E1,E0,E1,E0,E1,E0,E1,some (.lst P4),E0,E1,E0,E1] []).S) (xs:=[.tp [.lc 8,.lc 9],.pl (.str n),.pl (.int v)]) (ds:=[PD T2 K2 R2,.str n,.int v]) (aJ (aO rfl) (aJ (aO rfl) (aJ (aO rfl) dD))) rfl (by rw[EH (hB1.ES (by omega) hn) hn2 (by omega) (by omega),hR3]) (j9 _) (ia _ _)) (by simp)) ?_
   have w3:(vw (Y ns cs1 cs2 T1 K1 R1 T2 K2 R2 [dt (.list [.str "aa"]),dt (HD ["aa"] RA),E0,E1,E0,E1,E0,E1,E0,E1,some (.lst P4),E0,E1,E0,E1,dt (TD (T2++[n])),dt (HD (K2++[n]) R3)] [some (.pl (.int v)),some (.tp [.lc 10,.lc 11]),some (.lc 20),some (.tp [.lc 21,.lc 22]),some (.tp [.lc 6,.lc 7]),some (.tp [.lc 23,.lc 24]),some (.tp [.lc 1,.lc 2]),some (.pl (.str n)),some (.tp [.lc 25,.lc 26])]))[3]?=some (.fz (PD T1 K1 R1)):=dG rfl (cA rfl rfl);have w13:(vw (Y ns cs1 cs2 T1 K1 R1 T2 K2 R2 [dt (.list [.str "aa"]),dt (HD ["aa"] RA),E0,E1,E0,E1,E0,E1,E0,E1,some (.lst P4),E0,E1,E0,E1,dt (TD (T2++[n])),dt (HD (K2++[n]) R3)] [some (.pl (.int v)),some (.tp [.lc 10,.lc 11]),some (.lc 20),some (.tp [.lc 21,.lc 22]),some (.tp [.lc 6,.lc 7]),some (.tp [.lc 23,.lc 24]),some (.tp [.lc 1,.lc 2]),some (.pl (.str n)),some (.tp [.lc 25,.lc 26])]))[13]?=some (.fz (PD (T2++[n]) (K2++[n]) R3)):=dG rfl (cA rfl rfl);refine jc (s':=(Y ns cs1 cs2 T1 K1 R1 T2 K2 R2 [dt (.list [.str "aa"]),dt (HD ["aa"] RA),E0,E1,E0,E1,E0,E1,E0,E1,some (.lst P4),E0,E1,E0,E1,dt (TD (T2++[n])),dt (HD (K2++[n]) R3)] [some (.pl (.int v)),some (.tp [.lc 10,.lc 11]),some (.lc 20),some (.tp [.lc 21,.lc 22]),some (.tp [.lc 6,.lc 7]),some (.tp [.lc 23,.lc 24]),some (.tp [.lc 1,.lc 2]),some (.pl (.str n)),some (.tp [.lc 25,.lc 26])])) (ja (j8 (test_ev (k:=.fz) (v:=false) (bP (r:=(.list [.bool true,.bool false,.bool true,.bool false],.fz)) (res:=(.bool false,false)) (dw (dm (rs:=[(.int 1,.fz),(PD T1 K1 R1,.fz),(PD (T2++[n]) (K2++[n]) R3,.fz)]) (az (au rfl) (az (au (aB w3)) (az (au (aB w13)) aQ))) (Aw nd3 (by simp;omega) ⟨n,by simp,hn⟩) rfl)) (dw EO) (ri _ _ _ _)))) rfl) ?_
   exact⟨_,nY (xr (bP (r:=(.list [.bool true,.bool false,.bool true,.bool false],.fz)) (res:=(.bool true,false)) (dw (dm (rs:=[(.int 1,.fz),(PD (T2++[n]) (K2++[n]) R3,.fz),(PD T1 K1 R1,.fz)]) (az (au rfl) (az (au (aB w13)) (az (au (aB w3)) aQ))) (Aw hB1.nd (by simp;omega) ⟨n,hn,by simp⟩) rfl)) (dw EO) (xt _ _ _ _)) rfl)⟩
  ·refine jc (s':=(Y ns cs1 cs2 T1 K1 R1 T2 K2 R2 [dt (.list [.str "aa"]),dt (HD ["aa"] RA),E0,E1,E0,E1,E0,E1,E0,E1,some (.lst P4),E0,E1,E0,E1] [some (.pl (.int v)),some (.tp [.lc 10,.lc 11]),some (.lc 20),some (.tp [.lc 21,.lc 22]),some (.tp [.lc 6,.lc 7]),some (.tp [.lc 23,.lc 24]),some (.tp [.lc 1,.lc 2]),none,none])) (ja (j8 (ρ:=vw (Y ns cs1 cs2 T1 K1 R1 T2 K2 R2 [dt (.list [.str "aa"]),dt (HD ["aa"] RA),E0,E1,E0,E1,E0,E1,E0,E1,some (.lst P4),E0,E1,E0,E1] [some (.pl (.int v)),some (.tp [.lc 10,.lc 11]),some (.lc 20),some (.tp [.lc 21,.lc 22]),some (.tp [.lc 6,.lc 7]),some (.tp [.lc 23,.lc 24]),some (.tp [.lc 1,.lc 2]),none,none])) ?_) rfl) ?_
   ·by_cases z : 0<K1.length
    ·exact qz (gD (ku eL cB) (zaH (by omega))) (tNe (ft (ce (k:=2) (tQ rfl)) cB (by decide)) cB λe=>c1 ⟨z,e⟩)
    ·exact zF (gD (ku eL cB) (zaO (by omega)))
   ·exact⟨_,nY (LV (c:=.tuple [.list [],.dict []]) (d:=.tuple [.list [],.dict []]) rl Az rfl rfl gP0.2)⟩
 obtain⟨s',body⟩:=body;show fnO 1 13 Ah [.list (ns.map .int)]=_;unfold fnO;rw[if_pos (show([PyData.list (ns.map .int)]:List D).length=1 from rfl)];show(Ah ⟨[],lt (.list (ns.map .int)) none none none none none none none none none none none none none⟩).bind Lm=_;rw[body];rfl
end K73
set_option maxHeartbeats 4000000
def PySem.W.Fast.tw10691151642220245187:Nat:=0
def PySem.W.Fast.tw8210416412904024891:Nat:=0
def PySem.W.Fast.tw10817061889672829502:Nat:=0
def PySem.W.Fast.tw2259541992212068641:Nat:=0
def PySem.W.Fast.tw3459689700567367926:Nat:=0
def PySem.W.Fast.tw6355622230954707104:Nat:=0
def PySem.W.Fast.tw16687981343449738042:Nat:=0
def PySem.W.Fast.tw15440888793674722161:Nat:=0
def PySem.W.Fast.tw11135558343454313135:Nat:=0
def PySem.W.Fast.tw9577695004380582912:Nat:=0
def PySem.W.Fast.tw3284317929392321838:Nat:=0
namespace K73
open PySem L2 Mir
def top(i:Nat):Stmt:=PySem.Challenge.pw_creditworks_k73_put_and_poured.main.body.getD i (.Pass ⟨0,0,0,0⟩)
abbrev mE:Stmt:=top 20
theorem gK:bL ["_law_tops","_law_held","_law_start","_law_k","_law_j","_law_one","_law_other"] ["_law_tops","_law_held","_law_start"] (aN mE):=⟨rfl,rfl,rfl,by decide+kernel,rfl,by decide+kernel,by decide+kernel⟩
abbrev oS:Stmt:=top 18
theorem cC:bL ["_law_tops","_law_held","_law_name","_law_steps","_law_going","_law_key","_law_above","_law_mark","_law_below","_law_further","_law_marked"] ["_law_tops","_law_held","_law_name"] (aN oS):=⟨rfl,rfl,rfl,by decide+kernel,rfl,by decide+kernel,by decide+kernel⟩
abbrev kc:Stmt:=top 19
theorem rX:bL ["_law_held","_law_one","_law_other"] ["_law_held","_law_one","_law_other"] (aN kc):=⟨rfl,rfl,rfl,by decide+kernel,rfl,by decide+kernel,by decide+kernel⟩
abbrev mF:Stmt:=top 17
theorem dr:bL ["_law_tops","_law_held","_law_name","_law_on","_law_key","_law_above","_law_mark","_law_below"] ["_law_tops","_law_held","_law_name","_law_on"] (aN mF):=⟨rfl,rfl,rfl,by decide+kernel,rfl,by decide+kernel,by decide+kernel⟩
abbrev jn:Stmt:=top 15
theorem fW:bL ["_law_k","_law_letters","_law_name"] ["_law_k"] (aN jn):=⟨rfl,rfl,rfl,by decide+kernel,rfl,by decide+kernel,by decide+kernel⟩
abbrev ke:Stmt:=top 16
theorem rY:bL ["_law_number"] ["_law_number"] (aN ke):=⟨rfl,rfl,rfl,by decide+kernel,rfl,by decide+kernel,by decide+kernel⟩
abbrev lD:Stmt:=top 21
theorem cY:bL ["_law_cells","_law_first","_law_tops","_law_held","_law_k","_law_cell","_law_number","_law_like_here","_law_names","_law_name"] ["_law_cells","_law_first"] (aN lD):=⟨rfl,rfl,rfl,by decide+kernel,rfl,by decide+kernel,by decide+kernel⟩
abbrev oT:Stmt:=top 6
theorem yU:bL [] [] (aN oT):=⟨rfl,rfl,rfl,by decide+kernel,rfl,by decide+kernel,by decide+kernel⟩
abbrev jo:Stmt:=top 14
theorem rm:bL ["_law_script","_law_k"] ["_law_script","_law_k"] (aN jo):=⟨rfl,rfl,rfl,by decide+kernel,rfl,by decide+kernel,by decide+kernel⟩
abbrev oU:Stmt:=top 7
theorem yV:bL ["value"] ["value"] (aN oU):=⟨rfl,rfl,rfl,by decide+kernel,rfl,by decide+kernel,by decide+kernel⟩
abbrev kf:Stmt:=top 10
theorem fF:bL ["pile","name","key","held"] ["pile","name","key"] (aN kf):=⟨rfl,rfl,rfl,by decide+kernel,rfl,by decide+kernel,by decide+kernel⟩
abbrev iE:Stmt:=top 22
theorem pM:bL ["_law_found","_law_due"] ["_law_found","_law_due"] (aN iE):=⟨rfl,rfl,rfl,by decide+kernel,rfl,by decide+kernel,by decide+kernel⟩
abbrev jq:Stmt:=top 23
theorem iF:bL ["_law_found","_law_tops","_law_held","_law_name","_law_entry"] ["_law_found","_law_tops","_law_held"] (aN jq):=⟨rfl,rfl,rfl,by decide+kernel,rfl,by decide+kernel,by decide+kernel⟩
abbrev ib:Stmt:=top 11
theorem dC:bL ["one","other","held","name"] ["one","other"] (aN ib):=⟨rfl,rfl,rfl,by decide+kernel,rfl,by decide+kernel,by decide+kernel⟩
abbrev mG:Stmt:=top 8
theorem xB:bL ["held","name"] ["held","name"] (aN mG):=⟨rfl,rfl,rfl,by decide+kernel,rfl,by decide+kernel,by decide+kernel⟩
abbrev ic:Stmt:=top 12
theorem jr:bL ["pile"] ["pile"] (aN ic):=⟨rfl,rfl,rfl,by decide+kernel,rfl,by decide+kernel,by decide+kernel⟩
abbrev js:Stmt:=top 24
theorem fX:bL ["_law_way","_law_one","_law_other","_law_told","e"] ["_law_way","_law_one","_law_other"] (aN js):=⟨rfl,rfl,rfl,by decide+kernel,rfl,by decide+kernel,by decide+kernel⟩
abbrev jt:Stmt:=top 9
theorem lE:bL ["pile","marked"] ["pile"] (aN jt):=⟨rfl,rfl,rfl,by decide+kernel,rfl,by decide+kernel,by decide+kernel⟩
abbrev gW:Stmt:=top 25
theorem eQ:bL ["_law_pile","_law_tops","_law_held","_law_name","_law_key","_law_thing","_law_found","_law_due"] ["_law_pile","_law_tops","_law_held","_law_name","_law_key"] (aN gW):=⟨rfl,rfl,rfl,by decide+kernel,rfl,by decide+kernel,by decide+kernel⟩
abbrev fY:Stmt:=top 26
theorem iG:bL ["_law_pile","_law_held","_law_found"] ["_law_pile","_law_held"] (aN fY):=⟨rfl,rfl,rfl,by decide+kernel,rfl,by decide+kernel,by decide+kernel⟩
abbrev fv:Stmt:=top 27
theorem cS:bL ["_law_one","_law_other","_law_first","_law_second","_law_found","_law_due","_law_name","_law_entry"] ["_law_one","_law_other","_law_first","_law_second"] (aN fv):=⟨rfl,rfl,rfl,by decide+kernel,rfl,by decide+kernel,by decide+kernel⟩
abbrev AA:Stmt:=top 28
theorem fZ:bL ["_law_script","_law_first","_law_second","_law_one","_law_other","_law_key","_law_bare","_law_pairs","_law_left","_law_right","_law_due_left","_law_due_right","_law_name","_law_both"] ["_law_script"] (aN AA):=⟨rfl,rfl,rfl,by decide+kernel,rfl,by decide+kernel,by decide+kernel⟩
structure CF(K:zag)(mg:Str->Option Value)(b7 bw b8 bO:Addr):Prop where
 qd:PySem.W.excIn K b7 [.type "ValueError",.type "Exception",.type "BaseException",.type "object"] "ValueError.__new__"=true
 ie:mg "Twice"=some (.ref b7)
 rn:PySem.W.excIn K bw [.type "ValueError",.type "Exception",.type "BaseException",.type "object"] "ValueError.__new__"=true
 iH:mg "NoName"=some (.ref bw)
 vA:PySem.W.excIn K b8 [.type "ValueError",.type "Exception",.type "BaseException",.type "object"] "ValueError.__new__"=true
 kg:mg "Empty"=some (.ref b8)
 ju:mg "CreditError"=some (.ref bO)
 EV:uh K bw
 iI:PySem.W.kitOne K (.ref bw) (.ref b8)=some false
 iJ:PySem.W.kitOne K (.ref bw) (.ref b7)=some false
 gX:PySem.W.kitOne K (.ref bw) (.ref bw)=some true
 eW:PySem.W.kitOne K (.ref bw) (.type "ValueError")=some true
 Hi:uh K b7
 jv:PySem.W.kitOne K (.ref b7) (.ref b8)=some false
 jw:PySem.W.kitOne K (.ref b7) (.ref b7)=some true
 iK:PySem.W.kitOne K (.ref b7) (.ref bw)=some false
 fw:PySem.W.kitOne K (.ref b7) (.type "ValueError")=some true
 Hj:uh K b8
 jx:PySem.W.kitOne K (.ref b8) (.ref b8)=some true
 jy:PySem.W.kitOne K (.ref b8) (.ref b7)=some false
 iL:PySem.W.kitOne K (.ref b8) (.ref bw)=some false
 fy:PySem.W.kitOne K (.ref b8) (.type "ValueError")=some true
 h_NoName_CreditError:PySem.W.exmOne K (.ref bw) (.ref bO)=some true
 h_Twice_CreditError:PySem.W.exmOne K (.ref b7) (.ref bO)=some true
 h_Empty_CreditError:PySem.W.exmOne K (.ref b8) (.ref bO)=some true
local macro_rules | `(tactic| walk_at "l") => `(tactic| first | exact Or.inl rfl | exact Or.inr rfl)
section
variable{P:Program}{w:World}{K:zag}{mg:Str->Option Value}{base:Heap}
def gL(mg:Str->Option Value):Prop:=∀x∈(["ValueError","all","bool","dict","enumerate","isinstance","len","list","min","range","str","tuple"]:List Str),mg x=none
variable{b7 bw b8 bO:Addr}
theorem xD(Z:gL mg)(T:Top K mg "_law_like" mE) :Def P w K mg base CX0 1 "_law_like" ["_law_tops","_law_held","_law_start"] (spM j2):=by
 have c9:mg "len"=none:=Z _ (by decide+kernel)
 have vB:mg "range"=none:=Z _ (by decide+kernel)
 refine T.def gK (λvs H Q E h=>eO h) (λ_ _ _ _ _ _ us hl=>match us,hl with| [_,_,_],_=>rfl) λf cdv A outer s H vs Q E hr h=>?_
 have hu:=hr.units;exact⟨_,(aw (jV PassesOwn.never rfl (sC rfl vB (aa (aT (cu (K:=K) rfl) rfl c9 zaE (aa (pv 0) aq)) aq)) (a9 (i:=3) gK.nd rfl (by walk_at "l"))
   (aH (jV PassesOwn.never rfl (sC rfl vB (aa (pv 3) aq)) (a9 (i:=4) gK.nd rfl (by walk_at "l"))
   (aw (bI (i:=5) gK.nd rfl (by walk_at "l") (aS (aE (K:=K) rfl) (pv 0) (bG dZ (bG (dE (K:=K) rfl) (pv 2) (pv 3)) (aT (cu (K:=K) rfl) rfl c9 zaE (aa (pv 0) aq))) (λ_ _=>rfl)))
   (aw (bI (i:=6) gK.nd rfl (by walk_at "l") (aS (aE (K:=K) rfl) (pv 0) (bG dZ (bG (dE (K:=K) rfl) (pv 2) (pv 4)) (aT (cu (K:=K) rfl) rfl c9 zaE (aa (pv 0) aq))) (λ_ _=>rfl)))
   (aH (cP (bD (fO (K:=K) rfl hu) (aT (cu (K:=K) rfl) rfl c9 zaE (aa (aS (aE (K:=K) rfl) (dP (hv1 hu) (pv 1) (pv 5) (λ_ _=>rfl)) av (λ_ _=>rfl)) aq)) (aT (cu (K:=K) rfl) rfl c9 zaE (aa (aS (aE (K:=K) rfl) (dP (hv1 hu) (pv 1) (pv 6) (λ_ _=>rfl)) av (λ_ _=>rfl)) aq)) (bB _))
   (aH (a6 (cU (aa (pv 5) (aa (pv 6) aq)))))
   bf)))))))
   (aH (a6 (cU aq)))),
   gg (n:=3) (k:=4) (a8 (xX (zy (af (cH gB (af ah aA)) aA)) cz
   (xX (zy (af ah aA)) cz
   (a8 (cN (ax b9 ah (ax J_I (ax gA ah ah) (cH gB (af ah aA)))))
   (a8 (cN (ax b9 ah (ax J_I (ax gA ah ah) (cH gB (af ah aA)))))
   (fM (a0 (ax m3 (cH gB (af (ax b9 (ax iB ah ah) ay) aA)) (cH gB (af (ax b9 (ax iB ah ah) ay) aA))))
   (cE (d4 (af ah (af ah aA))))
   cJ)))))
   (cE (d4 aA))) rfl h⟩
theorem yW(Z:gL mg)(T:Top K mg "_law_cut" oS) :Def P w K mg base CX0 1 "_law_cut" ["_law_tops","_law_held","_law_name"] (spJ ip):=by
 have kh:mg "tuple"=none:=Z _ (by decide+kernel)
 refine T.def cC (λvs H Q E h=>zL h) (λ_ _ _ _ _ _ us hl=>match us,hl with| [_,_,_],_=>rfl) λf cdv A outer s H vs Q E hr h=>?_
 have hu:=hr.units;exact⟨_,(aw (bI (i:=3) cC.nd rfl (by walk_at "l") (cU aq))
   (aw (bI (i:=4) cC.nd rfl (by walk_at "l") (iS zk (aS (aE (K:=K) rfl) (dP (hv1 hu) (pv 1) (pv 2) (λ_ _=>rfl)) av (λ_ _=>rfl)) je (bB _)))
   (aw (Cr PassesOwn.never (du (pv 4))
   (aw (tZ (dP (hv1 hu) (pv 1) (pv 2) (λ_ _=>rfl)) (iT rfl (br (a9 (i:=5) cC.nd rfl (by walk_at "l")) (br (a9 (i:=6) cC.nd rfl (by walk_at "l")) (br (a9 (i:=7) cC.nd rfl (by walk_at "l")) (br (a9 (i:=8) cC.nd rfl (by walk_at "l")) iR))))))
   (aw (fh (hv1 hu) (pv 1) (pv 2) (bF (aa (pv 5) (aa je (aa bT (aa (pv 8) aq))))) rfl)
   (aw (eM (mn (K:=K) rfl zaJ zaV zaU ik (pv 0) (aa (pv 2) aq)))
   (aw (eM (mn (K:=K) rfl zaJ zaV zaU ik (pv 3) (aa (bF (aa cT (aa (pv 2) aq))) aq)))
   (aw (tZ (dP (hv1 hu) (pv 1) (pv 6) (λ_ _=>rfl)) (iT rfl (br (a9 (i:=5) cC.nd rfl (by walk_at "l")) (br (a9 (i:=9) cC.nd rfl (by walk_at "l")) (br (a9 (i:=10) cC.nd rfl (by walk_at "l")) (br (a9 (i:=8) cC.nd rfl (by walk_at "l")) iR))))))
   (aw (bI (i:=8) cC.nd rfl (by walk_at "l") (dc (wH (K:=K) rfl) rfl kh za2 (aa (CO (fr:=[("_law_name",2)]) rfl ⟨rfl,rfl,rfl,rfl,rfl,rfl,by decide+kernel⟩ (Fy (K:=K) rfl (pv 8)) (λ_ _ _ _=>(zq (bD (iy (K:=K) rfl hu) (pv 0) (pv 1) (bB _)))) (λ_ _ _ _=>(pv 0))) aq)))
   (aw (fh (hv1 hu) (pv 1) (pv 6) (bF (aa (pv 5) (aa (pv 9) (aa (iS zk (pv 9) je (bB _)) (aa (pv 8) aq))))) rfl)
   (aw (bI (i:=4) cC.nd rfl (by walk_at "l") (pv 10))
   (aH (bI (i:=2) cC.nd rfl (by walk_at "l") (pv 6))))))))))))
   (aH (a6 (pv 3)))))),
   zK (n:=3) (k:=8) (a8 (cN (d4 aA))
   (a8 (cN (ax zC (ax b9 (ax iB ah ah) ay) mi))
   (a8 (C3 (fI ah)
   (a8 (pT (ax iB ah ah) (lK (cq cz (cq cz (cq cz (cq cz lJ))))))
   (a8 (hU (i:=1) (d3 (af ah (af mi (af c7 (af ah aA))))) ah)
   (a8 (iV (ur qv (af ah aA)))
   (a8 (iV (ur qv (af (d3 (af gd (af ah aA))) aA)))
   (a8 (pT (ax iB ah ah) (lK (cq cz (cq cz (cq cz (cq cz lJ))))))
   (a8 (cN (cH Gf (af (Hu (Jo ah) (a0 (ax qr ah ah)) ah) aA)))
   (a8 (hU (i:=1) (d3 (af ah (af ah (af (ax zC ah mi) (af ah aA))))) ah)
   (a8 (cN ah)
   (cN ah))))))))))
   (cE ah)))) rfl h⟩
theorem rZ(Z:gL mg)(T:Top K mg "_law_before" kc) :Def P w K mg base CX0 1 "_law_before" ["_law_held","_law_one","_law_other"] (spM eP):=by
 refine T.def rX (λvs H Q E h=>eO h) (λ_ _ _ _ _ _ us hl=>match us,hl with| [_,_,_],_=>rfl) λf cdv A outer s H vs Q E hr h=>?_
 have hu:=hr.units;exact⟨_,(aH (a6 (iS (JR (K:=K) rfl (Nat.lt_of_le_of_lt (Nat.le_add_right _ _) hu)) (bF (aa (aS (aE (K:=K) rfl) (dP (hv1 hu) (pv 0) (pv 1) (λ_ _=>rfl)) av (λ_ _=>rfl)) (aa (pv 1) aq))) (bF (aa (aS (aE (K:=K) rfl) (dP (hv1 hu) (pv 0) (pv 2) (λ_ _=>rfl)) av (λ_ _=>rfl)) (aa (pv 2) aq))) (bB _)))),
   gg (n:=3) (k:=0) (cE (ax Lw (d3 (af (ax b9 (ax iB ah ah) ay) (af ah aA))) (d3 (af (ax b9 (ax iB ah ah) ay) (af ah aA))))) rfl h⟩
theorem xE(Z:gL mg)(T:Top K mg "_law_hung" mF) :Def P w K mg base CX0 1 "_law_hung" ["_law_tops","_law_held","_law_name","_law_on"] (spJ gj):=by
 refine T.def dr (λvs H Q E h=>zL h) (λ_ _ _ _ _ _ us hl=>match us,hl with| [_,_,_,_],_=>rfl) λf cdv A outer s H vs Q E hr h=>?_
 have hu:=hr.units;exact⟨_,(aw (tZ (dP (hv1 hu) (pv 1) (pv 2) (λ_ _=>rfl)) (iT rfl (br (a9 (i:=4) dr.nd rfl (by walk_at "l")) (br (a9 (i:=5) dr.nd rfl (by walk_at "l")) (br (a9 (i:=6) dr.nd rfl (by walk_at "l")) (br (a9 (i:=7) dr.nd rfl (by walk_at "l")) iR))))))
   (aw (fh (hv1 hu) (pv 1) (pv 2) (bF (aa (pv 4) (aa (pv 3) (aa bT (aa (pv 7) aq))))) rfl)
   (aw (tZ (dP (hv1 hu) (pv 1) (pv 3) (λ_ _=>rfl)) (iT rfl (br (a9 (i:=4) dr.nd rfl (by walk_at "l")) (br (a9 (i:=5) dr.nd rfl (by walk_at "l")) (br (a9 (i:=6) dr.nd rfl (by walk_at "l")) (br (a9 (i:=7) dr.nd rfl (by walk_at "l")) iR))))))
   (aw (fh (hv1 hu) (pv 1) (pv 3) (bF (aa (pv 4) (aa (pv 5) (aa (pv 6) (aa (bG (D8 (K:=K) rfl) (pv 7) (bF (aa (pv 2) aq))) aq))))) rfl)
   (aH (eM (mn (K:=K) rfl zaJ PySem.F.slot_list_remove PySem.F.type_list_remove Ge (pv 0) (aa (pv 2) aq)))))))),
   zK (n:=4) (k:=4) (a8 (pT (ax iB ah ah) (lK (cq cz (cq cz (cq cz (cq cz lJ))))))
   (a8 (hU (i:=1) (d3 (af ah (af ah (af c7 (af ah aA))))) ah)
   (a8 (pT (ax iB ah ah) (lK (cq cz (cq cz (cq cz (cq cz lJ))))))
   (a8 (hU (i:=1) (d3 (af ah (af ah (af ah (af (ax JV ah (d3 (af ah aA))) aA))))) ah)
   (iV (ur DY (af ah aA))))))) rfl h⟩
theorem rq(Z:gL mg)(T:Top K mg "_law_name_by" jn) :Def P w K mg base CX0 1 "_law_name_by" ["_law_k"] (spM c8):=by
 refine T.def fW (λvs H Q E h=>eO h) (λ_ _ _ _ _ _ us hl=>match us,hl with| [_],_=>rfl) λf cdv A outer s H vs Q E hr h=>?_
 have hu:=hr.units;exact⟨_,(aw (bI (i:=1) fW.nd rfl (by walk_at "l") cT)
   (aw (bI (i:=2) fW.nd rfl (by walk_at "l") (bG (dE (K:=K) rfl) (aS (aE (K:=K) rfl) (pv 1) (bG dZ (bG jW (pv 0) av) av) (λ_ _=>rfl)) (aS (aE (K:=K) rfl) (pv 1) (bG dZ (bG jW (pv 0) av) av) (λ_ _=>rfl))))
   (aw (cP (bD (fO (K:=K) rfl hu) (bG dZ (pv 0) av) av (bB _))
   (aH (bI (i:=2) fW.nd rfl (by walk_at "l") (bG (dE (K:=K) rfl) (pv 2) (aS (aE (K:=K) rfl) (cU (aa cT (aa cT (aa cT (aa cT (aa cT (aa cT aq))))))) (bG dZ (bG jW (pv 0) av) av) (λ_ _=>rfl)))))
   bf)
   (aH (a6 (pv 2)))))),
   gg (n:=1) (k:=2) (a8 (cN gd)
   (a8 (cN (ax gA (ax HP ah (ax J_I (ax J_I ah ay) ay)) (ax HP ah (ax J_I (ax J_I ah ay) ay))))
   (a8 (fM (a0 (ax m3 (ax J_I ah ay) ay))
   (cN (ax gA ah (ax b9 (d4 (af gd (af gd (af gd (af gd (af gd (af gd aA))))))) (ax J_I (ax J_I ah ay) ay))))
   cJ)
   (cE ah)))) rfl h⟩
theorem se(Z:gL mg)(T:Top K mg "_law_key_by" ke) :Def P w K mg base CX0 1 "_law_key_by" ["_law_number"] (spM dQ):=by
 refine T.def rY (λvs H Q E h=>eO h) (λ_ _ _ _ _ _ us hl=>match us,hl with| [_],_=>rfl) λf cdv A outer s H vs Q E hr h=>?_
 have hu:=hr.units;exact⟨_,(aw (cP (bD (fO (K:=K) rfl hu) (bG dZ (pv 0) av) av (bB _))
   (aH (a6 (bG xO (bG dZ (bG jW (pv 0) av) av) av)))
   bf)
   (aw (cP (bD (fO (K:=K) rfl hu) (bG dZ (pv 0) av) av (bB _))
   (aH (a6 (bG xO (bG dZ (bG jW (pv 0) av) av) av)))
   bf)
   (aH (a6 (bG xO (bG dZ (bG jW (pv 0) av) (bG (dE (K:=K) rfl) (bG zB av (bG Cu av av)) av)) (bG Cu av av)))))),
   gg (n:=1) (k:=0) (a8 (fM (a0 (ax m3 (ax J_I ah ay) ay))
   (cE (ax Jr (ax J_I (ax J_I ah ay) ay) ay))
   cJ)
   (a8 (fM (a0 (ax m3 (ax J_I ah ay) ay))
   (cE (ax Jr (ax J_I (ax J_I ah ay) ay) ay))
   cJ)
   (cE (ax Jr (ax J_I (ax J_I ah ay) (ax gA (ax Hw ay (ax J_I ay ay)) ay)) (ax J_I ay ay))))) rfl h⟩
theorem sg(Z:gL mg)(T:Top K mg "_law_built" lD)(oV:Def P w K mg base CX0 1 "_law_cut" ["_law_tops","_law_held","_law_name"] (spJ ip))(mH:Def P w K mg base CX0 1 "_law_hung" ["_law_tops","_law_held","_law_name","_law_on"] (spJ gj))(ki:Def P w K mg base CX0 1 "_law_before" ["_law_held","_law_one","_law_other"] (spM eP))(eR:Def P w K mg base CX0 1 "_law_key_by" ["_law_number"] (spM dQ))(dX:Def P w K mg base CX0 1 "_law_name_by" ["_law_k"] (spM c8))(mI:Def P w K mg base CX0 1 "_law_like" ["_law_tops","_law_held","_law_start"] (spM j2)):Def P w K mg base CX0 2 "_law_built" ["_law_cells","_law_first"] (spD dq):=by
 have pC:mg "enumerate"=none:=Z _ (by decide+kernel)
 have c9:mg "len"=none:=Z _ (by decide+kernel)
 have lF:mg "list"=none:=Z _ (by decide+kernel)
 refine T.def cY (λvs H Q E h=>uB h) (λ_ _ _ _ _ _ us hl=>match us,hl with| [_,_],_=>rfl) λf cdv A outer s H vs Q E hr h=>?_
 have hu:=hr.units;exact⟨_,(aw (bI (i:=2) cY.nd rfl (by walk_at "l") (cU aq))
   (aw (bI (i:=3) cY.nd rfl (by walk_at "l") gF)
   (aw (jV PassesOwn.never rfl (Gg rfl pC (aa (pv 0) aq)) (iT rfl (br (a9 (i:=4) cY.nd rfl (by walk_at "l")) (br (a9 (i:=5) cY.nd rfl (by walk_at "l")) iR)))
   (aw (bI (i:=6) cY.nd rfl (by walk_at "l") (bG jW (pv 5) av))
   (aw (bI (i:=7) cY.nd rfl (by walk_at "l") (bb mI (hr.mono (by omega)) (aa (pv 2) (aa (pv 3) (aa (bG dZ (pv 6) av) aq)))))
   (aw (bI (i:=8) cY.nd rfl (by walk_at "l") (dc (o8 rfl) rfl lF PyProof.Rows.boot_list (aa (pv 3) aq)))
   (aH (cP (PW.pt (tY (bD (fO (K:=K) rfl hu) (bG dZ (pv 5) av) av (bB _)) (pQ (bD vQ (aT (cu (K:=K) rfl) rfl c9 zaE (aa (pv 8) aq)) av (bB _)))))
   (aH (eM (bb oV (hr.mono (by omega)) (aa (pv 2) (aa (pv 3) (aa (aS (aE (K:=K) rfl) (pv 8) (bG dZ (pv 6) (aT (cu (K:=K) rfl) rfl c9 zaE (aa (pv 8) aq))) (λ_ _=>rfl)) aq))))))
   (aH (cP (PW.pt (tY (bD vQ (bG dZ (pv 5) av) av (bB _)) (pQ (bD (iy (K:=K) rfl hu) (pv 7) (cU aq) (bB _)))))
   (aw (cP (du (bb ki (hr.mono (by omega)) (aa (pv 3) (aa (aS (aE (K:=K) rfl) (pv 7) av (λ_ _=>rfl)) (aa (aS (aE (K:=K) rfl) (pv 7) av (λ_ _=>rfl)) aq)))))
   (aH (eM (pU (K:=K) rfl zaJ PySem.F.slot_list_reverse PySem.F.type_list_reverse xS (pv 7))))
   bf)
   (aH (eM (bb mH (hr.mono (by omega)) (aa (pv 2) (aa (pv 3) (aa (aS (aE (K:=K) rfl) (pv 7) av (λ_ _=>rfl)) (aa (aS (aE (K:=K) rfl) (pv 7) av (λ_ _=>rfl)) aq))))))))
   (aw (bI (i:=9) cY.nd rfl (by walk_at "l") (bb dX (hr.mono (by omega)) (aa (bG (dE (K:=K) rfl) (pv 1) (pv 4)) aq)))
   (aw (fh (hv1 hu) (pv 3) (pv 9) (bF (aa (bb eR (hr.mono (by omega)) (aa (pv 6) aq)) (aa je (aa bT (aa (bF aq) aq))))) rfl)
   (aH (eM (mn (K:=K) rfl zaJ zaV zaU ik (pv 2) (aa (pv 9) aq))))))))))))))
   (aH (a6 (bF (aa (pv 2) (aa (pv 3) aq)))))))),
   uA (n:=2) (k:=8) (j0 (cN (d4 aA))
   (j0 (cN i3)
   (j0 (xX (Gk (af ah aA)) (lK (cq cz (cq cz lJ)))
   (a8 (cN (ax J_I ah ay))
   (a8 (cN (bc (af ah (af ah (af (ax J_I ah ay) aA)))))
   (a8 (cN (cH zW (af ah aA)))
   (fM (uj (a0 (ax m3 (ax J_I ah ay) ay)) (a0 (ax xY (cH gB (af ah aA)) ay)))
   (iV (wt (i:=2) (j:=3) (af (ax b9 ah (ax J_I ah (cH gB (af ah aA)))) aA)))
   (fM (uj (a0 (ax xY (ax J_I ah ay) ay)) (a0 (ax qr ah (d4 aA))))
   (a8 (fM (fI (bc (af ah (af (ax b9 ah ay) (af (ax b9 ah ay) aA)))))
   (iV (Fu AY))
   cJ)
   (iV (wt (i:=2) (j:=3) (af (ax b9 ah ay) (af (ax b9 ah ay) aA)))))
   (a8 (cN (bc (af (ax gA ah ah) aA)))
   (a8 (hU (i:=3) (d3 (af (bc (af ah aA)) (af mi (af c7 (af (d3 aA) aA))))) ah)
   (iV (ur qv (af ah aA)))))))))))
   (JC (i:=2) (j:=3))))) rfl h⟩
theorem yX(Z:gL mg)(T:Top K mg "no_pile" oT) :Def P w K mg base CX0 1 "no_pile" [] (spQ fD):=by
 refine T.def yU (λvs H Q E h=>uJ h) (λ_ _ _ _ _ _ us hl=>match us,hl with| [],_=>rfl) λf cdv A outer s H vs Q E hr h=>?_
 have hu:=hr.units;exact⟨_,(aH (a6 (bF (aa (cU aq) (aa gF aq))))),
   uI (n:=0) (k:=0) (fu (eV (aF (kW bA) (aF (jI i3) bA)))) rfl h⟩
theorem rA(Z:gL mg)(T:Top K mg "_law_cell_at" jo) :Def P w K mg base CX0 1 "_law_cell_at" ["_law_script","_law_k"] (spM cg):=by
 have c9:mg "len"=none:=Z _ (by decide+kernel)
 refine T.def rm (λvs H Q E h=>eO h) (λ_ _ _ _ _ _ us hl=>match us,hl with| [_,_],_=>rfl) λf cdv A outer s H vs Q E hr h=>?_
 have hu:=hr.units;exact⟨_,(aw (cP (bD Hm (pv 1) (aT (cu (K:=K) rfl) rfl c9 zaE (aa (pv 0) aq)) (bB _))
   (aH (a6 (aS (aE (K:=K) rfl) (pv 0) (pv 1) (λ_ _=>rfl))))
   bf)
   (aH (a6 av))),
   gg (n:=2) (k:=0) (a8 (fM (a0 (ax xY ah (cH gB (af ah aA))))
   (cE (ax b9 ah ah))
   cJ)
   (cE ay)) rfl h⟩
theorem yY(Z:gL mg)(T:Top K mg "is_name" oU) :Def P w K mg base CX0 1 "is_name" ["value"] (spM cw):=by
 have Iq:mg "all"=none:=Z _ (by decide+kernel)
 have c9:mg "len"=none:=Z _ (by decide+kernel)
 have AB:mg "str"=none:=Z _ (by decide+kernel)
 have aY:mg "isinstance"=none:=Z _ (by decide+kernel)
 refine T.def yV (λvs H Q E h=>eO h) (λ_ _ _ _ _ _ us hl=>match us,hl with| [_],_=>rfl) λf cdv A outer s H vs Q E hr h=>?_
 have hu:=hr.units;exact⟨_,(aw (cP (PW.pt (jA (eC (du (aT lT rfl aY zaB (aa (pv 0) (aa (l7 AB PyProof.Rows.boot_str) aq))))) (jA (bD Hm (aT (cu (K:=K) rfl) rfl c9 zaE (aa (pv 0) aq)) av (bB _)) (jU (bD vQ (aT (cu (K:=K) rfl) rfl c9 zaE (aa (pv 0) aq)) av (bB _))))))
   (aH (a6 bT))
   bf)
   (aH (a6 (aT (AZ (K:=K) rfl rfl) rfl Iq PyProof.Rows.boot_all (aa (CO (fr:=[]) rfl ⟨rfl,rfl,rfl,rfl,rfl,rfl,by decide+kernel⟩ (JZ (pv 0)) (λ_ _ _ _=>zp) (λ_ _ _ _=>(Cy Ee Ee cT (pv 0) cT))) aq))))),
   gg (n:=1) (k:=0) (a8 (fM (jE (fq (fI (qa ah))) (jE (a0 (ax xY (cH gB (af ah aA)) ay)) (a0 (ax xY (cH gB (af ah aA)) ay))))
   (cE c7)
   cJ)
   (cE (cH K0 (af (Hu (J4 ah) C2 (C6 HZ HZ gd ah gd (λ_ _ _ _ _ k h=>Bx h k))) aA)))) rfl h⟩
theorem vC(Z:gL mg)(T:Top K mg "pile_put" kf)(cf:CF K mg b7 bw b8 bO)(iu:Def P w K mg base CX0 1 "is_name" ["value"] (spM cw)):Def P w K mg base (CXW P w) 2 "pile_put" ["pile","name","key"] (spX (clM mg) gk):=by
 have eK:mg "dict"=none:=Z _ (by decide+kernel)
 refine T.Jz fF (λvs H Q E h=>uz h) (λ_ _ _ _ _ _ us hl=>match us,hl with| [_,_,_],_=>rfl) λf cdv A outer s H vs Q E hr h=>?_
 have hu:=hr.units;exact⟨_,(aw (cP (eC (du (bb iu (hr.mono (by omega)) (aa (pv 1) aq))))
   (aH (mV rfl rfl cf.iH cf.rn PySem.F.excBase_ValueError (gu fF.kind rfl) (aa cT aq)))
   bf)
   (aw (cP (qh (uL (hv1 hu) (pv 1) (aS (aE (K:=K) rfl) (pv 0) av (λ_ _=>rfl))))
   (aH (mV rfl rfl cf.ie cf.qd PySem.F.excBase_ValueError (gu fF.kind rfl) (aa cT aq)))
   bf)
   (aw (id (bI (i:=3) fF.nd rfl (by walk_at "l") (dc eI rfl eK PyProof.Rows.boot_dict (aa (aS (aE (K:=K) rfl) (pv 0) av (λ_ _=>rfl)) aq))))
   (aw (id (fh (hv1 hu) (pv 3) (pv 1) (bF (aa (pv 2) (aa je (aa bT (aa (bF aq) aq))))) rfl))
   (aH (id (a6 (bF (aa (bG (dE (K:=K) rfl) (aS (aE (K:=K) rfl) (pv 0) av (λ_ _=>rfl)) (cU (aa (pv 1) aq))) (aa (pv 3) aq)))))))))),
   uy (n:=3) (k:=1) (iZ (uw (fq (fI (bc (af ah aA))))
   (oF (c:="NoName") (af gd aA) (λH h=>jh cf.iH▸h))
   (eF cJ))
   (iZ (uw (a0 (ax zV ah (ax b9 ah ay)))
   (oF (c:="Twice") (af gd aA) (λH h=>jh cf.ie▸h))
   (eF cJ))
   (iZ (eF (cN (cH i4 (af (ax b9 ah ay) aA))))
   (iZ (eF (hU (i:=3) (d3 (af ah (af mi (af c7 (af (d3 aA) aA))))) ah))
   (eF (cE (d3 (af (ax gA (ax b9 ah ay) (d4 (af ah aA))) (af ah aA))))))))) rfl h⟩
theorem vD(Z:gL mg)(T:Top K mg "pile_put" kf)(iu:Def P w K mg base CX0 1 "is_name" ["value"] (spM cw)):Def P w K mg base CX0 2 "pile_put" ["pile","name","key"] (spD gm):=by
 have eK:mg "dict"=none:=Z _ (by decide+kernel)
 refine T.def fF (λvs H Q E h=>uB h) (λ_ _ _ _ _ _ us hl=>match us,hl with| [_,_,_],_=>rfl) λf cdv A outer s H vs Q E hr h=>?_
 have hu:=hr.units;exact⟨_,(aw (cP (eC (du (bb iu (hr.mono (by omega)) (aa (pv 1) aq))))
   (aH kL)
   bf)
   (aw (cP (qh (uL (hv1 hu) (pv 1) (aS (aE (K:=K) rfl) (pv 0) av (λ_ _=>rfl))))
   (aH kL)
   bf)
   (aw (bI (i:=3) fF.nd rfl (by walk_at "l") (dc eI rfl eK PyProof.Rows.boot_dict (aa (aS (aE (K:=K) rfl) (pv 0) av (λ_ _=>rfl)) aq)))
   (aw (fh (hv1 hu) (pv 3) (pv 1) (bF (aa (pv 2) (aa je (aa bT (aa (bF aq) aq))))) rfl)
   (aH (a6 (bF (aa (bG (dE (K:=K) rfl) (aS (aE (K:=K) rfl) (pv 0) av (λ_ _=>rfl)) (cU (aa (pv 1) aq))) (aa (pv 3) aq))))))))),
   uA (n:=3) (k:=1) (j0 (fM (fq (fI (bc (af ah aA))))
   kR
   cJ)
   (j0 (fM (a0 (ax zV ah (ax b9 ah ay)))
   kR
   cJ)
   (j0 (cN (cH i4 (af (ax b9 ah ay) aA)))
   (j0 (hU (i:=3) (d3 (af ah (af mi (af c7 (af (d3 aA) aA))))) ah)
   (Ad (j:=3) (ax gA (ax b9 ah ay) (d4 (af ah aA)))))))) rfl h⟩
theorem pN(Z:gL mg)(T:Top K mg "_law_is_entry" iE) :Def P w K mg base CX0 1 "_law_is_entry" ["_law_found","_law_due"] (spM fR):=by
 have yZ:mg "bool"=none:=Z _ (by decide+kernel)
 have aY:mg "isinstance"=none:=Z _ (by decide+kernel)
 have kh:mg "tuple"=none:=Z _ (by decide+kernel)
 have c9:mg "len"=none:=Z _ (by decide+kernel)
 refine T.def pM (λvs H Q E h=>eO h) (λ_ _ _ _ _ _ us hl=>match us,hl with| [_,_],_=>rfl) λf cdv A outer s H vs Q E hr h=>?_
 have hu:=hr.units;exact⟨_,(aw (cP (PW.pt (jA (eC (du (aT jC rfl aY zaB (aa (pv 0) (aa (l7 kh za2) aq))))) (jA (bD (iy (K:=K) rfl hu) (aT (cu (K:=K) rfl) rfl c9 zaE (aa (pv 0) aq)) av (bB _)) (jU (eC (du (aT jC rfl aY zaB (aa (aS (aE (K:=K) rfl) (pv 0) av (λ_ _=>rfl)) (aa (l7 kh za2) aq)))))))))
   (aH (a6 bT))
   bf)
   (aw (cP (PW.pt (jA (du (aT jC rfl aY zaB (aa (aS (aE (K:=K) rfl) (pv 0) av (λ_ _=>rfl)) (aa (l7 yZ PyProof.Rows.boot_bool) aq)))) (jU (eC (du (aT jC rfl aY zaB (aa (aS (aE (K:=K) rfl) (pv 0) av (λ_ _=>rfl)) (aa (l7 yZ PyProof.Rows.boot_bool) aq))))))))
   (aH (a6 bT))
   bf)
   (aH (a6 (iS (fO (K:=K) rfl hu) (pv 0) (pv 1) (bB _)))))),
   gg (n:=2) (k:=0) (a8 (fM (jE (fq (fI (qt ah))) (jE (a0 (ax qr (cH gB (af ah aA)) ay)) (fq (fI (qt (ax b9 ah ay))))))
   (cE c7)
   cJ)
   (a8 (fM (jE (fI (qt (ax b9 ah ay))) (fq (fI (qt (ax b9 ah ay)))))
   (cE c7)
   cJ)
   (cE (ax m3 ah ah)))) rfl h⟩
theorem rB(Z:gL mg)(T:Top K mg "_law_is_pile" jq)(iM:Def P w K mg base CX0 1 "_law_is_entry" ["_law_found","_law_due"] (spM fR)):Def P w K mg base CX0 2 "_law_is_pile" ["_law_found","_law_tops","_law_held"] (spM cj):=by
 have c9:mg "len"=none:=Z _ (by decide+kernel)
 have eK:mg "dict"=none:=Z _ (by decide+kernel)
 have aY:mg "isinstance"=none:=Z _ (by decide+kernel)
 have lF:mg "list"=none:=Z _ (by decide+kernel)
 have kh:mg "tuple"=none:=Z _ (by decide+kernel)
 refine T.def iF (λvs H Q E h=>eO h) (λ_ _ _ _ _ _ us hl=>match us,hl with| [_,_,_],_=>rfl) λf cdv A outer s H vs Q E hr h=>?_
 have hu:=hr.units;exact⟨_,(aw (cP (PW.pt (jA (eC (du (aT lT rfl aY zaB (aa (pv 0) (aa (l7 kh za2) aq))))) (jA (bD (iy (K:=K) rfl hu) (aT (cu (K:=K) rfl) rfl c9 zaE (aa (pv 0) aq)) av (bB _)) (jA (eC (du (aT lT rfl aY zaB (aa (aS (aE (K:=K) rfl) (pv 0) av (λ_ _=>rfl)) (aa (l7 lF PyProof.Rows.boot_list) aq))))) (jU (bD (iy (K:=K) rfl hu) (aS (aE (K:=K) rfl) (pv 0) av (λ_ _=>rfl)) (pv 1) (bB _)))))))
   (aH (a6 bT))
   bf)
   (aw (cP (PW.pt (jA (eC (du (aT lT rfl aY zaB (aa (aS (aE (K:=K) rfl) (pv 0) av (λ_ _=>rfl)) (aa (l7 eK PyProof.Rows.boot_dict) aq))))) (jU (bD (iy (K:=K) rfl hu) (aT lQ rfl c9 zaE (aa (aS (aE (K:=K) rfl) (pv 0) av (λ_ _=>rfl)) aq)) (aT lQ rfl c9 zaE (aa (pv 2) aq)) (bB _)))))
   (aH (a6 bT))
   bf)
   (aw (pZ (jV PassesOwn.never rfl (wK (pv 2)) (iT rfl (br (a9 (i:=3) iF.nd rfl (by walk_at "l")) (br (a9 (i:=4) iF.nd rfl (by walk_at "l")) iR)))
   (aH (cP (PW.pt (jA (qh (Bh (hv1 hu) (pv 3) (aS (aE (K:=K) rfl) (pv 0) av (λ_ _=>rfl)))) (jU (eC (du (bb iM (hr.mono (by omega)) (aa (dP (hv1 hu) (aS (aE (K:=K) rfl) (pv 0) av (λ_ _=>rfl)) (pv 3) (λ_ _=>rfl)) (aa (pv 4) aq))))))))
   (aH (a6 bT))
   bf))))
   (aH (a6 bT))))),
   gg (n:=3) (k:=2) (a8 (fM (jE (fq (fI (qa ah))) (jE (a0 (ax qr (cH gB (af ah aA)) ay)) (jE (fq (fI (qa (ax b9 ah ay)))) (a0 (ax qr (ax b9 ah ay) ah)))))
   (cE c7)
   cJ)
   (a8 (fM (jE (fq (fI (qa (ax b9 ah ay)))) (a0 (ax qr (cH uP (af (ax b9 ah ay) aA)) (cH uP (af ah aA)))))
   (cE c7)
   cJ)
   (a8 (Gi k7 (lK (cq cz (cq cz lJ)))
   (fM (jE (a0 (ax DV ah (ax b9 ah ay))) (fq (fI (bc (af (ax iB (ax b9 ah ay) ah) (af ah aA))))))
   (cE c7)
   cJ))
   (cE c7)))) rfl h⟩
theorem rC(Z:gL mg)(T:Top K mg "pour_piles" ib)(cf:CF K mg b7 bw b8 bO) :Def P w K mg base (CXW P w) 1 "pour_piles" ["one","other"] (spX (clM mg) fT):=by
 have eK:mg "dict"=none:=Z _ (by decide+kernel)
 refine T.Jz dC (λvs H Q E h=>uz h) (λ_ _ _ _ _ _ us hl=>match us,hl with| [_,_],_=>rfl) λf cdv A outer s H vs Q E hr h=>?_
 have hu:=hr.units;exact⟨_,(aw (id (bI (i:=2) dC.nd rfl (by walk_at "l") (dc eI rfl eK PyProof.Rows.boot_dict (aa (aS (aE (K:=K) rfl) (pv 0) av (λ_ _=>rfl)) aq))))
   (aw (Eg (jV PassesOwn.leaving rfl (pY (aS (aE (K:=K) rfl) (pv 1) av (λ_ _=>rfl))) (a9 (i:=3) dC.nd rfl (by walk_at "l"))
   (aw (cP (qh (uL (hv1 hu) (pv 3) (pv 2)))
   (aH (Gv (mV rfl rfl cf.ie cf.qd PySem.F.excBase_ValueError (gu dC.kind rfl) (aa cT aq))))
   bf)
   (aH (id (fh (hv1 hu) (pv 2) (pv 3) (dP (hv1 hu) (aS (aE (K:=K) rfl) (pv 1) av (λ_ _=>rfl)) (pv 3) (λ_ _=>rfl)) rfl))))))
   (aH (id (a6 (bF (aa (bG (dE (K:=K) rfl) (aS (aE (K:=K) rfl) (pv 0) av (λ_ _=>rfl)) (aS (aE (K:=K) rfl) (pv 1) av (λ_ _=>rfl))) (aa (pv 2) aq)))))))),
   uy (n:=2) (k:=2) (iZ (eF (cN (cH i4 (af (ax b9 ah ay) aA))))
   (iZ (Eh (uR (j:=1) k7) cz
   (iZ (uw (a0 (ax zV ah ah))
   (yy (c:="Twice") (λ_ _ _ q=>q) (by decide) (λH h=>jh cf.ie▸h))
   (eF cJ))
   (eF (hU (i:=2) (ax iB (ax b9 ah ay) ah) ah))))
   (eF (cE (d3 (af (ax gA (ax b9 ah ay) (ax b9 ah ay)) (af ah aA))))))) rfl h⟩
theorem rD(Z:gL mg)(T:Top K mg "pour_piles" ib) :Def P w K mg base CX0 1 "pour_piles" ["one","other"] (spD hZ):=by
 have eK:mg "dict"=none:=Z _ (by decide+kernel)
 refine T.def dC (λvs H Q E h=>uB h) (λ_ _ _ _ _ _ us hl=>match us,hl with| [_,_],_=>rfl) λf cdv A outer s H vs Q E hr h=>?_
 have hu:=hr.units;exact⟨_,(aw (bI (i:=2) dC.nd rfl (by walk_at "l") (dc eI rfl eK PyProof.Rows.boot_dict (aa (aS (aE (K:=K) rfl) (pv 0) av (λ_ _=>rfl)) aq)))
   (aw (pZ (jV PassesOwn.never rfl (pY (aS (aE (K:=K) rfl) (pv 1) av (λ_ _=>rfl))) (a9 (i:=3) dC.nd rfl (by walk_at "l"))
   (aw (cP (qh (uL (hv1 hu) (pv 3) (pv 2)))
   (aH kL)
   bf)
   (aH (fh (hv1 hu) (pv 2) (pv 3) (dP (hv1 hu) (aS (aE (K:=K) rfl) (pv 1) av (λ_ _=>rfl)) (pv 3) (λ_ _=>rfl)) rfl)))))
   (aH (a6 (bF (aa (bG (dE (K:=K) rfl) (aS (aE (K:=K) rfl) (pv 0) av (λ_ _=>rfl)) (aS (aE (K:=K) rfl) (pv 1) av (λ_ _=>rfl))) (aa (pv 2) aq))))))),
   uA (n:=2) (k:=2) (j0 (cN (cH i4 (af (ax b9 ah ay) aA)))
   (j0 (Gb (uR (j:=1) k7) cz
   (a8 (fM (a0 (ax zV ah ah))
   kR
   cJ)
   (hU (i:=2) (ax iB (ax b9 ah ay) ah) ah)))
   (Ad (j:=2) (ax gA (ax b9 ah ay) (ax b9 ah ay))))) rfl h⟩
theorem xF(Z:gL mg)(T:Top K mg "standing" mG) :Def P w K mg base CX0 1 "standing" ["held","name"] (spM j3):=by
 refine T.def xB (λvs H Q E h=>eO h) (λ_ _ _ _ _ _ us hl=>match us,hl with| [_,_],_=>rfl) λf cdv A outer s H vs Q E hr h=>?_
 have hu:=hr.units;exact⟨_,(aH (a6 (bF (aa (aS (aE (K:=K) rfl) (dP (hv1 hu) (pv 0) (pv 1) (λ_ _=>rfl)) av (λ_ _=>rfl)) (aa (pv 1) aq))))),
   gg (n:=2) (k:=0) (cE (d3 (af (ax b9 (ax iB ah ah) ay) (af ah aA)))) rfl h⟩
theorem rE(Z:gL mg)(T:Top K mg "least_name" ic)(cf:CF K mg b7 bw b8 bO) :Def P w K mg base (CXW P w) 1 "least_name" ["pile"] (spX (clM mg) fU):=by
 have c9:mg "len"=none:=Z _ (by decide+kernel)
 refine T.Jz jr (λvs H Q E h=>uz h) (λ_ _ _ _ _ _ us hl=>match us,hl with| [_],_=>rfl) λf cdv A outer s H vs Q E hr h=>?_
 have hu:=hr.units;exact⟨_,(aw (cP (bD (fO (K:=K) rfl hu) (aT (cu (K:=K) rfl) rfl c9 zaE (aa (aS (aE (K:=K) rfl) (pv 0) av (λ_ _=>rfl)) aq)) av (bB _))
   (aH (mV rfl rfl cf.kg cf.vA PySem.F.excBase_ValueError (gu jr.kind rfl) (aa cT aq)))
   bf)
   (aH (id kL))),
   uy (n:=1) (k:=0) (iZ (uw (a0 (ax m3 (cH gB (af (ax b9 ah ay) aA)) ay))
   (oF (c:="Empty") (af gd aA) (λH h=>jh cf.kg▸h))
   (eF cJ))
   (eF kR)) rfl h⟩
theorem sj(Z:gL mg)(hK:(gx K).isSome=true)(T:Top K mg "least_name" ic)(mJ:Def P w K mg base CX0 1 "standing" ["held","name"] (spM j3)):Def P w K mg base CX0 4 "least_name" ["pile"] (spM h8):=by
 have c9:mg "len"=none:=Z _ (by decide+kernel)
 have AD:mg "min"=none:=Z _ (by decide+kernel)
 refine T.ML hK rfl (by decide+kernel) jr (λvs H Q E h=>eO h) (λ_ _ _ _ _ _ us hl=>match us,hl with| [_],_=>rfl) λf cdv A outer s H vs Q E hL hr h=>?_
 have hu:=hr.units;exact⟨_,(aw (cP (bD (fO (K:=K) rfl hu) (aT (cu (K:=K) rfl) rfl c9 zaE (aa (aS (aE (K:=K) rfl) (pv 0) av (λ_ _=>rfl)) aq)) av (bB _))
   (aH kL)
   bf)
   (aH (a6 (Gn (k:=1) (fr:=[("pile",0)]) ⟨rfl,rfl,rfl,rfl,rfl,rfl,by decide+kernel⟩ hL (hr.mono (by omega)) rfl AD (aS (aE (K:=K) rfl) (pv 0) av (λ_ _=>rfl)) (λ_ _ _ _=>(bb mJ (hr.lam (by omega) _) (aa (aS (aE (K:=K) rfl) (pv 1) av (λ_ _=>rfl)) (aa (pv 0) aq)))) (λ_ _ _ _ _=>rfl))))),
   gg (n:=1) (k:=0) (a8 (fM (a0 (ax m3 (cH gB (af (ax b9 ah ay) aA)) ay))
   kR
   cJ)
   (cE (Gq (ax b9 ah ay) (bc (af (ax b9 ah ay) (af ah aA)))))) rfl h⟩
theorem rF(Z:gL mg)(T:Top K mg "_law_refused" js)(cf:CF K mg b7 bw b8 bO)(mK:Def P w K mg base (CXW P w) 2 "pile_put" ["pile","name","key"] (spX (clM mg) gk))(kj:Def P w K mg base (CXW P w) 1 "pour_piles" ["one","other"] (spX (clM mg) fT))(kn:Def P w K mg base (CXW P w) 1 "least_name" ["pile"] (spX (clM mg) fU)) :Def P w K mg base CX0 3 "_law_refused" ["_law_way","_law_one","_law_other"] (spM bh):=by
 have aY:mg "isinstance"=none:=Z _ (by decide+kernel)
 have og:mg "ValueError"=none:=Z _ (by decide+kernel)
 refine T.def fX (λvs H Q E h=>eO h) (λ_ _ _ _ _ _ us hl=>match us,hl with| [_,_,_],_=>rfl) λf cdv A outer s H vs Q E hr h=>?_
 have hu:=hr.units;exact⟨_,(aw (bI (i:=3) fX.nd rfl (by walk_at "l") (cU aq))
   (aw (FJ (K:=K) (i:=4) rfl
   (nq (HC rfl (bD (fO (K:=K) rfl hu) (pv 0) av (bB _))
   (nq (uD (uE rfl mK (hr.mono (by omega)) (aa (pv 1) (aa (pv 2) (aa av aq))))))
   (nq (HC rfl (bD (fO (K:=K) rfl hu) (pv 0) av (bB _))
   (nq (uD (uE rfl kj (hr.mono (by omega)) (aa (pv 1) (aa (pv 2) aq)))))
   (nq (uD (uE rfl kn (hr.mono (by omega)) (aa (pv 1) aq))))))))
   rfl rfl rfl cf.ju fX.nd rfl rfl (λcls e oe hoc hok=>
   (aH (bI (i:=3) fX.nd rfl (by walk_at "l") (cU (aa (aT (lM (K:=K) rfl hok hoc) rfl aY zaB (aa (pv 4) (aa (l7 og PyProof.Rows.Boot.«ValueError») aq))) (aa (aT (lM (K:=K) rfl hok hoc) rfl aY zaB (aa (pv 4) (aa (tX (v:=.ref bw) rfl cf.iH rfl) aq))) (aa (aT (lM (K:=K) rfl hok hoc) rfl aY zaB (aa (pv 4) (aa (tX (v:=.ref b7) rfl cf.ie rfl) aq))) (aa (aT (lM (K:=K) rfl hok hoc) rfl aY zaB (aa (pv 4) (aa (tX (v:=.ref b8) rfl cf.kg rfl) aq))) aq)))))))))
   (aH (a6 (pv 3))))),
   gg (n:=3) (k:=2) (a8 (cN (d4 aA))
   (a8 (FL (cl:=clM mg) (Dx (a0 (ax m3 ah ay))
   (qC (qB (af ah (af ah (af ay aA)))))
   (Dx (a0 (ax m3 ah ay))
   (qC (qB (af ah (af ah aA))))
   (qC (qB (af ah aA))))) (fun c s h => by
      unfold bM at h;split at h
      ·rename_i z;subst z;cases h;try rw[jh cf.iH]
       exact⟨_,rfl,cf.EV,cf.h_NoName_CreditError⟩
      ·
       split at h
       ·rename_i z;subst z;cases h;try rw[jh cf.ie]
        exact⟨_,rfl,cf.Hi,cf.h_Twice_CreditError⟩
       ·
        split at h
        ·rename_i z;subst z;cases h;try rw[jh cf.kg]
         exact⟨_,rfl,cf.Hj,cf.h_Empty_CreditError⟩
        ·
         cases h) (λc s h ea=>by
      unfold bM at h;split at h
      ·rename_i z;subst z;cases h;try rw[jh cf.iH]
       (letI iz:Zc:=⟨ea⟩;exact(cN (d4 (af (fg (c:=.ty "ValueError") (cv:=.type "ValueError") (λu h=>h) cf.eW) (af (fg (c:=.ref bw) (cv:=.ref bw) (λu h=>h) cf.gX) (af (fg (c:=.ref b7) (cv:=.ref b7) (λu h=>h) cf.iJ) (af (fg (c:=.ref b8) (cv:=.ref b8) (λu h=>h) cf.iI) aA)))))))
      ·
       split at h
       ·rename_i z;subst z;cases h;try rw[jh cf.ie]
        (letI iz:Zc:=⟨ea⟩;exact(cN (d4 (af (fg (c:=.ty "ValueError") (cv:=.type "ValueError") (λu h=>h) cf.fw) (af (fg (c:=.ref bw) (cv:=.ref bw) (λu h=>h) cf.iK) (af (fg (c:=.ref b7) (cv:=.ref b7) (λu h=>h) cf.jw) (af (fg (c:=.ref b8) (cv:=.ref b8) (λu h=>h) cf.jv) aA)))))))
       ·
        split at h
        ·rename_i z;subst z;cases h;try rw[jh cf.kg]
         (letI iz:Zc:=⟨ea⟩;exact(cN (d4 (af (fg (c:=.ty "ValueError") (cv:=.type "ValueError") (λu h=>h) cf.fy) (af (fg (c:=.ref bw) (cv:=.ref bw) (λu h=>h) cf.iL) (af (fg (c:=.ref b7) (cv:=.ref b7) (λu h=>h) cf.jy) (af (fg (c:=.ref b8) (cv:=.ref b8) (λu h=>h) cf.jx) aA)))))))
        ·
         cases h))
   (cE ah))) rfl h⟩
theorem rG(Z:gL mg)(T:Top K mg "pile_credit" jt) :Def P w K mg base CX0 1 "pile_credit" ["pile"] (spM bq):=by
 have c9:mg "len"=none:=Z _ (by decide+kernel)
 refine T.def lE (λvs H Q E h=>eO h) (λ_ _ _ _ _ _ us hl=>match us,hl with| [_],_=>rfl) λf cdv A outer s H vs Q E hr h=>?_
 have hu:=hr.units;exact⟨_,(aw (pZ (CT (i0:=1) (fr:=[("pile",0)]) rfl lE.nd rfl (by walk_at "l") ⟨rfl,rfl,rfl,rfl,rfl,rfl,by decide+kernel⟩ (pY (aS (aE (K:=K) rfl) (pv 0) av (λ_ _=>rfl))) (λ_ _ _ _=>(zq (du (aS (aE (K:=K) rfl) (dP (hv1 hu) (aS (aE (K:=K) rfl) (pv 1) av (λ_ _=>rfl)) (pv 0) (λ_ _=>rfl)) av (λ_ _=>rfl))))) (λ_ _ _ _=>(pv 0))))
   (aH (a6 (bG (dE (K:=K) rfl) (aT (cu (K:=K) rfl) rfl c9 zaE (aa (aS (aE (K:=K) rfl) (pv 0) av (λ_ _=>rfl)) aq)) (bG zB av (aT (cu (K:=K) rfl) rfl c9 zaE (aa (pv 1) aq))))))),
   gg (n:=1) (k:=1) (a8 (cN (DX (uR (j:=1) k7) (fI (ax b9 (ax iB (ax b9 ah ay) ah) ay)) ah))
   (cE (ax gA (cH gB (af (ax b9 ah ay) aA)) (ax Hw ay (cH gB (af ah aA)))))) rfl h⟩
theorem oW(Z:gL mg)(T:Top K mg "_law_put_right" gW)(cL:Def P w K mg base CX0 2 "_law_is_pile" ["_law_found","_law_tops","_law_held"] (spM cj))(cM:Def P w K mg base CX0 1 "pile_credit" ["pile"] (spM bq))(ck:Def P w K mg base CX0 3 "_law_refused" ["_law_way","_law_one","_law_other"] (spM bh))(fG:Def P w K mg base CX0 2 "pile_put" ["pile","name","key"] (spD gm)):Def P w K mg base CX0 4 "_law_put_right" ["_law_pile","_law_tops","_law_held","_law_name","_law_key"] (spQ fk):=by
 have eK:mg "dict"=none:=Z _ (by decide+kernel)
 have c9:mg "len"=none:=Z _ (by decide+kernel)
 refine T.def eQ (λvs H Q E h=>uJ h) (λ_ _ _ _ _ _ us hl=>match us,hl with| [_,_,_,_,_],_=>rfl) λf cdv A outer s H vs Q E hr h=>?_
 have hu:=hr.units;exact mkBody (gH (Kc (K:=K) rfl PassesOwn.never rfl (LW.c je (LW.c av (LW.c bT (LW.c cT (LW.c cT (LW.c cT (LW.c cT (LW.c cT (LW.t (bF (aa cT aq)) (LW.l (cU (aa cT aq)) (LW.d gF LW.nil))))))))))) (a9 (i:=5) eQ.nd rfl (by walk_at "l")) (aH (cP (bD (iy (K:=K) rfl hu) (bb ck (hr.mono (by omega)) (aa av (aa (pv 0) (aa (pv 5) aq)))) (cU (aa bT (aa bT (aa bT (aa bT aq))))) (bB _))
   (aH (a6 bT))
   bf)))
   (gH (wV (cP (PW.pt (tY (bD vQ (aT (cu (K:=K) rfl) rfl c9 zaE (aa (pv 1) aq)) av (bB _)) (pQ (bD (iy (K:=K) rfl hu) (bb ck (hr.mono (by omega)) (aa av (aa (pv 0) (aa (aS (aE (K:=K) rfl) (pv 1) av (λ_ _=>rfl)) aq)))) (cU (aa bT (aa bT (aa bT (aa bT aq))))) (bB _)))))
   (aH (a6 bT))
   bf))
   (gH (wV (bI (i:=6) eQ.nd rfl (by walk_at "l") (bb fG (hr.mono (by omega)) (aa (pv 0) (aa (pv 3) (aa (pv 4) aq))))))
   (gH (wV (bI (i:=7) eQ.nd rfl (by walk_at "l") (dc eI rfl eK PyProof.Rows.boot_dict (aa (pv 2) aq))))
   (gH (wV (fh (hv1 hu) (pv 7) (pv 3) (bF (aa (pv 4) (aa je (aa bT (aa (bF aq) aq))))) rfl))
   (gH (wV (cP (PW.pt (jA (eC (du (bb cL (hr.mono (by omega)) (aa (pv 6) (aa (bG (dE (K:=K) rfl) (pv 1) (cU (aa (pv 3) aq))) (aa (pv 7) aq)))))) (jU (bD (iy (K:=K) rfl hu) (bb cM (hr.mono (by omega)) (aa (pv 6) aq)) (bG (dE (K:=K) rfl) (bb cM (hr.mono (by omega)) (aa (pv 0) aq)) av) (bB _)))))
   (aH (a6 bT))
   bf))
   (gH (wV (eM (pU (K:=K) rfl zaJ PySem.F.slot_list_clear PySem.F.type_list_clear CL (aS (aE (K:=K) rfl) (pv 6) av (λ_ _=>rfl)))))
   (gH (wV (eM (pU (K:=K) rfl PySem.F.plainAttrs_dict PySem.F.slot_dict_clear PySem.F.type_dict_clear sZ (aS (aE (K:=K) rfl) (pv 6) av (λ_ _=>rfl)))))
   (Gw (wV (a6 (bb cL (hr.mono (by omega)) (aa (pv 0) (aa (pv 1) (aa (pv 2) aq)))))))))))))))
   (uI (n:=5) (k:=3) (bW (zQ (kW (aF (bC λ_=>.non) (aF (bC λ_=>.int _) (aF (bC λ_=>.bl _) (aF (bC λ_=>.str _) (aF (bC λ_=>.str _) (aF (bC λ_=>.str _) (aF (bC λ_=>.str _) (aF (bC λ_=>.str _) (aF (eV (aF (bC λ_=>.str _) bA)) (aF (kW (aF (bC λ_=>.str _) bA)) (aF (jI i3) bA)))))))))))) eg
   (kX (wy (a0 (ax qr (bc (af ay (af ah (af ah aA)))) (d4 (af c7 (af c7 (af c7 (af c7 aA))))))))
   (fu (bC λ_=>.bl _))
   fQ))
   (bW (kX (wy (uj (a0 (ax xY (cH gB (af ah aA)) ay)) (a0 (ax qr (bc (af ay (af ah (af (ax b9 ah ay) aA)))) (d4 (af c7 (af c7 (af c7 (af c7 aA)))))))))
   (fu (bC λ_=>.bl _))
   fQ)
   (bW (gi (k9 (aF bz (aF bz (aF bz bA)))) eg)
   (bW (gi (jI (cH i4 (af ah aA))) eg)
   (bW (z9 bz bz (eV (aF bz (aF (bC λ_=>.non) (aF (bC λ_=>.bl _) (aF (eV bA) bA))))))
   (bW (kX (wy (jE (fq (fI (bc (af ah (af (ax gA ah (d4 (af ah aA))) (af ah aA)))))) (a0 (ax qr (bc (af ah aA)) (ax gA (bc (af ah aA)) ay)))))
   (fu (bC λ_=>.bl _))
   fQ)
   (bW (lO (JT Fx (o5 bz (bC λ_=>.int _))))
   (bW (lO (z8 (o5 bz (bC λ_=>.int _))))
   (fu (jI (bc (af ah (af ah (af ah aA)))))))))))))) rfl h)
theorem mL(Z:gL mg)(T:Top K mg "_law_least_right" fY)(kq:Def P w K mg base CX0 4 "least_name" ["pile"] (spM h8))(ck:Def P w K mg base CX0 3 "_law_refused" ["_law_way","_law_one","_law_other"] (spM bh)):Def P w K mg base CX0 5 "_law_least_right" ["_law_pile","_law_held"] (spM bZ):=by
 have AD:mg "min"=none:=Z _ (by decide+kernel)
 have AB:mg "str"=none:=Z _ (by decide+kernel)
 have aY:mg "isinstance"=none:=Z _ (by decide+kernel)
 refine T.def iG (λvs H Q E h=>eO h) (λ_ _ _ _ _ _ us hl=>match us,hl with| [_,_],_=>rfl) λf cdv A outer s H vs Q E hr h=>?_
 have hu:=hr.units;exact⟨_,(aw (cP (bD (GC (Nat.lt_of_le_of_lt (Nat.le_add_right _ _) hu)) (pv 1) gF (bB _))
   (aH (a6 (iS (fO (K:=K) rfl hu) (bb ck (hr.mono (by omega)) (aa av (aa (pv 0) (aa je aq)))) (cU (aa bT (aa bT (aa bT (aa bT aq))))) (bB _))))
   bf)
   (aw (bI (i:=2) iG.nd rfl (by walk_at "l") (bb kq (hr.mono (by omega)) (aa (pv 0) aq)))
   (aH (a6 (Cj (aT jC rfl aY zaB (aa (pv 2) (aa (l7 AB PyProof.Rows.boot_str) aq))) (Ci (iS (fO (K:=K) rfl hu) (pv 2) (aS (aE (K:=K) rfl) (aT (Bv (K:=K) rfl rfl (hv1 hu)) rfl AD PyProof.Rows.boot_min (aa (Gd (CO (fr:=[("_law_held",1)]) rfl ⟨rfl,rfl,rfl,rfl,rfl,rfl,by decide+kernel⟩ (pY (pv 1)) (λ_ _ _ _=>zp) (λ_ _ _ _=>(bF (aa (aS (aE (K:=K) rfl) (dP (hv1 hu) (pv 1) (pv 0) (λ_ _=>rfl)) av (λ_ _=>rfl)) (aa (pv 0) aq)))))) aq)) av (λ_ _=>rfl)) (bB _)))))))),
   gg (n:=2) (k:=1) (a8 (fM (a0 (ax Ki ah i3))
   (cE (ax m3 (bc (af ay (af ah (af mi aA)))) (d4 (af c7 (af c7 (af c7 (af c7 aA)))))))
   cJ)
   (a8 (cN (bc (af ah aA)))
   (cE (zw (qt ah) (ax m3 ah (ax b9 (cH JY (af (DX k7 C2 (d3 (af (ax b9 (ax iB ah ah) ay) (af ah aA)))) aA)) ay)))))) rfl h⟩
theorem l6(Z:gL mg)(T:Top K mg "_law_poured_right" fv)(cL:Def P w K mg base CX0 2 "_law_is_pile" ["_law_found","_law_tops","_law_held"] (spM cj))(cD:Def P w K mg base CX0 5 "_law_least_right" ["_law_pile","_law_held"] (spM bZ))(cM:Def P w K mg base CX0 1 "pile_credit" ["pile"] (spM bq))(jz:Def P w K mg base CX0 1 "pour_piles" ["one","other"] (spD hZ)):Def P w K mg base CX0 6 "_law_poured_right" ["_law_one","_law_other","_law_first","_law_second"] (spQ dR):=by
 have eK:mg "dict"=none:=Z _ (by decide+kernel)
 refine T.def cS (λvs H Q E h=>uJ h) (λ_ _ _ _ _ _ us hl=>match us,hl with| [_,_,_,_],_=>rfl) λf cdv A outer s H vs Q E hr h=>?_
 have hu:=hr.units;exact⟨_,(aw (bI (i:=4) cS.nd rfl (by walk_at "l") (bb jz (hr.mono (by omega)) (aa (pv 0) (aa (pv 1) aq))))
   (aw (bI (i:=5) cS.nd rfl (by walk_at "l") (dc eI rfl eK PyProof.Rows.boot_dict (aa (aS (aE (K:=K) rfl) (pv 2) av (λ_ _=>rfl)) aq)))
   (aw (pZ (jV PassesOwn.never rfl (wK (aS (aE (K:=K) rfl) (pv 3) av (λ_ _=>rfl))) (iT rfl (br (a9 (i:=6) cS.nd rfl (by walk_at "l")) (br (a9 (i:=7) cS.nd rfl (by walk_at "l")) iR)))
   (aH (fh (hv1 hu) (pv 5) (pv 6) (pv 7) rfl))))
   (aw (cP (eC (du (bb cL (hr.mono (by omega)) (aa (pv 4) (aa (bG (dE (K:=K) rfl) (aS (aE (K:=K) rfl) (pv 2) av (λ_ _=>rfl)) (aS (aE (K:=K) rfl) (pv 3) av (λ_ _=>rfl))) (aa (pv 5) aq))))))
   (aH (a6 bT))
   bf)
   (aw (cP (PW.pt (jA (bD (iy (K:=K) rfl hu) (bb cM (hr.mono (by omega)) (aa (pv 4) aq)) (bG (dE (K:=K) rfl) (bb cM (hr.mono (by omega)) (aa (pv 0) aq)) (bb cM (hr.mono (by omega)) (aa (pv 1) aq))) (bB _)) (jU (eC (du (bb cD (hr.mono (by omega)) (aa (pv 4) (aa (pv 5) aq))))))))
   (aH (a6 bT))
   bf)
   (aw (eM (mn (K:=K) rfl zaJ zaV zaU ik (aS (aE (K:=K) rfl) (pv 4) av (λ_ _=>rfl)) (aa cT aq)))
   (aw (eM (pU (K:=K) rfl PySem.F.plainAttrs_dict PySem.F.slot_dict_clear PySem.F.type_dict_clear sZ (aS (aE (K:=K) rfl) (pv 4) av (λ_ _=>rfl))))
   (aH (a6 (Cj (bb cL (hr.mono (by omega)) (aa (pv 0) (aa (aS (aE (K:=K) rfl) (pv 2) av (λ_ _=>rfl)) (aa (aS (aE (K:=K) rfl) (pv 2) av (λ_ _=>rfl)) aq)))) (Ci (bb cL (hr.mono (by omega)) (aa (pv 1) (aa (aS (aE (K:=K) rfl) (pv 3) av (λ_ _=>rfl)) (aa (aS (aE (K:=K) rfl) (pv 3) av (λ_ _=>rfl)) aq))))))))))))))),
   uI (n:=4) (k:=4) (bW (gi (k9 (aF bz (aF bz bA))) eg)
   (bW (gi (jI (cH i4 (af (ax b9 ah ay) aA))) eg)
   (bW (Gx (i:=3) (d:=5) (n:=6) (e:=7))
   (bW (kX (wy (fq (fI (bc (af ah (af (ax gA (ax b9 ah ay) (ax b9 ah ay)) (af ah aA)))))))
   (fu (bC λ_=>.bl _))
   fQ)
   (bW (kX (wy (jE (a0 (ax qr (bc (af ah aA)) (ax gA (bc (af ah aA)) (bc (af ah aA))))) (fq (fI (bc (af ah (af ah aA)))))))
   (fu (bC λ_=>.bl _))
   fQ)
   (bW (lO (yp (o5 bz (bC λ_=>.int _)) (aF (bC λ_=>.str _) bA)))
   (bW (lO (z8 (o5 bz (bC λ_=>.int _))))
   (fu (jI (zw (bc (af ah (af (ax b9 ah ay) (af (ax b9 ah ay) aA)))) (bc (af ah (af (ax b9 ah ay) (af (ax b9 ah ay) aA)))))))))))))) rfl h⟩
theorem Kz(NL:pV K=true)(Z:gL mg)(F:Fun K "law" "law" AA f fd)(gr:Def P w K mg base CX0 1 "no_pile" [] (spQ fD))(dY:Def P w K mg base CX0 1 "_law_cell_at" ["_law_script","_law_k"] (spM cg))(ck:Def P w K mg base CX0 3 "_law_refused" ["_law_way","_law_one","_law_other"] (spM bh))(fA:Def P w K mg base CX0 6 "_law_poured_right" ["_law_one","_law_other","_law_first","_law_second"] (spQ dR))(cD:Def P w K mg base CX0 5 "_law_least_right" ["_law_pile","_law_held"] (spM bZ))(dX:Def P w K mg base CX0 1 "_law_name_by" ["_law_k"] (spM c8))(gY:Def P w K mg base CX0 4 "_law_put_right" ["_law_pile","_law_tops","_law_held","_law_name","_law_key"] (spQ fk))(eR:Def P w K mg base CX0 1 "_law_key_by" ["_law_number"] (spM dQ))(fG:Def P w K mg base CX0 2 "pile_put" ["pile","name","key"] (spD gm))(ig:Def P w K mg base CX0 2 "_law_built" ["_law_cells","_law_first"] (spD dq)):kM P w K mg base CX0 7 f fd ["_law_script"] (CQ K):=by
 have c9:mg "len"=none:=Z _ (by decide+kernel)
 have lF:mg "list"=none:=Z _ (by decide+kernel)
 have eK:mg "dict"=none:=Z _ (by decide+kernel)
 refine kM.imp (sp:=spM Ih) ?_ (Jt NL EU);refine F.ok fZ (λvs H Q E h=>F4 h) λcdv A outer s H vs Q E hr h=>?_
 have hu:=hr.units;exact⟨_,(aw (bI (i:=1) fZ.nd rfl (by walk_at "l") (bb ig (hr.mono (by omega)) (aa (sU (sV (K:=K) rfl) (pv 0) (lH av) (lH av) (lH av)) (aa av aq))))
   (aw (bI (i:=2) fZ.nd rfl (by walk_at "l") (bb ig (hr.mono (by omega)) (aa (sU (sV (K:=K) rfl) (pv 0) (lH av) (lH av) (lH av)) (aa av aq))))
   (aw (bI (i:=3) fZ.nd rfl (by walk_at "l") (bF (aa (dc (qw (K:=K) rfl) rfl lF PyProof.Rows.boot_list (aa (aS (aE (K:=K) rfl) (pv 1) av (λ_ _=>rfl)) aq)) (aa (dc eI rfl eK PyProof.Rows.boot_dict (aa (aS (aE (K:=K) rfl) (pv 1) av (λ_ _=>rfl)) aq)) aq))))
   (aw (bI (i:=4) fZ.nd rfl (by walk_at "l") (bF (aa (dc (qw (K:=K) rfl) rfl lF PyProof.Rows.boot_list (aa (aS (aE (K:=K) rfl) (pv 2) av (λ_ _=>rfl)) aq)) (aa (dc eI rfl eK PyProof.Rows.boot_dict (aa (aS (aE (K:=K) rfl) (pv 2) av (λ_ _=>rfl)) aq)) aq))))
   (aw (bI (i:=5) fZ.nd rfl (by walk_at "l") (bb eR (hr.mono (by omega)) (aa (bb dY (hr.mono (by omega)) (aa (pv 0) (aa av aq))) aq)))
   (aw (bI (i:=6) fZ.nd rfl (by walk_at "l") (mU gr (hr.mono (by omega))))
   (aw (eM (mn (K:=K) rfl zaJ zaV zaU ik (aS (aE (K:=K) rfl) (pv 6) av (λ_ _=>rfl)) (aa cT aq)))
   (aw (fh (hv1 hu) (aS (aE (K:=K) rfl) (pv 6) av (λ_ _=>rfl)) cT (bF (aa av (aa je (aa bT (aa (bF aq) aq))))) rfl)
   (aw (cP (bD (Gy (K:=K) rfl hr) (mU gr (hr.mono (by omega))) (bF (aa (cU aq) (aa gF aq))) (bB _))
   (aH (a6 bT))
   bf)
   (aw (cP (eC (du (bb gY (hr.mono (by omega)) (aa (pv 3) (aa (aS (aE (K:=K) rfl) (pv 1) av (λ_ _=>rfl)) (aa (aS (aE (K:=K) rfl) (pv 1) av (λ_ _=>rfl)) (aa (bb dX (hr.mono (by omega)) (aa (bG (dE (K:=K) rfl) av (bG dZ (bb dY (hr.mono (by omega)) (aa (pv 0) (aa av aq))) av)) aq)) (aa (pv 5) aq))))))))
   (aH (a6 bT))
   bf)
   (aw (cP (PW.pt (jA (eC (du (bb cD (hr.mono (by omega)) (aa (pv 3) (aa (aS (aE (K:=K) rfl) (pv 1) av (λ_ _=>rfl)) aq))))) (jU (eC (du (bb cD (hr.mono (by omega)) (aa (pv 4) (aa (aS (aE (K:=K) rfl) (pv 2) av (λ_ _=>rfl)) aq))))))))
   (aH (a6 bT))
   bf)
   (aw (bI (i:=7) fZ.nd rfl (by walk_at "l") (cU (aa (bF (aa (pv 3) (aa (pv 4) (aa (pv 1) (aa (pv 2) aq))))) (aa (bF (aa (pv 4) (aa (pv 3) (aa (pv 2) (aa (pv 1) aq))))) (aa (bF (aa (pv 3) (aa (mU gr (hr.mono (by omega))) (aa (pv 1) (aa (bF (aa (cU aq) (aa gF aq))) aq))))) aq)))))
   (aw (eM (mn (K:=K) rfl zaJ zaV zaU ik (pv 7) (aa (bF (aa (mU gr (hr.mono (by omega))) (aa (pv 3) (aa (bF (aa (cU aq) (aa gF aq))) (aa (pv 1) aq))))) aq)))
   (aw (jV PassesOwn.never rfl (wc (K:=K) rfl (pv 7)) (iT rfl (br (a9 (i:=8) fZ.nd rfl (by walk_at "l")) (br (a9 (i:=9) fZ.nd rfl (by walk_at "l")) (br (a9 (i:=10) fZ.nd rfl (by walk_at "l")) (br (a9 (i:=11) fZ.nd rfl (by walk_at "l")) iR)))))
   (aH (cP (eC (du (bb fA (hr.mono (by omega)) (aa (pv 8) (aa (pv 9) (aa (pv 10) (aa (pv 11) aq)))))))
   (aH (a6 bT))
   bf)))
   (aw (cP (PW.pt (tY (bD vQ (aT lQ rfl c9 zaE (aa (aS (aE (K:=K) rfl) (pv 1) av (λ_ _=>rfl)) aq)) av (bB _)) (pQ (bD (fO (K:=K) rfl hu) (bG dZ (bb dY (hr.mono (by omega)) (aa (pv 0) (aa av aq))) av) av (bB _)))))
   (aw (bI (i:=12) fZ.nd rfl (by walk_at "l") (aS (aE (K:=K) rfl) (dc (o8 rfl) rfl lF PyProof.Rows.boot_list (aa (aS (aE (K:=K) rfl) (pv 1) av (λ_ _=>rfl)) aq)) (bG dZ (bb dY (hr.mono (by omega)) (aa (pv 0) (aa av aq))) (aT lQ rfl c9 zaE (aa (aS (aE (K:=K) rfl) (pv 1) av (λ_ _=>rfl)) aq))) (λ_ _=>rfl)))
   (aw (bI (i:=13) fZ.nd rfl (by walk_at "l") (bb fG (hr.mono (by omega)) (aa (pv 4) (aa (pv 12) (aa (pv 5) aq)))))
   (aw (cP (bD (iy (K:=K) rfl hu) (bb ck (hr.mono (by omega)) (aa av (aa (pv 3) (aa (pv 13) aq)))) (cU (aa bT (aa bT (aa bT (aa bT aq))))) (bB _))
   (aH (a6 bT))
   bf)
   (aH (a6 (iS (fO (K:=K) rfl hu) (bb ck (hr.mono (by omega)) (aa av (aa (pv 13) (aa (pv 3) aq)))) (cU (aa bT (aa bT (aa bT (aa bT aq))))) (bB _)))))))
   bf)
   (aH (a6 (iS (Gz (K:=K) rfl hr) (mU gr (hr.mono (by omega))) (bF (aa (cU aq) (aa gF aq))) (bB _))))))))))))))))))),
   F3 (n:=1) (k:=13) (bW (gi (k9 (aF (jI (Dq HA ah (lI ay) (lI ay) (lI ay))) (aF (bC λ_=>.int _) bA))) eg)
   (bW (gi (k9 (aF (jI (Dq HA ah (lI ay) (lI ay) (lI ay))) (aF (bC λ_=>.int _) bA))) eg)
   (bW (gi (eV (aF (jI (cH C5 (af (ax b9 ah ay) aA))) (aF (jI (cH i4 (af (ax b9 ah ay) aA))) bA))) eg)
   (bW (gi (eV (aF (jI (cH C5 (af (ax b9 ah ay) aA))) (aF (jI (cH i4 (af (ax b9 ah ay) aA))) bA))) eg)
   (bW (gi (jI (bc (af (bc (af ah (af ay aA))) aA))) eg)
   (bW (gi (iA bA) eg)
   (bW (lO (yp (o5 bz (bC λ_=>.int _)) (aF (bC λ_=>.str _) bA)))
   (bW (z9 (o5 bz (bC λ_=>.int _)) (bC λ_=>.str _) (eV (aF (bC λ_=>.int _) (aF (bC λ_=>.non) (aF (bC λ_=>.bl _) (aF (eV bA) bA))))))
   (bW (kX (zN (HF LD (iA bA) (eV (aF (kW bA) (aF (jI i3) bA)))))
   (fu (bC λ_=>.bl _))
   fQ)
   (bW (kX (DD (HG (iA (aF bz (aF (o5 bz (bC λ_=>.int _)) (aF (o5 bz (bC λ_=>.int _)) (aF (jI (bc (af (ax gA ay (ax J_I (bc (af ah (af ay aA))) ay)) aA))) (aF bz bA))))))))
   (fu (bC λ_=>.bl _))
   fQ)
   (bW (kX (wy (jE (fq (fI (bc (af ah (af (ax b9 ah ay) aA))))) (fq (fI (bc (af ah (af (ax b9 ah ay) aA)))))))
   (fu (bC λ_=>.bl _))
   fQ)
   (bW (gi (kW (aF (eV (aF bz (aF bz (aF bz (aF bz bA))))) (aF (eV (aF bz (aF bz (aF bz (aF bz bA))))) (aF (eV (aF bz (aF (iA bA) (aF bz (aF (eV (aF (kW bA) (aF (jI i3) bA))) bA))))) bA)))) eg)
   (bW (lO (yp bz (aF (eV (aF (iA bA) (aF bz (aF (eV (aF (kW bA) (aF (jI i3) bA))) (aF bz bA))))) bA)))
   (bW (zQ bz (FW (nE (nE (nE (nE FV)))))
   (kX (DD (HG (iA (aF bz (aF bz (aF bz (aF bz bA)))))))
   (fu (bC λ_=>.bl _))
   fQ))
   (bW (kX (wy (uj (a0 (ax xY (cH uP (af (ax b9 ah ay) aA)) ay)) (a0 (ax m3 (ax J_I (bc (af ah (af ay aA))) ay) ay))))
   (bW (gi (jI (ax b9 (cH zW (af (ax b9 ah ay) aA)) (ax J_I (bc (af ah (af ay aA))) (cH uP (af (ax b9 ah ay) aA))))) eg)
   (bW (gi (k9 (aF bz (aF bz (aF bz bA)))) eg)
   (bW (kX (wy (a0 (ax qr (bc (af ay (af ah (af ah aA)))) (d4 (af c7 (af c7 (af c7 (af c7 aA))))))))
   (fu (bC λ_=>.bl _))
   fQ)
   (fu (jI (ax m3 (bc (af ay (af ah (af ah aA)))) (d4 (af c7 (af c7 (af c7 (af c7 aA)))))))))))
   fQ)
   (fu (HF LG (iA bA) (eV (aF (kW bA) (aF (jI i3) bA)))))))))))))))))))) rfl h⟩
end
end K73
open PySem PySem.W PyProof.Rows
set_option maxRecDepth 100000 in
set_option maxHeartbeats 0 in
theorem PySem.Challenge.cw_creditworks_k73_put_and_poured_holds : PySem.Challenge.rw_creditworks_k73_put_and_poured.Holds := by
 w_on;o_law;k_head;(case hw=>w_witness2)
 k_fill
 refine L2.CS (l:=PySem.Challenge.rw_creditworks_k73_put_and_poured) (k:=7) (x:="_law_script") (st:=K73.AA) rfl rfl ⟨rfl,by decide,by decide⟩ (λw h Y=>⟨PySem.W.km_in_of Y,L2.Gr (by kernel_rfl) (PySem.W.km_tabs_of Y)⟩) (λ_ _ _ _ _ _ _=>rfl) ?F
 case F=>
  intro w mg h KX G;have hK:(L2.gx (L2.KOf KX)).isSome=true:=by
   dsimp only[L2.KOf]
   kernel_rfl
  have y3:L2.Top (L2.KOf KX) mg "_law_like" K73.mE:=by
   dsimp only[L2.KOf];refine' L2.Top.mk' KX G ?a ?l ?c ?k
   (case a=>k_is);(case l=>k_is);(case c=>k_is);(case k=>k_is)
  have BO:L2.Top (L2.KOf KX) mg "_law_cut" K73.oS:=by
   dsimp only[L2.KOf];refine' L2.Top.mk' KX G ?a ?l ?c ?k
   (case a=>k_is);(case l=>k_is);(case c=>k_is);(case k=>k_is)
  have vE:L2.Top (L2.KOf KX) mg "_law_before" K73.kc:=by
   dsimp only[L2.KOf];refine' L2.Top.mk' KX G ?a ?l ?c ?k
   (case a=>k_is);(case l=>k_is);(case c=>k_is);(case k=>k_is)
  have y4:L2.Top (L2.KOf KX) mg "_law_hung" K73.mF:=by
   dsimp only[L2.KOf];refine' L2.Top.mk' KX G ?a ?l ?c ?k
   (case a=>k_is);(case l=>k_is);(case c=>k_is);(case k=>k_is)
  have sk:L2.Top (L2.KOf KX) mg "_law_name_by" K73.jn:=by
   dsimp only[L2.KOf];refine' L2.Top.mk' KX G ?a ?l ?c ?k
   (case a=>k_is);(case l=>k_is);(case c=>k_is);(case k=>k_is)
  have vF:L2.Top (L2.KOf KX) mg "_law_key_by" K73.ke:=by
   dsimp only[L2.KOf];refine' L2.Top.mk' KX G ?a ?l ?c ?k
   (case a=>k_is);(case l=>k_is);(case c=>k_is);(case k=>k_is)
  have xG:L2.Top (L2.KOf KX) mg "_law_built" K73.lD:=by
   dsimp only[L2.KOf];refine' L2.Top.mk' KX G ?a ?l ?c ?k
   (case a=>k_is);(case l=>k_is);(case c=>k_is);(case k=>k_is)
  have BP:L2.Top (L2.KOf KX) mg "no_pile" K73.oT:=by
   dsimp only[L2.KOf];refine' L2.Top.mk' KX G ?a ?l ?c ?k
   (case a=>k_is);(case l=>k_is);(case c=>k_is);(case k=>k_is)
  have sr:L2.Top (L2.KOf KX) mg "_law_cell_at" K73.jo:=by
   dsimp only[L2.KOf];refine' L2.Top.mk' KX G ?a ?l ?c ?k
   (case a=>k_is);(case l=>k_is);(case c=>k_is);(case k=>k_is)
  have BQ:L2.Top (L2.KOf KX) mg "is_name" K73.oU:=by
   dsimp only[L2.KOf];refine' L2.Top.mk' KX G ?a ?l ?c ?k
   (case a=>k_is);(case l=>k_is);(case c=>k_is);(case k=>k_is)
  have rH:L2.Top (L2.KOf KX) mg "pile_put" K73.kf:=by
   dsimp only[L2.KOf];refine' L2.Top.mk' KX G ?a ?l ?c ?k
   (case a=>k_is);(case l=>k_is);(case c=>k_is);(case k=>k_is)
  have rJ:L2.Top (L2.KOf KX) mg "_law_is_entry" K73.iE:=by
   dsimp only[L2.KOf];refine' L2.Top.mk' KX G ?a ?l ?c ?k
   (case a=>k_is);(case l=>k_is);(case c=>k_is);(case k=>k_is)
  have sx:L2.Top (L2.KOf KX) mg "_law_is_pile" K73.jq:=by
   dsimp only[L2.KOf];refine' L2.Top.mk' KX G ?a ?l ?c ?k
   (case a=>k_is);(case l=>k_is);(case c=>k_is);(case k=>k_is)
  have oh:L2.Top (L2.KOf KX) mg "pour_piles" K73.ib:=by
   dsimp only[L2.KOf];refine' L2.Top.mk' KX G ?a ?l ?c ?k
   (case a=>k_is);(case l=>k_is);(case c=>k_is);(case k=>k_is)
  have y8:L2.Top (L2.KOf KX) mg "standing" K73.mG:=by
   dsimp only[L2.KOf];refine' L2.Top.mk' KX G ?a ?l ?c ?k
   (case a=>k_is);(case l=>k_is);(case c=>k_is);(case k=>k_is)
  have om:L2.Top (L2.KOf KX) mg "least_name" K73.ic:=by
   dsimp only[L2.KOf];refine' L2.Top.mk' KX G ?a ?l ?c ?k
   (case a=>k_is);(case l=>k_is);(case c=>k_is);(case k=>k_is)
  have sy:L2.Top (L2.KOf KX) mg "_law_refused" K73.js:=by
   dsimp only[L2.KOf];refine' L2.Top.mk' KX G ?a ?l ?c ?k
   (case a=>k_is);(case l=>k_is);(case c=>k_is);(case k=>k_is)
  have sA:L2.Top (L2.KOf KX) mg "pile_credit" K73.jt:=by
   dsimp only[L2.KOf];refine' L2.Top.mk' KX G ?a ?l ?c ?k
   (case a=>k_is);(case l=>k_is);(case c=>k_is);(case k=>k_is)
  have pP:L2.Top (L2.KOf KX) mg "_law_put_right" K73.gW:=by
   dsimp only[L2.KOf];refine' L2.Top.mk' KX G ?a ?l ?c ?k
   (case a=>k_is);(case l=>k_is);(case c=>k_is);(case k=>k_is)
  have oq:L2.Top (L2.KOf KX) mg "_law_least_right" K73.fY:=by
   dsimp only[L2.KOf];refine' L2.Top.mk' KX G ?a ?l ?c ?k
   (case a=>k_is);(case l=>k_is);(case c=>k_is);(case k=>k_is)
  have mM:L2.Top (L2.KOf KX) mg "_law_poured_right" K73.fv:=by
   dsimp only[L2.KOf];refine' L2.Top.mk' KX G ?a ?l ?c ?k
   (case a=>k_is);(case l=>k_is);(case c=>k_is);(case k=>k_is)
  have L6:L2.Top (L2.KOf KX) mg "law" K73.AA:=by
   dsimp only[L2.KOf];refine' L2.Top.mk' KX G ?a ?l ?c ?k
   (case a=>k_is);(case l=>k_is);(case c=>k_is);(case k=>k_is)
  have og:mg "ValueError"=none:=by
   refine' za0 KX G ?z
   (case z=>k_is)
  have Iq:mg "all"=none:=by
   refine' za0 KX G ?z
   (case z=>k_is)
  have yZ:mg "bool"=none:=by
   refine' za0 KX G ?z
   (case z=>k_is)
  have eK:mg "dict"=none:=by
   refine' za0 KX G ?z
   (case z=>k_is)
  have pC:mg "enumerate"=none:=by
   refine' za0 KX G ?z
   (case z=>k_is)
  have aY:mg "isinstance"=none:=by
   refine' za0 KX G ?z
   (case z=>k_is)
  have c9:mg "len"=none:=by
   refine' za0 KX G ?z
   (case z=>k_is)
  have lF:mg "list"=none:=by
   refine' za0 KX G ?z
   (case z=>k_is)
  have AD:mg "min"=none:=by
   refine' za0 KX G ?z
   (case z=>k_is)
  have vB:mg "range"=none:=by
   refine' za0 KX G ?z
   (case z=>k_is)
  have AB:mg "str"=none:=by
   refine' za0 KX G ?z
   (case z=>k_is)
  have kh:mg "tuple"=none:=by
   refine' za0 KX G ?z
   (case z=>k_is)
  have Z:K73.gL mg:=by
   intro x hx;simp only[List.mem_cons,List.not_mem_nil,or_false]at hx;rcases hx with rfl|rfl|rfl|rfl|rfl|rfl|rfl|rfl|rfl|rfl|rfl|rfl<;>assumption
  have NL:Mir.pV (L2.KOf KX)=true:=by
   dsimp only[L2.KOf]
   first|rfl|kernel_rfl|k_is
  have CFF:∃b7 bw b8 bO,K73.CF (L2.KOf KX) mg b7 bw b8 bO:=by
   dsimp only[L2.KOf];refine' ⟨_,_,_,_,⟨?qd,PySem.W.mg_of KX G ?ie,?rn,PySem.W.mg_of KX G ?iH,?vA,PySem.W.mg_of KX G ?kg,PySem.W.mg_of KX G ?ju,⟨?y9,?za,?zb,?zc,?zd,?ze,?zf,?zg⟩,?iI,?iJ,?gX,?eW,⟨?BR,?BS,?BU,?BV,?BW,?BX,?BY,?BZ⟩,?jv,?jw,?iK,?fw,⟨?B6,?B7,?B8,?B9,?Ca,?Cb,?Cc,?Cd⟩,?jx,?jy,?iL,?fy,?h_NoName_CreditError,?h_Twice_CreditError,?h_Empty_CreditError⟩⟩
   (case ie=>k_is)
   (case iH=>k_is)
   (case kg=>k_is)
   (case ju=>k_is)
   (case qd=>first|k_is|k_exc|rfl|kernel_rfl|decide+kernel)
   (case rn=>first|k_is|k_exc|rfl|kernel_rfl|decide+kernel)
   (case vA=>first|k_is|k_exc|rfl|kernel_rfl|decide+kernel)
   (case y9=>first|k_is|k_exc|rfl|kernel_rfl|decide+kernel)
   (case za=>first|k_is|k_exc|rfl|kernel_rfl|decide+kernel)
   (case zb=>first|k_is|k_exc|rfl|kernel_rfl|decide+kernel)
   (case zc=>first|k_is|k_exc|rfl|kernel_rfl|decide+kernel)
   (case zd=>first|k_is|k_exc|rfl|kernel_rfl|decide+kernel)
   (case ze=>first|k_is|k_exc|rfl|kernel_rfl|decide+kernel)
   (case zf=>first|k_is|k_exc|rfl|kernel_rfl|decide+kernel)
   (case zg=>first|k_is|k_exc|rfl|kernel_rfl|decide+kernel)
   (case iI=>first|k_is|k_exc|rfl|kernel_rfl|decide+kernel)
   (case iJ=>first|k_is|k_exc|rfl|kernel_rfl|decide+kernel)
   (case gX=>first|k_is|k_exc|rfl|kernel_rfl|decide+kernel)
   (case eW=>first|k_is|k_exc|rfl|kernel_rfl|decide+kernel)
   (case BR=>first|k_is|k_exc|rfl|kernel_rfl|decide+kernel)
   (case BS=>first|k_is|k_exc|rfl|kernel_rfl|decide+kernel)
   (case BU=>first|k_is|k_exc|rfl|kernel_rfl|decide+kernel)
   (case BV=>first|k_is|k_exc|rfl|kernel_rfl|decide+kernel)
   (case BW=>first|k_is|k_exc|rfl|kernel_rfl|decide+kernel)
   (case BX=>first|k_is|k_exc|rfl|kernel_rfl|decide+kernel)
   (case BY=>first|k_is|k_exc|rfl|kernel_rfl|decide+kernel)
   (case BZ=>first|k_is|k_exc|rfl|kernel_rfl|decide+kernel)
   (case jv=>first|k_is|k_exc|rfl|kernel_rfl|decide+kernel)
   (case jw=>first|k_is|k_exc|rfl|kernel_rfl|decide+kernel)
   (case iK=>first|k_is|k_exc|rfl|kernel_rfl|decide+kernel)
   (case fw=>first|k_is|k_exc|rfl|kernel_rfl|decide+kernel)
   (case B6=>first|k_is|k_exc|rfl|kernel_rfl|decide+kernel)
   (case B7=>first|k_is|k_exc|rfl|kernel_rfl|decide+kernel)
   (case B8=>first|k_is|k_exc|rfl|kernel_rfl|decide+kernel)
   (case B9=>first|k_is|k_exc|rfl|kernel_rfl|decide+kernel)
   (case Ca=>first|k_is|k_exc|rfl|kernel_rfl|decide+kernel)
   (case Cb=>first|k_is|k_exc|rfl|kernel_rfl|decide+kernel)
   (case Cc=>first|k_is|k_exc|rfl|kernel_rfl|decide+kernel)
   (case Cd=>first|k_is|k_exc|rfl|kernel_rfl|decide+kernel)
   (case jx=>first|k_is|k_exc|rfl|kernel_rfl|decide+kernel)
   (case jy=>first|k_is|k_exc|rfl|kernel_rfl|decide+kernel)
   (case iL=>first|k_is|k_exc|rfl|kernel_rfl|decide+kernel)
   (case fy=>first|k_is|k_exc|rfl|kernel_rfl|decide+kernel)
   (case h_NoName_CreditError=>first|k_is|k_exc|rfl|kernel_rfl|decide+kernel)
   (case h_Twice_CreditError=>first|k_is|k_exc|rfl|kernel_rfl|decide+kernel)
   (case h_Empty_CreditError=>first|k_is|k_exc|rfl|kernel_rfl|decide+kernel)
  obtain⟨b7,bw,b8,bO,cf⟩:=CFF;refine⟨L6,λf fd Ff base kb gb=>?_⟩
  have mI:=K73.xD (P:=zah) (w:=w) (base:=base) Z y3;have oV:=K73.yW (P:=zah) (w:=w) (base:=base) Z BO;have ki:=K73.rZ (P:=zah) (w:=w) (base:=base) Z vE;have mH:=K73.xE (P:=zah) (w:=w) (base:=base) Z y4;have dX:=K73.rq (P:=zah) (w:=w) (base:=base) Z sk;have eR:=K73.se (P:=zah) (w:=w) (base:=base) Z vF;have ig:=K73.sg (P:=zah) (w:=w) (base:=base) Z xG oV mH ki eR dX mI;have gr:=K73.yX (P:=zah) (w:=w) (base:=base) Z BP;have dY:=K73.rA (P:=zah) (w:=w) (base:=base) Z sr;have iu:=K73.yY (P:=zah) (w:=w) (base:=base) Z BQ;have mK:=K73.vC (P:=zah) (w:=w) (base:=base) Z rH cf iu;have fG:=K73.vD (P:=zah) (w:=w) (base:=base) Z rH iu;have iM:=K73.pN (P:=zah) (w:=w) (base:=base) Z rJ;have cL:=K73.rB (P:=zah) (w:=w) (base:=base) Z sx iM;have kj:=K73.rC (P:=zah) (w:=w) (base:=base) Z oh cf;have jz:=K73.rD (P:=zah) (w:=w) (base:=base) Z oh;have mJ:=K73.xF (P:=zah) (w:=w) (base:=base) Z y8;have kn:=K73.rE (P:=zah) (w:=w) (base:=base) Z om cf;have kq:=K73.sj (P:=zah) (w:=w) (base:=base) Z hK om mJ;have ck:=K73.rF (P:=zah) (w:=w) (base:=base) Z sy cf mK kj kn
  have cM:=K73.rG (P:=zah) (w:=w) (base:=base) Z sA;have gY:=K73.oW (P:=zah) (w:=w) (base:=base) Z pP cL cM ck fG;have cD:=K73.mL (P:=zah) (w:=w) (base:=base) Z oq kq ck;have fA:=K73.l6 (P:=zah) (w:=w) (base:=base) Z mM cL cD cM jz;exact K73.Kz NL Z Ff gr dY ck fA cD dX gY eR fG ig

