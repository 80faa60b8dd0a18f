import PyProof.Rows.All
import Wide.All
import OpenK.AllK
import Wide.FinOn
import Lean
import PyProof.EqAt
import PyProof.EqKinds
import PyProof.TupleCall
import KE.KLam
import KE.KNestM
import KE.KTryMore
import PyProof.ZipIter
import KE.KDictLaws
import KE.KDictList
import PyProof.Rows.SetFrom
import PyProof.DictWalks
import PyProof.Rows.StrInSeq3
import PyProof.EnumMake
import PyProof.Rows.EnumRows
import PyProof.DictItems
import PyProof.FString5
import PyProof.MeetsDictList
import KE.KMinKey
import PySem.Challenge.RW_creditworks_k74_least_taken

set_option Elab.async false
set_option linter.all false
set_option maxRecDepth 100000
noncomputable section
theorem zaa{α β}{b:β}{o:Option α}{f:α->Option β}(h:o.bind f=some b):∃a,o=some a/\f a=some b:=Option.bind_eq_some_iff.mp h
theorem zab{α β}{b:β}{o:Option α}{f:α->β}(h:o.map f=some b):∃a,o=some a/\f a=b:=Option.map_eq_some_iff.mp h
theorem zac{α}{a:α}{l:List α}{i:Nat}(h:l[i]?=some a):∃h:i<l.length,l[i]=a:=List.getElem?_eq_some_iff.mp h
theorem zad{α}{a b:α}(h:a∈[b]):a=b:=List.mem_singleton.mp h
theorem zae{α}{a:α}{s t:List α}(h:a∈s++t):a∈s\/a∈t:=List.mem_append.mp h
theorem zaf{α}{a b:α}{l:List α}(h:a∈b::l):a=b\/a∈l:=List.mem_cons.mp h
abbrev zag:=PySem.W.Frag
abbrev zah:=PySem.Challenge.rw_creditworks_k74_least_taken.prog
section
open PySem PySem.Spec PyProof.Rows
def zai:=@Option.bind_some
def zaj:=@List.mem_of_getElem?
def zak:=@List.mem_cons_of_mem
def zal:=@List.length_map
def zam:=@Bool.false_ne_true
def zan:=@List.mem_append_right
def zao:=@List.getElem?_map
def zap:=@Nat.le_refl
def zaq:=@Heap.lt_size
def zar:=@Heap.get?_push_of_some
def zas:=@List.mem_cons_self
def zat:=@List.getElem?_cons_succ
def zau:=@List.length_append
def zav:=@List.getElem?_set_self
def zaw:=@List.length_cons
def zax:=@List.getElem?_append_left
def zay:=@List.cons_append
def zaz:=@List.map_cons
def zaA:=@List.getElem?_set_ne
def zaB:=@PyProof.Rows.boot_isinstance
def zaC:=@List.getElem?_eq_getElem
def zaD:=@List.append_assoc
def zaE:=@PySem.boot_len
def zaF:=@Nat.lt_of_lt_of_le
def zaG:=@List.eq_of_mem_replicate
def zaH:=@decide_eq_true
def zaI:=@wpAny_bind
def zaJ:=@PySem.F.plainAttrs_list
def zaK:=@List.size_toArray
def zaL:=@Heap.get?_push_size
def zaM:=@List.length_set
def zaN:=@List.getElem?_append_right
def zaO:=@decide_eq_false
def zaP:=@List.getElem?_cons_zero
def zaQ:=@Option.some.inj
def zaR:=@List.append_nil
def zaS:=@Nat.ne_of_lt
def zaT:=@Option.map_some
def zaU:=@PySem.F.type_list_append
def zaV:=@PySem.F.slot_list_append
def zaW:=@List.mem_append_left
def zaX:=@Nat.le_trans
def zaY:=@List.length_filter_le
def zaZ:=@wpAny_pure
def za0:=@PySem.W.mg_none_of
def za1:=@List.map_append
def za2:=@PyProof.Rows.boot_tuple
def za3:=@Nat.lt_irrefl
def za4:=@PySem.W.kia_one
def za5:=@PySem.mem_of_lookup
def za6:=@wpAny_mono
def za7:=@List.length_singleton
def za8:=@List.lookup_cons
def za9:=@List.Nodup.mem_erase_iff
def zba:=@Nat.le_of_not_lt
def zbb:=@List.drop_eq_getElem_cons
def zbc:=@List.replicate_succ
end
namespace L2
open PySem PySem.Spec PyProof.Rows
abbrev Key:=Sum Int Str
def pM:Key->Value->Bool
 | .inl k,v=>Value.isInt k v
 | .inr x,v=>Value.isStrOf x v
def Ko(w:World):Key->Int
 | .inl k=>hashInt k
 | .inr x=>hashStr w x
theorem cX:∀{k:Key} {v:Value},pM k v=true->(∃i t,k=Sum.inl i/\v=Value.int i t)\/(∃x t,k=Sum.inr x/\v=Value.str x t)
 | .inl i,v,h=>by
  obtain⟨t,e⟩:=Value.isInt_shape (k:=i) (v:=v) h;exact .inl ⟨i,t,rfl,e⟩
 | .inr x,v,h=>by
  obtain⟨t,e⟩:=Value.isStrOf_shape (x:=x) (v:=v) h;exact .inr ⟨x,t,rfl,e⟩
theorem z7(i:Int)(t:Tok):pM (.inl i) (.int i t)=true:=by simp[pM,Value.isInt]
theorem z8(x:Str)(t:Tok):pM (.inr x) (.str x t)=true:=by simp[pM,Value.isStrOf]
theorem G4(a b:Int):decide ((Sum.inl a:Key)=Sum.inl b)=(a==b):=by
 by_cases e:a=b
 ·subst e;simp
 ·have h : ¬(Sum.inl a:Key)=Sum.inl b:=λq=>e (Sum.inl.inj q)
  rw[zaO h];exact(beq_eq_false_iff_ne.mpr e).symm
theorem G5(a b:Str):decide ((Sum.inr a:Key)=Sum.inr b)=decide (a=b):=by
 by_cases e:a=b
 ·subst e;simp
 ·have h : ¬(Sum.inr a:Key)=Sum.inr b:=λq=>e (Sum.inr.inj q)
  rw[zaO h,zaO e]
theorem G6(a:Int)(b:Str):decide ((Sum.inl a:Key)=Sum.inr b)=false:=zaO (λq=>nomatch q)
theorem G7(a:Str)(b:Int):decide ((Sum.inr a:Key)=Sum.inl b)=false:=zaO (λq=>nomatch q)
def bX(prog:Program)(w:World):PySem.KeyKind prog w Key where
 is:=pM
 hash:=Ko w
 inj:=λv a b ha hb=>by
  rcases cX ha with⟨i,t,rfl,rfl⟩|⟨x,t,rfl,rfl⟩
  ·rcases cX hb with⟨j,u,rfl,e⟩|⟨y,u,rfl,e⟩
   ·injection e with e1 _;rw[e1]
   ·exact nomatch e
  ·rcases cX hb with⟨j,u,rfl,e⟩|⟨y,u,rfl,e⟩
   ·exact nomatch e
   ·injection e with e1 _;rw[e1]
 byValue:=λk v h=>by
  rcases cX h with⟨i,t,rfl,rfl⟩|⟨x,t,rfl,rfl⟩<;>rfl
 pyHash:=λhv h=>by
  rcases cX hv with⟨i,t,rfl,rfl⟩|⟨x,t,rfl,rfl⟩
  ·exact wpAny_pyHash_int h
  ·exact wpAny_pyHash_str h
 eqBool:=λhu hv h=>by
  rcases cX hu with⟨i,t,rfl,rfl⟩|⟨x,t,rfl,rfl⟩
  ·rcases cX hv with⟨j,u,rfl,rfl⟩|⟨y,u,rfl,rfl⟩
   ·rw[G4]at h;exact wpAny_eqBool_int h
   ·rw[G6]at h;exact SeqAt.EqAt.int_str i t y u _ _ _ _ h
  ·rcases cX hv with⟨j,u,rfl,rfl⟩|⟨y,u,rfl,rfl⟩
   ·rw[G7]at h;exact SeqAt.EqAt.str_int x t j u _ _ _ _ h
   ·rw[G5]at h;exact wpAny_eqBool_str h
 «strs»:=λk x t v h=>by
  rcases cX h with⟨i,u,rfl,e⟩|⟨y,u,rfl,e⟩
  ·exact nomatch e
  ·injection e with e1 _
   subst e1;cases v<;>rfl
theorem xC(prog:Program)(w:World)(k:Key)(v:Value):(bX prog w).is k v=pM k v:=rfl
theorem vB(prog:Program)(w:World)(i:Int)(t:Tok):(bX prog w).is (.inl i) (.int i t)=true:=z7 i t
theorem vC(prog:Program)(w:World)(x:Str)(t:Tok):(bX prog w).is (.inr x) (.str x t)=true:=z8 x t
inductive V where
 |non|bl (b:Bool)|int (i:Int)|str (x:Str)|byt (b:Array UInt8)|flt (b:UInt64)|ref (a:Addr)|ty (n:String)
 deriving DecidableEq
def RelV:V->Value->Prop
 | .non,u=>u=Value.none
 | .bl b,u=>u=Value.bool b
 | .int i,u=>∃t,u=Value.int i t
 | .str x,u=>∃t,u=Value.str x t
 | .byt b,u=>∃t,u=Value.bytes b t
 | .flt b,u=>∃t,u=Value.float b t
 | .ref a,u=>u=Value.ref a
 | .ty n,u=>u=Value.type n
abbrev Vals:List V->List Value->Prop:=Paired RelV
theorem Vals.length{xs:List V}{us:List Value}(r:Vals xs us):xs.length=us.length:=Paired.length r
theorem Vals.get:∀{xs:List V} {us:List Value} {i:Nat} {x:V},Vals xs us->xs[i]?=some x->∃u,us[i]?=some u/\RelV x u
 |_,_,_,_,.nil,e=>by simp at e
 |_,_,0,_,.cons r _,e=>by simp at e;subst e;exact⟨_,rfl,r⟩
 |_,_,i+1,x,.cons _ t,e=>by
  obtain⟨u,h1,h2⟩:=Vals.get (i:=i) (x:=x) t (by simpa using e)
  exact⟨u,by simpa using h1,h2⟩
theorem Vals.set{x:V}{u:Value}(r:RelV x u):∀{xs:List V} {us:List Value} (i:Nat),Vals xs us->Vals (xs.set i x) (us.set i u)
 |_,_,_,.nil=>.nil
 |_,_,0,.cons _ t=>.cons r t
 |_,_,i+1,.cons q t=>.cons q (Vals.set r i t)
theorem Vals.append:∀{xs ys:List V} {us ws:List Value},Vals xs us->Vals ys ws->Vals (xs++ys) (us++ws)
 |_,_,_,_,.nil,s=>s
 |_,_,_,_,.cons r t,s=>.cons r (Vals.append t s)
theorem Vals.take:∀{xs:List V} {us:List Value} (n:Nat),Vals xs us->Vals (xs.take n) (us.take n)
 |_,_,0,_=>.nil
 |_,_,_+1,.nil=>.nil
 |_,_,n+1,.cons r t=>.cons r (Vals.take n t)
theorem Vals.drop:∀{xs:List V} {us:List Value} (n:Nat),Vals xs us->Vals (xs.drop n) (us.drop n)
 |_,_,0,r=>r
 |_,_,_+1,.nil=>.nil
 |_,_,n+1,.cons _ t=>Vals.drop n t
theorem Vals.none_of:∀{xs:List V} {us:List Value} {i:Nat},Vals xs us->xs[i]?=none->us[i]?=none:=fun{xs us i} r e=>by
 have h1:=r.length;have h2:xs.length<=i:=List.getElem?_eq_none_iff.mp e;exact List.getElem?_eq_none_iff.mpr (by omega)
def lS:Option V->Option Value->Prop
 |some v,some u=>RelV v u
 |none,none=>True
 |_,_=>False
def KV{κ:Type}:List (κ×V)->List (κ×Value)->Prop:=Paired λ(p : κ×V) (q : κ×Value)=>p.1=q.1/\RelV p.2 q.2
def kV:Key->V
 | .inl i=>.int i
 | .inr x=>.str x
inductive HO where
 |lst (xs:List V)
 |tup (xs:List V)
 |dK (kvs:List (Key×V))|dT (kvs:List (List Key×V))
 |set (S:Int->Bool) (n:Nat)
 |ins (C dx:Addr) (fs:List (Str×V))
 |own (x:Addr)
 |xd (fs:List (Str×V))
 |met (f x:Addr)
 |rng (lo hi:Int)
 |frz (o:Obj) (u:HO)
 |tbl (ps:Array Value)
 |ext (φ:Heap->Prop)
def Kp:HO->Prop
 | .tup _=>True
 | .tbl _=>True
 |_=>False
abbrev Hp:=Addr->Option HO
def upd(H:Hp)(a:Addr)(o:HO):Hp:=λb=>if b=a then some o else H b
theorem ax{H:Hp}{a:Addr}{o:HO}:upd H a o a=some o:=by unfold upd;rw[if_pos rfl]
theorem aq{H:Hp}{a b:Addr}{o:HO}(h:b≠a):upd H a o b=H b:=by unfold upd;rw[if_neg h]
theorem Jb{H:Hp}{a b:Addr}{o u:HO}(h:H a=some o)(h':H b=some u)(d:o≠u):a≠b:=by
 intro e;subst e;rw[h]at h';exact d (zaQ h')
theorem d9{H:Hp}{a b:Addr}{o:HO}(h:H a=some o)(h':H b=none):a≠b:=by
 intro e;subst e;rw[h]at h';cases h'
section
variable(P:Program)(w:World)
def cy(H:Hp)(h:Heap)(a:Addr):HO->Prop
 | .lst xs=>xs.length<=sizeLine/\∃(its:List Value) (n:Nat),Vals xs its/\h.get? a=some {cls:=.type "list",data:=.seq its.toArray n}
 | .tup xs=>xs.length<=sizeLine/\∃its:List Value,Vals xs its/\IsTup h a its.toArray
 | .dK kvs=>kvs.length<=sizeLine/\(a==sysModules)=false/\∃vs,KV kvs vs/\h.DictOf (bX P w) a vs
 | .dT kvs=>kvs.length<=sizeLine/\(a==sysModules)=false/\∃xs:List (List Key×Addr×Value),
   Paired (λ(p:List Key×V) (q:List Key×Addr×Value)=>p.1=q.1/\H q.2.1=some (.tup (p.1.map kV))/\RelV p.2 q.2.2) kvs xs/\
   ∃o es ep,h.get? a=some o/\o.ExactDict/\o.data=.dict es ep/\es.toList=xs.map (entryOfKey (tupleKind (bX P w)))/\(xs.map (·.1)).Nodup
 | .set S n=>h.SetOf (intKind P w) a S n
 | .ins C dx fs=>H dx=some (.own a)/\fs.length<=1000/\dx≠a/\h.get? a=some (PySem.W.instObj C dx)/\
   ∃mA,h.Ns1 dx mA/\(∀f,lS (fs.lookup f) (mA f))/\PySem.Within mA (fs.map (·.1))
 | .own _=>∃o,h.get? a=some o
 | .xd fs=>∃mA,h.Ns1 a mA/\∀f,lS (fs.lookup f) (mA f)
 | .rng lo hi=>∃t u v,h.get? a=some {cls:=.type "range",data:=.fields #[.int lo t,.int hi u,.int 1 v]}
 | .frz o u=>h.get? a=some o/\cy H h a u
 | .tbl ps=>(ps[0]?=some .none/\∃q t,ps[1]?=some (.str q t)/\h.CodeRec (.ref a) q)\/
   (ps[0]?≠some .none/\∃qs,h.get? a=some {cls:=.none,data:=.fields qs}/\(qs=#[]\/∃c q t more,qs=#[ps.getD 0 .none,ps.getD 1 .none,.ref c]/\ps[2]?=some (.str q t)/\H c=some (.tbl (#[.none,.str q t]++more))))
 | .met f x=>h.get? a=some (PySem.W.methodObj (.ref f) (.ref x))
 | .ext φ=>φ h/\(∃o,h.get? a=some o)/\∀h1 h2:Heap,φ h1->(∀o,h1.get? a=some o->h2.get? a=some o)->φ h2
def HOk(H:Hp)(h:Heap):Prop:=∀a o,H a=some o->cy P w H h a o
end
section
variable{P:Program}{w:World}{H H':Hp}{h h':Heap}{a:Addr}{o:HO}
theorem cy.lt(x:cy P w H h a o):a<h.objs.size:=by
 cases o with
 |lst xs=>obtain⟨_,_,_,_,e⟩:=x;exact zaq e
 |tup xs=>obtain⟨_,_,_,p⟩:=x;exact p.lt
 |dK kvs=>obtain⟨_,_,_,_,o,_,_,e,_⟩:=x;exact zaq e
 |dT kvs=>obtain⟨_,_,_,_,o,_,_,e,_⟩:=x;exact zaq e
 |set S n=>obtain⟨o,_,_,_,e,_⟩:=x;exact zaq e
 |ins C dx fs=>obtain⟨_,_,_,e,_⟩:=x;exact zaq e
 |own y=>obtain⟨_,e⟩:=x;exact zaq e
 |xd fs=>obtain⟨_,⟨_,_,_,e,_⟩,_⟩:=x;exact zaq e
 |rng lo hi=>obtain⟨_,_,_,e⟩:=x;exact zaq e
 |frz ob u=>obtain⟨e,_⟩:=x;exact zaq e
 |tbl ps=>
  rcases x with⟨_,_,_,_,_,_,_,_,ec,e,_⟩|⟨_,_,e,_⟩
  ·cases ec;exact zaq e
  ·exact zaq e
 |met f y=>exact zaq (show h.get? a=some _ from x)
 |ext φ=>obtain⟨_,⟨_,e⟩,_⟩:=x;exact zaq e
theorem Paired.G8{α β:Type}{F G : α->β->Prop}:∀{l₁:List α} {l₂:List β},Paired F l₁ l₂->(∀a b,F a b->G a b)->Paired G l₁ l₂
 |_,_,.nil,_=>.nil
 |_,_,.cons r t,f=>.cons (f _ _ r) (Paired.G8 t f)
theorem cy.stay(x:cy P w H h a o)(k:∀b u,(b=a\/H b=some (.own a))->h.get? b=some u->h'.get? b=some u)
  (ho:∀b,H b=some (.own a)->H' b=some (.own a)) (ht:∀b u,Kp u->H b=some u->H' b=some u):cy P w H' h' a o:=by
 induction o with
 |lst xs=>obtain⟨z,its,n,r,e⟩:=x;exact⟨z,its,n,r,k _ _ (.inl rfl) e⟩
 |tup xs=>obtain⟨z,its,r,ob,e,c⟩:=x;exact⟨z,its,r,ob,k _ _ (.inl rfl) e,c⟩
 |dK kvs=>obtain⟨z,y,vs,r,ob,es,ep,e,c⟩:=x;exact⟨z,y,vs,r,ob,es,ep,k _ _ (.inl rfl) e,c⟩
 |dT kvs=>
  obtain⟨z,y,xs,r,ob,es,ep,e,c⟩:=x;exact⟨z,y,xs,Paired.G8 r λp q z=>⟨z.1,ht _ _ trivial z.2.1,z.2.2⟩,ob,es,ep,k _ _ (.inl rfl) e,c⟩
 |set S n=>obtain⟨ob,es,ep,t,e,c⟩:=x;exact⟨ob,es,ep,t,k _ _ (.inl rfl) e,c⟩
 |ins C dx fs=>
  obtain⟨d,z,ne,e,mA,⟨od,es,ep,e2,c⟩,r⟩:=x;exact⟨ho _ d,z,ne,k _ _ (.inl rfl) e,mA,⟨od,es,ep,k _ _ (.inr d) e2,c⟩,r⟩
 |own y=>obtain⟨ob,e⟩:=x;exact⟨ob,k _ _ (.inl rfl) e⟩
 |xd fs=>obtain⟨mA,⟨od,es,ep,e,c⟩,r⟩:=x;exact⟨mA,⟨od,es,ep,k _ _ (.inl rfl) e,c⟩,r⟩
 |rng lo hi=>obtain⟨t,u,v,e⟩:=x;exact⟨t,u,v,k _ _ (.inl rfl) e⟩
 |frz ob u ih=>obtain⟨e,q⟩:=x;exact⟨k _ _ (.inl rfl) e,ih q⟩
 |tbl ps=>
  rcases x with⟨e0,q,t,e1,c,o,vs,tk,ec,eo,ed⟩|⟨e0,qs,e,c⟩
  ·cases ec
   exact .inl ⟨e0,q,t,e1,_,o,vs,tk,rfl,k _ _ (.inl rfl) eo,ed⟩
  ·refine .inr ⟨e0,qs,k _ _ (.inl rfl) e,?_⟩
   rcases c with c|⟨c,q,t,m,e1,e2,e3⟩
   ·exact .inl c
   ·exact .inr ⟨c,q,t,m,e1,e2,ht _ _ trivial e3⟩
 |met f y=>
  have e:h.get? a=some (PySem.W.methodObj (.ref f) (.ref y)):=x;show h'.get? a=some (PySem.W.methodObj (.ref f) (.ref y));exact k a _ (.inl rfl) e
 |ext φ=>obtain⟨p,⟨o,e⟩,st⟩:=x;exact⟨st _ _ p λo q=>k _ _ (.inl rfl) q,⟨o,k _ _ (.inl rfl) e⟩,st⟩
theorem HOk.lt(x:HOk P w H h)(e:H a=some o):a<h.objs.size:=(x a o e).lt
theorem HOk.fresh(x:HOk P w H h)(e:h.objs.size<=a):H a=none:=by
 cases q:H a with
 |none=>rfl
 |some u=>exact absurd (zaF (x.lt q) e) (za3 _)
theorem HOk.kept(x:HOk P w H h)(k:∀b u,h.get? b=some u->h'.get? b=some u):HOk P w H h':=λa o e=>
 (x a o e).stay (λb u _ q=>k b u q) (λ_ q=>q) λ_ _ _ q=>q
theorem HOk.laid(x:HOk P w H h)(k:∀b u,h.get? b=some u->h'.get? b=some u)(hp:h.objs.size<=a)(new:cy P w (upd H a o) h' a o):HOk P w (upd H a o) h':=λb u e=>by
 have hn:=x.fresh hp
 by_cases hb:b=a
 ·subst hb;rw[ax]at e;cases e;exact new
 ·rw[aq hb]at e
  exact(x b u e).stay (λc v _ q=>k c v q) (λc q=>by rw[aq (d9 q hn)];exact q) λc xs _ q=>by rw[aq (d9 q hn)];exact q
end
def Rd(H:Hp)(a:Addr)(u:HO):Prop:=H a=some u\/∃o,H a=some (.frz o u)
theorem Rd.of{H:Hp}{a:Addr}{u:HO}(h:H a=some u):Rd H a u:=.inl h
theorem Rd.ok{P:Program}{w:World}{H:Hp}{h:Heap}{a:Addr}{u:HO}(r:Rd H a u)(x:HOk P w H h):cy P w H h a u:=by
 rcases r with r|⟨o,r⟩
 ·exact x a u r
 ·obtain⟨_,q⟩:=x a _ r
  exact q
def Mut:Option HO->Prop
 |some (.lst _)=>True
 |some (.dK _)=>True
 |some (.dT _)=>True
 |some (.set _ _)=>True
 |some (.ins _ _ _)=>True
 |some (.ext _)=>True
 |_=>False
section
variable{P:Program}{w:World}{H:Hp}{h h':Heap}{x e:Addr}{o':HO}
theorem HOk.write(ok:HOk P w H h)(mu:Mut (H x))(he:e=x\/H e=some (.own x))(k:∀b u,b≠e->h.get? b=some u->h'.get? b=some u)(heo:∃u,h'.get? e=some u)
  (new:cy P w (upd H x o') h' x o'):HOk P w (upd H x o') h':=λb u q=>by
 have vD:∀c y,H c=some (.own y)->c≠x:=λc y r z=>by subst z;rw[r]at mu;exact mu
 have K5:∀c xs,H c=some (.tup xs)->c≠x:=λc xs r z=>by subst z;rw[r]at mu;exact mu
 by_cases hb:b=x
 ·subst hb;rw[ax]at q;cases q;exact new
 ·rw[aq hb]at q
  by_cases hbe:b=e
  ·have q':H b=some (.own x):=by
    rcases he with z|z
    ·exact absurd (hbe.trans z) hb
    ·rw[hbe];exact z
   rw[q]at q';cases q'
   obtain⟨v,hv⟩:=heo;exact⟨v,by rw[hbe];exact hv⟩
  ·refine(ok b u q).stay (λc v hc r=>k c v ?_ r) (λc r=>by rw[aq (vD c b r)];exact r) λc v hk r=>by rw[aq (λz=>by subst z;rw[r]at mu;cases v<;>first|exact hk|exact mu)];exact r
   rcases hc with rfl|hc
   ·exact hbe
   ·rintro rfl
    rcases he with z|z
    ·exact vD c b hc z
    ·rw[hc]at z;cases z;exact hb rfl
end
structure Un(fs ex:List Addr)(H H':Hp)(h h':Heap):Prop where
 keep:∀b o,h.get? b=some o->H b=none->b∉fs->b∉ex->h'.get? b=some o
 slot:∀b o,h.get? b=some o->H b=none->b∈fs->b∉ex->∃sl,h'.get? b=some {o with slots:=sl}
 free:∀b o,h.get? b=some o->H b=none->b∉ex->H' b=none
 there:∀b o,h.get? b=some o->b∉ex->∃o',h'.get? b=some o'
 tups:∀b xs,H b=some (.tup xs)->H' b=some (.tup xs)
 jB:∀b o u,H b=some (.frz o u)->H' b=some (.frz o u)
 jj:∀b ps,H b=some (.tbl ps)->∃more,H' b=some (.tbl (ps++more))
section
variable{fs fs' ex ex':List Addr}{H H1 H2:Hp}{h h1 h2 h':Heap}{a x e:Addr}{o:HO}
theorem Un.any(u:Un fs ex H H1 h h1){b:Addr}{ob:Obj}(q:h.get? b=some ob)(n:H b=none)(hx:b∉ex):∃sl,h1.get? b=some {ob with slots:=sl}:=by
 by_cases hb:b∈fs
 ·exact u.slot b ob q n hb hx
 ·exact⟨ob.slots,u.keep b ob q n hb hx⟩
theorem Un.trans(a:Un fs ex H H1 h h1)(b:Un fs ex H1 H2 h1 h2):Un fs ex H H2 h h2 where
 keep:=λc ob q n hc hx=>b.keep c ob (a.keep c ob q n hc hx) (a.free c ob q n hx) hc hx
 slot:=λc ob q n hc hx=>by
  obtain⟨sl,e1⟩:=a.slot c ob q n hc hx;obtain⟨sl',e2⟩:=b.slot c _ e1 (a.free c ob q n hx) hc hx;exact⟨sl',e2⟩
 free:=λc ob q n hx=>by
  obtain⟨o',e1⟩:=a.there c ob q hx;exact b.free c o' e1 (a.free c ob q n hx) hx
 there:=λc ob q hx=>by
  obtain⟨o',e1⟩:=a.there c ob q hx;exact b.there c o' e1 hx
 tups:=λc xs q=>b.tups c xs (a.tups c xs q)
 jB:=λc ob xs q=>b.jB c ob xs (a.jB c ob xs q)
 jj:=λc ps q=>by
  obtain⟨m1,e1⟩:=a.jj c ps q;obtain⟨m2,e2⟩:=b.jj c _ e1;exact⟨m1++m2,by rw[e2,Array.append_assoc]⟩
theorem Un.kept(k:∀b u,h.get? b=some u->h'.get? b=some u):Un fs ex H H h h' :=
 ⟨λb ob q _ _ _=>k b ob q,λb ob q _ _ _=>⟨ob.slots,k b ob q⟩,λ_ _ _ n _=>n,λb ob q _=>⟨ob,k b ob q⟩,λ_ _ q=>q,λ_ _ _ q=>q,λ_ ps q=>⟨#[],by rw[q];simp⟩⟩
theorem Un.refl:Un fs ex H H h h:=Un.kept λ_ _ q=>q
theorem Un.laid(k:∀b u,h.get? b=some u->h'.get? b=some u)(hp:h.objs.size<=a)(hn:H a=none):Un fs ex H (upd H a o) h h' where
 keep:=λb u q _ _ _=>k b u q
 slot:=λb u q _ _ _=>⟨u.slots,k b u q⟩
 free:=λb u q n _=>by rw[aq (zaS (zaF (zaq q) hp))];exact n
 there:=λb u q _=>⟨u,k b u q⟩
 tups:=λb xs q=>by rw[aq (d9 q hn)];exact q
 jB:=λb u xs q=>by rw[aq (d9 q hn)];exact q
 jj:=λb ps q=>⟨#[],by rw[aq (d9 q hn),q];simp⟩
theorem Un.write(mu:Mut (H x))(he:e=x\/H e=some (.own x))(k:∀b u,b≠e->h.get? b=some u->h'.get? b=some u)(heo:∃u,h'.get? e=some u):Un fs ex H (upd H x o) h h':=by
 have hx:∀b,H b=none->b≠x:=λb n z=>by subst z;rw[n]at mu;exact mu
 have hb:∀b,H b=none->b≠e:=λb n z=>by
  subst z;rcases he with r|r
  ·exact hx b n r
  ·rw[n]at r;cases r
 have hm:∀b u,H b=some u->¬Mut (some u)->b≠x:=λb u q nm z=>by subst z;rw[q]at mu;exact nm mu
 refine⟨λb u q n _ _=>k b u (hb b n) q,λb u q n _ _=>⟨u.slots,k b u (hb b n) q⟩,λb u q n _=>by rw[aq (hx b n)];exact n,λb u q _=>?_,
  λb xs q=>by rw[aq (hm b _ q λz=>z)];exact q,λb u xs q=>by rw[aq (hm b _ q λz=>z)];exact q,λb ps q=>⟨#[],by rw[aq (hm b _ q λz=>z),q];simp⟩⟩
 by_cases hbe:b=e
 ·subst hbe;exact heo
 ·exact⟨u,k b u hbe q⟩
theorem Un.mono(u:Un fs ex H H1 h h1)(hs:∀b∈fs,b∈fs')(hx:∀b∈ex,b∈ex'):Un fs' ex' H H1 h h1 :=
 ⟨λb ob q n hb he=>u.keep b ob q n (λz=>hb (hs b z)) λz=>he (hx b z),λ_ _ q n _ he=>u.any q n λz=>he (hx _ z),λb ob q n he=>u.free b ob q n λz=>he (hx b z),λb ob q he=>u.there b ob q λz=>he (hx b z),u.tups,u.jB,u.jj⟩
end
def trk(h:Heap)(H:Hp):List Addr:=(List.range h.objs.size).filter λa=>(H a).isSome
def tm(h:Heap)(H:Hp):Heap:=PySem.W.hideAll h (trk h H)
theorem z9(h:Heap)(H:Hp):(tm h H).objs.size=h.objs.size:=PySem.W.hideAll_size _ _
theorem Bh{h:Heap}{H:Hp}{b:Addr}{o:Obj}(e:h.get? b=some o)(n:H b=none):(tm h H).get? b=some o :=
 PySem.W.hideAll_get _ e λhm=>by
  have q:(H b).isSome=true:=(List.mem_filter.mp hm).2;rw[n]at q;simp at q
theorem DY{h:Heap}{H:Hp}{b:Addr}{o:Obj}(e:(tm h H).get? b=some o):h.get? b=some o/\H b=none:=by
 have e':h.get? b=some o:=PySem.W.of_hideAll (trk h H) e;refine⟨e',?_⟩;cases q:H b with
 |none=>rfl
 |some x=>
  have hm:b∈trk h H:=List.mem_filter.mpr ⟨List.mem_range.mpr (zaq e'),by simp[q]⟩
  have z:(tm h H).get? b=none:=PySem.W.hideAll_none (trk h H) hm;rw[z]at e;cases e
def DZ(g h:Heap)(L:Addr):List (Addr×Obj):=(List.range h.objs.size).filterMap λa=>if a=L\/(g.get? a).isSome=true then none else(h.get? a).map λo=>(a,o)
def rest(g h:Heap)(L d:Addr):List (Addr×Obj):=(DZ g h L).filter λp=>decide (p.1≠d)
def tq:FuncBody->Option Pos
 | .stmts [_,.Return (some (.Call _ _ [⟨_,.Lambda _ _ _ lp,_⟩] _)) _]=>some lp
 |_=>none
def Bi(fd:FuncData):Bool:=(tq fd.body).isSome
def vE(K:zag)(fd:FuncData):Option (Addr×Addr×Array Value):=match tq fd.body,fd.code with
 |some lp,.ref c=>(match K.lookup c with
   |some ⟨_,_,.fields vs,_⟩=>(match(vs[11]?:Option Value)with
     |some (.ref P)=>some (c,P,#[rawInt lp.line,rawInt lp.col,.str (fd.qualname++".<locals>.<lambda>") 0])
     |_=>none)
   |_=>none)
 |_,_=>none
def xD(K:zag)(c P:Addr)(ps:Array Value):Bool:=PySem.W.codeHdIn K c P&&(K.lookup P).isNone&&(K.all λp=>match p.2.data with
 | .func fd=>!Bi fd||vE K fd==some (c,P,ps)
 |_=>true)
def gF(K:zag):Option (Addr×Addr×Array Value):=match(K.findSome? λp=>match p.2.data with
  | .func fd=>vE K fd
  |_=>none)with
 |some (c,P,ps)=>if xD K c P ps then some (c,P,ps)else none
 |none=>none
structure Mod(K:zag)(mg:Str->Option Value)(base:Heap):Prop where
 kin:K.In base
 glob:base.Ns mainGlobals mg
 blt:∃mb,base.Ns builtinsNs mb/\∀x:Str,x≠"__name__"->mb x=bootBuiltins x
 nolimit:base.NoLimit
 bmain:∃bm ob,mg "__builtins__"=some (.ref bm)/\bm≠builtinsNs/\base.get? bm=some ob/\ob.cls=.type "module"/\ob.dict=some builtinsNs/\ob.data=.plain
structure Cx where
 prog:Program
 w:World
 K:zag
 mg:Str->Option Value
 base:Heap
 A:Around
 N:List Str
 s₀:Shared
 H₀:Hp
 env:Env
 outer:List Env
 stack:List Env
 ex:List Addr
 fn:Str->Bool
 calm:Bool
 pn:List (Addr×Obj)
 xe:Value->Shared->Prop
def frs(l:List Env):List Addr:=l.filterMap (·.frame)
abbrev Cx.fs(X:Cx):List Addr:=frs X.outer
def Vis(sc:Scope)(x:Str):Prop:=sc.names.lookup x=some .local\/sc.names.lookup x=some .cell\/sc.names.lookup x=some .free
def Loc(sc:Scope)(x:Str):Prop:=sc.names.lookup x=some .local\/sc.names.lookup x=some .cell
def Look(env:Env)(h:Heap)(m:Str->Option Value)(x:Str)(u:Value):Prop :=
 (env.kindOf x=some .local/\m x=some u)\/((env.kindOf x=some .cell\/env.kindOf x=some .free)/\∃c,env.cells.lookup x=some c/\h.IsCell c (some u))
structure Cx.Ok(X:Cx):Prop where
 mod:Mod X.K X.mg X.base
 kind:X.env.scope.kind=.function
 glob:X.env.globals=mainGlobals
 blt:X.env.builtins=builtinsNs
 above:X.s₀.heap.objs.size<=X.env.locals
 inj:∀x y c,X.env.cells.lookup x=some c->X.env.cells.lookup y=some c->x=y
 has:∀x,(X.env.kindOf x=some .cell\/X.env.kindOf x=some .free)->∃c,X.env.cells.lookup x=some c
 cab:∀x c,X.fn x=true->X.env.cells.lookup x=some c->X.s₀.heap.objs.size<=c
 hd:X.calm=true->X.A.handled=none
 frames:X.A.frames=some X.stack
 stk:X.stack=X.outer\/(X.stack=X.env::X.outer/\X.env.frame=some X.env.locals)
 exf:∀b∈X.ex,b≠X.env.locals/\∀x c,X.env.cells.lookup x=some c->c≠b
 bs:∀b o,X.base.get? b=some o->X.s₀.heap.get? b=some o/\X.H₀ b=none
 bsz:X.base.objs.size<=X.s₀.heap.objs.size
 xE:∀b o,X.base.get? b=some o->b∉X.ex
 vF:∀b∈X.ex,b∉X.fs
 mh:X.s₀.heap.FunFrames X.base X.outer
 frf:∀b∈X.fs,X.H₀ b=none
 tab:∀c T ps,gF X.K=some (c,T,ps)->∃more,X.H₀ T=some (.tbl (ps++more))
structure Inv(X:Cx)(pins:List (Addr×Obj))(σ:List (Option V))(H:Hp)(s:Shared):Prop where
 ok:X.Ok
 os:s.os=X.s₀.os
 bare:AllBare s.gens
 base:Un X.fs X.ex X.H₀ H X.s₀.heap s.heap
 loc:∃m,s.heap.Ns X.env.locals m/\∀(i:Nat) (x:Str) (v:V),X.N[i]?=some x->σ[i]?=some (some v)->Vis X.env.scope x->∃u,RelV v u/\Look X.env s.heap m x u
 cell:∀x c,X.env.cells.lookup x=some c->∃v,s.heap.IsCell c v
 free:H X.env.locals=none
 hE:∀x c,X.env.cells.lookup x=some c->H c=none
 pin:∀p∈X.pn++pins,s.heap.get? p.1=some p.2/\H p.1=none/\p.1≠X.env.locals/\p.1∉X.fs/\∀v,p.2.data≠.cell v
 hok:HOk X.prog X.w H s.heap
 len : σ.length=X.N.length
section
variable{X:Cx}{pins:List (Addr×Obj)}{σ:List (Option V)}{H H':Hp}{s:Shared}{h':Heap}
theorem Cx.Ok.Kq(ok:X.Ok){b:Addr}{o:Obj}(e:X.base.get? b=some o):b∉X.fs:=λhb=>by
 have:=(ok.mh.mem hb).1;rw[e]at this;cases this
theorem Inv.bs(I:Inv X pins σ H s):∀b o,X.base.get? b=some o->s.heap.get? b=some o/\H b=none:=λb o e=>
 ⟨I.base.keep b o (I.ok.bs b o e).1 (I.ok.bs b o e).2 (I.ok.Kq e) (I.ok.xE b o e),I.base.free b o (I.ok.bs b o e).1 (I.ok.bs b o e).2 (I.ok.xE b o e)⟩
theorem Inv.tab(I:Inv X pins σ H s):∀c T ps,gF X.K=some (c,T,ps)->∃more,H T=some (.tbl (ps++more)):=λc T ps e=>by
 obtain⟨m,h⟩:=I.ok.tab c T ps e;obtain⟨m2,h2⟩:=I.base.jj T _ h;exact⟨m++m2,by rw[h2,Array.append_assoc]⟩
theorem Inv.bk(I:Inv X pins σ H s):∀b o,X.base.get? b=some o->s.heap.get? b=some o:=λb o e=>(I.bs b o e).1
theorem Inv.mod(I:Inv X pins σ H s):Mod X.K X.mg X.base:=I.ok.mod
theorem Inv.kIn(I:Inv X pins σ H s):X.K.In s.heap:=I.ok.mod.kin.keeps I.bk
theorem Inv.nolimit(I:Inv X pins σ H s):s.heap.NoLimit:=I.ok.mod.nolimit.keeps I.bk
theorem Inv.fr(I:Inv X pins σ H s):∃m,Fr X.base X.env.locals s.heap m :=
 let⟨m,hn,_⟩:=I.loc
 ⟨m,hn,I.bk,zaX I.ok.bsz I.ok.above⟩
theorem Inv.lt(I:Inv X pins σ H s):X.env.locals<s.heap.objs.size:=let⟨_,hn,_⟩:=I.loc;hn.lt
theorem Inv.sz(I:Inv X pins σ H s):X.s₀.heap.objs.size<=s.heap.objs.size:=zaX I.ok.above (Nat.le_of_lt I.lt)
theorem Inv.Kr(I:Inv X pins σ H s){a:Addr}(h:s.heap.objs.size<=a):a∉X.fs:=λhb=>by
 obtain⟨_,o,ho,_⟩:=I.ok.mh.mem hb;exact absurd (zaF (zaq ho) (zaX I.sz h)) (za3 _)
theorem Inv.cne(I:Inv X pins σ H s):∀x c,X.env.cells.lookup x=some c->c≠X.env.locals:=λx c e z=>by
 obtain⟨v,o,ho,hd⟩:=I.cell x c e;obtain⟨m,⟨o',es,ep,ho',hd',_⟩,_⟩:=I.loc;rw[z,ho']at ho;cases ho;rw[hd']at hd;cases hd
theorem Inv.mh(I:Inv X pins σ H s):s.heap.FunFrames X.base X.outer:=by
 have all:∀(l:List Env),(∀b∈frs l,b∈X.fs)->X.s₀.heap.FunFrames X.base l->s.heap.FunFrames X.base l:=by
  intro l
  induction l with
  |nil=>intro _ _;trivial
  |cons env r ih=>
   intro hs hl;obtain⟨hk,⟨L,o,hf,hn,ho,hd⟩,hr⟩:=hl;have hL:L∈X.fs:=hs L (by unfold frs;rw[List.filterMap_cons,hf];exact zas)
   obtain⟨sl,e⟩:=I.base.slot L o ho (I.ok.frf L hL) hL λz=>I.ok.vF L z hL
   exact⟨hk,⟨L,_,hf,hn,e,hd⟩,ih (λb hb=>hs b (by unfold frs;rw[List.filterMap_cons,hf];exact zak _ hb)) hr⟩
 exact all X.outer (λ_ hb=>hb) I.ok.mh
theorem Inv.stack(I:Inv X pins σ H s):s.heap.FunFrames X.base X.stack:=by
 rcases I.ok.stk with e|⟨e,hf⟩
 ·rw[e];exact I.mh
 ·rw[e]
  obtain⟨m,hn,_⟩:=I.loc;refine .cons (by rw[I.ok.kind];decide) hf hn ?_ I.mh
  exact Heap.get?_none_of_le (zaX I.ok.bsz I.ok.above)
theorem Inv.xF(I:Inv X pins σ H s):∀b∈frs X.stack,b∈X.env.locals::X.fs:=λb hb=>by
 rcases I.ok.stk with e|⟨e,hf⟩
 ·rw[e]at hb;exact zak _ hb
 ·rw[e]at hb
  unfold frs at hb;rw[List.filterMap_cons,hf]at hb;exact hb
theorem Inv.pe(I:Inv X pins σ H s):∀b∈frs X.stack,H b=none:=λb hb=>by
 rcases zaf (I.xF b hb)with e|hb
 ·rw[e];exact I.free
 ·obtain⟨_,o,ho,_⟩:=I.ok.mh.mem hb
  exact I.base.free b o ho (I.ok.frf b hb) λz=>I.ok.vF b z hb
theorem Inv.step{g':Array GenState}{t':Nat}{d':Drawn}{ch:List Addr}(I:Inv X pins σ H s)
  (hch:∀b∈ch,(b∈X.ex\/X.s₀.heap.objs.size<=b)/\b≠X.env.locals/\(∀x c,X.env.cells.lookup x=some c->c≠b)/\∀p∈X.pn++pins,p.1≠b)
  (keep:∀b o,b≠X.env.locals->b∉X.fs->b∉ch->s.heap.get? b=some o->H b=none->h'.get? b=some o)
  (slot:∀b o,b≠X.env.locals->b∈X.fs->b∉ch->s.heap.get? b=some o->H b=none->∃sl,h'.get? b=some {o with slots:=sl}) (free:∀b o,b∉ch->s.heap.get? b=some o->H b=none->H' b=none)
  (there:∀b o,b∉ch->s.heap.get? b=some o->∃o',h'.get? b=some o')
  (tups:∀b xs,H b=some (.tup xs)->H' b=some (.tup xs)) (jB:∀b o u,H b=some (.frz o u)->H' b=some (.frz o u)) (jj:∀b ps,H b=some (.tbl ps)->∃more,H' b=some (.tbl (ps++more)))
  (ns:∀m,s.heap.Ns X.env.locals m->h'.Ns X.env.locals m) (hok:HOk X.prog X.w H' h') (hg:AllBare g') :
  Inv X pins σ H' {s with heap:=h',gens:=g',drawn:=d',toks:=t'}:=by
 have neL:∀b o,X.s₀.heap.get? b=some o->b≠X.env.locals:=λb o e=>zaS (zaF (zaq e) I.ok.above)
 have neC:∀b o,X.s₀.heap.get? b=some o->b∉X.ex->b∉ch:=λb o e hx hb=>by
  rcases(hch b hb).1 with z|z
  ·exact hx z
  ·exact absurd (zaF (zaq e) z) (za3 _)
 have cellK:∀x c,X.env.cells.lookup x=some c->∀v,s.heap.IsCell c v->h'.IsCell c v:=λx c e v ⟨o,ho,hd⟩=>by
  have nch:c∉ch:=λz=>(hch c z).2.2.1 x c e rfl
  by_cases hc:c∈X.fs
  ·obtain⟨sl,q⟩:=slot c o (I.cne x c e) hc nch ho (I.hE x c e)
   exact⟨_,q,hd⟩
  ·exact⟨o,keep c o (I.cne x c e) hc nch ho (I.hE x c e),hd⟩
 refine⟨I.ok,I.os,hg,⟨λb o e n hb hx=>?_,λb o e n hb hx=>?_,λb o e n hx=>?_,λb o e hx=>?_,λb xs e=>tups b xs (I.base.tups b xs e),λb o xs e=>jB b o xs (I.base.jB b o xs e),λb ps e=>?_⟩,?_,λx c e=>?_,?_,λx c e=>?_,λp hp=>?_,hok,I.len⟩
 ·exact keep b o (neL b o e) hb (neC b o e hx) (I.base.keep b o e n hb hx) (I.base.free b o e n hx)
 ·obtain⟨sl,e1⟩:=I.base.slot b o e n hb hx
  obtain⟨sl',e2⟩:=slot b _ (neL b o e) hb (neC b o e hx) e1 (I.base.free b o e n hx);exact⟨sl',e2⟩
 ·obtain⟨o',e1⟩:=I.base.there b o e hx
  exact free b o' (neC b o e hx) e1 (I.base.free b o e n hx)
 ·obtain⟨o',e1⟩:=I.base.there b o e hx
  exact there b o' (neC b o e hx) e1
 ·obtain⟨m1,e1⟩:=I.base.jj b ps e
  obtain⟨m2,e2⟩:=jj b _ e1;exact⟨m1++m2,by rw[e2,Array.append_assoc]⟩
 ·obtain⟨m,hn,hl⟩:=I.loc
  refine⟨m,ns m hn,λi x v e1 e2 e3=>?_⟩
  obtain⟨u,r,l⟩:=hl i x v e1 e2 e3;refine⟨u,r,?_⟩;rcases l with l|⟨k,c,e,z⟩
  ·exact .inl l
  ·exact .inr ⟨k,c,e,cellK x c e _ z⟩
 ·obtain⟨v,z⟩:=I.cell x c e
  exact⟨v,cellK x c e v z⟩
 ·obtain⟨m,⟨o,_,_,ho,_⟩,_⟩:=I.loc
  exact free _ o (λz=>(hch _ z).2.1 rfl) ho I.free
 ·obtain⟨v,o,ho,hd⟩:=I.cell x c e
  exact free c o (λz=>(hch c z).2.2.1 x c e rfl) ho (I.hE x c e)
 ·obtain⟨e,n,ne,nf,d⟩:=I.pin p hp
  have nch:p.1∉ch:=λz=>(hch p.1 z).2.2.2 p hp rfl
  exact⟨keep p.1 p.2 ne nf nch e n,free p.1 p.2 nch e n,ne,nf,d⟩
theorem Inv.un{t':Nat}(I:Inv X pins σ H s)(u:Un X.fs [] H H' s.heap h')(hok:HOk X.prog X.w H' h'):Inv X pins σ H' {s with heap:=h',toks:=t'}:=by
 obtain⟨m,⟨o,es,ep,ho,r⟩,_⟩:=id I.loc;obtain⟨sl,hL⟩:=u.any ho I.free (by simp)
 exact I.step (g':=s.gens) (d':=s.drawn) (ch:=[]) (λ_ z=>nomatch z) (λb o _ hb _ e n=>u.keep b o e n hb (by simp)) (λb o _ hb _ e n=>u.slot b o e n hb (by simp)) (λb o _ e n=>u.free b o e n (by simp)) (λb o _ e=>u.there b o e (by simp)) u.tups u.jB u.jj (λm' hm=>by
  obtain⟨o',es',ep',ho',r'⟩:=hm;rw[ho]at ho';cases ho'
  exact⟨_,es',ep',hL,r'⟩) hok I.bare
theorem Inv.call{g':Array GenState}{t':Nat}{d':Drawn}{ch:List Addr}(I:Inv X pins σ H s)(u:Un (frs X.stack) ch H H' s.heap h')(hok:HOk X.prog X.w H' h')(hg:AllBare g')
  (hch:∀b∈ch,(b∈X.ex\/X.s₀.heap.objs.size<=b)/\b≠X.env.locals/\(∀x c,X.env.cells.lookup x=some c->c≠b)/\∀p∈X.pn++pins,p.1≠b) :
  Inv X pins σ H' {s with heap:=h',gens:=g',drawn:=d',toks:=t'}:=by
 obtain⟨m,⟨o,es,ep,ho,r⟩,_⟩:=id I.loc;obtain⟨sl,hL⟩:=u.any ho I.free λz=>(hch _ z).2.1 rfl
 exact I.step (ch:=ch) hch (λb o hL hb hc e n=>u.keep b o e n (λz=>(zaf (I.xF b z)).elim hL hb) hc) (λb o _ _ hc e n=>u.any e n hc) (λb o hc e n=>u.free b o e n hc) (λb o hc e=>u.there b o e hc) u.tups u.jB u.jj (λm' hm=>by
  obtain⟨o',es',ep',ho',r'⟩:=hm;rw[ho]at ho';cases ho'
  exact⟨_,es',ep',hL,r'⟩) hok hg
theorem Inv.turned{t':Nat}{it:Addr}(I:Inv X pins σ H s)(k:∀b o,b≠it->s.heap.get? b=some o->h'.get? b=some o)(hn:H it=none)(hL:it≠X.env.locals)
  (h1:it∈X.ex\/X.s₀.heap.objs.size<=it) (h2:∀x c,X.env.cells.lookup x=some c->c≠it) (h3:∀p∈X.pn++pins,p.1≠it):Inv X pins σ H {s with heap:=h',toks:=t'}:=by
 have nit:∀b u,H b=some u->b≠it:=λb u e z=>by rw[z,hn]at e;cases e
 refine I.step (g':=s.gens) (d':=s.drawn) (ch:=[it]) (λb hb=>?_) (λb o _ _ hc e _=>k b o (λz=>hc (by simp[z])) e) (λb o _ _ hc e _=>⟨o.slots,k b o (λz=>hc (by simp[z])) e⟩) (λ_ _ _ _ n=>n)
  (λb o hc e=>⟨o,k b o (λz=>hc (by simp[z])) e⟩) (λ_ _ e=>e) (λ_ _ _ e=>e) (λb ps e=>⟨#[],by rw[e];simp⟩) (λm hm=>?_) (λb u e=>?_) I.bare
 ·have e:b=it:=by simpa using hb
  subst e;exact⟨h1,hL,h2,h3⟩
 ·obtain⟨o,es,ep,ho,r⟩:=hm
  exact⟨o,es,ep,k _ o (Ne.symm hL) ho,r⟩
 ·refine(I.hok b u e).stay (λc v hc q=>k c v ?_ q) (λ_ q=>q) λ_ _ _ q=>q
  rcases hc with z|z
  ·rw[z];exact nit b u e
  ·exact nit c _ z
theorem Inv.tok(I:Inv X pins σ H s)(t:Nat):Inv X pins σ H {s with toks:=t}:=I.un (h':=s.heap) (t':=t) Un.refl I.hok
theorem Inv.kept{t':Nat}(I:Inv X pins σ H s)(k:∀b u,s.heap.get? b=some u->h'.get? b=some u):Inv X pins σ H {s with heap:=h',toks:=t'}:=I.un (Un.kept k) (I.hok.kept k)
theorem Inv.laid{a:Addr}{o:HO}{t':Nat}(I:Inv X pins σ H s)(k:∀b u,s.heap.get? b=some u->h'.get? b=some u)(hp:s.heap.objs.size<=a)(new:cy X.prog X.w (upd H a o) h' a o) :
  Inv X pins σ (upd H a o) {s with heap:=h',toks:=t'}:=I.un (Un.laid k hp (I.hok.fresh hp)) (I.hok.laid k hp new)
theorem Inv.write{x e:Addr}{o:HO}{t':Nat}(I:Inv X pins σ H s)(mu:Mut (H x))(he:e=x\/H e=some (.own x))(k:∀b u,b≠e->s.heap.get? b=some u->h'.get? b=some u)(heo:∃u,h'.get? e=some u)
  (new:cy X.prog X.w (upd H x o) h' x o):Inv X pins σ (upd H x o) {s with heap:=h',toks:=t'}:=I.un (Un.write mu he k heo) (I.hok.write mu he k heo new)
theorem Inv.weak{σ':List (Option V)}(I:Inv X pins σ H s)(hl : σ'.length=σ.length)(w:∀(i:Nat) v,σ'[i]?=some (some v)->σ[i]?=some (some v)):Inv X pins σ' H s :=
 ⟨I.ok,I.os,I.bare,I.base,let⟨m,hn,hl'⟩:=I.loc;⟨m,hn,λi x v e1 e2 e3=>hl' i x v e1 (w i v e2) e3⟩,I.cell,I.free,I.hE,I.pin,I.hok,hl.trans I.len⟩
theorem Inv.yP{Gh:List (Addr×Obj)}(I:Inv X pins σ H s)(h:∀p∈Gh,s.heap.get? p.1=some p.2/\H p.1=none/\p.1≠X.env.locals/\p.1∉X.fs/\∀v,p.2.data≠.cell v):Inv X Gh σ H s :=
 ⟨I.ok,I.os,I.bare,I.base,I.loc,I.cell,I.free,I.hE,λp hp=>(zae hp).elim (λz=>I.pin p (zaW _ z)) (h p),I.hok,I.len⟩
theorem vG{N:List Str}(hN:N.Nodup){i j:Nat}{x:Str}(a:N[i]?=some x)(b:N[j]?=some x):i=j:=by
 obtain⟨h1,e1⟩:=zac a;obtain⟨h2,e2⟩:=zac b;exact(List.getElem_inj hN).mp (e1.trans e2.symm)
theorem Aa{M:Model}{A:Around}{E:Value->Shared->Prop}{i:Nat}{x:Str}{v:V}{u:Value}{Q:Unit->Shared->Prop}(I:Inv X pins σ H s)(hN:X.N.Nodup)(hi:X.N[i]?=some x)(hx:Loc X.env.scope x)(r:RelV v u)
  (h:∀s',Inv X pins (σ.set i (some v)) H s'->(∃a,Heap.SameBut a s.heap s'.heap/\(a=X.env.locals\/X.env.cells.lookup x=some a))->Q () s') (hf:X.fn x=true\/X.env.scope.names.lookup x=some .local:=by first|exact .inl rfl|exact .inr rfl|assumption):wpAny M A (storeName X.env x u) Q E s:=by
 obtain⟨m,hn,hl⟩:=id I.loc;have hcls:(X.env.scope.kind== .class||(X.env.scope.kind== .module&&X.env.locals !=X.env.globals))=false:=by rw[I.ok.kind];rfl
 have hiσ:i<σ.length:=by rw[I.len];exact(zac hi).1
 have cne:=I.cne;have tracked:∀{a:Addr} {h':Heap},(∃o,s.heap.get? a=some o/\H a=none)->Heap.SameBut a s.heap h'->HOk X.prog X.w H h':=fun{a h'} ha hs b ob e=>by
  obtain⟨_,_,hfree⟩:=ha;refine(I.hok b ob e).stay (λc w' hc q=>(hs.2 c ?_).trans q) (λ_ q=>q) λ_ _ _ q=>q
  rintro rfl
  rcases hc with rfl|hc
  ·rw[hfree]at e;cases e
  ·rw[hfree]at hc;cases hc
 rcases hx with hk|hk
 ·refine wpAny_storeName_local hk hn (λh' hn' hs=>?_) hcls
  obtain⟨oL,_,_,hoL,_⟩:=id hn;refine h _ ⟨I.ok,I.os,I.bare,⟨λb o e n hb hx=>?_,λb o e n hb hx=>?_,I.base.free,λb o e hx=>?_,I.base.tups,I.base.jB,I.base.jj⟩,⟨_,hn',λj y v' e1 e2 e3=>?_⟩,λy c e=>?_,I.free,I.hE,λp hp=>?_,tracked ⟨oL,hoL,I.free⟩ hs,by simpa using I.len⟩ ⟨_,hs,.inl rfl⟩
  ·exact(hs.2 b (zaS (zaF (zaq e) I.ok.above))).trans (I.base.keep b o e n hb hx)
  ·obtain⟨sl,e1⟩:=I.base.slot b o e n hb hx
   exact⟨sl,(hs.2 b (zaS (zaF (zaq e) I.ok.above))).trans e1⟩
  ·obtain⟨o',e1⟩:=I.base.there b o e hx
   exact⟨o',(hs.2 b (zaS (zaF (zaq e) I.ok.above))).trans e1⟩
  ·by_cases hj:j=i
   ·subst hj
    rw[hi]at e1;cases e1
    rw[zav hiσ]at e2;cases e2;exact⟨u,r,.inl ⟨hk,by simp⟩⟩
   ·rw[zaA (Ne.symm hj)]at e2
    obtain⟨u',r',q⟩:=hl j y v' e1 e2 e3;refine⟨u',r',?_⟩;rcases q with⟨k,e⟩|⟨k,c,e,z⟩
    ·refine .inl ⟨k,?_⟩
     have:y≠x:=λe=>hj (vG hN e1 (e▸hi))
     simp[this,e]
    ·exact .inr ⟨k,c,e,z.sameBut hs (cne y c e)⟩
  ·obtain⟨w',z⟩:=I.cell y c e
   exact⟨w',z.sameBut hs (cne y c e)⟩
  ·obtain⟨e,n,ne,nf,d⟩:=I.pin p hp
   exact⟨(hs.2 p.1 ne).trans e,n,ne,nf,d⟩
 ·have hfn:X.fn x=true:=by
   rcases hf with z|z
   ·exact z
   ·rw[z]at hk;cases hk
  obtain⟨c,hc⟩:=I.ok.has x (.inl hk);obtain⟨w',z⟩:=I.cell x c hc;refine wpAny_storeName_cell I.ok.kind hk hc z (λh' hc' hs=>?_)
  obtain⟨oc,hoc,Ks⟩:=id z;refine h {s with heap:=h'} ⟨I.ok,I.os,I.bare,⟨λb o e n hb hx=>?_,λb o e n hb hx=>?_,I.base.free,λb o e hx=>?_,I.base.tups,I.base.jB,I.base.jj⟩,⟨m,hn.sameBut hs (Ne.symm (cne x c hc)),λj y v' e1 e2 e3=>?_⟩,λy c' e=>?_,I.free,I.hE,λp hp=>?_,tracked ⟨oc,hoc,I.hE x c hc⟩ hs,by simpa using I.len⟩ ⟨c,hs,.inr hc⟩
  ·exact(hs.2 b (zaS (zaF (zaq e) (I.ok.cab x c hfn hc)))).trans (I.base.keep b o e n hb hx)
  ·obtain⟨sl,e1⟩:=I.base.slot b o e n hb hx
   exact⟨sl,(hs.2 b (zaS (zaF (zaq e) (I.ok.cab x c hfn hc)))).trans e1⟩
  ·obtain⟨o',e1⟩:=I.base.there b o e hx
   exact⟨o',(hs.2 b (zaS (zaF (zaq e) (I.ok.cab x c hfn hc)))).trans e1⟩
  ·by_cases hj:j=i
   ·subst hj
    rw[hi]at e1;cases e1
    rw[zav hiσ]at e2;cases e2;exact⟨u,r,.inr ⟨.inl hk,c,hc,hc'⟩⟩
   ·rw[zaA (Ne.symm hj)]at e2
    obtain⟨u',r',q⟩:=hl j y v' e1 e2 e3;refine⟨u',r',?_⟩;rcases q with q|⟨k,c',e,z'⟩
    ·exact .inl q
    ·refine .inr ⟨k,c',e,z'.sameBut hs ?_⟩
     rintro rfl
     exact hj (vG hN e1 (I.ok.inj _ _ _ e hc▸hi))
  ·by_cases hcc:c'=c
   ·subst hcc;exact⟨_,hc'⟩
   ·obtain⟨w2,z2⟩:=I.cell y c' e
    exact⟨w2,z2.sameBut hs hcc⟩
  ·obtain⟨e,n,ne,nf,d⟩:=I.pin p hp
   refine⟨(hs.2 p.1 ?_).trans e,n,ne,nf,d⟩;intro q;rw[q,hoc]at e;have q':oc=p.2:=zaQ e;exact d w' (by rw[<-q'];exact Ks)
theorem pN{M:Model}{A:Around}{E:Value->Shared->Prop}{i:Nat}{x:Str}{v:V}{u:Value}{Q:Unit->Shared->Prop}(I:Inv X pins σ H s)(hN:X.N.Nodup)(hi:X.N[i]?=some x)(hx:Loc X.env.scope x)(r:RelV v u)
  (h:∀s',Inv X pins (σ.set i (some v)) H s'->Q () s') (hf:X.fn x=true\/X.env.scope.names.lookup x=some .local:=by first|exact .inl rfl|exact .inr rfl|assumption):wpAny M A (storeName X.env x u) Q E s :=
 Aa I hN hi hx r (λs' I' _=>h s' I') hf
theorem Inv.call'{s':Shared}{ch:List Addr}(I:Inv X pins σ H s)(ho:s'.os=s.os)(u:Un (frs X.stack) ch H H' s.heap s'.heap)(hok:HOk X.prog X.w H' s'.heap)(hg:AllBare s'.gens)
  (hch:∀b∈ch,(b∈X.ex\/X.s₀.heap.objs.size<=b)/\b≠X.env.locals/\(∀x c,X.env.cells.lookup x=some c->c≠b)/\∀p∈X.pn++pins,p.1≠b):Inv X pins σ H' s':=by
 obtain⟨h',g',d',t',o'⟩:=s';have e:o'=s.os:=ho;subst e;exact I.call (g':=g') (t':=t') (d':=d') u hok hg hch
end
abbrev XK:=Value->Option Addr->Hp->Prop
abbrev St:=List (Option V)
abbrev VK:=V->Hp->Prop
abbrev TE:=St->Hp->VK->Prop
abbrev TT:=St->Hp->(Bool->Hp->Prop)->Prop
abbrev TA:=St->Hp->(List V->Hp->Prop)->Prop
structure Ends where
 nx:St->Hp->Prop
 rt:VK
 bk:St->Hp->Prop:=λ_ _=>False
 ct:St->Hp->Prop:=λ_ _=>False
abbrev TS:=Ends->St->Hp->Prop
def EP(X:Cx)(pins:List (Addr×Obj))(σ:St)(Q:VK)(u:Value)(s':Shared):Prop:=∃v H',Inv X pins σ H' s'/\RelV v u/\Q v H'
def TP(X:Cx)(pins:List (Addr×Obj))(σ:St)(Q:Bool->Hp->Prop)(b:Bool)(s':Shared):Prop:=∃H',Inv X pins σ H' s'/\Q b H'
def AP(X:Cx)(pins:List (Addr×Obj))(σ:St)(Q:List V->Hp->Prop)(us:List Value)(s':Shared):Prop:=∃vs H',Inv X pins σ H' s'/\Vals vs us/\Q vs H'
def SP(X:Cx)(pins:List (Addr×Obj))(D:Ends)(f:Flow)(s':Shared):Prop :=
 match f with
 | .next=>∃σ' H',Inv X pins σ' H' s'/\D.nx σ' H'
 | .brk=>∃σ' H',Inv X pins σ' H' s'/\D.bk σ' H'
 | .cont=>∃σ' H',Inv X pins σ' H' s'/\D.ct σ' H'
 | .ret u=>∃v σ' H',Inv X pins σ' H' s'/\RelV v u/\D.rt v H'
def PE(X:Cx)(e:Expr)(t:TE):Prop :=
 ∀(pins:List (Addr×Obj)) (s:Shared) (σ:St) (H:Hp) (Q:VK),Inv X pins σ H s->t σ H Q->wpAny (model X.prog X.w) X.A (eval e X.env) (EP X pins σ Q) X.xe s
def PT(X:Cx)(e:Expr)(t:TT):Prop :=
 ∀(pins:List (Addr×Obj)) (s:Shared) (σ:St) (H:Hp) (Q:Bool->Hp->Prop),Inv X pins σ H s->t σ H Q->wpAny (model X.prog X.w) X.A (isTrue e X.env (eval e X.env)) (TP X pins σ Q) X.xe s
def PW(X:Cx)(e:Expr)(t:TT):Prop :=
 ∀(whole:Sem Value) (pins:List (Addr×Obj)) (s:Shared) (σ:St) (H:Hp) (Q:Bool->Hp->Prop),Inv X pins σ H s->t σ H Q->wpAny (model X.prog X.w) X.A (isTrue e X.env whole) (TP X pins σ Q) X.xe s
theorem PW.pt{X:Cx}{e:Expr}{t:TT}(h:PW X e t):PT X e t:=h _
def PA(X:Cx)(es:List Expr)(t:TA):Prop :=
 ∀(pos:Pos) (pins:List (Addr×Obj)) (s:Shared) (σ:St) (H:Hp) (Q:List V->Hp->Prop),Inv X pins σ H s->t σ H Q->wpAny (model X.prog X.w) X.A (spliced (backTo pos (starEach es X.env))) (AP X pins σ Q) X.xe s
def PS(X:Cx)(st:Stmt)(t:TS):Prop :=
 ∀(pins:List (Addr×Obj)) (s:Shared) (σ:St) (H:Hp) (D:Ends),Inv X pins σ H s->t D σ H->wpAny (model X.prog X.w) X.A (exec st X.env) (SP X pins D) X.xe s
def PSs(X:Cx)(st:List Stmt)(t:TS):Prop :=
 ∀(pins:List (Addr×Obj)) (s:Shared) (σ:St) (H:Hp) (D:Ends),Inv X pins σ H s->t D σ H->wpAny (model X.prog X.w) X.A (execs st X.env) (SP X pins D) X.xe s
theorem thn{α:Type}{t:Sem α}{Q Q' : α->Shared->Prop}{M:Model}{A:Around}{E:Value->Shared->Prop}{s:Shared}(h:wpAny M A t Q E s)(hQ:∀a s,Q a s->Q' a s):wpAny M A t Q' E s:=za6 h hQ λ_ _ x=>x
section
variable{X:Cx}
def my(i:Nat):TE:=fun σ H Q=>∃v,σ[i]?=some (some v)/\Q v H
def tC(v:V):TE:=λ_ H Q=>Q v H
theorem G9{i:Nat}{x:Str}{pos:Pos}(hN:X.N[i]?=some x)(hv:Vis X.env.scope x)(hd:(x==("__debug__":Str))=false:=by decide)(hcd:(x==("__classdict__":Str))=false:=by decide):PE X (.Name x pos) (my i):=by
 intro pins s σ H Q I h;obtain⟨v,e,h⟩:=h;obtain⟨m,hn,hl⟩:=I.loc;obtain⟨u,r,l⟩:=hl i x v hN e hv;have fin:EP X pins σ Q u s:=⟨v,H,I,r,h⟩;rcases l with⟨hk,hm⟩|⟨hk,c,hc,hcell⟩
 ·exact wpAny_Name (wpAny_loadName_local I.ok.kind hk hn hm fin) hd
 ·rcases hk with hk|hk
  ·exact wpAny_Name (wpAny_loadName_cell I.ok.kind hk hc hcell fin) hd
  ·exact wpAny_Name (wpAny_loadName_free I.ok.kind hk hc hcell fin hcd) hd
theorem aw{i j pos}:PE X (.Constant (.int i) j pos) (tC (.int i)):=λ_ _ _ H _ I h=>wpAny_Constant_int ⟨.int i,H,I.tok _,⟨_,rfl⟩,h⟩
theorem fq{b j pos}:PE X (.Constant (.bool b) j pos) (tC (.bl b)):=λ_ _ _ H _ I h=>Constant_bool ⟨.bl b,H,I,rfl,h⟩
theorem fC{j pos}:PE X (.Constant .none j pos) (tC .non):=λ_ _ _ H _ I h=>Constant_none ⟨.non,H,I,rfl,h⟩
theorem gh{x j pos}:PE X (.Constant (.str x) j pos) (tC (.str x)):=λ_ _ _ H _ I h=>Calls.Constant_str ⟨.str x,H,I.tok _,⟨_,rfl⟩,h⟩
def Gl(X:Cx)(x:Str):Prop:=X.env.kindOf x=some .globalImplicit
theorem D1{E:Value->Shared->Prop}{pins:List (Addr×Obj)}{s:Shared}{σ:St}{H:Hp}{x:Str}{u:Value}{pos:Pos}{Q:Value->Shared->Prop}(I:Inv X pins σ H s)(hg:Gl X x)(hm:X.mg x=some u)(h:Q u s)
  (hd:(x==("__debug__":Str))=false:=by decide):wpAny (model X.prog X.w) X.A (eval (.Name x pos) X.env) Q E s :=
 Calls.Name_function_global I.ok.kind hg (Calls.loadGlobal_global (by rw[I.ok.glob];exact I.mod.glob.keeps I.bk) hm h) hd
theorem nM{E:Value->Shared->Prop}{pins:List (Addr×Obj)}{s:Shared}{σ:St}{H:Hp}{x:Str}{u:Value}{pos:Pos}{Q:Value->Shared->Prop}(I:Inv X pins σ H s)(hg:Gl X x)(hm:X.mg x=none)(hv:bootBuiltins x=some u)(h:Q u s)
  (hn:x≠"__name__":=by decide) (hd:(x==("__debug__":Str))=false:=by decide):wpAny (model X.prog X.w) X.A (eval (.Name x pos) X.env) Q E s:=by
 obtain⟨mb,h1,h2⟩:=I.mod.blt;exact Calls.Name_function_global I.ok.kind hg (Calls.loadGlobal_builtin (by rw[I.ok.glob];exact I.mod.glob.keeps I.bk) hm (by rw[I.ok.blt];exact h1.keeps I.bk) ((h2 x hn).trans hv) h) hd
theorem D2{x:Str}{v:V}{u:Value}{pos:Pos}(hg:Gl X x)(hm:X.mg x=none)(hv:bootBuiltins x=some u)(r:RelV v u)(hn:x≠"__name__":=by decide)(hd:(x==("__debug__":Str))=false:=by decide):PE X (.Name x pos) (tC v) :=
 λ_ _ _ H _ I h=>nM I hg hm hv ⟨v,H,I,r,h⟩ hn hd
variable{a b:Expr}{ta tb:TE}{pos:Pos}
def PC(X:Cx)(op:CmpOp)(a b:Expr)(t:TE):Prop :=
 ∀(pins:List (Addr×Obj)) (s:Shared) (σ:St) (H:Hp) (Q:VK),Inv X pins σ H s->t σ H Q->
  wpAny (model X.prog X.w) X.A (eval a X.env) (λv s₁=>wpAny (model X.prog X.w) X.A (eval b X.env) (λu s₂=>wpAny (model X.prog X.w) X.A (compareOp op v u) (EP X pins σ Q) X.xe s₂) X.xe s₁) X.xe s
theorem Bj(b:Expr){op:CmpOp}(h:op≠.In)(h2:op≠.NotIn):behindInMarks op b=false:=by
 have e1:(op==CmpOp.In)=false:=by cases op<;>first|rfl|exact absurd rfl h
 have e2:(op==CmpOp.NotIn)=false:=by cases op<;>first|rfl|exact absurd rfl h2
 cases b<;>simp[behindInMarks,e1,e2]
def tB(t:TE):TT:=fun σ H Q=>t σ H λx H1=>∃c,x=.bl c/\Q c H1
theorem Bl{op:CmpOp}{t:TE}(h:PC X op a b t)(h1:behindInMarks op b=false:=by first|exact Bj _ (by decide) (by decide)|rfl):PT X (.Compare a [op] [b] pos) (tB t):=by
 intro pins s σ H Q I hw;refine wpAny_isTrue_Compare1 (thn (h pins s σ H _ I hw) λv s1 h1=>thn h1 λu s2 h2=>thn h2 λc s3 ⟨x,H1,I1,r1,q1⟩=>?_) h1
 obtain⟨d,rfl,q⟩:=q1;cases r1;exact wpAny_truthy_bool ⟨H1,I1,q⟩
theorem dq{e:Expr}{t:TE}(h:PE X e t)(he:∀whole,isTrue e X.env whole=(do let v<-whole;standAt e.pos;holding [v] (truthy v)):=by intro _;rfl):PT X e (tB t):=by
 intro pins s σ H Q I hw;refine isTrue_plain (thn (h pins s σ H _ I hw) λv s1 ⟨x,H1,I1,r1,q1⟩=>?_) (he _)
 obtain⟨d,rfl,q⟩:=q1;cases r1;exact wpAny_truthy_bool ⟨H1,I1,q⟩
variable{tA tB':TT}{rest:List Expr}
def Jc(t u:TT):TT:=fun σ H Q=>t σ H λc H1=>if c=true then u σ H1 Q else Q false H1
def tOr(t u:TT):TT:=fun σ H Q=>t σ H λc H1=>if c=true then Q true H1 else u σ H1 Q
def Ha(t:TT):TT:=fun σ H Q=>t σ H λc H1=>Q (!c) H1
theorem yQ(ha:PT X a tA):PW X (.BoolOp .And [a] pos) tA:=by
 intro wh pins s σ H Q I h;refine isTrue_and (thn (ha pins s σ H Q I h) λc s1 e=>?_)
 cases c with
 |true=>exact isTrue_and_nil e
 |false=>exact e
theorem gX(ha:PT X a tA):PW X (.BoolOp .Or [a] pos) tA:=by
 intro wh pins s σ H Q I h;refine isTrue_or (thn (ha pins s σ H Q I h) λc s1 e=>?_)
 cases c with
 |false=>exact isTrue_or_nil e
 |true=>exact e
theorem Bm(ha:PT X a tA)(hb:PW X (.BoolOp .And (b::rest) pos) tB'):PW X (.BoolOp .And (a::b::rest) pos) (Jc tA tB'):=by
 intro wh pins s σ H Q I h;refine isTrue_and (thn (ha pins s σ H _ I h) λc s1 ⟨H1,I1,q1⟩=>?_)
 cases c with
 |true=>exact hb wh pins s1 σ H1 Q I1 q1
 |false=>exact⟨H1,I1,q1⟩
theorem fu(ha:PT X a tA)(hb:PW X (.BoolOp .Or (b::rest) pos) tB'):PW X (.BoolOp .Or (a::b::rest) pos) (tOr tA tB'):=by
 intro wh pins s σ H Q I h;refine isTrue_or (thn (ha pins s σ H _ I h) λc s1 ⟨H1,I1,q1⟩=>?_)
 cases c with
 |true=>exact⟨H1,I1,q1⟩
 |false=>exact hb wh pins s1 σ H1 Q I1 q1
theorem eR(ha:PT X a tA):PT X (.UnaryOp .Not a pos) (Ha tA):=by
 intro pins s σ H Q I h;exact isTrue_not (ha pins s σ H (λc H1=>Q (!c) H1) I h)
def Gi(ta tb:TE):TE:=fun σ H Q=>ta σ H λx H1=>∃c,x=.bl c/\if c=true then tb σ H1 Q else Q (.bl false) H1
theorem Hb{op}{t:TE}(h:PE X a t):PE X (.BoolOp op [a] pos) t:=λpins s σ H Q I hw=>BoolOp_one (h pins s σ H Q I hw)
theorem Hc(ha:PE X a ta)(hb:PE X (.BoolOp .And (b::rest) pos) tb):PE X (.BoolOp .And (a::b::rest) pos) (Gi ta tb):=by
 intro pins s σ H Q I h;refine BoolOp_and (thn (ha pins s σ H _ I h) λv s1 ⟨x,H1,I1,r1,q1⟩=>?_)
 obtain⟨c,rfl,q1⟩:=q1;cases r1;refine wpAny_truthy_bool ?_;cases c with
 |true=>exact hb pins s1 σ H1 Q I1 q1
 |false=>exact⟨.bl false,H1,I1,rfl,q1⟩
end
def SqL(K:zag)(H:Hp)(a:Addr)(xs:List V):Prop :=
 Rd H a (.lst xs)\/
  ∃(o:Obj) (its:Array Value) (n:Nat),K.lookup a=some o/\o.cls=.type "list"/\o.dict=none/\o.data=.seq its n/\its.size<=sizeLine/\Vals xs its.toList
def SqT(K:zag)(H:Hp)(a:Addr)(xs:List V):Prop :=
 Rd H a (.tup xs)\/
  ∃(o:Obj) (its:Array Value) (n:Nat),K.lookup a=some o/\o.cls=.type "tuple"/\o.data=.seq its n/\its.size<=sizeLine/\Vals xs its.toList
def Kt:Value->Option V
 | .none=>some .non
 | .bool b=>some (.bl b)
 | .int i _=>some (.int i)
 | .str x _=>some (.str x)
 | .bytes b _=>some (.byt b)
 | .float b _=>some (.flt b)
 | .ref a=>some (.ref a)
 | .type n=>some (.ty n)
 |_=>none
theorem RelV.abs{x:V}{u:Value}(r:RelV x u):Kt u=some x:=by
 cases x with
 |non=>cases r;rfl
 |bl _=>cases r;rfl
 |int _=>obtain⟨t,rfl⟩:=r;rfl
 |str _=>obtain⟨t,rfl⟩:=r;rfl
 |byt _=>obtain⟨t,rfl⟩:=r;rfl
 |flt _=>obtain⟨t,rfl⟩:=r;rfl
 |ref _=>cases r;rfl
 |ty _=>cases r;rfl
theorem RelV.inj{x y:V}{u:Value}(r:RelV x u)(q:RelV y u):x=y:=zaQ (r.abs.symm.trans q.abs)
theorem Vals.inj:∀{xs ys:List V} {us:List Value},Vals xs us->Vals ys us->xs=ys
 |_,_,_,.nil,.nil=>rfl
 |_,_,_,.cons r t,.cons r' t'=>by rw[r.inj r',Vals.inj t t']
section
variable{X:Cx}{pins:List (Addr×Obj)}{σ:St}{H:Hp}{s:Shared}{a:Addr}{xs ys:List V}
theorem SqL.of{K:zag}(h:H a=some (.lst xs)):SqL K H a xs:=.inl (.inl h)
theorem SqT.of{K:zag}(h:H a=some (.tup xs)):SqT K H a xs:=.inl (.inl h)
theorem Inv.list(I:Inv X pins σ H s)(h:SqL X.K H a xs):∃its:List Value,Vals xs its/\PlainL s.heap a its.toArray/\xs.length<=sizeLine:=by
 rcases h with h|⟨o,its,n,hk,hc,hd,hs,hz,r⟩
 ·obtain⟨z,its,n,r,e⟩:=h.ok I.hok
  exact⟨its,r,⟨_,n,e,rfl,rfl,rfl⟩,z⟩
 ·refine⟨its.toList,r,⟨o,n,I.kIn a o hk,hc,hd,by simpa using hs⟩,?_⟩
  have e:=r.length;simp only[Array.length_toList]at e;omega
theorem Inv.tuple(I:Inv X pins σ H s)(h:SqT X.K H a xs):∃its:List Value,Vals xs its/\IsTup s.heap a its.toArray/\xs.length<=sizeLine:=by
 rcases h with h|⟨o,its,n,hk,hc,hs,hz,r⟩
 ·obtain⟨z,its,r,p⟩:=h.ok I.hok
  exact⟨its,r,p,z⟩
 ·refine⟨its.toList,r,⟨o,I.kIn a o hk,hc,n,by simpa using hs⟩,?_⟩
  have e:=r.length;simp only[Array.length_toList]at e;omega
theorem Inv.vH(I:Inv X pins σ H s)(h:SqL X.K H a xs)(h':SqL X.K H a ys):xs=ys:=by
 obtain⟨its,r,⟨o,n,e,_,_,d⟩,_⟩:=I.list h;obtain⟨its',r',⟨o',n',e',_,_,d'⟩,_⟩:=I.list h';rw[e]at e';cases e'
 rw[d]at d';injection d' with d1 _
 have:its=its':=by simpa using congrArg Array.toList d1
 subst this;exact r.inj r'
theorem Inv.Ab(I:Inv X pins σ H s)(h:SqT X.K H a xs)(h':SqT X.K H a ys):xs=ys:=by
 obtain⟨its,r,⟨o,e,_,n,d⟩,_⟩:=I.tuple h;obtain⟨its',r',⟨o',e',_,n',d'⟩,_⟩:=I.tuple h';rw[e]at e';cases e'
 rw[d]at d';injection d' with d1 _
 have:its=its':=by simpa using congrArg Array.toList d1
 subst this;exact r.inj r'
end
abbrev Cx.wish(X:Cx)(E:Value->Shared->Prop):Cx:={X with xe:=E}
abbrev Cx.nox(X:Cx):Cx:=X.wish λ_ _=>False
theorem Cx.Ok.wish{X:Cx}(ok:X.Ok)(E:Value->Shared->Prop):(X.wish E).Ok :=
 ⟨ok.mod,ok.kind,ok.glob,ok.blt,ok.above,ok.inj,ok.has,ok.cab,ok.hd,ok.frames,ok.stk,ok.exf,ok.bs,ok.bsz,ok.xE,ok.vF,ok.mh,ok.frf,ok.tab⟩
theorem Cx.Ok.ja{X:Cx}{E:Value->Shared->Prop}(ok:(X.wish E).Ok):X.Ok :=
 ⟨ok.mod,ok.kind,ok.glob,ok.blt,ok.above,ok.inj,ok.has,ok.cab,ok.hd,ok.frames,ok.stk,ok.exf,ok.bs,ok.bsz,ok.xE,ok.vF,ok.mh,ok.frf,ok.tab⟩
section
variable{X:Cx}{pins:List (Addr×Obj)}{σ:St}{H:Hp}{s:Shared}{E:Value->Shared->Prop}
theorem Inv.wish(I:Inv X pins σ H s)(E:Value->Shared->Prop):Inv (X.wish E) pins σ H s:=⟨I.ok.wish E,I.os,I.bare,I.base,I.loc,I.cell,I.free,I.hE,I.pin,I.hok,I.len⟩
theorem Inv.ja(I:Inv (X.wish E) pins σ H s):Inv X pins σ H s:=⟨I.ok.ja,I.os,I.bare,I.base,I.loc,I.cell,I.free,I.hE,I.pin,I.hok,I.len⟩
theorem SP.ja{D:Ends}{f:Flow}{s':Shared}(h:SP (X.wish E) pins D f s'):SP X pins D f s':=by
 cases f with
 |next=>obtain⟨σ',H',I,q⟩:=h;exact⟨σ',H',I.ja,q⟩
 |brk=>obtain⟨σ',H',I,q⟩:=h;exact⟨σ',H',I.ja,q⟩
 |cont=>obtain⟨σ',H',I,q⟩:=h;exact⟨σ',H',I.ja,q⟩
 |ret u=>obtain⟨v,σ',H',I,r,q⟩:=h;exact⟨v,σ',H',I.ja,r,q⟩
theorem PE.nox{e:Expr}{t:TE}(h:PE X.nox e t):PE X e t:=λpins s σ H Q I hw=>
 za6 (h pins s σ H Q (I.wish _) hw) (λ_ _ ⟨v,H',I',r,q⟩=>⟨v,H',I'.ja,r,q⟩) λ_ _ z=>False.elim z
theorem PT.nox{e:Expr}{t:TT}(h:PT X.nox e t):PT X e t:=λpins s σ H Q I hw=>
 za6 (h pins s σ H Q (I.wish _) hw) (λ_ _ ⟨H',I',q⟩=>⟨H',I'.ja,q⟩) λ_ _ z=>False.elim z
theorem PSs.nox{st:List Stmt}{t:TS}(h:PSs X.nox st t):PSs X st t:=λpins s σ H D I hw=>
 za6 (h pins s σ H D (I.wish _) hw) (λ_ _ q=>q.ja) λ_ _ z=>False.elim z
end
section
variable{X:Cx}{st:Stmt}{rest:List Stmt}{t u:TS}{e:Expr}{te:TE}{pos:Pos}
def yR:TS:=λD σ H=>D.nx σ H
def Bn(t u:TS):TS:=λD σ H=>t {D with nx:=u D} σ H
theorem cz:PSs X [] yR:=λ_ _ σ H _ I h=>wpAny_execs_nil ⟨σ,H,I,h⟩
theorem ar(h1:PS X st t)(h2:PSs X rest u):PSs X (st::rest) (Bn t u):=by
 intro pins s σ H D I h;refine wpAny_execs_cons (thn (h1 pins s σ H {D with nx:=u D} I h) λf s1 q=>?_)
 cases f with
 |next=>
  obtain⟨σ',H',I',q⟩:=q;exact h2 pins s1 σ' H' D I' q
 |ret v=>exact q
 |brk=>exact q
 |cont=>exact q
theorem aJ(h1:PS X st t):PSs X [st] t:=by
 intro pins s σ H D I h;refine wpAny_execs_cons (thn (h1 pins s σ H D I h) λf s1 q=>?_)
 cases f with
 |next=>exact wpAny_execs_nil q
 |ret v=>exact q
 |brk=>exact q
 |cont=>exact q
theorem Inv.quiet{pins:List (Addr×Obj)}{σ:St}{H:Hp}{s:Shared}(I:Inv X pins σ H s):interactive X.env=false:=by simp[interactive,I.ok.kind]
def Bo(te:TE):TS:=λD σ H=>te σ H λ_ H1=>D.nx σ H1
theorem de(he:PE X e te)(hs:swapsWith e none pos.line X.env=pure false:=by rfl):PS X (.Expr e pos) (Bo te):=by
 intro pins s σ H D I h;exact wpAny_Expr_any (thn (he pins s σ H _ I h) λv s1 ⟨x,H1,I1,r1,q1⟩=>⟨σ,H1,I1,q1⟩) I.quiet hs
def Bp(te:TE):TS:=λD σ H=>te σ H D.rt
theorem bC(he:PE X e te):PS X (.Return (some e) pos) (Bp te):=by
 intro pins s σ H D I h;exact wpAny_Return_some (thn (he pins s σ H _ I h) λv s1 ⟨x,H1,I1,r1,q1⟩=>⟨x,σ,H1,I1,r1,q1⟩)
def D3(c:TT)(t u:TS):TS:=λD σ H=>c σ H λb H1=>if b=true then t D σ H1 else u D σ H1
theorem dP{c:Expr}{a b:List Stmt}{tc:TT}(hc:PT X c tc)(ha:PSs X a t)(hb:PSs X b u):PS X (.If c a b pos) (D3 tc t u):=by
 intro pins s σ H D I h;refine wpAny_If (thn (hc pins s σ H _ I h) λd s1 ⟨H1,I1,q1⟩=>?_)
 cases d with
 |true=>exact ha pins s1 σ H1 D I1 q1
 |false=>exact hb pins s1 σ H1 D I1 q1
def Bq:TS:=λ_ _ _=>False
theorem Br:PS X st Bq:=λ_ _ _ _ _ _ h=>h.elim
end
abbrev TG:=V->St->Hp->(St->Hp->Prop)->Prop
abbrev TGs:=List V->St->Hp->(St->Hp->Prop)->Prop
def PG(X:Cx)(target:Expr)(t:TG):Prop :=
 ∀(pins:List (Addr×Obj)) (s:Shared) (σ:St) (H:Hp) (v:V) (u:Value) (Q:St->Hp->Prop),Inv X pins σ H s->RelV v u->t v σ H Q->
  wpAny (model X.prog X.w) X.A (assign target X.env u) (λ_ s'=>∃σ' H',Inv X pins σ' H' s'/\Q σ' H') X.xe s
def PGs(X:Cx)(ts:List Expr)(t:TGs):Prop :=
 ∀(pins:List (Addr×Obj)) (s:Shared) (σ:St) (H:Hp) (vs:List V) (us:List Value) (Q:St->Hp->Prop),Inv X pins σ H s->Vals vs us->t vs σ H Q->
  wpAny (model X.prog X.w) X.A (assignInOrder ((assignEach ts X.env).map (·.2)) us) (λ_ s'=>∃σ' H',Inv X pins σ' H' s'/\Q σ' H') X.xe s
abbrev Ku:=V->V->V->Hp->(Hp->Prop)->Prop
abbrev TIp:=V->V->Hp->VK->Prop
def PIp(X:Cx)(op:Operator)(t:TIp):Prop :=
 ∀(pins:List (Addr×Obj)) (s:Shared) (σ:St) (H:Hp) (x y:V) (v u:Value) (Q:VK),Inv X pins σ H s->RelV x v->RelV y u->t x y H Q->
  wpAny (model X.prog X.w) X.A (inplaceOp op v u) (EP X pins σ Q) X.xe s
section
variable{X:Cx}{pos:Pos}
def pP(i:Nat):TG:=λv σ H Q=>Q (σ.set i (some v)) H
theorem a9{i:Nat}{x:Str}(hN:X.N.Nodup)(hi:X.N[i]?=some x)(hx:Loc X.env.scope x)(hf:X.fn x=true\/X.env.scope.names.lookup x=some .local:=by first|exact .inl rfl|exact .inr rfl|assumption):PG X (.Name x pos) (pP i):=by
 intro pins s σ H v u Q I r h;exact wpAny_assign_Name (pN I hN hi hx r (λs' I'=>⟨_,H,I',h⟩) hf)
def Hd:TGs:=λvs σ H Q=>vs=[]/\Q σ H
def Bu(t:TG)(u:TGs):TGs:=λvs σ H Q=>∃v r,vs=v::r/\t v σ H fun σ' H'=>u r σ' H' Q
theorem h8:PGs X [] Hd:=by
 intro pins s σ H vs us Q I r h;obtain⟨e,h⟩:=h;subst e;cases r;exact assignInOrder_nil ⟨σ,H,I,h⟩
theorem bA{e:Expr}{es:List Expr}{t:TG}{u:TGs}(h1:PG X e t)(h2:PGs X es u)
  (hs:(assignEach (e::es) X.env).map (·.2)=assign e X.env::(assignEach es X.env).map (·.2):=by rfl):PGs X (e::es) (Bu t u):=by
 intro pins s σ H vs us Q I r h;obtain⟨v,vr,e1,h⟩:=h;subst e1;cases r with
 |cons r rr=>
  rw[hs];refine assignInOrder_cons (thn (h1 pins s σ H _ _ _ I r h) λ_ s1 ⟨σ1,H1,I1,q1⟩=>?_)
  exact h2 pins s1 σ1 H1 _ _ Q I1 rr q1
def rj(to ti:TE)(t:Ku):TG:=λv σ H Q=>to σ H λo H1=>ti σ H1 λi H2=>t o i v H2 λH3=>Q σ H3
def Ac(te:TE)(g:TG):TS:=λD σ H=>te σ H λx H1=>g x σ H1 D.nx
theorem mi{tg e:Expr}{te:TE}{g:TG}(he:PE X e te)(hg:PG X tg g)(hs:swapsWithSole [tg] e pos.line X.env=pure false:=by rfl)(hw:swappedStores [tg] e X.env=pure none:=by rfl)
  (h1:(assignEach [tg] X.env).map (·.2)=[assign tg X.env]:=by rfl):PS X (.Assign [tg] e pos) (Ac te g):=by
 intro pins s σ H D I h;refine wpAny_Assign_stores (thn (he pins s σ H _ I h) λv s1 ⟨x,H1,I1,r1,q1⟩=>?_) hs hw
 rw[h1];exact thn (hg pins s1 σ H1 x v _ I1 r1 q1) λ_ s2 q=>q
theorem a6{i:Nat}{x:Str}{e:Expr}{te:TE}{pos':Pos}(hN:X.N.Nodup)(hi:X.N[i]?=some x)(hx:Loc X.env.scope x)(he:PE X e te)(hs:swapsWith e (some (.Name x pos')) pos.line X.env=pure false:=by rfl)(hf:X.fn x=true\/X.env.scope.names.lookup x=some .local:=by first|exact .inl rfl|exact .inr rfl|assumption) :
  PS X (.Assign [.Name x pos'] e pos) (Ac te (pP i)):=by
 intro pins s σ H D I h;refine wpAny_Assign_Name (thn (he pins s σ H _ I h) λv s1 ⟨y,H1,I1,r1,q1⟩=>?_) hs
 exact pN I1 hN hi hx r1 (λs2 I2=>⟨_,H1,I2,q1⟩) hf
def Jd(i:Nat)(te:TE)(ti:TIp):TS:=λD σ H=>∃x,σ[i]?=some (some x)/\te σ H λy H1=>ti x y H1 λz H2=>D.nx (σ.set i (some z)) H2
theorem He{i:Nat}{x:Str}{e:Expr}{te:TE}{op:Operator}{ti:TIp}{pos':Pos}(hN:X.N.Nodup)(hi:X.N[i]?=some x)(hx:Loc X.env.scope x)(he:PE X e te)(ho:PIp X op ti)(hf:X.fn x=true\/X.env.scope.names.lookup x=some .local:=by first|exact .inl rfl|exact .inr rfl|assumption) :
  PS X (.AugAssign (.Name x pos') op e pos) (Jd i te ti):=by
 intro pins s σ H D I h;obtain⟨v,e1,h⟩:=h;obtain⟨m,hn,hl⟩:=I.loc;have vis:Vis X.env.scope x:=by rcases hx with k|k;exact .inl k;exact .inr (.inl k)
 obtain⟨u,r,l⟩:=hl i x v hi e1 vis;refine wpAny_AugAssign_Name ?_;have go:wpAny (model X.prog X.w) X.A (eval e X.env) (λw s₂=>wpAny (model X.prog X.w) X.A (inplaceOp op u w) (λr s₃=>wpAny (model X.prog X.w) X.A (storeName X.env x r) (λ_=>SP X pins D .next) X.xe s₃) X.xe s₂) X.xe s:=by
  refine thn (he pins s σ H _ I h) λw s1 ⟨y,H1,I1,r1,q1⟩=>?_
  refine thn (ho pins s1 σ H1 v y u w _ I1 r r1 q1) λz s2 ⟨zv,H2,I2,r2,q2⟩=>?_
  exact pN I2 hN hi hx r2 (λs3 I3=>⟨_,H2,I3,q2⟩) hf
 rcases l with⟨hk,hm⟩|⟨hk,c,hc,hcell⟩
 ·exact wpAny_loadName_local I.ok.kind hk hn hm go
 ·rcases hk with hk|hk
  ·exact wpAny_loadName_cell I.ok.kind hk hc hcell go
  ·rcases hx with k|k
   ·have:X.env.scope.names.lookup x=some .free:=hk
    rw[k]at this;cases this
   ·have:X.env.scope.names.lookup x=some .free:=hk
    rw[k]at this;cases this
def ipI(f:Int->Int->Int):TIp:=λx y H Q=>∃i j,x=.int i/\y=.int j/\Q (.int (f i j)) H
theorem Hf:PIp X .Add (ipI λi j=>i+j):=by
 intro pins s σ H x y v u Q I r1 r2 h;obtain⟨i,j,e1,e2,q⟩:=h;subst e1;subst e2
 obtain⟨t,rfl⟩:=r1;obtain⟨t',rfl⟩:=r2;exact iadd_int ⟨.int _,H,I.tok _,⟨_,rfl⟩,q⟩
def xG(c:TT)(tb:TS):TS:=λD σ H=>∃W:Nat->St->Hp->Prop,(∃m,W m σ H)/\∀m σ H,W m σ H->
 c σ H λb H1=>if b=true then∃N:St->Hp->Prop,(∀σ' H',N σ' H'->∃m',m'<m/\W m' σ' H')/\tb {D with nx:=N,ct:=N,bk:=D.nx} σ H1 else D.nx σ H1
theorem mz{c:Expr}{body:List Stmt}{tc:TT}{tb:TS}(hp:PassesOwn (model X.prog X.w) X.A X.env X.xe)(hc:PT X c tc)(hb:PSs X body tb):PS X (.While c body [] pos) (xG tc tb):=by
 intro pins s σ H D I h;obtain⟨W,⟨m0,w0⟩,turn⟩:=h;refine wpAny_While (codeAny_whileLoop (λn s'=>∃σ' H',Inv X pins σ' H' s'/\W n σ' H') ?_ m0 ⟨σ,H,I,w0⟩)
 rintro n s1 ⟨σ1,H1,I1,w1⟩
 refine wpAny_passesOwn hp (thn (hc pins s1 σ1 H1 _ I1 (turn n σ1 H1 w1)) λb s2 ⟨H2,I2,q2⟩=>?_)
 cases b with
 |true=>
  obtain⟨N,hN,q2⟩:=q2;rw[if_pos rfl];refine wpAny_passesOwn hp (thn (hb pins s2 σ1 H2 _ I2 q2) λf s3 q3=>?_)
  cases f with
  |next=>
   obtain⟨σ3,H3,I3,n3⟩:=q3;obtain⟨m',hm,w3⟩:=hN σ3 H3 n3;exact⟨m',hm,σ3,H3,I3,w3⟩
  |cont=>
   obtain⟨σ3,H3,I3,n3⟩:=q3;obtain⟨m',hm,w3⟩:=hN σ3 H3 n3;exact⟨m',hm,σ3,H3,I3,w3⟩
  |brk=>exact q3
  |ret v=>exact q3
 |false=>
  rw[if_neg zam];exact wpAny_execs_nil ⟨σ1,H2,I2,q2⟩
end
structure It where
 go:Nat->Hp->Prop
 yld:Nat->Hp->V->Hp->Prop
 stop:Nat->Hp->Prop
def jb(X:Cx)(pins:List (Addr×Obj))(H:Hp)(b:Addr):Prop :=
 H b=none/\b≠X.env.locals/\b∉X.fs/\(b∈X.ex\/X.s₀.heap.objs.size<=b)/\(∀x c,X.env.cells.lookup x=some c->c≠b)/\∀p∈X.pn++pins,p.1≠b
theorem Inv.pQ{X:Cx}{pins:List (Addr×Obj)}{σ:St}{H H':Hp}{s:Shared}{b:Addr}(I:Inv X pins σ H s)(hb:s.heap.objs.size<=b)(hn:H' b=none):jb X pins H' b:=by
 refine⟨hn,Nat.ne_of_gt (zaF I.lt hb),I.Kr hb,.inr (zaX I.sz hb),λx c e z=>?_,λp hp z=>?_⟩
 ·obtain⟨v,q⟩:=I.cell x c e
  exact absurd (zaF q.lt (by rw[z];exact hb)) (za3 _)
 ·exact absurd (zaF (zaq (I.pin p hp).1) (by rw[z];exact hb)) (za3 _)
structure Turn(P:Program)(w:World)(K:zag)(tg:Expr)(J:It)(fp:List Addr)(it:Addr)(tn:Nat->Heap->Prop):Prop where
 mem:it∈fp
 obj:∀i h,tn i h->∀b∈fp,∃o,h.get? b=some o/\∀v,o.data≠.cell v
 keep:∀i h h',tn i h->(∀b∈fp,∀o,h.get? b=some o->h'.get? b=some o)->tn i h'
 item:∀(X:Cx),X.prog=P->X.w=w->X.K=K->X.calm=true->∀(i:Nat) (pins:List (Addr×Obj)) (s:Shared) (σ:St) (H:Hp) (E:Value->Shared->Prop),Inv X pins σ H s->(∀b∈fp,jb X pins H b)->tn i s.heap->J.go i H->
  wpAny (model P w) X.A (pyNext (.ref it)) (λr s1=>∃u,r=some u/\
   wpAny (model P w) X.A (letOwnedTupleGo tg (.ref it) u) (λ_ s2=>∃x H',Inv X pins σ H' s2/\RelV x u/\J.yld i H x H'/\tn (i+1) s2.heap/\∀b∈fp,H' b=none) E s1) E s
 done:∀(X:Cx),X.prog=P->X.w=w->X.K=K->X.calm=true->∀(i:Nat) (pins:List (Addr×Obj)) (s:Shared) (σ:St) (H:Hp) (E:Value->Shared->Prop),Inv X pins σ H s->(∀b∈fp,jb X pins H b)->tn i s.heap->J.stop i H->
  wpAny (model P w) X.A (pyNext (.ref it)) (λr s1=>r=none/\Inv X pins σ H s1) E s
 self:∀(A:Around) (i:Nat) (s:Shared) (Q:Value->Shared->Prop) (E:Value->Shared->Prop),tn i s.heap->Q (.ref it) s->wpAny (model P w) A (pyIter (.ref it)) Q E s
abbrev TI:=St->Hp->(It->Hp->Prop)->Prop
def PIE(X:Cx)(pins:List (Addr×Obj))(σ:St)(tg:Expr)(R:It->Hp->Prop)(itv:Value)(s2:Shared):Prop :=
 ∃(it:Addr) (fp:List Addr) (tn:Nat->Heap->Prop) (J:It) (H':Hp),itv=.ref it/\Inv X pins σ H' s2/\Turn X.prog X.w X.K tg J fp it tn/\tn 0 s2.heap/\(∀b∈fp,jb X pins H' b)/\R J H'
def PI(X:Cx)(tg iter:Expr)(wi:TI):Prop :=
 ∀(pins:List (Addr×Obj)) (s:Shared) (σ:St) (H:Hp) (R:It->Hp->Prop),Inv X pins σ H s->wi σ H R->
  wpAny (model X.prog X.w) X.A (eval iter X.env) (λv s1=>wpAny (model X.prog X.w) X.A (pyIter v) (PIE X pins σ tg R) X.xe s1) X.xe s
theorem yS{M:Model}{A:Around}{E:Value->Shared->Prop}{s:Shared}{tg:Expr}{it:Addr}{u:Value}{o:Obj}{n:String}{vs:Array Value}{Q:Unit->Shared->Prop}(ho:s.heap.get? it=some o)(hc:o.cls=.type n)(hd:o.data=.fields vs)
  (hn : ["enumerate","zip","dict_itemiterator","dict_reverseitemiterator","odict_iterator","itertools.zip_longest","itertools.pairwise"].contains n=false) (hQ:Q () s):wpAny M A (letOwnedTupleGo tg (.ref it) u) Q E s:=by
 unfold letOwnedTupleGo;cases tg<;>first
  |exact zaZ hQ
  |(cases u<;>first
    |exact zaZ hQ
    | (refine zaI (wpAny_load ho ?_)
       rw[hc,hd];show wpAny M A (if(["enumerate","zip","dict_itemiterator","dict_reverseitemiterator","odict_iterator","itertools.zip_longest","itertools.pairwise"].contains n&&vs[0]? ==some (rawInt _))=true then _ else _) Q E s
       rw[if_neg (by intro h;rw[hn,Bool.false_and]at h;cases h)]
       exact zaZ hQ))
def Itl(K:zag)(a:Addr):It :=
 ⟨λi H=>∃xs x,SqL K H a xs/\xs[i]?=some x,λi H x H'=>H'=H/\∀xs,SqL K H a xs->xs[i]?=some x,λi H=>∃xs,SqL K H a xs/\xs.length<=i⟩
def Itt(K:zag)(a:Addr):It :=
 ⟨λi H=>∃xs x,SqT K H a xs/\xs[i]?=some x,λi H x H'=>H'=H/\∀xs,SqT K H a xs->xs[i]?=some x,λi H=>∃xs,SqT K H a xs/\xs.length<=i⟩
def Itr(lo:Int)(n:Nat):It:=⟨λi _=>i<n,λi H x H'=>H'=H/\x=.int (lo+i),λi _=>n<=i⟩
theorem Ad{P:Program}{w:World}{K:zag}{tg:Expr}(a it:Addr):Turn P w K tg (Itl K a) [it] it (λi h=>h.IsListIter it a i) where
 mem:=by simp
 obj:=λi h st b hb=>by
  have e:b=it:=by simpa using hb
  subst e;obtain⟨o,e,c,d⟩:=st;exact⟨o,e,λv z=>by rw[d]at z;cases z⟩
 keep:=λi h h' st k=>st.at λo e=>k it (by simp) o e
 item:=by
  intro X hP hw hK hc i pins s σ H E I hf st hg;subst hP hw hK;obtain⟨xs,x,hq,hx⟩:=hg;obtain⟨its,rv,p,hz⟩:=I.list hq;obtain⟨u,hu,ru⟩:=rv.get hx;obtain⟨f0,f1,f2,f3,f4,f5⟩:=hf it (by simp)
  refine wpAny_pyNext_list_item st p.isList (x:=u) (by simpa using hu) λh' st' sb=>?_
  have I1:Inv X pins σ H {s with heap:=h'}:=I.turned (t':=s.toks) (λb o hb e=>(sb.2 b hb).trans e) f0 f1 f3 f4 f5
  obtain⟨o,e,c,d⟩:=id st';exact⟨u,rfl,yS (s:={s with heap:=h'}) e c d (by decide) ⟨x,H,I1,ru,⟨rfl,λys hy=>by rw[I.vH hy hq];exact hx⟩,st',λb hb=>(hf b hb).1⟩⟩
 done:=by
  intro X hP hw hK hc i pins s σ H E I hf st hg;subst hP hw hK;obtain⟨xs,hq,hx⟩:=hg;obtain⟨its,rv,p,hz⟩:=I.list hq;obtain⟨f0,f1,f2,f3,f4,f5⟩:=hf it (by simp)
  have hl:=rv.length;exact wpAny_pyNext_list_end (I.ok.hd hc) st p.isList (by simp;omega) λh' eb=>⟨rfl,I.turned (t':=s.toks) (λb o hb e=>eb b o hb e) f0 f1 f3 f4 f5⟩
 self:=λ_ _ _ _ _ st h=>wpAny_pyIter_listiter st h
theorem xH{P:Program}{w:World}{K:zag}{tg:Expr}(a it:Addr):Turn P w K tg (Itt K a) [it] it (λi h=>h.IsTupleIter it a i) where
 mem:=by simp
 obj:=λi h st b hb=>by
  have e:b=it:=by simpa using hb
  subst e;obtain⟨o,e,c,d⟩:=st;exact⟨o,e,λv z=>by rw[d]at z;cases z⟩
 keep:=λi h h' st k=>st.at λo e=>k it (by simp) o e
 item:=by
  intro X hP hw hK hc i pins s σ H E I hf st hg;subst hP hw hK;obtain⟨xs,x,hq,hx⟩:=hg;obtain⟨its,rv,p,hz⟩:=I.tuple hq;obtain⟨u,hu,ru⟩:=rv.get hx;obtain⟨f0,f1,f2,f3,f4,f5⟩:=hf it (by simp)
  refine wpAny_pyNext_tuple_item st (show s.heap.IsTuple a its.toArray from p) (x:=u) (by simpa using hu) λh' st' sb=>?_
  have I1:Inv X pins σ H {s with heap:=h'}:=I.turned (t':=s.toks) (λb o hb e=>(sb.2 b hb).trans e) f0 f1 f3 f4 f5
  obtain⟨o,e,c,d⟩:=id st';exact⟨u,rfl,yS (s:={s with heap:=h'}) e c d (by decide) ⟨x,H,I1,ru,⟨rfl,λys hy=>by rw[I.Ab hy hq];exact hx⟩,st',λb hb=>(hf b hb).1⟩⟩
 done:=by
  intro X hP hw hK hc i pins s σ H E I hf st hg;subst hP hw hK;obtain⟨xs,hq,hx⟩:=hg;obtain⟨its,rv,p,hz⟩:=I.tuple hq;obtain⟨f0,f1,f2,f3,f4,f5⟩:=hf it (by simp)
  have hl:=rv.length;exact wpAny_pyNext_tuple_end (I.ok.hd hc) st (show s.heap.IsTuple a its.toArray from p) (by simp;omega) λh' eb=>⟨rfl,I.turned (t':=s.toks) (λb o hb e=>eb b o hb e) f0 f1 f3 f4 f5⟩
 self:=λ_ _ _ _ _ st h=>wpAny_pyIter_tupleiter st h
theorem xI{P:Program}{w:World}{K:zag}{tg:Expr}(it:Addr)(lo:Int)(n:Nat):Turn P w K tg (Itr lo n) [it] it (λi h=>IsRangeIter h it (lo+(i:Nat)*1) ((n:Int)-(i:Nat)) 1) where
 mem:=by simp
 obj:=λi h st b hb=>by
  have e:b=it:=by simpa using hb
  subst e;exact⟨_,st,λv z=>by
   have z':Data.fields _=Data.cell v:=z;cases z'⟩
 keep:=λi h h' st k=>k it (by simp) _ st
 item:=by
  intro X hP hw hK hc i pins s σ H E I hf st hg;subst hP hw hK;obtain⟨f0,f1,f2,f3,f4,f5⟩:=hf it (by simp)
  have W:=Walks.range (prog:=X.prog) (w:=X.w) (I.ok.hd hc) it lo 1 n;refine W.item i s _ _ hg st λv h' tk hv st' kk=>?_
  obtain⟨t,rfl⟩:=hv;have I1:Inv X pins σ H {s with heap:=h',toks:=tk}:=I.turned (λb o hb e=>kk b o (by simpa using hb) e) f0 f1 f3 f4 f5
  refine⟨_,rfl,yS (s:={s with heap:=h',toks:=tk}) (n:="range_iterator") st' rfl rfl (by decide) ⟨.int (lo+i),H,I1,⟨t,?_⟩,⟨rfl,rfl⟩,st',λb hb=>(hf b hb).1⟩⟩
  rw[Int.mul_one]
 done:=by
  intro X hP hw hK hc i pins s σ H E I hf st hg;subst hP hw hK;obtain⟨f0,f1,f2,f3,f4,f5⟩:=hf it (by simp)
  exact wpAny_pyNext_range_end (I.ok.hd hc) st (by have:n<=i:=hg;omega) λh' eb=>⟨rfl,I.turned (t':=s.toks) (λb o hb e=>eb b o hb e) f0 f1 f3 f4 f5⟩
 self:=λ_ _ _ _ _ st h=>wpAny_pyIter_rangeiter st h
section
variable{X:Cx}{tg:Expr}
def vI(K:zag)(tl:TE):TI:=fun σ H R=>tl σ H λx H1=>∃a,x=.ref a/\(∃xs,SqL K H1 a xs)/\R (Itl K a) H1
def D4(K:zag)(tl:TE):TI:=fun σ H R=>tl σ H λx H1=>∃a,x=.ref a/\(∃xs,SqT K H1 a xs)/\R (Itt K a) H1
theorem D6{l:Expr}{tl:TE}(hl:PE X l tl):PI X tg l (vI X.K tl):=by
 intro pins s σ H R I h;refine thn (hl pins s σ H _ I h) λv s1 ⟨x,H1,I1,r1,q1⟩=>?_
 obtain⟨a,e,⟨xs,hq⟩,q⟩:=q1;subst e;cases r1;obtain⟨its,rv,p,hz⟩:=I1.list hq;refine wpAny_pyIter_list p.isList ?_;refine⟨s1.heap.objs.size,[s1.heap.objs.size],_,_,H1,rfl,I1.kept (t':=s1.toks) λb o e=>zar _ e,Ad a _,⟨_,zaL _ rfl,rfl,rfl⟩,λb hb=>?_,q⟩
 have e:b=s1.heap.objs.size:=by simpa using hb
 subst e;exact I1.pQ (zap _) (I1.hok.fresh (zap _))
theorem Hg{l:Expr}{tl:TE}(hl:PE X l tl):PI X tg l (D4 X.K tl):=by
 intro pins s σ H R I h;refine thn (hl pins s σ H _ I h) λv s1 ⟨x,H1,I1,r1,q1⟩=>?_
 obtain⟨a,e,⟨xs,hq⟩,q⟩:=q1;subst e;cases r1;obtain⟨its,rv,p,hz⟩:=I1.tuple hq;refine wpAny_pyIter_tuple (show s1.heap.IsTuple a its.toArray from p) ?_;refine⟨s1.heap.objs.size,[s1.heap.objs.size],_,_,H1,rfl,I1.kept (t':=s1.toks) λb o e=>zar _ e,xH a _,⟨_,zaL _ rfl,rfl,rfl⟩,λb hb=>?_,q⟩
 have e:b=s1.heap.objs.size:=by simpa using hb
 subst e;exact I1.pQ (zap _) (I1.hok.fresh (zap _))
theorem Bv{pins:List (Addr×Obj)}{σ:St}{H:Hp}{s:Shared}{R:It->Hp->Prop}{E:Value->Shared->Prop}{lo hi:Int}{t u v:Tok}{tk:Nat}(I:Inv X pins σ H s)(h1 : -(2^62)<=lo)(h2:lo<2^62)(h3 : -(2^62)<=hi)(h4:hi<2^62)
  (q:R (Itr lo (hi-lo).toNat) H):wpAny (model X.prog X.w) X.A (pyIter (.ref s.heap.objs.size)) (PIE X pins σ tg R) E {s with heap:=s.heap.push {cls:=.type "range",data:=.fields #[.int lo t,.int hi u,.int 1 v]},toks:=tk}:=by
 refine wpAny_pyIter_range (IsRange.new ..) (small_one h1 h2 h3 h4) ?_;have I1:Inv X pins σ H {s with heap:=s.heap.push {cls:=.type "range",data:=.fields #[.int lo t,.int hi u,.int 1 v]},toks:=tk}:=I.kept λb o e=>zar _ e
 refine⟨(s.heap.push {cls:=.type "range",data:=.fields #[.int lo t,.int hi u,.int 1 v]}).objs.size,[(s.heap.push {cls:=.type "range",data:=.fields #[.int lo t,.int hi u,.int 1 v]}).objs.size],_,_,H,rfl,
  I1.kept (t':=tk) λb o e=>zar _ e,xI _ lo (hi-lo).toNat,?_,λb hb=>?_,q⟩
 ·have e1:lo+((0:Nat):Int)*1=lo:=by simp
  have e2:(((hi-lo).toNat:Nat):Int)-((0:Nat):Int)=Builtin.Range.rangeSize lo hi 1:=by rw[rangeSize_one];split<;>omega
  show IsRangeIter _ _ (lo+((0:Nat):Int)*1) ((((hi-lo).toNat:Nat):Int)-((0:Nat):Int)) 1;rw[e1,e2];exact zaL _ rfl
 ·have e:b=(s.heap.push {cls:=.type "range",data:=.fields #[.int lo t,.int hi u,.int 1 v]}).objs.size:=by simpa using hb
  subst e;exact I1.pQ (zap _) (I1.hok.fresh (zap _))
def Bw(ta:TA):TI:=fun σ H R=>ta σ H λvs H1=>∃j:Int,vs=[.int j]/\-(2^62)<=j/\j<2^62/\R (Itr 0 j.toNat) H1
theorem nN{a:Expr}{ta:TA}{p pos:Pos}(hg:Gl X "range")(hm:X.mg "range"=none)(ha:PA X [a] ta)(hs:starEach [a] X.env=[(false,eval a X.env)]:=by rfl):PI X tg (.Call (.Name "range" p) [a] [] pos) (Bw ta):=by
 intro pins s σ H R I h;refine Call_ (nM I hg hm boot_range (PyProof.Rows.callWith_type1 (thn (ha pos pins s σ H _ I h) λus s1 ⟨vs,H1,I1,r1,q1⟩=>?_) hs rfl))
 obtain⟨j,e,q1,q2,q⟩:=q1;subst e;cases r1 with
 |cons r rr=>
  cases rr;obtain⟨t,rfl⟩:=r;exact call_range_1 (Bv I1 (by omega) (by omega) q1 q2 (by simpa using q))
def Bx(wi:TI)(g:TG)(tb:TS):TS:=λD σ H=>wi σ H λJ H1=>∃W:Nat->Nat->St->Hp->Prop,(∃m,W 0 m σ H1)/\∀i m σ H,W i m σ H->
 (J.stop i H/\D.nx σ H)\/(J.go i H/\∃N:St->Hp->Prop,(∀σ' H',N σ' H'->∃m',m'<m/\W (i+1) m' σ' H')/\∀x H',J.yld i H x H'->g x σ H' fun σ2 H2=>tb {D with nx:=N,ct:=N,bk:=D.nx} σ2 H2)
def fD(fp:List Addr)(h:Heap):List (Addr×Obj):=fp.filterMap λb=>(h.get? b).map λo=>(b,o)
theorem bF{fp:List Addr}{h:Heap}{b:Addr}{o:Obj}(hb:b∈fp)(e:h.get? b=some o):(b,o)∈fD fp h:=List.mem_filterMap.mpr ⟨b,hb,by rw[e];rfl⟩
theorem jk{fp:List Addr}{h:Heap}{p:Addr×Obj}(hp:p∈fD fp h):p.1∈fp/\h.get? p.1=some p.2:=by
 obtain⟨b,hb,e⟩:=List.mem_filterMap.mp hp;cases q:h.get? b with
 |none=>rw[q]at e;cases e
 |some o=>
  rw[q]at e;have e':(b,o)=p:=zaQ e;subst e';exact⟨hb,q⟩
theorem Inv.pinned{pins:List (Addr×Obj)}{σ:St}{H:Hp}{s:Shared}{fp:List Addr}(I:Inv X pins σ H s)(hf:∀b∈fp,jb X pins H b)(ho:∀b∈fp,∃o,s.heap.get? b=some o/\∀v,o.data≠.cell v):Inv X (pins++fD fp s.heap) σ H s :=
 I.yP λp hp=>(zae hp).elim (λz=>I.pin p (zan _ z)) λz=>by
  obtain⟨hb,e⟩:=jk z;obtain⟨f0,f1,f2,_⟩:=hf p.1 hb;obtain⟨o,e',d⟩:=ho p.1 hb;rw[e]at e';cases e'
  exact⟨e,f0,f1,f2,d⟩
theorem Inv.dQ{pins pl:List (Addr×Obj)}{σ:St}{H:Hp}{s:Shared}(I:Inv X (pins++pl) σ H s):Inv X pins σ H s:=I.yP λp hp=>I.pin p (zan _ (zaW _ hp))
theorem jC{iter:Expr}{body:List Stmt}{wi:TI}{g:TG}{tb:TS}{pos:Pos}(hp:PassesOwn (model X.prog X.w) X.A X.env X.xe)(hc:X.calm=true)(hi:PI X tg iter wi)(hg:PG X tg g)(hb:PSs X body tb)
  (hs:∀x,foldedSetIterable iter X.env x=pure x:=by intro _;rfl):PS X (.For tg iter body [] pos) (Bx wi g tb):=by
 intro pins s σ H D I h;refine wpAny_For (thn (hi pins s σ H _ I h) λv s1 h1=>thn h1 λitv s2 h2=>?_) hs
 obtain⟨it,fp,tn,J,H2,e,I2,T,st2,f2,W,⟨m0,w0⟩,turn⟩:=h2;subst e;have stat:∀{H':Hp},(∀b∈fp,H' b=none)->∀b∈fp,jb X pins H' b:=λhn b hb=>⟨hn b hb,(f2 b hb).2⟩
 refine codeAny_forLoop_any (λn s'=>∃i σ' H',Inv X pins σ' H' s'/\tn i s'.heap/\(∀b∈fp,H' b=none)/\W i n σ' H') ?_ m0 ⟨0,σ,H2,I2,st2,λb hb=>(f2 b hb).1,w0⟩
 rintro n s3 ⟨i,σ3,H3,I3,st3,fr3,w3⟩
 rcases turn i n σ3 H3 w3 with⟨stop,qn⟩|⟨go,N,hN,step⟩
 ·refine wpAny_passesOwn hp (thn (T.done X rfl rfl rfl hc i pins s3 σ3 H3 X.xe I3 (stat fr3) st3 stop) λr s4 ⟨hr,I4⟩=>?_)
  subst hr;exact wpAny_execs_nil ⟨σ3,H3,I4,qn⟩
 ·refine wpAny_passesOwn hp (thn (T.item X rfl rfl rfl hc i pins s3 σ3 H3 X.xe I3 (stat fr3) st3 go) λr s4 ⟨u,hr,h4⟩=>?_)
  subst hr;refine wpAny_passesOwn hp (thn h4 λ_ s5 ⟨x,H5,I5,r5,y5,st5,fr5⟩=>?_)
  have I5':=I5.pinned (stat fr5) (T.obj _ _ st5);refine wpAny_passesOwn hp (thn (hg _ s5 σ3 H5 x u _ I5' r5 (step x H5 y5)) λ_ s6 ⟨σ6,H6,I6,q6⟩=>?_)
  refine wpAny_passesOwn hp (thn (hb _ s6 σ6 H6 _ I6 q6) λf s7 q7=>?_)
  have again:∀{σ7:St} {H7:Hp},Inv X (pins++fD fp s5.heap) σ7 H7 s7->N σ7 H7->∃m,m<n/\∃i σ' H',Inv X pins σ' H' s7/\tn i s7.heap/\(∀b∈fp,H' b=none)/\W i m σ' H':=fun{σ7 H7} I7 n7=>by
   obtain⟨m',hm,w7⟩:=hN σ7 H7 n7;refine⟨m',hm,i+1,σ7,H7,I7.dQ,T.keep _ _ _ st5 λb hb o e=>(I7.pin (b,o) (zan _ (zan _ (bF hb e)))).1,λb hb=>?_,w7⟩
   obtain⟨o,e,d⟩:=T.obj _ _ st5 b hb;exact(I7.pin (b,o) (zan _ (zan _ (bF hb e)))).2.1
  cases f with
  |next=>obtain⟨σ7,H7,I7,n7⟩:=q7;exact again I7 n7
  |cont=>obtain⟨σ7,H7,I7,n7⟩:=q7;exact again I7 n7
  |brk=>obtain⟨σ7,H7,I7,q7⟩:=q7;exact⟨σ7,H7,I7.dQ,q7⟩
  |ret v=>obtain⟨x7,σ7,H7,I7,r7,q7⟩:=q7;exact⟨x7,σ7,H7,I7.dQ,r7,q7⟩
end
abbrev R2:=V->V->Hp->VK->Prop
def OpR(X:Cx)(f:Value->Value->Sem Value)(r:R2):Prop :=
 ∀(pins:List (Addr×Obj)) (s:Shared) (σ:St) (H:Hp) (x y:V) (v u:Value) (Q:VK),Inv X pins σ H s->RelV x v->RelV y u->r x y H Q->
  wpAny (model X.prog X.w) X.A (f v u) (EP X pins σ Q) X.xe s
def dZ(X:Cx)(f:Value)(r:List V->Hp->VK->Prop):Prop :=
 ∀(pins:List (Addr×Obj)) (s:Shared) (σ:St) (H:Hp) (xs:List V) (us:List Value) (Q:VK),Inv X pins σ H s->Vals xs us->r xs H Q->
  wpAny (model X.prog X.w) X.A (call f us) (EP X pins σ Q) X.xe s
def tOp(r:R2)(ta tb:TE):TE:=fun σ H Q=>ta σ H λx H1=>tb σ H1 λy H2=>r x y H2 Q
def rI(C:Int->Int->Prop)(g:Int->Int->V):R2:=λx y H Q=>∃i j,x=.int i/\y=.int j/\C i j/\Q (g i j) H
def rI0(g:Int->Int->V):R2:=λx y H Q=>∃i j,x=.int i/\y=.int j/\Q (g i j) H
section
variable{X:Cx}{a b c:Expr}{ta tb tc:TE}{pos:Pos}
theorem Hh(ha:PE X a ta)(hb:PE X b tb){pins:List (Addr×Obj)}{s:Shared}{σ:St}{H:Hp}{R:V->V->Hp->Prop}(I:Inv X pins σ H s)
  (h:ta σ H λx H1=>tb σ H1 λy H2=>R x y H2) {Q:Value->Shared->Prop} {f:Value->Value->Sem Value}
  (hf:∀v u s2 x y H2,Inv X pins σ H2 s2->RelV x v->RelV y u->R x y H2->wpAny (model X.prog X.w) X.A (f v u) Q X.xe s2) :
  wpAny (model X.prog X.w) X.A (eval a X.env) (λv s₁=>wpAny (model X.prog X.w) X.A (eval b X.env) (λu s₂=>wpAny (model X.prog X.w) X.A (f v u) Q X.xe s₂) X.xe s₁) X.xe s:=by
 refine thn (ha pins s σ H _ I h) λv s1 ⟨x,H1,I1,r1,q1⟩=>?_
 refine thn (hb pins s1 σ H1 _ I1 q1) λu s2 ⟨y,H2,I2,r2,q2⟩=>?_
 exact hf v u s2 x y H2 I2 r1 r2 q2
theorem bM{op:Operator}{r:R2}(ho:OpR X (binaryOp op) r)(ha:PE X a ta)(hb:PE X b tb):PE X (.BinOp a op b pos) (tOp r ta tb):=by
 intro pins s σ H Q I h;exact wpAny_BinOp (Hh ha hb I h λv u s2 x y H2 I2 rx ry q=>ho pins s2 σ H2 x y v u Q I2 rx ry q)
theorem opI{f:Value->Value->Sem Value}{C:Int->Int->Prop}{g:Int->Int->Int}
  (rule:∀(i j:Int) (t u:Tok) (s:Shared) (Q:Value->Shared->Prop) (E:Value->Shared->Prop),C i j->Q (.int (g i j) s.toks) {s with toks:=s.toks+1}->wpAny (model X.prog X.w) X.A (f (.int i t) (.int j u)) Q E s) :
  OpR X f (rI C λi j=>.int (g i j)):=by
 intro pins s σ H x y v u Q I rx ry h;obtain⟨i,j,rfl,rfl,hc,q⟩:=h;obtain⟨t,rfl⟩:=rx;obtain⟨t',rfl⟩:=ry;exact rule i j t t' s _ _ hc ⟨.int (g i j),H,I.tok _,⟨_,rfl⟩,q⟩
theorem Je{f:Value->Value->Sem Value}{g:Int->Int->Int}
  (rule:∀(i j:Int) (t u:Tok) (s:Shared) (Q:Value->Shared->Prop) (E:Value->Shared->Prop),Q (.int (g i j) s.toks) {s with toks:=s.toks+1}->wpAny (model X.prog X.w) X.A (f (.int i t) (.int j u)) Q E s) :
  OpR X f (rI0 λi j=>.int (g i j)):=by
 intro pins s σ H x y v u Q I rx ry h;obtain⟨i,j,rfl,rfl,q⟩:=h;obtain⟨t,rfl⟩:=rx;obtain⟨t',rfl⟩:=ry;exact rule i j t t' s _ _ ⟨.int (g i j),H,I.tok _,⟨_,rfl⟩,q⟩
theorem Jf{f:Value->Value->Sem Value}{g:Int->Int->Bool}
  (rule:∀(i j:Int) (t u:Tok) (s:Shared) (Q:Value->Shared->Prop) (E:Value->Shared->Prop),Q (.bool (g i j)) s->wpAny (model X.prog X.w) X.A (f (.int i t) (.int j u)) Q E s) :
  OpR X f (rI0 λi j=>.bl (g i j)):=by
 intro pins s σ H x y v u Q I rx ry h;obtain⟨i,j,rfl,rfl,q⟩:=h;obtain⟨t,rfl⟩:=rx;obtain⟨t',rfl⟩:=ry;exact rule i j t t' s _ _ ⟨.bl (g i j),H,I,rfl,q⟩
def Hi(i j:Int):Prop:=0<j/\j<1073741824
def Hj(i j:Int):Prop:=0<=j/\j<=1000000/\i.natAbs<2^64
def Hk(i j:Int):Prop:=(-(2^64)<i/\i<2^64)\/(-(2^64)<j/\j<2^64)
theorem Hk.ok{i j:Int}(h:Hk i j):IntMulOk i j:=by
 rcases h with⟨h1,h2⟩|⟨h1,h2⟩
 ·exact .of_left (intBits_le_64 h1 h2)
 ·exact .of_right (intBits_le_64 h1 h2)
theorem Hl:OpR X (binaryOp .Add) (rI0 λi j=>.int (i+j)):=Je λ_ _ _ _ _ _ _ q=>add_int q
theorem pR:OpR X (binaryOp .Sub) (rI0 λi j=>.int (i-j)):=Je λ_ _ _ _ _ _ _ q=>sub_int q
theorem ia:OpR X (binaryOp .FloorDiv) (rI Hi λi j=>.int (i/j)):=opI λi j _ _ _ _ _ hc q=>by
 have h1:(0:Int)<j:=hc.1;have h2:j<1073741824:=hc.2;exact floordiv_int (by omega) (by rw[Int.fdiv_eq_ediv_of_nonneg i (by omega)];exact q) (.inl (PyProof.noPylong_small (by omega)))
theorem ee:OpR X (binaryOp .Mod) (rI (λ_ j=>0<j) λi j=>.int (i%j)):=opI λi j _ _ _ _ _ hc q=>by
 have h1:(0:Int)<j:=hc;exact mod_int' (by omega) (by rw[Int.fmod_eq_emod_of_nonneg i (by omega)];exact q)
theorem By:OpR X (binaryOp .Pow) (rI Hj λi j=>.int (i^j.toNat)):=opI λ_ _ _ _ _ _ _ hc q=>pow_int_small hc.1 hc.2.1 hc.2.2 q
theorem Bz{pins:List (Addr×Obj)}{σ:St}{H:Hp}{s:Shared}{Q:VK}{k k':Bool}(I:Inv X pins σ H s)(q:Q (.bl k) H)(e:k=k'):EP X pins σ Q (.bool k') s:=by
 subst e;exact⟨.bl k,H,I,rfl,q⟩
theorem Jg:OpR X (compareOp .LtE) (rI0 λi j=>.bl (decide (i<=j))):=Jf λ_ _ _ _ _ _ _ q=>le_int q
theorem rW:OpR X (compareOp .Gt) (rI0 λi j=>.bl (decide (j<i))):=Jf λ_ _ _ _ _ _ _ q=>gt_int q
theorem BA:OpR X (compareOp .Is) (λx y H Q=>y=.non/\Q (.bl (decide (x=.non))) H):=by
 intro pins s σ H x y v u Q I rx ry h;obtain⟨rfl,q⟩:=h;cases ry;refine is_none_gen (Bz I q ?_);cases x<;>first
  |(cases rx;rfl)
  |(obtain⟨t,rfl⟩:=rx;rfl)
theorem yT:OpR X (compareOp .IsNot) (λx y H Q=>y=.non/\Q (.bl (!decide (x=.non))) H):=by
 intro pins s σ H x y v u Q I rx ry h;obtain⟨rfl,q⟩:=h;cases ry;refine isnot_none_gen (Bz I q ?_);cases x<;>first
  |(cases rx;rfl)
  |(obtain⟨t,rfl⟩:=rx;rfl)
theorem OpR.or{f:Value->Value->Sem Value}{r r':R2}(h:OpR X f r)(h':OpR X f r'):OpR X f (λx y H Q=>r x y H Q\/r' x y H Q):=by
 intro pins s σ H x y v u Q I rx ry q;rcases q with q|q
 ·exact h pins s σ H x y v u Q I rx ry q
 ·exact h' pins s σ H x y v u Q I rx ry q
theorem bE(b:Expr){op:CmpOp}(h:op≠.In:=by decide)(h2:op≠.NotIn:=by decide):behindInMarks op b=false:=by
 have e1:(op==CmpOp.In)=false:=by cases op<;>first|rfl|exact absurd rfl h
 have e2:(op==CmpOp.NotIn)=false:=by cases op<;>first|rfl|exact absurd rfl h2
 cases b<;>simp[behindInMarks,e1,e2]
theorem gx{op:CmpOp}{r:R2}(ho:OpR X (compareOp op) r)(ha:PE X a ta)(hb:PE X b tb)(hm:behindInMarks op b=false):PE X (.Compare a [op] [b] pos) (tOp r ta tb):=by
 intro pins s σ H Q I h;exact wpAny_Compare1 (Hh ha hb I h λv u s2 x y H2 I2 rx ry q=>ho pins s2 σ H2 x y v u Q I2 rx ry q) hm
def BB(t:TE):TT:=fun σ H Q=>t σ H λx H'=>∃k,x=.bl k/\Q k H'
theorem bD{op:CmpOp}{r:R2}(ho:OpR X (compareOp op) r)(ha:PE X a ta)(hb:PE X b tb)(hm:behindInMarks op b=false):PT X (.Compare a [op] [b] pos) (BB (tOp r ta tb)):=by
 intro pins s σ H Q I h;refine wpAny_isTrue_Compare1 (thn (ha pins s σ H _ I h) λv s1 ⟨x,H1,I1,r1,q1⟩=>thn (hb pins s1 σ H1 _ I1 q1) λu s2 ⟨y,H2,I2,r2,q2⟩=>
  thn (ho pins s2 σ H2 x y v u _ I2 r1 r2 q2) λc s3 ⟨z,H3,I3,r3,k,e,q3⟩=>?_) hm
 subst e;cases r3;exact wpAny_truthy_bool ⟨H3,I3,q3⟩
theorem pT:(sizeLine:Nat)<2^63:=by rw[sizeLine_eq];decide
theorem xJ:OpR X (binaryOp .Add) (λx y H Q=>∃i j,x=.str i/\y=.str j/\i.length+j.length<=sizeLine/\Q (.str (i++j)) H):=by
 intro pins s σ H x y v u Q I rx ry h;obtain⟨i,j,rfl,rfl,hz,q⟩:=h;obtain⟨t,rfl⟩:=rx;obtain⟨t',rfl⟩:=ry;exact add_str (λt' tk=>⟨.str (i++j),H,I.tok _,⟨_,rfl⟩,q⟩) hz
theorem vals1{x:V}{us:List Value}(r:Vals [x] us):∃u,us=[u]/\RelV x u:=by
 cases r with
 |cons r1 r2=>cases r2;exact⟨_,rfl,r1⟩
theorem vals2{x y:V}{us:List Value}(r:Vals [x,y] us):∃u w',us=[u,w']/\RelV x u/\RelV y w':=by
 cases r with
 |cons r1 r2=>
  cases r2 with
  |cons r3 r4=>cases r4;exact⟨_,_,rfl,r1,r3⟩
theorem rX(hc:X.calm=true):dZ X (.builtin "max") (λxs H Q=>∃i j,xs=[.int i,.int j]/\Q (.int (if j>i then j else i)) H):=by
 intro pins s σ H xs us Q I r h;obtain⟨i,j,rfl,q⟩:=h;obtain⟨u,w',rfl,⟨t,rfl⟩,⟨t',rfl⟩⟩:=vals2 r;refine max_two_ints (I.ok.hd hc) λh' tk k=>⟨_,H,I.kept k,?_,q⟩
 by_cases hj:j>i
 ·rw[if_pos hj,if_pos hj];exact⟨_,rfl⟩
 ·rw[if_neg hj,if_neg hj];exact⟨_,rfl⟩
theorem Ae:dZ X (.type "int") (λxs H Q=>(∃i,xs=[.int i]/\Q (.int i) H)\/∃k,xs=[.bl k]/\Q (.int (if k then 1 else 0)) H):=by
 intro pins s σ H xs us Q I r h;rcases h with⟨i,rfl,q⟩|⟨k,rfl,q⟩
 ·obtain⟨u,rfl,t,rfl⟩:=vals1 r
  exact call_int_int ⟨.int i,H,I,⟨_,rfl⟩,q⟩
 ·obtain⟨u,rfl,r1⟩:=vals1 r
  cases r1;exact call_int_bool ⟨.int (if k then 1 else 0),H,I.tok _,⟨_,rfl⟩,q⟩
end
structure Hm(h:Heap)(x dx C:Addr)(mA:Str->Option Value):Prop where
 obj:h.get? x=some (PySem.W.instObj C dx)
 ns:h.Ns1 dx mA
 ne:dx≠x
theorem Af{h:Heap}{dx:Addr}{mA:Str->Option Value}(n:h.Ns1 dx mA):∃od,h.get? dx=some od/\∀name,PySem.W.lookIn name od=some (mA name):=by
 obtain⟨o,es,ep,ho,hd,hk,_,hm⟩:=n;refine⟨o,ho,λname=>?_⟩
 have e:=hm name;unfold nsFind findBy at e;rw[<-Array.find?_toList]at e;unfold PySem.W.lookIn;rw[hd];dsimp only;split
 ·rename_i y q
  rw[q]at e;exact congrArg some e
 ·rename_i q
  rw[q]at e;have a:es.toList.any (·.refKey)=false:=by
   rw[List.any_eq_false];intro y hy;obtain⟨z,t,hkey⟩:=hk y (Array.mem_toList_iff.mp hy);simp[DictEntry.refKey,hkey]
  have a' : ¬es.toList.any (·.refKey)=true:=by rw[a];exact zam
  rw[if_neg a'];exact congrArg some e
theorem Hm.look{h:Heap}{x dx C:Addr}{mA:Str->Option Value}(I:Hm h x dx C mA):∃od,PySem.W.InstAt h x (PySem.W.instObj C dx) C (some od)/\∀name,PySem.W.lookIn name od=some (mA name) :=
 let⟨od,ho,hl⟩:=Af I.ns
 ⟨od,⟨I.obj,rfl,rfl,ho⟩,hl⟩
def Hn(f:Str)(v:V):List (Str×V)->List (Str×V)
 | []=>[(f,v)]
 |(g,x)::r=>if g=f then(g,v)::r else(g,x)::Hn f v r
theorem lS.some_of{v:V}{o:Option Value}(r:lS (some v) o):∃u,o=some u/\RelV v u:=by
 cases o with
 |none=>exact(show False from r).elim
 |some u=>exact⟨u,rfl,r⟩
theorem lS.none_of{o:Option Value}(r:lS none o):o=none:=by
 cases o with
 |none=>rfl
 |some u=>exact(show False from r).elim
section
variable{P:Program}{w:World}{H H':Hp}{h h':Heap}{a C dx:Addr}{fs fs':List (Str×V)}
theorem D8(hok:HOk P w H h)(e:H a=some (.ins C dx fs)):∃mA,Hm h a dx C mA/\(∀f,lS (fs.lookup f) (mA f))/\PySem.Within mA (fs.map (·.1))/\fs.length<=1000/\H dx=some (.own a):=by
 obtain⟨d,z,ne,ob,mA,n,r,q⟩:=(show cy P w H h a (.ins C dx fs)from hok a _ e);exact⟨mA,⟨ob,n,ne⟩,r,q,z,d⟩
end
structure Cls(K:zag)(C:Addr):Prop where
 pg:PySem.W.plainGet K C Str.empty=true
 hd:PySem.W.hasDictIn K C=true
 po:PySem.W.plainOver K C=true
 sa:PySem.W.findIn K (.ref C) "__setattr__"=some (some (.builtin "object.__setattr__"))
theorem Cls.get{K:zag}{C:Addr}(c:Cls K C)(f:Str):PySem.W.plainGet K C f=true:=c.pg
structure Con(K:zag)(C:Addr)(f:Str)(v:V)(u:Value):Prop where
 at_:PySem.W.findIn K (.ref C) f=some (some u)
 rel:RelV v u
 get:PySem.W.specialIn K u "__get__"=some none
 cp:PySem.W.copiedNames.contains f=false
structure Meth(K:zag)(C:Addr)(m:Str)(f:Addr):Prop where
 at_:PySem.W.findIn K (.ref C) m=some (some (.ref f))
 fn:PySem.W.isFn K (.ref f)=true
 kp:PySem.W.keepIn K (.ref f)=true
section
variable{X:Cx}{pins:List (Addr×Obj)}{σ:St}{H:Hp}{s:Shared}{A:Around}{E:Value->Shared->Prop}{Q:Value->Shared->Prop}{c:Value}{b:Bool}
inductive nP(K:zag)(H:Hp):V->Value->Prop where
 |non:nP K H .non (.type "NoneType")
 |bl (x:Bool):nP K H (.bl x) (.type "bool")
 |int (i:Int):nP K H (.int i) (.type "int")
 |str (x:Str):nP K H (.str x) (.type "str")
 |flt (x:UInt64):nP K H (.flt x) (.type "float")
 |lst {a:Addr} {xs:List V} (e:H a=some (.lst xs)):nP K H (.ref a) (.type "list")
 |frz {a:Addr} {o:Obj} {xs:List V} (e:H a=some (.frz o (.lst xs))):nP K H (.ref a) (.type "list")
 |tup {a:Addr} {xs:List V} (e:H a=some (.tup xs)):nP K H (.ref a) (.type "tuple")
 |dK {a:Addr} {kvs:List (Key×V)} (e:H a=some (.dK kvs)):nP K H (.ref a) (.type "dict")
 |dT {a:Addr} {kvs:List (List Key×V)} (e:H a=some (.dT kvs)):nP K H (.ref a) (.type "dict")
 |ins {a C dx:Addr} {fs:List (Str×V)} (e:H a=some (.ins C dx fs)) (cl:Cls K C) (ha:PySem.W.findIn K (.ref C) "__class__"=some (some (.builtin "object.__class__")))
   (hn:PySem.W.specialIn K (.builtin "object.__class__") "__get__"=some (some (.builtin "getset_descriptor.__get__"))) (htk:PySem.W.takesIn K (.builtin "object.__class__")=some true)
   (hm:PySem.W.mroIn K C (.type "object")=some true):nP K H (.ref a) (.ref C)
theorem Ah{x:V}{u t:Value}(I:Inv X pins σ H s)(rx:RelV x u)(ty:nP X.K H x t)(e:PySem.W.kitOne X.K t c=some b)(h:∀tk,Q (.bool b) {s with toks:=tk}) :
  wpAny (model X.prog X.w) A (call (.builtin "isinstance") [u,c]) Q E s:=by
 cases ty with
 |non=>cases(show u=Value.none from rx);exact za4 PySem.W.kitx_none I.kIn True.intro e (λz=>nomatch z) h
 |bl y=>cases(show u=Value.bool y from rx);exact za4 PySem.W.kitx_bool I.kIn True.intro e (λz=>nomatch z) h
 |int i=>obtain⟨t,q⟩:=(show∃t,u=Value.int i t from rx);cases q;exact za4 PySem.W.kitx_int I.kIn True.intro e (λz=>nomatch z) h
 |str y=>obtain⟨t,q⟩:=(show∃t,u=Value.str y t from rx);cases q;exact za4 PySem.W.kitx_str I.kIn True.intro e (λz=>nomatch z) h
 |flt y=>obtain⟨t,q⟩:=(show∃t,u=Value.float y t from rx);cases q;exact za4 PySem.W.kitx_float I.kIn True.intro e (λz=>nomatch z) h
 | @lst a xs ea=>
  cases(show u=Value.ref a from rx);obtain⟨_,_,n,_,h1⟩:=(show cy X.prog X.w H s.heap a (.lst xs)from I.hok a _ ea);exact za4 PySem.W.kitx_list I.kIn ⟨_,h1,rfl⟩ e (λz=>nomatch z) h
 | @frz a ob xs ea=>
  cases(show u=Value.ref a from rx);obtain⟨_,_,_,n,_,h1⟩:=(show cy X.prog X.w H s.heap a (.frz ob (.lst xs))from I.hok a _ ea);exact za4 PySem.W.kitx_list I.kIn ⟨_,h1,rfl⟩ e (λz=>nomatch z) h
 | @tup a xs ea=>
  cases(show u=Value.ref a from rx);obtain⟨_,_,_,p⟩:=(show cy X.prog X.w H s.heap a (.tup xs)from I.hok a _ ea);obtain⟨o,h1,h2,_⟩:=p;exact za4 PySem.W.kitx_tuple I.kIn ⟨o,h1,h2⟩ e (λz=>nomatch z) h
 | @dK a kvs ea=>
  cases(show u=Value.ref a from rx);obtain⟨_,_,vs,_,p⟩:=(show cy X.prog X.w H s.heap a (.dK kvs)from I.hok a _ ea);obtain⟨o,es,ep,h1,h2,_⟩:=p;exact za4 PySem.W.kitx_dict I.kIn ⟨o,h1,h2.1⟩ e (λz=>nomatch z) h
 | @dT a kvs ea=>
  cases(show u=Value.ref a from rx);obtain⟨_,_,xs,_,o,es,ep,h1,h2,_⟩:=(show cy X.prog X.w H s.heap a (.dT kvs)from I.hok a _ ea);exact za4 PySem.W.kitx_dict I.kIn ⟨o,h1,h2.1⟩ e (λz=>nomatch z) h
 | @ins a C dx fs ea cl ha hn htk hm=>
  cases(show u=Value.ref a from rx);obtain⟨mA,O,_⟩:=D8 I.hok ea;obtain⟨od,J,_⟩:=O.look;exact za4 (PySem.W.kitx_own (cl.get _) cl.hd ha hn htk hm) I.kIn J e (λz=>nomatch z) h
end
structure eI(k:Nat)(A:Around):Prop where
 hd:A.handled=none
 dp:A.depth+3*k+5<recursionLimit
 un:A.units+16*k+200<cLine
theorem eI.mono{j k:Nat}{A:Around}(r:eI k A)(h:j<=k):eI j A:=⟨r.hd,by have:=r.dp;omega,by have:=r.un;omega⟩
theorem eI.deeper{k:Nat}{A:Around}(r:eI (k+1) A)(env:Env):eI k (A.deeper env) :=
 ⟨r.hd,by have:=r.dp;show A.depth+1+3*k+5<_;omega,by have:=r.un;show A.units+3+16*k+200<_;omega⟩
theorem eI.in1{k:Nat}{A:Around}(r:eI (k+1) A):eI k A.in1 :=
 ⟨r.hd,by have:=r.dp;show A.depth+3*k+5<_;omega,by have:=r.un;show A.units+1+16*k+200<_;omega⟩
theorem xK{A:Around}{C:Addr}{us:List Value}{kw:List (Str×Value)}:(A.under (.builtin "type.__call__" ⟨.ref C::us,kw⟩)).depth=A.depth+1:=by
 first|rfl|simp[Around.under,Code.weight,Code.isCreation,Code.isGuard,Code.isCaller,Code.frames,Code.isFrame,guardIds]
theorem xM{A:Around}{C:Addr}{us:List Value}{kw:List (Str×Value)}:(A.under (.builtin "type.__call__" ⟨.ref C::us,kw⟩)).units=A.units+1:=by
 first|rfl|simp[Around.under,Code.cUnits,Code.frames,Code.isFrame]
theorem eI.make{k:Nat}{A:Around}(r:eI (k+1) A)(C:Addr)(us:List Value)(kw:List (Str×Value)):eI k (A.under (.builtin "type.__call__" ⟨.ref C::us,kw⟩)) :=
 ⟨r.hd,by have:=r.dp;rw[xK];omega,by have:=r.un;rw[xM];omega⟩
theorem eI.depth{k:Nat}{A:Around}(r:eI k A):A.depth<recursionLimit:=by have:=r.dp;omega
theorem eI.units{k:Nat}{A:Around}(r:eI k A):A.units+64<cLine:=by have:=r.un;omega
def tw:TA:=λ_ H Q=>Q [] H
def hI(ta:TE)(tr:TA):TA:=fun σ H Q=>ta σ H λx H1=>tr σ H1 λxs H2=>Q (x::xs) H2
section
variable{X:Cx}{e:Expr}{es:List Expr}{te:TE}{t:TA}{pos:Pos}
theorem au:PA X [] tw:=λ_ _ _ _ H Q I h=>Calls.spliced_nil ⟨[],H,I,.nil,h⟩
theorem aa(ha:PE X e te)(hr:PA X es t)(hs:starEach (e::es) X.env=(false,eval e X.env)::starEach es X.env:=by rfl):PA X (e::es) (hI te t):=by
 intro pos pins s σ H Q I h;rw[hs];show wpAny _ _ (spliced ((false,eval e X.env)::backTo pos (starEach es X.env))) _ _ s;refine Calls.spliced_cons (thn (ha pins s σ H _ I h) λu s1 ⟨x,H1,I1,r1,q1⟩=>?_)
 exact thn (hr pos pins s1 σ H1 _ I1 q1) λus s2 ⟨xs,H2,I2,r2,q2⟩=>⟨x::xs,H2,I2,.cons r1 r2,q2⟩
def D9(t:TA):TE:=fun σ H Q=>t σ H λxs H1=>xs.length<=sizeLine/\∀p,H1 p=none->Q (.ref p) (upd H1 p (.tup xs))
def Ho(t:TA):TE:=fun σ H Q=>t σ H λxs H1=>xs.length<=sizeLine/\∀p,H1 p=none->Q (.ref p) (upd H1 p (.lst xs))
theorem bY{x1}(h:PA X es t):PE X (.Tuple es x1 pos) (D9 t):=by
 intro pins s σ H Q I hq;refine wpAny_Tuple_spliced (thn (h pos pins s σ H _ I hq) λus s1 ⟨xs,H1,I1,r,z,q⟩=>⟨by rw[<-r.length];exact z,?_⟩)
 have hf:H1 s1.heap.objs.size=none:=I1.hok.fresh (zap _);refine⟨.ref s1.heap.objs.size,upd H1 s1.heap.objs.size (.tup xs),I1.laid (t':=s1.toks) (λb u e=>zar _ e) (zap _) ?_,rfl,q _ hf⟩
 exact⟨z,us,r,⟨_,zaL _ rfl,rfl,_,rfl⟩⟩
theorem iF(h:PA X es t):PE X (.List es pos) (Ho t):=by
 intro pins s σ H Q I hq;refine wpAny_List_spliced (thn (h pos pins s σ H _ I hq) λus s1 ⟨xs,H1,I1,r,z,q⟩=>⟨by rw[<-r.length];exact z,?_⟩)
 have hf:H1 s1.heap.objs.size=none:=I1.hok.fresh (zap _);refine⟨.ref s1.heap.objs.size,upd H1 s1.heap.objs.size (.lst xs),I1.laid (t':=s1.toks) (λb u e=>zar _ e) (zap _) ?_,rfl,q _ hf⟩
 exact⟨z,us,0,r,zaL _ rfl⟩
end
abbrev Sp:=List V->Hp->VK->XK->Prop
abbrev CXT:=List Env->Hp->Shared->XK->Value->Shared->Prop
structure rl(P:Program)(w:World)(K:zag)(mg:Str->Option Value)(base:Heap)(A:Around)(outer:List Env)(s:Shared)(H:Hp):Prop where
 frames:A.frames=some outer
 mod:Mod K mg base
 bs:∀b o,base.get? b=some o->s.heap.get? b=some o/\H b=none
 bsz:base.objs.size<=s.heap.objs.size
 mh:s.heap.FunFrames base outer
 frf:∀b∈frs outer,H b=none
 hok:HOk P w H s.heap
 bare:AllBare s.gens
 tab:∀c T ps,gF K=some (c,T,ps)->∃more,H T=some (.tbl (ps++more))
def CE(outer:List Env)(P:Program)(w:World)(H:Hp)(s:Shared)(Q:VK)(u:Value)(s':Shared):Prop :=
 ∃v H',s'.os=s.os/\AllBare s'.gens/\Un (frs outer) [] H H' s.heap s'.heap/\HOk P w H' s'.heap/\RelV v u/\Q v H'
def CR(CX:CXT)(outer:List Env)(P:Program)(w:World)(H:Hp)(s:Shared)(Q:VK)(E:XK)(r:Result)(s':Shared):Prop :=
 match r with
 | .ok (.ret u)=>CE outer P w H s Q u s'
 | .ok _=>False
 | .error e=>CX outer H s E e s'
structure lT(P:Program)(w:World)(K:zag)(mg:Str->Option Value)(base:Heap)(CX:CXT)(k:Nat)(f:Addr)(fd:FuncData)(ps:List Str)(sp:Sp):Prop where
 len:∀vs H Q E,sp vs H Q E->vs.length=ps.length
 run:∀(A:Around) (outer:List Env) (s:Shared) (H:Hp) (args:Args) (us:List Value) (vs:List V) (Q:VK) (E:XK),eI k A->rl P w K mg base A outer s H->BindsTo s fd args (ps.zip us)->Vals vs us->sp vs H Q E->
  codeAny (model P w) A (.call (.ref f) args) (CR CX outer P w H s Q E) s
theorem lT.mono{P:Program}{w:World}{K:zag}{mg:Str->Option Value}{base:Heap}{CX:CXT}{j k:Nat}{f:Addr}{fd:FuncData}{ps:List Str}{sp:Sp}(F:lT P w K mg base CX j f fd ps sp)(h:j<=k) :
  lT P w K mg base CX k f fd ps sp:=⟨F.len,λA outer s H args us vs Q E hr=>F.run A outer s H args us vs Q E (hr.mono h)⟩
theorem lT.imp{P:Program}{w:World}{K:zag}{mg:Str->Option Value}{base:Heap}{CX:CXT}{k:Nat}{f:Addr}{fd:FuncData}{ps:List Str}{sp sp':Sp}(F:lT P w K mg base CX k f fd ps sp)
  (h:∀vs H Q E,sp' vs H Q E->sp vs H Q E):lT P w K mg base CX k f fd ps sp' :=
 ⟨λvs H Q E q=>F.len vs H Q E (h _ _ _ _ q),λA outer s H args us vs Q E hr he hb hv hs=>F.run A outer s H args us vs Q E hr he hb hv (h _ _ _ _ hs)⟩
theorem rl.make{P:Program}{w:World}{K:zag}{mg:Str->Option Value}{base:Heap}{A:Around}{outer:List Env}{s:Shared}{H:Hp}(e:rl P w K mg base A outer s H)(C:Addr)(us:List Value)(kw:List (Str×Value)) :
  rl P w K mg base (A.under (.builtin "type.__call__" ⟨.ref C::us,kw⟩)) outer s H:=⟨by first|exact e.frames|(simpa[Around.under,Code.envs,Code.isFrame,pushEnvs]using e.frames),e.mod,e.bs,e.bsz,e.mh,e.frf,e.hok,e.bare,e.tab⟩
theorem rl.in1{P:Program}{w:World}{K:zag}{mg:Str->Option Value}{base:Heap}{A:Around}{outer:List Env}{s:Shared}{H:Hp}(e:rl P w K mg base A outer s H) :
  rl P w K mg base A.in1 outer s H:=⟨e.frames,e.mod,e.bs,e.bsz,e.mh,e.frf,e.hok,e.bare,e.tab⟩
section
variable{X:Cx}{pins:List (Addr×Obj)}{σ:St}{H:Hp}{s s':Shared}
theorem Inv.env0(I:Inv X pins σ H s):rl X.prog X.w X.K X.mg X.base X.A X.stack s H :=
 ⟨I.ok.frames,I.ok.mod,I.bs,zaX I.ok.bsz I.sz,I.stack,I.pe,I.hok,I.bare,I.tab⟩
theorem Inv.after{Q:VK}{u:Value}(I:Inv X pins σ H s)(h:CE X.stack X.prog X.w H s Q u s'):EP X pins σ Q u s':=by
 obtain⟨v,H',os,bare,un,hok,r,q⟩:=h;obtain⟨hh,g,d,t,os'⟩:=s';obtain rfl:os'=s.os:=os;exact⟨v,H',I.call (h':=hh) (g':=g) (d':=d) (t':=t) (ch:=[]) un hok bare (λb z=>absurd z (by simp)),r,q⟩
end
def kq(sp:Sp)(dvs:List V)(E:XK)(t:TA):TE:=fun σ H Q=>t σ H λvs H1=>sp (vs++dvs) H1 Q E
def Binds(K:zag)(fd:FuncData)(ps:List Str)(ds:List Value):Prop :=
 ∀(s:Shared) (us:List Value),K.In s.heap->(us++ds).length=ps.length->BindsTo s fd ⟨us,[]⟩ (ps.zip (us++ds))
theorem Binds.all{K:zag}{fd:FuncData}{ps:List Str}(h:∀us:List Value,us.length=ps.length->bindArgs fd ⟨us,[]⟩=pure (ps.zip us)):Binds K fd ps []:=λs us _ hl=>by
 rw[zaR]at hl⊢;exact .of_eq (h us hl)
def Passes(CX:CXT)(X:Cx)(E:XK):Prop:=∀(pins:List (Addr×Obj)) (σ:St) (H:Hp) (s:Shared) (e:Value) (s':Shared),Inv X pins σ H s->CX X.stack H s E e s'->X.xe e s'
section
variable{X:Cx}{CX:CXT}{k:Nat}{f C:Addr}{fd:FuncData}{ps:List Str}{sp:Sp}{dvs:List V}{ds:List Value}{E:XK}{x m:Str}{p pos apos:Pos}{e o:Expr}{es:List Expr}{ta:TE}{t:TA}
theorem Hq{pins:List (Addr×Obj)}{σ:St}{H:Hp}{s:Shared}{Q:VK}{us:List Value}{vs:List V}(F:lT X.prog X.w X.K X.mg X.base CX k f fd ps sp)(hr:eI k X.A)(hb:Binds X.K fd ps ds)(hd:Vals dvs ds)(hx:Passes CX X E)
  (I:Inv X pins σ H s) (r:Vals vs us) (h:sp (vs++dvs) H Q E):wpAny (model X.prog X.w) X.A (call (.ref f) us) (EP X pins σ Q) X.xe s:=by
 have r2:Vals (vs++dvs) (us++ds):=r.append hd;have hl:(us++ds).length=ps.length:=by rw[<-r2.length];exact F.len _ _ _ _ h
 refine wpAny_call (codeAny_mono (F.run X.A X.stack s H ⟨us,[]⟩ (us++ds) (vs++dvs) Q E hr I.env0 (hb s us I.kIn hl) r2 h) λr s' hq=>?_)
 cases r with
 |error e=>exact hx pins σ H s e s' I hq
 |ok fl=>
  cases fl with
  |ret u=>exact I.after hq
  |next=>exact False.elim hq
  |brk=>exact False.elim hq
  |cont=>exact False.elim hq
theorem Ea(F:lT X.prog X.w X.K X.mg X.base CX k f fd ps sp)(hr:eI k X.A)(hg:Gl X x)(hm:X.mg x=some (.ref f))(hk:PySem.W.keepIn X.K (.ref f)=true)(hb:Binds X.K fd ps ds)(hd:Vals dvs ds)(hx:Passes CX X E)
  (ha:PA X (e::es) t) (hdb:(x==("__debug__":Str))=false:=by decide) (he:starEach (e::es) X.env=(false,eval e X.env)::starEach es X.env:=by rfl) (hpl:(backTo pos (starEach es X.env)).any (·.1)=false:=by rfl) :
  PE X (.Call (.Name x p) (e::es) [] pos) (kq sp dvs E t):=by
 intro pins s σ H Q I h;refine wpAny_Call_Name_kw (D1 I hg hm ?_ hdb);refine PySem.W.callWith_K (h₀:=X.base) I.ok.mod.kin hk (thn (ha pos pins s σ H _ I h) λus s1 ⟨vs,H1,I1,r,q⟩=>⟨I1.kIn,?_⟩) he hpl
 exact Hq F hr hb hd hx I1 r q
structure Mk(K:zag)(C f:Addr):Prop where
 makes:PySem.W.makesIn K C=true
 init:PySem.W.findIn K (.ref C) "__init__"=some (some (.ref f))
 fn:PySem.W.isFn K (.ref f)=true
 kp:PySem.W.keepIn K (.ref C)=true
end
section
variable{X:Cx}{CX:CXT}{k:Nat}{f C:Addr}{fd:FuncData}{ps ks:List Str}{sp:Sp}{E:XK}{x m:Str}{p pos apos kpos:Pos}{e o:Expr}{es:List Expr}{kws:List Keyword}{te ta:TE}{t tk:TA}{nm:Option Str}
structure Kv(K:zag)(fd:FuncData)(ps ks:List Str)(g:List Value->List Value->List Value)(gV:List V->List V->List V):Prop where
 to:∀(s:Shared) (us ws:List Value),K.In s.heap->(g us ws).length=ps.length->BindsTo s fd ⟨us,ks.zip ws⟩ (ps.zip (g us ws))
 rel:∀{vs:List V} {us:List Value} {zs:List V} {ws:List Value},Vals vs us->Vals zs ws->Vals (gV vs zs) (g us ws)
variable{g:List Value->List Value->List Value}{gV:List V->List V->List V}
end
structure bO(N P:List Str)(sc:Scope):Prop where
 kind:sc.kind=.function
 co:sc.isCoroutine=false
 gen:sc.isGenerator=false
 nd:N.Nodup
 pre:N.take P.length=P
 par:∀x∈P,sc.names.lookup x=some .local\/sc.names.lookup x=some .cell
 Hr:∀y∈sc.names,y.2≠.free
theorem rY{kindOf:Str->Option NameKind}{x:Str}:∀{binds:List (Str×Value)} {m:Str->Option Value},(∀v,(x,v)∉binds)->bindL kindOf binds m x=m x
 | [],_,_=>rfl
 |(n,v)::r,m,h=>by
  unfold bindL;rw[rY λw hw=>h w (zak _ hw)]
  split
  ·have:x≠n:=by rintro rfl;exact h v zas
   simp[this]
  ·rfl
theorem rZ{kindOf:Str->Option NameKind}{x:Str}:∀{binds:List (Str×Value)} {m:Str->Option Value},(∀v,(x,v)∉binds)->bindC kindOf binds m x=m x
 | [],_,_=>rfl
 |(n,v)::r,m,h=>by
  unfold bindC;rw[rZ λw hw=>h w (zak _ hw)]
  split
  ·rfl
  ·have:x≠n:=by rintro rfl;exact h v zas
   simp[this]
theorem r6{kindOf:Str->Option NameKind}{x:Str}{v:Value}:∀{P:List Str} {vs:List Value} {i:Nat} {m:Str->Option Value},P.Nodup->P[i]?=some x->vs[i]?=some v->kindOf x=some .local->
  bindL kindOf (P.zip vs) m x=some v
 | [],_,_,_,_,h,_,_=>by simp at h
 |_::_,[],_,_,_,_,h,_=>by simp at h
 |p::P,w::vs,0,m,nd,h1,h2,hk=>by
  simp at h1 h2;subst h1;subst h2
  show bindL kindOf ((p,w)::P.zip vs) m p=_;unfold bindL;rw[rY λv hv=>(List.nodup_cons.mp nd).1 (List.of_mem_zip hv).1,if_pos hk]
  simp
 |p::P,w::vs,i+1,m,nd,h1,h2,hk=>by
  show bindL kindOf ((p,w)::P.zip vs) m x=_;unfold bindL;exact r6 (i:=i) (List.nodup_cons.mp nd).2 (by simpa using h1) (by simpa using h2) hk
theorem r8{kindOf:Str->Option NameKind}{x:Str}{v:Value}:∀{P:List Str} {vs:List Value} {i:Nat} {m:Str->Option Value},P.Nodup->P[i]?=some x->vs[i]?=some v->kindOf x≠some .local->
  bindC kindOf (P.zip vs) m x=some v
 | [],_,_,_,_,h,_,_=>by simp at h
 |_::_,[],_,_,_,_,h,_=>by simp at h
 |p::P,w::vs,0,m,nd,h1,h2,hk=>by
  simp at h1 h2;subst h1;subst h2
  show bindC kindOf ((p,w)::P.zip vs) m p=_;unfold bindC;rw[rZ λv hv=>(List.nodup_cons.mp nd).1 (List.of_mem_zip hv).1,if_neg hk]
  simp
 |p::P,w::vs,i+1,m,nd,h1,h2,hk=>by
  show bindC kindOf ((p,w)::P.zip vs) m x=_;unfold bindC;exact r8 (i:=i) (List.nodup_cons.mp nd).2 (by simpa using h1) (by simpa using h2) hk
def start(N:List Str)(vs:List V):St:=vs.map some++List.replicate (N.length-vs.length) none
def tD(CX:CXT)(P:Program)(w:World)(K:zag)(mg:Str->Option Value)(base:Heap)(N:List Str)(qual:Str)(scope:Scope)(f:Addr)(cd:Value)(A:Around)(outer:List Env)(s:Shared)(H:Hp)(E:XK):Cx where
 prog:=P
 w:=w
 K:=K
 mg:=mg
 base:=base
 A:=A.deeper (envOfC qual scope s.heap.objs.size f cd)
 N:=N
 s₀:=s
 H₀:=H
 env:=envOfC qual scope s.heap.objs.size f cd
 outer:=outer
 stack:=envOfC qual scope s.heap.objs.size f cd::outer
 ex:=[]
 calm:=true
 fn:=λ_=>true
 pn:=[]
 xe:=λe s'=>wpAny (model P w) (A.deeper (envOfC qual scope s.heap.objs.size f cd)) (leaving (envOfC qual scope s.heap.objs.size f cd) e) (λ_ s''=>CX outer H s E e s'') (λe' s''=>CX outer H s E e' s'') s'
theorem vJ{sc:Scope}{n:Nat}{x:Str}(h:sc.names.lookup x=some .cell):∃c,(cellsFrom n sc.names []).lookup x=some c:=by
 have q:=PySem.W.cellsFrom_some sc.names n [] (.inl h);exact Option.isSome_iff_exists.mp q
theorem Ai{CX:CXT}{P:Program}{w:World}{K:zag}{mg:Str->Option Value}{base:Heap}{N ps:List Str}{qual:Str}{scope:Scope}{f:Addr}{cd:Value}{A:Around}{outer:List Env}{s s1:Shared}{H:Hp}{E:XK}{us:List Value}{vs:List V}
  (S:bO N ps scope) (hd:A.handled=none) (e0:rl P w K mg base A outer s H) (hl:vs.length=ps.length) (r:Vals vs us)
  (x:InCallC s s.heap.objs.size (bindL (envOfC qual scope s.heap.objs.size f cd).kindOf (ps.zip us) λ_=>none) (cellsFrom (s.heap.objs.size+1) scope.names []) (bindC (envOfC qual scope s.heap.objs.size f cd).kindOf (ps.zip us) λ_=>none) s1) :
  Inv (tD CX P w K mg base N qual scope f cd A outer s H E) [] (start N vs) H s1:=by
 have hpl:ps.length<=N.length:=by have:=congrArg List.length S.pre;rw[List.length_take]at this;omega
 obtain⟨h1,tk,rfl,hk⟩:=x.done;have noA:∀b:Addr,b∉(tD CX P w K mg base N qual scope f cd A outer s H E).ex:=λb z=>absurd (show b∈([]:List Addr)from z) (by simp)
 refine⟨⟨e0.mod,S.kind,rfl,rfl,zap _,λy z c h1 h2=>?_,λy hy=>?_,λy c _ h=>?_,λ_=>hd,Around.frames_deeper e0.frames,.inr ⟨rfl,rfl⟩,λb z=>absurd z (noA b),e0.bs,e0.bsz,λb _ _=>noA b,λb z=>absurd z (noA b),e0.mh,e0.frf,e0.tab⟩,
  rfl,e0.bare,Un.kept hk,⟨_,x.toInCall.ns,λi y v h1 h2 h3=>?_⟩,λy c h=>⟨_,x.cell y c h⟩,e0.hok.fresh (zap _),λy c h=>?_,λp hp=>absurd (show p∈([]:List (Addr×Obj))from hp) (by simp),e0.hok.kept hk,?_⟩
 ·exact name_of_addr x.apart (za5 h1) (za5 h2)
 ·have hy:scope.names.lookup y=some .cell\/scope.names.lookup y=some .free:=hy
  rcases hy with hy|hy
  ·exact vJ hy
  ·exact absurd rfl (S.Hr _ (za5 hy))
 ·exact Nat.le_of_lt (x.above y c (za5 h))
 ·have hi:i<vs.length:=by
   unfold start at h2
   by_cases hi:i<vs.length
   ·exact hi
   ·rw[zaN (by simpa using hi)]at h2
    rw[List.getElem?_replicate]at h2;split at h2<;>cases h2
  have ha:vs[i]?=some v:=by
   unfold start at h2;rw[zax (by simpa using hi),zao]at h2
   cases e:vs[i]? with
   |none=>rw[e]at h2;cases h2
   |some a=>rw[e]at h2;cases h2;rfl
  obtain⟨u,hu,rv⟩:=r.get ha;have hp:ps[i]?=some y:=by
   rw[<-S.pre,List.getElem?_take_of_lt (by omega)];exact h1
  have ndP:ps.Nodup:=by rw[<-S.pre];exact S.nd.sublist (List.take_sublist _ _)
  refine⟨u,rv,?_⟩;rcases S.par y (zaj hp)with k|k
  ·exact .inl ⟨k,r6 ndP hp hu k⟩
  ·obtain⟨c,e⟩:=vJ (n:=s.heap.objs.size+1) k
   refine .inr ⟨.inl k,c,e,?_⟩;have q:=x.cell y c e;rw[r8 ndP hp hu (by show scope.names.lookup y≠_;rw[k];decide)]at q
   exact q
 ·exact e0.hok.fresh (Nat.le_of_lt (x.above y c (za5 h)))
 ·unfold start
  show _=N.length;rw[zau,zal,List.length_replicate];omega
theorem fE{CX:CXT}{P:Program}{w:World}{K:zag}{mg:Str->Option Value}{base:Heap}{k:Nat}{f:Addr}{name qual:Str}{params:Arguments}{body:List Stmt}{scope:Scope}{dV kV doc pm cdv ct oc:Value}{an od:Option Addr}
  {osl:Array (Option Value)} {N ps:List Str} {sp:Sp} (lk:K.lookup f=some ⟨oc,od,.func (PySem.W.fnOf name qual params body scope dV kV doc pm an cdv ct),osl⟩) (hcd:PySem.W.codeIn K cdv qual=true) (S:bO N ps scope)
  (len:∀vs H Q E,sp vs H Q E->vs.length=ps.length)
  (hbody:∀(A:Around) (outer:List Env) (s:Shared) (H:Hp) (vs:List V) (Q:VK) (E:XK),eI k (A.deeper (envOfC qual scope s.heap.objs.size f cdv))->sp vs H Q E->
   ∃t,PSs (tD CX P w K mg base N qual scope f cdv A outer s H E) body t/\t {nx:=λ_ H'=>Q .non H',rt:=Q} (start N vs) H) :
  lT P w K mg base CX (k+1) f (PySem.W.fnOf name qual params body scope dV kV doc pm an cdv ct) ps sp:=by
 refine⟨len,λA outer s H args us vs Q E hr e0 hb r hsp=>?_⟩
 have hl:=len _ _ _ _ hsp;have KX:K.In s.heap:=e0.mod.kin.keeps λb o e=>(e0.bs b o e).1
 have lim:s.heap.NoLimit:=e0.mod.nolimit.keeps λb o e=>(e0.bs b o e).1
 have hkind:∀y∈ps.zip us,scope.names.lookup y.1=some .local\/(scope.names.lookup y.1=some .cell/\((cellsFrom (s.heap.objs.size+1) scope.names []).lookup y.1).isSome=true):=λ⟨n,v⟩ hy=>by
  rcases S.par n (List.of_mem_zip hy).1 with q|q
  ·exact .inl q
  ·exact .inr ⟨q,PySem.W.cellsFrom_some _ _ _ (.inl q)⟩
 refine codeAny_call_function hr.depth (KX _ _ lk) rfl S.co S.gen rfl (PySem.W.codeRec_of KX hcd) (hb _ _ _ _ ?_)
 refine wpAny_newFunctionEnv_cells S.kind hkind λenv he s1 x=>?_
 subst he;refine⟨lim.keeps x.toInCall.keep,codeAny_func ?_⟩
 obtain⟨t,ht,hq⟩:=hbody A outer s H vs Q E (hr.deeper _) hsp;have I:Inv (tD CX P w K mg base N qual scope f cdv A outer s H E) [] (start N vs) H s1:=Ai S hr.hd e0 hl r x;refine za6 (ht [] s1 (start N vs) H _ I hq) (λfl s' hs=>?_) λe s' hs=>hs
 have fin:∀{σ':St} {H':Hp} {v:V} {u:Value},Inv (tD CX P w K mg base N qual scope f cdv A outer s H E) [] σ' H' s'->RelV v u->Q v H'->CE outer P w H s Q u s' :=
  fun{σ' H' v u} J rv q=>⟨v,H',J.os,J.bare,J.base,J.hok,rv,q⟩
 cases fl with
 |ret u=>
  obtain⟨v,σ',H',J,rv,q⟩:=hs;exact fin J rv q
 |next=>
  obtain⟨σ',H',J,q⟩:=hs;exact fin (v:=V.non) (u:=Value.none) J rfl q
 |brk=>
  obtain⟨_,_,_,q⟩:=hs;exact False.elim q
 |cont=>
  obtain⟨_,_,_,q⟩:=hs;exact False.elim q
section
variable{X:Cx}{x:Str}{p pos:Pos}{e:Expr}{es:List Expr}{t:TA}{id T:String}{r:List V->Hp->VK->Prop}
def tCB(r:List V->Hp->VK->Prop)(t:TA):TE:=fun σ H Q=>t σ H λvs H1=>r vs H1 Q
theorem aM(hc:dZ X (.builtin id) r)(hg:Gl X x)(hm:X.mg x=none)(hv:bootBuiltins x=some (.builtin id))(ha:PA X (e::es) t)(hn:x≠"__name__":=by decide)(hdb:(x==("__debug__":Str))=false:=by decide)
  (he:starEach (e::es) X.env=(false,eval e X.env)::starEach es X.env:=by rfl) (hpl:(backTo pos (starEach es X.env)).any (·.1)=false:=by rfl):PE X (.Call (.Name x p) (e::es) [] pos) (tCB r t):=by
 intro pins s σ H Q I h;refine wpAny_Call_Name_kw (nM I hg hm hv ?_ hn hdb);exact PyProof.Rows.callWith_builtin1 (thn (ha pos pins s σ H _ I h) λus s1 ⟨vs,H1,I1,r1,q1⟩=>hc pins s1 σ H1 vs us Q I1 r1 q1) he hpl
theorem dz(hc:dZ X (.type T) r)(hg:Gl X x)(hm:X.mg x=none)(hv:bootBuiltins x=some (.type T))(ha:PA X (e::es) t)(hn:x≠"__name__":=by decide)(hdb:(x==("__debug__":Str))=false:=by decide)
  (he:starEach (e::es) X.env=(false,eval e X.env)::starEach es X.env:=by rfl) (hpl:(backTo pos (starEach es X.env)).any (·.1)=false:=by rfl):PE X (.Call (.Name x p) (e::es) [] pos) (tCB r t):=by
 intro pins s σ H Q I h;refine wpAny_Call_Name_kw (nM I hg hm hv ?_ hn hdb);exact PyProof.Rows.callWith_type1 (thn (ha pos pins s σ H _ I h) λus s1 ⟨vs,H1,I1,r1,q1⟩=>hc pins s1 σ H1 vs us Q I1 r1 q1) he hpl
end
end L2
namespace HT
open PySem PyProof.Rows
theorem BC(A:Around)(s:Shared)(a:Int)(t:Tok)(c:Int)(u:Tok)(prog:Program)(w:World)(E:Value->Shared->Prop)(Q:Value->Shared->Prop)(h:Q (.bool (decide (a<c))) s) :
  wpAny (model prog w) A (richCompare .Lt (.int a t) (.int c u)) Q E s :=
 (PyProof.Rows.lt_int h:wpAny (model prog w) A (compareOp .Lt (.int a t) (.int c u)) Q E s)
section
open PySem.SeqAt
open PySem.AutoSeq1 (wpAny_loadPart')
open PySem.MeetsSeq PySem.MeetsSeq2 PySem.MeetsSeq3
end
section
variable{prog:Program}{w:World}{A:Around}{E:Value->Shared->Prop}{s:Shared}
theorem Eb{t b:Addr}{vs ws:List Value}{Q:Value->Shared->Prop}(ht:IsTup s.heap t vs.toArray)(hb:IsTup s.heap b ws.toArray)(hv:vs≠[])
  (h1:ws=[]->Q (.ref t) s) (h2:ws≠[]->Q (.ref s.heap.objs.size) {s with heap:=s.heap.push {cls:=.type "tuple",data:=.seq (vs++ws).toArray}})
  (hsz:vs.length+ws.length<=sizeLine):wpAny (model prog w) A (binaryOp .Add (.ref t) (.ref b)) Q E s:=by
 obtain⟨⟨cls,dd,data,sl⟩,ho,hc,n,hd⟩:=id ht;obtain⟨⟨cls2,dd2,data2,sl2⟩,ho2,hc2,n2,hd2⟩:=id hb;simp only at hc hd hc2 hd2;subst hc hd hc2 hd2;have e:vs.toArray++ws.toArray=(vs++ws).toArray:=by simp
 by_cases hw:ws=[]
 ·exact concat_meets ⟨_,ho,rfl⟩ ⟨_,ho2,rfl⟩ noFill_tuple_add seq_tuple_add PySem.F.slot_tuple_add PySem.F.entry_tuple_add (PySem.F.args_tuple_add_2 _ _)
   (tuple_addW1 t b vs.toArray ws.toArray n n2 dd dd2 sl sl2 (by simpa using hv) (by simp[hw])) ⟨ho,ho2,h1 hw⟩
 ·refine concat_meets ⟨_,ho,rfl⟩ ⟨_,ho2,rfl⟩ noFill_tuple_add seq_tuple_add PySem.F.slot_tuple_add PySem.F.entry_tuple_add (PySem.F.args_tuple_add_2 _ _)
   (tuple_addW2 t b vs.toArray ws.toArray n n2 dd dd2 sl sl2 (by simpa using hv) (by simpa using hw) (by rw[zaK,zaK];exact hsz)) ⟨ho,ho2,?_⟩
  rw[e];exact h2 hw
def sIx(n d:Nat):Option Int->Nat
 |none=>d
 |some v=>if v<0 then(v+(n:Int)).toNat else min v.toNat n
theorem vK(n d:Nat):sIx n d none=d:=rfl
theorem yU(n d k:Nat):sIx n d (some (k:Int))=min k n:=by
 show(if(k:Int)<0 then((k:Int)+(n:Int)).toNat else min (k:Int).toNat n)=min k n
 rw[if_neg (by omega),Int.toNat_natCast]
end
end HT
namespace L2
open PySem PySem.Spec PyProof.Rows
abbrev TO:=St->Hp->(Option Int->Hp->Prop)->Prop
def PO(X:Cx)(e:Option Expr)(t:TO):Prop :=
 ∀(pins:List (Addr×Obj)) (s:Shared) (σ:St) (H:Hp) (Q:Option Int->Hp->Prop),Inv X pins σ H s->t σ H Q->
  wpAny (model X.prog X.w) X.A (evalPart e X.env) (λu s'=>∃o H',Inv X pins σ H' s'/\IsPart u o/\Q o H') X.xe s
def yV:TO:=λ_ H Q=>Q none H
def Gj(t:TE):TO:=fun σ H Q=>t σ H λx H1=>∃i,x=.int i/\Q (some i) H1
section
variable{X:Cx}{e:Expr}{te:TE}{lo hi:Option Expr}{tl th:TO}{pos p2:Pos}
theorem tE:PO X none yV:=by
 intro pins s σ H Q I h;rw[evalPart_none];exact zaZ ⟨none,H,I,.none,h⟩
theorem mB(h:PE X e te):PO X (some e) (Gj te):=by
 intro pins s σ H Q I hw;rw[evalPart_some];refine thn (h pins s σ H _ I hw) λu s1 ⟨x,H1,I1,r1,q1⟩=>?_
 obtain⟨i,rfl,q⟩:=q1;obtain⟨t,rfl⟩:=r1;exact⟨some i,H1,I1,.int i t,q⟩
def SlR(X:Cx)(r:V->Option Int->Option Int->Hp->VK->Prop):Prop :=
 ∀(pins:List (Addr×Obj)) (s:Shared) (σ:St) (H:Hp) (x:V) (v vl vu:Value) (lo hi:Option Int) (sl:Addr) (Q:VK),Inv X pins σ H s->RelV x v->s.heap.IsSliceOf sl vl vu .none->IsPart vl lo->IsPart vu hi->r x lo hi H Q->
  ∃T id,typeLookup (.type T) "__getitem__"=pure (some (.builtin id))/\s.TypeIs v T/\wpAny (model X.prog X.w) X.A (getItem v (.ref sl)) (EP X pins σ Q) X.xe s
theorem SlR.or{r r':V->Option Int->Option Int->Hp->VK->Prop}(h:SlR X r)(h':SlR X r'):SlR X (λx lo hi H Q=>r x lo hi H Q\/r' x lo hi H Q):=by
 intro pins s σ H x v vl vu lo hi sl Q I rx hs pl pu q;rcases q with q|q
 ·exact h pins s σ H x v vl vu lo hi sl Q I rx hs pl pu q
 ·exact h' pins s σ H x v vl vu lo hi sl Q I rx hs pl pu q
def tSl(r:V->Option Int->Option Int->Hp->VK->Prop)(te:TE)(tl th:TO):TE:=fun σ H Q=>te σ H λx H1=>tl σ H1 λl H2=>th σ H2 λu H3=>r x l u H3 Q
theorem mD{r:V->Option Int->Option Int->Hp->VK->Prop}(hr:SlR X r)(he:PE X e te)(hl:PO X lo tl)(hu:PO X hi th):PE X (.Subscript e (.Slice lo hi none p2) pos) (tSl r te tl th):=by
 intro pins s σ H Q I h;refine Subscript_ (thn (he pins s σ H _ I h) λv s1 ⟨x,H1,I1,r1,q1⟩=>?_)
 refine wpAny_Slice (thn (hl pins s1 σ H1 _ I1 q1) λvl s2 ⟨l,H2,I2,pl,q2⟩=>thn (hu pins s2 σ H2 _ I2 q2) λvu s3 ⟨u,H3,I3,pu,q3⟩=>?_)
 rw[evalPart_none];refine zaZ ?_;have I4:Inv X pins σ H3 {s3 with heap:=s3.heap.push {cls:=.type "slice",data:=.fields #[vl,vu,.none]}}:=I3.kept (t':=s3.toks) λb ob q=>zar _ q
 obtain⟨T,id,hT,ht,hg⟩:=hr pins {s3 with heap:=s3.heap.push {cls:=.type "slice",data:=.fields #[vl,vu,.none]}} σ H3 x v vl vu l u s3.heap.objs.size Q I4 r1 (Heap.IsSliceOf.new ..) pl pu q3
 show wpAny (model X.prog X.w) X.A (subscriptTail e (.Slice lo hi none p2) v (.ref s3.heap.objs.size)) (EP X pins σ Q) X.xe {s3 with heap:=s3.heap.push {cls:=.type "slice",data:=.fields #[vl,vu,.none]}}
 exact tail_any (ops:=[.ref s3.heap.objs.size,v]) ht hT hg (by with_unfolding_all rfl)
def Aj(xs:List V)(lo hi:Option Int):List V:=(xs.drop (HT.sIx xs.length 0 lo)).take (HT.sIx xs.length xs.length hi-HT.sIx xs.length 0 lo)
theorem vL(xs:List V)(lo hi:Option Int):(Aj xs lo hi).length<=xs.length:=by
 unfold Aj;rw[List.length_take,List.length_drop];omega
def Gk(K:zag):R2:=λx y H Q=>∃a b xs ys,x=.ref a/\y=.ref b/\SqT K H a xs/\SqT K H b ys/\xs≠[]/\xs.length+ys.length<=sizeLine/\
 (ys=[]->Q (.ref a) H)/\(ys≠[]->∀p,H p=none->Q (.ref p) (upd H p (.tup (xs++ys))))
theorem Vals.tF{xs:List V}{us:List Value}(r:Vals xs us):us=[]↔xs=[]:=by
 cases r with
 |nil=>simp
 |cons _ _=>simp
theorem Ec:OpR X (binaryOp .Add) (Gk X.K):=by
 intro pins s σ H x y v u Q I rx ry h;obtain⟨a,b,xs,ys,rfl,rfl,ha,hb,hx,hz,q1,q2⟩:=h;cases rx;cases ry;obtain⟨its,r1,p1,_⟩:=I.tuple ha;obtain⟨its2,r2,p2,_⟩:=I.tuple hb;refine HT.Eb p1 p2 (λz=>hx (r1.tF.mp z)) (λz=>⟨.ref a,H,I,rfl,q1 (r2.tF.mp z)⟩) (λz=>?_) (by rw[<-r1.length,<-r2.length];exact hz)
 refine⟨.ref s.heap.objs.size,_,I.laid (t':=s.toks) (o:=.tup (xs++ys)) (λb ob q=>zar _ q) (zap _) ?_,rfl,q2 (λw=>z (r2.tF.mpr w)) _ (I.hok.fresh (zap _))⟩
 exact⟨by rw[zau];exact hz,_,r1.append r2,IsTup.new _ _⟩
end
def ixN(n:Nat)(i:Int):Option Nat:=if 0<=i then(if i<n then some i.toNat else none)else if-(n:Int)<=i then some (i+n).toNat else none
def atI{α:Type}(xs:List α)(i:Int):Option α:=(ixN xs.length i).bind λj=>xs[j]?
theorem Ed{n:Nat}{i:Int}{j:Nat}(h:ixN n i=some j):seqIndex? i n=some j/\j<n/\-(n:Int)<=i/\i<n:=by
 unfold ixN at h
 by_cases h0 : 0<=i
 ·rw[if_pos h0]at h
  by_cases h1:i<n
  ·rw[if_pos h1]at h
   have e:i.toNat=j:=zaQ h;exact⟨by rw[seqIndex_of h0 h1,e],by omega,by omega,h1⟩
  ·rw[if_neg h1]at h;cases h
 ·rw[if_neg h0]at h
  by_cases h1 : -(n:Int)<=i
  ·rw[if_pos h1]at h
   have e:(i+n).toNat=j:=zaQ h;exact⟨by rw[seqIndex_neg (by omega) h1,e],by omega,h1,by omega⟩
  ·rw[if_neg h1]at h;cases h
theorem tG{α:Type}{xs:List α}{i:Int}{v : α}(h:atI xs i=some v):∃j,seqIndex? i xs.length=some j/\xs[j]?=some v/\j<xs.length/\-(xs.length:Int)<=i/\i<xs.length:=by
 unfold atI at h;cases e:ixN xs.length i with
 |none=>rw[e]at h;cases h
 |some j=>
  rw[e]at h;obtain⟨h1,h2,h3,h4⟩:=Ed e;exact⟨j,h1,h,h2,h3,h4⟩
theorem tH{α:Type}{xs:List α}{j:Nat}{v : α}(h:xs[j]?=some v):atI xs (j:Int)=some v:=by
 have hj:j<xs.length:=(zac h).1;have e:ixN xs.length (j:Int)=some j:=by
  unfold ixN;rw[if_pos (by omega),if_pos (by omega)];simp
 unfold atI;rw[e];exact h
theorem BD{α:Type}(xs:List α)(v : α):atI (xs++[v]) (-1)=some v:=by
 have hl:(xs++[v]).length=xs.length+1:=by simp
 have e:ixN (xs++[v]).length (-1)=some xs.length:=by
  unfold ixN;rw[hl,if_neg (by decide),if_pos (by omega)]
  congr 1
  omega
 unfold atI;rw[e];show(xs++[v])[xs.length]?=some v;simp
def Ee(b:Expr):Prop:=∀o i,subscripted b false o i=operate [o,i] (getItem o i)
def IxR(X:Cx)(r:R2):Prop :=
 ∀(value slice:Expr) (pins:List (Addr×Obj)) (s:Shared) (σ:St) (H:Hp) (x y:V) (v u:Value) (Q:VK),Inv X pins σ H s->RelV x v->RelV y u->r x y H Q->
  subscripted slice false v u=operate [v,u] (getItem v u)->wpAny (model X.prog X.w) X.A (subscriptTail value slice v u) (EP X pins σ Q) X.xe s
def MtR(X:Cx)(id:String)(r:V->List V->Hp->VK->Prop):Prop :=
 ∀(pins:List (Addr×Obj)) (s:Shared) (σ:St) (H:Hp) (x:V) (xs:List V) (v:Value) (us:List Value) (Q:VK),Inv X pins σ H s->RelV x v->Vals xs us->r x xs H Q->
  wpAny (model X.prog X.w) X.A (call (.builtin id) (v::us)) (EP X pins σ Q) X.xe s
section
variable{X:Cx}{a b:Expr}{ta tb:TE}{pos:Pos}
theorem IxR.or{r r':R2}(h:IxR X r)(h':IxR X r'):IxR X (λx y H Q=>r x y H Q\/r' x y H Q):=by
 intro value slice pins s σ H x y v u Q I rx ry q hs;rcases q with q|q
 ·exact h value slice pins s σ H x y v u Q I rx ry q hs
 ·exact h' value slice pins s σ H x y v u Q I rx ry q hs
theorem MtR.or{id:String}{r r':V->List V->Hp->VK->Prop}(h:MtR X id r)(h':MtR X id r'):MtR X id (λx xs H Q=>r x xs H Q\/r' x xs H Q):=by
 intro pins s σ H x xs v us Q I rx rs q;rcases q with q|q
 ·exact h pins s σ H x xs v us Q I rx rs q
 ·exact h' pins s σ H x xs v us Q I rx rs q
theorem aP{r:R2}(hr:IxR X r)(ha:PE X a ta)(hb:PE X b tb)(hs:Ee b):PE X (.Subscript a b pos) (tOp r ta tb):=by
 intro pins s σ H Q I h;exact Subscript_ (Hh ha hb I h λv u s2 x y H2 I2 rx ry q=>hr a b pins s2 σ H2 x y v u Q I2 rx ry q (hs _ _))
def Jh(K:zag):R2:=λx y H Q=>∃p xs i v,x=.ref p/\y=.int i/\SqL K H p xs/\atI xs i=some v/\Q v H
def Ji(K:zag):R2:=λx y H Q=>∃p xs i v,x=.ref p/\y=.int i/\SqT K H p xs/\atI xs i=some v/\Q v H
def Jj:R2:=λx y H Q=>∃z i c,x=.str z/\y=.int i/\z.length<=sizeLine/\atI z.cps.toList i=some c/\Q (.str ⟨#[c]⟩) H
theorem Ef:IxR X (Jh X.K):=by
 intro value slice pins s σ H x y v u Q I rx ry h hs;obtain⟨p,xs,i,z,rfl,rfl,hq,he,q⟩:=h;cases rx;obtain⟨t,rfl⟩:=ry;obtain⟨its,r,pl,hz⟩:=I.list hq;obtain⟨j,h1,h2,h3,h4,h5⟩:=tG he;obtain⟨w,ew,rw'⟩:=r.get h2;have hl:=r.length;have hn:=pT;have fin:EP X pins σ Q w s:=⟨z,H,I,rw',q⟩
 by_cases h0 : 0<=i
 ·have hj:i.toNat=j:=by
   rw[seqIndex_of h0 h5]at h1;exact zaQ h1
  exact item_listR pl.isList h0 (by omega) (by rw[hj];simpa using ew) fin hs
 ·have hj:(i+(its.toArray.size:Int)).toNat=j:=by
   rw[seqIndex_neg (by omega) h4]at h1
   rw[zaK,<-hl];exact zaQ h1
  exact subscriptTail_builtinR (x:=w) pl.isList.typeIs slot_list_getitem.lookup
   (wpAny_getItem_list_neg (Q:=λr s'=>r=w/\EP X pins σ Q r s') pl.isList (by omega) (by rw[zaK]<;>omega) (by omega) (by rw[hj];simpa using ew) ⟨rfl,fin⟩) hs
theorem Ht:IxR X (Ji X.K):=by
 intro value slice pins s σ H x y v u Q I rx ry h hs;obtain⟨p,xs,i,z,rfl,rfl,hq,he,q⟩:=h;cases rx;obtain⟨t,rfl⟩:=ry;obtain⟨its,r,pl,hz⟩:=I.tuple hq;obtain⟨j,h1,h2,h3,h4,h5⟩:=tG he;obtain⟨w,ew,rw'⟩:=r.get h2;have hl:=r.length;have hn:=pT;have fin:EP X pins σ Q w s:=⟨z,H,I,rw',q⟩;exact subscriptTail_builtinR (x:=w) pl.typeIs slot_tuple_getitem.lookup
  (getItem_tuple (j:=j) (Q:=λr s'=>r=w/\EP X pins σ Q r s') pl (by omega) (by omega) (by rw[zaK,<-hl];exact h1) (by simpa using ew) ⟨rfl,fin⟩) hs
theorem Hu:IxR X Jj:=by
 intro value slice pins s σ H x y v u Q I rx ry h hs;obtain⟨z,i,c,rfl,rfl,hz,he,q⟩:=h;obtain⟨t,rfl⟩:=rx;obtain⟨t',rfl⟩:=ry;obtain⟨j,h1,h2,h3,h4,h5⟩:=tG he;have hl:z.cps.toList.length=z.length:=by simp[Str.length]
 rw[hl]at h1 h4 h5;have hn:=pT;exact tail_any (typeIs_str s z t) slot_str_getitem.lookup (getItem_str (c:=c) (by
  have e1:decide (i< -(2^63:Int))=false:=zaO (by omega)
  have e2:decide (i>=2^63)=false:=zaO (by omega)
  rw[e1,e2,Bool.or_false]) (by rw[h1];simpa using h2) ⟨.str ⟨#[c]⟩,H,I.tok _,⟨_,rfl⟩,q⟩) hs
def rIx(K:zag):R2:=λx y H Q=>Jh K x y H Q\/Ji K x y H Q\/Jj x y H Q
theorem Hv:IxR X (rIx X.K):=Ef.or (Ht.or Hu)
theorem Inv.lst{pins:List (Addr×Obj)}{σ:St}{H:Hp}{s:Shared}{p:Addr}{xs:List V}(I:Inv X pins σ H s)(h:H p=some (.lst xs)) :
  ∃(its:List Value) (n:Nat),Vals xs its/\s.heap.get? p=some {cls:=.type "list",data:=.seq its.toArray n}/\xs.length<=sizeLine:=by
 obtain⟨z,its,n,r,e⟩:=I.hok p _ h;exact⟨its,n,r,e,z⟩
theorem tI(lo hi:Option Int)(n:Nat):(sliceBounds lo hi none n).1=((HT.sIx n 0 lo:Nat):Int)/\(sliceBounds lo hi none n).2.1=((HT.sIx n n hi:Nat):Int)/\(sliceBounds lo hi none n).2.2=1:=by
 refine⟨?_,?_,rfl⟩
 ·cases lo with
  |none=>simp[sliceBounds,HT.sIx]
  |some i=>
   simp only[sliceBounds,HT.sIx,Option.getD_none,show(1:Int)>0 by decide,if_true]
   by_cases h:i<0
   ·simp only[h,if_true]<;>omega
   ·simp only[h,if_false]<;>omega
 ·cases hi with
  |none=>simp[sliceBounds,HT.sIx]
  |some i=>
   simp only[sliceBounds,HT.sIx,Option.getD_none,show(1:Int)>0 by decide,if_true]
   by_cases h:i<0
   ·simp only[h,if_true]<;>omega
   ·simp only[h,if_false]<;>omega
theorem rm(its:List Value)(lo hi:Option Int):slicePick its.toArray lo hi none=((its.drop (HT.sIx its.length 0 lo)).take (HT.sIx its.length its.length hi-HT.sIx its.length 0 lo)).toArray:=by
 obtain⟨h1,h2,h3⟩:=tI lo hi its.toArray.size;unfold slicePick;rw[h1,h2,h3];simp only[sliceRange_one,pick_run,List.size_toArray]<;>rfl
def Hw(K:zag):V->Option Int->Option Int->Hp->VK->Prop:=λx lo hi H Q=>∃a xs,x=.ref a/\SqL K H a xs/\∀p,H p=none->Q (.ref p) (upd H p (.lst (Aj xs lo hi)))
theorem Eg:SlR X (Hw X.K):=by
 intro pins s σ H x v vl vu lo hi sl Q I rx hs pl pu h;obtain⟨a,xs,rfl,hx,q⟩:=h;cases rx;obtain⟨its,r,ht,hz⟩:=I.list hx;have hlen:=r.length;refine⟨"list",_,slot_list_getitem.lookup,ht.isList.typeIs,?_⟩;refine wpAny_getItem_list_slice ht.isList hs pl pu .none (by simp) ?_ (by rw[zaK]<;>omega)
 rw[rm,<-hlen];refine⟨.ref s.heap.objs.size,_,I.laid (t':=s.toks) (o:=.lst (Aj xs lo hi)) (λb ob q=>zar _ q) (zap _) ?_,rfl,q _ (I.hok.fresh (zap _))⟩
 exact⟨zaX (vL xs lo hi) hz,_,0,(r.drop (HT.sIx xs.length 0 lo)).take (HT.sIx xs.length xs.length hi-HT.sIx xs.length 0 lo),zaL _ rfl⟩
def lY:V->Bool
 | .non=>true
 | .bl _=>true
 | .int _=>true
 | .str _=>true
 |_=>false
def eqV:V->V->Bool
 | .non,.non=>true
 | .bl a,.bl b=>a==b
 | .bl a,.int b=>(if a then 1 else 0)==b
 | .int a,.bl b=>a==(if b then 1 else 0)
 | .int a,.int b=>a==b
 | .str a,.str b=>a==b
 |_,_=>false
theorem Hx{A:Around}{s:Shared}{y x:V}{u v:Value}(ry:RelV y u)(rx:RelV x v)(fy:lY y=true)(fx:lY x=true):SeqAt.EqAt A s u v (eqV y x):=by
 cases y with
 |non=>
  cases ry;cases x with
  |non=>cases rx;exact SeqAt.EqAt.same _
  |bl b=>cases rx;exact SeqAt.EqAt.none_bool b
  |int b=>obtain⟨t,rfl⟩:=rx;exact SeqAt.EqAt.none_int b t
  |str b=>obtain⟨t,rfl⟩:=rx;exact SeqAt.EqAt.none_str b t
  |_=>exact absurd (show false=true from fx) zam
 |bl a=>
  cases ry;cases x with
  |non=>cases rx;exact SeqAt.EqAt.bool_none a
  |bl b=>cases rx;exact SeqAt.EqAt.bool_bool a b
  |int b=>obtain⟨t,rfl⟩:=rx;exact SeqAt.EqAt.bool_int a b t
  |str b=>obtain⟨t,rfl⟩:=rx;exact SeqAt.EqAt.bool_str a b t
  |_=>exact absurd (show false=true from fx) zam
 |int a=>
  obtain⟨t',rfl⟩:=ry;cases x with
  |non=>cases rx;exact SeqAt.EqAt.int_none a t'
  |bl b=>cases rx;exact SeqAt.EqAt.int_bool a t' b
  |int b=>obtain⟨t,rfl⟩:=rx;exact SeqAt.EqAt.int_int a t' b t
  |str b=>obtain⟨t,rfl⟩:=rx;exact SeqAt.EqAt.int_str a t' b t
  |_=>exact absurd (show false=true from fx) zam
 |str a=>
  obtain⟨t',rfl⟩:=ry;cases x with
  |non=>cases rx;exact SeqAt.EqAt.str_none a t'
  |bl b=>cases rx;exact SeqAt.EqAt.str_bool a t' b
  |int b=>obtain⟨t,rfl⟩:=rx;exact SeqAt.EqAt.str_int a t' b t
  |str b=>obtain⟨t,rfl⟩:=rx;exact SeqAt.EqAt.str_str a t' b t
  |_=>exact absurd (show false=true from fx) zam
 |_=>exact absurd (show false=true from fy) zam
def eqU(x:V)(u:Value):Bool:=match u with
 | .none=>eqV .non x
 | .bool b=>eqV (.bl b) x
 | .int i _=>eqV (.int i) x
 | .str z _=>eqV (.str z) x
 |_=>false
theorem BF{x y:V}{u:Value}(r:RelV y u)(f:lY y=true):eqU x u=eqV y x:=by
 cases y with
 |non=>cases r;rfl
 |bl b=>cases r;rfl
 |int i=>obtain⟨t,rfl⟩:=r;rfl
 |str z=>obtain⟨t,rfl⟩:=r;rfl
 |_=>exact absurd (show false=true from f) zam
theorem tJ{x:V}:∀{xs:List V} {us:List Value},Vals xs us->xs.all lY=true->us.any (eqU x)=xs.any λy=>eqV y x
 |_,_,.nil,_=>rfl
 |y::xs,u::us,.cons r t,f=>by
  rw[List.all_cons,Bool.and_eq_true]at f;rw[List.any_cons,List.any_cons,BF r f.1,tJ t f.2]
theorem pU{A:Around}{s:Shared}{x:V}{v:Value}(rx:RelV x v)(fx:lY x=true):∀{xs:List V} {us:List Value},Vals xs us->xs.all lY=true->∀u∈us,SeqAt.EqAt A s u v (eqU x u)
 |_,_,.nil,_=>λu hu=>by cases hu
 |y::xs,u::us,.cons r t,f=>λu' hu=>by
  rw[List.all_cons,Bool.and_eq_true]at f;rcases zaf hu with rfl|hu
  ·rw[BF r f.1];exact Hx r rx f.1 fx
  ·exact pU rx fx t f.2 u' hu
def inV(x:V)(xs:List V):Bool:=xs.any λy=>eqV y x
def rIn(K:zag)(neg:Bool):R2:=λx y H Q=>∃p xs,y=.ref p/\(SqL K H p xs\/SqT K H p xs)/\lY x=true/\xs.all lY=true/\Q (.bl (if neg then !inV x xs else inV x xs)) H
theorem tK:OpR X (compareOp .NotIn) (rIn X.K true):=by
 intro pins s σ H x y v u Q I rx ry h;obtain⟨p,xs,rfl,hq,fx,fs,q⟩:=h;cases ry;rcases hq with hq|hq
 ·obtain⟨its,r,pl,hz⟩:=I.list hq
  refine SeqAt.notIn_listAt (eqU x) pl.isList (λw hw=>pU rx fx r fs w (by simpa using hw)) ⟨.bl _,H,I,rfl,?_⟩
  rw[show its.toArray.any (eqU x)=its.any (eqU x) by simp,tJ r fs]
  exact q
 ·obtain⟨its,r,pl,hz⟩:=I.tuple hq
  refine SeqAt.notIn_tupleAt (eqU x) pl (λw hw=>pU rx fx r fs w (by simpa using hw)) ⟨.bl _,H,I,rfl,?_⟩
  rw[show its.toArray.any (eqU x)=its.any (eqU x) by simp,tJ r fs]
  exact q
theorem tL:dZ X (.builtin "len") (λxs H Q=>∃p ys,xs=[.ref p]/\(SqL X.K H p ys\/SqT X.K H p ys)/\Q (.int ys.length) H):=by
 intro pins s σ H xs us Q I r h;obtain⟨p,ys,rfl,hq,q⟩:=h;obtain⟨u,rfl,rx⟩:=vals1 r;cases rx;have hn:=pT;rcases hq with hq|hq
 ·obtain⟨its,r',pl,hz⟩:=I.list hq
  have hlen:=r'.length;exact Calls.call_len_list pl.isList (by simp only[List.size_toArray]<;>omega) ⟨.int ys.length,H,I.tok _,⟨s.toks+1,by rw[zaK,hlen]⟩,q⟩
 ·obtain⟨its,r',pl,hz⟩:=I.tuple hq
  have hlen:=r'.length;exact len_tuple pl (by simp only[List.size_toArray]<;>omega) ⟨.int ys.length,H,I.tok _,⟨s.toks+1,by rw[zaK,hlen]⟩,q⟩
theorem tM:dZ X (.builtin "len") (λxs H Q=>∃z,xs=[.str z]/\z.length<=sizeLine/\Q (.int z.length) H):=by
 intro pins s σ H xs us Q I r h;obtain⟨z,rfl,hz,q⟩:=h;obtain⟨u,rfl,t,rfl⟩:=vals1 r;have hn:=pT;exact len_str (by omega) ⟨.int z.length,H,I.tok _,⟨_,rfl⟩,q⟩
theorem dZ.or{f:Value}{r r':List V->Hp->VK->Prop}(h:dZ X f r)(h':dZ X f r'):dZ X f (λxs H Q=>r xs H Q\/r' xs H Q):=by
 intro pins s σ H xs us Q I rs q;rcases q with q|q
 ·exact h pins s σ H xs us Q I rs q
 ·exact h' pins s σ H xs us Q I rs q
theorem tN:dZ X (.type "list") (λxs H Q=>∃p ys,xs=[.ref p]/\(SqL X.K H p ys\/SqT X.K H p ys)/\∀l,H l=none->Q (.ref l) (upd H l (.lst ys))):=by
 intro pins s σ H xs us Q I r h;obtain⟨p,ys,rfl,hq,q⟩:=h;obtain⟨u,rfl,rx⟩:=vals1 r;cases rx;have fin:∀(its:List Value),Vals ys its->ys.length<=sizeLine->∀(h':Heap) (c':Nat),(∀b o',s.heap.get? b=some o'->h'.get? b=some o')->
   h'.get? s.heap.objs.size=some {cls:=.type "list",dict:=none,data:=.seq its.toArray c',slots:=#[]}->EP X pins σ Q (.ref s.heap.objs.size) {s with heap:=h'}:=λits r' hz h' c' kp e=>
  ⟨.ref s.heap.objs.size,_,I.laid (t':=s.toks) kp (zap _) (show cy X.prog X.w _ h' _ (.lst ys)from⟨hz,its,c',r',e⟩),rfl,q _ (I.hok.fresh (zap _))⟩
 rcases hq with hq|hq
 ·obtain⟨its,r',pl,hz⟩:=I.list hq
  have hlen:=r'.length;obtain⟨o,ho,hc,n,hd⟩:=pl.isList;exact call_list_seq p (.inl rfl) ho hc hd (λh' c' kp e=>fin its r' hz h' c' kp e) (by simp only[List.size_toArray]<;>omega)
 ·obtain⟨its,r',pl,hz⟩:=I.tuple hq
  have hlen:=r'.length;obtain⟨o,ho,hc,n,hd⟩:=pl;exact call_list_seq p (.inr rfl) ho hc hd (λh' c' kp e=>fin its r' hz h' c' kp e) (by simp only[List.size_toArray]<;>omega)
theorem rn:dZ X (.type "tuple") (λxs H Q=>∃p ys,xs=[.ref p]/\((SqL X.K H p ys/\∀l,H l=none->Q (.ref l) (upd H l (.tup ys)))\/(SqT X.K H p ys/\Q (.ref p) H))):=by
 intro pins s σ H xs us Q I r h;obtain⟨p,ys,rfl,h⟩:=h;obtain⟨u,rfl,rx⟩:=vals1 r;cases rx;rcases h with⟨hq,q⟩|⟨hq,q⟩
 ·obtain⟨its,r',pl,hz⟩:=I.list hq
  have hlen:=r'.length;refine call_tuple_list pl.isList (λh' kp=>?_) (by simp only[List.size_toArray]<;>omega)
  have I1:Inv X pins σ H {s with heap:=h'}:=I.kept (t':=s.toks) kp
  have I2:Inv X pins σ (upd H h'.objs.size (.tup ys)) {s with heap:=h'.push {cls:=.type "tuple",data:=.seq its.toArray}} :=
   I1.laid (t':=s.toks) (λb o e=>zar _ e) (zap _) (show cy X.prog X.w _ _ _ (.tup ys)from⟨hz,its,r',IsTup.new _ _⟩)
  exact⟨.ref h'.objs.size,_,I2,rfl,q _ (I1.hok.fresh (zap _))⟩
 ·obtain⟨its,r',pl,hz⟩:=I.tuple hq
  exact call_tuple_same pl ⟨.ref p,H,I,rfl,q⟩
def tyV(K:zag)(T:String)(x:V)(H:Hp):Prop:=match x with
 | .str _=>T="str"
 | .int _=>T="int"
 | .ref p=>(T="list"/\∃xs,SqL K H p xs)\/(T="tuple"/\∃o,K.lookup p=some o/\o.cls=.type "tuple"/\o.dict=none)\/
   (T="dict"/\((∃kvs,H p=some (.dK kvs))\/∃kvs,H p=some (.dT kvs)))\/(T="set"/\∃S n,H p=some (.set S n))
 |_=>False
theorem BG{pins:List (Addr×Obj)}{σ:St}{H:Hp}{s:Shared}{T:String}{x:V}{v:Value}(I:Inv X pins σ H s)(r:RelV x v)(ty:tyV X.K T x H) :
  s.TypeIs v T/\∀a,v=.ref a->∃ob,s.heap.get? a=some ob/\ob.dict=none:=by
 cases x with
 |str z=>
  obtain⟨t,rfl⟩:=r;cases(show T="str"from ty);exact⟨typeIs_str s z t,λ_ e=>nomatch e⟩
 |int i=>
  obtain⟨t,rfl⟩:=r;cases(show T="int"from ty);exact⟨typeIs_int s i t,λ_ e=>nomatch e⟩
 |ref p=>
  cases r;rcases ty with⟨rfl,xs,hq⟩|⟨rfl,o,hk,hc,hd⟩|⟨rfl,hk⟩|⟨rfl,S,n,hk⟩
  ·obtain⟨its,_,pl,_⟩:=I.list hq
   refine⟨pl.isList.typeIs,λa e=>?_⟩
   cases e;obtain⟨o,n,e,c,hd,_⟩:=pl;exact⟨o,e,hd⟩
  ·refine⟨⟨o,I.kIn p o hk,hc⟩,λa e=>?_⟩
   cases e;exact⟨o,I.kIn _ o hk,hd⟩
  ·have z:∃o,s.heap.get? p=some o/\o.ExactDict:=by
    rcases hk with⟨kvs,hk⟩|⟨kvs,hk⟩
    ·obtain⟨_,_,_,_,o,_,_,e,ex,_⟩:=I.hok p _ hk
     exact⟨o,e,ex⟩
    ·obtain⟨_,_,_,_,o,_,_,e,ex,_⟩:=I.hok p _ hk
     exact⟨o,e,ex⟩
   obtain⟨o,e,ex⟩:=z;refine⟨⟨o,e,ex.1⟩,λa e2=>?_⟩
   cases e2;exact⟨o,e,ex.2.1⟩
  ·obtain⟨o,_,_,_,e,ex,_⟩:=I.hok p _ hk
   refine⟨⟨o,e,ex.1⟩,λa e2=>?_⟩
   cases e2;exact⟨o,e,ex.2.1⟩
 |_=>exact False.elim ty
def BH(K:zag)(T:String)(r:V->List V->Hp->VK->Prop)(to:TE):TE:=fun σ H Q=>to σ H λx H1=>tyV K T x H1/\r x [] H1 Q
def tBM(K:zag)(T:String)(r:V->List V->Hp->VK->Prop)(to:TE)(t:TA):TE:=fun σ H Q=>to σ H λx H1=>tyV K T x H1/\t σ H1 λxs H2=>r x xs H2 Q
variable{o e:Expr}{es:List Expr}{to:TE}{t:TA}{name:Str}{apos cpos:Pos}{T id:String}{r:V->List V->Hp->VK->Prop}
theorem Hy(pa:PlainAttrs T)(slot:Slot T name id)(hty:typeOf (.builtin id)=pure (.type "method_descriptor"))(hm:MtR X id r)(ho:PE X o to)
  (hbase:attributeBase o name X.env (eval o X.env)=eval o X.env:=by rfl) (hline:(apos.endLine==cpos.line)=true:=by rfl):PE X (.Call (.Attribute o name apos) [] [] cpos) (BH X.K T r to):=by
 intro pins s σ H Q I h;refine wpAny_Call_method0_late hbase hline (thn (ho pins s σ H _ I h) λv s1 ⟨x,H1,I1,r1,ty,q1⟩=>?_)
 obtain⟨h1,h2⟩:=BG I1 r1 ty;exact⟨T,id,pa,slot,hty,h1,h2,Calls.callWith_builtin rfl (PySem.evalArgs_none (hm pins s1 σ H1 x [] v [] Q I1 r1 .nil q1))⟩
theorem Jk(pa:PlainAttrs T)(slot:Slot T name id)(hty:typeOf (.builtin id)=pure (.type "method_descriptor"))(hm:MtR X id r)(ho:PE X o to)(ha:PA X (e::es) t)
  (hbase:attributeBase o name X.env (eval o X.env)=eval o X.env:=by rfl)
  (hfew:((backTo cpos (starEach (e::es) X.env)).all (λx=>!x.1)&&(backToKw cpos (keywordEach [] X.env)).all (λx=>x.1.isSome)
   &&decide ((e::es).length+([]:List Keyword).length+(if([]:List Keyword).isEmpty then 0 else 1)<30))=true:=by rfl)
  (hline:(apos.endLine==cpos.line)=true:=by rfl) (hs:starEach (e::es) X.env=(false,eval e X.env)::starEach es X.env:=by rfl) (hplain:(backTo cpos (starEach es X.env)).any (·.1)=false:=by rfl) :
  PE X (.Call (.Attribute o name apos) (e::es) [] cpos) (tBM X.K T r to t):=by
 intro pins s σ H Q I h;refine wpAny_Call_method_late hbase hfew hline rfl (thn (ho pins s σ H _ I h) λv s1 ⟨x,H1,I1,r1,ty,q1⟩=>?_)
 obtain⟨h1,h2⟩:=BG I1 r1 ty;refine⟨T,id,pa,slot,hty,h1,h2,?_⟩;have hA:=ha cpos pins s1 σ H1 _ I1 q1;rw[hs]at hA⊢;refine Calls.callWith_builtin (by show(false||(backTo cpos (starEach es X.env)).any (·.1))=false;rw[hplain]<;>rfl) (Calls.evalArgs_plain ?_)
 exact thn hA λus s2 ⟨vs,H2,I2,r2,q2⟩=>hm pins s2 σ H2 x vs v us Q I2 r1 r2 q2
end
def MtM(X:Cx)(id:String)(r:V->List V->Hp->VK->Prop):Prop :=
 ∀(pins:List (Addr×Obj)) (s:Shared) (σ:St) (H:Hp) (x:V) (xs:List V) (v:Value) (us:List Value) (Q:VK),Inv X pins σ H s->RelV x v->Vals xs us->r x xs H Q->
  wpAny (model X.prog X.w) X.A (call (.builtin id) (v::us)) (EP X pins σ Q) X.xe s
theorem Vals.one:∀{x:V} {us:List Value},Vals [x] us->∃u,us=[u]/\RelV x u
 |_,_,.cons r .nil=>⟨_,rfl,r⟩
theorem Vals.two:∀{x y:V} {us:List Value},Vals [x,y] us->∃u v,us=[u,v]/\RelV x u/\RelV y v
 |_,_,_,.cons r (.cons q .nil)=>⟨_,_,rfl,r,q⟩
theorem Vals.zero:∀{us:List Value},Vals [] us->us=[]
 |_,.nil=>rfl
theorem Vals.dropLast{xs:List V}{us:List Value}(h:Vals xs us):Vals xs.dropLast us.dropLast:=by
 induction h with
 |nil=>exact .nil
 |cons r t ih=>
  cases t with
  |nil=>exact .nil
  |cons q t'=>exact .cons r ih
theorem Vals.eraseIdx:∀{xs:List V} {us:List Value} (i:Nat),Vals xs us->Vals (xs.eraseIdx i) (us.eraseIdx i)
 |_,_,_,.nil=>.nil
 |_,_,0,.cons _ t=>t
 |_,_,i+1,.cons r t=>.cons r (Vals.eraseIdx i t)
theorem Vals.reverse{xs:List V}{us:List Value}(h:Vals xs us):Vals xs.reverse us.reverse:=by
 induction h with
 |nil=>exact .nil
 |cons r t ih=>rw[List.reverse_cons,List.reverse_cons];exact Vals.append ih (.cons r .nil)
theorem Vals.rep{xs:List V}{us:List Value}(h:Vals xs us):∀k:Nat,Vals (List.replicate k xs).flatten (List.replicate k us).flatten
 |0=>.nil
 |k+1=>by
  rw[zbc,zbc,List.flatten_cons,List.flatten_cons];exact Vals.append h (Vals.rep h k)
theorem foldl_rep(its:List Value):∀(k:Nat) (acc:List Value),
  List.foldl (λx1 x2=>x1++x2) acc.toArray (List.replicate k its.toArray)=(acc++(List.replicate k its).flatten).toArray
 |0,acc=>by simp
 |k+1,acc=>by
  have e:acc.toArray++its.toArray=(acc++its).toArray:=by simp
  have e2:(acc++its)++(List.replicate k its).flatten=acc++(List.replicate (k+1) its).flatten:=by
   rw[zbc,List.flatten_cons,zaD]
  rw[<-e2,<-foldl_rep its k (acc++its),<-e,zbc,List.foldl_cons]
section
variable{X:Cx}{pins:List (Addr×Obj)}{σ:St}{H:Hp}{s:Shared}{l b:Addr}{xs ys zs:List V}
theorem Inv.Eh{its its':List Value}{n:Nat}{f:Array Value->Array Value}{t':Nat}(I:Inv X pins σ H s)(hH:H l=some (.lst xs))
  (e:s.heap.get? l=some {cls:=.type "list",data:=.seq its.toArray n}) (hf:f its.toArray=its'.toArray) (hv:Vals ys its') (hz:ys.length<=sizeLine) :
  Inv X pins σ (upd H l (.lst ys)) {s with heap:=s.heap.update l (Obj.mapSeq f),toks:=t'}:=by
 have q:=PySem.IsL.update e f;rw[hf]at q;refine I.write (x:=l) (e:=l) (by rw[hH];exact trivial) (.inl rfl) (λb' u hb hu=>(Heap.get?_update_other s.heap (Obj.mapSeq f) (Ne.symm hb)).trans hu) ⟨_,q⟩ ?_
 exact⟨hz,its',_,hv,q⟩
theorem Inv.Jl{its:List Value}{t':Nat}(I:Inv X pins σ H s)(hv:Vals ys its)(hz:ys.length<=sizeLine) :
  Inv X pins σ (upd H s.heap.objs.size (.lst ys)) {s with heap:=s.heap.push {cls:=.type "list",data:=.seq its.toArray},toks:=t'} :=
 I.laid (λ_ _ q=>zar _ q) (zap _) ⟨hz,its,0,hv,zaL _ rfl⟩
theorem Inv.fresh(I:Inv X pins σ H s):H s.heap.objs.size=none:=I.hok.fresh (zap _)
theorem Inv.BI(I:Inv X pins σ H s)(hH:H l=some (.lst xs)):xs.length<=sizeLine/\∃(its:List Value) (n:Nat),Vals xs its/\xs.length=its.length/\s.heap.get? l=some {cls:=.type "list",data:=.seq its.toArray n}:=by
 obtain⟨z,its,n,r,e⟩:=I.hok l _ hH;exact⟨z,its,n,r,r.length,e⟩
theorem BJ{n:Nat}(h:n<=sizeLine):Builtin.List.listTooLong n=false:=by
 unfold Builtin.List.listTooLong;exact zaO (by omega)
end
section
variable{X:Cx}
def mE:V->List V->Hp->VK->Prop:=λx vs H Q=>∃l xs y,x=.ref l/\vs=[y]/\H l=some (.lst xs)/\xs.length<sizeLine/\Q .non (upd H l (.lst (xs++[y])))
theorem eJ:MtM X "list.append" mE:=by
 intro pins s σ H x vs v us Q I rx rv h;obtain⟨l,xs,y,rfl,rfl,hH,hz,q⟩:=h;cases rx;obtain⟨u,rfl,ru⟩:=rv.one;obtain⟨z,its,n,r,hl,e⟩:=I.BI hH;refine call_meets F.slot_list_append ⟨_,e,rfl⟩ F.entry_list_append (F.args_list_append_2 _ _) (PySem.list_append l its.toArray n u (by rw[zaK];omega)) ⟨e,?_⟩
 refine⟨.non,_,I.Eh (its':=its++[u]) hH e (by simp) (r.append (.cons ru .nil)) ?_,rfl,q⟩
 rw[zau,za7];omega
def vM:V->List V->Hp->VK->Prop:=λx vs H Q=>∃l xs,x=.ref l/\vs=[]/\H l=some (.lst xs)/\Q .non (upd H l (.lst xs.reverse))
theorem xN:MtM X "list.reverse" vM:=by
 intro pins s σ H x vs v us Q I rx rv h;obtain⟨l,xs,rfl,rfl,hH,q⟩:=h;cases rx;have hus:=rv.zero;subst hus;obtain⟨z,its,n,r,hl,e⟩:=I.BI hH;refine call_meets F.slot_list_reverse ⟨_,e,rfl⟩ F.entry_list_reverse (F.args_list_reverse_1 _) (AutoSeq1.list_reverse_list_0 l its.toArray n (by rw[zaK];omega)) ⟨e,?_⟩
 refine⟨.non,_,I.Eh (its':=its.reverse) hH e (by simp) r.reverse ?_,rfl,q⟩
 rw[List.length_reverse];omega
def BK:V->List V->Hp->VK->Prop:=λx vs H Q=>∃l xs,x=.ref l/\vs=[]/\H l=some (.lst xs)/\Q .non (upd H l (.lst []))
theorem BL:MtM X "list.clear" BK:=by
 intro pins s σ H x vs v us Q I rx rv h;obtain⟨l,xs,rfl,rfl,hH,q⟩:=h;cases rx;have hus:=rv.zero;subst hus;obtain⟨z,its,n,r,hl,e⟩:=I.BI hH;refine call_meets F.slot_list_clear ⟨_,e,rfl⟩ F.entry_list_clear (F.args_list_clear_1 _) (AutoSeq1.list_clear_list_0 l its.toArray n (by rw[zaK];omega)) ⟨e,?_⟩
 exact⟨.non,_,I.Eh (its':=[]) (ys:=[]) hH e rfl .nil (Nat.zero_le _),rfl,q⟩
def Jm:R2:=λx y H Q=>∃l k xs,x=.ref l/\y=.int k/\H l=some (.lst xs)/\-(2^63)<=k/\k<2^63/\xs.length*k.toNat<=sizeLine/\
 ∀p,H p=none->Q (.ref p) (upd H p (.lst (List.replicate k.toNat xs).flatten))
theorem len_rep{α:Type}(xs:List α)(k:Nat):(List.replicate k xs).flatten.length=k*xs.length:=by
 induction k with
 |zero=>simp
 |succ k ih=>rw[zbc,List.flatten_cons,zau,ih,Nat.succ_mul,Nat.add_comm]
theorem Hz:OpR X (binaryOp .Mult) Jm:=by
 intro pins s σ H x y v u Q I rx ry h;obtain⟨l,k,xs,rfl,rfl,hH,h1,h2,hz,q⟩:=h;cases rx;obtain⟨t,rfl⟩:=ry;obtain⟨z,its,n,r,hl,e⟩:=I.BI hH;have hlen:its.toArray.size*k.toNat<=sizeLine:=by rw[zaK,<-hl];exact hz
 have hcap : ¬its.toArray.size*k.toNat>(2^63-1)/8:=by
  have:(sizeLine:Nat)<=(2^63-1)/8:=by decide
  omega
 have hfit : ¬(!Builtin.List.listFitsIndex k)=true:=by
  rw[fitsIndex_both h1 h2];exact zam
 have Jn : ¬Builtin.List.listTooLong (its.toArray.size*k.toNat)=true:=by
  rw[BJ hlen];exact zam
 have hnew:List.foldl (λx1 x2=>x1++x2) #[] (List.replicate (if its.toArray.isEmpty=true then 0 else k.toNat) its.toArray)=(List.replicate k.toNat its).flatten.toArray:=by
  have f0:∀m:Nat,List.foldl (λx1 x2=>x1++x2) #[] (List.replicate m its.toArray)=(List.replicate m its).flatten.toArray:=λm=>by
   have:=foldl_rep its m [];rw[List.nil_append]at this;exact this
  rw[f0];cases its with
  |nil=>simp
  |cons a r'=>rw[if_neg (by simp)]
 refine wpAny_binaryOp_repeat_ref (T:="list") (U:="int") (by decide) ⟨_,e,rfl⟩ (λs'=>typeIs_int s' k t) noFill_list_mul F.fills_int_mul F.slot_int_rmul repeat_list F.slot_int_index.lookup
  (call_meets F.slot_int_rmul (typeIs_int s k t) F.entry_int_rmul (F.args_int_rmul_2 _ _) (int___rmul___int_list k t l its.toArray n)
   ⟨e,rfl,⟨_,e,rfl⟩,call_meets F.slot_list_mul ⟨_,e,rfl⟩ F.entry_list_mul (F.args_list_mul_2 _ _) (AutoListH.list___mul___list_int_3 l its.toArray n k t hfit hcap Jn) ⟨e,?_⟩⟩)
 rw[hnew];exact⟨.ref _,_,I.Jl (t':=s.toks) (r.rep k.toNat) (by rw[len_rep,Nat.mul_comm];exact hz),rfl,q _ I.fresh⟩
end
section
variable{prog:Program}{w:World}{A:Around}{E:Value->Shared->Prop}{s:Shared}
set_option maxRecDepth 100000 in
end
end L2
namespace Att
open PySem PySem.W PySem.Calls PyProof.Rows
theorem o5{P:Params}{h:Heap}:∀(ns:List Int) (vs:List Value),WellAll P h vs (ns.map WData.int)->IntsAre vs ns:=by
 intro ns
 induction ns with
 |nil=>
  intro vs w;rw[List.map_nil]at w;cases w;exact .nil
 |cons n ns ih=>
  intro vs w;rw[zaz]at w;cases w with
  |cons a b=>
   cases a;exact .cons _ _ (ih _ b)
theorem Ak{l:OpenLaw}{n:Nat}(hn:l.most=some n){P:Params}{h:Heap}{args:List WData}{vals:List Value}
  (hpre:l.row.toRowW.claim.pre args=true) (hwl:WellAll P h vals args) :
  ∃a vs ns,vals=[Value.ref a]/\args=[WData.list (ns.map WData.int)]/\h.get? a=some {cls:=.type "list",data:=.seq vs.toArray}/\IntsAre vs ns/\ns.length<=n:=by
 have hsh:WShape.hasAll [] args [.list .int]=true:=(pre_splitW hpre).1;have hc:l.pre.holds [] {args:=args}=true:=(pre_splitW hpre).2;obtain⟨d,r,rfl,h1,h2⟩:=hasAllW_cons hsh;obtain rfl:=hasAllW_nil h2;obtain⟨xs,rfl,h3⟩:=hasW_list h1;obtain⟨ns,rfl⟩:=items_int h3;have hlen:ns.length<=n:=by
  unfold OpenLaw.pre at hc;have h4:(WTm.not (.lt (.lit (.int (n:Int))) (.len (.arg 0)))).holds [] {args:=[.list (ns.map .int)]}=true:=by
   have h4:=(holds_andW hc).1;rw[hn]at h4;exact h4
  have h5:=condW_of h4 (w_not (w_lt w_lit (w_len_list (w_arg rfl))));rw[zal]at h5;refine zba λq=>?_
  have q':(n:Int)<((ns.length:Nat):Int):=by omega
  first
   |(rw[zaH q']at h5;exact absurd h5 (by decide))
   |(simp at h5;omega)
 cases hwl with
 |cons w1 w2=>
  cases w2;cases w1 with
  |list ho hall=>exact⟨_,_,ns,rfl,rfl,ho,o5 ns _ hall,hlen⟩
theorem An(l:OpenLaw)(args:List WData):l.row.toRowW.claim.post args (.bool true) args=true :=
 postW_of (r:=l.row.toRowW) (X:=(true==true))
  (show WShape.has [] (.bool true) .bool=true by first|rfl|decide|simp[WShape.has,WShape.arms,WShape.armsAll])
  (show(WTm.eq .res (.lit (.bool true))).value [] {args:=args,res:=some (.bool true),after:=args}=some (.bool (true==true))from w_eq_bool (w_res rfl) w_lit) rfl
end Att
namespace L2
open PySem PySem.Spec PyProof.Rows
theorem r9:∀{vs:List Value} {ns:List Int},IntsAre vs ns->Vals (ns.map V.int) vs
 |_,_,.nil=>.nil
 |_,_,.cons n t h=>.cons ⟨t,rfl⟩ (r9 h)
def Only(H:Hp):Prop:=∀b,H b=none\/(∃o xs,H b=some (.frz o (.lst xs)))\/∃ps,H b=some (.tbl ps)
theorem pV{K:zag}{c T:Addr}{ps:Array Value}(e:gF K=some (c,T,ps)):K.lookup T=none/\PySem.W.codeHdIn K c T=true:=by
 unfold gF at e;split at e
 ·rename_i c' T' ps' _
  split at e
  ·rename_i hc
   cases e;unfold xD at hc;simp only[Bool.and_eq_true]at hc;exact⟨by simpa using hc.1.2,hc.1.1⟩
  ·cases e
 ·cases e
theorem ku{β:Type}{a:Addr}{o : β}:∀{K:List (Addr×β)},K.lookup a=some o->(a,o)∈K
 | [],e=>by cases e
 |(b,u)::r,e=>by
  rw[za8]at e;split at e
  ·rename_i hb
   have hb':a=b:=by simpa using hb
   subst hb';cases e;exact zas
  ·exact zak _ (ku e)
theorem HA{K:zag}{c T f:Addr}{ps:Array Value}{oc:Value}{od:Option Addr}{fd:FuncData}{osl:Array (Option Value)}{lp:Pos}(e:gF K=some (c,T,ps))(lk:K.lookup f=some ⟨oc,od,.func fd,osl⟩)(hp:tq fd.body=some lp) :
  fd.code=.ref c/\ps=#[rawInt lp.line,rawInt lp.col,.str (fd.qualname++".<locals>.<lambda>") 0]:=by
 unfold gF at e;split at e
 ·split at e
  ·rename_i hc
   cases e;unfold xD at hc;simp only[Bool.and_eq_true]at hc;have h1:=List.all_eq_true.mp hc.2 _ (ku lk);have h2:Bi fd=true:=by unfold Bi;rw[hp];rfl
   simp only[h2,Bool.not_true,Bool.false_or]at h1;have h3:=beq_iff_eq.mp h1;unfold vE at h3;rw[hp]at h3;split at h3
   ·rename_i lp' c' e1 e2
    cases e1;split at h3
    ·split at h3
     ·cases h3;exact⟨e2,rfl⟩
     ·cases h3
    ·cases h3
   ·cases h3
  ·cases e
 ·cases e
theorem BM{K:zag}{fd:FuncData}{c T:Addr}{ps:Array Value}(e:vE K fd=some (c,T,ps)):∃l k q,ps=#[rawInt l,rawInt k,.str q 0]:=by
 unfold vE at e;split at e
 ·split at e
  ·split at e
   ·cases e;exact⟨_,_,_,rfl⟩
   ·cases e
  ·cases e
 ·cases e
theorem yW{K:zag}{c T:Addr}{ps:Array Value}(e:gF K=some (c,T,ps)):∃l k q,ps=#[rawInt l,rawInt k,.str q 0]:=by
 unfold gF at e;split at e
 ·rename_i c' T' ps' hx
  split at e
  ·cases e
   obtain⟨p,_,hp⟩:=List.exists_of_findSome?_eq_some hx;split at hp
   ·exact BM hp
   ·cases hp
  ·cases e
 ·cases e
theorem Ei{K:zag}{c T:Addr}{ps:Array Value}(e:gF K=some (c,T,ps)):ps[0]?≠some .none:=by
 obtain⟨l,k,q,rfl⟩:=yW e;intro z;cases z
theorem vN{K:zag}{c T:Addr}{ps:Array Value}(e:gF K=some (c,T,ps))(more:Array Value):(ps++more)[0]?≠some .none:=by
 obtain⟨l,k,q,rfl⟩:=yW e;intro z;rw[Array.getElem?_append_left (by simp)]at z
 cases z
theorem BN{P:Program}{w:World}{K:zag}{mg mb:Str->Option Value}{CX:CXT}{k:Nat}{fa a:Addr}{fd:FuncData}{x:Str}{sp:Sp}{s₁:Shared}{vs:List Value}{ns:List Int}
  (KX:K.In s₁.heap) (hTb:∀c T ps,gF K=some (c,T,ps)->s₁.heap.get? T=some (PySem.W.tabObj #[])) (hns:s₁.heap.Ns mainGlobals mg) (hb:s₁.heap.Ns builtinsNs mb) (hbb:∀x:Str,x≠"__name__"->mb x=bootBuiltins x) (hlim:s₁.heap.NoLimit) (hbm:∃bm ob,mg "__builtins__"=some (.ref bm)/\bm≠builtinsNs/\s₁.heap.get? bm=some ob/\ob.cls=.type "module"/\ob.dict=some builtinsNs/\ob.data=.plain) (hg:s₁.gens=#[])
  (ha:s₁.heap.get? a=some {cls:=.type "list",data:=.seq vs.toArray}) (hi:IntsAre vs ns) (hl:ns.length<=sizeLine) (hr:eI k callerA)
  (F:∀base:Heap,K.In base->base.Ns mainGlobals mg->lT P w K mg base CX k fa fd [x] sp) (hbind:∀(s:Shared) (u:Value),BindsTo s fd ⟨[u],[]⟩ [(x,u)])
  (hsp:∀H:Hp,Only H->SqL K H a (ns.map V.int)->sp [.ref a] H (λv _=>v=.bl true) λ_ _ _=>False)
  (hCX:∀H e s',CX [] H s₁ (λ_ _ _=>False) e s'->False) :
  codeAny (model P w) callerA (.call (.ref fa) ⟨[.ref a],[]⟩) (λr s'=>r=.ok (.ret (.bool true))/\OldK s₁.heap s'.heap/\s'.os=s₁.os/\AllBare s'.gens) s₁:=by
 have rv:=r9 hi;have lenV:=hi.length;have core:∀H:Hp,Only H->SqL K H a (ns.map V.int)->HOk P w H s₁.heap->(∀b,H b≠none->b=a\/∃c ps,gF K=some (c,b,ps))->(H a≠none->K.lookup a=none)->(∀c T ps,gF K=some (c,T,ps)->H T=some (.tbl ps))->
   codeAny (model P w) callerA (.call (.ref fa) ⟨[.ref a],[]⟩) (λr s'=>r=.ok (.ret (.bool true))/\OldK s₁.heap s'.heap/\s'.os=s₁.os/\AllBare s'.gens) s₁:=by
  intro H hO hS hok hA hK hTH;have tO:∀{b:Addr} {o:Obj},s₁.heap.get? b=some o->H b=none->(tm s₁.heap H).get? b=some o:=λe n=>Bh e n
  have noA:∀{b:Addr} {o:Obj} {es:Array DictEntry} {ep:Nat},s₁.heap.get? b=some o->o.data=.dict es ep->H b=none:=fun{b o es ep} e d=>by
   cases q:H b with
   |none=>rfl
   |some u=>
    rcases hA b (by rw[q];simp)with e'|⟨c,ps,e'⟩
    ·subst e'
     rw[ha]at e;cases e
     have d':Data.seq vs.toArray _=Data.dict es ep:=d;cases d'
    ·rw[hTb _ _ _ e']at e;cases e
     have d':Data.fields #[]=Data.dict es ep:=d;cases d'
  have nsK:∀{b:Addr} {m:Str->Option Value},s₁.heap.Ns b m->(tm s₁.heap H).Ns b m:=fun{b m} ⟨o,es,ep,e,d,r⟩=>⟨o,es,ep,tO e (noA e d),d,r⟩
  have hKb:K.In (tm s₁.heap H):=λb o e=>tO (KX b o e) (by
   cases q:H b with
   |none=>rfl
   |some u=>
    rcases hA b (by rw[q];simp)with e'|⟨c,ps,e'⟩
    ·subst e'
     rw[hK (by rw[q];simp)]at e;cases e
    ·rw[(pV e').1]at e;cases e)
  have hM:Mod K mg (tm s₁.heap H):=⟨hKb,nsK hns,⟨mb,nsK hb,hbb⟩,(let⟨mc,h1,h2⟩:=hlim;⟨mc,nsK h1,h2⟩),by
   obtain⟨bm,ob,b1,b2,b3,b4,b5,b6⟩:=hbm;refine⟨bm,ob,b1,b2,tO b3 ?_,b4,b5,b6⟩;cases q:H bm with
   |none=>rfl
   |some u=>
    rcases hA bm (by rw[q];simp)with e'|⟨c,ps,e'⟩
    ·rw[e',ha]at b3;cases b3;exact absurd (Value.type.inj b4) (by decide)
    ·rw[hTb _ _ _ e']at b3;cases b3;cases b4⟩
  have e0:rl P w K mg (tm s₁.heap H) callerA [] s₁ H:=⟨rfl,hM,λb o e=>DY e,Nat.le_of_eq (z9 _ _),trivial,λb hb=>absurd (show b∈([]:List Addr)from hb) (by simp),hok,.of_eq hg,λc T ps e=>⟨#[],by rw[hTH c T ps e];simp⟩⟩
  refine codeAny_mono ((F _ hKb (nsK hns)).run callerA [] s₁ H ⟨[.ref a],[]⟩ [.ref a] [.ref a] _ _ hr e0 (hbind s₁ (.ref a)) (.cons rfl .nil) (hsp H hO hS)) λr s' h=>?_
  cases r with
  |error e=>exact(hCX H e s' h).elim
  |ok fl=>
   cases fl with
   |next=>exact False.elim h
   |brk=>exact False.elim h
   |cont=>exact False.elim h
   |ret u=>
    obtain⟨v,H',os,bare,un,hok',r',q⟩:=h;have q':v=.bl true:=q;subst q';obtain rfl:u=Value.bool true:=r';refine⟨rfl,⟨λb o e=>?_,λb o e=>un.there b o e (by simp)⟩,os,bare⟩
    cases q:H b with
    |none=>exact .inl (un.keep b o e q (by intro z;exact absurd (show b∈([]:List Addr)from z) (by simp)) (by simp))
    |some u=>
     rcases hO b with z|⟨ob,xs,z⟩|⟨ps,z⟩
     ·rw[q]at z;cases z
     ·have z2:=un.jB b ob _ z
      obtain⟨e1,_⟩:=hok b _ z;obtain⟨e2,_⟩:=hok' b _ z2;rw[e]at e1;cases e1
      exact .inl e2
     ·obtain⟨more,z2⟩:=un.jj b ps z
      obtain⟨qs1,e3,e0⟩:∃qs,s₁.heap.get? b=some {cls:=.none,data:=.fields qs}/\True:=by
       rcases hA b (by rw[q];simp)with e'|⟨c,ps',e'⟩
       ·rcases hok b _ z with⟨_,_,_,_,_,_,_,_,ec,eo,ed,_⟩|⟨_,qs1,e3,_⟩
        ·cases ec;rw[e',ha]at eo;cases eo;cases ed
        ·exact⟨qs1,e3,trivial⟩
       ·exact⟨_,hTb _ _ _ e',trivial⟩
      obtain⟨qs,e2⟩:∃qs,s'.heap.get? b=some {cls:=.none,data:=.fields qs}:=by
       rcases hA b (by rw[q];simp)with e'|⟨c,ps',e'⟩
       ·rw[e',ha]at e3;cases e3
       ·rcases hok' b _ z2 with⟨e4,_⟩|⟨_,qs,e2,_⟩
        ·have e5:=hTH _ _ _ e'
         rw[z]at e5;cases e5
         exact absurd e4 (vN e' more)
        ·exact⟨qs,e2⟩
      rcases hA b (by rw[q];simp)with e'|⟨c,ps',e'⟩
      ·rw[e',ha]at e3;cases e3
      ·have e3:=hTb _ _ _ e'
       rw[e]at e3;cases e3
       exact .inr (.inl ⟨(((PySem.W.codeHd_of_K KX (pV e').2).tab (hTb _ _ _ e')).isCodeTable),rfl,#[],qs,rfl,by rw[e2];simp⟩)
 have noT:∀c T ps,gF K=some (c,T,ps)->T≠a:=λc T ps e z=>by
  have e1:=hTb c T ps e;rw[z,ha]at e1;cases e1
 have tabs:∀H0:Hp,(∀b,H0 b≠none->b=a)->∃H:Hp,(∀b,H b=H0 b\/∃c ps,gF K=some (c,b,ps)/\H b=some (.tbl ps))/\(∀c T ps,gF K=some (c,T,ps)->H T=some (.tbl ps))/\∀b u,H0 b=some u->H b=some u:=λH0 h0=>by
  cases e:gF K with
  |none=>exact⟨H0,λb=>.inl rfl,λc T ps z=>(by cases z),λb u z=>z⟩
  |some x=>
   obtain⟨c,T,ps⟩:=x;refine⟨upd H0 T (.tbl ps),λb=>?_,λc' T' ps' z=>by cases z;exact ax,λb u z=>?_⟩
   ·by_cases hb:b=T
    ·exact .inr ⟨c,ps,by rw[hb],by rw[hb];exact ax⟩
    ·exact .inl (aq hb)
   ·rw[aq (λq=>noT c T ps e (q.symm.trans (h0 b (by rw[z];simp))))];exact z
 have wide:∀H0:Hp,(∀b,H0 b=none\/∃o xs,H0 b=some (.frz o (.lst xs)))->SqL K H0 a (ns.map V.int)->HOk P w H0 s₁.heap->(∀b,H0 b≠none->b=a)->(H0 a≠none->K.lookup a=none)->
   codeAny (model P w) callerA (.call (.ref fa) ⟨[.ref a],[]⟩) (λr s'=>r=.ok (.ret (.bool true))/\OldK s₁.heap s'.heap/\s'.os=s₁.os/\AllBare s'.gens) s₁:=λH0 hO hS hok h0 hK=>by
  obtain⟨H,t1,t2,t3⟩:=tabs H0 h0;have ha':H a=H0 a:=by
   rcases t1 a with z|⟨c,ps,e,_⟩
   ·exact z
   ·exact absurd rfl (noT c a ps e)
  refine core H (λb=>?_) ?_ (λb u z=>?_) (λb z=>?_) (λz=>hK (by rw[<-ha'];exact z)) t2
  ·rcases t1 b with z|⟨c,ps,_,z⟩
   ·rcases hO b with q|⟨o,xs,q⟩
    ·exact .inl (z.trans q)
    ·exact .inr (.inl ⟨o,xs,z.trans q⟩)
   ·exact .inr (.inr ⟨ps,z⟩)
  ·rcases hS with(q|⟨o,q⟩)|q
   ·exact .inl (.inl (ha'.trans q))
   ·exact .inl (.inr ⟨o,ha'.trans q⟩)
   ·exact .inr q
  ·rcases t1 b with q|⟨c,ps,e,q⟩
   ·rw[z]at q
    exact(hok b u q.symm).stay (λ_ _ _ x=>x) (λb' x=>t3 _ _ x) λb' xs _ x=>t3 _ _ x
   ·rw[z]at q;cases q
    exact .inr ⟨Ei e,#[],hTb _ _ _ e,.inl rfl⟩
  ·rcases t1 b with q|⟨c,ps,e,q⟩
   ·exact .inl (h0 b (by rw[<-q];exact z))
   ·exact .inr ⟨c,ps,e⟩
 cases hk:K.lookup a with
 |some o=>
  have e:=KX a o hk;rw[ha]at e;cases e;refine wide (λ_=>none) (λ_=>.inl rfl) (.inr ⟨_,vs.toArray,_,hk,rfl,rfl,rfl,by rw[zaK,lenV];exact hl,by simpa using rv⟩) (λb u z=>by have z':(none:Option HO)=some u:=z;cases z') (λb z=>absurd rfl z) λz=>absurd rfl z
 |none=>
  refine wide (λb=>if b=a then some (.frz {cls:=.type "list",data:=.seq vs.toArray} (.lst (ns.map V.int)))else none) (λb=>?_) (.inl (.inr ⟨{cls:=.type "list",data:=.seq vs.toArray},if_pos rfl⟩)) (λb u z=>?_) (λb z=>?_) λ_=>hk
  ·by_cases hb:b=a
   ·exact .inr ⟨_,_,if_pos hb⟩
   ·exact .inl (if_neg hb)
  ·by_cases hb:b=a
   ·have z':=(if_pos hb).symm.trans z
    cases z';subst hb;exact⟨ha,by rw[zal];exact hl,vs,_,rv,ha⟩
   ·have z':=(if_neg hb).symm.trans z
    cases z'
  ·by_cases hb:b=a
   ·exact hb
   ·exact absurd (if_neg hb) z
abbrev KOf{K:zag}{h:Heap}(_:K.In h):zag:=K
def iW(s:Stmt):Arguments:=match s with
 | .FunctionDef _ a _ _ _ _ _ _ _ _=>a
 |_=>{posonlyargs:=[],args:=[],vararg:=none,kwonlyargs:=[],kw_defaults:=[],kwarg:=none,defaults:=[]}
def eZ(s:Stmt):List Stmt:=match s with
 | .FunctionDef _ _ b _ _ _ _ _ _ _=>b
 |_=>[]
def aV(s:Stmt):Scope:=match s with
 | .FunctionDef _ _ _ _ _ _ sc _ _ _=>sc
 |_=>{kind:=.function,names:=[],isGenerator:=false,isCoroutine:=false}
abbrev CX0:CXT:=λ_ _ _ _ _ _=>False
abbrev E0:XK:=λ_ _ _=>False
theorem Jo{X:Cx}:Passes CX0 X E0:=λ_ _ _ _ _ _ _ h=>h.elim
structure Fun(K:zag)(x qual:Str)(st:Stmt)(f:Addr)(fd:FuncData):Prop where
 ex:∃(oc:Value) (od:Option Addr) (kV doc pm:Value) (an:Option Addr) (cdv ct:Value) (osl:Array (Option Value)),
  fd=PySem.W.fnOf x qual (iW st) (eZ st) (aV st) .none kV doc pm an cdv ct/\K.lookup f=some ⟨oc,od,.func fd,osl⟩/\PySem.W.codeIn K cdv qual=true
 kp:PySem.W.keepIn K (.ref f)=true
section
variable{P:Program}{w:World}{K:zag}{mg:Str->Option Value}{base:Heap}
theorem Fun.ok{x qual:Str}{st:Stmt}{f:Addr}{fd:FuncData}{N ps:List Str}{k:Nat}{sp:Sp}(F:Fun K x qual st f fd)(S:bO N ps (aV st))(len:∀vs H Q E,sp vs H Q E->vs.length=ps.length)
  (hbody:∀(cdv:Value) (A:Around) (outer:List Env) (s:Shared) (H:Hp) (vs:List V) (Q:VK) (E:XK),eI k (A.deeper (envOfC qual (aV st) s.heap.objs.size f cdv))->sp vs H Q E->
   ∃t,PSs (tD CX0 P w K mg base N qual (aV st) f cdv A outer s H E).nox (eZ st) t/\t {nx:=λ_ H'=>Q .non H',rt:=Q} (start N vs) H):lT P w K mg base CX0 (k+1) f fd ps sp:=by
 obtain⟨oc,od,kV,doc,pm,an,cdv,ct,osl,rfl,lk,hcd⟩:=F.ex;refine fE lk hcd S len λA outer s H vs Q E hr hsp=>?_
 obtain⟨t,h,q⟩:=hbody cdv A outer s H vs Q E hr hsp;exact⟨t,h.nox,q⟩
theorem Fun.binds{x qual:Str}{st:Stmt}{f:Addr}{fd:FuncData}{ps:List Str}(F:Fun K x qual st f fd)
  (h:∀(kV doc pm:Value) (an:Option Addr) (cdv ct:Value) (us:List Value),us.length=ps.length->bindArgs (PySem.W.fnOf x qual (iW st) (eZ st) (aV st) .none kV doc pm an cdv ct) ⟨us,[]⟩=pure (ps.zip us)):Binds K fd ps []:=by
 obtain⟨oc,od,kV,doc,pm,an,cdv,ct,osl,rfl,lk,hcd⟩:=F.ex;exact .all (h kV doc pm an cdv ct)
theorem HB{x qual:Str}{st:Stmt}{f:Addr}{oc:Value}{od an:Option Addr}{osl:Array (Option Value)}{kV doc pm cdv ct:Value}(l:K.lookup f=some ⟨oc,od,.func (PySem.W.fnOf x qual (iW st) (eZ st) (aV st) .none kV doc pm an cdv ct),osl⟩)
  (c:PySem.W.codeIn K cdv qual=true) (k:PySem.W.keepIn K (.ref f)=true):Fun K x qual st f (PySem.W.fnOf x qual (iW st) (eZ st) (aV st) .none kV doc pm an cdv ct):=⟨⟨oc,od,kV,doc,pm,an,cdv,ct,osl,rfl,l,c⟩,k⟩
end
section
variable{X:Cx}
theorem pv(i:Nat){x:Str}{pos:Pos}(hN:X.N[i]?=some x:=by rfl)(hv:Vis X.env.scope x:=by first|exact Or.inl rfl|exact Or.inr (Or.inl rfl)|exact Or.inr (Or.inr rfl))(hd:(x==("__debug__":Str))=false:=by decide)
  (hcd:(x==("__classdict__":Str))=false:=by decide):PE X (.Name x pos) (my i):=G9 hN hv hd hcd
end
def aE(H H':Hp):Prop:=∀b o,H b=some o->H' b=some o
theorem aE.refl(H:Hp):aE H H:=λ_ _ h=>h
theorem aE.trans{H H1 H2:Hp}(a:aE H H1)(b:aE H1 H2):aE H H2:=λc o h=>b c o (a c o h)
theorem aE.free{H H':Hp}(e:aE H H'){l:Addr}(h:H' l=Option.none):H l=Option.none:=by
 cases q:H l with
 |none=>rfl
 |some o=>
  rw[e l o q]at h;cases h
theorem aE.seq{K:zag}{H H':Hp}{a:Addr}{xs:List V}(e:aE H H')(h:SqL K H a xs):SqL K H' a xs:=by
 rcases h with(h|⟨o,h⟩)|h
 ·exact .inl (.inl (e _ _ h))
 ·exact .inl (.inr ⟨o,e _ _ h⟩)
 ·exact .inr h
theorem Inv.track{X:Cx}{pins:List (Addr×Obj)}{σ:St}{H:Hp}{s:Shared}{D:Addr}{o:HO}(I:Inv X pins σ H s)(hn:H D=none)(hD:X.s₀.heap.objs.size<=D)(hL:D≠X.env.locals)
  (hc:∀x c,X.env.cells.lookup x=some c->c≠D) (hp:∀p∈X.pn++pins,p.1≠D) (new:cy X.prog X.w (upd H D o) s.heap D o):Inv X pins σ (upd H D o) s:=by
 have ne:∀b u,H b=some u->b≠D:=λb u e=>d9 e hn
 refine⟨I.ok,I.os,I.bare,⟨I.base.keep,I.base.slot,λb ob e n hx=>?_,I.base.there,λb xs e=>?_,λb ob u e=>?_,λb ps e=>?_⟩,I.loc,I.cell,?_,λx c e=>?_,λp q=>?_,λb u e=>?_,I.len⟩
 ·have:b≠D:=zaS (zaF (zaq e) hD)
  rw[aq this];exact I.base.free b ob e n hx
 ·have z:=I.base.tups b xs e
  rw[aq (ne _ _ z)];exact z
 ·have z:=I.base.jB b ob u e
  rw[aq (ne _ _ z)];exact z
 ·obtain⟨more,z⟩:=I.base.jj b ps e
  exact⟨more,by rw[aq (ne _ _ z)];exact z⟩
 ·rw[aq (Ne.symm hL)];exact I.free
 ·rw[aq (hc x c e)];exact I.hE x c e
 ·obtain⟨h1,h2,h3⟩:=I.pin p q
  exact⟨h1,by rw[aq (hp p q)];exact h2,h3⟩
 ·by_cases hb:b=D
  ·subst hb;rw[ax]at e;cases e;exact new
  ·rw[aq hb]at e
   exact(I.hok b u e).stay (λ_ _ _ q=>q) (λc q=>by rw[aq (ne _ _ q)];exact q) λc xs _ q=>by rw[aq (ne _ _ q)];exact q
def eU(cells:List (Str×Addr)):List (Str×NameKind)->List (Str×Addr)->List (Str×Addr)
 | [],acc=>acc
 |(n,k)::r,acc=>eU cells r (if(k==NameKind.free)=true then(n,(cells.lookup n).getD 0)::acc else acc)
theorem yX{env:Env}:∀(names:List (Str×NameKind)) (acc:List (Str×Addr)),(∀y∈names,y.2=.free->∃c,env.cells.lookup y.1=some c)->
  (forIn names acc λ(x:Str×NameKind) (r:List (Str×Addr))=>(if(x.2==NameKind.free)=true then do
    let c<-cellOf env x.1
    pure (ForInStep.yield ((x.1,c)::r))else pure (ForInStep.yield r):Sem (ForInStep (List (Str×Addr)))))=pure (eU env.cells names acc)
 | [],acc,_=>rfl
 |(n,k)::r,acc,h=>by
  have ih:=λacc'=>yX (env:=env) r acc' λy hy=>h y (zak _ hy)
  rw[List.forIn_cons]
  by_cases hk:k=.free
  ·subst hk
   obtain⟨c,hc⟩:=h (n,.free) zas rfl;have hc':env.cells.lookup n=some c:=hc;have e:cellOf env n=pure c:=by
    unfold cellOf;rw[hc']
   show(if(NameKind.free==NameKind.free)=true then _ else _)>>=_=_
   rw[if_pos (by decide),e]
   simp only[pure_bind];rw[ih];simp only[eU,hc',Option.getD_some];rfl
  ·have hb:(k==NameKind.free)=false:=by simpa using hk
   show(if(k==NameKind.free)=true then _ else _)>>=_=_
   rw[hb,if_neg zam];simp only[pure_bind];rw[ih];simp only[eU,hb,Bool.false_eq_true,if_false]
theorem xO{scope:Scope}{env:Env}(h:∀y∈scope.names,y.2=.free->∃c,env.cells.lookup y.1=some c):closureFor scope env=pure (eU env.cells scope.names []):=by
 unfold closureFor;have e:=yX (env:=env) scope.names [] h;simp only[bind_pure];exact e
theorem yY{cells:List (Str×Addr)}:∀(names:List (Str×NameKind)) (acc:List (Str×Addr)),(∀y∈names,y.2=.free->∃c,cells.lookup y.1=some c)->(∀y c,acc.lookup y=some c->cells.lookup y=some c)->
  ∀y c,(eU cells names acc).lookup y=some c->cells.lookup y=some c
 | [],_,_,ha=>ha
 |(n,k)::r,acc,h,ha=>by
  refine yY r _ (λy hy=>h y (zak _ hy)) λy c e=>?_
  by_cases hk:(k==NameKind.free)=true
  ·rw[if_pos hk]at e
   obtain⟨c',hc⟩:=h (n,k) zas (by simpa using hk)
   have hc':cells.lookup n=some c':=hc;rw[hc',Option.getD_some]at e;rw[za8]at e
   by_cases hy:(y==n)=true
   ·rw[hy]at e
    have:y=n:=by simpa using hy
    subst this;rw[hc'];exact e
   ·have hy':(y==n)=false:=by simpa using hy
    rw[hy']at e;exact ha y c e
  ·rw[if_neg hk]at e
   exact ha y c e
theorem mF{cells:List (Str×Addr)}:∀(names:List (Str×NameKind)) (acc:List (Str×Addr)) (y:Str),((y,NameKind.free)∈names\/∃c,acc.lookup y=some c)->∃c,(eU cells names acc).lookup y=some c
 | [],acc,y,h=>by
  rcases h with h|h
  ·cases h
  ·exact h
 |(n,k)::r,acc,y,h=>by
  refine mF r _ y ?_;rcases h with h|⟨c,h⟩
  ·rcases zaf h with e|h
   ·cases e
    refine .inr ⟨(cells.lookup n).getD 0,?_⟩;rw[if_pos (by decide),za8]
    simp
   ·exact .inl h
  ·refine .inr ?_
   split
   ·rw[za8]
    cases y==n with
    |true=>exact⟨_,rfl⟩
    |false=>exact⟨c,h⟩
   ·exact⟨c,h⟩
theorem iG(env : Env) : ∀(names : List (Str×NameKind)) (y : Str),
  (names.map λ(n,k)=>if(k==NameKind.free&&env.scope.kind== .function&&env.kindOf n==some .cell)then(n,NameKind.cell)else(n,k)).lookup y
   =(names.lookup y).map λk=>if(k==NameKind.free&&env.scope.kind== .function&&env.kindOf y==some .cell)=true then NameKind.cell else k
 | [],_=>rfl
 |(n,k)::r,y=>by
  have ih :=iG env r y;show List.lookup y ((if(k==NameKind.free&&env.scope.kind== .function&&env.kindOf n==some .cell)=true then(n,NameKind.cell)else(n,k))::_)=_
  by_cases hy:(y==n)=true
  ·have:y=n:=by simpa using hy
   subst this
   by_cases hc:(k==NameKind.free&&env.scope.kind== .function&&env.kindOf y==some .cell)=true
   ·rw[if_pos hc];simp only[List.lookup_cons,hy,Option.map_some,hc,if_true]
   ·rw[if_neg hc];simp only[List.lookup_cons,hy,Option.map_some,hc];simp
  ·have hy':(y==n)=false:=by simpa using hy
   by_cases hc:(k==NameKind.free&&env.scope.kind== .function&&env.kindOf n==some .cell)=true
   ·rw[if_pos hc];simp only[List.lookup_cons,hy'];exact ih
   ·rw[if_neg hc];simp only[List.lookup_cons,hy'];exact ih
def cQ(X:Cx)(scope:Scope)(N':List Str)(s₂:Shared)(H₂:Hp)(C:Addr)(fp:List Addr):Cx :=
 {X with N:=N',s₀:=s₂,H₀:=H₂,env:=compEnvC scope (eU X.env.cells scope.names []) C X.env,outer:=X.stack,ex:=fp,fn:=λ_=>false,pn:=[],xe:=λ_ _=>False}
def bR(x:Str)(fr:List (Str×Nat)):List Str:=x::fr.map (·.1)
def aZ(σ:St)(fr:List (Str×Nat)):St:=fr.map λp=>σ.getD p.2 none
structure Blk(X:Cx)(scope:Scope)(x:Str)(fr:List (Str×Nat)):Prop where
 HC:(scope.names.all λy=>y.2 != .cell)=true
 kind:scope.kind=.function
 names:(scope.names.all λy=>y.2 != .local||scope.names.lookup y.1==some .local)=true
 here:scope.names.lookup x=some .local
 free:(scope.names.all λy=>y.2 != .free||X.env.scope.names.lookup y.1==some .cell)=true
 seen:(fr.all λp=>scope.names.lookup p.1==some .free&&X.N[p.2]? ==some p.1)=true
 nd:(bR x fr).Nodup
section
variable{X:Cx}{scope:Scope}{x:Str}{fr:List (Str×Nat)}{pins:List (Addr×Obj)}{σ:St}{H:Hp}{s:Shared}
theorem Blk.cell(B:Blk X scope x fr):∀y∈scope.names,y.2≠.cell:=λy hy=>by
 have:=List.all_eq_true.mp B.HC y hy;simpa using this
theorem Blk.loc(B:Blk X scope x fr):∀y∈scope.names,y.2=.local->scope.names.lookup y.1=some .local:=λy hy e=>by
 have:=List.all_eq_true.mp B.names y hy;rw[e]at this;simpa using this
theorem Blk.frees(B:Blk X scope x fr):∀y∈scope.names,y.2=.free->X.env.kindOf y.1=some .cell:=λy hy e=>by
 have:=List.all_eq_true.mp B.free y hy;rw[e]at this;have h:X.env.scope.names.lookup y.1=some .cell:=by simpa using this
 exact h
theorem Blk.clos(B:Blk X scope x fr)(ok:X.Ok):∀y∈scope.names,y.2=.free->∃c,X.env.cells.lookup y.1=some c:=λy hy e=>ok.has y.1 (.inl (B.frees y hy e))
theorem Blk.sub(B:Blk X scope x fr)(ok:X.Ok):∀y c,(eU X.env.cells scope.names []).lookup y=some c->X.env.cells.lookup y=some c :=
 yY scope.names [] (B.clos ok) λy c e=>by simp at e
theorem Blk.kinds(B : Blk X scope x fr){y : Str}(h : (relabel scope X.env).names.lookup y=some .cell\/(relabel scope X.env).names.lookup y=some .free) : (y,NameKind.free)∈scope.names :=by
 have e : (relabel scope X.env).names.lookup y=_ :=iG X.env scope.names y;rw[e]at h;cases q:scope.names.lookup y with
 |none=>rw[q]at h;simp at h
 |some k=>
  have hm:=za5 q;rw[q]at h;have hk:k=.free:=by
   by_cases hk:k=.free
   ·exact hk
   ·have hb:(k==NameKind.free)=false:=by simpa using hk
    have hc:k≠.cell:=B.cell _ hm;rw[zaT,hb,Bool.false_and,Bool.false_and,if_neg zam]at h;rcases h with h|h
    ·exact absurd (zaQ h) hc
    ·exact zaQ h
  subst hk;exact hm
theorem Blk.sees(B : Blk X scope x fr)(hk : X.env.scope.kind= .function){y : Str}(h : scope.names.lookup y=some .free) : (relabel scope X.env).names.lookup y=some .cell :=by
 have e : (relabel scope X.env).names.lookup y=_ :=iG X.env scope.names y;rw[e,h];have h2:X.env.kindOf y=some .cell:=B.frees _ (za5 h) rfl;simp[hk,h2]
theorem vO(I:Inv X pins σ H s)(B:Blk X scope x fr){C:Addr}{fp:List Addr}{h₁:Heap}{tk:Nat}{o:Option V}(hC:s.heap.objs.size<=C)(hfp:∀b∈fp,jb X pins H b)(hlt:∀b∈fp,b<s.heap.objs.size)
  (old:∀b ob,s.heap.get? b=some ob->h₁.get? b=some ob) (hns:h₁.Ns C λ_=>none):Inv (cQ X scope (bR x fr) s H C fp) [] (none::aZ σ fr) H {s with heap:=h₁,toks:=tk}:=by
 have neC:∀b,b<s.heap.objs.size->b≠C:=λb hb=>zaS (zaF hb hC)
 have cl:∀y c,X.env.cells.lookup y=some c->c<s.heap.objs.size:=λy c e=>by
  obtain⟨v,o,ho,_⟩:=I.cell y c e;exact zaq ho
 refine⟨⟨I.ok.mod,B.kind,I.ok.glob,I.ok.blt,hC,λy z c h1 h2=>I.ok.inj y z c (B.sub I.ok _ _ h1) (B.sub I.ok _ _ h2),λy hy=>mF _ _ _ (.inl (B.kinds hy)),λy c h _=>(zam h).elim,I.ok.hd,I.ok.frames,.inl rfl,
  λb hb=>⟨neC b (hlt b hb),λy c e=>(hfp b hb).2.2.2.2.1 y c (B.sub I.ok _ _ e)⟩,I.bs,zaX I.ok.bsz I.sz,λb ob e hb=>?_,λb hb hs=>?_,I.stack,I.pe,I.tab⟩,
  rfl,I.bare,Un.kept old,⟨_,hns,λi y v h1 h2 h3=>?_⟩,λy c e=>?_,I.hok.fresh hC,λy c e=>I.hE y c (B.sub I.ok _ _ e),λp hp=>?_,I.hok.kept old,?_⟩
 ·rcases(hfp b hb).2.2.2.1 with z|z
  ·exact I.ok.xE b ob e z
  ·have h1:b<X.base.objs.size:=zaq e
   have h2:=I.ok.bsz;exact absurd (zaF h1 h2) (Nat.not_lt.mpr z)
 ·have z:=I.xF b hs
  rcases zaf z with z|z
  ·exact(hfp b hb).2.1 z
  ·exact(hfp b hb).2.2.1 z
 ·cases i with
  |zero=>simp at h2
  |succ i=>
   have h1':(fr.map (·.1))[i]?=some y:=by
    have z:(x::fr.map (·.1))[i+1]?=some y:=h1
    rw[zat]at z;exact z
   have h2':(aZ σ fr)[i]?=some (some v):=by simpa using h2
   rw[zao]at h1';unfold aZ at h2';rw[zao]at h2';cases e:fr[i]? with
   |none=>rw[e]at h1';cases h1'
   |some p=>
    rw[e]at h1' h2';have e1:p.1=y:=by simpa using h1'
    have e2 : σ.getD p.2 none=some v:=by simpa using h2'
    have hs:=List.all_eq_true.mp B.seen p (zaj e);rw[Bool.and_eq_true]at hs;have hs1:scope.names.lookup p.1=some .free:=by simpa using hs.1
    have hs2:X.N[p.2]?=some p.1:=by simpa using hs.2
    rw[e1]at hs1 hs2;have hk:X.env.kindOf y=some .cell:=B.frees _ (za5 hs1) rfl;have e3 : σ[p.2]?=some (some v):=by
     rw[List.getD_eq_getElem?_getD]at e2;cases q : σ[p.2]? with
     |none=>rw[q]at e2;simp at e2
     |some z=>rw[q]at e2;simp at e2;rw[e2]
    obtain⟨m,hn,hl⟩:=I.loc;obtain⟨u,r,l⟩:=hl p.2 y v hs2 e3 (.inr (.inl hk));refine⟨u,r,.inr ⟨.inl (B.sees I.ok.kind hs1),?_⟩⟩;rcases l with⟨z,_⟩|⟨_,c,ec,z⟩
    ·rw[hk]at z;cases z
    ·obtain⟨c',hc'⟩:=mF (cells:=X.env.cells) scope.names [] y (.inl (za5 hs1))
     have:=B.sub I.ok _ _ hc';rw[ec]at this;cases this;obtain⟨ob,ho,hd⟩:=z;exact⟨c,hc',ob,old _ _ ho,hd⟩
 ·obtain⟨v,ob,ho,hd⟩:=I.cell y c (B.sub I.ok _ _ e)
  exact⟨v,ob,old _ _ ho,hd⟩
 ·exact absurd (show p∈([]:List (Addr×Obj))from hp) (by simp)
 ·show _=(bR x fr).length
  simp[bR,aZ]
end
def PIf(X:Cx)(ifs:List Expr)(t:TT):Prop :=
 ∀(pins:List (Addr×Obj)) (s:Shared) (σ:St) (H:Hp) (Q:Bool->Hp->Prop),Inv X pins σ H s->t σ H Q->
  wpAny (model X.prog X.w) X.A (forIn ifs true λc r=>if r=true then do let ok<-isTrue c X.env (eval c X.env);pure (ForInStep.yield ok)else pure (ForInStep.yield r)) (TP X pins σ Q) X.xe s
def Ej:TT:=λ_ H Q=>Q true H
theorem ph{X:Cx}:PIf X [] Ej:=λ_ _ _ H _ I h=>wpAny_tests_nil ⟨H,I,h⟩
theorem pj{X:Cx}{c:Expr}{t:TT}(h:PT X c t):PIf X [c] t:=λpins s σ H Q I hw=>wpAny_tests_one (h pins s σ H Q I hw)
def tLC(fr:List (Str×Nat))(wi:TI)(tc:TT)(te:TE):TE:=fun σ H Q=>wi σ H λJ H1=>∃W:Nat->Nat->List V->Hp->Prop,(∃m,W 0 m [] H1)/\∀i m ys H2,W i m ys H2->ys.length<sizeLine/\
 ((J.stop i H2/\∀D,H2 D=none->Q (.ref D) (upd H2 D (.lst ys)))\/
  (J.go i H2/\∀v H3,J.yld i H2 v H3->tc (some v::aZ σ fr) H3 λb H4=>
   if b=true then te (some v::aZ σ fr) H4 λy H5=>∃m',m'<m/\W (i+1) m' (ys++[y]) H5 else∃m',m'<m/\W (i+1) m' ys H4))
section
variable{X:Cx}
theorem vP{α:Type}{M:Model}{A:Around}{t:Sem α}{Q : α->Shared->Prop}{E:Value->Shared->Prop}{s:Shared}(h:wpAny M A t Q (λ_ _=>False) s):wpAny M A t Q E s:=za6 h (λ_ _ x=>x) λ_ _ x=>x.elim
theorem sd{prog:Program}{w:World}{A:Around}{R:Result->Shared->Prop}{s:Shared}{elt target iter:Expr}{ifs:List Expr}{scope:Scope}{pos:Pos}{it acc:Value}{env:Env}(J:Nat->Shared->Prop)
  (turn:∀n s,J n s->wpAny (model prog w) A (pyNext it) (λr s₁=>match r with
   |none=>R (.ok .next) s₁
   |some v=>wpAny (model prog w) A (letOwnedTupleGo target it v) (λ_ s₂=>wpAny (model prog w) A (assign target env v) (λ_ s₃=>
     wpAny (model prog w) A (forIn ifs true λc r=>if r=true then do let ok<-isTrue c env (eval c env);pure (ForInStep.yield ok)else pure (ForInStep.yield r)) (λok s₄=>
      if ok=true then wpAny (model prog w) A (eval elt env) (λy s₅=>
       wpAny (model prog w) A (call (.builtin "list.append") [acc,y]) (λ_ s₆=>∃m,m<n/\J m s₆) (λ_ _=>False) s₅) (λ_ _=>False) s₄
      else∃m,m<n/\J m s₄) (λ_ _=>False) s₃) (λ_ _=>False) s₂) (λ_ _=>False) s₁) (λ_ _=>False) s)
  (n:Nat) (h:J n s):codeAny (model prog w) A (.compLoop (.ListComp elt [⟨target,iter,ifs,0⟩] scope pos) 0 it acc env) R s:=by
 refine codeAny_loop rfl J (λk s' hJ=>?_) n h
 show wpAny (model prog w) A ((compTurn (.ListComp elt [⟨target,iter,ifs,0⟩] scope pos) 0 it acc env).onRaise (λx=>do noteFrame x env;theTreesLotGoes x)) _ _ s'
 refine wpAny_noted ?_;rw[compTurn_list];refine zaI (wpAny_standAt (zaI (za6 (turn k s' hJ) (λr s₁ h₁=>?_) λ_ _ z=>z.elim)))
 cases r with
 |none=>exact zaZ h₁
 |some v=>
  refine zaI (za6 h₁ (λ_ s₂ h₂=>zaI (za6 h₂ (λ_ s₃ h₃=>zaI (za6 h₃ (λok s₄ h₄=>?_) λ_ _ z=>z.elim)) λ_ _ z=>z.elim)) λ_ _ z=>z.elim)
  cases ok with
  |false=>exact zaZ ⟨rfl,h₄⟩
  |true=>
   exact zaI (zaI (za6 h₄ (λy s₅ h₅=>zaI (za6 h₅ (λ_ s₆ h₆=>zaZ (zaZ ⟨rfl,h₆⟩)) λ_ _ z=>z.elim)) λ_ _ z=>z.elim))
theorem vQ{elt iter:Expr}{x:Str}{px:Pos}{ifs:List Expr}{scope:Scope}{pos:Pos}{fr:List (Str×Nat)}{wi:TI}{tc:TT}{te:TE}(hc:X.calm=true)(B:Blk X scope x fr)
  (hi:PI X (.Name x px) iter wi) (ht:∀s₂ H₂ C fp,PIf (cQ X scope (bR x fr) s₂ H₂ C fp) ifs tc) (he:∀s₂ H₂ C fp,PE (cQ X scope (bR x fr) s₂ H₂ C fp) elt te)
  (hs:∀v,foldedSetIterable iter X.env v=pure v:=by intro _;rfl):PE X (.ListComp elt [⟨.Name x px,iter,ifs,0⟩] scope pos) (tLC fr wi tc te):=by
 intro pins s σ H Q I h;rw[eval_ListComp];have hclos:=xO (scope:=scope) (env:=X.env) (B.clos I.ok);refine wpAny_comprehension_free (use:=none) rfl hs hclos B.kind B.loc (thn (hi pins s σ H _ I h) λv s1 h1=>thn h1 λitv s2 h2=>?_)
 obtain⟨it,fp,tn,J,H2,rfl,I2,T,st2,f2,W,⟨m0,w0⟩,turn⟩:=h2;refine wpAny_newObj_type (wpAny_newFunctionEnv B.cell (by intro y hy;simp at hy) (λh₁ hns hsb=>?_) B.kind)
 dsimp only at hns hsb⊢;generalize hG:s2.heap.push {cls:=.type "list",dict:=none,data:=.seq ([]:List Value).toArray}=G at hns hsb⊢;have hC:G.objs.size=s2.heap.objs.size+1:=by rw[<-hG,Heap.size_push]
 have hDC:s2.heap.objs.size≠G.objs.size:=by omega
 have old:∀b ob,s2.heap.get? b=some ob->h₁.get? b=some ob:=λb ob e=>by
  have hb:=zaq e;refine hsb.extBut b ob (zaS (by rw[hC];exact Nat.lt_succ_of_lt hb)) (zar _ ?_)
  rw[<-hG];exact zar _ e
 have hacc:h₁.get? s2.heap.objs.size=some {cls:=.type "list",data:=.seq ([]:List Value).toArray 0}:=by
  refine hsb.extBut _ _ hDC (zar _ ?_);rw[<-hG];exact zaL _ rfl
 have hlt:∀b∈fp,b<s2.heap.objs.size:=λb hb=>by
  obtain⟨o,e,_⟩:=T.obj 0 _ st2 b hb;exact zaq e
 have I4:=vO (tk:=s2.toks+([]:List (Str×Value)).length) (o:=none) I2 B (show s2.heap.objs.size<=G.objs.size by omega) f2 hlt old hns
 have tn4:tn 0 h₁:=T.keep 0 _ _ st2 λb _ o e=>old b o e
 have Dfs:s2.heap.objs.size∉frs X.stack:=λz=>by
  obtain⟨_,o,ho,_⟩:=I2.stack.mem z;exact absurd (zaq ho) (za3 _)
 have Dcl:∀y c,X.env.cells.lookup y=some c->c≠s2.heap.objs.size:=λy c e=>by
  obtain⟨v,o,ho,_⟩:=I2.cell y c e;exact zaS (zaq ho)
 have DL:s2.heap.objs.size≠X.env.locals:=Nat.ne_of_gt I2.lt;have Dfp:s2.heap.objs.size∉fp:=λz=>absurd (hlt _ z) (za3 _)
 have loop:∀s₃:Shared,s₃={s2 with heap:=h₁,toks:=s2.toks+([]:List (Str×Value)).length}->
   codeAny (model X.prog X.w) X.A (.compLoop (.ListComp elt [⟨.Name x px,iter,ifs,0⟩] scope pos) 0 (.ref it) (.ref s2.heap.objs.size) (compEnvC scope (eU X.env.cells scope.names []) G.objs.size X.env))
    (compPost (model X.prog X.w) X.A X.xe none (EP X pins σ Q) (.ref s2.heap.objs.size) G.objs.size) s₃:=by
  rintro s₃ rfl
  refine sd
   (λn s'=>∃i o H' ys its k,Inv (cQ X scope (bR x fr) s2 H2 G.objs.size fp) [] (o::aZ σ fr) H' s'/\tn i s'.heap/\(∀b∈fp,H' b=none)/\H' s2.heap.objs.size=none/\
    s'.heap.get? s2.heap.objs.size=some {cls:=.type "list",data:=.seq (its:List Value).toArray k}/\Vals ys its/\W i n ys H') ?_ m0
   ⟨0,none,H2,[],[],0,I4,tn4,λb hb=>(f2 b hb).1,I2.hok.fresh (zap _),hacc,.nil,w0⟩
  rintro n s5 ⟨i,o,H5,ys,its,k,I5,st5,fr5,D5,hD5,r5,w5⟩
  have fok:∀{H':Hp},(∀b∈fp,H' b=none)->∀b∈fp,jb (cQ X scope (bR x fr) s2 H2 G.objs.size fp) [] H' b:=λhn b hb=>
   ⟨hn b hb,(I5.ok.exf b hb).1,I5.ok.vF b hb,.inl hb,(I5.ok.exf b hb).2,λp hp=>absurd (show p∈([]:List (Addr×Obj))from hp) (by simp)⟩
  have dok:∀{H':Hp},H' s2.heap.objs.size=none->jb (cQ X scope (bR x fr) s2 H2 G.objs.size fp) [] H' s2.heap.objs.size:=λhn=>
   ⟨hn,hDC,Dfs,.inr (zap _),λy c e=>Dcl y c (B.sub I2.ok _ _ e),λp hp=>absurd (show p∈([]:List (Addr×Obj))from hp) (by simp)⟩
  obtain⟨hz,alt⟩:=turn i n ys H5 w5;have hzl:its.length<=sizeLine:=by rw[<-r5.length];exact Nat.le_of_lt hz
  rcases alt with⟨stop,fin⟩|⟨go,step⟩
  ·refine thn (T.done (cQ X scope (bR x fr) s2 H2 G.objs.size fp) rfl rfl rfl hc i (fD [s2.heap.objs.size] s5.heap) s5 (o::aZ σ fr) H5 _ ?_ (λb hb=>?_) st5 stop) λr s6 ⟨hr,I6⟩=>?_
   ·exact(Inv.pinned I5 (fp:=[s2.heap.objs.size]) (λb hb=>by rw[zad hb];exact dok D5) λb hb=>by
     rw[zad hb];exact⟨_,hD5,λv z=>by cases z⟩)
   ·obtain⟨f0,f1,f2',f3,f4,f5⟩:=fok fr5 b hb
    refine⟨f0,f1,f2',f3,f4,λp hp=>?_⟩
    have hp':p∈fD [s2.heap.objs.size] s5.heap:=(zae hp).elim (λz=>absurd (show p∈([]:List (Addr×Obj))from z) (by simp)) id
    have:=(jk hp').1;rw[zad this];exact λe=>Dfp (by rw[e];exact hb)
   ·subst hr
    have hD6:=(I6.pin (s2.heap.objs.size,{cls:=.type "list",data:=.seq its.toArray k}) (zan _ (bF (by simp) hD5))).1
    obtain⟨m6,hn6,_⟩:=I6.loc;refine⟨m6,hn6,λh' hs'=>?_⟩
    have hCn:s2.heap.get? G.objs.size=none:=by
     cases e:s2.heap.get? G.objs.size with
     |none=>rfl
     |some ob=>exact absurd (zaq e) (by rw[hC];exact Nat.not_lt.mpr (Nat.le_succ _))
    have neC:∀b ob,s2.heap.get? b=some ob->b≠G.objs.size:=λb ob e z=>by rw[z,hCn]at e;cases e
    have u6:Un (frs X.stack) fp H2 H5 s2.heap s6.heap:=I6.base;have u7:Un (frs X.stack) fp H2 H5 s2.heap h':=⟨λb ob e n hb hx=>hs'.extBut b ob (neC b ob e) (u6.keep b ob e n hb hx),λb ob e n hb hx=>by
      obtain⟨sl,q⟩:=u6.slot b ob e n hb hx;exact⟨sl,hs'.extBut b _ (neC b ob e) q⟩,u6.free,λb ob e hx=>by
      obtain⟨o',q⟩:=u6.there b ob e hx;exact⟨o',hs'.extBut b _ (neC b ob e) q⟩,u6.tups,u6.jB,u6.jj⟩
    have hC5:H5 G.objs.size=none:=I6.free;have Kw:HOk X.prog X.w H5 h':=λb ob e=>(I6.hok b ob e).stay (λc u hc q=>hs'.extBut c u (by
      rintro rfl
      rcases hc with rfl|hc
      ·rw[hC5]at e;cases e
      ·rw[hC5]at hc;cases hc) q) (λ_ q=>q) λ_ _ _ q=>q
    have I7:Inv X pins σ H5 {s6 with heap:=h'}:=I2.call' (s':={s6 with heap:=h'}) (I6.os) u7 Kw I6.bare λb hb=>⟨(f2 b hb).2.2.2.1,(f2 b hb).2.1,(f2 b hb).2.2.2.2.1,(f2 b hb).2.2.2.2.2⟩
    refine⟨.ref s2.heap.objs.size,upd H5 s2.heap.objs.size (.lst ys),I7.track D5 I2.sz DL Dcl (λp hp z=>?_) ?_,rfl,fin _ D5⟩
    ·obtain⟨e,_⟩:=I2.pin p hp
     rw[z]at e;exact absurd (zaq e) (za3 _)
    ·exact⟨Nat.le_of_lt hz,its,k,r5,hs'.extBut _ _ hDC hD6⟩
  ·refine vP (thn (T.item (cQ X scope (bR x fr) s2 H2 G.objs.size fp) rfl rfl rfl hc i (fD [s2.heap.objs.size] s5.heap) s5 (o::aZ σ fr) H5 _ ?_ (λb hb=>?_) st5 go) λr s6 ⟨u,hr,h6⟩=>?_)
   ·exact(Inv.pinned I5 (fp:=[s2.heap.objs.size]) (λb hb=>by rw[zad hb];exact dok D5) λb hb=>by
     rw[zad hb];exact⟨_,hD5,λv z=>by cases z⟩)
   ·obtain⟨f0,f1,f2',f3,f4,f5⟩:=fok fr5 b hb
    refine⟨f0,f1,f2',f3,f4,λp hp=>?_⟩
    have hp':p∈fD [s2.heap.objs.size] s5.heap:=(zae hp).elim (λz=>absurd (show p∈([]:List (Addr×Obj))from z) (by simp)) id
    have:=(jk hp').1;rw[zad this];exact λe=>Dfp (by rw[e];exact hb)
   ·subst hr
    refine thn h6 λ_ s7 ⟨v,H7,I7,rv,y7,st7,fr7⟩=>?_
    have p7:=I7.pin (s2.heap.objs.size,{cls:=.type "list",data:=.seq its.toArray k}) (zan _ (bF (by simp) hD5))
    have hD7:s7.heap.get? s2.heap.objs.size=some {cls:=.type "list",data:=.seq its.toArray k}:=p7.1;have D7:H7 s2.heap.objs.size=none:=p7.2.1;have I7u:Inv (cQ X scope (bR x fr) s2 H2 G.objs.size fp) [] (o::aZ σ fr) H7 s7:=Inv.dQ (pins:=[]) I7;have I8:=Inv.pinned I7u (fp:=s2.heap.objs.size::fp) (λb hb=>by
      rcases zaf hb with e|hb
      ·rw[e];exact dok D7
      ·exact fok fr7 b hb) λb hb=>by
      rcases zaf hb with e|hb
      ·rw[e];exact⟨_,hD7,λv z=>by cases z⟩
      ·exact T.obj _ _ st7 b hb
    have hl : Loc (cQ X scope (bR x fr) s2 H2 G.objs.size fp).env.scope x := .inl (lookup_relabel_local B.here);have pk:∀{σ':St} {H':Hp} {s':Shared},Inv (cQ X scope (bR x fr) s2 H2 G.objs.size fp) ([]++fD (s2.heap.objs.size::fp) s7.heap) σ' H' s'->
      tn (i+1) s'.heap/\(∀b∈fp,H' b=none)/\H' s2.heap.objs.size=none/\s'.heap.get? s2.heap.objs.size=some {cls:=.type "list",data:=.seq its.toArray k}:=fun{σ' H' s'} I'=>by
     have pD:=I'.pin (s2.heap.objs.size,{cls:=.type "list",data:=.seq its.toArray k}) (zan _ (zan _ (bF (by simp) hD7)))
     refine⟨T.keep _ _ _ st7 λb hb ob e=>(I'.pin (b,ob) (zan _ (zan _ (bF (zak _ hb) e)))).1,λb hb=>?_,pD.2.1,pD.1⟩
     obtain⟨ob,e,_⟩:=T.obj _ _ st7 b hb;exact(I'.pin (b,ob) (zan _ (zan _ (bF (zak _ hb) e)))).2.1
    refine vP (thn (a9 (X :=cQ X scope (bR x fr) s2 H2 G.objs.size fp) (i :=0) B.nd rfl hl (.inr (lookup_relabel_local B.here)) _ s7 _ H7 v u (fun σ' H'=>σ'=some v :: aZ σ fr/\H'=H7) I8 rv ⟨rfl,rfl⟩) λ_ s8 ⟨σ8,H8,I9,e1,e2⟩=> ?_)
    subst e1 e2;refine vP (thn (ht s2 H2 G.objs.size fp _ s8 _ H8 _ I9 (step v H8 y7)) λok s9 ⟨H9,I10,q10⟩=>?_)
    cases ok with
    |false=>
     rw[if_neg zam]at q10;rw[if_neg zam];obtain⟨m',hm,w'⟩:=q10;obtain⟨k1,k2,k3,k4⟩:=pk I10;exact⟨m',hm,i+1,some v,H9,ys,its,k,Inv.dQ (pins:=[]) I10,k1,k2,k3,k4,r5,w'⟩
    |true=>
     rw[if_pos rfl]at q10;rw[if_pos rfl];refine vP (thn (he s2 H2 G.objs.size fp _ s9 _ H9 _ I10 q10) λy' s10 ⟨y,H10,I11,ry,m',hm,w'⟩=>?_)
     obtain⟨k1,k2,k3,k4⟩:=pk I11;refine append_at k4 (λh' hs' hD'=>?_) (by rw[zaK];exact hzl)
     have I12:Inv (cQ X scope (bR x fr) s2 H2 G.objs.size fp) [] (some v::aZ σ fr) H10 {s10 with heap:=h'} :=
      (Inv.dQ (pins:=[]) I11).turned (t':=s10.toks) (it:=s2.heap.objs.size) (λb ob hb e=>(hs'.2 b hb).trans e) k3 hDC (.inr (zap _)) (λz c e=>Dcl z c (B.sub I2.ok _ _ e)) λp hp=>absurd (show p∈([]:List (Addr×Obj))from hp) (by simp)
     refine⟨m',hm,i+1,some v,H10,ys++[y],its++[y'],k+1,I12,T.keep _ _ _ k1 λb hb ob e=>(hs'.2 b λz=>Dfp (by rw[<-z];exact hb)).trans e,k2,k3,?_,r5.append (.cons ry .nil),w'⟩
     rw[hD'];simp
 exact codeAny_compStart_list (loop _ rfl) (T.self _ 0 _ _ _ tn4 (loop _ rfl))
end
def tyN(H:Hp):V->String
 | .non=>"NoneType"
 | .bl _=>"bool"
 | .int _=>"int"
 | .str _=>"str"
 | .ref a=>match H a with
  |some (.lst _)=>"list"
  |some (.tup _)=>"tuple"
  |some (.dK _)=>"dict"
  |some (.frz _ (.lst _))=>"list"
  |_=>"?"
 |_=>"?"
def mG(T n:String):Bool:=T==n||(T=="bool"&&n=="int")
def cT:List String:=["NoneType","bool","int","str","list","tuple","dict"]
def dw:List String:=["bool","int","str","list","tuple","dict"]
theorem se(K:zag):∀T∈cT,∀n∈dw,PySem.W.kitOne K (.type T) (.type n)=some (mG T n):=by
 intro T hT n hn;simp only[cT,dw,List.mem_cons,List.not_mem_nil,or_false]at hT hn;rcases hT with rfl|rfl|rfl|rfl|rfl|rfl|rfl<;>rcases hn with rfl|rfl|rfl|rfl|rfl|rfl<;>kernel_rfl
theorem HE{K:zag}{H:Hp}{x:V}(h:tyN H x∈cT):nP K H x (.type (tyN H x)):=by
 have no : ¬("?"∈cT):=by decide
 cases x with
 |non=>exact .non
 |bl b=>exact .bl b
 |int i=>exact .int i
 |str z=>exact .str z
 |ref a=>
  unfold tyN at h⊢;dsimp only at h⊢;cases e:H a with
  |none=>rw[e]at h;exact absurd h no
  |some o=>
   rw[e]at h;cases o with
   |lst xs=>exact .lst e
   |tup xs=>exact .tup e
   |dK kvs=>exact .dK e
   |frz ob u=>
    cases u with
    |lst xs=>exact .frz e
    |_=>exact absurd h no
   |_=>exact absurd h no
 |_=>exact absurd h no
def HF(xs:List V)(H:Hp)(Q:VK):Prop:=∃x n,xs=[x,.ty n]/\tyN H x∈cT/\n∈dw/\Q (.bl (mG (tyN H x) n)) H
section
variable{X:Cx}
theorem fF:dZ X (.builtin "isinstance") HF:=by
 intro pins s σ H xs us Q I r h;obtain⟨x,n,rfl,h1,h2,q⟩:=h;obtain⟨u,v,rfl,ru,rv⟩:=vals2 r;cases rv;exact Ah I ru (HE h1) (se X.K _ h1 _ h2) λtk=>⟨.bl _,H,I.tok tk,rfl,q⟩
mutual
inductive iH(K:zag)(H:Hp):V->PyData->Prop
 |non:iH K H .non .none
 |bl (b:Bool):iH K H (.bl b) (.bool b)
 |int (i:Int):iH K H (.int i) (.int i)
 |str (x:Str):iH K H (.str x) (.str x)
 |lst {a:Addr} {xs:List V} {ds:List PyData}:SqL K H a xs->iI K H xs ds->iH K H (.ref a) (.list ds)
 |tup {a:Addr} {xs:List V} {ds:List PyData}:SqT K H a xs->iI K H xs ds->iH K H (.ref a) (.tuple ds)
inductive iI(K:zag)(H:Hp):List V->List PyData->Prop
 |nil:iI K H [] []
 |cons {x:V} {xs:List V} {d:PyData} {ds:List PyData}:iH K H x d->iI K H xs ds->iI K H (x::xs) (d::ds)
end
mutual
theorem iH.reads{pins:List (Addr×Obj)}{s:Shared}{σ:St}{H:Hp}(I:Inv X pins σ H s):∀{x:V} {d:PyData},iH X.K H x d->∀{u:Value},RelV x u->∃as,Reads s.heap u d as
 |_,_,.non,_,r=>by cases r;exact⟨_,.none⟩
 |_,_,.bl b,_,r=>by cases r;exact⟨_,.bool b⟩
 |_,_,.int i,_,r=>by obtain⟨t,rfl⟩:=r;exact⟨_,.int i t⟩
 |_,_,.str z,_,r=>by obtain⟨t,rfl⟩:=r;exact⟨_,.str z t⟩
 |_,_,.lst hq hd,_,r=>by
  cases r;obtain⟨its,rv,pl,_⟩:=I.list hq;obtain⟨as,ha⟩:=iI.reads I hd rv;obtain⟨o,n,e,c,_,d⟩:=pl;exact⟨_,.list e c d ha⟩
 |_,_,.tup hq hd,_,r=>by
  cases r;obtain⟨its,rv,pl,_⟩:=I.tuple hq;obtain⟨as,ha⟩:=iI.reads I hd rv;obtain⟨o,e,c,n,d⟩:=pl;exact⟨_,.tuple e c d ha⟩
theorem iI.reads{pins:List (Addr×Obj)}{s:Shared}{σ:St}{H:Hp}(I:Inv X pins σ H s):∀{xs:List V} {ds:List PyData},iI X.K H xs ds->∀{us:List Value},Vals xs us->∃as,ReadsAll s.heap us ds as
 |_,_,.nil,_,r=>by cases r;exact⟨_,.nil⟩
 |_,_,.cons h t,_,r=>by
  cases r with
  |cons r1 r2=>
   obtain⟨as,ha⟩:=iH.reads I h r1;obtain⟨bs,hb⟩:=iI.reads I t r2;exact⟨_,.cons ha hb⟩
end
def HG(K:zag):R2:=λx y H Q=>∃da db,iH K H x da/\iH K H y db/\SeqAt.shaped da=true/\SeqAt.shaped db=true/\Q (.bl (PyData.eqv da db)) H
def HH(K:zag):R2:=λx y H Q=>∃da db,iH K H x da/\iH K H y db/\SeqAt.shaped da=true/\SeqAt.shaped db=true/\Q (.bl (!PyData.eqv da db)) H
theorem HI(hu:X.A.units+64<cLine):OpR X (compareOp .Eq) (HG X.K):=by
 intro pins s σ H x y v u Q I rx ry h;obtain⟨da,db,ha,hb,sa,sb,q⟩:=h;obtain⟨as,ra⟩:=ha.reads I rx;obtain⟨bs,rb⟩:=hb.reads I ry;exact eq_dataH ra rb sa sb hu ⟨.bl _,H,I,rfl,q⟩
theorem HJ(hu:X.A.units+64<cLine):OpR X (compareOp .NotEq) (HH X.K):=by
 intro pins s σ H x y v u Q I rx ry h;obtain⟨da,db,ha,hb,sa,sb,q⟩:=h;obtain⟨as,ra⟩:=ha.reads I rx;obtain⟨bs,rb⟩:=hb.reads I ry;exact ne_dataH ra rb sa sb hu ⟨.bl _,H,I,rfl,q⟩
theorem Ek:OpR X (binaryOp .Mult) (rI IntMulOk λi j=>.int (i*j)):=opI λ_ _ _ _ _ _ _ hc q=>mul_int q hc
def HK(K:zag)(xs:List V)(H:Hp)(Q:VK):Prop:=(∃p ys,xs=[.ref p]/\(SqL K H p ys\/SqT K H p ys)/\Q (.int ys.length) H)\/(∃z,xs=[.str z]/\z.length<=sizeLine/\Q (.int z.length) H)
theorem Ao:dZ X (.builtin "len") (HK X.K):=tL.or tM
end
structure Top(K:zag)(mg:Str->Option Value)(x:Str)(st:Stmt):Prop where
 ex:∃(f:Addr) (fd:FuncData),Fun K x x st f fd/\mg x=some (.ref f)
structure Def(P:Program)(w:World)(K:zag)(mg:Str->Option Value)(base:Heap)(CX:CXT)(k:Nat)(x:Str)(ps:List Str)(sp:Sp):Prop where
 ex:∃(f:Addr) (fd:FuncData),lT P w K mg base CX k f fd ps sp/\mg x=some (.ref f)/\PySem.W.keepIn K (.ref f)=true/\Binds K fd ps []
section
variable{P:Program}{w:World}{K:zag}{mg:Str->Option Value}{base:Heap}
theorem Top.mk'{x:Str}{st:Stmt}{h:Heap}{f:Addr}{oc:Value}{od an:Option Addr}{osl:Array (Option Value)}{kV doc pm cdv ct:Value}(X:K.In h)(G:h.Ns mainGlobals mg)(a:PySem.W.nsIn K mainGlobals x=some (some (.ref f)))
  (l:K.lookup f=some ⟨oc,od,.func (PySem.W.fnOf x x (iW st) (eZ st) (aV st) .none kV doc pm an cdv ct),osl⟩) (c:PySem.W.codeIn K cdv x=true) (k:PySem.W.keepIn K (.ref f)=true):Top K mg x st :=
 ⟨⟨f,_,HB l c k,PySem.W.mg_of X G a⟩⟩
theorem Top.def{x:Str}{st:Stmt}{N ps:List Str}{k:Nat}{sp:Sp}(T:Top K mg x st)(S:bO N ps (aV st))(len:∀vs H Q E,sp vs H Q E->vs.length=ps.length)
  (hb:∀(kV doc pm:Value) (an:Option Addr) (cdv ct:Value) (us:List Value),us.length=ps.length->bindArgs (PySem.W.fnOf x x (iW st) (eZ st) (aV st) .none kV doc pm an cdv ct) ⟨us,[]⟩=pure (ps.zip us))
  (hbody:∀(f:Addr) (cdv:Value) (A:Around) (outer:List Env) (s:Shared) (H:Hp) (vs:List V) (Q:VK) (E:XK),eI k (A.deeper (envOfC x (aV st) s.heap.objs.size f cdv))->sp vs H Q E->
   ∃t,PSs (tD CX0 P w K mg base N x (aV st) f cdv A outer s H E).nox (eZ st) t/\t {nx:=λ_ H'=>Q .non H',rt:=Q} (start N vs) H):Def P w K mg base CX0 (k+1) x ps sp:=by
 obtain⟨f,fd,F,m⟩:=T.ex;exact⟨⟨f,fd,F.ok S len (hbody f),m,F.kp,F.binds hb⟩⟩
theorem bW{X:Cx}{k:Nat}{x:Str}{ps:List Str}{sp:Sp}{p pos:Pos}{e:Expr}{es:List Expr}{t:TA}(D:Def X.prog X.w X.K X.mg X.base CX0 k x ps sp)(hr:eI k X.A)(ha:PA X (e::es) t)(hg:Gl X x:=by rfl)
  (hdb:(x==("__debug__":Str))=false:=by decide) (he:starEach (e::es) X.env=(false,eval e X.env)::starEach es X.env:=by rfl) (hpl:(backTo pos (starEach es X.env)).any (·.1)=false:=by rfl) :
  PE X (.Call (.Name x p) (e::es) [] pos) (kq sp [] E0 t):=by
 obtain⟨f,fd,F,m,kp,b⟩:=D.ex;exact Ea F hr hg m kp b .nil Jo ha hdb he hpl
end
open PySem.W in
theorem oG:∀(ns:List Int) (n:Int),n∈ns->Builtin.Int.intBits n<=WData.weightAll (ns.map WData.int)
 |m::r,n,h=>by
  rw[zaz];have e:WData.weightAll (WData.int m::r.map WData.int)=WData.weight (.int m)+1+WData.weightAll (r.map WData.int):=by simp only[WData.weightAll]
  rw[e];rcases zaf h with rfl|h
  ·have:Builtin.Int.intBits n=WData.weight (.int n):=by simp only[WData.weight,Builtin.Int.intBits]
   omega
  ·have:=oG r n h
   omega
open PySem.W in
theorem vR{ns:List Int}(h:WData.layableAll [WData.list (ns.map WData.int)]=true):∀n∈ns,Builtin.Int.intBits n<=1048576:=λn hn=>by
 have h1:(WData.list (ns.map WData.int)).layable=true:=PySem.W.layableW_arg h _ (by simp)
 have h2:=(PySem.W.layableW_iff.mp h1).2.2;have h3:WData.weight (.list (ns.map WData.int))=WData.weightAll (ns.map WData.int):=by simp only[WData.weight]
 have h4:=oG ns n hn;have h5:(2:Nat)^20=1048576:=by decide
 omega
open PySem.W PySem.Calls in
theorem El{l:OpenLaw}{n:Nat}{q:Program}{loose:List Str}{XP:(Str->Option Value)->Heap->Prop}{YP:World->Heap->Prop}{d:DefRec}
  (hn:l.most=some n) (hdf:d.params.defaults=[])
  (call:∀(w:World) (s₀ s₁:Shared) (mg mb:Str->Option Value) (fa a:Addr) (vs:List Value) (ns:List Int),
   Ground q loose [] XP w s₀ mg mb s₁.heap->YP w s₁.heap->mg d.name=some (.ref fa)->
   s₁.heap.get? a=some {cls:=.type "list",data:=.seq vs.toArray}->IntsAre vs ns->ns.length<=n->(∀k∈ns,Builtin.Int.intBits k<=1048576)->s₁.gens=#[]->
   codeAny (model l.prog w) callerA (.call (.ref fa) ⟨[.ref a],[]⟩) (λr s'=>r=.ok (.ret (.bool true))/\OldK s₁.heap s'.heap/\s'.os=s₁.os/\AllBare s'.gens) s₁) :
  WalkO q loose XP YP l.row.toRowW d [] (λf vs=>PySem.call f vs):=by
 intro w s₀ s₁ mg mb G Y fa o pm cd doc dV kV ho hd hcd hD hmg hg args vals as' hpre hlay hrd hwl hlo;obtain rfl:dV=.none:=Dflts.none hD hdf;obtain⟨a,vs,ns,rfl,rfl,hobj,hints,hlen⟩:=Att.Ak hn hpre hwl;refine enter_call (codeAny_mono (call w s₀ s₁ mg mb fa a vs ns G Y hmg hobj hints hlen (vR hlay) hg) λr s' hq=>?_)
 obtain⟨rfl,h2,h3,h4⟩:=hq;exact⟨.inl ⟨.bool true,.bool true,[],rfl,λ_=>rfl,.bool true,Att.An l _,λ_=>⟨List.Pairwise.nil,λ_ hm=>(nomatch hm)⟩⟩,h2,h3,h4⟩
def BO(K:zag):Sp:=λvs H Q _=>∃(a:Addr) (ns:List Int),vs=[.ref a]/\SqL K H a (ns.map V.int)/\ns.length<=63/\(∀k∈ns,Builtin.Int.intBits k<=1048576)/\∀H',Q (.bl true) H'
theorem BP{l:PySem.W.OpenLaw}{k:Nat}{q:Program}{loose:List Str}{XP:(Str->Option Value)->Heap->Prop}{YP:World->Heap->Prop}{d:DefRec}{K:Params->zag}{x:Str}{st:Stmt}
  (hn:l.most=some 63) (hdf:d.params.defaults=[]) (hr:eI k callerA) (hY:∀(w:World) (h:Heap),YP w h->(K w.params).In h/\∀c T ps,gF (K w.params)=some (c,T,ps)->h.get? T=some (PySem.W.tabObj #[]))
  (hb:∀(kV doc pm:Value) (an:Option Addr) (cdv ct u:Value),bindArgs (PySem.W.fnOf d.name d.name (iW st) (eZ st) (aV st) .none kV doc pm an cdv ct) ⟨[u],[]⟩=pure [(x,u)])
  (F:∀(w:World) (mg:Str->Option Value) (h:Heap),(K w.params).In h->h.Ns mainGlobals mg->Top (K w.params) mg d.name st/\
   ∀(f:Addr) (fd:FuncData),Fun (K w.params) d.name d.name st f fd->∀base:Heap,(K w.params).In base->base.Ns mainGlobals mg->lT l.prog w (K w.params) mg base CX0 k f fd [x] (BO (K w.params))) :
  PySem.W.WalkO q loose XP YP l.row.toRowW d [] (λf vs=>PySem.call f vs):=by
 refine El hn hdf λw s₀ s₁ mg mb fa a vs ns G Y hmg hobj hints hlen Jp hg=>?_
 obtain⟨KX,hTb⟩:=hY w _ Y;obtain⟨T,FF⟩:=F w mg _ KX G.T.g;obtain⟨f,fd,Ff,m⟩:=T.ex;have e:=m.symm.trans hmg;cases e;have hbd:∀(s:Shared) (u:Value),BindsTo s fd ⟨[u],[]⟩ [(x,u)]:=by
  obtain⟨oc,od,kV,doc,pm,an,cdv,ct,osl,rfl,lk,hcd⟩:=Ff.ex;exact λs u=>.of_eq (hb kV doc pm an cdv ct u)
 exact BN KX hTb G.T.g G.T.b G.T.builtins G.T.nolimit G.T.bmain hg hobj hints (zaX hlen (by decide)) hr (FF _ fd Ff) hbd (λH hO hS=>⟨a,ns,rfl,hS,hlen,Jp,λ_=>rfl⟩) λH e s' h=>h
section
variable{σ:St}{H:Hp}{Q:VK}{K:zag}{fr:List (Str×Nat)}
instance:Inhabited V:=⟨.non⟩
end
theorem eV{H:Hp}{p:Addr}{o:HO}(h:H p=none):aE H (upd H p o):=λb u e=>by rw[aq (d9 e h)];exact e
theorem kz{X:Cx}{x:Str}{n:String}{pos:Pos}(hm:X.mg x=none)(hv:bootBuiltins x=some (.type n))(hg:Gl X x:=by rfl)(hn:x≠"__name__":=by decide)(hd:(x==("__debug__":Str))=false:=by decide):PE X (.Name x pos) (tC (.ty n)) :=
 D2 hg hm hv (show RelV (.ty n) (.type n)from rfl) hn hd
section
variable{X:Cx}
theorem pW{elt iter:Expr}{x y:Str}{px py:Pos}{ifs:List Expr}{scope:Scope}{pos spos:Pos}{fr:List (Str×Nat)}{wi:TI}{tc:TT}{te:TE}{i0:Nat}(hc:X.calm=true)(hN:X.N.Nodup)(hi0:X.N[i0]?=some y)(hx0:Loc X.env.scope y)(B:Blk X scope x fr)
  (hi:PI X (.Name x px) iter wi) (ht:∀s₂ H₂ C fp,PIf (cQ X scope (bR x fr) s₂ H₂ C fp) ifs tc) (he:∀s₂ H₂ C fp,PE (cQ X scope (bR x fr) s₂ H₂ C fp) elt te)
  (hsw:swapsWith (.ListComp elt [⟨.Name x px,iter,ifs,0⟩] scope pos) (some (.Name y py)) spos.line X.env=pure true:=by rfl)
  (hf0:X.fn y=true\/X.env.scope.names.lookup y=some .local:=by first|exact .inl rfl|exact .inr rfl|assumption)
  (hs:∀v,foldedSetIterable iter X.env v=pure v:=by intro _;rfl):PS X (.Assign [.Name y py] (.ListComp elt [⟨.Name x px,iter,ifs,0⟩] scope pos) spos) (Ac (tLC fr wi tc te) (pP i0)):=by
 intro pins s σ H D0 I h;rw[exec_Assign_Name_used _ _ _ _ hsw];refine zaI (wpAny_standAt (zaI ?_));have hclos:=xO (scope:=scope) (env:=X.env) (B.clos I.ok);show wpAny _ X.A (do let _<-comprehension (.ListComp elt [⟨.Name x px,iter,ifs,0⟩] scope pos) scope X.env _ (newList []) false (eval iter X.env) (some (assign (.Name y py) X.env))) _ _ s
 refine zaI (za6 (wpAny_comprehension_free (use:=some (assign (.Name y py) X.env)) (Q:=λ_ s'=>SP X pins D0 .next s') rfl hs hclos B.kind B.loc
  (thn (hi pins s σ H _ I h) λv s1 h1=>thn h1 λitv s2 h2=>?_)) (λ_ s' hq=>zaZ (zaZ hq)) λ_ _ e=>e)
 obtain⟨it,fp,tn,J,H2,rfl,I2,T,st2,f2,W,⟨m0,w0⟩,turn⟩:=h2;refine wpAny_newObj_type (wpAny_newFunctionEnv B.cell (by intro y hy;simp at hy) (λh₁ hns hsb=>?_) B.kind)
 dsimp only at hns hsb⊢;generalize hG:s2.heap.push {cls:=.type "list",dict:=none,data:=.seq ([]:List Value).toArray}=G at hns hsb⊢;have hC:G.objs.size=s2.heap.objs.size+1:=by rw[<-hG,Heap.size_push]
 have hDC:s2.heap.objs.size≠G.objs.size:=by omega
 have old:∀b ob,s2.heap.get? b=some ob->h₁.get? b=some ob:=λb ob e=>by
  have hb:=zaq e;refine hsb.extBut b ob (zaS (by rw[hC];exact Nat.lt_succ_of_lt hb)) (zar _ ?_)
  rw[<-hG];exact zar _ e
 have hacc:h₁.get? s2.heap.objs.size=some {cls:=.type "list",data:=.seq ([]:List Value).toArray 0}:=by
  refine hsb.extBut _ _ hDC (zar _ ?_);rw[<-hG];exact zaL _ rfl
 have hlt:∀b∈fp,b<s2.heap.objs.size:=λb hb=>by
  obtain⟨o,e,_⟩:=T.obj 0 _ st2 b hb;exact zaq e
 have I4:=vO (tk:=s2.toks+([]:List (Str×Value)).length) (o:=none) I2 B (show s2.heap.objs.size<=G.objs.size by omega) f2 hlt old hns
 have tn4:tn 0 h₁:=T.keep 0 _ _ st2 λb _ o e=>old b o e
 have Dfs:s2.heap.objs.size∉frs X.stack:=λz=>by
  obtain⟨_,o,ho,_⟩:=I2.stack.mem z;exact absurd (zaq ho) (za3 _)
 have Dcl:∀y c,X.env.cells.lookup y=some c->c≠s2.heap.objs.size:=λy c e=>by
  obtain⟨v,o,ho,_⟩:=I2.cell y c e;exact zaS (zaq ho)
 have DL:s2.heap.objs.size≠X.env.locals:=Nat.ne_of_gt I2.lt;have Dfp:s2.heap.objs.size∉fp:=λz=>absurd (hlt _ z) (za3 _)
 have loop:∀s₃:Shared,s₃={s2 with heap:=h₁,toks:=s2.toks+([]:List (Str×Value)).length}->
   codeAny (model X.prog X.w) X.A (.compLoop (.ListComp elt [⟨.Name x px,iter,ifs,0⟩] scope pos) 0 (.ref it) (.ref s2.heap.objs.size) (compEnvC scope (eU X.env.cells scope.names []) G.objs.size X.env))
    (compPost (model X.prog X.w) X.A X.xe (some (assign (.Name y py) X.env)) (λ_ s'=>SP X pins D0 .next s') (.ref s2.heap.objs.size) G.objs.size) s₃:=by
  rintro s₃ rfl
  refine sd
   (λn s'=>∃i o H' ys its k,Inv (cQ X scope (bR x fr) s2 H2 G.objs.size fp) [] (o::aZ σ fr) H' s'/\tn i s'.heap/\(∀b∈fp,H' b=none)/\H' s2.heap.objs.size=none/\
    s'.heap.get? s2.heap.objs.size=some {cls:=.type "list",data:=.seq (its:List Value).toArray k}/\Vals ys its/\W i n ys H') ?_ m0
   ⟨0,none,H2,[],[],0,I4,tn4,λb hb=>(f2 b hb).1,I2.hok.fresh (zap _),hacc,.nil,w0⟩
  rintro n s5 ⟨i,o,H5,ys,its,k,I5,st5,fr5,D5,hD5,r5,w5⟩
  have fok:∀{H':Hp},(∀b∈fp,H' b=none)->∀b∈fp,jb (cQ X scope (bR x fr) s2 H2 G.objs.size fp) [] H' b:=λhn b hb=>
   ⟨hn b hb,(I5.ok.exf b hb).1,I5.ok.vF b hb,.inl hb,(I5.ok.exf b hb).2,λp hp=>absurd (show p∈([]:List (Addr×Obj))from hp) (by simp)⟩
  have dok:∀{H':Hp},H' s2.heap.objs.size=none->jb (cQ X scope (bR x fr) s2 H2 G.objs.size fp) [] H' s2.heap.objs.size:=λhn=>
   ⟨hn,hDC,Dfs,.inr (zap _),λy c e=>Dcl y c (B.sub I2.ok _ _ e),λp hp=>absurd (show p∈([]:List (Addr×Obj))from hp) (by simp)⟩
  obtain⟨hz,alt⟩:=turn i n ys H5 w5;have hzl:its.length<=sizeLine:=by rw[<-r5.length];exact Nat.le_of_lt hz
  rcases alt with⟨stop,fin⟩|⟨go,step⟩
  ·refine thn (T.done (cQ X scope (bR x fr) s2 H2 G.objs.size fp) rfl rfl rfl hc i (fD [s2.heap.objs.size] s5.heap) s5 (o::aZ σ fr) H5 _ ?_ (λb hb=>?_) st5 stop) λr s6 ⟨hr,I6⟩=>?_
   ·exact(Inv.pinned I5 (fp:=[s2.heap.objs.size]) (λb hb=>by rw[zad hb];exact dok D5) λb hb=>by
     rw[zad hb];exact⟨_,hD5,λv z=>by cases z⟩)
   ·obtain⟨f0,f1,f2',f3,f4,f5⟩:=fok fr5 b hb
    refine⟨f0,f1,f2',f3,f4,λp hp=>?_⟩
    have hp':p∈fD [s2.heap.objs.size] s5.heap:=(zae hp).elim (λz=>absurd (show p∈([]:List (Addr×Obj))from z) (by simp)) id
    have:=(jk hp').1;rw[zad this];exact λe=>Dfp (by rw[e];exact hb)
   ·subst hr
    have hD6:=(I6.pin (s2.heap.objs.size,{cls:=.type "list",data:=.seq its.toArray k}) (zan _ (bF (by simp) hD5))).1
    obtain⟨m6,hn6,_⟩:=I6.loc;have u6:Un (frs X.stack) fp H2 H5 s2.heap s6.heap:=I6.base;have hC5:H5 G.objs.size=none:=I6.free;have hCD:G.objs.size≠s2.heap.objs.size:=λz=>hDC z.symm
    have I7:Inv X pins σ H5 s6:=I2.call' (s':=s6) (I6.os) u6 I6.hok I6.bare λb hb=>⟨(f2 b hb).2.2.2.1,(f2 b hb).2.1,(f2 b hb).2.2.2.2.1,(f2 b hb).2.2.2.2.2⟩
    have pD:∀p∈X.pn++pins,p.1≠s2.heap.objs.size:=λp hp z=>by
     obtain⟨e,_⟩:=I2.pin p hp;rw[z]at e;exact absurd (zaq e) (za3 _)
    have I8:Inv X pins σ (upd H5 s2.heap.objs.size (.lst ys)) s6:=I7.track D5 I2.sz DL Dcl pD ⟨Nat.le_of_lt hz,its,k,r5,hD6⟩;have hlt:s2.heap.objs.size<G.objs.size:=by rw[hC];exact Nat.lt_succ_self _
    have hCu:upd H5 s2.heap.objs.size (.lst ys) G.objs.size=none:=by rw[aq hCD];exact hC5
    obtain⟨g0,g1,g2,g3,g4,g5⟩:=I2.pQ (H':=upd H5 s2.heap.objs.size (.lst ys)) (Nat.le_of_lt hlt) hCu;obtain⟨oC,esC,epC,hoC,Gm⟩:=id hn6;have I9:=Inv.pinned I8 (fp:=[G.objs.size]) (λb hb=>by
     rw[zad hb];exact⟨g0,g1,g2,g3,g4,g5⟩) λb hb=>by
     rw[zad hb];refine⟨oC,hoC,λv z=>?_⟩
     have dd:=Gm;simp[z]at dd
    refine thn (a9 (X:=X) (i:=i0) hN hi0 hx0 hf0 _ s6 σ _ (.ref s2.heap.objs.size) (.ref s2.heap.objs.size) (fun σ' H'=>σ'=σ.set i0 (some (.ref s2.heap.objs.size))/\H'=upd H5 s2.heap.objs.size (.lst ys)) I9 rfl ⟨rfl,rfl⟩) λ_ s8 ⟨σ8,H8,I10,e1,e2⟩=>?_
    subst e1 e2;have hC8:=(I10.pin (G.objs.size,oC) (zan _ (zan _ (bF (by simp) hoC)))).1
    refine⟨m6,⟨oC,esC,epC,hC8,Gm⟩,λh' hs'=>?_⟩
    exact⟨_,_,(Inv.dQ (pins:=pins) I10).turned (t':=s8.toks) (it:=G.objs.size) (λb ob hb e=>hs'.extBut b ob hb e) g0 g1 g3 g4 g5,fin _ D5⟩
  ·refine vP (thn (T.item (cQ X scope (bR x fr) s2 H2 G.objs.size fp) rfl rfl rfl hc i (fD [s2.heap.objs.size] s5.heap) s5 (o::aZ σ fr) H5 _ ?_ (λb hb=>?_) st5 go) λr s6 ⟨u,hr,h6⟩=>?_)
   ·exact(Inv.pinned I5 (fp:=[s2.heap.objs.size]) (λb hb=>by rw[zad hb];exact dok D5) λb hb=>by
     rw[zad hb];exact⟨_,hD5,λv z=>by cases z⟩)
   ·obtain⟨f0,f1,f2',f3,f4,f5⟩:=fok fr5 b hb
    refine⟨f0,f1,f2',f3,f4,λp hp=>?_⟩
    have hp':p∈fD [s2.heap.objs.size] s5.heap:=(zae hp).elim (λz=>absurd (show p∈([]:List (Addr×Obj))from z) (by simp)) id
    have:=(jk hp').1;rw[zad this];exact λe=>Dfp (by rw[e];exact hb)
   ·subst hr
    refine thn h6 λ_ s7 ⟨v,H7,I7,rv,y7,st7,fr7⟩=>?_
    have p7:=I7.pin (s2.heap.objs.size,{cls:=.type "list",data:=.seq its.toArray k}) (zan _ (bF (by simp) hD5))
    have hD7:s7.heap.get? s2.heap.objs.size=some {cls:=.type "list",data:=.seq its.toArray k}:=p7.1;have D7:H7 s2.heap.objs.size=none:=p7.2.1;have I7u:Inv (cQ X scope (bR x fr) s2 H2 G.objs.size fp) [] (o::aZ σ fr) H7 s7:=Inv.dQ (pins:=[]) I7;have I8:=Inv.pinned I7u (fp:=s2.heap.objs.size::fp) (λb hb=>by
      rcases zaf hb with e|hb
      ·rw[e];exact dok D7
      ·exact fok fr7 b hb) λb hb=>by
      rcases zaf hb with e|hb
      ·rw[e];exact⟨_,hD7,λv z=>by cases z⟩
      ·exact T.obj _ _ st7 b hb
    have hl : Loc (cQ X scope (bR x fr) s2 H2 G.objs.size fp).env.scope x := .inl (lookup_relabel_local B.here);have pk:∀{σ':St} {H':Hp} {s':Shared},Inv (cQ X scope (bR x fr) s2 H2 G.objs.size fp) ([]++fD (s2.heap.objs.size::fp) s7.heap) σ' H' s'->
      tn (i+1) s'.heap/\(∀b∈fp,H' b=none)/\H' s2.heap.objs.size=none/\s'.heap.get? s2.heap.objs.size=some {cls:=.type "list",data:=.seq its.toArray k}:=fun{σ' H' s'} I'=>by
     have pD:=I'.pin (s2.heap.objs.size,{cls:=.type "list",data:=.seq its.toArray k}) (zan _ (zan _ (bF (by simp) hD7)))
     refine⟨T.keep _ _ _ st7 λb hb ob e=>(I'.pin (b,ob) (zan _ (zan _ (bF (zak _ hb) e)))).1,λb hb=>?_,pD.2.1,pD.1⟩
     obtain⟨ob,e,_⟩:=T.obj _ _ st7 b hb;exact(I'.pin (b,ob) (zan _ (zan _ (bF (zak _ hb) e)))).2.1
    refine vP (thn (a9 (X :=cQ X scope (bR x fr) s2 H2 G.objs.size fp) (i :=0) B.nd rfl hl (.inr (lookup_relabel_local B.here)) _ s7 _ H7 v u (fun σ' H'=>σ'=some v :: aZ σ fr/\H'=H7) I8 rv ⟨rfl,rfl⟩) λ_ s8 ⟨σ8,H8,I9,e1,e2⟩=> ?_)
    subst e1 e2;refine vP (thn (ht s2 H2 G.objs.size fp _ s8 _ H8 _ I9 (step v H8 y7)) λok s9 ⟨H9,I10,q10⟩=>?_)
    cases ok with
    |false=>
     rw[if_neg zam]at q10;rw[if_neg zam];obtain⟨m',hm,w'⟩:=q10;obtain⟨k1,k2,k3,k4⟩:=pk I10;exact⟨m',hm,i+1,some v,H9,ys,its,k,Inv.dQ (pins:=[]) I10,k1,k2,k3,k4,r5,w'⟩
    |true=>
     rw[if_pos rfl]at q10;rw[if_pos rfl];refine vP (thn (he s2 H2 G.objs.size fp _ s9 _ H9 _ I10 q10) λy' s10 ⟨y,H10,I11,ry,m',hm,w'⟩=>?_)
     obtain⟨k1,k2,k3,k4⟩:=pk I11;refine append_at k4 (λh' hs' hD'=>?_) (by rw[zaK];exact hzl)
     have I12:Inv (cQ X scope (bR x fr) s2 H2 G.objs.size fp) [] (some v::aZ σ fr) H10 {s10 with heap:=h'} :=
      (Inv.dQ (pins:=[]) I11).turned (t':=s10.toks) (it:=s2.heap.objs.size) (λb ob hb e=>(hs'.2 b hb).trans e) k3 hDC (.inr (zap _)) (λz c e=>Dcl z c (B.sub I2.ok _ _ e)) λp hp=>absurd (show p∈([]:List (Addr×Obj))from hp) (by simp)
     refine⟨m',hm,i+1,some v,H10,ys++[y],its++[y'],k+1,I12,T.keep _ _ _ k1 λb hb ob e=>(hs'.2 b λz=>Dfp (by rw[<-z];exact hb)).trans e,k2,k3,?_,r5.append (.cons ry .nil),w'⟩
     rw[hD'];simp
 exact codeAny_compStart_list (loop _ rfl) (T.self _ 0 _ _ _ tn4 (loop _ rfl))
end
section
variable{prog:Program}{w:World}{A:Around}{E:Value->Shared->Prop}{s:Shared}
theorem sf{it t:Addr}{items:Array Value}(hne:t≠it):∀(n i:Nat) (s:Shared) (Q:List Value->Shared->Prop),s.heap.IsListIter it t i->s.heap.IsList t items->i+n<=items.size->
  (∀h':Heap,h'.IsListIter it t (i+n)->Heap.SameBut it s.heap h'->Q ((items.toList.drop i).take n) {s with heap:=h'})->wpAny (model prog w) A (draw (.ref it) n) Q E s
 |0,i,s,Q,hit,_,_,hQ=>by
  show wpAny _ _ (pure []) Q E s;exact zaZ (by simpa using hQ s.heap hit (Heap.SameBut.refl ..))
 |n+1,i,s,Q,hit,ht,hle,hQ=>by
  have hlt:i<items.size:=by omega
  show wpAny _ _ (pyNext (.ref it)>>=_) Q E s;refine zaI (wpAny_pyNext_list_item hit ht (x:=items[i]) (by simp[hlt]) λh1 hit1 hs1=>?_)
  refine zaI (wpAny_holding (sf hne n (i+1) _ _ hit1 (ht.extBut hs1.extBut hne) (by omega) λh2 hit2 hs2=>zaZ ?_))
  have hd:items.toList.drop i=items[i]::items.toList.drop (i+1):=by simp[List.drop_eq_getElem_cons,hlt]
  have:=hQ h2 (by rw[show i+(n+1)=i+1+n by omega];exact hit2) (hs1.trans hs2)
  rw[hd,List.take_succ_cons]at this;exact this
theorem o6{t:Addr}{items:Array Value}{Q:List Value->Shared->Prop}(hh:A.handled=none)(ht:s.heap.IsList t items)
  (hQ:∀h',Heap.ExtBut s.heap.objs.size s.heap h'->Q items.toList {s with heap:=h'}):wpAny (model prog w) A (unpackItems (.ref t) items.size none) Q E s:=by
 have hlt:t≠s.heap.objs.size:=by obtain⟨o,ho,_⟩:=ht;exact zaS (zaq ho)
 unfold unpackItems;refine zaI ?_
 ·unfold notIterableAtAll
  refine zaI (wpAny_specialOf ht.typeIs slot_list_iter.lookup ?_);refine zaZ ?_;simp only[Bool.false_eq_true,if_false];refine zaI (wpAny_holding (wpAny_pyIter_list ht ?_));refine zaI (wpAny_holding (sf hlt items.size 0 _ _ ⟨_,zaL _ rfl,rfl,rfl⟩ (ht.push _) (by omega) λh1 hit1 hs1=>?_))
  have hall:List.take items.size (List.drop 0 items.toList)=items.toList:=by
   rw[List.drop_zero];exact List.take_of_length_le (by simp)
  rw[hall];rw[if_neg (by simp)]
  have ht1:h1.IsList t items:=(ht.push _).extBut hs1.extBut hlt;refine zaI (wpAny_holding (wpAny_pyNext_list_end hh hit1 ht1 (by simp) λh2 he2=>?_))
  simp only[Option.isSome_none,Bool.false_eq_true,if_false];refine zaZ (hQ h2 λb o hb e=>he2 b o hb (hs1.extBut b o hb (zar _ e)))
theorem nQ{env:Env}{elts:List Expr}{x1}{pos:Pos}{t:Addr}{items:Array Value}{Q:Unit->Shared->Prop}(hh:A.handled=none)(ht:s.heap.IsList t items)
  (hn:(assignEach elts env).length=items.size) (hstar:(assignEach elts env).findIdx? (·.1)=none)
  (h:∀h',Heap.ExtBut s.heap.objs.size s.heap h'->wpAny (model prog w) A (assignInOrder ((assignEach elts env).map (·.2)) items.toList) Q E {s with heap:=h'}) :
  wpAny (model prog w) A (assign (.Tuple elts x1 pos) env (.ref t)) Q E s:=by
 rw[assign_Tuple];refine zaI (wpAny_standAt ?_);unfold unpack;rw[hn,hstar];exact zaI (wpAny_holding (o6 hh ht h))
end
variable{X:Cx}
def BQ(K:zag)(n:Nat)(t:TGs):TG:=λv σ H Q=>∃a xs,v=.ref a/\(SqT K H a xs\/SqL K H a xs)/\xs.length=n/\t xs σ H Q
theorem ib{es:List Expr}{k:Nat}{pos:Pos}{t:TGs}{n:Nat}(hc:X.calm=true)(h:PGs X es t)
  (hn:(assignEach es X.env).length=n:=by rfl) (hst:(assignEach es X.env).findIdx? (·.1)=none:=by rfl):PG X (.Tuple es k pos) (BQ X.K n t):=by
 intro pins s σ H v u Q I r hw;obtain⟨a,xs,e1,hq,hl,hw⟩:=hw;subst e1;cases r;rcases hq with hq|hq
 ·obtain⟨its,rv,ht,hz⟩:=I.tuple hq
  refine assign_Tuple_tuple (I.ok.hd hc) ht (by simp[hn,<-hl,rv.length]) hst λh' hx=>?_
  have I1:Inv X pins σ H {s with heap:=h'}:=I.kept (t':=s.toks) λb o e=>hx b o (zaS (zaq e)) e
  exact h pins _ σ H xs _ Q I1 (by simpa using rv) hw
 ·obtain⟨its,rv,ht,hz⟩:=I.list hq
  refine nQ (I.ok.hd hc) ht.isList (by simp[hn,<-hl,rv.length]) hst λh' hx=>?_
  have I1:Inv X pins σ H {s with heap:=h'}:=I.kept (t':=s.toks) λb o e=>hx b o (zaS (zaq e)) e
  exact h pins _ σ H xs _ Q I1 (by simpa using rv) hw
end L2
namespace L2
open PySem PySem.Spec PyProof.Rows
structure BR(P:Program)(w:World)(outer:List Env)(H:Hp)(s:Shared)(E:XK)(ea t:Addr)(cls:Value)(B:Heap)(H':Hp)(s':Shared):Prop where
 os:s'.os=s.os
 bare:AllBare s'.gens
 fly:Heap.FlyingW B outer ea cls (.ref t) s'.heap
 keep:∀b o,s.heap.get? b=some o->H b=none->b∉frs outer->B.get? b=some o
 there:∀b o,s.heap.get? b=some o->b∉frs outer->∃o',B.get? b=some o'
 slot:∀b o,s.heap.get? b=some o->b∈frs outer->H b=none->∃sl,s'.heap.get? b=some {o with slots:=sl}
 free:∀b o,s.heap.get? b=some o->H b=none->H' b=none
 tups:∀b xs,H b=some (.tup xs)->H' b=some (.tup xs)
 jB:∀b o u,H b=some (.frz o u)->H' b=some (.frz o u)
 jj:∀b ps,H b=some (.tbl ps)->∃more,H' b=some (.tbl (ps++more))
 hok:HOk P w H' B
 wish:E cls none H'
section
variable{X:Cx}
theorem cy.is{P:Program}{w:World}{H:Hp}{h:Heap}{a:Addr}{o:HO}(x:cy P w H h a o):∃u,h.get? a=some u:=by
 induction o with
 |lst xs=>obtain⟨z,its,n,r,e⟩:=x;exact⟨_,e⟩
 |tup xs=>first|(obtain⟨z,its,r,ob,e,c⟩:=x;exact⟨_,e⟩)|(obtain⟨z,its,r,⟨ob,e,c⟩,_⟩:=x;exact⟨_,e⟩)
 |dK kvs=>obtain⟨z,y,vs,r,ob,es,ep,e,c⟩:=x;exact⟨_,e⟩
 |dT kvs=>obtain⟨z,y,xs,r,ob,es,ep,e,c⟩:=x;exact⟨_,e⟩
 |set S n=>obtain⟨ob,es,ep,t,e,c⟩:=x;exact⟨_,e⟩
 |ins C dx fs=>obtain⟨_,_,_,e,_⟩:=x;exact⟨_,e⟩
 |own _=>exact x
 |xd fs=>obtain⟨_,⟨_,_,_,e,_⟩,_⟩:=x;exact⟨_,e⟩
 |rng lo hi=>obtain⟨_,_,_,e⟩:=x;exact⟨_,e⟩
 |frz ob u=>obtain⟨e,_⟩:=x;exact⟨_,e⟩
 |tbl ps=>
  rcases x with⟨_,_,_,_,_,_,_,_,ec,e,_⟩|⟨_,_,e,_⟩
  ·cases ec;exact⟨_,e⟩
  ·exact⟨_,e⟩
 |met f y=>exact⟨_,x⟩
 |ext φ=>obtain⟨_,e,_⟩:=x;exact e
theorem cy.Jq{P:Program}{w:World}{H:Hp}{h:Heap}{a:Addr}{xs:List V}(x:cy P w H h a (.tup xs)):xs.length<=sizeLine/\∃its:List Value,Vals xs its/\IsTup h a its.toArray:=by
 first|exact x|(obtain⟨z,its,r,p,_⟩:=x;exact⟨z,its,r,p⟩)
theorem cy.BS{P:Program}{w:World}{H:Hp}{h:Heap}{xs:List V}{its:List Value}(hz:xs.length<=sizeLine)(r:Vals xs its):cy P w H (h.push {cls:=.type "tuple",data:=.seq its.toArray}) h.objs.size (.tup xs):=by
 first|exact⟨hz,its,r,⟨_,zaL _ rfl,rfl,_,rfl⟩⟩|exact⟨hz,its,r,⟨_,zaL _ rfl,rfl,_,rfl⟩,_,zaL _ rfl,rfl⟩
theorem BR.inv{pins:List (Addr×Obj)}{σ:St}{H H':Hp}{s s':Shared}{E:XK}{ea t:Addr}{cls:Value}{B h2:Heap}(fl:BR X.prog X.w X.stack H s E ea t cls B H' s')(I:Inv X pins σ H s)(f2:Heap.FlyingW B X.stack ea cls (.ref t) h2)(sm:s'.heap.UpToSlots h2) :
  Inv X pins σ H' {s' with heap:=h2}:=by
 refine I.call' (ch:=[]) fl.os ⟨λb o q n hb _=>f2.1 b o (fl.keep b o q n hb),λb o q n hb _=>?_,λb o q n _=>fl.free b o q n,λb o q _=>?_,fl.tups,fl.jB,fl.jj⟩ (fl.hok.kept f2.1) fl.bare (λb z=>absurd z (by simp))
 ·obtain⟨sl,q1⟩:=fl.slot b o q hb n
  obtain⟨_,o2,q2,hd⟩:=fl.fly.2.2.1.mem hb;rw[q1]at q2;cases q2;obtain⟨sl',q3⟩:=sm b _ q1 hd;exact⟨sl',q3⟩
 ·by_cases hb:b∈frs X.stack
  ·obtain⟨sl,q1⟩:=fl.slot b o q hb (I.pe b hb)
   obtain⟨_,o2,q2,hd⟩:=fl.fly.2.2.1.mem hb;rw[q1]at q2;cases q2;obtain⟨sl',q3⟩:=sm b _ q1 hd;exact⟨_,q3⟩
  ·obtain⟨o',q1⟩:=fl.there b o q hb
   exact⟨o',f2.1 b o' q1⟩
end
def Cx.mkd(X:Cx)(e:Addr):Cx:={X with A:=X.A.mark (some (.ref e)),calm:=false,xe:=λ_ _=>False}
def Cx.inX(X:Cx)(e:Addr)(oe:Obj):Cx:={X with A:=X.A.mark (some (.ref e)),calm:=false,pn:=(e,oe)::X.pn,xe:=λ_ _=>False}
section
variable{X:Cx}{pins:List (Addr×Obj)}{σ:St}{H:Hp}{s:Shared}{e:Addr}{oe:Obj}
theorem Cx.Ok.mkd(ok:X.Ok):(X.mkd e).Ok:=⟨ok.mod,ok.kind,ok.glob,ok.blt,ok.above,ok.inj,ok.has,ok.cab,λh=>absurd (show false=true from h) zam,ok.frames,ok.stk,ok.exf,ok.bs,ok.bsz,ok.xE,ok.vF,ok.mh,ok.frf,ok.tab⟩
theorem Inv.mkd(I:Inv X pins σ H s):Inv (X.mkd e) pins σ H s:=⟨I.ok.mkd,I.os,I.bare,I.base,I.loc,I.cell,I.free,I.hE,I.pin,I.hok,I.len⟩
theorem Cx.Ok.inX(ok:X.Ok):(X.inX e oe).Ok:=⟨ok.mod,ok.kind,ok.glob,ok.blt,ok.above,ok.inj,ok.has,ok.cab,λh=>absurd (show false=true from h) zam,ok.frames,ok.stk,ok.exf,ok.bs,ok.bsz,ok.xE,ok.vF,ok.mh,ok.frf,ok.tab⟩
theorem Inv.inX(I:Inv X pins σ H s)(h1:s.heap.get? e=some oe)(h2:H e=none)(h3:e≠X.env.locals)(h4:e∉X.fs)(h5:∀v,oe.data≠.cell v):Inv (X.inX e oe) pins σ H s :=
 ⟨I.ok.inX,I.os,I.bare,I.base,I.loc,I.cell,I.free,I.hE,λp hp=>by
  rcases zaf (show p∈(e,oe)::(X.pn++pins)from hp)with rfl|hp
  ·exact⟨h1,h2,h3,h4,h5⟩
  ·exact I.pin p hp,I.hok,I.len⟩
def Ends.drop(D:Ends)(i:Nat):Ends:={nx:=fun σ H=>D.nx (σ.set i none) H,rt:=D.rt,bk:=fun σ H=>D.bk (σ.set i none) H,ct:=fun σ H=>D.ct (σ.set i none) H}
end
end L2
namespace L2
open PySem PySem.Spec PyProof.Rows PySem.W Builtin Builtin.ObjectAttr Builtin.Getset_descriptor
section
variable{prog:Program}{w:World}{A:Around}{E:Value->Shared->Prop}{K:zag}{a D:Addr}{o:Obj}{h:Heap}{g:Array GenState}{d:Drawn}{t:Nat}{os:OsState}
structure K6(K:zag)(D:Addr):Prop where
 ga:findIn K (.ref D) "__getattribute__"=some (some (.builtin "BaseException.__getattribute__"))
 gn:findIn K (.ref D) "__getattr__"=some none
 ca:findIn K (.ref D) "__class__"=some (some (.builtin "object.__class__"))
 sub:subIn K (.ref D) (.type "BaseException")=some true
 mro:mroIn K D (.type "object")=some true
 gs:specialIn K (.builtin "object.__class__") "__get__"=some (some (.builtin "getset_descriptor.__get__"))
 tk:takesIn K (.builtin "object.__class__")=some true
 cls:(clsIn K D).isSome=true
end
end L2
namespace Mir
open PySem L2
class Zc where
 e:Addr
instance (priority:=10) zc0:Zc:=⟨0⟩
variable [Zc]
def cIf{α:Type}(c:Prop)(a b : α) : α:=@ite α c (Classical.propDecidable c) a b
theorem bZ{α:Type}{c:Prop}{a b : α}(h:c):cIf c a b=a:=by unfold cIf;rw[if_pos h]
theorem Em{α:Type}{c:Prop}{a b : α}(h : ¬c):cIf c a b=b:=by unfold cIf;rw[if_neg h]
theorem BU{α:Type}{a b : α}:cIf True a b=a:=bZ trivial
theorem cU{α:Type}{c:Prop}{a:Option α}{x : α}(h:cIf c a none=some x):c/\a=some x:=by
 by_cases hc:c
 ·rw[bZ hc]at h;exact⟨hc,h⟩
 ·rw[Em hc]at h;cases h
abbrev D:=PyData
def tP:Key->D->Prop
 | .inl i,c=>c=.int i
 | .inr x,c=>c=.str x
mutual
inductive Rep(H:Hp):V->D->Prop
 |non:Rep H .non .none
 |bl (b:Bool):Rep H (.bl b) (.bool b)
 |int (i:Int):Rep H (.int i) (.int i)
 |str (x:Str):Rep H (.str x) (.str x)
 |lst {a:Addr} {xs:List V} {ds:List D}:Rd H a (.lst xs)->aQ H xs ds->Rep H (.ref a) (.list ds)
 |tup {a:Addr} {xs:List V} {ds:List D}:H a=some (.tup xs)->aQ H xs ds->Rep H (.ref a) (.tuple ds)
 |dct {a:Addr} {kvs:List (Key×V)} {es:List (D×D)}:Rd H a (.dK kvs)->bx H kvs es->Rep H (.ref a) (.dict es)
inductive aQ(H:Hp):List V->List D->Prop
 |nil:aQ H [] []
 |cons {x:V} {xs:List V} {d:D} {ds:List D}:Rep H x d->aQ H xs ds->aQ H (x::xs) (d::ds)
inductive bx(H:Hp):List (Key×V)->List (D×D)->Prop
 |nil:bx H [] []
 |cons {k:Key} {x:V} {kvs:List (Key×V)} {c d:D} {es:List (D×D)}:tP k c->Rep H x d->bx H kvs es->bx H ((k,x)::kvs) ((c,d)::es)
end
theorem dy{H H':Hp}(e:aE H H'){a:Addr}{u:HO}(h:Rd H a u):Rd H' a u:=by
 rcases h with h|⟨o,h⟩
 ·exact .inl (e _ _ h)
 ·exact .inr ⟨o,e _ _ h⟩
mutual
theorem Rep.mono{H H':Hp}(e:aE H H'):∀{v:V} {d:D},Rep H v d->Rep H' v d
 |_,_,.non=>.non
 |_,_,.bl b=>.bl b
 |_,_,.int i=>.int i
 |_,_,.str x=>.str x
 |_,_,.lst h r=>.lst (dy e h) (aQ.mono e r)
 |_,_,.tup h r=>.tup (e _ _ h) (aQ.mono e r)
 |_,_,.dct h r=>.dct (dy e h) (bx.mono e r)
theorem aQ.mono{H H':Hp}(e:aE H H'):∀{v:List V} {d:List D},aQ H v d->aQ H' v d
 |_,_,.nil=>.nil
 |_,_,.cons a b=>.cons (Rep.mono e a) (aQ.mono e b)
theorem bx.mono{H H':Hp}(e:aE H H'):∀{v:List (Key×V)} {d:List (D×D)},bx H v d->bx H' v d
 |_,_,.nil=>.nil
 |_,_,.cons k a b=>.cons k (Rep.mono e a) (bx.mono e b)
end
theorem aQ.length{H:Hp}:∀{v:List V} {d:List D},aQ H v d->v.length=d.length
 |_,_,.nil=>rfl
 |_,_,.cons _ b=>by simp[aQ.length b]
theorem aQ.get{H:Hp}:∀{v:List V} {d:List D} (i:Nat),aQ H v d->∀c,d[i]?=some c->∃x,v[i]?=some x/\Rep H x c
 |_,_,_,.nil,c,e=>by simp at e
 |_,_,0,.cons a _,c,e=>by simp at e;subst e;exact⟨_,rfl,a⟩
 |_,_,i+1,.cons _ b,c,e=>by
  obtain⟨x,h1,h2⟩:=aQ.get i b c (by simpa using e)
  exact⟨x,by simpa using h1,h2⟩
theorem aQ.HL{H:Hp}:∀{v:List V} {d:List D} (i:Nat),aQ H v d->∀x,v[i]?=some x->∃c,d[i]?=some c/\Rep H x c
 |_,_,_,.nil,c,e=>by simp at e
 |_,_,0,.cons a _,c,e=>by simp at e;subst e;exact⟨_,rfl,a⟩
 |_,_,i+1,.cons _ b,c,e=>by
  obtain⟨x,h1,h2⟩:=aQ.HL i b c (by simpa using e)
  exact⟨x,by simpa using h1,h2⟩
theorem aQ.append{H:Hp}:∀{v w:List V} {d c:List D},aQ H v d->aQ H w c->aQ H (v++w) (d++c)
 |_,_,_,_,.nil,r=>r
 |_,_,_,_,.cons a b,r=>.cons a (aQ.append b r)
theorem aQ.take{H:Hp}:∀{v:List V} {d:List D} (n:Nat),aQ H v d->aQ H (v.take n) (d.take n)
 |_,_,0,_=>.nil
 |_,_,_+1,.nil=>.nil
 |_,_,n+1,.cons a b=>.cons a (aQ.take n b)
theorem aQ.drop{H:Hp}:∀{v:List V} {d:List D} (n:Nat),aQ H v d->aQ H (v.drop n) (d.drop n)
 |_,_,0,r=>r
 |_,_,_+1,.nil=>.nil
 |_,_,n+1,.cons _ b=>aQ.drop n b
theorem aQ.set{H:Hp}{x:V}{c:D}(r:Rep H x c):∀{v:List V} {d:List D} (i:Nat),aQ H v d->aQ H (v.set i x) (d.set i c)
 |_,_,_,.nil=>.nil
 |_,_,0,.cons _ b=>.cons r b
 |_,_,i+1,.cons a b=>.cons a (aQ.set r i b)
theorem aQ.eraseIdx{H:Hp}:∀{v:List V} {d:List D} (i:Nat),aQ H v d->aQ H (v.eraseIdx i) (d.eraseIdx i)
 |_,_,_,.nil=>.nil
 |_,_,0,.cons _ b=>b
 |_,_,i+1,.cons a b=>.cons a (aQ.eraseIdx i b)
theorem aQ.dropLast{H:Hp}{v:List V}{d:List D}(r:aQ H v d):aQ H v.dropLast d.dropLast:=by
 rw[List.dropLast_eq_take,List.dropLast_eq_take,r.length];exact r.take _
theorem aQ.reverse{H:Hp}:∀{v:List V} {d:List D},aQ H v d->aQ H v.reverse d.reverse
 |_,_,.nil=>.nil
 |_,_,.cons a b=>by rw[List.reverse_cons,List.reverse_cons];exact(aQ.reverse b).append (.cons a .nil)
theorem aQ.flat{H:Hp}{v:List V}{d:List D}(r:aQ H v d):∀k,aQ H (List.replicate k v).flatten (List.replicate k d).flatten
 |0=>.nil
 |k+1=>by
  rw[zbc,zbc,List.flatten_cons,List.flatten_cons];exact r.append (aQ.flat r k)
inductive Sl where
 |no|fz (d:D)|own (d:D)|io (d:D)|ro (d:D)|ex
def Sl.d3:Sl->Bool
 | .own _=>true
 | .io _=>true
 |_=>false
def Sl.isRef:Sl->Bool
 | .own _=>true
 | .io _=>true
 | .ro _=>true
 |_=>false
theorem Sl.kA{s:Sl}(h:s.d3=true):s.isRef=true:=by cases s<;>first|rfl|cases h
abbrev Rho:=List Sl
inductive Kd where
 |fz|new|at(i:Nat)|ro
abbrev RV:=D×Kd
inductive Own(B H:Hp)(p:Addr):D->Prop
 |lst {xs:List V} {ds:List D}:H p=some (.lst xs)->aQ B xs ds->Own B H p (.list ds)
 |dct {kvs:List (Key×V)} {es:List (D×D)}:H p=some (.dK kvs)->bx B kvs es->Own B H p (.dict es)
theorem Own.there{B H:Hp}{p:Addr}{d:D}(h:Own B H p d):∃o,H p=some o:=by cases h with
 |lst h _=>exact⟨_,h⟩
 |dct h _=>exact⟨_,h⟩
theorem Own.jD{B H:Hp}{p:Addr}{d:D}(h:Own B H p d):H p≠none:=by
 obtain⟨o,e⟩:=h.there;rw[e];simp
theorem Own.mono{B H B' H':Hp}{p:Addr}{d:D}(h:Own B H p d)(e:aE B B')(k:∀o,H p=some o->H' p=some o):Own B' H' p d:=by cases h with
 |lst h r=>exact .lst (k _ h) (r.mono e)
 |dct h r=>exact .dct (k _ h) (r.mono e)
theorem Own.kB{B H:Hp}{p:Addr}{d:D}(h:Own B H p d)(xs:List V):H p≠some (.tup xs):=by cases h with
 |lst h _=>rw[h];simp
 |dct h _=>rw[h];simp
theorem Own.rep{B H:Hp}{p:Addr}{d:D}(h:Own B H p d)(e:aE B H):Rep H (.ref p) d:=by cases h with
 |lst h r=>exact .lst (.inl h) (r.mono e)
 |dct h r=>exact .dct (.inl h) (r.mono e)
theorem Own.frozen{B H B':Hp}{p:Addr}{d:D}(h:Own B H p d)(e:aE B B')(k:∀o,H p=some o->B' p=some o):Rep B' (.ref p) d:=by cases h with
 |lst h r=>exact .lst (.inl (k _ h)) (r.mono e)
 |dct h r=>exact .dct (.inl (k _ h)) (r.mono e)
structure Fr where
 B:Hp
 H:Hp
 io:List (Nat×Addr)
 Z:Addr->Prop
def pX(B H:Hp)(σ:St)(i:Nat):Sl->Prop
 | .no=>True
 | .ex=>True
 | .fz d=>∃v,σ[i]?=some (some v)/\Rep B v d
 | .own d=>∃p,σ[i]?=some (some (.ref p))/\B p=none/\Own B H p d
 | .io d=>∃p,σ[i]?=some (some (.ref p))/\B p=none/\Own B H p d
 | .ro d=>∃p,σ[i]?=some (some (.ref p))/\Own B H p d
structure Rel(F:Fr)(B H:Hp)(σ:St)(ρ:Rho):Prop where
 sub:aE B H
 sB:aE F.B B
 sH:∀q o,F.H q=some o->(∀x∈F.io,x.2≠q)->H q=some o
 nB:∀q,F.H q≠none->F.B q=none->B q=none
 len : ρ.length=σ.length
 slot:∀(i:Nat) (s:Sl),ρ[i]?=some s->pX B H σ i s
 dist:∀(i j:Nat) (s t:Sl) (p:Addr),ρ[i]?=some s->s.d3=true->ρ[j]?=some t->t.isRef=true->σ[i]?=some (some (.ref p))->σ[j]?=some (some (.ref p))->i=j
 jE:∀(i:Nat) (d:D) (p:Addr),ρ[i]?=some (.own d)->σ[i]?=some (some (.ref p))->F.H p=none
 fx:∀x∈F.io,σ[x.1]?=some (some (.ref x.2))/\∃d,ρ[x.1]?=some (.io d)
 ioN:∀(i:Nat) (d:D),ρ[i]?=some (.io d)->∃p,(i,p)∈F.io
 cO:∀q xs,H q=some (.tup xs)->B q=some (.tup xs)
 exv:∀i:Nat,ρ[i]?=some .ex->σ[i]?=some (some (.ref Zc.e))
 nz:∀q o u,H q=some (.frz o u)->F.Z q
structure Ext(σ:St)(ρ:Rho)(B H:Hp)(ρ':Rho)(B' H':Hp):Prop where
 sB:aE B B'
 keep:∀q o,H q=some o->(∀(i:Nat) (s:Sl),ρ[i]?=some s->s.d3=true->σ[i]?≠some (some (.ref q)))->H' q=some o/\(B q=none->B' q=none)
 own:∀(i:Nat) (s':Sl),ρ'[i]?=some s'->s'.d3=true->∃s,ρ[i]?=some s/\s.d3=true
 ref:∀(i:Nat) (s':Sl),ρ'[i]?=some s'->s'.isRef=true->∃s,ρ[i]?=some s/\s.isRef=true
 live:∀q,H' q=none->H q=none
theorem Ext.refl(σ:St)(ρ:Rho)(B H:Hp):Ext σ ρ B H ρ B H:=⟨aE.refl _,λ_ _ h _=>⟨h,id⟩,λ_ s h e=>⟨s,h,e⟩,λ_ s h e=>⟨s,h,e⟩,λ_ h=>h⟩
theorem Ext.trans{σ:St}{ρ ρ1 ρ2:Rho}{B H B1 H1 B2 H2:Hp}(a:Ext σ ρ B H ρ1 B1 H1)(b:Ext σ ρ1 B1 H1 ρ2 B2 H2):Ext σ ρ B H ρ2 B2 H2:=by
 refine⟨a.sB.trans b.sB,λq o h n=>?_,λi s h e=>?_,λi s h e=>?_,λq h=>a.live q (b.live q h)⟩
 ·obtain⟨h1,h2⟩:=a.keep q o h n
  obtain⟨h3,h4⟩:=b.keep q o h1 λi s e1 e2=>by
   obtain⟨s',e3,e4⟩:=a.own i s e1 e2;exact n i s' e3 e4
  exact⟨h3,λz=>h4 (h2 z)⟩
 ·obtain⟨s1,h1,e1⟩:=b.own i s h e
  exact a.own i s1 h1 e1
 ·obtain⟨s1,h1,e1⟩:=b.ref i s h e
  exact a.ref i s1 h1 e1
def slD:Sl->D
 | .own d=>d
 | .io d=>d
 | .ro d=>d
 | .fz d=>d
 | .no=>.none
 | .ex=>.none
def Val(F:Fr)(B H:Hp)(σ:St)(ρ:Rho)(v:V)(r:RV):Prop:=match r.2 with
 | .fz=>Rep B v r.1
 | .new=>∃p,v=.ref p/\B p=none/\F.H p=none/\Own B H p r.1/\∀(i:Nat) (s:Sl),ρ[i]?=some s->s.isRef=true->σ[i]?≠some (some (.ref p))
 | .at i=>∃s,ρ[i]?=some s/\s.d3=true/\slD s=r.1/\σ[i]?=some (some v)
 | .ro=>∃p,v=.ref p/\Own B H p r.1/\∀(i:Nat) (s:Sl),ρ[i]?=some s->s.d3=true->σ[i]?≠some (some (.ref p))
def View(B H:Hp)(v:V)(d:D):Prop:=Rep B v d\/∃p,v=.ref p/\Own B H p d
theorem View.rep{B H:Hp}{v:V}{d:D}(h:View B H v d)(e:aE B H):Rep H v d:=by
 rcases h with h|⟨p,rfl,h⟩
 ·exact h.mono e
 ·exact h.rep e
theorem View.list{B H:Hp}{v:V}{ds:List D}(h:View B H v (.list ds))(e:aE B H):∃p xs,v=.ref p/\Rd H p (.lst xs)/\aQ B xs ds:=by
 rcases h with h|⟨p,rfl,h⟩
 ·cases h with
  |lst h r=>exact⟨_,_,rfl,dy e h,r⟩
 ·cases h with
  |lst h r=>exact⟨_,_,rfl,.inl h,r⟩
theorem View.tuple{B H:Hp}{v:V}{ds:List D}(h:View B H v (.tuple ds))(e:aE B H):∃p xs,v=.ref p/\H p=some (.tup xs)/\aQ B xs ds:=by
 rcases h with h|⟨p,rfl,h⟩
 ·cases h with
  |tup h r=>exact⟨_,_,rfl,e _ _ h,r⟩
 ·cases h
theorem View.dict{B H:Hp}{v:V}{es:List (D×D)}(h:View B H v (.dict es))(e:aE B H):∃p kvs,v=.ref p/\Rd H p (.dK kvs)/\bx B kvs es:=by
 rcases h with h|⟨p,rfl,h⟩
 ·cases h with
  |dct h r=>exact⟨_,_,rfl,dy e h,r⟩
 ·cases h with
  |dct h r=>exact⟨_,_,rfl,.inl h,r⟩
theorem View.int{B H:Hp}{v:V}{i:Int}(h:View B H v (.int i)):v=.int i:=by
 rcases h with h|⟨p,rfl,h⟩
 ·cases h;rfl
 ·cases h
theorem View.bool{B H:Hp}{v:V}{b:Bool}(h:View B H v (.bool b)):v=.bl b:=by
 rcases h with h|⟨p,rfl,h⟩
 ·cases h;rfl
 ·cases h
theorem View.str{B H:Hp}{v:V}{x:Str}(h:View B H v (.str x)):v=.str x:=by
 rcases h with h|⟨p,rfl,h⟩
 ·cases h;rfl
 ·cases h
theorem View.none{B H:Hp}{v:V}(h:View B H v .none):v=.non:=by
 rcases h with h|⟨p,rfl,h⟩
 ·cases h;rfl
 ·cases h
section
variable{F:Fr}{B H B' H':Hp}{σ:St}{ρ ρ':Rho}{v:V}{r:RV}
theorem Rel.ownAt(R:Rel F B H σ ρ){i:Nat}{s:Sl}(h : ρ[i]?=some s)(e:s.d3=true):∃p,σ[i]?=some (some (.ref p))/\B p=Option.none/\Own B H p (slD s):=by
 have:=R.slot i s h;cases s with
 |own d=>exact this
 |io d=>exact this
 |_=>cases e
theorem Val.view(R:Rel F B H σ ρ)(h:Val F B H σ ρ v r):View B H v r.1:=by
 obtain⟨d,k⟩:=r;cases k with
 |fz=>exact .inl h
 |new=>obtain⟨p,rfl,_,_,o,_⟩:=h;exact .inr ⟨p,rfl,o⟩
 | «at» i=>
  obtain⟨s,h1,h2,h3,h4⟩:=h;obtain⟨p,e1,e2,e3⟩:=R.ownAt h1 h2;rw[h4]at e1;cases e1;exact .inr ⟨p,rfl,h3▸e3⟩
 |ro=>obtain⟨p,rfl,o,_⟩:=h;exact .inr ⟨p,rfl,o⟩
theorem Rel.sg(R:Rel F B H σ ρ){d:D}(h:Val F B H σ ρ v (d,.new)):∃B',Rel F B' H σ ρ/\Rep B' v d/\aE B B'/\∀q,v≠.ref q->B' q=B q:=by
 obtain⟨p,rfl,hB,hF,o,nn⟩:=h;obtain⟨ob,hp⟩:=o.there;have e:aE B (upd B p ob):=eV hB;have ne:∀(i:Nat) (s:Sl) (q:Addr),ρ[i]?=some s->s.isRef=true->σ[i]?=some (some (.ref q))->q≠p:=λi s q h1 h2 h3 z=>nn i s h1 h2 (z▸h3)
 refine⟨upd B p ob,⟨?_,R.sB.trans e,R.sH,?_,R.len,?_,R.dist,R.jE,R.fx,R.ioN,(λq xs h=>e _ _ (R.cO q xs h)),R.exv,R.nz⟩,?_,e,λq hq=>aq λz=>hq (z▸rfl)⟩
 ·intro q u hq
  by_cases z:q=p
  ·subst z;rw[ax]at hq;cases hq;exact hp
  ·rw[aq z]at hq;exact R.sub q u hq
 ·intro q h1 h2
  have z:q≠p:=λz=>h1 (z▸hF)
  rw[aq z];exact R.nB q h1 h2
 ·intro i s hs
  have q:=R.slot i s hs;cases s with
  |no=>trivial
  |ex=>trivial
  |fz d=>obtain⟨x,h1,h2⟩:=q;exact⟨x,h1,h2.mono e⟩
  |own d=>obtain⟨q,h1,h2,h3⟩:=q;exact⟨q,h1,by rw[aq (ne i _ q hs rfl h1)];exact h2,h3.mono e λ_ z=>z⟩
  |io d=>obtain⟨q,h1,h2,h3⟩:=q;exact⟨q,h1,by rw[aq (ne i _ q hs rfl h1)];exact h2,h3.mono e λ_ z=>z⟩
  |ro d=>obtain⟨q,h1,h3⟩:=q;exact⟨q,h1,h3.mono e λ_ z=>z⟩
 ·exact o.frozen e λu h=>by rw[ax,<-h,hp]
theorem get_set{i j:Nat}{s t:Sl}(h:(ρ.set i s)[j]?=some t):(j=i/\t=s/\i<ρ.length)\/(j≠i/\ρ[j]?=some t):=by
 by_cases z:j=i
 ·subst z
  have hl:j<ρ.length:=by
   have:=zac h;obtain⟨hh,_⟩:=this;simpa using hh
  rw[zav hl]at h;exact .inl ⟨rfl,(zaQ h).symm,hl⟩
 ·rw[zaA (λe=>z e.symm)]at h
  exact .inr ⟨z,h⟩
theorem tQ{ρ:Rho}{i j:Nat}{s:Sl}(hs:s≠.ex)(h:(ρ.set i s)[j]?=some .ex) : ρ[j]?=some .ex/\j≠i:=by
 rcases get_set h with⟨_,z,_⟩|⟨hj,h⟩
 ·exact absurd z.symm hs
 ·exact⟨h,hj⟩
theorem Rel.BV(R:Rel F B H σ ρ){i:Nat}{d:D}(hi : ρ[i]?=some (.own d))(hv : σ[i]?=some (some v)):∃B',Rel F B' H σ (ρ.set i (.fz d))/\Rep B' v d/\Ext σ ρ B H (ρ.set i (.fz d)) B' H:=by
 obtain⟨p,h1,hB,o⟩:=R.slot i _ hi;rw[hv]at h1;cases h1;have hF:=R.jE i d p hi hv;obtain⟨ob,hp⟩:=o.there;have e:aE B (upd B p ob):=eV hB;have rp:Rep (upd B p ob) (.ref p) d:=o.frozen e λu h=>by rw[ax,<-h,hp]
 have ne:∀(j:Nat) (s:Sl) (q:Addr),j≠i->ρ[j]?=some s->s.isRef=true->σ[j]?=some (some (.ref q))->q≠p:=λj s q hj h1 h2 h3 z=>hj (R.dist i j _ s p hi rfl h1 h2 hv (z▸h3)).symm
 refine⟨upd B p ob,⟨?_,R.sB.trans e,R.sH,?_,by rw[zaM];exact R.len,?_,?_,?_,?_,?_,(λq xs h=>e _ _ (R.cO q xs h)),(λj h=>R.exv j (tQ (by simp) h).1),R.nz⟩,rp,⟨e,?_,?_,?_,λ_ h=>h⟩⟩
 ·intro q u hq
  by_cases z:q=p
  ·subst z;rw[ax]at hq;cases hq;exact hp
  ·rw[aq z]at hq;exact R.sub q u hq
 ·intro q h1 h2
  have z:q≠p:=λz=>h1 (z▸hF)
  rw[aq z];exact R.nB q h1 h2
 ·intro j s hs
  rcases get_set hs with⟨rfl,rfl,_⟩|⟨hj,hs⟩
  ·exact⟨_,hv,rp⟩
  ·have q:=R.slot j s hs
   cases s with
   |no=>trivial
   |ex=>trivial
   |fz d=>obtain⟨x,h1,h2⟩:=q;exact⟨x,h1,h2.mono e⟩
   |own d=>obtain⟨q,h1,h2,h3⟩:=q;exact⟨q,h1,by rw[aq (ne j _ q hj hs rfl h1)];exact h2,h3.mono e λ_ z=>z⟩
   |io d=>obtain⟨q,h1,h2,h3⟩:=q;exact⟨q,h1,by rw[aq (ne j _ q hj hs rfl h1)];exact h2,h3.mono e λ_ z=>z⟩
   |ro d=>obtain⟨q,h1,h3⟩:=q;exact⟨q,h1,h3.mono e λ_ z=>z⟩
 ·intro a b s t q h1 h2 h3 h4 h5 h6
  rcases get_set h1 with⟨rfl,rfl,_⟩|⟨ha,h1⟩
  ·cases h2
  ·rcases get_set h3 with⟨rfl,rfl,_⟩|⟨hb,h3⟩
   ·cases h4
   ·exact R.dist a b s t q h1 h2 h3 h4 h5 h6
 ·intro j c q h1 h2
  rcases get_set h1 with⟨rfl,h,_⟩|⟨_,h1⟩
  ·cases h
  ·exact R.jE j c q h1 h2
 ·intro x hx
  obtain⟨h1,c,h2⟩:=R.fx x hx;refine⟨h1,c,?_⟩
  by_cases z:i=x.1
  ·subst z;rw[hi]at h2;cases h2
  ·rw[zaA z];exact h2
 ·intro j c h1
  rcases get_set h1 with⟨rfl,h,_⟩|⟨_,h1⟩
  ·cases h
  ·exact R.ioN j c h1
 ·intro q u hq hn
  refine⟨hq,λz=>?_⟩
  rw[aq (show q≠p from λy=>hn i _ hi rfl (by rw[y];exact hv))];exact z
 ·intro j s h1 h2
  rcases get_set h1 with⟨rfl,rfl,_⟩|⟨_,h1⟩
  ·cases h2
  ·exact⟨s,h1,h2⟩
 ·intro j s h1 h2
  rcases get_set h1 with⟨rfl,rfl,_⟩|⟨_,h1⟩
  ·cases h2
  ·exact⟨s,h1,h2⟩
theorem Rel.free(R:Rel F B H σ ρ){p:Addr}(hp:H p=none):B p=none/\F.H p=none/\∀(i:Nat) (s:Sl),ρ[i]?=some s->s.isRef=true->σ[i]?≠some (some (.ref p)):=by
 have hB:B p=none:=R.sub.free hp;have nn:∀(i:Nat) (s:Sl),ρ[i]?=some s->s.isRef=true->σ[i]?≠some (some (.ref p)):=λi s h1 h2 h3=>by
  have q:=R.slot i s h1;cases s with
  |own d=>obtain⟨q,e1,_,e3⟩:=q;rw[h3]at e1;cases e1;exact e3.jD hp
  |io d=>obtain⟨q,e1,_,e3⟩:=q;rw[h3]at e1;cases e1;exact e3.jD hp
  |ro d=>obtain⟨q,e1,e3⟩:=q;rw[h3]at e1;cases e1;exact e3.jD hp
  |no=>cases h2
  |ex=>cases h2
  |fz d=>cases h2
 refine⟨hB,?_,nn⟩;cases q:F.H p with
 |none=>rfl
 |some u=>
  by_cases z:∃x∈F.io,x.2=p
  ·obtain⟨x,hx,rfl⟩:=z
   obtain⟨h1,d,h2⟩:=R.fx x hx;exact absurd h1 (nn _ _ h2 rfl)
  ·have:=R.sH p u q λx hx y=>z ⟨x,hx,y⟩
   rw[hp]at this;cases this
theorem Rel.grow(R:Rel F B H σ ρ)(eB:aE B B')(eH:aE H H')(sub:aE B' H')(nb:∀q,H q≠none->B q=none->B' q=none)(tB:∀q xs,H' q=some (.tup xs)->B' q=some (.tup xs))(nf:∀q o u,H' q=some (.frz o u)->H q≠none):Rel F B' H' σ ρ:=by
 have lv:∀q,F.H q≠none->H q≠none:=λq h z=>h (R.free z).2.1
 refine⟨sub,R.sB.trans eB,λq u h1 h2=>eH _ _ (R.sH q u h1 h2),λq h1 h2=>nb q (lv q h1) (R.nB q h1 h2),R.len,λi s hs=>?_,R.dist,R.jE,R.fx,R.ioN,tB,R.exv,λq o u h=>by
  cases y:H q with
  |none=>exact absurd y (nf q o u h)
  |some x=>
   have:=eH q x y;rw[h]at this;cases this;exact R.nz q o u y⟩
 have q:=R.slot i s hs;cases s with
 |no=>trivial
 |ex=>trivial
 |fz d=>obtain⟨x,h1,h2⟩:=q;exact⟨x,h1,h2.mono eB⟩
 |own d=>obtain⟨q,h1,h2,h3⟩:=q;exact⟨q,h1,nb q h3.jD h2,h3.mono eB λ_ z=>eH _ _ z⟩
 |io d=>obtain⟨q,h1,h2,h3⟩:=q;exact⟨q,h1,nb q h3.jD h2,h3.mono eB λ_ z=>eH _ _ z⟩
 |ro d=>obtain⟨q,h1,h3⟩:=q;exact⟨q,h1,h3.mono eB λ_ z=>eH _ _ z⟩
theorem Ext.grow(eB:aE B B')(eH:aE H H')(nb:∀q,H q≠none->B q=none->B' q=none):Ext σ ρ B H ρ B' H' :=
 ⟨eB,λq u h _=>⟨eH _ _ h,λz=>nb q (by rw[h];simp) z⟩,λ_ s h z=>⟨s,h,z⟩,λ_ s h z=>⟨s,h,z⟩,λq h=>eH.free h⟩
theorem Rel.lay(R:Rel F B H σ ρ){p:Addr}{o:HO}(hp:H p=none)(no:(∀xs,o≠.tup xs)/\∀a u,o≠.frz a u):Rel F B (upd H p o) σ ρ/\Ext σ ρ B H ρ B (upd H p o):=by
 have e:aE H (upd H p o):=eV hp;refine⟨R.grow (aE.refl _) e (R.sub.trans e) (λ_ _ z=>z) (λq xs h=>?_) (λq a u h y=>?_),Ext.grow (aE.refl _) e λ_ _ z=>z⟩
 ·by_cases z:q=p
  ·subst z;rw[ax]at h;cases h;exact absurd rfl (no.1 xs)
  ·rw[aq z]at h;exact R.cO q xs h
 ·by_cases z:q=p
  ·subst z;rw[ax]at h;cases h;exact no.2 _ _ rfl
  ·rw[aq z,y]at h;cases h
theorem Rel.rq(R:Rel F B H σ ρ){p:Addr}{xs:List V}(hp:H p=none):Rel F (upd B p (.tup xs)) (upd H p (.tup xs)) σ ρ/\Ext σ ρ B H ρ (upd B p (.tup xs)) (upd H p (.tup xs))/\aE B (upd B p (.tup xs)):=by
 have hB:=(R.free hp).1;have eH:aE H (upd H p (.tup xs)):=eV hp;have eB:aE B (upd B p (.tup xs)):=eV hB;have nb:∀q,H q≠none->B q=none->upd B p (.tup xs) q=none:=λq h z=>by rw[aq (show q≠p from λy=>h (by rw[y];exact hp))];exact z
 refine⟨R.grow eB eH (λq u h=>?_) nb (λq ys h=>?_) (λq a u h y=>?_),Ext.grow eB eH nb,eB⟩
 ·by_cases z:q=p
  ·subst z;rw[ax]at h⊢;exact h
  ·rw[aq z]at h⊢;exact R.sub q u h
 ·by_cases z:q=p
  ·subst z;rw[ax]at h⊢;exact h
  ·rw[aq z]at h⊢;exact R.cO q ys h
 ·by_cases z:q=p
  ·subst z;rw[ax]at h;cases h
  ·rw[aq z,y]at h;cases h
end
end Mir
namespace Mir
open PySem L2
variable [Zc]
abbrev PM:=Rho->Option (RV×Rho)
def ME(t:TE)(m:PM):Prop :=
 ∀(F:Fr) (B H:Hp) (σ:St) (ρ:Rho) (r:RV) (ρ':Rho) (Q:VK),Rel F B H σ ρ->m ρ=some (r,ρ')->
  (∀v B' H',Ext σ ρ B H ρ' B' H'->Rel F B' H' σ ρ'->Val F B' H' σ ρ' v r->(∀p,r.2=.new->v=.ref p->H p=none)->Q v H')->t σ H Q
def MT(t:TT)(m:Rho->Option (Bool×Rho)):Prop :=
 ∀(F:Fr) (B H:Hp) (σ:St) (ρ:Rho) (b:Bool) (ρ':Rho) (Q:Bool->Hp->Prop),Rel F B H σ ρ->m ρ=some (b,ρ')->
  (∀B' H',Ext σ ρ B H ρ' B' H'->Rel F B' H' σ ρ'->Q b H')->t σ H Q
def Vl(F:Fr)(B H:Hp)(σ:St)(ρ:Rho):List V->List RV->Prop
 | [],[]=>True
 |v::vs,r::rs=>(Val F B H σ ρ v r/\r.2≠.new)/\Vl F B H σ ρ vs rs
 |_,_=>False
def MA(t:TA)(m:Rho->Option (List RV×Rho)):Prop :=
 ∀(F:Fr) (B H:Hp) (σ:St) (ρ:Rho) (rs:List RV) (ρ':Rho) (Q:List V->Hp->Prop),Rel F B H σ ρ->m ρ=some (rs,ρ')->
  (∀vs B' H',Ext σ ρ B H ρ' B' H'->Rel F B' H' σ ρ'->Vl F B' H' σ ρ' vs rs->Q vs H')->t σ H Q
def sv(m:PM):PM:=fun ρ=>match m ρ with
 |some ((d,.new),ρ')=>some ((d,.fz),ρ')
 |x=>x
theorem lC{m:PM}{ρ ρ':Rho}{r:RV}(h:sv m ρ=some (r,ρ')):r.2≠.new:=by
 unfold sv at h;split at h
 ·cases h;simp
 ·rename_i hx
  intro e;obtain⟨d,k⟩:=r;cases(show k=.new from e);exact hx d ρ' h
theorem ME.sv{t:TE}{m:PM}(h:ME t m):ME t (sv m):=by
 intro F B H σ ρ r ρ' Q R e q;unfold Mir.sv at e;split at e
 ·rename_i d ρ1 e1
  cases e;refine h F B H σ ρ _ _ Q R e1 λv B' H' E R' V' N=>?_
  obtain⟨B2,R2,rp,s2,k2⟩:=R'.sg V';refine q v B2 H' ⟨E.sB.trans s2,λq o h1 h2=>?_,E.own,E.ref,E.live⟩ R2 rp (λ_ z=>by cases z)
  obtain⟨h3,h4⟩:=E.keep q o h1 h2;refine⟨h3,λz=>?_⟩
  rw[k2 q λy=>by
   have:=N q rfl y;rw[h1]at this;cases this]
  exact h4 z
 ·exact h F B H σ ρ r ρ' Q R e q
def mj(ρ:Rho)(r:RV):Option RV:=match r.2 with
 | .at i=>match ρ[i]? with
  |some (.own d)=>some (d,.at i)
  |some (.io d)=>some (d,.at i)
  |some (.fz d)=>some (d,.fz)
  |_=>none
 |_=>some r
section
variable{F:Fr}{B H B' H':Hp}{σ:St}{ρ ρ':Rho}{v:V}{r r':RV}
theorem Val.next(E:Ext σ ρ B H ρ' B' H')(R':Rel F B' H' σ ρ')(h:Val F B H σ ρ v r)(nn:r.2≠.new)(e:mj ρ' r=some r'):Val F B' H' σ ρ' v r'/\r'.2≠.new:=by
 obtain⟨d,k⟩:=r;cases k with
 |fz=>cases e;exact⟨Rep.mono E.sB h,nn⟩
 |new=>exact absurd rfl nn
 | «at» i=>
  obtain⟨s,h1,h2,h3,h4⟩:=h;have e':(match ρ'[i]? with
   |some (.own d)=>some (d,Kd.at i)
   |some (.io d)=>some (d,Kd.at i)
   |some (.fz d)=>some (d,Kd.fz)
   |_=>none)=some r':=e
  cases q : ρ'[i]? with
  |none=>rw[q]at e';cases e'
  |some s'=>
   rw[q]at e';cases s' with
   |own c=>cases e';exact⟨⟨_,q,rfl,rfl,h4⟩,by simp⟩
   |io c=>cases e';exact⟨⟨_,q,rfl,rfl,h4⟩,by simp⟩
   |fz c=>
    cases e';obtain⟨x,y1,y2⟩:=R'.slot i _ q;rw[h4]at y1;cases y1
    exact⟨y2,by simp⟩
   |no=>cases e'
   |ex=>cases e'
   |ro c=>cases e'
 |ro=>
  cases e;obtain⟨p,rfl,o,n⟩:=h;obtain⟨ob,hp⟩:=o.there;refine⟨⟨p,rfl,o.mono E.sB λu hu=>(E.keep p u hu n).1,λi s h1 h2=>?_⟩,nn⟩
  obtain⟨s0,h3,h4⟩:=E.own i s h1 h2;exact n i s0 h3 h4
end
def pY(B H:Hp)(res:D×Bool)(k:VK->Prop):Prop:=match res with
 |(d,false)=>∃v,Rep B v d/\∀Q:VK,Q v H->k Q
 |(.list ds,true)=>∃vs,aQ B vs ds/\∀Q:VK,(∀p,H p=none->Q (.ref p) (upd H p (.lst vs)))->k Q
 |(.tuple ds,true)=>∃vs,aQ B vs ds/\∀Q:VK,(∀p,H p=none->Q (.ref p) (upd H p (.tup vs)))->k Q
 |(.dict es,true)=>∃kvs,bx B kvs es/\∀Q:VK,(∀p,H p=none->Q (.ref p) (upd H p (.dK kvs)))->k Q
 |_=>False
def kn:D×Bool->RV
 |(d,false)=>(d,.fz)
 |(.tuple ds,true)=>(.tuple ds,.fz)
 |(d,true)=>(d,.new)
theorem ic{F:Fr}{B H:Hp}{σ:St}{ρ:Rho}{res:D×Bool}{k:VK->Prop}{Q:VK}(R:Rel F B H σ ρ)(h:pY B H res k)
  (q:∀v B' H',Ext σ ρ B H ρ B' H'->Rel F B' H' σ ρ->Val F B' H' σ ρ v (kn res)->(∀p,(kn res).2=.new->v=.ref p->H p=none)->Q v H'):k Q:=by
 obtain⟨d,b⟩:=res;cases b with
 |false=>
  obtain⟨v,rp,hk⟩:=h;exact hk Q (q v B H (Ext.refl _ _ _ _) R rp λp z=>by cases z)
 |true=>
  cases d with
  |list ds=>
   obtain⟨vs,rp,hk⟩:=h;refine hk Q λp hp=>?_
   obtain⟨R',E⟩:=R.lay (o:=.lst vs) hp ⟨(λ_ z=>by cases z),λ_ _ z=>by cases z⟩
   obtain⟨hB,hF,nn⟩:=R.free hp;exact q _ B _ E R' ⟨p,rfl,hB,hF,.lst ax rp,nn⟩ λq _ z=>by cases z;exact hp
  |dict es=>
   obtain⟨kvs,rp,hk⟩:=h;refine hk Q λp hp=>?_
   obtain⟨R',E⟩:=R.lay (o:=.dK kvs) hp ⟨(λ_ z=>by cases z),λ_ _ z=>by cases z⟩
   obtain⟨hB,hF,nn⟩:=R.free hp;exact q _ B _ E R' ⟨p,rfl,hB,hF,.dct ax rp,nn⟩ λq _ z=>by cases z;exact hp
  |tuple ds=>
   obtain⟨vs,rp,hk⟩:=h;refine hk Q λp hp=>?_
   obtain⟨R',E,e⟩:=R.rq (xs:=vs) hp;exact q _ _ _ E R' (show Rep _ _ _ from .tup ax (rp.mono e)) λq z=>by cases z
  |none=>exact h.elim
  |bool _=>exact h.elim
  |int _=>exact h.elim
  |str _=>exact h.elim
def mC(d:D):PM:=fun ρ=>some ((d,.fz),ρ)
theorem En{v:V}{d:D}(h:∀B,Rep B v d):ME (tC v) (mC d):=by
 intro F B H σ ρ r ρ' Q R e q;cases e;exact q v B H (Ext.refl _ _ _ _) R (h B) λp z=>by cases z
theorem az{i:Int}:ME (tC (.int i)) (mC (.int i)):=En λ_=>.int i
theorem iX{b:Bool}:ME (tC (.bl b)) (mC (.bool b)):=En λ_=>.bl b
theorem jF:ME (tC .non) (mC .none):=En λ_=>.non
theorem jc{x:Str}:ME (tC (.str x)) (mC (.str x)):=En λ_=>.str x
def ah(i:Nat):PM:=fun ρ=>match ρ[i]? with
 |some (.fz d)=>some ((d,.fz),ρ)
 |some (.own d)=>some ((d,.at i),ρ)
 |some (.io d)=>some ((d,.at i),ρ)
 |some (.ro d)=>some ((d,.ro),ρ)
 |_=>none
theorem af{i:Nat}:ME (my i) (ah i):=by
 intro F B H σ ρ r ρ' Q R e q;unfold ah at e;cases hs : ρ[i]? with
 |none=>rw[hs]at e;cases e
 |some s=>
  rw[hs]at e;have sl:=R.slot i s hs;cases s with
  |no=>cases e
  |ex=>cases e
  |fz d=>
   cases e;obtain⟨v,h1,h2⟩:=sl;exact⟨v,h1,q v B H (Ext.refl _ _ _ _) R h2 λp z=>by cases z⟩
  |own d=>
   cases e;obtain⟨p,h1,h2,h3⟩:=sl;exact⟨_,h1,q _ B H (Ext.refl _ _ _ _) R ⟨_,hs,rfl,rfl,h1⟩ λp z=>by cases z⟩
  |io d=>
   cases e;obtain⟨p,h1,h2,h3⟩:=sl;exact⟨_,h1,q _ B H (Ext.refl _ _ _ _) R ⟨_,hs,rfl,rfl,h1⟩ λp z=>by cases z⟩
  |ro d=>
   cases e;obtain⟨p,h1,h3⟩:=sl;refine⟨_,h1,q _ B H (Ext.refl _ _ _ _) R ⟨p,rfl,h3,λj s h4 h5 h6=>?_⟩ λp z=>by cases z⟩
   have:=R.dist j i s _ p h4 h5 hs rfl h6 h1;subst this;rw[hs]at h4;cases h4;cases h5
def OpJ(r:R2)(g:D->D->Option (D×Bool)):Prop :=
 ∀(B H:Hp) (x y:V) (c d:D) (res:D×Bool),aE B H->View B H x c->View B H y d->g c d=some res->pY B H res λQ=>r x y H Q
def mOp(g:D->D->Option (D×Bool))(a b:PM):PM:=fun ρ=>(sv a ρ).bind λx=>(sv b x.2).bind λy=>(mj y.2 x.1).bind λr=>(g r.1 y.1.1).map λres=>(kn res,y.2)
theorem ay{r:R2}{g:D->D->Option (D×Bool)}{ta tb:TE}{a b:PM}(J:OpJ r g)(ha:ME ta a)(hb:ME tb b):ME (tOp r ta tb) (mOp g a b):=by
 intro F B H σ ρ r0 ρ' Q R e q;obtain⟨x,e1,e⟩:=zaa e;obtain⟨y,e2,e⟩:=zaa e;obtain⟨r',e3,e⟩:=zaa e;obtain⟨res,e4,e⟩:=zab e;cases e;refine ha.sv F B H σ ρ x.1 x.2 _ R e1 λv B1 H1 E1 R1 V1 N1=>?_
 refine hb.sv F B1 H1 σ x.2 y.1 y.2 _ R1 e2 λu B2 H2 E2 R2 V2 N2=>?_
 obtain⟨V3,n3⟩:=V1.next E2 R2 (lC e1) e3;refine ic R2 (J B2 H2 v u r'.1 y.1.1 res R2.sub (V3.view R2) (V2.view R2) e4) λw B3 H3 E3 R3 V4 N4=>?_
 refine q w B3 H3 (E1.trans (E2.trans E3)) R3 V4 λp z1 z2=>?_
 exact E1.live p (E2.live p (N4 p z1 z2))
end Mir
namespace Mir
open PySem L2
variable [Zc]
theorem Ext.fresh{σ:St}{ρ ρ':Rho}{B H B' H':Hp}(E:Ext σ ρ B H ρ' B' H'){p:Addr}(h:H' p=none):H p=none:=E.live p h
def mUn(g:D->Option (D×Bool))(a:PM):PM:=fun ρ=>(sv a ρ).bind λx=>(g x.1.1).map λres=>(kn res,x.2)
def asB:RV×Rho->Option (Bool×Rho)
 |((.bool b,_),ρ)=>some (b,ρ)
 |_=>none
theorem HM{x:RV×Rho}{b:Bool}{ρ:Rho}(h:asB x=some (b,ρ)):x.1.1=.bool b/\x.2=ρ:=by
 obtain⟨⟨d,k⟩,ρ0⟩:=x;cases d with
 |bool c=>cases h;exact⟨rfl,rfl⟩
 |_=>cases h
def aN(a:PM):Rho->Option (Bool×Rho):=fun ρ=>(sv a ρ).bind asB
theorem bh{ta:TE}{a:PM}(ha:ME ta a):MT (BB ta) (aN a):=by
 intro F B H σ ρ b ρ' Q R e q;obtain⟨x,e1,e⟩:=zaa e;obtain⟨h1,h2⟩:=HM e;refine ha.sv F B H σ ρ x.1 x.2 _ R e1 λv B1 H1 E1 R1 V1 N1=>?_
 have:=V1.view R1;rw[h1]at this;rw[h2]at E1 R1;exact⟨b,this.bool,q B1 H1 E1 R1⟩
theorem fw{ta:TE}{a:PM}(ha:ME ta a):MT (tB ta) (aN a):=bh ha
def nR(a b:Rho->Option (Bool×Rho)):Rho->Option (Bool×Rho):=fun ρ=>(a ρ).bind λx=>if x.1=true then b x.2 else some (false,x.2)
def mOr(a b:Rho->Option (Bool×Rho)):Rho->Option (Bool×Rho):=fun ρ=>(a ρ).bind λx=>if x.1=true then some (true,x.2)else b x.2
def gG(a:Rho->Option (Bool×Rho)):Rho->Option (Bool×Rho):=fun ρ=>(a ρ).map λx=>(!x.1,x.2)
section
variable{ta tb:TT}{a b:Rho->Option (Bool×Rho)}
theorem BW(ha:MT ta a)(hb:MT tb b):MT (Jc ta tb) (nR a b):=by
 intro F B H σ ρ c ρ' Q R e q;obtain⟨x,e1,e⟩:=zaa e;refine ha F B H σ ρ x.1 x.2 _ R e1 λB1 H1 E1 R1=>?_
 by_cases h:x.1=true
 ·rw[if_pos h]at e⊢
  exact hb F B1 H1 σ x.2 c ρ' Q R1 e λB2 H2 E2 R2=>q B2 H2 (E1.trans E2) R2
 ·rw[if_neg h]at e⊢
  cases e;exact q B1 H1 E1 R1
theorem fG(ha:MT ta a)(hb:MT tb b):MT (tOr ta tb) (mOr a b):=by
 intro F B H σ ρ c ρ' Q R e q;obtain⟨x,e1,e⟩:=zaa e;refine ha F B H σ ρ x.1 x.2 _ R e1 λB1 H1 E1 R1=>?_
 by_cases h:x.1=true
 ·rw[if_pos h]at e⊢
  cases e;exact q B1 H1 E1 R1
 ·rw[if_neg h]at e⊢
  exact hb F B1 H1 σ x.2 c ρ' Q R1 e λB2 H2 E2 R2=>q B2 H2 (E1.trans E2) R2
theorem fe(ha:MT ta a):MT (Ha ta) (gG a):=by
 intro F B H σ ρ c ρ' Q R e q;obtain⟨x,e1,e⟩:=zab e;cases e;exact ha F B H σ ρ x.1 x.2 _ R e1 λB1 H1 E1 R1=>q B1 H1 E1 R1
end
section
variable{ta tb:TE}{a b:PM}
def vS(a b:PM):PM:=fun ρ=>(aN a ρ).bind λx=>if x.1=true then b x.2 else some ((.bool false,.fz),x.2)
def Kx(a b:PM):PM:=fun ρ=>(aN a ρ).bind λx=>if x.1=true then some ((.bool true,.fz),x.2)else b x.2
def Jr(a:PM):PM:=fun ρ=>(aN a ρ).map λx=>((.bool !x.1,.fz),x.2)
theorem Eo(ha:ME ta a)(hb:ME tb b):ME (Gi ta tb) (vS a b):=by
 intro F B H σ ρ c ρ' Q R e q;obtain⟨x,e1,e⟩:=zaa e;refine bh ha F B H σ ρ x.1 x.2 (λc H1=>if c=true then tb σ H1 Q else Q (.bl false) H1) R e1 λB1 H1 E1 R1=>?_
 by_cases h:x.1=true
 ·rw[if_pos h]at e⊢
  exact hb F B1 H1 σ x.2 c ρ' Q R1 e λv B2 H2 E2 R2 V2 N2=>q v B2 H2 (E1.trans E2) R2 V2 λp z1 z2=>E1.live p (N2 p z1 z2)
 ·rw[if_neg h]at e⊢
  cases e;exact q _ B1 H1 E1 R1 (.bl false) λp z=>by cases z
def Ky(c:Rho->Option (Bool×Rho))(a b:PM):PM:=fun ρ=>(c ρ).bind λx=>if x.1=true then a x.2 else b x.2
end
def aF:Rho->Option (List RV×Rho):=fun ρ=>some ([],ρ)
def ak(a:PM)(m:Rho->Option (List RV×Rho)):Rho->Option (List RV×Rho):=fun ρ=>(sv a ρ).bind λx=>(m x.2).bind λy=>(mj y.2 x.1).map λr=>(r::y.1,y.2)
theorem aD:MA tw aF:=by
 intro F B H σ ρ rs ρ' Q R e q;cases e;exact q [] B H (Ext.refl _ _ _ _) R trivial
theorem ai{ta:TE}{tr:TA}{a:PM}{m:Rho->Option (List RV×Rho)}(ha:ME ta a)(hr:MA tr m):MA (hI ta tr) (ak a m):=by
 intro F B H σ ρ rs ρ' Q R e q;obtain⟨x,e1,e⟩:=zaa e;obtain⟨y,e2,e⟩:=zaa e;obtain⟨r,e3,e⟩:=zab e;cases e;refine ha.sv F B H σ ρ x.1 x.2 _ R e1 λv B1 H1 E1 R1 V1 N1=>?_
 refine hr F B1 H1 σ x.2 y.1 y.2 _ R1 e2 λvs B2 H2 E2 R2 V2=>?_
 exact q (v::vs) B2 H2 (E1.trans E2) R2 ⟨V1.next E2 R2 (lC e1) e3,V2⟩
def Ap(B:Hp)(σ:St)(v:V)(r:RV):Prop:=match r.2 with
 | .fz=>Rep B v r.1
 | .at i=>σ[i]?=some (some v)
 |_=>True
def WVl(B:Hp)(σ:St):List V->List RV->Prop
 | [],[]=>True
 |v::vs,r::rs=>Ap B σ v r/\WVl B σ vs rs
 |_,_=>False
theorem Vl.weak{F:Fr}{B H:Hp}{σ:St}{ρ:Rho}:∀{vs:List V} {rs:List RV},Vl F B H σ ρ vs rs->WVl B σ vs rs
 | [],[],_=>trivial
 |v::vs,r::rs,⟨⟨h,n⟩,t⟩=>by
  refine⟨?_,Vl.weak t⟩;obtain⟨d,k⟩:=r;cases k with
  |fz=>exact h
  | «at» i=>obtain⟨_,_,_,_,e⟩:=h;exact e
  |new=>trivial
  |ro=>trivial
theorem WVl.mono{B B':Hp}{σ:St}(e:aE B B'):∀{vs:List V} {rs:List RV},WVl B σ vs rs->WVl B' σ vs rs
 | [],[],_=>trivial
 |v::vs,r::rs,⟨h,t⟩=>by
  refine⟨?_,WVl.mono e t⟩;obtain⟨d,k⟩:=r;cases k with
  |fz=>exact Rep.mono e h
  | «at» i=>exact h
  |new=>trivial
  |ro=>trivial
def kC(r:RV)(ρ:Rho):Option (D×Rho):=match r.2 with
 | .fz=>some (r.1,ρ)
 | .at i=>match ρ[i]? with
  |some (.own d)=>some (d,ρ.set i (.fz d))
  |some (.fz d)=>some (d,ρ)
  |_=>none
 |_=>none
def hU:List RV->Rho->Option (List D×Rho)
 | [],ρ=>some ([],ρ)
 |r::rs,ρ=>(kC r ρ).bind λx=>(hU rs x.2).map λy=>(x.1::y.1,y.2)
section
variable{F:Fr}{B H:Hp}{σ:St}{ρ ρ':Rho}
theorem Rel.frz(R:Rel F B H σ ρ){v:V}{r:RV}{d:D}(w:Ap B σ v r)(e:kC r ρ=some (d,ρ')):∃B',Rel F B' H σ ρ'/\Rep B' v d/\Ext σ ρ B H ρ' B' H:=by
 obtain⟨c,k⟩:=r;cases k with
 |fz=>cases e;exact⟨B,R,w,Ext.refl _ _ _ _⟩
 |new=>cases e
 |ro=>cases e
 | «at» i=>
  have e':(match ρ[i]? with
   |some (.own d)=>some (d,ρ.set i (.fz d))
   |some (.fz d)=>some (d,ρ)
   |_=>none)=some (d,ρ'):=e
  cases q : ρ[i]? with
  |none=>rw[q]at e';cases e'
  |some s=>
   rw[q]at e';cases s with
   |own c=>cases e';exact R.BV q w
   |fz c=>
    cases e';obtain⟨x,h1,h2⟩:=R.slot i _ q;have w' : σ[i]?=some (some v):=w;rw[w']at h1;cases h1
    exact⟨B,R,h2,Ext.refl _ _ _ _⟩
   |no=>cases e'
   |ex=>cases e'
   |io c=>cases e'
   |ro c=>cases e'
theorem Rel.vT:∀{rs:List RV} {vs:List V} {ds:List D} {B:Hp} {ρ ρ':Rho},Rel F B H σ ρ->WVl B σ vs rs->hU rs ρ=some (ds,ρ')->∃B',Rel F B' H σ ρ'/\aQ B' vs ds/\Ext σ ρ B H ρ' B' H
 | [],[],ds,B,ρ,ρ',R,_,e=>by cases e;exact⟨B,R,.nil,Ext.refl _ _ _ _⟩
 |r::rs,v::vs,ds,B,ρ,ρ',R,⟨w,ws⟩,e=>by
  obtain⟨x,e1,e⟩:=zaa e;obtain⟨y,e2,e⟩:=zab e;cases e;obtain⟨B1,R1,rp,E1⟩:=R.frz w e1;obtain⟨B2,R2,rps,E2⟩:=Rel.vT R1 (ws.mono E1.sB) e2;exact⟨B2,R2,.cons (rp.mono E2.sB) rps,E1.trans E2⟩
 | [],_::_,_,_,_,_,_,h,_=>h.elim
 |_::_,[],_,_,_,_,_,h,_=>h.elim
end
def f9(m:Rho->Option (List RV×Rho)):PM:=fun ρ=>(m ρ).bind λx=>(hU x.1 x.2).bind λy=>cIf (y.1.length<=sizeLine) (some ((.tuple y.1,.fz),y.2)) none
def iJ(m:Rho->Option (List RV×Rho)):PM:=fun ρ=>(m ρ).bind λx=>(hU x.1 x.2).bind λy=>cIf (y.1.length<=sizeLine) (some ((.list y.1,.new),y.2)) none
theorem dA{t:TA}{m:Rho->Option (List RV×Rho)}(h:MA t m):ME (D9 t) (f9 m):=by
 intro F B H σ ρ r ρ' Q R e q;obtain⟨x,e1,e⟩:=zaa e;obtain⟨y,e2,e⟩:=zaa e;obtain⟨hz,e⟩:=cU e
 ·cases e
  refine h F B H σ ρ x.1 x.2 _ R e1 λvs B1 H1 E1 R1 V1=>?_
  obtain⟨B2,R2,rp,E2⟩:=Rel.vT R1 V1.weak e2;refine⟨by rw[rp.length];exact hz,λp hp=>?_⟩
  have:=ic (res:=(.tuple y.1,true)) (k:=λQ=>∀p,H1 p=none->Q (.ref p) (upd H1 p (.tup vs))) (Q:=Q) R2 ⟨vs,rp,λQ h=>h⟩ λv B' H' E R' V' N=>q v B' H' (E1.trans (E2.trans E)) R' V' λp z=>by cases z
  exact this p hp
theorem jG{t:TA}{m:Rho->Option (List RV×Rho)}(h:MA t m):ME (Ho t) (iJ m):=by
 intro F B H σ ρ r ρ' Q R e q;obtain⟨x,e1,e⟩:=zaa e;obtain⟨y,e2,e⟩:=zaa e;obtain⟨hz,e⟩:=cU e
 ·cases e
  refine h F B H σ ρ x.1 x.2 _ R e1 λvs B1 H1 E1 R1 V1=>?_
  obtain⟨B2,R2,rp,E2⟩:=Rel.vT R1 V1.weak e2;refine⟨by rw[rp.length];exact hz,λp hp=>?_⟩
  have:=ic (res:=(.list y.1,true)) (k:=λQ=>∀p,H1 p=none->Q (.ref p) (upd H1 p (.lst vs))) (Q:=Q) R2 ⟨vs,rp,λQ h=>h⟩ λv B' H' E R' V' N=>q v B' H' (E1.trans (E2.trans E)) R' V' λp z1 z2=>E1.live p (N p z1 z2)
  exact this p hp
def Views(B H:Hp):List V->List D->Prop
 | [],[]=>True
 |v::vs,d::ds=>View B H v d/\Views B H vs ds
 |_,_=>False
theorem Vl.views{F:Fr}{B H:Hp}{σ:St}{ρ:Rho}(R:Rel F B H σ ρ):∀{vs:List V} {rs:List RV},Vl F B H σ ρ vs rs->Views B H vs (rs.map (·.1))
 | [],[],_=>trivial
 |v::vs,r::rs,⟨⟨h,n⟩,t⟩=>⟨h.view R,Vl.views R t⟩
def lZ(r:List V->Hp->VK->Prop)(g:List D->Option (D×Bool)):Prop:=∀(B H:Hp) (vs:List V) (ds:List D) (res:D×Bool),aE B H->Views B H vs ds->g ds=some res->pY B H res λQ=>r vs H Q
def mCB(g:List D->Option (D×Bool))(m:Rho->Option (List RV×Rho)):PM:=fun ρ=>(m ρ).bind λx=>(g (x.1.map (·.1))).map λres=>(kn res,x.2)
theorem bU{r:List V->Hp->VK->Prop}{g:List D->Option (D×Bool)}{t:TA}{m:Rho->Option (List RV×Rho)}(J:lZ r g)(h:MA t m):ME (tCB r t) (mCB g m):=by
 intro F B H σ ρ r0 ρ' Q R e q;obtain⟨x,e1,e⟩:=zaa e;obtain⟨res,e4,e⟩:=zab e;cases e;refine h F B H σ ρ x.1 x.2 _ R e1 λvs B1 H1 E1 R1 V1=>?_
 exact ic R1 (J B1 H1 vs _ res R1.sub (V1.views R1) e4) λw B3 H3 E3 R3 V4 N4=>q w B3 H3 (E1.trans E3) R3 V4 λp z1 z2=>E1.live p (N4 p z1 z2)
def gy:Rho->Option (Option Int×Rho):=fun ρ=>some (none,ρ)
def asI:RV×Rho->Option (Int×Rho)
 |((.int i,_),ρ)=>some (i,ρ)
 |_=>none
theorem BX{x:RV×Rho}{b:Int}{ρ:Rho}(h:asI x=some (b,ρ)):x.1.1=.int b/\x.2=ρ:=by
 obtain⟨⟨d,k⟩,ρ0⟩:=x;cases d with
 |int c=>cases h;exact⟨rfl,rfl⟩
 |_=>cases h
def hW(a:PM):Rho->Option (Option Int×Rho):=fun ρ=>((sv a ρ).bind asI).map λx=>(some x.1,x.2)
def MO(t:TO)(m:Rho->Option (Option Int×Rho)):Prop :=
 ∀(F:Fr) (B H:Hp) (σ:St) (ρ:Rho) (b:Option Int) (ρ':Rho) (Q:Option Int->Hp->Prop),Rel F B H σ ρ->m ρ=some (b,ρ')->
  (∀B' H',Ext σ ρ B H ρ' B' H'->Rel F B' H' σ ρ'->Q b H')->t σ H Q
theorem tR:MO yV gy:=by
 intro F B H σ ρ b ρ' Q R e q;cases e;exact q B H (Ext.refl _ _ _ _) R
theorem mH{ta:TE}{a:PM}(ha:ME ta a):MO (Gj ta) (hW a):=by
 intro F B H σ ρ b ρ' Q R e q;obtain⟨y,e1,e⟩:=zab e;obtain⟨x,e2,e3⟩:=zaa e1;cases e;obtain⟨h1,h2⟩:=BX (b:=y.1) (ρ:=y.2) e3;refine ha.sv F B H σ ρ x.1 x.2 _ R e2 λv B1 H1 E1 R1 V1 N1=>?_
 have:=V1.view R1;rw[h1]at this;rw[h2]at E1 R1;exact⟨y.1,this.int,q B1 H1 E1 R1⟩
def SlJ(r:V->Option Int->Option Int->Hp->VK->Prop)(g:D->Option Int->Option Int->Option (D×Bool)):Prop :=
 ∀(B H:Hp) (x:V) (c:D) (l u:Option Int) (res:D×Bool),aE B H->View B H x c->g c l u=some res->pY B H res λQ=>r x l u H Q
def mSl(g:D->Option Int->Option Int->Option (D×Bool))(a:PM)(l u:Rho->Option (Option Int×Rho)):PM:=fun ρ=>(sv a ρ).bind λx=>(l x.2).bind λy=>(u y.2).bind λz=>(mj z.2 x.1).bind λr=>(g r.1 y.1 z.1).map λres=>(kn res,z.2)
theorem yZ{r:V->Option Int->Option Int->Hp->VK->Prop}{g:D->Option Int->Option Int->Option (D×Bool)}{ta:TE}{tl tu:TO}{a:PM}{l u:Rho->Option (Option Int×Rho)}(J:SlJ r g)(ha:ME ta a)(hl:MO tl l)(hu:MO tu u):ME (tSl r ta tl tu) (mSl g a l u):=by
 intro F B H σ ρ r0 ρ' Q R e q;obtain⟨x,e1,e⟩:=zaa e;obtain⟨y,e2,e⟩:=zaa e;obtain⟨z,e3,e⟩:=zaa e;obtain⟨r',e4,e⟩:=zaa e;obtain⟨res,e5,e⟩:=zab e;cases e;refine ha.sv F B H σ ρ x.1 x.2 _ R e1 λv B1 H1 E1 R1 V1 N1=>?_
 refine hl F B1 H1 σ x.2 y.1 y.2 _ R1 e2 λB2 H2 E2 R2=>?_
 refine hu F B2 H2 σ y.2 z.1 z.2 _ R2 e3 λB3 H3 E3 R3=>?_
 obtain⟨V3,n3⟩:=V1.next (E2.trans E3) R3 (lC e1) e4;exact ic R3 (J B3 H3 v r'.1 y.1 z.1 res R3.sub (V3.view R3) e5) λw B4 H4 E4 R4 V4 N4=>q w B4 H4 ((E1.trans (E2.trans E3)).trans E4) R4 V4 λp z1 z2=>(E1.trans (E2.trans E3)).live p (N4 p z1 z2)
end Mir
namespace Mir
open PySem L2
variable [Zc]
mutual
def eg:D->Bool
 | .none=>true
 | .bool _=>true
 | .int _=>true
 | .str _=>true
 | .list _=>false
 | .tuple ds=>bq ds
 | .dict _=>false
def bq:List D->Bool
 | []=>true
 |d::ds=>eg d&&bq ds
end
mutual
theorem Rep.dH{B B':Hp}(k:∀q xs,B q=some (.tup xs)->B' q=some (.tup xs)):∀{v:V} {d:D},Rep B v d->eg d=true->Rep B' v d
 |_,_,.non,_=>.non
 |_,_,.bl b,_=>.bl b
 |_,_,.int i,_=>.int i
 |_,_,.str x,_=>.str x
 |_,_,.lst _ _,h=>by simp[eg]at h
 |_,_,.dct _ _,h=>by simp[eg]at h
 |_,_,.tup h r,e=>.tup (k _ _ h) (aQ.dH k r (by simpa[eg]using e))
theorem aQ.dH{B B':Hp}(k:∀q xs,B q=some (.tup xs)->B' q=some (.tup xs)):∀{v:List V} {d:List D},aQ B v d->bq d=true->aQ B' v d
 |_,_,.nil,_=>.nil
 |_,_,.cons a b,e=>by
  simp only[bq,Bool.and_eq_true]at e;exact .cons (Rep.dH k a e.1) (aQ.dH k b e.2)
end
theorem bx.dH{B B':Hp}(k:∀q xs,B q=some (.tup xs)->B' q=some (.tup xs)):∀{v:List (Key×V)} {d:List (D×D)},bx B v d->bq (d.map (·.2))=true->bx B' v d
 |_,_,.nil,_=>.nil
 |_,_,.cons c a b,e=>by
  simp only[List.map_cons,bq,Bool.and_eq_true]at e;exact .cons c (Rep.dH k a e.1) (bx.dH k b e.2)
def eW(d:D)(o:Bool):Bool:=match o,d with
 |true,.list ds=>bq ds
 |true,.dict es=>bq (es.map (·.2))
 |true,_=>false
 |false,d=>eg d
structure Post(B H:Hp)(v:V)(B' H':Hp)(d:D)(o:Bool):Prop where
 eH:aE H H'
 eB:aE B B'
 sub:aE B' H'
 nb:∀q,H q≠none->B q=none->B' q=none
 tB:∀q xs,H' q=some (.tup xs)->B' q=some (.tup xs)
 nz:∀q o u,H' q=some (.frz o u)->H q≠none
 val:if o=true then∃p,v=.ref p/\H p=none/\B' p=none/\Own B' H' p d else Rep B' v d
def spM(f:List D->Option (D×Bool)):Sp:=λvs H Q _=>∃B ds d o,aE B H/\(∀q xs,H q=some (.tup xs)->B q=some (.tup xs))/\aQ B vs ds/\f ds=some (d,o)/\∀v B' H',Post B H v B' H' d o->Q v H'
def kO(d:D)(o:Bool):RV:=(d,if o=true then .new else .fz)
def cK(f:List D->Option (D×Bool))(m:Rho->Option (List RV×Rho)):PM:=fun ρ=>(m ρ).bind λx=>(f (x.1.map (·.1))).bind λw=>
 if eW w.1 w.2=true then some (kO w.1 w.2,x.2)else(hU x.1 x.2).map λy=>(kO w.1 w.2,y.2)
theorem Views.reps{B H:Hp}(e:aE B H):∀{vs:List V} {ds:List D},Views B H vs ds->aQ H vs ds
 | [],[],_=>.nil
 |v::vs,d::ds,⟨h,t⟩=>.cons (h.rep e) (Views.reps e t)
theorem vU:∀{rs:List RV} {ρ ρ':Rho} {ds:List D},(∀r∈rs,∀i,r.2=.at i->∃s,ρ[i]?=some s/\slD s=r.1)->hU rs ρ=some (ds,ρ')->ds=rs.map (·.1)
 | [],_,_,_,_,e=>by cases e;rfl
 |r::rs,ρ,ρ',ds,h,e=>by
  obtain⟨x,e1,e⟩:=zaa e;obtain⟨y,e2,e⟩:=zab e;cases e;have hx:x.1=r.1/\∀(i:Nat) (s:Sl),ρ[i]?=some s->∃s',x.2[i]?=some s'/\slD s'=slD s:=by
   obtain⟨d,k⟩:=r;cases k with
   |fz=>cases e1;exact⟨rfl,λi s h=>⟨s,h,rfl⟩⟩
   |new=>cases e1
   |ro=>cases e1
   | «at» i=>
    obtain⟨s,h1,h2⟩:=h (d,.at i) (by simp) i rfl
    have e':(match ρ[i]? with
     |some (.own d)=>some (d,ρ.set i (.fz d))
     |some (.fz d)=>some (d,ρ)
     |_=>none)=some x:=e1
    rw[h1]at e';cases s with
    |own c=>
     cases e';refine⟨h2,λj t hj=>?_⟩
     by_cases z:j=i
     ·subst z
      rw[h1]at hj;cases hj
      obtain⟨hl,_⟩:=zac h1;exact⟨.fz c,by rw[zav hl],rfl⟩
     ·exact⟨t,by rw[zaA (λe=>z e.symm)];exact hj,rfl⟩
    |fz c=>cases e';exact⟨h2,λi s h=>⟨s,h,rfl⟩⟩
    |no=>cases e'
    |ex=>cases e'
    |io c=>cases e'
    |ro c=>cases e'
  rw[zaz,hx.1,vU (ρ:=x.2) (λr hr i hi=>?_) e2]
  obtain⟨s,h1,h2⟩:=h r (zak _ hr) i hi;obtain⟨s',h3,h4⟩:=hx.2 i s h1;exact⟨s',h3,h4.trans h2⟩
theorem Vl.at{F:Fr}{B H:Hp}{σ:St}{ρ:Rho}:∀{vs:List V} {rs:List RV},Vl F B H σ ρ vs rs->∀r∈rs,∀i,r.2=.at i->∃s,ρ[i]?=some s/\slD s=r.1
 | [],[],_,r',hr,i,hi=>by cases hr
 |v::vs,r::rs,⟨⟨h,_⟩,t⟩,r',hr,i,hi=>by
  rcases zaf hr with rfl|hr
  ·obtain⟨d,k⟩:=r'
   cases(show k=.at i from hi);obtain⟨s,h1,_,h2,_⟩:=h;exact⟨s,h1,h2⟩
  ·exact Vl.at t r' hr i hi
theorem cJ{f:List D->Option (D×Bool)}{E:XK}{t:TA}{m:Rho->Option (List RV×Rho)}(h:MA t m):ME (kq (spM f) [] E t) (cK f m):=by
 intro F B H σ ρ r0 ρ' Q R e q;obtain⟨x,e1,e⟩:=zaa e;obtain⟨w,e2,e⟩:=zaa e;refine h F B H σ ρ x.1 x.2 _ R e1 λvs B1 H1 E1 R1 V1=>?_
 rw[zaR]
 by_cases hp:eW w.1 w.2=true
 ·rw[if_pos hp]at e
  cases e;refine⟨H1,_,w.1,w.2,aE.refl _,λ_ _ z=>z,(V1.views R1).reps R1.sub,e2,λv B' H' P=>?_⟩
  let B2:Hp:=λq=>if H1 q=none then B' q else B1 q
  have old:∀q,H1 q≠none->B2 q=B1 q:=λq z=>if_neg z
  have new:∀q,H1 q=none->B2 q=B' q:=λq z=>if_pos z
  have eB:aE B1 B2:=λq o z=>by rw[old q (by rw[R1.sub q o z];simp)];exact z
  have sub:aE B2 H':=λq o z=>by
   by_cases y:H1 q=none
   ·rw[new q y]at z;exact P.sub q o z
   ·rw[old q y]at z;exact P.eH q o (R1.sub q o z)
  have nb:∀q,H1 q≠none->B1 q=none->B2 q=none:=λq y z=>by rw[old q y];exact z
  have tB:∀q xs,H' q=some (.tup xs)->B2 q=some (.tup xs):=λq xs z=>by
   cases y:H1 q with
   |none=>rw[new q y];exact P.tB q xs z
   |some o=>
    have:=P.eH q o y;rw[z]at this;cases this;rw[old q (by rw[y];simp)];exact R1.cO q xs y
  have kt:∀q xs,B' q=some (.tup xs)->B2 q=some (.tup xs):=λq xs z=>tB q xs (P.sub q _ z)
  have R2:=R1.grow eB P.eH sub nb tB P.nz;have E2:Ext σ x.2 B1 H1 x.2 B2 H':=Ext.grow eB P.eH nb;obtain⟨d,o⟩:=w;cases o with
  |false=>
   have pv:Rep B' v d:=P.val;exact q v B2 H' (E1.trans E2) R2 (show Rep B2 v d from pv.dH kt hp) λp z=>by cases z
  |true=>
   obtain⟨p,rfl,h1,h2,h3⟩:∃p,v=.ref p/\H1 p=none/\B' p=none/\Own B' H' p d:=P.val;have fr:=R1.free h1;refine q _ B2 H' (E1.trans E2) R2 ⟨p,rfl,by rw[new p h1];exact h2,fr.2.1,?_,fr.2.2⟩ λp' _ z=>by cases z;exact E1.live p h1
   cases h3 with
   |lst h r=>exact .lst h (r.dH kt hp)
   |dct h r=>exact .dct h (r.dH kt hp)
 ·rw[if_neg hp]at e
  obtain⟨y,e3,e⟩:=zab e;cases e;obtain⟨B2,R2,rp,E2⟩:=Rel.vT R1 V1.weak e3;have hd:=vU V1.at e3;rw[hd]at rp;refine⟨B2,_,w.1,w.2,R2.sub,R2.cO,rp,e2,λv B' H' P=>?_⟩
  have R3:=R2.grow P.eB P.eH P.sub P.nb P.tB P.nz;have E3:Ext σ y.2 B2 H1 y.2 B' H':=Ext.grow P.eB P.eH P.nb;obtain⟨d,o⟩:=w;cases o with
  |false=>
   have pv:Rep B' v d:=P.val;exact q v B' H' (E1.trans (E2.trans E3)) R3 pv λp z=>by cases z
  |true=>
   obtain⟨p,rfl,h1,h2,h3⟩:∃p,v=.ref p/\H1 p=none/\B' p=none/\Own B' H' p d:=P.val;have fr:=R2.free h1;exact q _ B' H' (E1.trans (E2.trans E3)) R3 ⟨p,rfl,h2,fr.2.1,h3,fr.2.2⟩ λp' _ z=>by cases z;exact E1.live p h1
def vV(B H:Hp)(x:V)(H':Hp)(d:D):Prop:=(H'=H/\Rep B x d)\/∃p xs cs,d=.tuple cs/\x=.ref p/\H p=none/\H'=upd H p (.tup xs)/\aQ B xs cs
def mI(G B:Hp)(J:It)(ds:List D):Prop:=∀H,aE G H->J.stop ds.length H/\∀(i:Nat) (d:D),ds[i]?=some d->J.go i H/\∀x H',J.yld i H x H'->vV B H x H' d
theorem mI.mono{G B B':Hp}{J:It}{ds:List D}(h:mI G B J ds)(e:aE B B'):mI G B' J ds:=λH s=>⟨(h H s).1,λi d hd=>⟨((h H s).2 i d hd).1,λx H' y=>by
 rcases((h H s).2 i d hd).2 x H' y with⟨h1,h2⟩|⟨p,xs,cs,h1,h2,h3,h4,h5⟩
 ·exact .inl ⟨h1,h2.mono e⟩
 ·exact .inr ⟨p,xs,cs,h1,h2,h3,h4,h5.mono e⟩⟩⟩
def MI(t:TI)(m:Rho->Option (List D×Rho)):Prop :=
 ∀(F:Fr) (B H:Hp) (σ:St) (ρ:Rho) (ds:List D) (ρ':Rho) (Q:It->Hp->Prop),Rel F B H σ ρ->m ρ=some (ds,ρ')->
  (∀J B' H',Ext σ ρ B H ρ' B' H'->Rel F B' H' σ ρ'->mI H' B' J ds->Q J H')->t σ H Q
def MF(t:TI)(m:Rho->Option (List D×Rho)):Prop :=
 ∀(F:Fr) (B H:Hp) (σ:St) (ρ:Rho) (ds:List D) (ρ':Rho) (Q:It->Hp->Prop),Rel F B H σ ρ->m ρ=some (ds,ρ')->
  (∀J B' H',Ext σ ρ B H ρ' B' H'->Rel F B' H' σ ρ'->mI B' B' J ds->Q J H')->t σ H Q
theorem hX{K:zag}{H:Hp}{p:Addr}{xs:List V}(h:Rd H p (.lst xs)):SqL K H p xs:=.inl h
theorem BY{K:zag}{G B:Hp}{p:Addr}{xs:List V}{ds:List D}(h:Rd G p (.lst xs))(r:aQ B xs ds):mI G B (Itl K p) ds:=λH s=>by
 have h':SqL K H p xs:=hX (dy s h);refine⟨⟨xs,h',by rw[r.length];exact zap _⟩,λi d hd=>?_⟩
 obtain⟨x,h1,h2⟩:=r.get i d hd;refine⟨⟨xs,x,h',h1⟩,λy H' hy=>.inl ⟨hy.1,?_⟩⟩
 have:=hy.2 xs h';rw[h1]at this;cases this;exact h2
theorem BZ{K:zag}{G B:Hp}{p:Addr}{xs:List V}{ds:List D}(h:G p=some (.tup xs))(r:aQ B xs ds):mI G B (Itt K p) ds:=λH s=>by
 have h':SqT K H p xs:=.inl (.inl (s _ _ h));refine⟨⟨xs,h',by rw[r.length];exact zap _⟩,λi d hd=>?_⟩
 obtain⟨x,h1,h2⟩:=r.get i d hd;refine⟨⟨xs,x,h',h1⟩,λy H' hy=>.inl ⟨hy.1,?_⟩⟩
 have:=hy.2 xs h';rw[h1]at this;cases this;exact h2
def asL:D->Option (List D)
 | .list ds=>some ds
 |_=>none
def asT:D->Option (List D)
 | .tuple ds=>some ds
 |_=>none
theorem xP{d:D}{ds:List D}(h:asL d=some ds):d=.list ds:=by cases d<;>first|cases h;rfl|cases h
theorem B6{d:D}{ds:List D}(h:asT d=some ds):d=.tuple ds:=by cases d<;>first|cases h;rfl|cases h
def o7(a:PM):Rho->Option (List D×Rho):=fun ρ=>(sv a ρ).bind λx=>(asL x.1.1).map λds=>(ds,x.2)
def vW(a:PM):Rho->Option (List D×Rho):=fun ρ=>(sv a ρ).bind λx=>(asT x.1.1).map λds=>(ds,x.2)
def B7(a:PM):Rho->Option (List D×Rho):=fun ρ=>(sv a ρ).bind λx=>(kC x.1 x.2).bind λy=>(asL y.1).map λds=>(ds,y.2)
section
variable{K:zag}{ta:TE}{a:PM}
theorem tS(ha:ME ta a):MI (vI K ta) (o7 a):=by
 intro F B H σ ρ ds ρ' Q R e q;obtain⟨x,e1,e⟩:=zaa e;obtain⟨ds',e2,e⟩:=zab e;cases e;refine ha.sv F B H σ ρ x.1 x.2 _ R e1 λv B1 H1 E1 R1 V1 N1=>?_
 have w:=V1.view R1;rw[xP e2]at w;obtain⟨p,xs,rfl,h1,h2⟩:=w.list R1.sub;exact⟨p,rfl,⟨xs,hX h1⟩,q _ B1 H1 E1 R1 (BY h1 h2)⟩
theorem B8(ha:ME ta a):MI (D4 K ta) (vW a):=by
 intro F B H σ ρ ds ρ' Q R e q;obtain⟨x,e1,e⟩:=zaa e;obtain⟨ds',e2,e⟩:=zab e;cases e;refine ha.sv F B H σ ρ x.1 x.2 _ R e1 λv B1 H1 E1 R1 V1 N1=>?_
 have w:=V1.view R1;rw[B6 e2]at w;obtain⟨p,xs,rfl,h1,h2⟩:=w.tuple R1.sub;exact⟨p,rfl,⟨xs,.inl (.inl h1)⟩,q _ B1 H1 E1 R1 (BZ h1 h2)⟩
theorem B9(ha:ME ta a):MF (D4 K ta) (vW a):=by
 intro F B H σ ρ ds ρ' Q R e q;obtain⟨x,e1,e⟩:=zaa e;obtain⟨ds',e2,e⟩:=zab e;cases e;refine ha.sv F B H σ ρ x.1 x.2 _ R e1 λv B1 H1 E1 R1 V1 N1=>?_
 have w:=V1.view R1;rw[B6 e2]at w;obtain⟨p,xs,rfl,h1,h2⟩:=w.tuple R1.sub;exact⟨p,rfl,⟨xs,.inl (.inl h1)⟩,q _ B1 H1 E1 R1 (BZ (R1.cO _ _ h1) h2)⟩
theorem Ep(ha:ME ta a):MF (vI K ta) (B7 a):=by
 intro F B H σ ρ ds ρ' Q R e q;obtain⟨x,e1,e⟩:=zaa e;obtain⟨y,e3,e⟩:=zaa e;obtain⟨ds',e2,e⟩:=zab e;cases e;refine ha.sv F B H σ ρ x.1 x.2 _ R e1 λv B1 H1 E1 R1 V1 N1=>?_
 have w:Ap B1 σ v x.1:=(Vl.weak (F:=F) (H:=H1) (ρ:=x.2) (vs:=[v]) (rs:=[x.1]) ⟨⟨V1,lC e1⟩,trivial⟩).1;obtain⟨B2,R2,rp,E2⟩:=R1.frz w e3;rw[xP e2]at rp;cases rp with
 |lst h r=>exact⟨_,rfl,⟨_,hX (dy R2.sub h)⟩,q _ B2 H1 (E1.trans E2) R2 (BY h r)⟩
end
def vX(lo:Int)(n:Nat):List D:=(List.range n).map λ(k:Nat)=>PyData.int (lo+(k:Int))
theorem HN{G B:Hp}{lo:Int}{n:Nat}:mI G B (Itr lo n) (vX lo n):=λH _=>by
 refine⟨by simp[vX,Itr],λi d hd=>?_⟩
 rw[vX,zao]at hd;obtain⟨k,h1,h2⟩:=zab hd;have hk:=zac h1;obtain⟨hl,hk⟩:=hk;rw[List.getElem_range]at hk;rw[List.length_range]at hl;subst hk;refine⟨hl,λx H' hy=>.inl ⟨hy.1,?_⟩⟩
 rw[hy.2,<-h2];exact .int _
def rg1:List RV×Rho->Option (List D×Rho)
 |([(.int j,_)],ρ)=>cIf (-(2^62)<=j/\j<2^62) (some (vX 0 j.toNat,ρ)) none
 |_=>none
def rg2:List RV×Rho->Option (List D×Rho)
 |([(.int i,_),(.int j,_)],ρ)=>cIf (-(2^62)<=i/\i<2^62/\-(2^62)<=j/\j<2^62) (some (vX i (j-i).toNat,ρ)) none
 |_=>none
def tT(m:Rho->Option (List RV×Rho)):Rho->Option (List D×Rho):=fun ρ=>(m ρ).bind rg1
def Kz(m:Rho->Option (List RV×Rho)):Rho->Option (List D×Rho):=fun ρ=>(m ρ).bind rg2
section
variable{ta:TA}{m:Rho->Option (List RV×Rho)}
theorem Ca(h:MA ta m)(F:Fr)(B H:Hp)(σ:St)(ρ:Rho)(ds:List D)(ρ':Rho)(Q:It->Hp->Prop)(R:Rel F B H σ ρ)(e:tT m ρ=some (ds,ρ'))
  (q:∀J B' H',Ext σ ρ B H ρ' B' H'->Rel F B' H' σ ρ'->(∀G,mI G B' J ds)->Q J H'):Bw ta σ H Q:=by
 obtain⟨x,e1,e⟩:=zaa e;refine h F B H σ ρ x.1 x.2 _ R e1 λvs B1 H1 E1 R1 V1=>?_
 obtain⟨rs,ρ2⟩:=x;unfold rg1 at e;split at e
 ·rename_i j k ρ3 heq
  cases heq;obtain⟨hj,e⟩:=cU e
  ·cases e
   match vs,V1 with
   | [v],⟨⟨h1,_⟩,_⟩=>
    have:v=.int j:=(h1.view R1).int;subst this;exact⟨j,rfl,hj.1,hj.2,q _ B1 H1 E1 R1 λG=>HN⟩
 ·cases e
theorem tU(h:MA ta m):MF (Bw ta) (tT m):=λF B H σ ρ ds ρ' Q R e q=>Ca h F B H σ ρ ds ρ' Q R e λJ B' H' E R' I=>q J B' H' E R' (I _)
end
end Mir
namespace Mir
open PySem L2
variable [Zc]
def HP:List RV×Rho->Option (RV×Rho)
 |([r],ρ)=>some (r,ρ)
 |_=>none
theorem Er{x:List RV×Rho}{y:RV×Rho}(h:HP x=some y):x=([y.1],y.2):=by
 obtain⟨rs,ρ⟩:=x;unfold HP at h;split at h
 ·rename_i heq;cases heq;cases h;rfl
 ·cases h
def bI(ρ:Rho)(i:Nat):Sl:=match ρ[i]? with
 |some (.own d)=>.ro d
 |some (.io d)=>.ro d
 |some .ex=>.no
 |some s=>s
 |none=>.no
def asF:RV->Option D
 |(d,.fz)=>some d
 |_=>none
theorem Cb{r:RV}{d:D}(h:asF r=some d):r=(d,.fz):=by
 obtain⟨c,k⟩:=r;cases k with
 |fz=>cases h;rfl
 |_=>cases h
def iY(c:Rho->Option (Bool×Rho))(e:PM)(ρn:Rho):List D->Option (List D)
 | []=>some []
 |d::ds=>(c (.fz d::ρn)).bind λb=>if b.1=true then(sv e (.fz d::ρn)).bind λy=>(asF y.1).bind λz=>(iY c e ρn ds).map (z::·)else iY c e ρn ds
def mLC(fr:List (Str×Nat))(it:Rho->Option (List D×Rho))(c:Rho->Option (Bool×Rho))(e:PM):PM:=fun ρ=>(it ρ).bind λx=>(iY c e (fr.map λp=>bI x.2 p.2) x.1).bind λys=>cIf (ys.length<sizeLine) (some ((.list ys,.new),x.2)) none
def pZ:Rho->Option (Bool×Rho):=fun ρ=>some (true,ρ)
theorem xQ:MT Ej pZ:=by
 intro F B H σ ρ b ρ' Q R e q;cases e;exact q B H (Ext.refl _ _ _ _) R
def F0(H:Hp):Fr:=⟨λ_=>none,λ_=>none,[],λq=>H q≠none⟩
theorem Aq{ρ:Rho}{i:Nat}:bI ρ i≠.ex:=by
 unfold bI;cases h : ρ[i]? with
 |none=>simp
 |some s=>cases s<;>simp
theorem p9{ρ:Rho}{i:Nat}:(bI ρ i).d3=false:=by
 unfold bI;cases h : ρ[i]? with
 |none=>rfl
 |some s=>cases s<;>rfl
theorem Rel.inner{F:Fr}{B H:Hp}{σ:St}{ρ:Rho}(R:Rel F B H σ ρ)(fr:List (Str×Nat)){v:V}{d:D}(h:Rep B v d):Rel (F0 H) B H (some v::aZ σ fr) (.fz d::fr.map λp=>bI ρ p.2):=by
 have vD:∀(i:Nat) (s:Sl),(Sl.fz d::fr.map λp=>bI ρ p.2)[i]?=some s->s.d3=true->False:=λi s h1 h2=>by
  cases i with
  |zero=>cases h1;cases h2
  |succ i=>
   have h1':(fr.map λp=>bI ρ p.2)[i]?=some s:=by simpa using h1
   rw[zao]at h1';obtain⟨p,_,e⟩:=zab h1';rw[<-e,p9]at h2;cases h2
 have nex:∀i:Nat,(Sl.fz d::fr.map λp=>bI ρ p.2)[i]?=some Sl.ex->False:=λi h1=>by
  cases i with
  |zero=>cases h1
  |succ i=>
   have h1':(fr.map λp=>bI ρ p.2)[i]?=some Sl.ex:=by simpa using h1
   rw[zao]at h1';obtain⟨p,_,e⟩:=zab h1';exact absurd e Aq
 refine⟨R.sub,(λ_ _ z=>by cases z),(λ_ _ z=>by cases z),λ_ z _=>absurd rfl z,by simp[aZ],λi s hs=>?_,λi j s t p h1 h2=>(vD i s h1 h2).elim,λi d p h1=>(vD i _ h1 rfl).elim,(λx hx=>by cases hx),λi d h1=>(vD i _ h1 rfl).elim,R.cO,(λi h1=>(nex i h1).elim),λq o u h z=>by rw[z]at h;cases h⟩
 cases i with
 |zero=>cases hs;exact⟨v,rfl,h⟩
 |succ i=>
  have hs':(fr.map λp=>bI ρ p.2)[i]?=some s:=by simpa using hs
  rw[zao]at hs';obtain⟨p,hp,e⟩:=zab hs';have hσ:∀x,σ[p.2]?=some (some x)->(some v::aZ σ fr)[i+1]?=some (some x):=λx hx=>by
   rw[zat];unfold aZ;rw[zao,hp,zaT,List.getD_eq_getElem?_getD,hx];rfl
  unfold bI at e;cases q : ρ[p.2]? with
  |none=>rw[q]at e;subst e;trivial
  |some s0=>
   rw[q]at e;have sl:=R.slot p.2 s0 q;cases s0 with
   |no=>subst e;trivial
   |ex=>subst e;trivial
   |fz c=>subst e;obtain⟨x,h1,h2⟩:=sl;exact⟨x,hσ _ h1,h2⟩
   |own c=>subst e;obtain⟨x,h1,_,h2⟩:=sl;exact⟨x,hσ _ h1,h2⟩
   |io c=>subst e;obtain⟨x,h1,_,h2⟩:=sl;exact⟨x,hσ _ h1,h2⟩
   |ro c=>subst e;obtain⟨x,h1,h2⟩:=sl;exact⟨x,hσ _ h1,h2⟩
theorem gk{ρ ρ':Rho}{σ:St}{B H B' H':Hp}(vD:∀(i:Nat) (s:Sl),ρ[i]?=some s->s.d3=true->False)(E:Ext σ ρ B H ρ' B' H'):aE H H'/\∀q,H q≠none->B q=none->B' q=none:=by
 have k:∀q o,H q=some o->H' q=some o/\(B q=none->B' q=none):=λq o h=>E.keep q o h λi s h1 h2=>(vD i s h1 h2).elim
 refine⟨λq o h=>(k q o h).1,λq h z=>?_⟩
 cases e:H q with
 |none=>exact absurd e h
 |some o=>exact(k q o e).2 z
theorem fg{fr:List (Str×Nat)}{ρ:Rho}{d:D}(i:Nat)(s:Sl)(h1:(Sl.fz d::fr.map λp=>bI ρ p.2)[i]?=some s)(h2:s.d3=true):False:=by
 cases i with
 |zero=>cases h1;cases h2
 |succ i=>
  have h1':(fr.map λp=>bI ρ p.2)[i]?=some s:=by simpa using h1
  rw[zao]at h1';obtain⟨p,_,e⟩:=zab h1';rw[<-e,p9]at h2;cases h2
theorem vY{fr:List (Str×Nat)}{wi:TI}{tc:TT}{te:TE}{it:Rho->Option (List D×Rho)}{c:Rho->Option (Bool×Rho)}{e:PM}(hi:MI wi it)(hc:MT tc c)(he:ME te e):ME (tLC fr wi tc te) (mLC fr it c e):=by
 intro F B H σ ρ r0 ρ' Q R e0 q;obtain⟨x,e1,e0⟩:=zaa e0;obtain⟨out,e2,e0⟩:=zaa e0;obtain⟨hz,e0⟩:=cU e0;cases e0;refine hi F B H σ ρ x.1 x.2 _ R e1 λJ B1 H1 E1 R1 I1=>?_
 obtain⟨ds,ρ1⟩:=x;refine⟨λi m ys H2=>m=ds.length-i/\i<=ds.length/\∃B2 done rest,aE B1 B2/\aE H1 H2/\(∀q,H1 q≠none->B1 q=none->B2 q=none)/\Rel F B2 H2 σ ρ1/\aQ B2 ys done/\iY c e (fr.map λp=>bI ρ1 p.2) (ds.drop i)=some rest/\done++rest=out,
  ⟨ds.length,rfl,Nat.zero_le _,B1,[],out,aE.refl _,aE.refl _,λ_ _ z=>z,R1,.nil,e2,rfl⟩,?_⟩
 rintro i m ys H2 ⟨rfl,hil,B2,done,rest,eB,eH,nb,R2,rp,hcl,hdr⟩
 have hlen:ys.length<=out.length:=by rw[<-hdr,zau,rp.length];omega
 refine⟨by omega,?_⟩
 by_cases hlt:i<ds.length
 ·refine .inr ?_
  obtain⟨go,yl⟩:=(I1 H2 eH).2 i ds[i] (zaC hlt);refine⟨go,λv H3 hy=>?_⟩
  rw[zbb hlt]at hcl;obtain⟨b,c1,c2⟩:=zaa (show(c (.fz ds[i]::fr.map λp=>bI ρ1 p.2)).bind _=some rest from hcl)
  have had:∃B3,aE B2 B3/\aE H2 H3/\(∀q,H2 q≠none->B2 q=none->B3 q=none)/\Rel F B3 H3 σ ρ1/\Rep B3 v ds[i]:=by
   rcases yl v H3 hy with⟨rfl,h2⟩|⟨p,xs,cs,h1,rfl,h3,rfl,h5⟩
   ·exact⟨B2,aE.refl _,aE.refl _,λ_ _ z=>z,R2,h2.mono eB⟩
   ·obtain⟨R3,E3,e3⟩:=R2.rq (xs:=xs) h3
    refine⟨_,e3,eV h3,λq h z=>?_,R3,?_⟩
    ·rw[aq (show q≠p from λy=>h (by rw[y];exact h3))];exact z
    ·rw[h1];exact .tup ax (h5.mono (eB.trans e3))
  obtain⟨B3,eB3,eH3,nb3,R3,rv⟩:=had;have Ri:=R3.inner fr rv;refine hc (F0 H3) B3 H3 _ _ b.1 b.2 _ Ri c1 λB4 H4 E4 R4=>?_
  obtain⟨eH4,nb4⟩:=gk fg E4;have R4o:Rel F B4 H4 σ ρ1:=R3.grow E4.sB eH4 R4.sub nb4 R4.cO R4.nz;have nbA:∀q,H1 q≠none->B1 q=none->B4 q=none:=λq h z=>by
   have h2:H2 q≠none:=λy=>h (eH.free y)
   have h3:H3 q≠none:=λy=>h2 (eH3.free y)
   exact nb4 q h3 (nb3 q h2 (nb q h z))
  cases hb:b.1 with
  |false=>
   rw[hb,if_neg zam]at c2;rw[if_neg zam];exact⟨ds.length-(i+1),by omega,rfl,hlt,B4,done,rest,eB.trans (eB3.trans E4.sB),eH.trans (eH3.trans eH4),nbA,R4o,rp.mono (eB3.trans E4.sB),c2,hdr⟩
  |true=>
   rw[hb,if_pos rfl]at c2;rw[if_pos rfl];obtain⟨y,c3,c2⟩:=zaa c2;obtain⟨z,c4,c2⟩:=zaa c2;obtain⟨rest',c5,c6⟩:=zab c2;subst c6;have Ri4:=R4o.inner fr (rv.mono E4.sB);refine he.sv (F0 H4) B4 H4 _ _ y.1 y.2 _ Ri4 c3 λu B5 H5 E5 R5 V5 N5=>?_
   obtain⟨eH5,nb5⟩:=gk fg E5;have R5o:Rel F B5 H5 σ ρ1:=R4o.grow E5.sB eH5 R5.sub nb5 R5.cO R5.nz;rw[Cb c4]at V5;refine⟨ds.length-(i+1),by omega,rfl,hlt,B5,done++[z],rest',eB.trans (eB3.trans (E4.sB.trans E5.sB)),eH.trans (eH3.trans (eH4.trans eH5)),λq h w=>?_,R5o,(rp.mono (eB3.trans (E4.sB.trans E5.sB))).append (.cons V5 .nil),c5,by rw[zaD];exact hdr⟩
   have h2:H2 q≠none:=λy=>h (eH.free y)
   have h3:H3 q≠none:=λy=>h2 (eH3.free y)
   have h4:H4 q≠none:=λy=>h3 (eH4.free y)
   exact nb5 q h4 (nbA q h w)
 ·have hi':i=ds.length:=by omega
  subst hi';refine .inl ⟨(I1 H2 eH).1,λp hp=>?_⟩
  rw[List.drop_length]at hcl;cases hcl;rw[zaR]at hdr;subst hdr;have E2:Ext σ ρ1 B1 H1 ρ1 B2 H2:=Ext.grow eB eH nb;have:=ic (res:=(.list done,true)) (k:=λQ=>∀p,H2 p=none->Q (.ref p) (upd H2 p (.lst ys))) (Q:=Q) R2 ⟨ys,rp,λQ h=>h⟩ λv B' H' E R' V' N=>q v B' H' ((E1.trans E2).trans E) R' V' λp z1 z2=>(E1.trans E2).live p (N p z1 z2)
  exact this p hp
end Mir
namespace Mir
open PySem L2
variable [Zc]
def Sl.put:Sl->D->Sl
 | .own _,d=>.own d
 | .io _,d=>.io d
 |s,_=>s
section
variable{F:Fr}{B H:Hp}{σ:St}{ρ ρ':Rho}{v:V}
theorem pX.at{B H:Hp}{σ σ':St}{i:Nat}{s:Sl}(e : σ'[i]?=σ[i]?)(h:pX B H σ i s):pX B H σ' i s:=by
 unfold pX at h⊢;rw[e];exact h
theorem Rel.write(R:Rel F B H σ ρ){i:Nat}{s:Sl}{p:Addr}{o:HO}{d:D}(hi : ρ[i]?=some s)(hs:s.d3=true)(hv : σ[i]?=some (some (.ref p)))(no:(∀xs,o≠.tup xs)/\∀a u,o≠.frz a u)(ow:Own B (upd H p o) p d) :
  Rel F B (upd H p o) σ (ρ.set i (s.put d))/\Ext σ ρ B H (ρ.set i (s.put d)) B (upd H p o):=by
 obtain⟨p',e1,hB,o0⟩:=R.ownAt hi hs;rw[hv]at e1;cases e1;have hl:i<ρ.length:=(zac hi).1;have pO:(s.put d).d3=true/\slD (s.put d)=d:=by cases s<;>first|exact⟨rfl,rfl⟩|cases hs
 have ne:∀(j:Nat) (t:Sl) (q:Addr),j≠i->ρ[j]?=some t->t.isRef=true->σ[j]?=some (some (.ref q))->q≠p:=λj t q hj h1 h2 h3 z=>hj (R.dist i j s t p hi hs h1 h2 hv (z▸h3)).symm
 have nio:∀(j:Nat) (t:Sl),(ρ.set i (s.put d))[j]?=some t->∃t0,ρ[j]?=some t0/\t.d3=t0.d3/\t.isRef=t0.isRef/\(∀c,t=.own c->∃c0,t0=.own c0)/\∀c,t=.io c->∃c0,t0=.io c0:=λj t h=>by
  rcases get_set h with⟨rfl,rfl,_⟩|⟨_,h⟩
  ·refine⟨s,hi,?_⟩
   cases s with
   |own c=>exact⟨rfl,rfl,λ_ _=>⟨_,rfl⟩,λ_ z=>by cases z⟩
   |io c=>exact⟨rfl,rfl,(λ_ z=>by cases z),λ_ _=>⟨_,rfl⟩⟩
   |_=>cases hs
  ·exact⟨t,h,rfl,rfl,λc z=>⟨c,z⟩,λc z=>⟨c,z⟩⟩
 have hF:F.H p=none\/∃x∈F.io,x.2=p:=by
  cases s with
  |own c=>exact .inl (R.jE i c p hi hv)
  |io c=>
   obtain⟨p',hp⟩:=R.ioN i c hi;obtain⟨h1,_⟩:=R.fx _ hp;have h1' : σ[i]?=some (some (.ref p')):=h1;rw[hv]at h1';cases h1';exact .inr ⟨_,hp,rfl⟩
  |_=>cases hs
 have KA:s.put d≠.ex:=by
  cases s with
  |own c=>simp[Sl.put]
  |io c=>simp[Sl.put]
  |_=>cases hs
 refine⟨⟨?_,R.sB,?_,R.nB,by rw[zaM];exact R.len,?_,?_,?_,?_,?_,?_,(λj h=>R.exv j (tQ KA h).1),λq a u h=>by
  by_cases z:q=p
  ·subst z;rw[ax]at h;cases h;exact absurd rfl (no.2 _ _)
  ·rw[aq z]at h;exact R.nz q a u h⟩,⟨aE.refl _,?_,?_,?_,?_⟩⟩
 ·intro q u hq
  rw[aq (show q≠p from λz=>by rw[z,hB]at hq;cases hq)];exact R.sub q u hq
 ·intro q u h1 h2
  have z:q≠p:=λz=>by
   rcases hF with h|⟨x,hx,h⟩
   ·rw[z,h]at h1;cases h1
   ·exact h2 x hx (h.trans z.symm)
  rw[aq z];exact R.sH q u h1 h2
 ·intro j t ht
  rcases get_set ht with⟨rfl,rfl,_⟩|⟨hj,ht⟩
  ·cases s with
   |own c=>exact⟨p,hv,hB,ow⟩
   |io c=>exact⟨p,hv,hB,ow⟩
   |_=>cases hs
  ·have q:=R.slot j t ht
   have k:∀q,q≠p->∀u,H q=some u->upd H p o q=some u:=λq z u h=>by rw[aq z];exact h
   cases t with
   |no=>trivial
   |ex=>trivial
   |fz c=>exact q
   |own c=>obtain⟨q,h1,h2,h3⟩:=q;exact⟨q,h1,h2,h3.mono (aE.refl _) (k q (ne j _ q hj ht rfl h1))⟩
   |io c=>obtain⟨q,h1,h2,h3⟩:=q;exact⟨q,h1,h2,h3.mono (aE.refl _) (k q (ne j _ q hj ht rfl h1))⟩
   |ro c=>obtain⟨q,h1,h3⟩:=q;exact⟨q,h1,h3.mono (aE.refl _) (k q (ne j _ q hj ht rfl h1))⟩
 ·intro a b t u q h1 h2 h3 h4 h5 h6
  obtain⟨t0,h1',e1,_,_,_⟩:=nio a t h1;obtain⟨u0,h3',_,e3,_,_⟩:=nio b u h3;exact R.dist a b t0 u0 q h1' (e1▸h2) h3' (e3▸h4) h5 h6
 ·intro j c q h1 h2
  obtain⟨t0,h1',_,_,e1,_⟩:=nio j _ h1;obtain⟨c0,rfl⟩:=e1 c rfl;exact R.jE j c0 q h1' h2
 ·intro x hx
  obtain⟨h1,c,h2⟩:=R.fx x hx;refine⟨h1,?_⟩
  by_cases z:i=x.1
  ·subst z
   rw[hi]at h2;cases h2;exact⟨d,by rw[zav hl];rfl⟩
  ·exact⟨c,by rw[zaA z];exact h2⟩
 ·intro j c h1
  obtain⟨t0,h1',_,_,_,e1⟩:=nio j _ h1;obtain⟨c0,rfl⟩:=e1 c rfl;exact R.ioN j c0 h1'
 ·intro q xs h
  by_cases z:q=p
  ·subst z;rw[ax]at h;cases h;exact absurd rfl (no.1 xs)
  ·rw[aq z]at h;exact R.cO q xs h
 ·intro q u h n
  refine⟨?_,id⟩;rw[aq (show q≠p from λz=>n i s hi hs (by rw[z];exact hv))];exact h
 ·intro j t h1 h2
  obtain⟨t0,h1',e1,_,_,_⟩:=nio j t h1;exact⟨t0,h1',e1▸h2⟩
 ·intro j t h1 h2
  obtain⟨t0,h1',_,e1,_,_⟩:=nio j t h1;exact⟨t0,h1',e1▸h2⟩
 ·intro q h
  by_cases z:q=p
  ·subst z;rw[ax]at h;cases h
  ·rw[aq z]at h;exact h
end
def qa:Option Sl->Option (List D)
 |some (.own (.list ds))=>some ds
 |some (.io (.list ds))=>some ds
 |_=>none
theorem tV{s:Option Sl}{ds:List D}(h:qa s=some ds):∃t,s=some t/\t.d3=true/\slD t=.list ds:=by
 unfold qa at h;split at h
 ·cases h;exact⟨_,rfl,rfl,rfl⟩
 ·cases h;exact⟨_,rfl,rfl,rfl⟩
 ·cases h
def putAt(ρ:Rho)(i:Nat)(d:D):Rho:=match ρ[i]? with
 |some s=>ρ.set i (s.put d)
 |none=>ρ
def tW(r:V->List V->Hp->VK->Prop)(f:List D->List D->Option (List D×D)):Prop :=
 ∀(B H:Hp) (p:Addr) (xs:List V) (ds:List D) (vs:List V) (as:List D) (w:List D×D),H p=some (.lst xs)->aQ B xs ds->aE B H->aQ B vs as->f ds as=some w->
  ∃xs' v,aQ B xs' w.1/\Rep B v w.2/\∀Q:VK,Q v (upd H p (.lst xs'))->r (.ref p) vs H Q
def rA(i:Nat)(f:List D->List D->Option (List D×D))(m:Rho->Option (List RV×Rho)):PM:=fun ρ=>(qa ρ[i]?).bind λ_=>(m ρ).bind λx=>(hU x.1 x.2).bind λy=>(qa y.2[i]?).bind λds=>(f ds y.1).map λw=>((w.2,.fz),putAt y.2 i (.list w.1))
theorem Own.list{B H:Hp}{p:Addr}{ds:List D}(h:Own B H p (.list ds)):∃xs,H p=some (.lst xs)/\aQ B xs ds:=by
 cases h with
 |lst h r=>exact⟨_,h,r⟩
theorem qb{K:zag}{i:Nat}{r:V->List V->Hp->VK->Prop}{f:List D->List D->Option (List D×D)}{t:TA}{m:Rho->Option (List RV×Rho)}(J:tW r f)(h:MA t m):ME (tBM K "list" r (my i) t) (rA i f m):=by
 intro F B H σ ρ r0 ρ' Q R e q;obtain⟨ds0,e0,e⟩:=zaa e;obtain⟨x,e1,e⟩:=zaa e;obtain⟨y,e2,e⟩:=zaa e;obtain⟨ds,e3,e⟩:=zaa e;obtain⟨w,e4,e⟩:=zab e;cases e;obtain⟨s0,hs0,ho0,hd0⟩:=tV e0;obtain⟨p,hv,hB,ow⟩:=R.ownAt hs0 ho0;rw[hd0]at ow;obtain⟨xs0,hp0,_⟩:=ow.list;refine⟨_,hv,.inl ⟨rfl,xs0,SqL.of hp0⟩,?_⟩;refine h F B H σ ρ x.1 x.2 _ R e1 λvs B1 H1 E1 R1 V1=>?_
 obtain⟨B2,R2,rp,E2⟩:=Rel.vT R1 V1.weak e2;obtain⟨s,hs,ho,hd⟩:=tV e3;obtain⟨p',hv',hB',ow'⟩:=R2.ownAt hs ho;rw[hv]at hv';cases hv';rw[hd]at ow';obtain⟨xs,hp,rx⟩:=ow'.list;obtain⟨xs',u,rx',ru,hr⟩:=J B2 H1 p xs ds vs y.1 w hp rx R2.sub rp e4;obtain⟨R3,E3⟩:=R2.write (o:=.lst xs') (d:=.list w.1) hs ho hv ⟨(λ_ z=>by cases z),λ_ _ z=>by cases z⟩ (.lst ax rx')
 have ep:putAt y.2 i (.list w.1)=y.2.set i (s.put (.list w.1)):=by unfold putAt;rw[hs]
 rw[ep]at q;exact hr Q (q u B2 _ (E1.trans (E2.trans E3)) R3 ru λp z=>by cases z)
def sh(i:Nat)(f:List D->List D->Option (List D×D)):PM:=fun ρ=>(qa ρ[i]?).bind λds=>(f ds []).map λw=>((w.2,.fz),putAt ρ i (.list w.1))
theorem Es{K:zag}{i:Nat}{r:V->List V->Hp->VK->Prop}{f:List D->List D->Option (List D×D)}(J:tW r f):ME (BH K "list" r (my i)) (sh i f):=by
 intro F B H σ ρ r0 ρ' Q R e q;obtain⟨ds,e0,e⟩:=zaa e;obtain⟨w,e4,e⟩:=zab e;cases e;obtain⟨s,hs,ho,hd⟩:=tV e0;obtain⟨p,hv,hB,ow⟩:=R.ownAt hs ho;rw[hd]at ow;obtain⟨xs,hp,rx⟩:=ow.list;refine⟨_,hv,.inl ⟨rfl,xs,SqL.of hp⟩,?_⟩;obtain⟨xs',u,rx',ru,hr⟩:=J B H p xs ds [] [] w hp rx R.sub .nil e4;obtain⟨R3,E3⟩:=R.write (o:=.lst xs') (d:=.list w.1) hs ho hv ⟨(λ_ z=>by cases z),λ_ _ z=>by cases z⟩ (.lst ax rx')
 have ep:putAt ρ i (.list w.1)=ρ.set i (s.put (.list w.1)):=by unfold putAt;rw[hs]
 rw[ep]at q;exact hr Q (q u B _ E3 R3 ru λp z=>by cases z)
end Mir
namespace Mir
open PySem L2
variable [Zc]
inductive Out where
 |nx (ρ:Rho)|rt (r:RV) (ρ:Rho)|bk (ρ:Rho)|ct (ρ:Rho)
abbrev SM:=Rho->Option Out
def oH(F:Fr)(D:Ends):Out->Prop
 | .nx ρ=>∀B H σ,Rel F B H σ ρ->D.nx σ H
 | .rt r ρ=>∀v B H σ,Rel F B H σ ρ->Val F B H σ ρ v r->D.rt v H
 | .bk ρ=>∀B H σ,Rel F B H σ ρ->D.bk σ H
 | .ct ρ=>∀B H σ,Rel F B H σ ρ->D.ct σ H
def MS(t:TS)(m:SM):Prop:=∀(F:Fr) (B H:Hp) (σ:St) (ρ:Rho) (o:Out) (D:Ends),Rel F B H σ ρ->m ρ=some o->oH F D o->t D σ H
def cg(a b:SM):SM:=fun ρ=>(a ρ).bind λo=>match o with
 | .nx ρ'=>b ρ'
 |o=>some o
theorem a7{t u:TS}{a b:SM}(ha:MS t a)(hb:MS u b):MS (Bn t u) (cg a b):=by
 intro F B H σ ρ o D R e q;obtain⟨x,e1,e⟩:=zaa e;refine ha F B H σ ρ x _ R e1 ?_;cases x with
 |nx ρ'=>exact λB' H' σ' R'=>hb F B' H' σ' ρ' o D R' e q
 |rt r ρ'=>cases e;exact q
 |bk ρ'=>cases e;exact q
 |ct ρ'=>cases e;exact q
def gH:SM:=fun ρ=>some (.nx ρ)
theorem eK:MS yR gH:=by
 intro F B H σ ρ o D R e q;cases e;exact q B H σ R
def Cc:SM:=λ_=>none
theorem Cd:MS Bq Cc:=by
 intro F B H σ ρ o D R e q;cases e
def fH(a:PM):SM:=fun ρ=>(a ρ).map λx=>.rt x.1 x.2
theorem cV{t:TE}{a:PM}(ha:ME t a):MS (Bp t) (fH a):=by
 intro F B H σ ρ o D R e q;obtain⟨x,e1,e⟩:=zab e;cases e;exact ha F B H σ ρ x.1 x.2 _ R e1 λv B' H' E R' V' N=>q v B' H' σ R' V'
def Js:SM:=fun ρ=>some (.rt (.none,.fz) ρ)
def gJ(a:PM):SM:=fun ρ=>(a ρ).map λx=>.nx x.2
theorem iZ{t:TE}{a:PM}(ha:ME t a):MS (Bo t) (gJ a):=by
 intro F B H σ ρ o D R e q;obtain⟨x,e1,e⟩:=zab e;cases e;exact ha F B H σ ρ x.1 x.2 _ R e1 λv B' H' E R' V' N=>q B' H' σ R'
def gY(c:Rho->Option (Bool×Rho))(a b:SM):SM:=fun ρ=>(c ρ).bind λx=>if x.1=true then a x.2 else b x.2
theorem iK{tc:TT}{t u:TS}{c:Rho->Option (Bool×Rho)}{a b:SM}(hc:MT tc c)(ha:MS t a)(hb:MS u b):MS (D3 tc t u) (gY c a b):=by
 intro F B H σ ρ o D R e q;obtain⟨x,e1,e⟩:=zaa e;refine hc F B H σ ρ x.1 x.2 _ R e1 λB' H' E R'=>?_
 by_cases h:x.1=true
 ·rw[if_pos h]at e⊢;exact ha F B' H' σ x.2 o D R' e q
 ·rw[if_neg h]at e⊢;exact hb F B' H' σ x.2 o D R' e q
def hZ(ρ:Rho)(i:Nat)(s:Sl):Option Rho:=match ρ[i]? with
 |none=>none
 |some (.io _)=>none
 |some _=>some (ρ.set i s)
theorem vZ{ρ ρ':Rho}{i:Nat}{s:Sl}(h:hZ ρ i s=some ρ') : ρ'=ρ.set i s/\∃s0,ρ[i]?=some s0/\∀d,s0≠.io d:=by
 unfold hZ at h;cases q : ρ[i]? with
 |none=>rw[q]at h;cases h
 |some s0=>
  rw[q]at h;cases s0 with
  |io d=>cases h
  |no=>cases h;exact⟨rfl,_,rfl,λ_ z=>by cases z⟩
  |ex=>cases h;exact⟨rfl,_,rfl,λ_ z=>by cases z⟩
  |fz _=>cases h;exact⟨rfl,_,rfl,λ_ z=>by cases z⟩
  |own _=>cases h;exact⟨rfl,_,rfl,λ_ z=>by cases z⟩
  |ro _=>cases h;exact⟨rfl,_,rfl,λ_ z=>by cases z⟩
section
variable{F:Fr}{B H:Hp}{σ:St}{ρ ρ':Rho}{v:V}
theorem Rel.mJ(R:Rel F B H σ ρ){i:Nat}{d:D}(rp:Rep B v d)(h:hZ ρ i (.fz d)=some ρ'):Rel F B H (σ.set i (some v)) ρ':=by
 obtain⟨rfl,s0,h0,nio⟩:=vZ h;have hl:i<ρ.length:=(zac h0).1;have hls:i<σ.length:=R.len▸hl;have so:∀j,j≠i->(σ.set i (some v))[j]?=σ[j]?:=λj hj=>zaA λe=>hj e.symm
 refine⟨R.sub,R.sB,R.sH,R.nB,by rw[zaM,zaM];exact R.len,?_,?_,?_,?_,?_,R.cO,(λj h=>by obtain⟨h1,h2⟩:=tQ (by simp) h;rw[so j h2];exact R.exv j h1),R.nz⟩
 ·intro j s hs
  rcases get_set hs with⟨rfl,rfl,_⟩|⟨hj,hs⟩
  ·exact⟨v,zav hls,rp⟩
  ·exact(R.slot j s hs).at (so j hj)
 ·intro a b s t p h1 h2 h3 h4 h5 h6
  rcases get_set h1 with⟨rfl,rfl,_⟩|⟨ha,h1⟩
  ·cases h2
  ·rcases get_set h3 with⟨rfl,rfl,_⟩|⟨hb,h3⟩
   ·cases h4
   ·rw[so a ha]at h5;rw[so b hb]at h6;exact R.dist a b s t p h1 h2 h3 h4 h5 h6
 ·intro j c p h1 h2
  rcases get_set h1 with⟨rfl,e,_⟩|⟨hj,h1⟩
  ·cases e
  ·rw[so j hj]at h2;exact R.jE j c p h1 h2
 ·intro x hx
  obtain⟨h1,c,h2⟩:=R.fx x hx;have z:x.1≠i:=λz=>by rw[z,h0]at h2;cases h2;exact nio _ rfl
  exact⟨by rw[so _ z];exact h1,c,by rw[zaA λe=>z e.symm];exact h2⟩
 ·intro j c h1
  rcases get_set h1 with⟨rfl,e,_⟩|⟨hj,h1⟩
  ·cases e
  ·exact R.ioN j c h1
theorem Rel.Ar(R:Rel F B H σ ρ){i:Nat}{d:D}(vl:Val F B H σ ρ v (d,.new))(h:hZ ρ i (.own d)=some ρ'):Rel F B H (σ.set i (some v)) ρ':=by
 obtain⟨rfl,s0,h0,nio⟩:=vZ h;obtain⟨p,rfl,hB,hF,ow,nn⟩:=vl;have hl:i<ρ.length:=(zac h0).1;have hls:i<σ.length:=R.len▸hl;have so:∀j,j≠i->(σ.set i (some (.ref p)))[j]?=σ[j]?:=λj hj=>zaA λe=>hj e.symm
 have si:(σ.set i (some (.ref p)))[i]?=some (some (.ref p)):=zav hls;refine⟨R.sub,R.sB,R.sH,R.nB,by rw[zaM,zaM];exact R.len,?_,?_,?_,?_,?_,R.cO,(λj h=>by obtain⟨h1,h2⟩:=tQ (by simp) h;rw[so j h2];exact R.exv j h1),R.nz⟩
 ·intro j s hs
  rcases get_set hs with⟨rfl,rfl,_⟩|⟨hj,hs⟩
  ·exact⟨p,si,hB,ow⟩
  ·exact(R.slot j s hs).at (so j hj)
 ·intro a b s t q h1 h2 h3 h4 h5 h6
  rcases get_set h1 with⟨rfl,rfl,_⟩|⟨ha,h1'⟩
  ·rcases get_set h3 with⟨rfl,rfl,_⟩|⟨hb,h3⟩
   ·rfl
   ·rw[si]at h5
    cases h5;rw[so b hb]at h6;exact absurd h6 (nn b t h3 h4)
  ·rcases get_set h3 with⟨rfl,rfl,_⟩|⟨hb,h3⟩
   ·rw[si]at h6
    cases h6;rw[so a ha]at h5;exact absurd h5 (nn a s h1' (Sl.kA h2))
   ·rw[so a ha]at h5;rw[so b hb]at h6;exact R.dist a b s t q h1' h2 h3 h4 h5 h6
 ·intro j c q h1 h2
  rcases get_set h1 with⟨rfl,e,_⟩|⟨hj,h1⟩
  ·rw[si]at h2;cases h2;exact hF
  ·rw[so j hj]at h2;exact R.jE j c q h1 h2
 ·intro x hx
  obtain⟨h1,c,h2⟩:=R.fx x hx;have z:x.1≠i:=λz=>by rw[z,h0]at h2;cases h2;exact nio _ rfl
  exact⟨by rw[so _ z];exact h1,c,by rw[zaA λe=>z e.symm];exact h2⟩
 ·intro j c h1
  rcases get_set h1 with⟨rfl,e,_⟩|⟨hj,h1⟩
  ·cases e
  ·exact R.ioN j c h1
end
def sto(i:Nat)(x:RV×Rho):Option Rho:=match x.1.2 with
 | .fz=>hZ x.2 i (.fz x.1.1)
 | .new=>hZ x.2 i (.own x.1.1)
 | .at j=>if j=i then some x.2 else(kC x.1 x.2).bind λy=>hZ y.2 i (.fz y.1)
 | .ro=>none
def dR(i:Nat)(a:PM):SM:=fun ρ=>(a ρ).bind λx=>(sto i x).map .nx
theorem cG{i:Nat}{t:TE}{a:PM}(ha:ME t a):MS (Ac t (pP i)) (dR i a):=by
 intro F B H σ ρ o D R e q;obtain⟨x,e1,e⟩:=zaa e;obtain⟨ρ2,e2,e⟩:=zab e;cases e;refine ha F B H σ ρ x.1 x.2 _ R e1 λv B1 H1 E1 R1 V1 N1=>?_
 show D.nx (σ.set i (some v)) H1;obtain⟨⟨d,k⟩,ρ1⟩:=x;cases k with
 |fz=>exact q B1 H1 _ (R1.mJ V1 e2)
 |new=>exact q B1 H1 _ (R1.Ar V1 e2)
 |ro=>cases e2
 | «at» j=>
  have e2':(if j=i then some ρ1 else(kC (d,.at j) ρ1).bind λy=>hZ y.2 i (.fz y.1))=some ρ2:=e2
  obtain⟨s,h1,h2,h3,h4⟩:=V1;have h4' : σ[j]?=some (some v):=h4
  by_cases z:j=i
  ·rw[if_pos z]at e2'
   cases e2';subst z;have : σ.set j (some v)=σ:=by
    apply List.ext_getElem?;intro k
    by_cases hk:k=j
    ·subst hk
     obtain⟨hl,_⟩:=zac h4';rw[zav hl,h4']
    ·rw[zaA λe=>hk e.symm]
   rw[this];exact q B1 H1 _ R1
  ·rw[if_neg z]at e2'
   obtain⟨y,e3,e4⟩:=zaa e2';obtain⟨B2,R2,rp,E2⟩:=R1.frz (v:=v) (r:=(d,.at j)) (show Ap B1 σ v (d,.at j)from h4') e3;exact q B2 H1 _ (R2.mJ rp e4)
def Et(i:Nat)(f:Int->Int->Int)(a:PM):SM:=fun ρ=>match ρ[i]? with
 |some (.fz (.int x))=>((sv a ρ).bind asI).bind λy=>(hZ y.2 i (.fz (.int (f x y.1)))).map .nx
 |_=>none
theorem HQ{i:Nat}{f:Int->Int->Int}{t:TE}{a:PM}(ha:ME t a):MS (Jd i t (ipI f)) (Et i f a):=by
 intro F B H σ ρ o D R e q;unfold Et at e;split at e
 ·rename_i x hx
  obtain⟨y,e0,e⟩:=zaa e;obtain⟨z,e1,e2⟩:=zaa e0;obtain⟨ρ2,e3,e⟩:=zab e;cases e;obtain⟨w,h1,h2⟩:=R.slot i _ hx;cases h2;refine⟨_,h1,?_⟩;refine ha.sv F B H σ ρ z.1 z.2 _ R e1 λv B1 H1 E1 R1 V1 N1=>?_
  obtain⟨g1,g2⟩:=BX (b:=y.1) (ρ:=y.2) e2;have vv:=V1.view R1;rw[g1]at vv;rw[g2]at R1;exact⟨x,y.1,rfl,vv.int,q B1 H1 _ (R1.mJ (.int _) e3)⟩
 ·cases e
def MG(g:TG)(mg:D->Rho->Option Rho):Prop:=∀(F:Fr) (B H:Hp) (σ:St) (ρ:Rho) (v:V) (d:D) (ρ':Rho) (Q:St->Hp->Prop),Rel F B H σ ρ->Rep B v d->mg d ρ=some ρ'->(∀B' H' σ',Rel F B' H' σ' ρ'->aE B B'->Q σ' H')->g v σ H Q
def MGs(g:TGs)(mg:List D->Rho->Option Rho):Prop:=∀(F:Fr) (B H:Hp) (σ:St) (ρ:Rho) (vs:List V) (ds:List D) (ρ':Rho) (Q:St->Hp->Prop),Rel F B H σ ρ->aQ B vs ds->mg ds ρ=some ρ'->(∀B' H' σ',Rel F B' H' σ' ρ'->aE B B'->Q σ' H')->g vs σ H Q
def mgN(i:Nat):D->Rho->Option Rho:=λd ρ=>hZ ρ i (.fz d)
theorem cA{i:Nat}:MG (pP i) (mgN i):=λF B H σ ρ v d ρ' Q R rp e q=>q B H _ (R.mJ rp e) (aE.refl _)
def gZ:List D->Rho->Option Rho:=λds ρ=>match ds with
 | []=>some ρ
 |_=>none
def bK(g:D->Rho->Option Rho)(gs:List D->Rho->Option Rho):List D->Rho->Option Rho:=λds ρ=>match ds with
 |d::ds=>(g d ρ).bind fun ρ1=>gs ds ρ1
 |_=>none
theorem lD:MGs Hd gZ:=λF B H σ ρ vs ds ρ' Q R rp e q=>by
 cases rp with
 |nil=>cases e;exact⟨rfl,q B H σ R (aE.refl _)⟩
 |cons _ _=>cases e
theorem cj{g:TG}{gs:TGs}{m:D->Rho->Option Rho}{ms:List D->Rho->Option Rho}(h:MG g m)(hs:MGs gs ms):MGs (Bu g gs) (bK m ms):=λF B H σ ρ vs ds ρ' Q R rp e q=>by
 cases rp with
 |nil=>cases e
 |cons r rs=>
  obtain⟨ρ1,e1,e2⟩:=zaa e;exact⟨_,_,rfl,h F B H σ ρ _ _ ρ1 _ R r e1 λB1 H1 σ1 R1 s1=>hs F B1 H1 σ1 ρ1 _ _ ρ' Q R1 (rs.mono s1) e2 λB2 H2 σ2 R2 s2=>q B2 H2 σ2 R2 (s1.trans s2)⟩
def mgT(n:Nat)(ms:List D->Rho->Option Rho):D->Rho->Option Rho:=λd ρ=>(asT d).bind λds=>if ds.length=n then ms ds ρ else none
def oI(a:PM)(g:D->Rho->Option Rho):SM:=fun ρ=>(sv a ρ).bind λx=>(kC x.1 x.2).bind λy=>(g y.1 y.2).map .nx
theorem pq{t:TE}{tg:TG}{a:PM}{g:D->Rho->Option Rho}(ha:ME t a)(hg:MG tg g):MS (Ac t tg) (oI a g):=by
 intro F B H σ ρ o D R e q;obtain⟨x,e1,e⟩:=zaa e;obtain⟨y,e2,e⟩:=zaa e;obtain⟨ρ2,e3,e⟩:=zab e;cases e;refine ha.sv F B H σ ρ x.1 x.2 _ R e1 λv B1 H1 E1 R1 V1 N1=>?_
 have w:Ap B1 σ v x.1:=(Vl.weak (F:=F) (H:=H1) (ρ:=x.2) (vs:=[v]) (rs:=[x.1]) ⟨⟨V1,lC e1⟩,trivial⟩).1;obtain⟨B2,R2,rp,E2⟩:=R1.frz w e2;exact hg F B2 H1 σ y.2 v y.1 ρ2 _ R2 rp e3 λB' H' σ' R' _=>q B' H' σ' R'
def Jt(i:Nat)(a:PM):D->Rho->Option Rho:=λd ρ=>(qa ρ[i]?).bind λ_=>((sv a ρ).bind asI).bind λy=>(qa y.2[i]?).bind λds=>(ixN ds.length y.1).map λj=>putAt y.2 i (.list (ds.set j d))
def fI(c:Rho->Option (Bool×Rho))(b:SM):Nat->SM
 |0=>λ_=>none
 |n+1=>fun ρ=>(c ρ).bind λx=>if x.1=true then(b x.2).bind λo=>match o with
   | .nx ρ'=>fI c b n ρ'
   | .ct ρ'=>fI c b n ρ'
   | .bk ρ'=>some (.nx ρ')
   | .rt r ρ'=>some (.rt r ρ')
  else some (.nx x.2)
theorem v3{tc:TT}{tb:TS}{c:Rho->Option (Bool×Rho)}{b:SM}{n:Nat}(hc:MT tc c)(hb:MS tb b):MS (xG tc tb) (fI c b n):=by
 intro F B H σ ρ o D R e q;refine⟨λm σ H=>∃B ρ,Rel F B H σ ρ/\fI c b m ρ=some o,⟨n,B,ρ,R,e⟩,?_⟩
 rintro m σ1 H1 ⟨B1,ρ1,R1,e1⟩
 cases m with
 |zero=>cases e1
 |succ m=>
  obtain⟨x,e2,e3⟩:=zaa (show(c ρ1).bind _=some o from e1);refine hc F B1 H1 σ1 ρ1 x.1 x.2 _ R1 e2 λB2 H2 E2 R2=>?_
  by_cases h:x.1=true
  ·rw[if_pos h]at e3⊢
   obtain⟨w,e4,e5⟩:=zaa e3;refine⟨fun σ' H'=>∃B' ρ',Rel F B' H' σ' ρ'/\fI c b m ρ'=some o,fun σ' H' h'=>⟨m,Nat.lt_succ_self _,h'⟩,?_⟩
   refine hb F B2 H2 σ1 x.2 w _ R2 e4 ?_;cases w with
   |nx ρ'=>exact λB' H' σ' R'=>⟨B',ρ',R',e5⟩
   |ct ρ'=>exact λB' H' σ' R'=>⟨B',ρ',R',e5⟩
   |bk ρ'=>cases e5;exact q
   |rt r ρ'=>cases e5;exact q
  ·rw[if_neg h]at e3⊢
   cases e3;exact q B2 H2 σ1 R2
def forL(g:D->Rho->Option Rho)(b:SM):List D->SM
 | []=>fun ρ=>some (.nx ρ)
 |d::ds=>fun ρ=>(g d ρ).bind fun ρ1=>(b ρ1).bind λo=>match o with
   | .nx ρ'=>forL g b ds ρ'
   | .ct ρ'=>forL g b ds ρ'
   | .bk ρ'=>some (.nx ρ')
   | .rt r ρ'=>some (.rt r ρ')
def v7(it:Rho->Option (List D×Rho))(g:D->Rho->Option Rho)(b:SM):SM:=fun ρ=>(it ρ).bind λx=>forL g b x.1 x.2
section
variable{F:Fr}{B B1 H H1:Hp}{σ σ1:St}{ρ ρ1:Rho}
theorem Rel.up(R1:Rel F B1 H1 σ1 ρ1)(R:Rel ⟨B1,F.H,F.io,F.Z⟩ B H σ ρ):Rel F B H σ ρ :=
 ⟨R.sub,R1.sB.trans R.sB,R.sH,λq h z=>R.nB q h (R1.nB q h z),R.len,R.slot,R.dist,R.jE,R.fx,R.ioN,R.cO,R.exv,R.nz⟩
theorem Rel.down(R1:Rel F B1 H1 σ1 ρ1):Rel ⟨B1,F.H,F.io,F.Z⟩ B1 H1 σ1 ρ1 :=
 ⟨R1.sub,aE.refl _,R1.sH,λq h z=>z,R1.len,R1.slot,R1.dist,R1.jE,R1.fx,R1.ioN,R1.cO,R1.exv,R1.nz⟩
end
theorem oH.down{F:Fr}{B1 H1:Hp}{σ1:St}{ρ1:Rho}(R1:Rel F B1 H1 σ1 ρ1){D:Ends}{o:Out}(h:oH F D o):oH ⟨B1,F.H,F.io,F.Z⟩ D o:=by
 cases o with
 |nx ρ=>exact λB H σ R=>h B H σ (R1.up R)
 |bk ρ=>exact λB H σ R=>h B H σ (R1.up R)
 |ct ρ=>exact λB H σ R=>h B H σ (R1.up R)
 |rt r ρ=>exact λv B H σ R V=>h v B H σ (R1.up R) V
theorem tX{ti:TI}{tg:TG}{tb:TS}{it:Rho->Option (List D×Rho)}{g:D->Rho->Option Rho}{b:SM}(hi:MF ti it)(hg:MG tg g)(hb:MS tb b):MS (Bx ti tg tb) (v7 it g b):=by
 intro F B H σ ρ o D R e q;obtain⟨x,e1,e⟩:=zaa e;refine hi F B H σ ρ x.1 x.2 _ R e1 λJ B1 H1 E1 R1 I1=>?_
 obtain⟨ds,ρ1⟩:=x;have q':=q.down R1;refine⟨λi m σ H=>m=ds.length-i/\i<=ds.length/\∃B ρ,Rel ⟨B1,F.H,F.io,F.Z⟩ B H σ ρ/\forL g b (ds.drop i) ρ=some o,⟨ds.length,rfl,Nat.zero_le _,B1,ρ1,R1.down,e⟩,?_⟩
 rintro i m σ2 H2 ⟨rfl,hil,B2,ρ2,R2,e2⟩
 have sH:aE B1 H2:=R2.sB.trans R2.sub
 by_cases hlt:i<ds.length
 ·refine .inr ?_
  obtain⟨go,yl⟩:=(I1 H2 sH).2 i ds[i] (zaC hlt);rw[zbb hlt]at e2;obtain⟨ρ3,e3,e4⟩:=zaa (show(g ds[i] ρ2).bind _=some o from e2);obtain⟨w,e5,e6⟩:=zaa e4;refine⟨go,fun σ' H'=>∃B' ρ',Rel ⟨B1,F.H,F.io,F.Z⟩ B' H' σ' ρ'/\forL g b (ds.drop (i+1)) ρ'=some o,fun σ' H' h'=>⟨ds.length-(i+1),by omega,rfl,hlt,h'⟩,λy H3 hy=>?_⟩
  have had:∃B3,Rel ⟨B1,F.H,F.io,F.Z⟩ B3 H3 σ2 ρ2/\Rep B3 y ds[i]:=by
   rcases yl y H3 hy with⟨rfl,h2⟩|⟨p,xs,cs,h1,rfl,h3,rfl,h5⟩
   ·exact⟨B2,R2,h2.mono R2.sB⟩
   ·obtain⟨R3,E3,e3⟩:=R2.rq (xs:=xs) h3
    exact⟨_,R3,by rw[h1];exact .tup ax (h5.mono (R2.sB.trans e3))⟩
  obtain⟨B3,R3,rp⟩:=had;refine hg _ B3 H3 σ2 ρ2 y ds[i] ρ3 _ R3 rp e3 λB4 H4 σ4 R4 _=>?_
  refine hb _ B4 H4 σ4 ρ3 w _ R4 e5 ?_;cases w with
  |nx ρ'=>exact λB' H' σ' R'=>⟨B',ρ',R',e6⟩
  |ct ρ'=>exact λB' H' σ' R'=>⟨B',ρ',R',e6⟩
  |bk ρ'=>cases e6;exact q'
  |rt r ρ'=>cases e6;exact q'
 ·have hi':i=ds.length:=by omega
  subst hi';rw[List.drop_length]at e2;cases e2;exact .inl ⟨(I1 H2 sH).1,q' B2 H2 σ2 R2⟩
def xR:Out->Option (D×Bool)
 | .rt (d,.fz) _=>some (d,false)
 | .rt (d,.new) _=>some (d,true)
 | .rt (_,.at i) ρ=>match ρ[i]? with
  |some (.own d)=>some (d,true)
  |_=>none
 | .nx _=>some (.none,false)
 |_=>none
def fnM(n k:Nat)(b:SM)(ds:List D):Option (D×Bool):=if ds.length=n then(b (ds.map .fz++List.replicate k .no)).bind xR else none
theorem g6{n k:Nat}{b:SM}{t:TS}{N:List Str}{vs:List V}{H:Hp}{Q:VK}{E:XK}(hb:MS t b)(hN:N.length=n+k)(h:spM (fnM n k b) vs H Q E):t {nx:=λ_ H'=>Q .non H',rt:=Q} (L2.start N vs) H:=by
 obtain⟨B,ds,d,o,sub,tB,rp,e,q⟩:=h;unfold fnM at e;split at e
 case isFalse=>cases e
 rename_i hl
 obtain⟨w,e1,e2⟩:=zaa e;have hvl:vs.length=n:=rp.length.trans hl;have kD:∀(i:Nat) (s:Sl),(ds.map Sl.fz++List.replicate k .no)[i]?=some s->s.isRef=true->False:=λi s h1 h2=>by
  have:=zaj h1;rcases zae this with h|h
  ·obtain⟨c,_,rfl⟩:=List.mem_map.mp h;cases h2
  ·rw[zaG h]at h2;cases h2
 have ex0:∀i:Nat,(ds.map Sl.fz++List.replicate k .no)[i]?=some Sl.ex->False:=λi h1=>by
  have:=zaj h1;rcases zae this with h|h
  ·obtain⟨c,_,z⟩:=List.mem_map.mp h;cases z
  ·have:=zaG h;cases this
 have R:Rel ⟨B,H,[],λq=>H q≠none⟩ B H (L2.start N vs) (ds.map .fz++List.replicate k .no):=by
  refine⟨sub,aE.refl _,λ_ _ z _=>z,λ_ _ z=>z,?_,λi s hs=>?_,λi j s t p h1 h2=>(kD i s h1 (Sl.kA h2)).elim,λi c p h1=>(kD i _ h1 rfl).elim,(λx hx=>by cases hx),λi c h1=>(kD i _ h1 rfl).elim,tB,(λi h1=>(ex0 i h1).elim),λq o u h z=>by rw[z]at h;cases h⟩
  ·simp[L2.start,hl,hvl,hN]
  ·by_cases hi:i<n
   ·rw[zax (by simpa[hl]using hi),zao]at hs
    obtain⟨c,h1,rfl⟩:=zab hs;obtain⟨x,h2,h3⟩:=rp.get i c h1;refine⟨x,?_,h3⟩;unfold L2.start;rw[zax (by simpa[hvl]using hi),zao,h2]
    rfl
   ·rw[zaN (by simpa[hl]using zba hi)]at hs
    have:=zaG (zaj hs);subst this;trivial
 refine hb _ B H _ _ w _ R e1 ?_;have post:∀{B' H':Hp} {σ':St} {ρ':Rho},Rel ⟨B,H,[],λq=>H q≠none⟩ B' H' σ' ρ'->aE H H'/\aE B B'/\aE B' H'/\(∀q,H q≠none->B q=none->B' q=none)/\(∀q xs,H' q=some (.tup xs)->B' q=some (.tup xs))/\∀q o u,H' q=some (.frz o u)->H q≠none:=λR'=>
  ⟨λq u z=>R'.sH q u z (λx hx=>by cases hx),R'.sB,R'.sub,R'.nB,R'.cO,R'.nz⟩
 cases w with
 |nx ρ'=>
  cases e2;intro B' H' σ' R';obtain⟨p1,p2,p3,p4,p5,p6⟩:=post R';exact q _ B' H' ⟨p1,p2,p3,p4,p5,p6,.non⟩
 |bk ρ'=>cases e2
 |ct ρ'=>cases e2
 |rt r ρ'=>
  intro v B' H' σ' R' V';obtain⟨p1,p2,p3,p4,p5,p6⟩:=post R';obtain⟨c,kd⟩:=r;cases kd with
  |fz=>cases e2;exact q v B' H' ⟨p1,p2,p3,p4,p5,p6,V'⟩
  |new=>
   cases e2;obtain⟨p,rfl,h1,h2,h3,_⟩:=V';exact q _ B' H' ⟨p1,p2,p3,p4,p5,p6,⟨p,rfl,h2,h1,h3⟩⟩
  |ro=>cases e2
  | «at» i=>
   obtain⟨s,h1,h2,h3,h4⟩:=V';have e2':(match ρ'[i]? with
    |some (.own d)=>some (d,true)
    |_=>none)=some (d,o):=e2
   rw[h1]at e2';cases s with
   |own c'=>
    cases e2';obtain⟨p,g1,g2,g3⟩:=R'.slot i _ h1;have h4' : σ'[i]?=some (some v):=h4;rw[h4']at g1;cases g1;exact q _ B' H' ⟨p1,p2,p3,p4,p5,p6,⟨p,rfl,R'.jE i _ p h1 h4',g2,g3⟩⟩
   |_=>cases e2'
theorem e8{n k:Nat}{b:SM}{vs:List V}{H:Hp}{Q:VK}{E:XK}(h:spM (fnM n k b) vs H Q E):vs.length=n:=by
 obtain⟨B,ds,d,o,sub,tB,rp,e,q⟩:=h;unfold fnM at e;split at e
 ·rename_i hl;exact rp.length.trans hl
 ·cases e
end Mir
namespace Mir
open PySem L2 PySem.Spec PyProof.Rows
variable [Zc]
section
variable{X:Cx}
def Gn:R2:=λx y H Q=>∃l b xs zs,x=.ref l/\y=.ref b/\Rd H l (.lst xs)/\Rd H b (.lst zs)/\xs.length+zs.length<=sizeLine/\∀p,H p=none->Q (.ref p) (upd H p (.lst (xs++zs)))
theorem Eu:OpR X (binaryOp .Add) Gn:=by
 intro pins s σ H x y v u Q I rx ry h;obtain⟨l,b,xs,zs,rfl,rfl,hH,hB,hz,q⟩:=h;cases rx;cases ry;obtain⟨z,its,n,r,e⟩:=hH.ok I.hok;obtain⟨z2,its2,n2,r2,e2⟩:=hB.ok I.hok;have hl:=r.length;have hl2:=r2.length;refine PySem.P.add_list e e2 ?_ (by rw[zaK,zaK];omega)
 have ea:its.toArray++its2.toArray=(its++its2).toArray:=by simp
 rw[ea];exact⟨.ref _,_,I.Jl (t':=s.toks) (r.append r2) (by rw[zau];omega),rfl,q _ I.fresh⟩
def tY(K:zag):R2:=λx y H Q=>rI0 (λi j=>.int (i+j)) x y H Q\/Gn x y H Q\/(∃i j,x=.str i/\y=.str j/\i.length+j.length<=sizeLine/\Q (.str (i++j)) H)\/Gk K x y H Q
theorem y0:OpR X (binaryOp .Add) (tY X.K):=Hl.or (Eu.or (xJ.or Ec))
end
theorem fJ{B H:Hp}{i:Int}{k:VK->Prop}(h:∀Q:VK,Q (.int i) H->k Q):pY B H (.int i,false) k:=⟨_,.int i,h⟩
theorem iL{B H:Hp}{i:Bool}{k:VK->Prop}(h:∀Q:VK,Q (.bl i) H->k Q):pY B H (.bool i,false) k:=⟨_,.bl i,h⟩
theorem Ew{B H:Hp}{i:Str}{k:VK->Prop}(h:∀Q:VK,Q (.str i) H->k Q):pY B H (.str i,false) k:=⟨_,.str i,h⟩
def gK:D->D->Option (D×Bool)
 | .int i,.int j=>some (.int (i+j),false)
 | .list a,.list b=>cIf (a.length+b.length<=sizeLine) (some (.list (a++b),true)) none
 | .str a,.str b=>cIf (a.length+b.length<=sizeLine) (some (.str (a++b),false)) none
 | .tuple (c::a),.tuple b=>cIf ((c::a).length+b.length<=sizeLine/\b≠[]) (some (.tuple ((c::a)++b),true)) none
 |_,_=>none
theorem jl{K:zag}:OpJ (tY K) gK:=by
 intro B H x y c d res s hx hy e;unfold gK at e;split at e
 ·cases e
  have h1:=hx.int;have h2:=hy.int;subst h1 h2
  exact fJ λQ q=>.inl ⟨_,_,rfl,rfl,q⟩
 ·obtain⟨hz,e⟩:=cU e
  ·cases e
   obtain⟨p,xs,rfl,r1,rp1⟩:=hx.list s;obtain⟨p2,ys,rfl,r2,rp2⟩:=hy.list s;exact⟨xs++ys,rp1.append rp2,λQ q=>.inr (.inl ⟨_,_,_,_,rfl,rfl,r1,r2,by rw[rp1.length,rp2.length];exact hz,q⟩)⟩
 ·obtain⟨hz,e⟩:=cU e
  ·cases e
   have h1:=hx.str;have h2:=hy.str;subst h1 h2
   exact Ew λQ q=>.inr (.inr (.inl ⟨_,_,rfl,rfl,hz,q⟩))
 ·obtain⟨hz,e⟩:=cU e
  ·cases e
   obtain⟨p,xs,rfl,r1,rp1⟩:=hx.tuple s;obtain⟨p2,ys,rfl,r2,rp2⟩:=hy.tuple s;have hne:xs≠[]:=by intro z;subst z;cases rp1
   have KC:ys≠[]:=by intro z;subst z;cases rp2;exact hz.2 rfl
   refine⟨xs++ys,rp1.append rp2,λQ q=>.inr (.inr (.inr ⟨_,_,xs,ys,rfl,rfl,.inl (.inl r1),.inl (.inl r2),?_⟩))⟩
   exact⟨hne,by rw[rp1.length,rp2.length];exact hz.1,λz=>absurd z KC,λ_=>q⟩
 ·cases e
def gI(C:Int->Int->Prop)(f:Int->Int->Int):D->D->Option (D×Bool)
 | .int i,.int j=>cIf (C i j) (some (.int (f i j),false)) none
 |_,_=>none
theorem J_I{C:Int->Int->Prop}{f:Int->Int->Int}:OpJ (rI C λi j=>.int (f i j)) (gI C f):=by
 intro B H x y c d res s hx hy e;unfold gI at e;split at e
 ·obtain⟨hc,e⟩:=cU e
  ·cases e
   have h1:=hx.int;have h2:=hy.int;subst h1 h2
   exact fJ λQ q=>⟨_,_,rfl,rfl,hc,q⟩
 ·cases e
def gI0(f:Int->Int->Int):D->D->Option (D×Bool)
 | .int i,.int j=>some (.int (f i j),false)
 |_,_=>none
theorem Ce{f:Int->Int->Int}:OpJ (rI0 λi j=>.int (f i j)) (gI0 f):=by
 intro B H x y c d res s hx hy e;unfold gI0 at e;split at e
 ·cases e
  have h1:=hx.int;have h2:=hy.int;subst h1 h2
  exact fJ λQ q=>⟨_,_,rfl,rfl,q⟩
 ·cases e
def gB0(f:Int->Int->Bool):D->D->Option (D×Bool)
 | .int i,.int j=>some (.bool (f i j),false)
 |_,_=>none
theorem xS{f:Int->Int->Bool}:OpJ (rI0 λi j=>.bl (f i j)) (gB0 f):=by
 intro B H x y c d res s hx hy e;unfold gB0 at e;split at e
 ·cases e
  have h1:=hx.int;have h2:=hy.int;subst h1 h2
  exact iL λQ q=>⟨_,_,rfl,rfl,q⟩
 ·cases e
abbrev rj:=gI0 λi j=>i-j
abbrev gLe:=gB0 λi j=>decide (i<=j)
abbrev gGt:=gB0 λi j=>decide (j<i)
abbrev lU:=gI Hi λi j=>i/j
abbrev d7:=gI (λ_ j=>0<j) λi j=>i%j
abbrev Cf:=gI Hj λi j=>i^j.toNat
section
variable{X:Cx}
def y3:R2:=λx y H Q=>rI IntMulOk (λi j=>.int (i*j)) x y H Q\/Jm x y H Q
theorem tZ:OpR X (binaryOp .Mult) y3:=Ek.or Hz
end
def v8:D->D->Option (D×Bool)
 | .int i,.int j=>cIf (IntMulOk i j) (some (.int (i*j),false)) none
 |_,_=>none
theorem Cg:OpJ y3 v8:=by
 intro B H x y c d res s hx hy e;unfold v8 at e;split at e
 ·obtain⟨hc,e⟩:=cU e
  ·cases e
   have h1:=hx.int;have h2:=hy.int;subst h1 h2
   exact fJ λQ q=>.inl ⟨_,_,rfl,rfl,hc,q⟩
 ·cases e
mutual
theorem Rep.data{K:zag}{H:Hp}:∀{v:V} {d:D},Rep H v d->d.canLay0=true->iH K H v d
 |_,_,.non,_=>.non
 |_,_,.bl b,_=>.bl b
 |_,_,.int i,_=>.int i
 |_,_,.str x,_=>.str x
 |_,_,.lst h r,e=>.lst (hX h) (aQ.data r (by simpa[PyData.canLay0]using e))
 |_,_,.tup h r,e=>.tup (.inl (.inl h)) (aQ.data r (by simpa[PyData.canLay0]using e))
 |_,_,.dct _ _,e=>by simp[PyData.canLay0]at e
theorem aQ.data{K:zag}{H:Hp}:∀{v:List V} {d:List D},aQ H v d->PyData.canLayAll0 d=true->iI K H v d
 |_,_,.nil,_=>.nil
 |_,_,.cons a b,e=>by
  simp only[PyData.canLayAll0,Bool.and_eq_true]at e;exact .cons (Rep.data a e.1) (aQ.data b e.2)
end
def gEq:D->D->Option (D×Bool):=λc d=>if SeqAt.shaped c=true/\SeqAt.shaped d=true then some (.bool (PyData.eqv c d),false)else none
def gNe:D->D->Option (D×Bool):=λc d=>if SeqAt.shaped c=true/\SeqAt.shaped d=true then some (.bool (!PyData.eqv c d),false)else none
theorem nS{K:zag}:OpJ (HG K) gEq:=by
 intro B H x y c d res s hx hy e;unfold gEq at e;split at e
 ·rename_i h
  cases e;exact iL λQ q=>⟨_,_,(hx.rep s).data (SeqAt.canLay_of_shaped h.1),(hy.rep s).data (SeqAt.canLay_of_shaped h.2),h.1,h.2,q⟩
 ·cases e
theorem mK{K:zag}:OpJ (HH K) gNe:=by
 intro B H x y c d res s hx hy e;unfold gNe at e;split at e
 ·rename_i h
  cases e;exact iL λQ q=>⟨_,_,(hx.rep s).data (SeqAt.canLay_of_shaped h.1),(hy.rep s).data (SeqAt.canLay_of_shaped h.2),h.1,h.2,q⟩
 ·cases e
def isNone:D->Bool
 | .none=>true
 |_=>false
theorem Rep.isNone{H:Hp}{v:V}{d:D}(h:Rep H v d):decide (v=.non)=Mir.isNone d:=by cases h<;>rfl
def gIs:D->D->Option (D×Bool)
 |c,.none=>some (.bool (isNone c),false)
 |_,_=>none
def nU:D->D->Option (D×Bool)
 |c,.none=>some (.bool (!isNone c),false)
 |_,_=>none
theorem Ju:OpJ (λx y H Q=>y=.non/\Q (.bl (decide (x=.non))) H) gIs:=by
 intro B H x y c d res s hx hy e;unfold gIs at e;split at e
 ·cases e
  exact iL λQ q=>⟨hy.none,by rw[(hx.rep s).isNone];exact q⟩
 ·cases e
theorem za:OpJ (λx y H Q=>y=.non/\Q (.bl (!decide (x=.non))) H) nU:=by
 intro B H x y c d res s hx hy e;unfold nU at e;split at e
 ·cases e
  exact iL λQ q=>⟨hy.none,by rw[(hx.rep s).isNone];exact q⟩
 ·cases e
def KD:D->Option (D×Bool)
 | .int i=>some (.int (-i),false)
 |_=>none
def gIx:D->D->Option (D×Bool)
 | .list ds,.int i=>(atI ds i).map λd=>(d,false)
 | .tuple ds,.int i=>(atI ds i).map λd=>(d,false)
 |_,_=>none
theorem aQ.atI{H:Hp}{vs:List V}{ds:List D}(r:aQ H vs ds){i:Int}{d:D}(h:L2.atI ds i=some d):∃v,L2.atI vs i=some v/\Rep H v d:=by
 unfold L2.atI at h⊢;rw[r.length];obtain⟨j,h1,h2⟩:=zaa h;obtain⟨v,h3,h4⟩:=r.get j d h2;exact⟨v,by rw[h1];exact h3,h4⟩
theorem bV{K:zag}:OpJ (rIx K) gIx:=by
 intro B H x y c d res s hx hy e;unfold gIx at e;split at e
 ·obtain⟨w,h1,h2⟩:=zab e
  cases h2;obtain⟨p,xs,rfl,r1,rp1⟩:=hx.list s;have h2:=hy.int;subst h2
  obtain⟨v,h3,h4⟩:=rp1.atI h1;exact⟨v,h4,λQ q=>.inl ⟨_,_,_,_,rfl,rfl,hX r1,h3,q⟩⟩
 ·obtain⟨w,h1,h2⟩:=zab e
  cases h2;obtain⟨p,xs,rfl,r1,rp1⟩:=hx.tuple s;have h2:=hy.int;subst h2
  obtain⟨v,h3,h4⟩:=rp1.atI h1;exact⟨v,h4,λQ q=>.inr (.inl ⟨_,_,_,_,rfl,rfl,.inl (.inl r1),h3,q⟩)⟩
 ·cases e
def cutD(ds:List D)(lo hi:Option Int):List D:=(ds.drop (HT.sIx ds.length 0 lo)).take (HT.sIx ds.length ds.length hi-HT.sIx ds.length 0 lo)
theorem aQ.cut{H:Hp}{vs:List V}{ds:List D}(r:aQ H vs ds)(lo hi:Option Int):aQ H (Aj vs lo hi) (cutD ds lo hi):=by
 unfold Aj cutD;rw[r.length];exact(r.drop _).take _
def gSl:D->Option Int->Option Int->Option (D×Bool)
 | .list ds,lo,hi=>some (.list (cutD ds lo hi),true)
 |_,_,_=>none
theorem Ex{K:zag}:SlJ (Hw K) gSl:=by
 intro B H x c l u res s hx e;unfold gSl at e;split at e
 ·cases e
  obtain⟨p,xs,rfl,r1,rp1⟩:=hx.list s;exact⟨_,rp1.cut _ _,λQ q=>⟨_,_,rfl,hX r1,q⟩⟩
 ·cases e
def cH:List D->Option (D×Bool)
 | [.list ds]=>some (.int ds.length,false)
 | [.tuple ds]=>some (.int ds.length,false)
 | [.str x]=>cIf (x.length<=sizeLine) (some (.int x.length,false)) none
 |_=>none
theorem gm{B H:Hp}{vs:List V}{d:D}(h:Views B H vs [d]):∃v,vs=[v]/\View B H v d:=by
 match vs,h with
 | [v],⟨h,_⟩=>exact⟨v,rfl,h⟩
theorem HR{B H:Hp}{vs:List V}{c d:D}(h:Views B H vs [c,d]):∃v w,vs=[v,w]/\View B H v c/\View B H w d:=by
 match vs,h with
 | [v,w],⟨h,g,_⟩=>exact⟨v,w,rfl,h,g⟩
theorem dG{K:zag}:lZ (HK K) cH:=by
 intro B H vs ds res s h e;unfold cH at e;split at e
 ·cases e
  obtain⟨v,rfl,hh⟩:=gm h;obtain⟨p,xs,rfl,r1,rp1⟩:=hh.list s;exact fJ λQ q=>.inl ⟨_,_,rfl,.inl (hX r1),by rw[rp1.length];exact q⟩
 ·cases e
  obtain⟨v,rfl,hh⟩:=gm h;obtain⟨p,xs,rfl,r1,rp1⟩:=hh.tuple s;exact fJ λQ q=>.inl ⟨_,_,rfl,.inr (.inl (.inl r1)),by rw[rp1.length];exact q⟩
 ·obtain⟨hz,e⟩:=cU e
  ·cases e
   obtain⟨v,rfl,hh⟩:=gm h;have:=hh.str;subst this
   exact fJ λQ q=>.inr ⟨_,rfl,hz,q⟩
 ·cases e
def t5:List D->Option (D×Bool)
 | [.int i,.int j]=>some (.int (if j>i then j else i),false)
 |_=>none
def KG:List D->Option (D×Bool)
 | [.int i,.int j]=>some (.int (if j<i then j else i),false)
 |_=>none
def KH:List D->Option (D×Bool)
 | [.int i]=>some (.int (if i<0 then-i else i),false)
 |_=>none
def xT:List D->Option (D×Bool)
 | [.int i]=>some (.int i,false)
 | [.bool b]=>some (.int (if b then 1 else 0),false)
 |_=>none
theorem Gq:lZ (λxs H Q=>∃i j,xs=[.int i,.int j]/\Q (.int (if j>i then j else i)) H) t5:=by
 intro B H vs ds res s h e;unfold t5 at e;split at e
 ·cases e
  obtain⟨v,w,rfl,h1,h2⟩:=HR h;have:=h1.int;subst this
  have:=h2.int;subst this
  exact fJ λQ q=>⟨_,_,rfl,q⟩
 ·cases e
theorem Jv:lZ (λxs H Q=>(∃i,xs=[.int i]/\Q (.int i) H)\/∃k,xs=[.bl k]/\Q (.int (if k then 1 else 0)) H) xT:=by
 intro B H vs ds res s h e;unfold xT at e;split at e
 ·cases e
  obtain⟨v,rfl,h1⟩:=gm h;have:=h1.int;subst this
  exact fJ λQ q=>.inl ⟨_,rfl,q⟩
 ·cases e
  obtain⟨v,rfl,h1⟩:=gm h;have:=h1.bool;subst this
  exact fJ λQ q=>.inr ⟨_,rfl,q⟩
 ·cases e
def zb:List D->Option (D×Bool)
 | [.list ds]=>some (.list ds,true)
 | [.tuple ds]=>some (.list ds,true)
 |_=>none
theorem Ci{K:zag}:lZ (λxs H Q=>∃p ys,xs=[.ref p]/\(SqL K H p ys\/SqT K H p ys)/\∀l,H l=none->Q (.ref l) (upd H l (.lst ys))) zb:=by
 intro B H vs ds res s h e;unfold zb at e;split at e
 ·cases e
  obtain⟨v,rfl,hh⟩:=gm h;obtain⟨p,xs,rfl,r1,rp1⟩:=hh.list s;exact⟨xs,rp1,λQ q=>⟨_,_,rfl,.inl (hX r1),q⟩⟩
 ·cases e
  obtain⟨v,rfl,hh⟩:=gm h;obtain⟨p,xs,rfl,r1,rp1⟩:=hh.tuple s;exact⟨xs,rp1,λQ q=>⟨_,_,rfl,.inr (.inl (.inl r1)),q⟩⟩
 ·cases e
def tyD:D->String
 | .none=>"NoneType"
 | .bool _=>"bool"
 | .int _=>"int"
 | .str _=>"str"
 | .list _=>"list"
 | .tuple _=>"tuple"
 | .dict _=>"?"
theorem Rep.ty{H:Hp}{v:V}{d:D}(h:Rep H v d)(hd:tyD d≠"?"):tyN H v=tyD d:=by
 cases h with
 |non=>rfl
 |bl _=>rfl
 |int _=>rfl
 |str _=>rfl
 |lst h _=>
  rcases h with h|⟨o,h⟩
  ·unfold tyN;simp only[h];rfl
  ·unfold tyN;simp only[h];rfl
 |tup h _=>unfold tyN;simp only[h];rfl
 |dct _ _=>exact absurd rfl hd
def kE(n:String):D->Option (D×Bool):=λd=>if tyD d≠"?"/\n∈dw then some (.bool (mG (tyD d) n),false)else none
def lW(n:String)(a:PM):PM:=mUn (kE n) a
theorem kF{n:String}{ta:TE}{a:PM}(ha:ME ta a):ME (tCB HF (hI ta (hI (tC (.ty n)) tw))) (lW n a):=by
 intro F B H σ ρ r0 ρ' Q R e q;obtain⟨x,e1,e⟩:=zaa e;obtain⟨res,e4,e⟩:=zab e;cases e;refine ha.sv F B H σ ρ x.1 x.2 _ R e1 λv B1 H1 E1 R1 V1 N1=>?_
 unfold kE at e4;split at e4
 ·rename_i hd
  cases e4;have rp:=(V1.view R1).rep R1.sub;have ht:=rp.ty hd.1;have hk:tyD x.1.1∈cT:=by
   have h2:=hd.1
   revert h2
   cases x.1.1 with
   |none=>intro _;show "NoneType"∈cT;decide
   |bool _=>intro _;show "bool"∈cT;decide
   |int _=>intro _;show "int"∈cT;decide
   |str _=>intro _;show "str"∈cT;decide
   |list _=>intro _;show "list"∈cT;decide
   |tuple _=>intro _;show "tuple"∈cT;decide
   |dict _=>intro h2;exact absurd rfl h2
  exact⟨v,n,rfl,by rw[ht];exact hk,hd.2,by rw[ht];exact q _ B1 H1 E1 R1 (.bl _) λp z=>by cases z⟩
 ·cases e4
def iM:D->Bool
 | .none=>true
 | .bool _=>true
 | .int _=>true
 | .str _=>true
 |_=>false
theorem Rep.flat{H:Hp}{v:V}{d:D}(h:Rep H v d)(e:iM d=true):lY v=true:=by cases h<;>first|rfl|cases e
theorem aQ.uc{H:Hp}:∀{v:List V} {d:List D},aQ H v d->d.all iM=true->v.all lY=true
 |_,_,.nil,_=>rfl
 |_,_,.cons a b,e=>by
  simp only[List.all_cons,Bool.and_eq_true]at e⊢;exact⟨a.flat e.1,aQ.uc b e.2⟩
theorem Rep.eqv{H:Hp}{v w:V}{c d:D}(h:Rep H v c)(g:Rep H w d)(e:iM c=true)(e':iM d=true):eqV v w=PyData.eqv c d:=by
 cases h<;>first|(cases e;done)|(cases g<;>first|(cases e';done)|(simp[eqV,PyData.eqv]))
theorem aQ.countP{H:Hp}{w:V}{d:D}(g:Rep H w d)(e':iM d=true):∀{vs:List V} {ds:List D},aQ H vs ds->ds.all iM=true->vs.countP (λz=>eqV z w)=ds.countP λc=>PyData.eqv c d
 |_,_,.nil,_=>rfl
 |_,_,.cons a b,e=>by
  simp only[List.all_cons,Bool.and_eq_true]at e;rw[List.countP_cons,List.countP_cons,aQ.countP g e' b e.2,a.eqv g e.1 e']
def ie:List D->List D->Option (List D×D):=λds as=>match as with
 | [d]=>cIf (ds.length<sizeLine) (some (ds++[d],.none)) none
 |_=>none
theorem mL:tW mE ie:=by
 intro B H p xs ds vs as w hp rx s rv e;unfold ie at e;split at e
 ·obtain⟨hz,e⟩:=cU e
  ·cases e
   cases rv with
   |cons a b=>
    cases b;exact⟨_,_,rx.append (.cons a .nil),.non,λQ q=>⟨_,_,_,rfl,rfl,hp,by rw[rx.length];exact hz,q⟩⟩
 ·cases e
def KI:List D->List D->Option (List D×D):=λds as=>match as with
 | []=>(ds[ds.length-1]?).map λd=>(ds.dropLast,d)
 |_=>none
def nV:List D->List D->Option (List D×D):=λds as=>match as with
 | []=>some ([],.none)
 |_=>none
theorem Ey:tW BK nV:=by
 intro B H p xs ds vs as w hp rx s rv e;unfold nV at e;split at e
 ·cases e
  cases rv;exact⟨_,_,.nil,.non,λQ q=>⟨_,_,rfl,rfl,hp,q⟩⟩
 ·cases e
def mM:List D->List D->Option (List D×D):=λds as=>match as with
 | []=>some (ds.reverse,.none)
 |_=>none
theorem As:tW vM mM:=by
 intro B H p xs ds vs as w hp rx s rv e;unfold mM at e;split at e
 ·cases e
  cases rv;exact⟨_,_,rx.reverse,.non,λQ q=>⟨_,_,rfl,rfl,hp,q⟩⟩
 ·cases e
end Mir
namespace Mir
open PySem L2 PySem.Spec PyProof.Rows
variable [Zc]
section
variable{X:Cx}{K:zag}
theorem e9(h:X.K=K):OpR X (binaryOp .Add) (tY K):=h▸y0
theorem gp(h:X.K=K)(hu:X.A.units+64<cLine):OpR X (compareOp .Eq) (HG K):=h▸HI hu
theorem fK(h:X.K=K)(hu:X.A.units+64<cLine):OpR X (compareOp .NotEq) (HH K):=h▸HJ hu
theorem aC(h:X.K=K):IxR X (rIx K):=h▸Hv
theorem mN(h:X.K=K):SlR X (Hw K):=h▸Eg
theorem bc(h:X.K=K):dZ X (.builtin "len") (HK K):=h▸Ao
theorem qc(h:X.K=K):dZ X (.type "list") (λxs H Q=>∃p ys,xs=[.ref p]/\(SqL K H p ys\/SqT K H p ys)/\∀l,H l=none->Q (.ref l) (upd H l (.lst ys))):=h▸tN
variable{tg l o e:Expr}{es:List Expr}{tl to:TE}{t:TA}{name:Str}{apos cpos:Pos}{T id:String}{r:V->List V->Hp->VK->Prop}
theorem jm(h:X.K=K)(hl:PE X l tl):PI X tg l (vI K tl):=h▸D6 hl
theorem pz(h:X.K=K)(hl:PE X l tl):PI X tg l (D4 K tl):=h▸Hg hl
theorem ud(h:X.K=K)(pa:PlainAttrs T)(slot:Slot T name id)(hty:typeOf (.builtin id)=pure (.type "method_descriptor"))(hm:MtR X id r)(ho:PE X o to)
  (hbase:attributeBase o name X.env (eval o X.env)=eval o X.env:=by rfl) (hline:(apos.endLine==cpos.line)=true:=by rfl):PE X (.Call (.Attribute o name apos) [] [] cpos) (BH K T r to):=h▸Hy pa slot hty hm ho hbase hline
theorem fL(h:X.K=K)(pa:PlainAttrs T)(slot:Slot T name id)(hty:typeOf (.builtin id)=pure (.type "method_descriptor"))(hm:MtR X id r)(ho:PE X o to)(ha:PA X (e::es) t)
  (hbase:attributeBase o name X.env (eval o X.env)=eval o X.env:=by rfl)
  (hfew:((backTo cpos (starEach (e::es) X.env)).all (λx=>!x.1)&&(backToKw cpos (keywordEach [] X.env)).all (λx=>x.1.isSome)
   &&decide ((e::es).length+([]:List Keyword).length+(if([]:List Keyword).isEmpty then 0 else 1)<30))=true:=by rfl)
  (hline:(apos.endLine==cpos.line)=true:=by rfl) (hs:starEach (e::es) X.env=(false,eval e X.env)::starEach es X.env:=by rfl) (hplain:(backTo cpos (starEach es X.env)).any (·.1)=false:=by rfl) :
  PE X (.Call (.Attribute o name apos) (e::es) [] cpos) (tBM K T r to t):=h▸Jk pa slot hty hm ho ha hbase hfew hline hs hplain
end
def pA(K:zag):Bool:=K.all λp=>match p.2.cls with
 | .type n=>n !="list"
 |_=>true
theorem ku{α:Type}:∀{l:List (Addr×α)} {a:Addr} {o : α},l.lookup a=some o->(a,o)∈l
 |(b,c)::l,a,o,h=>by
  rw[za8]at h
  by_cases z:a=b
  ·subst z
   rw[beq_self_eq_true]at h;cases h;exact zas
  ·rw[beq_eq_false_iff_ne.mpr z]at h
   exact zak _ (ku h)
theorem Jw{K:zag}(h:pA K=true){H:Hp}{a:Addr}{xs:List V}(s:SqL K H a xs):Rd H a (.lst xs):=by
 rcases s with s|⟨o,its,n,hk,hc,_⟩
 ·exact s
 ·have:=List.all_eq_true.mp h _ (ku hk)
  dsimp only at this;rw[hc]at this;simp at this
theorem sk{H:Hp}:∀ns:List Int,aQ H (ns.map V.int) (ns.map PyData.int)
 | []=>.nil
 |n::ns=>.cons (.int n) (sk ns)
theorem HS{K:zag}(h:pA K=true){f:List D->Option (D×Bool)}(T:∀ns:List Int,ns.length<=63->(∀k∈ns,Builtin.Int.intBits k<=1048576)->f [.list (ns.map .int)]=some (.bool true,false))
  (vs:List V) (H:Hp) (Q:VK) (E:XK) (s:BO K vs H Q E):spM f vs H Q E:=by
 obtain⟨a,ns,rfl,hS,hl,hb,q⟩:=s;refine⟨H,_,_,_,aE.refl _,λ_ _ z=>z,.cons (.lst (Jw h hS) (sk ns)) .nil,T ns hl hb,λv B' H' P=>?_⟩
 have pv:Rep B' v (.bool true):=P.val;cases pv;exact q _
end Mir
namespace Mir
open PySem L2
variable [Zc]
abbrev dI(l:List Int):D:=.list (l.map .int)
theorem Jx(i j:Int):(i==j)=decide (i=j):=by by_cases h:i=j<;>simp[h]
theorem zc(i j:Int):gEq (.int i) (.int j)=some (.bool (decide (i=j)),false):=by
 unfold gEq;rw[if_pos ⟨rfl,rfl⟩];simp only[PyData.eqv,Jx]
theorem zd(i j:Int):gNe (.int i) (.int j)=some (.bool (!decide (i=j)),false):=by
 unfold gNe;rw[if_pos ⟨rfl,rfl⟩];simp only[PyData.eqv,Jx]
theorem Cj(i j:Bool):gEq (.bool i) (.bool j)=some (.bool (i==j),false):=by
 unfold gEq;rw[if_pos ⟨rfl,rfl⟩];simp only[PyData.eqv]
theorem Ck(i j:Bool):gNe (.bool i) (.bool j)=some (.bool (!(i==j)),false):=by
 unfold gNe;rw[if_pos ⟨rfl,rfl⟩];simp only[PyData.eqv]
theorem oJ:∀l:List Int,PyData.canLayAll0 (l.map .int)=true
 | []=>rfl
 |_::l=>by simp only[List.map_cons,PyData.canLayAll0,PyData.canLay0,oJ l,Bool.and_self]
theorem xU(l:List Int):(dI l).depth<=2:=by
 have h:∀l:List Int,PyData.depthAll (l.map .int)<=1:=by
  intro l
  induction l with
  |nil=>simp[PyData.depthAll]
  |cons a l ih=>simp only[List.map_cons,PyData.depthAll,PyData.depth];omega
 have:=h l;simp only[dI,PyData.depth];omega
theorem shaped_ints(l:List Int):SeqAt.shaped (dI l)=true:=by
 unfold SeqAt.shaped;have h:=xU l;rw[zaH (by omega),Bool.and_true]
 simp only[dI,PyData.canLay0,oJ]
theorem oK:∀a b:List Int,PyData.eqvAll (a.map .int) (b.map .int)=decide (a=b)
 | [],[]=>by simp[PyData.eqvAll]
 | [],_::_=>by simp[PyData.eqvAll]
 |_::_,[]=>by simp[PyData.eqvAll]
 |x::a,y::b=>by
  simp only[List.map_cons,PyData.eqvAll,PyData.eqv,oK a b]
  by_cases h:x=y<;>by_cases g:a=b<;>simp[h,g]
theorem v9(a b:List Int):PyData.eqv (dI a) (dI b)=decide (a=b):=by simp only[dI,PyData.eqv,oK]
theorem wa(a b:List Int):gEq (dI a) (dI b)=some (.bool (decide (a=b)),false):=by
 unfold gEq;rw[if_pos ⟨shaped_ints a,shaped_ints b⟩,v9]
theorem Cm(a b:List Int):gNe (dI a) (dI b)=some (.bool (!decide (a=b)),false):=by
 unfold gNe;rw[if_pos ⟨shaped_ints a,shaped_ints b⟩,v9]
theorem wb(i:Int):kE "int" (.int i)=some (.bool true,false):=by simp[kE,tyD,dw,mG]
theorem jH(i:Int):kE "bool" (.int i)=some (.bool false,false):=by simp[kE,tyD,dw,mG]
theorem l5(i:List D):kE "list" (.list i)=some (.bool true,false):=by simp[kE,tyD,dw,mG]
theorem dU(i:List D):kE "tuple" (.tuple i)=some (.bool true,false):=by simp[kE,tyD,dw,mG]
theorem tH{α:Type}(xs:List α)(i:Nat):atI xs (i:Int)=xs[i]?:=by
 unfold atI ixN;rw[if_pos (by omega)]
 split
 ·simp
 ·rename_i h
  rw[Option.bind_none,List.getElem?_eq_none (by omega)]
theorem BD{α:Type}(xs:List α):atI xs (-1)=xs.getLast?:=by
 unfold atI ixN;rw[if_neg (by omega)]
 cases xs with
 |nil=>simp
 |cons a l=>
  rw[if_pos (by simp only[List.length_cons];omega),zai,List.getLast?_eq_getElem?]
  congr 1
  simp only[List.length_cons];omega
theorem Ez{α β:Type}(f : α->β)(xs:List α)(i:Int):atI (xs.map f) i=(atI xs i).map f:=by
 simp only[atI,List.length_map,List.getElem?_map];cases ixN xs.length i with
 |none=>rfl
 |some j=>simp only[Option.bind_some]
theorem qd{c:Rho->Option (Bool×Rho)}{b:SM}{n:Nat}{ρ ρ1 ρ2:Rho}{o:Option Out}(h1:c ρ=some (true,ρ1))(h2:b ρ1=some (.nx ρ2))(h3:fI c b n ρ2=o):fI c b (n+1) ρ=o:=by
 unfold fI;simp only[h1,h2,Option.bind_some,if_true,h3]
theorem lE{c:Rho->Option (Bool×Rho)}{b:SM}{n:Nat}{ρ ρ1:Rho}(h1:c ρ=some (false,ρ1)):fI c b (n+1) ρ=some (.nx ρ1):=by
 unfold fI;simp only[h1,Option.bind_some,Bool.false_eq_true,if_false]
theorem Au(i:Int):eW (.int i) false=true:=rfl
theorem xV(i:Bool):eW (.bool i) false=true:=rfl
theorem Av(i:Str):eW (.str i) false=true:=rfl
theorem xW:eW .none false=true:=rfl
theorem xX(l:List D):eW (.list l) false=false:=rfl
theorem Aw(l:List D):eW (.tuple l) false=bq l:=by simp only[eW,eg]
theorem Ax(l:List D):eW (.list l) true=bq l:=rfl
theorem qe:bq []=true:=by simp only[bq]
theorem qf(i:Int)(l:List D):bq (.int i::l)=bq l:=by simp only[bq,eg,Bool.true_and]
theorem wc(i:Bool)(l:List D):bq (.bool i::l)=bq l:=by simp only[bq,eg,Bool.true_and]
theorem wd(i l:List D):bq (.list i::l)=false:=by simp only[bq,eg,Bool.false_and]
theorem oM:∀l:List Int,bq (l.map .int)=true
 | []=>qe
 |i::l=>by rw[zaz,qf,oM l]
theorem HU(d:D):kn (d,false)=(d,.fz):=rfl
theorem HV(l:List D):kn (.list l,true)=(.list l,.new):=rfl
theorem HW(l:List D):kn (.tuple l,true)=(.tuple l,.fz):=rfl
theorem KJ(d:D):kO d false=(d,.fz):=rfl
theorem KL(d:D):kO d true=(d,.new):=rfl
theorem aX{a b:SM}{ρ ρ1:Rho}{o:Option Out}(h1:a ρ=some (.nx ρ1))(h2:b ρ1=o):cg a b ρ=o:=by
 unfold cg;simp only[h1,Option.bind_some,h2]
theorem xY{a b:SM}{ρ ρ1:Rho}{r:RV}(h1:a ρ=some (.rt r ρ1)):cg a b ρ=some (.rt r ρ1):=by
 unfold cg;simp only[h1,Option.bind_some]
theorem fE{n k:Nat}{b:SM}{ds:List D}{o:Out}{w:D×Bool}(h0:ds.length=n)(h1:b (ds.map .fz++List.replicate k .no)=some o)(h2:xR o=some w):fnM n k b ds=some w:=by
 unfold fnM;rw[if_pos h0,h1,zai,h2]
theorem dB{f:List D->Option (D×Bool)}{m:Rho->Option (List RV×Rho)}{ρ ρ1:Rho}{rs:List RV}{d:D}{o:Bool}(h1:m ρ=some (rs,ρ1))(h2:f (rs.map (·.1))=some (d,o))(h3:eW d o=true):cK f m ρ=some (kO d o,ρ1):=by
 unfold cK;rw[h1,zai];dsimp only;rw[h2,zai,if_pos h3]
theorem dJ{a:PM}{ρ ρ1:Rho}{r:RV}(h:a ρ=some (r,ρ1)):fH a ρ=some (.rt r ρ1):=by
 unfold fH;rw[h,zaT]
theorem qg{it:Rho->Option (List D×Rho)}{g:D->Rho->Option Rho}{b:SM}{ρ ρ1:Rho}{ds:List D}{o:Option Out}(h1:it ρ=some (ds,ρ1))(h2:forL g b ds ρ1=o):v7 it g b ρ=o:=by
 unfold v7;rw[h1,zai];exact h2
theorem HX{m:Rho->Option (List RV×Rho)}{ρ ρ1:Rho}{j:Int}{k:Kd}(h1:m ρ=some ([(.int j,k)],ρ1))(h2 : -(2^62)<=j/\j<2^62):tT m ρ=some (vX 0 j.toNat,ρ1):=by
 unfold tT;rw[h1,zai];show cIf _ _ _=_;rw[bZ h2]
end Mir
namespace Mir
open PySem L2
variable [Zc]
def SF(s:Sl):Prop:=s=.no\/∃d,s=.fz d
theorem SF.fz(d:D):SF (.fz d):=.inr ⟨d,rfl⟩
theorem SF.no:SF .no:=.inl rfl
theorem EB{n k:Nat}(h:k<n):ixN n (k:Int)=some k:=by
 unfold ixN;rw[if_pos (by omega),if_pos (by omega),Int.toNat_natCast]
theorem sr{n:Nat}(h:n<=100000):n<=sizeLine:=zaX h (by decide)
theorem we{n:Nat}(h:n<=100000):n<sizeLine:=Nat.lt_of_le_of_lt h (by decide)
end Mir
namespace Mir
open PySem L2 PySem.Spec PyProof.Rows
variable [Zc]
end Mir
namespace Mir
open PySem L2
variable [Zc]
def inD(x:D)(ds:List D):Bool:=ds.any λd=>PyData.eqv d x
theorem aQ.inV{H:Hp}{v:V}{c:D}(g:Rep H v c)(e:iM c=true):∀{vs:List V} {ds:List D},aQ H vs ds->ds.all iM=true->inV v vs=inD c ds
 |_,_,.nil,_=>rfl
 |_,_,.cons a b,h=>by
  simp only[List.all_cons,Bool.and_eq_true]at h;have:=aQ.inV g e b h.2;unfold L2.inV inD at this⊢;rw[List.any_cons,List.any_cons,this,a.eqv g h.1 e]
def xZ:D->D->Option (D×Bool)
 |x,.list ds=>if iM x=true/\ds.all iM=true then some (.bool (!inD x ds),false)else none
 |_,_=>none
theorem EC{K:zag}:OpJ (rIn K true) xZ:=by
 intro B H x y c d res s hx hy e;unfold xZ at e;split at e
 ·split at e
  ·rename_i hf
   cases e;obtain⟨p,xs,rfl,r1,rp1⟩:=hy.list s;have rx:=hx.rep s;have rp:=rp1.mono s;refine iL λQ q=>⟨_,_,rfl,.inl (hX r1),rx.flat hf.1,rp.uc hf.2,?_⟩
   rw[aQ.inV rx hf.1 rp hf.2];exact q
  ·cases e
 ·cases e
section
variable{X:Cx}{K:zag}
theorem su(h:X.K=K):OpR X (compareOp .NotIn) (rIn K true):=h▸tK
end
end Mir
namespace Mir
open PySem L2
variable [Zc]
section
variable{a b:PM}{ρ ρ1 ρ2 ρ3:Rho}{x y d:D}{r:RV}{res:D×Bool}
theorem jI(h:a ρ=some ((d,.new),ρ1)):sv a ρ=some ((d,.fz),ρ1):=by unfold sv;rw[h]
theorem ao(h:a ρ=some ((d,.fz),ρ1)):sv a ρ=some ((d,.fz),ρ1):=by unfold sv;rw[h]
theorem qh{i:Nat}(h:a ρ=some ((d,.at i),ρ1)):sv a ρ=some ((d,.at i),ρ1):=by unfold sv;rw[h]
theorem bP{g:D->D->Option (D×Bool)}(h1:sv a ρ=some ((x,.fz),ρ1))(h2:sv b ρ1=some (r,ρ2))(h3:g x r.1=some res):mOp g a b ρ=some (kn res,ρ2):=by
 unfold mOp;rw[h1,zai];dsimp only;rw[h2,zai];dsimp only[mj,Option.bind_some];rw[h3,zaT]
theorem Jy{g:D->D->Option (D×Bool)}{i:Nat}(h1:sv a ρ=some ((x,.at i),ρ1))(h2:sv b ρ1=some (r,ρ2))(h4 : ρ2[i]?=some (.own y))(h3:g y r.1=some res):mOp g a b ρ=some (kn res,ρ2):=by
 unfold mOp;rw[h1,zai];dsimp only;rw[h2,zai];dsimp only[mj];rw[h4];dsimp only[Option.bind_some];rw[h3,zaT]
theorem aB{m:Rho->Option (List RV×Rho)}{rs:List RV}(h1:sv a ρ=some ((x,.fz),ρ1))(h2:m ρ1=some (rs,ρ2)):ak a m ρ=some ((x,.fz)::rs,ρ2):=by
 unfold ak;rw[h1,zai];dsimp only;rw[h2,zai];rfl
theorem pB{m:Rho->Option (List RV×Rho)}{rs:List RV}{i:Nat}(h1:sv a ρ=some ((x,.at i),ρ1))(h2:m ρ1=some (rs,ρ2))(h4 : ρ2[i]?=some (.own y)):ak a m ρ=some ((y,.at i)::rs,ρ2):=by
 unfold ak;rw[h1,zai];dsimp only;rw[h2,zai];dsimp only[mj];rw[h4];rfl
theorem aR:aF ρ=some ([],ρ):=rfl
theorem av{i:Nat}(h : ρ[i]?=some (.fz d)):ah i ρ=some ((d,.fz),ρ):=by unfold ah;rw[h]
theorem jJ{i:Nat}(h : ρ[i]?=some (.own d)):ah i ρ=some ((d,.at i),ρ):=by unfold ah;rw[h]
theorem dC{g:List D->Option (D×Bool)}{m:Rho->Option (List RV×Rho)}{rs:List RV}(h1:m ρ=some (rs,ρ1))(h2:g (rs.map (·.1))=some res):mCB g m ρ=some (kn res,ρ1):=by
 unfold mCB;rw[h1,zai];dsimp only;rw[h2,zaT]
theorem dD{i:Nat}(h1:a ρ=some ((d,.fz),ρ1))(h2:hZ ρ1 i (.fz d)=some ρ2):dR i a ρ=some (.nx ρ2):=by
 unfold dR;rw[h1,zai];dsimp only[sto];rw[h2,zaT]
theorem gz{i:Nat}(h1:a ρ=some ((d,.new),ρ1))(h2:hZ ρ1 i (.own d)=some ρ2):dR i a ρ=some (.nx ρ2):=by
 unfold dR;rw[h1,zai];dsimp only[sto];rw[h2,zaT]
theorem wg{c:Rho->Option (Bool×Rho)}{s t:SM}{o:Option Out}(h1:c ρ=some (true,ρ1))(h2:s ρ1=o):gY c s t ρ=o:=by
 unfold gY;rw[h1,zai];dsimp only;rw[if_pos rfl,h2]
theorem jK{c:Rho->Option (Bool×Rho)}{s t:SM}{o:Option Out}(h1:c ρ=some (false,ρ1))(h2:t ρ1=o):gY c s t ρ=o:=by
 unfold gY;rw[h1,zai];dsimp only;rw[if_neg zam,h2]
theorem test_ev{k:Kd}{v:Bool}(h:a ρ=some ((.bool v,.fz),ρ1)):aN a ρ=some (v,ρ1):=by
 unfold aN;rw[ao h];rfl
theorem fM{c:Rho->Option (Bool×Rho)}{v:Bool}(h:c ρ=some (v,ρ1)):gG c ρ=some (!v,ρ1):=by unfold gG;rw[h];rfl
theorem ze{c e:Rho->Option (Bool×Rho)}{o:Option (Bool×Rho)}(h:c ρ=some (true,ρ1))(h2:e ρ1=o):nR c e ρ=o:=by unfold nR;rw[h];simpa using h2
theorem Gr{c e:Rho->Option (Bool×Rho)}(h:c ρ=some (false,ρ1)):nR c e ρ=some (false,ρ1):=by unfold nR;rw[h];rfl
theorem KN{c e:Rho->Option (Bool×Rho)}(h:c ρ=some (true,ρ1)):mOr c e ρ=some (true,ρ1):=by unfold mOr;rw[h];rfl
theorem jd{c e:Rho->Option (Bool×Rho)}{o:Option (Bool×Rho)}(h:c ρ=some (false,ρ1))(h2:e ρ1=o):mOr c e ρ=o:=by unfold mOr;rw[h];simpa using h2
theorem Ay(a b:List D)(h:a.length+b.length<=100000):gK (.list a) (.list b)=some (.list (a++b),true):=by
 show cIf _ _ _=_;rw[bZ (sr h)]
theorem je{m:Rho->Option (List RV×Rho)}{rs:List RV}{ds:List D}(h1:m ρ=some (rs,ρ1))(h2:hU rs ρ1=some (ds,ρ2))(h3:ds.length<=100000):iJ m ρ=some ((.list ds,.new),ρ2):=by
 unfold iJ;rw[h1,zai];dsimp only;rw[h2,zai];dsimp only;rw[bZ (sr h3)]
theorem dE{m:Rho->Option (List RV×Rho)}{rs:List RV}{ds:List D}(h1:m ρ=some (rs,ρ1))(h2:hU rs ρ1=some (ds,ρ2))(h3:ds.length<=100000):f9 m ρ=some ((.tuple ds,.fz),ρ2):=by
 unfold f9;rw[h1,zai];dsimp only;rw[h2,zai];dsimp only;rw[bZ (sr h3)]
theorem wj{fr:List (Str×Nat)}{it:Rho->Option (List D×Rho)}{c:Rho->Option (Bool×Rho)}{e:PM}{ds ys:List D}(h1:it ρ=some (ds,ρ1))(h2:iY c e (fr.map λp=>bI ρ1 p.2) ds=some ys)(h3:ys.length<=100000) :
  mLC fr it c e ρ=some ((.list ys,.new),ρ1):=by
 unfold mLC;rw[h1,zai];dsimp only;rw[h2,zai,bZ (we h3)]
theorem ya{d:List D}{k:Kd}(h1:sv a ρ=some ((.list d,k),ρ1)):o7 a ρ=some (d,ρ1):=by
 unfold o7;rw[h1];rfl
theorem HY{d:List D}(h1:sv a ρ=some ((.list d,.fz),ρ1)):B7 a ρ=some (d,ρ1):=by
 unfold B7;rw[h1];rfl
theorem i3(h:a ρ=some (r,ρ1)):gJ a ρ=some (.nx ρ1):=by unfold gJ;rw[h];rfl
end
theorem iC{e:PM}{ρn:Rho}{α:Type}{f : α->D}{g : α->D}:∀l:List α,(∀x∈l,∃ρ,sv e (.fz (f x)::ρn)=some ((g x,.fz),ρ))->iY pZ e ρn (l.map f)=some (l.map g)
 | [],_=>rfl
 |x::l,h=>by
  obtain⟨ρ,h1⟩:=h x zas;have h2:=iC l λy hy=>h y (zak _ hy)
  rw[zaz,zaz];unfold iY;simp only[pZ,h1,h2,asF,Option.bind_some,Option.map_some,if_true]
theorem Cn(n:Nat):vX 0 n=(List.range n).map λk:Nat=>PyData.int (k:Int):=by
 unfold vX
 congr 1
 funext k
 rw[Int.zero_add]
theorem Gs{i j:Int}(h:(-(2^64)<i/\i<2^64)\/(-(2^64)<j/\j<2^64)):IntMulOk i j:=Hk.ok h
def IE(m:PM)(ρ:Rho)(v:Int):Prop:=m ρ=some ((.int v,.fz),ρ)
def BE(m:PM)(ρ:Rho)(v:Bool):Prop:=m ρ=some ((.bool v,.fz),ρ)
section
variable{a b:PM}{ρ:Rho}{i j:Int}{u v:Bool}
theorem Az{g:D->D->Option (D×Bool)}{k:Int}(h1:IE a ρ i)(h2:IE b ρ j)(h3:g (.int i) (.int j)=some (.int k,false)):IE (mOp g a b) ρ k:=bP (ao h1) (ao h2) h3
theorem ED{g:D->D->Option (D×Bool)}{k:Bool}(h1:IE a ρ i)(h2:IE b ρ j)(h3:g (.int i) (.int j)=some (.bool k,false)):BE (mOp g a b) ρ k:=bP (ao h1) (ao h2) h3
theorem cS:IE (mC (.int i)) ρ i:=rfl
theorem b8{k:Nat}(h : ρ[k]?=some (.fz (.int i))):IE (ah k) ρ i:=av h
theorem jL(h1:IE a ρ i)(h2:IE b ρ j):IE (mOp gK a b) ρ (i+j):=Az h1 h2 rfl
theorem qi(h1:IE a ρ i)(h2:IE b ρ j):IE (mOp rj a b) ρ (i-j):=Az h1 h2 rfl
theorem Co{C:Int->Int->Prop}{f:Int->Int->Int}(h:C i j):gI C f (.int i) (.int j)=some (.int (f i j),false):=by show cIf _ _ _=_;rw[bZ h]
theorem yb(h1:IE a ρ i)(h2:IE b ρ j)(h:IntMulOk i j):IE (mOp v8 a b) ρ (i*j):=Az h1 h2 (by show cIf _ _ _=_;rw[bZ h])
theorem qj(h1:IE a ρ i)(h2:IE b ρ j)(h:Hi i j):IE (mOp lU a b) ρ (i/j):=Az h1 h2 (Co h)
theorem fN(h1:IE a ρ i)(h2:IE b ρ j)(h : 0<j):IE (mOp d7 a b) ρ (i%j):=Az h1 h2 (Co (C:=λ_ j=>0<j) h)
theorem HZ(h1:IE a ρ i)(h2:IE b ρ j)(h:Hj i j):IE (mOp Cf a b) ρ (i^j.toNat):=Az h1 h2 (Co h)
theorem qk(h1:IE a ρ i)(h2:IE b ρ j):BE (mOp gEq a b) ρ (decide (i=j)):=ED h1 h2 (zc i j)
theorem oN(h1:IE a ρ i)(h2:IE b ρ j):BE (mOp gNe a b) ρ (!decide (i=j)):=ED h1 h2 (zd i j)
theorem Cp(h1:IE a ρ i)(h2:IE b ρ j):BE (mOp gLe a b) ρ (decide (i<=j)):=ED h1 h2 rfl
theorem l6(h1:IE a ρ i)(h2:IE b ρ j):BE (mOp gGt a b) ρ (decide (j<i)):=ED h1 h2 rfl
theorem BE.t(h:BE a ρ v):aN a ρ=some (v,ρ):=test_ev (k:=.fz) h
theorem BE.is(h:BE a ρ u)(e:u=v):BE a ρ v:=e▸h
theorem IE.is(h:IE a ρ i)(e:i=j):IE a ρ j:=e▸h
theorem lF{f:List D->Option (D×Bool)}{m:Rho->Option (List RV×Rho)}{rs:List RV}(h1:m ρ=some (rs,ρ))(h2:f (rs.map (·.1))=some (.int i,false)):IE (cK f m) ρ i:=dB h1 h2 rfl
theorem lG{f:List D->Option (D×Bool)}{m:Rho->Option (List RV×Rho)}{rs:List RV}(h1:m ρ=some (rs,ρ))(h2:f (rs.map (·.1))=some (.bool v,false)):BE (cK f m) ρ v:=dB h1 h2 rfl
theorem IE.cons{m:Rho->Option (List RV×Rho)}{rs:List RV}(h:IE a ρ i)(h2:m ρ=some (rs,ρ)):ak a m ρ=some ((.int i,.fz)::rs,ρ):=aB (ao h) h2
theorem Ia(h1:BE a ρ u)(h2:u=true->BE b ρ v)(h3:u=false->v=false):BE (vS a b) ρ v:=by
 unfold BE vS;rw[h1.t];cases u with
 |true=>exact h2 rfl
 |false=>rw[h3 rfl];rfl
theorem KO{k:Nat}{ρ':Rho}(h:IE a ρ i)(h2:hZ ρ k (.fz (.int i))=some ρ'):dR k a ρ=some (.nx ρ'):=dD h h2
theorem ig(h:BE a ρ u)(e:u=v):aN a ρ=some (v,ρ):=e▸h.t
theorem gg{m:Rho->Option (List RV×Rho)}{rs:List RV}(h:IE a ρ i)(h2:m ρ=some (rs,ρ)):ak a m ρ=some ((.int i,.fz)::rs,ρ):=aB (ao h) h2
theorem tEq(h1:IE a ρ i)(h2:IE b ρ j)(h:i=j):aN (mOp gEq a b) ρ=some (true,ρ):=ig (qk h1 h2) (zaH h)
theorem tNe(h1:IE a ρ i)(h2:IE b ρ j)(h:i≠j):aN (mOp gEq a b) ρ=some (false,ρ):=ig (qk h1 h2) (zaO h)
end
theorem kG{n:String}{a:PM}{ρ ρ1:Rho}{d:D}{k:Kd}{v:Bool}(h1:sv a ρ=some ((d,k),ρ1))(h2:kE n d=some (.bool v,false)):lW n a ρ=some ((.bool v,.fz),ρ1):=by
 unfold lW mUn;rw[h1,zai];dsimp only;rw[h2];rfl
theorem wm{α:Type}(x : α)(l:List α):atI (x::l) 0=some x:=tH (x::l) 0
theorem jn{g:D->Rho->Option Rho}{b:SM}{d:D}{ds:List D}{ρ ρ1 ρ2:Rho}{o:Option Out}(h1:g d ρ=some ρ1)(h2:b ρ1=some (.nx ρ2))(h3:forL g b ds ρ2=o):forL g b (d::ds) ρ=o:=by
 show((g d ρ).bind _)=_;rw[h1,zai,h2];exact h3
theorem EF{g:D->Rho->Option Rho}{b:SM}{d:D}{ds:List D}{ρ ρ1 ρ2:Rho}{r:RV}(h1:g d ρ=some ρ1)(h2:b ρ1=some (.rt r ρ2)):forL g b (d::ds) ρ=some (.rt r ρ2):=by
 show((g d ρ).bind _)=_;rw[h1,zai,h2];rfl
end Mir
namespace Mir
open PySem L2
variable [Zc]
def asS:D->Option (List D)
 | .list ds=>some ds
 | .tuple ds=>some ds
 |_=>none
def mgU(n:Nat)(ms:List D->Rho->Option Rho):D->Rho->Option Rho:=λd ρ=>(asS d).bind λds=>if ds.length=n then ms ds ρ else none
theorem lH{K:zag}{n:Nat}{gs:TGs}{ms:List D->Rho->Option Rho}(h:MGs gs ms):MG (BQ K n gs) (mgU n ms):=λF B H σ ρ v d ρ' Q R rp e q=>by
 obtain⟨ds,e1,e2⟩:=zaa e;cases rp with
 |tup hp rs=>
  cases e1;split at e2
  ·rename_i hn
   exact⟨_,_,rfl,.inl (.inl (.inl (R.sub _ _ hp))),by rw[rs.length];exact hn,h F B H σ ρ _ _ ρ' Q R rs e2 q⟩
  ·cases e2
 |lst hp rs=>
  cases e1;split at e2
  ·rename_i hn
   exact⟨_,_,rfl,.inr (hX (dy R.sub hp)),by rw[rs.length];exact hn,h F B H σ ρ _ _ ρ' Q R rs e2 q⟩
  ·cases e2
 |_=>cases e1
end Mir
namespace L2
open PySem PySem.Spec PyProof.Rows
variable{X:Cx}
end L2
namespace Mir
open PySem L2
variable [Zc]
theorem Cq(a b:Int):t5 [.int a,.int b]=some (.int (max a b),false):=by
 show some (PyData.int (if b>a then b else a),false)=_
 rw[show(if b>a then b else a)=max a b by split<;>omega]
end Mir
namespace Mir
open PySem L2
inductive K7 where
 |ok (o:Out)|er (c:Str) (ρ:Rho)
end Mir
namespace L2
open PySem PySem.Spec PyProof.Rows
theorem Vals.picks{xs:List V}{us:List Value}(r:Vals xs us):∀is:List Nat,Vals (is.filterMap (xs[·]?)) (is.filterMap (us[·]?))
 | []=>.nil
 |i::is=>by
  cases h:xs[i]? with
  |none=>rw[List.filterMap_cons_none h,List.filterMap_cons_none (r.none_of h)];exact r.picks is
  |some x=>
   obtain⟨u,h1,h2⟩:=r.get h;rw[List.filterMap_cons_some h,List.filterMap_cons_some h1];exact .cons h2 (r.picks is)
end L2
namespace Mir
open PySem L2
variable [Zc]
theorem aQ.picks{H:Hp}{vs:List V}{ds:List D}(r:aQ H vs ds):∀is:List Nat,aQ H (is.filterMap (vs[·]?)) (is.filterMap (ds[·]?))
 | []=>.nil
 |i::is=>by
  cases h:ds[i]? with
  |none=>
   have h':vs[i]?=none:=by
    rw[List.getElem?_eq_none_iff]at h⊢;rw[r.length];exact h
   rw[List.filterMap_cons_none h,List.filterMap_cons_none h'];exact r.picks is
  |some x=>
   obtain⟨u,h1,h2⟩:=r.get i x h;rw[List.filterMap_cons_some h,List.filterMap_cons_some h1];exact .cons h2 (r.picks is)
end Mir
namespace Mir
open PySem L2
section
variable [Zc]
def LF(B:Hp):Prop:=∀q o,B q=some o->∃xs,o=.tup xs
structure FrP(F:Fr):Prop where
 lf:LF F.B
 io:F.io=[]
 zh:∀q,F.Z q->F.H q≠none
def MSP(t:TS)(m:SM):Prop:=∀(F:Fr) (B H:Hp) (σ:St) (ρ:Rho) (o:Out) (D:Ends),FrP F->Rel F B H σ ρ->m ρ=some o->oH F D o->t D σ H
theorem MS.p{t:TS}{m:SM}(h:MS t m):MSP t m:=λF B H σ ρ o D _ R e q=>h F B H σ ρ o D R e q
def tups(H:Hp):Hp:=λq=>match H q with
 |some (.tup xs)=>some (.tup xs)
 |_=>none
theorem aQ.put{B B':Hp}(k:∀q xs,B q=some (.tup xs)->B' q=some (.tup xs)){x:V}{c c':D}(hr:Rep B' x c'):∀{vs:List V} {ds:List D} (j:Nat),aQ B vs ds->vs[j]?=some x->ds[j]?=some c->bq (ds.set j .none)=true->aQ B' vs (ds.set j c')
 |_,_,_,.nil,h,_,_=>by simp at h
 |_,_,0,.cons a b,h1,h2,e=>by
  simp only[List.getElem?_cons_zero,Option.some.injEq]at h1;subst h1;simp only[List.set_cons_zero,bq,Bool.and_eq_true]at e;exact .cons hr (b.dH k e.2)
 |_,_,j+1,.cons a b,h1,h2,e=>by
  simp only[List.set_cons_succ,bq,Bool.and_eq_true]at e;exact .cons (a.dH k e.1) (aQ.put k hr j b (by simpa using h1) (by simpa using h2) e.2)
structure Jz(B H:Hp)(p:Addr)(v:V)(B' H':Hp)(d:D)(o:Bool)(d1:D):Prop where
 eH:∀q u,q≠p->H q=some u->H' q=some u
 eB:aE B B'
 sub:aE B' H'
 nb:∀q,H q≠none->B q=none->B' q=none
 tB:∀q xs,H' q=some (.tup xs)->B' q=some (.tup xs)
 nz:∀q o u,H' q=some (.frz o u)->H q≠none
 own:Own B' H' p d1
 val:if o=true then∃p,v=.ref p/\H p=none/\B' p=none/\Own B' H' p d else Rep B' v d
def spI(f:List D->Option ((D×Bool)×D)):Sp:=λvs H Q _=>∃B p us d0 ds r d1,vs=.ref p::us/\aE B H/\(∀q xs,H q=some (.tup xs)->B q=some (.tup xs))/\B p=none/\Own B H p d0/\aQ B us ds/\f (d0::ds)=some (r,d1)/\∀v B' H',Jz B H p v B' H' r.1 r.2 d1->Q v H'
def nW:Out->Rho
 | .nx ρ=>ρ
 | .rt _ ρ=>ρ
 | .bk ρ=>ρ
 | .ct ρ=>ρ
def io0:Rho->Option D
 | .io d::_=>some d
 |_=>none
theorem Ib{ρ:Rho}{d:D}(h:io0 ρ=some d) : ρ[0]?=some (Sl.io d):=by
 unfold io0 at h;split at h
 ·cases h;rfl
 ·cases h
def fnI(n k:Nat)(b:SM):List D->Option ((D×Bool)×D)
 | []=>none
 |d0::ds=>if ds.length+1=n then(b (.io d0::ds.map .fz++List.replicate k .no)).bind λo=>(xR o).bind λr=>(io0 (nW o)).map λd=>(r,d)else none
theorem EG{n k:Nat}{b:SM}{t:TS}{N:List Str}{vs:List V}{H:Hp}{Q:VK}{E:XK}(hb:MS t b)(hN:N.length=n+k)(h:spI (fnI n k b) vs H Q E):t {nx:=λ_ H'=>Q .non H',rt:=Q} (L2.start N vs) H:=by
 obtain⟨B,p,us,d0,ds,r0,d1,rfl,sub,tB,hB,ow,rp,e,q⟩:=h;simp only[fnI]at e;split at e
 case isFalse=>cases e
 rename_i hl
 obtain⟨w,e1,e2⟩:=zaa e;obtain⟨r,e2,e3⟩:=zaa e2;obtain⟨d,e3,e4⟩:=zab e3;cases e4;have hvl:us.length+1=n:=by rw[rp.length];exact hl
 have kD:∀(i:Nat) (s:Sl),(Sl.io d0::ds.map Sl.fz++List.replicate k .no)[i]?=some s->s.isRef=true->i=0/\s=.io d0:=λi s h1 h2=>by
  cases i with
  |zero=>rw[zay,zaP]at h1;cases h1;exact⟨rfl,rfl⟩
  |succ i=>
   rw[zay,zat]at h1;have:=zaj h1;rcases zae this with h|h
   ·obtain⟨c,_,rfl⟩:=List.mem_map.mp h;cases h2
   ·rw[zaG h]at h2;cases h2
 have ex0:∀i:Nat,(Sl.io d0::ds.map Sl.fz++List.replicate k .no)[i]?=some Sl.ex->False:=λi h1=>by
  cases i with
  |zero=>rw[zay,zaP]at h1;cases h1
  |succ i=>
   rw[zay,zat]at h1;have:=zaj h1;rcases zae this with h|h
   ·obtain⟨c,_,z⟩:=List.mem_map.mp h;cases z
   ·have:=zaG h;cases this
 have st0:(L2.start N (.ref p::us))[0]?=some (some (.ref p)):=by
  unfold L2.start;rw[zaz,zay,zaP]
 have R:Rel ⟨B,H,[(0,p)],λq=>H q≠none⟩ B H (L2.start N (.ref p::us)) (.io d0::ds.map .fz++List.replicate k .no):=by
  refine⟨sub,aE.refl _,λ_ _ z _=>z,λ_ _ z=>z,?_,λi s hs=>?_,λi j s t p h1 h2 h3 h4 _ _=>(kD i s h1 (Sl.kA h2)).1.trans (kD j t h3 h4).1.symm,(λi c p h1=>by have:=(kD i _ h1 rfl).2;cases this),(λx hx=>?_),(λi c h1=>?_),tB,(λi h1=>(ex0 i h1).elim),λq o u h z=>by rw[z]at h;cases h⟩
  ·simp[L2.start,hl,hvl,hN];omega
  ·cases i with
   |zero=>
    rw[zay,zaP]at hs;cases hs;exact⟨p,st0,hB,ow⟩
   |succ i=>
    rw[zay,zat]at hs
    by_cases hi:i<ds.length
    ·rw[zax (by simpa using hi),zao]at hs
     obtain⟨c,h1,rfl⟩:=zab hs;obtain⟨x,h2,h3⟩:=rp.get i c h1;refine⟨x,?_,h3⟩;unfold L2.start;rw[zaz,zay,zat,zax (by rw[zal,rp.length];exact hi),zao,h2]
     rfl
    ·rw[zaN (by simpa using zba hi)]at hs
     have:=zaG (zaj hs);subst this;trivial
  ·simp only[List.mem_cons,List.not_mem_nil,or_false]at hx
   subst hx;exact⟨st0,d0,rfl⟩
  ·obtain⟨rfl,_⟩:=kD i _ h1 rfl
   exact⟨p,by simp⟩
 refine hb _ B H _ _ w _ R e1 ?_;have post:∀{B' H':Hp} {σ':St} {ρ':Rho},nW w=ρ'->Rel ⟨B,H,[(0,p)],λq=>H q≠none⟩ B' H' σ' ρ'->(∀q u,q≠p->H q=some u->H' q=some u)/\aE B B'/\aE B' H'/\(∀q,H q≠none->B q=none->B' q=none)/\(∀q xs,H' q=some (.tup xs)->B' q=some (.tup xs))/\(∀q o u,H' q=some (.frz o u)->H q≠none)/\Own B' H' p d1:=fun{B' H' σ' ρ'} hw R'=>by
  refine⟨λq u n z=>R'.sH q u z (λx hx=>?_),R'.sB,R'.sub,R'.nB,R'.cO,R'.nz,?_⟩
  ·simp only[List.mem_cons,List.not_mem_nil,or_false]at hx
   subst hx;exact λz=>n z.symm
  ·rw[hw]at e3
   have h0:=Ib e3;obtain⟨p',g1,g2,g3⟩:=R'.slot 0 _ h0;obtain⟨g4,_⟩:=R'.fx (0,p) (by simp)
   rw[g4]at g1;cases g1;exact g3
 cases w with
 |nx ρ'=>
  cases e2;intro B' H' σ' R';obtain⟨p1,p2,p3,p4,p5,p6,p7⟩:=post rfl R';exact q _ B' H' ⟨p1,p2,p3,p4,p5,p6,p7,.non⟩
 |bk ρ'=>cases e2
 |ct ρ'=>cases e2
 |rt r' ρ'=>
  intro v B' H' σ' R' V';obtain⟨p1,p2,p3,p4,p5,p6,p7⟩:=post rfl R';obtain⟨c,kd⟩:=r';cases kd with
  |fz=>cases e2;exact q v B' H' ⟨p1,p2,p3,p4,p5,p6,p7,V'⟩
  |new=>
   cases e2;obtain⟨p,rfl,h1,h2,h3,_⟩:=V';exact q _ B' H' ⟨p1,p2,p3,p4,p5,p6,p7,⟨p,rfl,h2,h1,h3⟩⟩
  |ro=>cases e2
  | «at» i=>
   obtain⟨s,h1,h2,h3,h4⟩:=V';have e2':(match ρ'[i]? with
    |some (.own d)=>some (d,true)
    |_=>none)=some r0:=e2
   rw[h1]at e2';cases s with
   |own c'=>
    cases e2';obtain⟨p,g1,g2,g3⟩:=R'.slot i _ h1;have h4' : σ'[i]?=some (some v):=h4;rw[h4']at g1;cases g1;exact q _ B' H' ⟨p1,p2,p3,p4,p5,p6,p7,⟨p,rfl,R'.jE i _ p h1 h4',g2,g3⟩⟩
   |_=>cases e2'
theorem EH{n k:Nat}{b:SM}{vs:List V}{H:Hp}{Q:VK}{E:XK}(h:spI (fnI n k b) vs H Q E):vs.length=n:=by
 obtain⟨B,p,us,d0,ds,r0,d1,rfl,sub,tB,hB,ow,rp,e,q⟩:=h;simp only[fnI]at e;split at e
 ·rename_i hl;rw[zaw,rp.length];exact hl
 ·cases e
def ownAt(ρ:Rho)(i:Nat):Option Sl:=match ρ[i]? with
 |some s=>if s.d3=true then some s else none
 |none=>none
theorem iN{ρ:Rho}{i:Nat}{s:Sl}(h:ownAt ρ i=some s) : ρ[i]?=some s/\s.d3=true:=by
 unfold ownAt at h;split at h
 ·rename_i s' h0
  split at h
  ·rename_i h1;cases h;exact⟨h0,h1⟩
  ·cases h
 ·cases h
def ue(i:Nat)(f:List D->Option ((D×Bool)×D))(m:Rho->Option (List RV×Rho)):PM:=fun ρ=>(ownAt ρ i).bind λ_=>(m ρ).bind λx=>(hU x.1 x.2).bind λy=>(ownAt y.2 i).bind λs=>(f (slD s::y.1)).map λw=>(kO w.1.1 w.1.2,y.2.set i (s.put w.2))
theorem Own.uf{B H:Hp}{p:Addr}{d:D}(h:Own B H p d)(a:Obj)(u:HO):H p≠some (.frz a u):=by cases h with
 |lst h _=>rw[h];simp
 |dct h _=>rw[h];simp
theorem Cr{f:List D->Option ((D×Bool)×D)}{E:XK}{i:Nat}{t:TA}{m:Rho->Option (List RV×Rho)}(h:MA t m):ME (kq (spI f) [] E (hI (my i) t)) (ue i f m):=by
 intro F B H σ ρ r0 ρ' Q R e q;obtain⟨s0,e0,e⟩:=zaa e;obtain⟨x,e1,e⟩:=zaa e;obtain⟨y,e2,e⟩:=zaa e;obtain⟨s,e4,e⟩:=zaa e;obtain⟨w,e3,e⟩:=zab e;cases e;obtain⟨hs0,ho0⟩:=iN e0;obtain⟨hs,ho⟩:=iN e4;obtain⟨p,hv,_,_⟩:=R.ownAt hs0 ho0;refine⟨_,hv,?_⟩;refine h F B H σ ρ x.1 x.2 _ R e1 λvs B1 H1 E1 R1 V1=>?_
 show spI f (V.ref p::vs++[]) H1 Q E;rw[zaR];obtain⟨B2,R2,rp,E2⟩:=Rel.vT R1 V1.weak e2;obtain⟨p',hv',hB,ow⟩:=R2.ownAt hs ho;rw[hv]at hv';cases hv';obtain⟨oo,hoo⟩:=ow.there;obtain⟨r,d1⟩:=w;refine⟨B2,p,vs,slD s,y.1,r,d1,rfl,R2.sub,R2.cO,hB,ow,rp,e3,λv B' H' P=>?_⟩
 obtain⟨o1,ho1⟩:=P.own.there;have hB':B' p=none:=P.nb p (by rw[hoo];simp) hB
 have eH:aE H1 (upd H' p oo):=λc u hc=>by
  by_cases z:c=p
  ·subst z;rw[hoo]at hc;cases hc;exact ax
  ·rw[aq z];exact P.eH c u z hc
 have sub:aE B' (upd H' p oo):=λc u hc=>by
  rw[aq (λz=>by rw[z,hB']at hc;cases hc)];exact P.sub c u hc
 have tB:∀c xs,upd H' p oo c=some (.tup xs)->B' c=some (.tup xs):=λc xs hc=>by
  by_cases z:c=p
  ·subst z;rw[ax]at hc;cases hc;exact absurd hoo (ow.kB xs)
  ·rw[aq z]at hc;exact P.tB c xs hc
 have nz:∀c a u,upd H' p oo c=some (.frz a u)->H1 c≠none:=λc a u hc=>by
  by_cases z:c=p
  ·subst z;rw[hoo];simp
  ·rw[aq z]at hc;exact P.nz c a u hc
 have R3:=R2.grow P.eB eH sub P.nb tB nz;have E3:Ext σ y.2 B2 H1 y.2 B' (upd H' p oo):=Ext.grow P.eB eH P.nb;have back:upd (upd H' p oo) p o1=H':=by
  funext c
  by_cases z:c=p
  ·subst z;rw[ax,ho1]
  ·rw[aq z,aq z]
 obtain⟨R4,E4⟩:=R3.write (o:=o1) (d:=d1) hs ho hv ⟨(λxs z=>by rw[z]at ho1;exact P.own.kB xs ho1),λa u z=>by rw[z]at ho1;exact P.own.uf a u ho1⟩ (by rw[back];exact P.own)
 rw[back]at R4 E4;have EE:=E1.trans (E2.trans (E3.trans E4));obtain⟨d,o⟩:=r;cases o with
 |false=>
  have pv:Rep B' v d:=P.val;exact q v B' H' EE R4 pv λp z=>by cases z
 |true=>
  obtain⟨p2,rfl,h1,h2,h3⟩:∃p,v=.ref p/\H1 p=none/\B' p=none/\Own B' H' p d:=P.val;have fr:=R2.free h1;refine q _ B' H' EE R4 ⟨p2,rfl,h2,fr.2.1,h3,λj t h4 h5 h6=>?_⟩ λp' _ z=>by cases z;exact E1.live p2 h1
  rcases get_set h4 with⟨rfl,_,_⟩|⟨_,h4⟩
  ·rw[hv]at h6
   cases h6;rw[h1]at hoo;cases hoo
  ·exact fr.2.2 j t h4 h5 h6
theorem Cs{f:List D->Option ((D×Bool)×D)}{m:Rho->Option (List RV×Rho)}{i:Nat}{s s':Sl}{rs:List RV}{ds:List D}{d d0 d1:D}{o:Bool}{ρ ρ1 ρ2:Rho}(h0:ownAt ρ i=some s')(h1:m ρ=some (rs,ρ1))(h2:hU rs ρ1=some (ds,ρ2))(h3:ownAt ρ2 i=some s)(h4:f (slD s::ds)=some ((d,o),d1)):ue i f m ρ=some (kO d o,ρ2.set i (s.put d1)):=by
 unfold ue;rw[h0,zai,h1,zai];dsimp only
 rw[h2,zai];dsimp only
 rw[h3,zai,h4];rfl
theorem Gu{a b:PM}{ρ ρ1 ρ2:Rho}{x y:D}{r:RV}{res:D×Bool}{g:D->D->Option (D×Bool)}{i:Nat}(h1:sv a ρ=some ((x,.at i),ρ1))(h2:sv b ρ1=some (r,ρ2))(h4 : ρ2[i]?=some (.io y))(h3:g y r.1=some res):mOp g a b ρ=some (kn res,ρ2):=by
 unfold mOp;rw[h1,zai];dsimp only;rw[h2,zai];dsimp only[mj];rw[h4];dsimp only[Option.bind_some];rw[h3,zaT]
theorem yc{d:D}{ρ:Rho}{i:Nat}(h : ρ[i]?=some (.io d)):ah i ρ=some ((d,.at i),ρ):=by unfold ah;rw[h]
theorem Ic{n k:Nat}{b:SM}{d0 d1:D}{ds:List D}{o:Out}{r:D×Bool}(hl:ds.length+1=n)(h:b (.io d0::ds.map .fz++List.replicate k .no)=some o)(hr:xR o=some r)(h0:io0 (nW o)=some d1):fnI n k b (d0::ds)=some (r,d1):=by
 simp only[fnI];rw[if_pos hl,h,zai,hr,zai,h0];rfl
theorem JA{a b:PM}{ρ ρ1 ρ2:Rho}{x:D}{r:RV}{res:D×Bool}{g:D->D->Option (D×Bool)}(h1:sv a ρ=some ((x,.ro),ρ1))(h2:sv b ρ1=some (r,ρ2))(h3:g x r.1=some res):mOp g a b ρ=some (kn res,ρ2):=by
 unfold mOp;rw[h1,zai];dsimp only;rw[h2,zai];dsimp only[mj,Option.bind_some];rw[h3,zaT]
def Two(H0 B' H':Hp)(v:V)(c:D×D):Prop:=∃a p q,v=.ref a/\H' a=some (.tup [.ref p,.ref q])/\p≠q/\H0 p=none/\H0 q=none/\B' p=none/\B' q=none/\Own B' H' p c.1/\Own B' H' q c.2
structure JB(B H:Hp)(v:V)(B' H':Hp)(c:D×D):Prop where
 eH:aE H H'
 eB:aE B B'
 sub:aE B' H'
 nb:∀q,H q≠none->B q=none->B' q=none
 tB:∀q xs,H' q=some (.tup xs)->B' q=some (.tup xs)
 nz:∀q o u,H' q=some (.frz o u)->H q≠none
 val:Two H B' H' v c
def spD(f:List D->Option (D×D)):Sp:=λvs H Q _=>∃B ds c,aE B H/\(∀q xs,H q=some (.tup xs)->B q=some (.tup xs))/\aQ B vs ds/\f ds=some c/\∀v B' H',JB B H v B' H' c->Q v H'
def OkD(F:Fr)(E:Ends)(c:D×D):Prop:=∀v B' H' σ' ρ',Rel F B' H' σ' ρ'->Two F.H B' H' v c->E.rt v H'
def MD(t:TS)(m:Rho->Option (D×D)):Prop:=∀(F:Fr) (B H:Hp) (σ:St) (ρ:Rho) (c:D×D) (E:Ends),Rel F B H σ ρ->m ρ=some c->OkD F E c->t E σ H
def mO(a:SM)(b:Rho->Option (D×D)):Rho->Option (D×D):=fun ρ=>(a ρ).bind λo=>match o with
 | .nx ρ'=>b ρ'
 |_=>none
theorem nX{t u:TS}{a:SM}{b:Rho->Option (D×D)}(ha:MS t a)(hb:MD u b):MD (Bn t u) (mO a b):=by
 intro F B H σ ρ c E R e q;obtain⟨x,e1,e⟩:=zaa e;cases x with
 |nx ρ'=>exact ha F B H σ ρ _ {E with nx:=u E} R e1 λB' H' σ' R'=>hb F B' H' σ' ρ' c E R' e q
 |rt r ρ'=>cases e
 |bk ρ'=>cases e
 |ct ρ'=>cases e
def zf(i j:Nat):Rho->Option (D×D):=fun ρ=>match ρ[i]?,ρ[j]? with
 |some (.own c1),some (.own c2)=>if i=j then none else some (c1,c2)
 |_,_=>none
theorem Ct{i j:Nat}:MD (Bp (D9 (hI (my i) (hI (my j) tw)))) (zf i j):=by
 intro F B H σ ρ c E R e q;unfold zf at e;split at e
 case h_2=>cases e
 rename_i c1 c2 hi hj
 split at e
 ·cases e
 rename_i hij
 cases e;obtain⟨p,vi,bi,oi⟩:=R.slot i _ hi;obtain⟨r,vj,bj,oj⟩:=R.slot j _ hj;have hne:p≠r:=λz=>hij (R.dist i j _ _ p hi rfl hj rfl vi (z▸vj))
 refine⟨_,vi,_,vj,(by simp only[List.length_cons,List.length_nil,sizeLine];omega),λa ha=>?_⟩
 obtain⟨R',_,eB⟩:=R.rq (xs:=[.ref p,.ref r]) ha;have pa:p≠a:=λz=>oi.jD (z▸ha)
 have ra:r≠a:=λz=>oj.jD (z▸ha)
 refine q _ _ _ σ ρ R' ⟨a,p,r,rfl,ax,hne,R.jE i _ p hi vi,R.jE j _ r hj vj,by rw[aq pa];exact bi,by rw[aq ra];exact bj,oi.mono eB λo h=>by rw[aq pa];exact h,oj.mono eB λo h=>by rw[aq ra];exact h⟩
def Cu(f:List D->Option (D×D))(m:Rho->Option (List RV×Rho)):Rho->Option (D×D):=fun ρ=>(m ρ).bind λx=>(hU x.1 x.2).bind λy=>f y.1
theorem EI{f:List D->Option (D×D)}{X:XK}{t:TA}{m:Rho->Option (List RV×Rho)}(h:MA t m):MD (Bp (kq (spD f) [] X t)) (Cu f m):=by
 intro F B H σ ρ c E R e q;obtain⟨x,e1,e⟩:=zaa e;obtain⟨y,e2,e3⟩:=zaa e;refine h F B H σ ρ x.1 x.2 _ R e1 λvs B1 H1 E1 R1 V1=>?_
 show spD f (vs++[]) H1 E.rt X;rw[zaR];obtain⟨B2,R2,rp,E2⟩:=Rel.vT R1 V1.weak e2;refine⟨B2,y.1,c,R2.sub,R2.cO,rp,e3,λv B' H' P=>?_⟩
 have R3:=R2.grow P.eB P.eH P.sub P.nb P.tB P.nz;obtain⟨a,p,r,rfl,ha,hne,hp,hr,bp,br,op,or⟩:=P.val;exact q _ B' H' σ _ R3 ⟨a,p,r,rfl,ha,hne,(R2.free hp).2.1,(R2.free hr).2.1,bp,br,op,or⟩
def AA(c:Rho->Option (Bool×Rho))(a b:Rho->Option (D×D)):Rho->Option (D×D):=fun ρ=>(c ρ).bind λx=>if x.1=true then a x.2 else b x.2
theorem JC{tc:TT}{t u:TS}{c:Rho->Option (Bool×Rho)}{a b:Rho->Option (D×D)}(hc:MT tc c)(ha:MD t a)(hb:MD u b):MD (Bn (D3 tc t yR) u) (AA c a b):=by
 intro F B H σ ρ w E R e q;obtain⟨x,e1,e⟩:=zaa e;refine hc F B H σ ρ x.1 x.2 _ R e1 λB' H' _ R'=>?_
 cases hb':x.1 with
 |true=>
  rw[hb',if_pos rfl]at e;rw[if_pos rfl];exact ha F B' H' σ x.2 w {E with nx:=u E} R' e q
 |false=>
  rw[hb',if_neg zam]at e;rw[if_neg zam];exact hb F B' H' σ x.2 w E R' e q
def fnD(n k:Nat)(b:Rho->Option (D×D))(ds:List D):Option (D×D):=if ds.length=n then b (ds.map .fz++List.replicate k .no)else none
theorem zg{n k:Nat}{b:Rho->Option (D×D)}{t:TS}{N:List Str}{vs:List V}{H:Hp}{Q:VK}{E:XK}(hb:MD t b)(hN:N.length=n+k)(h:spD (fnD n k b) vs H Q E):t {nx:=λ_ H'=>Q .non H',rt:=Q} (L2.start N vs) H:=by
 obtain⟨B,ds,c,sub,tB,rp,e,q⟩:=h;unfold fnD at e;split at e
 case isFalse=>cases e
 rename_i hl
 have hvl:vs.length=n:=rp.length.trans hl;have kD:∀(i:Nat) (s:Sl),(ds.map Sl.fz++List.replicate k .no)[i]?=some s->s.isRef=true->False:=λi s h1 h2=>by
  have:=zaj h1;rcases zae this with h|h
  ·obtain⟨c,_,rfl⟩:=List.mem_map.mp h;cases h2
  ·rw[zaG h]at h2;cases h2
 have ex0:∀i:Nat,(ds.map Sl.fz++List.replicate k .no)[i]?=some Sl.ex->False:=λi h1=>by
  have:=zaj h1;rcases zae this with h|h
  ·obtain⟨c,_,z⟩:=List.mem_map.mp h;cases z
  ·have:=zaG h;cases this
 have R:Rel ⟨B,H,[],λq=>H q≠none⟩ B H (L2.start N vs) (ds.map .fz++List.replicate k .no):=by
  refine⟨sub,aE.refl _,λ_ _ z _=>z,λ_ _ z=>z,?_,λi s hs=>?_,λi j s t p h1 h2=>(kD i s h1 (Sl.kA h2)).elim,λi c p h1=>(kD i _ h1 rfl).elim,(λx hx=>by cases hx),λi c h1=>(kD i _ h1 rfl).elim,tB,(λi h1=>(ex0 i h1).elim),λq o u h z=>by rw[z]at h;cases h⟩
  ·simp[L2.start,hl,hvl,hN]
  ·by_cases hi:i<n
   ·rw[zax (by simpa[hl]using hi),zao]at hs
    obtain⟨c,h1,rfl⟩:=zab hs;obtain⟨x,h2,h3⟩:=rp.get i c h1;refine⟨x,?_,h3⟩;unfold L2.start;rw[zax (by simpa[hvl]using hi),zao,h2]
    rfl
   ·rw[zaN (by simpa[hl]using zba hi)]at hs
    have:=zaG (zaj hs);subst this;trivial
 refine hb _ B H _ _ c _ R e λv B' H' σ' ρ' R' T=>?_
 exact q v B' H' ⟨λq u z=>R'.sH q u z (λx hx=>by cases hx),R'.sB,R'.sub,R'.nB,R'.cO,R'.nz,T⟩
theorem zk{n k:Nat}{b:Rho->Option (D×D)}{vs:List V}{H:Hp}{Q:VK}{E:XK}(h:spD (fnD n k b) vs H Q E):vs.length=n:=by
 obtain⟨B,ds,c,sub,tB,rp,e,q⟩:=h;unfold fnD at e;split at e
 ·rename_i hl;exact rp.length.trans hl
 ·cases e
end
end Mir
namespace L2
open PySem PySem.Spec PyProof.Rows
section
variable{X:Cx}{pins:List (Addr×Obj)}{σ:St}{H:Hp}{s:Shared}{h':Heap}
theorem Inv.ug{t':Nat}{fp:List Addr}(I:Inv X pins σ H s)(k:∀b o,b∉fp->s.heap.get? b=some o->h'.get? b=some o)(f:∀b∈fp,jb X pins H b):Inv X pins σ H {s with heap:=h',toks:=t'}:=by
 have nit:∀b u,H b=some u->b∉fp:=λb u e z=>by rw[(f b z).1]at e;cases e
 have hL:X.env.locals∉fp:=λz=>(f _ z).2.1 rfl
 refine I.step (g':=s.gens) (d':=s.drawn) (ch:=fp) (λb hb=>?_) (λb o _ _ hc e _=>k b o hc e) (λb o _ _ hc e _=>⟨o.slots,k b o hc e⟩) (λ_ _ _ _ n=>n)
  (λb o hc e=>⟨o,k b o hc e⟩) (λ_ _ e=>e) (λ_ _ _ e=>e) (λb ps e=>⟨#[],by rw[e];simp⟩) (λm hm=>?_) (λb u e=>?_) I.bare
 ·obtain⟨_,f1,_,f3,f4,f5⟩:=f b hb
  exact⟨f3,f1,f4,f5⟩
 ·obtain⟨o,es,ep,ho,r⟩:=hm
  exact⟨o,es,ep,k _ o hL ho,r⟩
 ·refine(I.hok b u e).stay (λc v hc q=>k c v ?_ q) (λ_ q=>q) λ_ _ _ q=>q
  rcases hc with z|z
  ·rw[z];exact nit b u e
  ·exact nit c _ z
end
section
variable{prog:Program}{w:World}{A:Around}{E:Value->Shared->Prop}{s:Shared}
def Cv(l:Addr)(it:Addr)(items:Array Value)(n:Nat)(h:Heap):Prop:=h.IsTupleIter it l n/\h.IsTuple l items
theorem Cv.keep{l it:Addr}{items:Array Value}(n:Nat)(h h':Heap)(x:Cv l it items n h)(a:∀o,h.get? it=some o->h'.get? it=some o)(b:∀o,h.get? l=some o->h'.get? l=some o):Cv l it items n h' :=
 ⟨x.1.at a,by obtain⟨o,e,r⟩:=x.2;exact⟨o,b _ e,r⟩⟩
end
def EJ(x y:Str)(fr:List (Str×Nat)):List Str:=x::y::fr.map (·.1)
structure K8(X:Cx)(scope:Scope)(x y:Str)(fr:List (Str×Nat)):Prop where
 b:Blk X scope x fr
 K2:scope.names.lookup y=some .local
 nd2:(EJ x y fr).Nodup
abbrev XE:=St->Value->Hp->Prop
abbrev TX:=XE->TS
abbrev TEX:=XE->TE
def XP(X:Cx)(pins:List (Addr×Obj))(E:XE)(ev:Value)(s':Shared):Prop :=
 ∃(ea t:Addr) (cls:Value) (B:Heap) (H':Hp) (s1:Shared) (H1:Hp) (σ1:St),ev=.ref ea/\Inv X pins σ1 H1 s1/\BR X.prog X.w X.stack H1 s1 (λcls _ H'=>E σ1 cls H') ea t cls B H' s'
end L2
namespace Mir
open PySem L2
section
variable [Zc]
abbrev XM:=Rho->Option ((RV×Rho) ⊕ (Str×Rho))
variable{cl:Str->Value}
def mOk(m:XM):PM:=fun ρ=>match m ρ with
 |some (.inl x)=>some x
 |_=>none
structure MEX(cl:Str->Value)(t:TEX)(m:XM):Prop where
 ok:∀E,ME (t E) (mOk m)
 er:∀(F:Fr) (B H:Hp) (σ:St) (ρ:Rho) (c:Str) (ρ':Rho) (Q:VK) (E:XE),Rel F B H σ ρ->m ρ=some (.inr (c,ρ'))->(∀B' H',Rel F B' H' σ ρ'->E σ (cl c) H')->t E σ H Q
end
section
variable [Zc]
structure Gv(B H:Hp)(p p2:Addr)(v:V)(B' H':Hp)(d:D)(o:Bool)(d1 d2:D):Prop where
 eH:∀q u,q≠p->q≠p2->H q=some u->H' q=some u
 eB:aE B B'
 sub:aE B' H'
 nb:∀q,H q≠none->B q=none->B' q=none
 tB:∀q xs,H' q=some (.tup xs)->B' q=some (.tup xs)
 nz:∀q o u,H' q=some (.frz o u)->H q≠none
 own:Own B' H' p d1
 ye:Own B' H' p2 d2
 val:if o=true then∃p,v=.ref p/\H p=none/\B' p=none/\Own B' H' p d else Rep B' v d
def spJ(f:List D->Option ((D×Bool)×D×D)):Sp:=λvs H Q _=>∃B p p2 us d0 e0 ds r d1 d2,vs=.ref p::.ref p2::us/\p≠p2/\aE B H/\(∀q xs,H q=some (.tup xs)->B q=some (.tup xs))/\B p=none/\B p2=none/\Own B H p d0/\Own B H p2 e0/\aQ B us ds/\f (d0::e0::ds)=some (r,d1,d2)/\∀v B' H',Gv B H p p2 v B' H' r.1 r.2 d1 d2->Q v H'
def io2:Rho->Option (D×D)
 | .io d::.io e::_=>some (d,e)
 |_=>none
theorem Ie{ρ:Rho}{d:D×D}(h:io2 ρ=some d) : ρ[0]?=some (Sl.io d.1)/\ρ[1]?=some (Sl.io d.2):=by
 unfold io2 at h;split at h
 ·cases h;exact⟨rfl,rfl⟩
 ·cases h
def fnJ(n k:Nat)(b:SM):List D->Option ((D×Bool)×D×D)
 |d0::e0::ds=>if ds.length+2=n then(b (.io d0::.io e0::ds.map .fz++List.replicate k .no)).bind λo=>(xR o).bind λr=>(io2 (nW o)).map λd=>(r,d)else none
 |_=>none
theorem zl{n k:Nat}{b:SM}{t:TS}{N:List Str}{vs:List V}{H:Hp}{Q:VK}{E:XK}(hb:MS t b)(hN:N.length=n+k)(h:spJ (fnJ n k b) vs H Q E):t {nx:=λ_ H'=>Q .non H',rt:=Q} (L2.start N vs) H:=by
 obtain⟨B,p,p2,us,d0,e0,ds,r0,d1,d2,rfl,hpp,sub,tB,hB,hB2,ow,ow2,rp,e,q⟩:=h;simp only[fnJ]at e;split at e
 case isFalse=>cases e
 rename_i hl
 obtain⟨w,e1,e2⟩:=zaa e;obtain⟨r,e2,e3⟩:=zaa e2;obtain⟨d,e3,e4⟩:=zab e3;cases e4;have hvl:us.length+2=n:=by rw[rp.length];exact hl
 have kD:∀(i:Nat) (s:Sl),(Sl.io d0::Sl.io e0::ds.map Sl.fz++List.replicate k .no)[i]?=some s->s.isRef=true->(i=0/\s=.io d0)\/(i=1/\s=.io e0):=λi s h1 h2=>by
  cases i with
  |zero=>rw[zay,zaP]at h1;cases h1;exact .inl ⟨rfl,rfl⟩
  |succ i=>
   cases i with
   |zero=>rw[zay,zat,zay,zaP]at h1;cases h1;exact .inr ⟨rfl,rfl⟩
   |succ i=>
    rw[zay,zat,zay,zat]at h1;have:=zaj h1;rcases zae this with h|h
    ·obtain⟨c,_,rfl⟩:=List.mem_map.mp h;cases h2
    ·rw[zaG h]at h2;cases h2
 have ex0:∀i:Nat,(Sl.io d0::Sl.io e0::ds.map Sl.fz++List.replicate k .no)[i]?=some Sl.ex->False:=λi h1=>by
  cases i with
  |zero=>rw[zay,zaP]at h1;cases h1
  |succ i=>
   cases i with
   |zero=>rw[zay,zat,zay,zaP]at h1;cases h1
   |succ i=>
    rw[zay,zat,zay,zat]at h1;have:=zaj h1;rcases zae this with h|h
    ·obtain⟨c,_,z⟩:=List.mem_map.mp h;cases z
    ·have:=zaG h;cases this
 have st0:(L2.start N (.ref p::.ref p2::us))[0]?=some (some (.ref p)):=by
  unfold L2.start;rw[zaz,zay,zaP]
 have st1:(L2.start N (.ref p::.ref p2::us))[1]?=some (some (.ref p2)):=by
  unfold L2.start;rw[zaz,zay,zat,zaz,zay,zaP]
 have R:Rel ⟨B,H,[(0,p),(1,p2)],λq=>H q≠none⟩ B H (L2.start N (.ref p::.ref p2::us)) (.io d0::.io e0::ds.map .fz++List.replicate k .no):=by
  refine⟨sub,aE.refl _,λ_ _ z _=>z,λ_ _ z=>z,?_,λi s hs=>?_,λi j s t p' h1 h2 h3 h4 h5 h6=>?_,(λi c p h1=>by rcases kD i _ h1 rfl with⟨_,z⟩|⟨_,z⟩<;>cases z),(λx hx=>?_),(λi c h1=>?_),tB,(λi h1=>(ex0 i h1).elim),λq o u h z=>by rw[z]at h;cases h⟩
  ·simp[L2.start,hl,hvl,hN];omega
  ·cases i with
   |zero=>
    rw[zay,zaP]at hs;cases hs;exact⟨p,st0,hB,ow⟩
   |succ i=>
    cases i with
    |zero=>
     rw[zay,zat,zay,zaP]at hs;cases hs;exact⟨p2,st1,hB2,ow2⟩
    |succ i=>
     rw[zay,zat,zay,zat]at hs
     by_cases hi:i<ds.length
     ·rw[zax (by simpa using hi),zao]at hs
      obtain⟨c,h1,rfl⟩:=zab hs;obtain⟨x,h2,h3⟩:=rp.get i c h1;refine⟨x,?_,h3⟩;unfold L2.start;rw[zaz,zay,zat,zaz,zay,zat,zax (by rw[zal,rp.length];exact hi),zao,h2]
      rfl
     ·rw[zaN (by simpa using zba hi)]at hs
      have:=zaG (zaj hs);subst this;trivial
  ·rcases kD i s h1 (Sl.kA h2)with⟨rfl,_⟩|⟨rfl,_⟩<;>rcases kD j t h3 h4 with⟨rfl,_⟩|⟨rfl,_⟩
   ·rfl
   ·rw[st0]at h5;rw[st1]at h6;cases h5;cases h6;exact absurd rfl hpp
   ·rw[st1]at h5;rw[st0]at h6;cases h5;cases h6;exact absurd rfl hpp
   ·rfl
  ·simp only[List.mem_cons,List.not_mem_nil,or_false]at hx
   rcases hx with rfl|rfl
   ·exact⟨st0,d0,rfl⟩
   ·exact⟨st1,e0,rfl⟩
  ·rcases kD i _ h1 rfl with⟨rfl,_⟩|⟨rfl,_⟩
   ·exact⟨p,by simp⟩
   ·exact⟨p2,by simp⟩
 refine hb _ B H _ _ w _ R e1 ?_;have post:∀{B' H':Hp} {σ':St} {ρ':Rho},nW w=ρ'->Rel ⟨B,H,[(0,p),(1,p2)],λq=>H q≠none⟩ B' H' σ' ρ'->(∀q u,q≠p->q≠p2->H q=some u->H' q=some u)/\aE B B'/\aE B' H'/\(∀q,H q≠none->B q=none->B' q=none)/\(∀q xs,H' q=some (.tup xs)->B' q=some (.tup xs))/\(∀q o u,H' q=some (.frz o u)->H q≠none)/\Own B' H' p d1/\Own B' H' p2 d2:=fun{B' H' σ' ρ'} hw R'=>by
  rw[hw]at e3;have h0:=Ie e3;refine⟨λq u n n2 z=>R'.sH q u z (λx hx=>?_),R'.sB,R'.sub,R'.nB,R'.cO,R'.nz,?_,?_⟩
  ·simp only[List.mem_cons,List.not_mem_nil,or_false]at hx
   rcases hx with rfl|rfl
   ·exact λz=>n z.symm
   ·exact λz=>n2 z.symm
  ·obtain⟨p',g1,g2,g3⟩:=R'.slot 0 _ h0.1
   obtain⟨g4,_⟩:=R'.fx (0,p) (by simp)
   rw[g4]at g1;cases g1;exact g3
  ·obtain⟨p',g1,g2,g3⟩:=R'.slot 1 _ h0.2
   obtain⟨g4,_⟩:=R'.fx (1,p2) (by simp)
   rw[g4]at g1;cases g1;exact g3
 cases w with
 |nx ρ'=>
  cases e2;intro B' H' σ' R';obtain⟨p1,p2,p3,p4,p5,p6,p7,p8⟩:=post rfl R';exact q _ B' H' ⟨p1,p2,p3,p4,p5,p6,p7,p8,.non⟩
 |bk ρ'=>cases e2
 |ct ρ'=>cases e2
 |rt r' ρ'=>
  intro v B' H' σ' R' V';obtain⟨p1,p2,p3,p4,p5,p6,p7,p8⟩:=post rfl R';obtain⟨c,kd⟩:=r';cases kd with
  |fz=>cases e2;exact q v B' H' ⟨p1,p2,p3,p4,p5,p6,p7,p8,V'⟩
  |new=>
   cases e2;obtain⟨p,rfl,h1,h2,h3,_⟩:=V';exact q _ B' H' ⟨p1,p2,p3,p4,p5,p6,p7,p8,⟨p,rfl,h2,h1,h3⟩⟩
  |ro=>cases e2
  | «at» i=>
   obtain⟨s,h1,h2,h3,h4⟩:=V';have e2':(match ρ'[i]? with
    |some (.own d)=>some (d,true)
    |_=>none)=some r0:=e2
   rw[h1]at e2';cases s with
   |own c'=>
    cases e2';obtain⟨p,g1,g2,g3⟩:=R'.slot i _ h1;have h4' : σ'[i]?=some (some v):=h4;rw[h4']at g1;cases g1;exact q _ B' H' ⟨p1,p2,p3,p4,p5,p6,p7,p8,⟨p,rfl,R'.jE i _ p h1 h4',g2,g3⟩⟩
   |_=>cases e2'
theorem zm{n k:Nat}{b:SM}{vs:List V}{H:Hp}{Q:VK}{E:XK}(h:spJ (fnJ n k b) vs H Q E):vs.length=n:=by
 obtain⟨B,p,p2,us,d0,e0,ds,r0,d1,d2,rfl,hpp,sub,tB,hB,hB2,ow,ow2,rp,e,q⟩:=h;simp only[fnJ]at e;split at e
 ·rename_i hl;rw[zaw,zaw,rp.length];exact hl
 ·cases e
def jM(i j:Nat)(f:List D->Option ((D×Bool)×D×D))(m:Rho->Option (List RV×Rho)):PM:=fun ρ=>if i=j then none else(ownAt ρ i).bind λ_=>(ownAt ρ j).bind λ_=>(m ρ).bind λx=>(hU x.1 x.2).bind λy=>(ownAt y.2 i).bind λs=>(ownAt y.2 j).bind λs2=>(f (slD s::slD s2::y.1)).map λw=>(kO w.1.1 w.1.2,(y.2.set i (s.put w.2.1)).set j (s2.put w.2.2))
theorem wo{f:List D->Option ((D×Bool)×D×D)}{E:XK}{i j:Nat}{t:TA}{m:Rho->Option (List RV×Rho)}(h:MA t m):ME (kq (spJ f) [] E (hI (my i) (hI (my j) t))) (jM i j f m):=by
 intro F B H σ ρ r0 ρ' Q R e q;unfold jM at e;split at e
 case isTrue=>cases e
 rename_i hij
 obtain⟨s0,e0,e⟩:=zaa e;obtain⟨t0,e0',e⟩:=zaa e;obtain⟨x,e1,e⟩:=zaa e;obtain⟨y,e2,e⟩:=zaa e;obtain⟨s,e4,e⟩:=zaa e;obtain⟨s2,e5,e⟩:=zaa e;obtain⟨w,e3,e⟩:=zab e;cases e;obtain⟨hs0,ho0⟩:=iN e0;obtain⟨ht0,hp0⟩:=iN e0';obtain⟨hs,ho⟩:=iN e4;obtain⟨hs2,ho2⟩:=iN e5;obtain⟨p,hv,_,_⟩:=R.ownAt hs0 ho0;obtain⟨p2,hv2,_,_⟩:=R.ownAt ht0 hp0;have hpp:p≠p2:=λz=>hij (R.dist i j s0 t0 p hs0 ho0 ht0 (Sl.kA hp0) hv (z▸hv2))
 refine⟨_,hv,_,hv2,?_⟩;refine h F B H σ ρ x.1 x.2 _ R e1 λvs B1 H1 E1 R1 V1=>?_
 show spJ f (V.ref p::V.ref p2::vs++[]) H1 Q E;rw[zaR];obtain⟨B2,R2,rp,E2⟩:=Rel.vT R1 V1.weak e2;obtain⟨p',hv',hB,ow⟩:=R2.ownAt hs ho;rw[hv]at hv';cases hv';obtain⟨p2',JD,hB2,ow2⟩:=R2.ownAt hs2 ho2;rw[hv2]at JD;cases JD;obtain⟨oo,hoo⟩:=ow.there;obtain⟨oo2,AB⟩:=ow2.there;obtain⟨r,d1,d2⟩:=w;refine⟨B2,p,p2,vs,slD s,slD s2,y.1,r,d1,d2,rfl,hpp,R2.sub,R2.cO,hB,hB2,ow,ow2,rp,e3,λv B' H' P=>?_⟩
 obtain⟨o1,ho1⟩:=P.own.there;obtain⟨o2,AD⟩:=P.ye.there;have hB':B' p=none:=P.nb p (by rw[hoo];simp) hB
 have hB2':B' p2=none:=P.nb p2 (by rw[AB];simp) hB2
 let G:Hp:=upd (upd H' p oo) p2 oo2
 have Gp:G p=some oo:=by show upd (upd H' p oo) p2 oo2 p=_;rw[aq hpp];exact ax
 have Gp2:G p2=some oo2:=ax;have Go:∀c,c≠p->c≠p2->G c=H' c:=λc z z2=>by show upd (upd H' p oo) p2 oo2 c=_;rw[aq z2,aq z]
 have eH:aE H1 G:=λc u hc=>by
  by_cases z:c=p
  ·subst z;rw[hoo]at hc;cases hc;exact Gp
  ·by_cases z2:c=p2
   ·subst z2;rw[AB]at hc;cases hc;exact Gp2
   ·rw[Go c z z2];exact P.eH c u z z2 hc
 have sub:aE B' G:=λc u hc=>by
  rw[Go c (λz=>by rw[z,hB']at hc;cases hc) (λz=>by rw[z,hB2']at hc;cases hc)];exact P.sub c u hc
 have tB:∀c xs,G c=some (.tup xs)->B' c=some (.tup xs):=λc xs hc=>by
  by_cases z:c=p
  ·subst z;rw[Gp]at hc;cases hc;exact absurd hoo (ow.kB xs)
  ·by_cases z2:c=p2
   ·subst z2;rw[Gp2]at hc;cases hc;exact absurd AB (ow2.kB xs)
   ·rw[Go c z z2]at hc;exact P.tB c xs hc
 have nz:∀c a u,G c=some (.frz a u)->H1 c≠none:=λc a u hc=>by
  by_cases z:c=p
  ·subst z;rw[hoo];simp
  ·by_cases z2:c=p2
   ·subst z2;rw[AB];simp
   ·rw[Go c z z2]at hc;exact P.nz c a u hc
 have R3:=R2.grow P.eB eH sub P.nb tB nz;have E3:Ext σ y.2 B2 H1 y.2 B' G:=Ext.grow P.eB eH P.nb;have G1p:upd G p o1 p=some o1:=ax;obtain⟨R4,E4⟩:=R3.write (o:=o1) (d:=d1) hs ho hv ⟨(λxs z=>by rw[z]at ho1;exact P.own.kB xs ho1),λa u z=>by rw[z]at ho1;exact P.own.uf a u ho1⟩ (P.own.mono (aE.refl _) λu hu=>by rw[ho1]at hu;cases hu;exact ax)
 have KP:(y.2.set i (s.put d1))[j]?=some s2:=by rw[zaA hij];exact hs2
 have back:upd (upd G p o1) p2 o2=H':=by
  funext c
  by_cases z2:c=p2
  ·subst z2;rw[ax,AD]
  ·rw[aq z2]
   by_cases z:c=p
   ·subst z;rw[ax,ho1]
   ·rw[aq z,Go c z z2]
 obtain⟨R5,E5⟩:=R4.write (o:=o2) (d:=d2) KP ho2 hv2 ⟨(λxs z=>by rw[z]at AD;exact P.ye.kB xs AD),λa u z=>by rw[z]at AD;exact P.ye.uf a u AD⟩ (P.ye.mono (aE.refl _) λu hu=>by rw[AD]at hu;cases hu;exact ax)
 rw[back]at R5 E5;have EE:=E1.trans (E2.trans (E3.trans (E4.trans E5)));obtain⟨d,o⟩:=r;cases o with
 |false=>
  have pv:Rep B' v d:=P.val;exact q v B' H' EE R5 pv λp z=>by cases z
 |true=>
  obtain⟨p3,rfl,h1,h2,h3⟩:∃p,v=.ref p/\H1 p=none/\B' p=none/\Own B' H' p d:=P.val;have fr:=R2.free h1;refine q _ B' H' EE R5 ⟨p3,rfl,h2,fr.2.1,h3,λj' t h4 h5 h6=>?_⟩ λp' _ z=>by cases z;exact E1.live p3 h1
  rcases get_set h4 with⟨rfl,_,_⟩|⟨_,h4⟩
  ·rw[hv2]at h6
   cases h6;rw[h1]at AB;cases AB
  ·rcases get_set h4 with⟨rfl,_,_⟩|⟨_,h4⟩
   ·rw[hv]at h6
    cases h6;rw[h1]at hoo;cases hoo
   ·exact fr.2.2 j' t h4 h5 h6
end
end Mir
namespace L2
open PySem PySem.Spec PyProof.Rows
end L2
namespace Mir
open PySem L2
end Mir
namespace L2
open PySem PySem.Spec PyProof.Rows PySem.W
def excAt(e:Addr)(cls:Value):Heap->Prop:=λh=>∃oe,h.get? e=some oe/\oe.cls=cls
end L2
namespace Mir
open PySem L2
end Mir
namespace L2
open PySem
def KQ(e:Addr)(cls:Value)(dx:Addr):Heap->Prop:=λh=>∃oe vs,h.get? e=some oe/\oe.cls=cls/\oe.dict=some dx/\oe.data=.fields vs
end L2
namespace Mir
open PySem L2
class Zl where
 cl:Str->Value
instance (priority:=10) zl0:Zl:=⟨λ_=>.none⟩
section
variable [Zc] [Zl]
inductive SV where
 |pl (d:D)|lc (k:Nat)|tp (xs:List SV)
inductive Cl where
 |dat (d:D)|obj (C:Addr) (fs:List (Str×SV))|lst (xs:List SV)|dct (es:List (Key×SV))|exc (c:Str) (n:Option Int)
structure SS where
 S:List (Option Cl)
 t:List (Option SV)
mutual
inductive dM(A:List Addr)(B:Hp):V->SV->Prop
 |pl {v:V} {d:D}:Rep B v d->dM A B v (.pl d)
 |lc {k:Nat} {a:Addr}:A[k]?=some a->dM A B (.ref a) (.lc k)
 |tp {t:Addr} {vs:List V} {xs:List SV}:B t=some (.tup vs)->b7 A B vs xs->dM A B (.ref t) (.tp xs)
inductive b7(A:List Addr)(B:Hp):List V->List SV->Prop
 |nil:b7 A B [] []
 |cons {v:V} {x:SV} {vs:List V} {xs:List SV}:dM A B v x->b7 A B vs xs->b7 A B (v::vs) (x::xs)
end
def Gro(A A':List Addr):Prop:=∀(k:Nat) (a:Addr),A[k]?=some a->A'[k]?=some a
theorem Gro.refl(A:List Addr):Gro A A:=λ_ _ h=>h
theorem Gro.trans{A A1 A2:List Addr}(a:Gro A A1)(b:Gro A1 A2):Gro A A2:=λk x h=>b k x (a k x h)
theorem Gro.app(A N:List Addr):Gro A (A++N):=λk a h=>by rw[zax (zac h).1];exact h
mutual
theorem dM.mono{A A':List Addr}{B B':Hp}(g:Gro A A')(e:aE B B'):∀{v:V} {x:SV},dM A B v x->dM A' B' v x
 |_,_,.pl r=>.pl (r.mono e)
 |_,_,.lc h=>.lc (g _ _ h)
 |_,_,.tp h r=>.tp (e _ _ h) (b7.mono g e r)
theorem b7.mono{A A':List Addr}{B B':Hp}(g:Gro A A')(e:aE B B'):∀{v:List V} {x:List SV},b7 A B v x->b7 A' B' v x
 |_,_,.nil=>.nil
 |_,_,.cons a b=>.cons (dM.mono g e a) (b7.mono g e b)
end
theorem b7.length{A:List Addr}{B:Hp}:∀{v:List V} {x:List SV},b7 A B v x->v.length=x.length
 |_,_,.nil=>rfl
 |_,_,.cons _ b=>by rw[zaw,zaw,b7.length b]
theorem b7.get{A:List Addr}{B:Hp}:∀{v:List V} {x:List SV} (i:Nat),b7 A B v x->∀c,x[i]?=some c->∃y,v[i]?=some y/\dM A B y c
 |_,_,i,.nil,c,h=>by simp at h
 |_,_,0,.cons a _,c,h=>by simp at h;subst h;exact⟨_,rfl,a⟩
 |_,_,i+1,.cons _ b,c,h=>by
  rw[zat]at h;rw[zat];exact b7.get i b c h
inductive et(A:List Addr)(B:Hp):List (Str×V)->List (Str×SV)->Prop
 |nil:et A B [] []
 |cons {f:Str} {v:V} {x:SV} {gs:List (Str×V)} {fs:List (Str×SV)}:dM A B v x->et A B gs fs->et A B ((f,v)::gs) ((f,x)::fs)
theorem et.mono{A A':List Addr}{B B':Hp}(g:Gro A A')(e:aE B B'):∀{v:List (Str×V)} {x:List (Str×SV)},et A B v x->et A' B' v x
 |_,_,.nil=>.nil
 |_,_,.cons a b=>.cons (a.mono g e) (et.mono g e b)
inductive kg(A:List Addr)(B:Hp):List (Key×V)->List (Key×SV)->Prop
 |nil:kg A B [] []
 |cons {f:Key} {v:V} {x:SV} {gs:List (Key×V)} {fs:List (Key×SV)}:dM A B v x->kg A B gs fs->kg A B ((f,v)::gs) ((f,x)::fs)
theorem kg.mono{A A':List Addr}{B B':Hp}(g:Gro A A')(e:aE B B'):∀{v:List (Key×V)} {x:List (Key×SV)},kg A B v x->kg A' B' v x
 |_,_,.nil=>.nil
 |_,_,.cons a b=>.cons (a.mono g e) (kg.mono g e b)
theorem et.look{A:List Addr}{B:Hp}{f:Str}:∀{gs:List (Str×V)} {fs:List (Str×SV)} {x:SV},et A B gs fs->fs.lookup f=some x->∃v,gs.lookup f=some v/\dM A B v x
 |_,_,x,.nil,h=>by cases h
 |_,_,x,.cons (f:=k) (v:=v) a b,h=>by
  by_cases e:f=k
  ·have hb:(f==k)=true:=beq_iff_eq.mpr e
   simp only[List.lookup,hb]at h⊢;cases h;exact⟨v,rfl,a⟩
  ·have hb:(f==k)=false:=beq_eq_false_iff_ne.mpr e
   simp only[List.lookup,hb]at h⊢;exact et.look b h
theorem et.length{A:List Addr}{B:Hp}:∀{gs:List (Str×V)} {fs:List (Str×SV)},et A B gs fs->gs.length=fs.length
 |_,_,.nil=>rfl
 |_,_,.cons _ b=>by rw[zaw,zaw,et.length b]
def Cw(f:Str)(x:SV):List (Str×SV)->List (Str×SV)
 | []=>[(f,x)]
 |(k,y)::r=>if k=f then(k,x)::r else(k,y)::Cw f x r
theorem et.put{A:List Addr}{B:Hp}{f:Str}{v:V}{x:SV}(rv:dM A B v x):∀{gs:List (Str×V)} {fs:List (Str×SV)},et A B gs fs->et A B (Hn f v gs) (Cw f x fs)
 |_,_,.nil=>.cons rv .nil
 |_,_,.cons (f:=k) (v:=u) (x:=y) (gs:=gs) (fs:=fs) a b=>by
  show et A B (if k=f then(k,v)::gs else(k,u)::Hn f v gs) (if k=f then(k,x)::fs else(k,y)::Cw f x fs)
  by_cases e:k=f
  ·rw[if_pos e,if_pos e];exact .cons rv b
  ·rw[if_neg e,if_neg e];exact .cons a (et.put rv b)
def Mx:HO->Prop
 | .lst _=>True
 | .dK _=>True
 | .ins _ _ _=>True
 | .ext _=>True
 |_=>False
def MxF(o:HO):Prop:=Mx o\/∃ob φ,o=.frz ob (.ext φ)
def AE(H:Hp)(a:Addr)(φ:Heap->Prop):Prop:=H a=some (.ext φ)\/∃o,H a=some (.frz o (.ext φ))
theorem AE.mono{H H':Hp}{a:Addr}{φ:Heap->Prop}(h:AE H a φ)(k:∀o,H a=some o->H' a=some o):AE H' a φ:=h.elim (λh=>.inl (k _ h)) λ⟨o,h⟩=>.inr ⟨o,k _ h⟩
theorem AE.ok{P:Program}{w:World}{H:Hp}{h:Heap}{a:Addr}{φ:Heap->Prop}(x:AE H a φ)(k:HOk P w H h) : φ h:=by
 rcases x with x|⟨o,x⟩
 ·exact(k a _ x).1
 ·exact(k a _ x).2.1
theorem EK{x:Addr} : ¬MxF (.own x):=λz=>by rcases z with z|⟨_,_,z⟩;exact z;cases z
theorem Ig{fs:List (Str×V)} : ¬MxF (.xd fs):=λz=>by rcases z with z|⟨_,_,z⟩;exact z;cases z
inductive eS(A:List Addr)(B H:Hp)(a:Addr):Cl->Prop
 |dat {d:D}:Own B H a d->eS A B H a (.dat d)
 |obj {C dx:Addr} {gs:List (Str×V)} {fs:List (Str×SV)}:H a=some (.ins C dx gs)->H dx=some (.own a)->et A B gs fs->eS A B H a (.obj C fs)
 |lst {vs:List V} {xs:List SV}:H a=some (.lst vs)->b7 A B vs xs->eS A B H a (.lst xs)
 |dct {kvs:List (Key×V)} {es:List (Key×SV)}:H a=some (.dK kvs)->kg A B kvs es->eS A B H a (.dct es)
 |exc {c:Str} {n:Option Int} {φ:Heap->Prop}:AE H a φ->(∀h,φ h->excAt a (Zl.cl c) h)->(∀k,n=some k->∃dx,(∀h,φ h->KQ a (Zl.cl c) dx h)/\H dx=some (.xd [("by",.int k)]))->eS A B H a (.exc c n)
theorem eS.mono{A A':List Addr}{B B' H H':Hp}{a:Addr}{c:Cl}(h:eS A B H a c)(g:Gro A A')(e:aE B B')(k:∀o,H a=some o->H' a=some o)(ko:∀q o,H q=some o->¬MxF o->H' q=some o):eS A' B' H' a c:=by
 cases h with
 |dat h=>exact .dat (h.mono e k)
 |obj h1 h2 h3=>exact .obj (k _ h1) (ko _ _ h2 EK) (h3.mono g e)
 |lst h1 h2=>exact .lst (k _ h1) (h2.mono g e)
 |dct h1 h2=>exact .dct (k _ h1) (h2.mono g e)
 |exc h1 h2 h3=>exact .exc (h1.mono k) h2 λn e=>(let⟨dx,p1,p2⟩:=h3 n e;⟨dx,p1,ko _ _ p2 Ig⟩)
structure StO(A:List Addr)(B H:Hp)(S:List (Option Cl)):Prop where
 len:A.length=S.length
 nd:A.Nodup
 dis:∀a∈A,B a=none
 mx:∀a∈A,∃o,H a=some o/\MxF o
 cell:∀(k:Nat) (c:Cl) (a:Addr),S[k]?=some (some c)->A[k]?=some a->eS A B H a c
structure FrN where
 B:Hp
 H:Hp
 io:List Addr
 Z:Addr->Prop
structure bf(G:FrN)(A:List Addr)(B H:Hp)(σ:St)(s:SS):Prop where
 sub:aE B H
 sB:aE G.B B
 cO:∀q xs,H q=some (.tup xs)->B q=some (.tup xs)
 kept:∀q o,G.H q=some o->q∉G.io->H q=some o
 nB:∀q,G.H q≠none->G.B q=none->B q=none
 pre:Gro G.io A
 fresh:∀a∈A,a∈G.io\/G.H a=none
 st:StO A B H s.S
 len:s.t.length=σ.length
 slot:∀(i:Nat) (x:SV),s.t[i]?=some (some x)->∃v,σ[i]?=some (some v)/\dM A B v x
 nz:∀q o u,H q=some (.frz o u)->G.Z q
section
variable{G:FrN}{A A':List Addr}{B H B' H':Hp}{σ:St}{s:SS}
theorem StO.mono(O:StO A B H s.S)(eB:aE B B')(eH:aE H H')(nb:∀q,H q≠none->B q=none->B' q=none):StO A B' H' s.S where
 len:=O.len
 nd:=O.nd
 dis:=λa ha=>by obtain⟨o,h,_⟩:=O.mx a ha;exact nb a (by rw[h];simp) (O.dis a ha)
 mx:=λa ha=>by obtain⟨o,h,m⟩:=O.mx a ha;exact⟨o,eH _ _ h,m⟩
 cell:=λk c a h1 h2=>(O.cell k c a h1 h2).mono (Gro.refl _) eB (λo h=>eH _ _ h) λq o h _=>eH _ _ h
theorem bf.grow(R:bf G A B H σ s)(eB:aE B B')(eH:aE H H')(sub:aE B' H')(nb:∀q,H q≠none->B q=none->B' q=none)(tB:∀q xs,H' q=some (.tup xs)->B' q=some (.tup xs))(nz:∀q o u,H' q=some (.frz o u)->G.Z q):bf G A B' H' σ s where
 sub:=sub
 sB:=R.sB.trans eB
 cO:=tB
 kept:=λq o h n=>eH _ _ (R.kept q o h n)
 nB:=λq h z=>by
  have z1:=R.nB q h z
  by_cases hq:H q=none
  ·by_cases hi:q∈G.io
   ·obtain⟨k,hk⟩:=List.mem_iff_getElem?.mp hi
    obtain⟨o,h2,_⟩:=R.st.mx q (zaj (R.pre k q hk));rw[hq]at h2;cases h2
   ·cases h3:G.H q with
    |none=>exact absurd h3 h
    |some o=>rw[R.kept q o h3 hi]at hq;cases hq
  ·exact nb q hq z1
 pre:=R.pre
 fresh:=R.fresh
 st:=R.st.mono eB eH nb
 len:=R.len
 slot:=λi x h=>by obtain⟨v,h1,h2⟩:=R.slot i x h;exact⟨v,h1,h2.mono (Gro.refl _) eB⟩
 nz:=nz
theorem bf.ql(R:bf G A B H σ s){p:Addr}(h:H p=none):G.H p=none/\p∉A/\B p=none:=by
 have hA:p∉A:=λz=>by obtain⟨o,h2,_⟩:=R.st.mx p z;rw[h]at h2;cases h2
 refine⟨?_,hA,?_⟩
 ·cases h3:G.H p with
  |none=>rfl
  |some o=>
   have:p∉G.io:=λz=>by
    obtain⟨k,hk⟩:=List.mem_iff_getElem?.mp z;exact hA (zaj (R.pre k p hk))
   rw[R.kept p o h3 this]at h;cases h
 ·cases h3:B p with
  |none=>rfl
  |some o=>rw[R.sub p o h3]at h;cases h
theorem bf.write(R:bf G A B H σ s){k:Nat}{a:Addr}{o:HO}{c:Cl}(hk:A[k]?=some a)(mo:Mx o)(ok:eS A B (upd H a o) a c):bf G A B (upd H a o) σ ⟨s.S.set k (some c),s.t⟩:=by
 have ha:a∈A:=zaj hk;have hB:=R.st.dis a ha;obtain⟨o0,h0,m0⟩:=R.st.mx a ha;have kl:=(zac hk).1;refine⟨λq u h=>?_,R.sB,λq xs h=>?_,λq u h n=>?_,R.nB,R.pre,R.fresh,⟨?_,R.st.nd,R.st.dis,λb hb=>?_,λj d b h1 h2=>?_⟩,R.len,R.slot,λq u w h=>?_⟩
 ·rw[aq (λz=>by rw[z,hB]at h;cases h)];exact R.sub q u h
 ·by_cases z:q=a
  ·subst z;rw[ax]at h;cases h;cases mo
  ·rw[aq z]at h;exact R.cO q xs h
 ·have z:q≠a:=λz=>by
   subst z;rcases R.fresh q ha with g|g
   ·exact n g
   ·rw[g]at h;cases h
  rw[aq z];exact R.kept q u h n
 ·show A.length=(s.S.set k (some c)).length
  rw[zaM];exact R.st.len
 ·by_cases z:b=a
  ·subst z;exact⟨o,ax,.inl mo⟩
  ·rw[aq z];exact R.st.mx b hb
 ·have h1':(s.S.set k (some c))[j]?=some (some d):=h1
  by_cases z:j=k
  ·subst z
   rw[hk]at h2;cases h2
   rw[zav (by rw[<-R.st.len];exact kl)]at h1'
   cases h1';exact ok
  ·rw[zaA λe=>z e.symm]at h1'
   have nb:b≠a:=λe=>by
    subst e;exact z ((List.getElem?_inj (zac h2).1 R.st.nd).mp (h2.trans hk.symm))
   refine(R.st.cell j d b h1' h2).mono (Gro.refl _) (aE.refl _) (λu h=>by rw[aq nb];exact h) λq o h hm=>?_
   rw[aq (λe=>by subst e;rw[h0]at h;cases h;exact hm m0)];exact h
 ·by_cases z:q=a
  ·subst z;rw[ax]at h;cases h;cases mo
  ·rw[aq z]at h;exact R.nz q u w h
theorem bf.take(R:bf G A B H σ s){p:Addr}{c:Cl}{o:HO}(hG:G.H p=none)(hA:p∉A)(hB:B p=none)(hp:H p=some o)(mo:Mx o)(ok:eS (A++[p]) B H p c):bf G (A++[p]) B H σ ⟨s.S++[some c],s.t⟩:=by
 refine⟨R.sub,R.sB,R.cO,R.kept,R.nB,R.pre.trans (Gro.app _ _),λb hb=>?_,⟨?_,?_,λb hb=>?_,λb hb=>?_,λj d b h1 h2=>?_⟩,R.len,λi x h=>?_,R.nz⟩
 ·rcases zae hb with h|h
  ·exact R.fresh b h
  ·simp only[List.mem_singleton]at h;subst h;exact .inr hG
 ·show(A++[p]).length=(s.S++[some c]).length
  rw[zau,zau,R.st.len];rfl
 ·rw[List.nodup_append]
  refine⟨R.st.nd,by simp,λx hx y hy=>?_⟩
  simp only[List.mem_singleton]at hy;subst hy
  exact λz=>hA (z▸hx)
 ·rcases zae hb with h|h
  ·exact R.st.dis b h
  ·simp only[List.mem_singleton]at h;subst h;exact hB
 ·rcases zae hb with h|h
  ·exact R.st.mx b h
  ·simp only[List.mem_singleton]at h;subst h;exact⟨o,hp,.inl mo⟩
 ·have h1':(s.S++[some c])[j]?=some (some d):=h1
  by_cases z:j<s.S.length
  ·rw[zax z]at h1'
   rw[zax (by rw[R.st.len];exact z)]at h2
   exact(R.st.cell j d b h1' h2).mono (Gro.app _ _) (aE.refl _) (λ_ h=>h) λ_ _ h _=>h
  ·rw[zaN (zba z)]at h1'
   rw[zaN (by rw[R.st.len];exact zba z),R.st.len]at h2
   cases hz:j-s.S.length with
   |zero=>
    rw[hz]at h1' h2;simp at h1' h2;subst h1' h2;exact ok
   |succ n=>rw[hz]at h1';simp at h1'
 ·obtain⟨v,h1,h2⟩:=R.slot i x h
  exact⟨v,h1,h2.mono (Gro.app _ _) (aE.refl _)⟩
theorem bf.rq(R:bf G A B H σ s){p:Addr}{xs:List V}(hp:H p=none):bf G A (upd B p (.tup xs)) (upd H p (.tup xs)) σ s/\aE B (upd B p (.tup xs)):=by
 obtain⟨_,_,hB⟩:=R.ql hp;have eB:aE B (upd B p (.tup xs)):=λq u h=>by rw[aq (λz=>by rw[z,hB]at h;cases h)];exact h
 refine⟨R.grow eB (λq u h=>by rw[aq (λz=>by rw[z,hp]at h;cases h)];exact h) (λq u h=>?_) (λq h z=>?_) (λq ys h=>?_) λq u w h=>?_,eB⟩
 ·by_cases z:q=p
  ·subst z;rw[ax]at h⊢;exact h
  ·rw[aq z]at h⊢;exact R.sub q u h
 ·rw[aq (λe=>by rw[e]at h;exact h hp)];exact z
 ·by_cases z:q=p
  ·subst z;rw[ax]at h⊢;exact h
  ·rw[aq z]at h⊢;exact R.cO q ys h
 ·by_cases z:q=p
  ·subst z;rw[ax]at h;cases h
  ·rw[aq z]at h;exact R.nz q u w h
theorem bf.set(R:bf G A B H σ s){i:Nat}{v:V}{x:SV}(h:i<s.t.length)(rv:dM A B v x):bf G A B H (σ.set i (some v)) ⟨s.S,s.t.set i (some x)⟩:=by
 refine⟨R.sub,R.sB,R.cO,R.kept,R.nB,R.pre,R.fresh,R.st,?_,λj y hj=>?_,R.nz⟩
 ·show(s.t.set i (some x)).length=_
  rw[zaM,zaM];exact R.len
 ·have hj':(s.t.set i (some x))[j]?=some (some y):=hj
  by_cases z:j=i
  ·subst z
   rw[zav h]at hj';cases hj';exact⟨v,zav (R.len▸h),rv⟩
  ·rw[zaA λe=>z e.symm]at hj'
   rw[zaA λe=>z e.symm]
   exact R.slot j y hj'
mutual
def blV(n:Nat):SV->Bool
 | .pl _=>true
 | .lc k=>decide (k<n)
 | .tp xs=>o8 n xs
def o8(n:Nat):List SV->Bool
 | []=>true
 |x::xs=>blV n x&&o8 n xs
end
theorem wq{n k:Nat}{a:Addr}{A:List Addr}(h:A[k]?=some a)(hk:k<n):(A.take n)[k]?=some a:=by rw[List.getElem?_take,if_pos hk];exact h
mutual
theorem dM.take{A:List Addr}{B:Hp}(n:Nat):∀{v:V} {x:SV},dM A B v x->blV n x=true->dM (A.take n) B v x
 |_,_,.pl r,_=>.pl r
 |_,_,.lc h,e=>.lc (wq h (by simpa[blV]using e))
 |_,_,.tp h r,e=>.tp h (b7.take n r (by simpa[blV]using e))
theorem b7.take{A:List Addr}{B:Hp}(n:Nat):∀{v:List V} {x:List SV},b7 A B v x->o8 n x=true->b7 (A.take n) B v x
 |_,_,.nil,_=>.nil
 |_,_,.cons a b,e=>by
  simp only[o8,Bool.and_eq_true]at e;exact .cons (dM.take n a e.1) (b7.take n b e.2)
end
def yf{α:Type}(n:Nat):List (α×SV)->Bool
 | []=>true
 |x::xs=>blV n x.2&&yf n xs
theorem et.take{A:List Addr}{B:Hp}(n:Nat):∀{v:List (Str×V)} {x:List (Str×SV)},et A B v x->yf n x=true->et (A.take n) B v x
 |_,_,.nil,_=>.nil
 |_,_,.cons a b,e=>by
  simp only[yf,Bool.and_eq_true]at e;exact .cons (a.take n e.1) (et.take n b e.2)
theorem kg.take{A:List Addr}{B:Hp}(n:Nat):∀{v:List (Key×V)} {x:List (Key×SV)},kg A B v x->yf n x=true->kg (A.take n) B v x
 |_,_,.nil,_=>.nil
 |_,_,.cons a b,e=>by
  simp only[yf,Bool.and_eq_true]at e;exact .cons (a.take n e.1) (kg.take n b e.2)
def blC(n:Nat):Cl->Bool
 | .dat _=>true
 | .obj _ fs=>yf n fs
 | .lst xs=>o8 n xs
 | .dct es=>yf n es
 | .exc _ _=>true
theorem eS.take{A:List Addr}{B H:Hp}{a:Addr}{c:Cl}(n:Nat)(h:eS A B H a c)(e:blC n c=true):eS (A.take n) B H a c:=by
 cases h with
 |dat h=>exact .dat h
 |obj h1 h2 h3=>exact .obj h1 h2 (h3.take n e)
 |lst h1 h2=>exact .lst h1 (h2.take n e)
 |dct h1 h2=>exact .dct h1 (h2.take n e)
 |exc h1 h2 h3=>exact .exc h1 h2 h3
def gcC(n:Nat)(c:Option Cl):Option Cl:=match c with
 |some c=>if blC n c=true then some c else none
 |none=>none
def gcV(n:Nat)(x:Option SV):Option SV:=match x with
 |some x=>if blV n x=true then some x else none
 |none=>none
def gcS(n:Nat)(S:List (Option Cl)):List (Option Cl):=(S.take n).map (gcC n)
def gcT(n:Nat)(t:List (Option SV)):List (Option SV):=t.map (gcV n)
def gc(n:Nat)(s:SS):SS:=⟨gcS n s.S,gcT n s.t⟩
theorem Ih{n:Nat}{c:Option Cl}{d:Cl}(h:gcC n c=some d):c=some d/\blC n d=true:=by
 cases c with
 |none=>cases h
 |some c=>
  simp only[gcC]at h;split at h
  ·rename_i e;cases h;exact⟨rfl,e⟩
  ·cases h
theorem Ii{n:Nat}{c:Option SV}{d:SV}(h:gcV n c=some d):c=some d/\blV n d=true:=by
 cases c with
 |none=>cases h
 |some c=>
  simp only[gcV]at h;split at h
  ·rename_i e;cases h;exact⟨rfl,e⟩
  ·cases h
theorem StO.gc{S:List (Option Cl)}(O:StO A B H S)(n:Nat):StO (A.take n) B H (gcS n S):=by
 refine⟨?_,O.nd.sublist (List.take_sublist _ _),λa ha=>O.dis a (List.mem_of_mem_take ha),λa ha=>O.mx a (List.mem_of_mem_take ha),λk c a h1 h2=>?_⟩
 ·unfold gcS;rw[zal,List.length_take,List.length_take,O.len]
 ·unfold gcS at h1
  rw[zao]at h1;obtain⟨c',h3,h4⟩:=zab h1;obtain⟨rfl,h5⟩:=Ih h4;rw[List.getElem?_take]at h3 h2;split at h2
  ·rename_i hk
   rw[if_pos hk]at h3;exact(O.cell k c a h3 h2).take n h5
  ·cases h2
theorem bf.gc(R:bf G A B H σ s){n:Nat}(hn:G.io.length<=n):bf G (A.take n) B H σ (gc n s):=by
 refine⟨R.sub,R.sB,R.cO,R.kept,R.nB,λk a h=>?_,λa ha=>R.fresh a (List.mem_of_mem_take ha),R.st.gc n,?_,λi x h=>?_,R.nz⟩
 ·exact wq (R.pre k a h) (zaF (zac h).1 hn)
 ·show(gcT n s.t).length=_
  unfold gcT;rw[zal];exact R.len
 ·have h':(gcT n s.t)[i]?=some (some x):=h
  unfold gcT at h';rw[zao]at h';obtain⟨c',h3,h4⟩:=zab h';obtain⟨rfl,h5⟩:=Ii h4;obtain⟨v,h6,h7⟩:=R.slot i x h3;exact⟨v,h6,h7.take n h5⟩
def zo(n:Nat)(S:List (Option Cl)):Bool:=(S.take n).all λc=>match c with
 |some c=>blC n c
 |none=>true
def JE(n:Nat)(t:List (Option SV))(i:Nat):Bool:=match t[i]? with
 |some (some x)=>blV n x
 |_=>true
def gcE(n:Nat)(kp:List Nat)(s:SS):SS:=if(zo n s.S&&kp.all (JE n s.t))=true then gc n s else s
theorem bf.gcE(R:bf G A B H σ s){n:Nat}{kp:List Nat}(hn:G.io.length<=n):∃A',bf G A' B H σ (gcE n kp s):=by
 unfold Mir.gcE;split
 ·exact⟨_,R.gc hn⟩
 ·exact⟨_,R⟩
theorem Gro.len{A A':List Addr}(g:Gro A A'):A.length<=A'.length:=by
 cases h:A.length with
 |zero=>omega
 |succ k=>
  have hk:k<A.length:=by omega
  have:=g k A[k] (zaC hk);exact(zac this).1
end
mutual
def rdV(S:List (Option Cl)):SV->Option D
 | .pl d=>some d
 | .lc k=>match S[k]? with
  |some (some (.dat d))=>some d
  |_=>none
 | .tp xs=>(rB S xs).map .tuple
def rB(S:List (Option Cl)):List SV->Option (List D)
 | []=>some []
 |x::xs=>(rdV S x).bind λd=>(rB S xs).map λds=>d::ds
end
section
variable{G:FrN}{A:List Addr}{B H:Hp}{σ:St}{s:SS}
mutual
theorem zp(O:StO A B H s.S)(sub:aE B H):∀{v:V} {x:SV} {d:D},dM A B v x->rdV s.S x=some d->Rep H v d
 |_,_,d,.pl r,e=>by
  simp only[rdV]at e;cases e;exact r.mono sub
 |_,_,d,.lc (k:=k) h,e=>by
  simp only[rdV]at e;split at e
  ·rename_i d' hc
   cases e;cases O.cell k _ _ hc h with
   |dat o=>exact o.rep sub
  ·cases e
 |_,_,d,.tp h r,e=>by
  simp only[rdV]at e;obtain⟨ds,e1,rfl⟩:=zab e;exact .tup (sub _ _ h) (qm O sub r e1)
theorem qm(O:StO A B H s.S)(sub:aE B H):∀{v:List V} {x:List SV} {d:List D},b7 A B v x->rB s.S x=some d->aQ H v d
 |_,_,d,.nil,e=>by
  simp only[rB]at e;cases e;exact .nil
 |_,_,d,.cons a b,e=>by
  simp only[rB]at e;obtain⟨c,e1,e⟩:=zaa e;obtain⟨ds,e2,rfl⟩:=zab e;exact .cons (zp O sub a e1) (qm O sub b e2)
end
def AF(S:List (Option Cl)):Option SV->Sl
 |none=>.no
 |some x=>match rdV S x with
  |some d=>.fz d
  |none=>.no
def vw(s:SS):Rho:=s.t.map (AF s.S)
def slC:Option SV->Sl
 |some (.pl d)=>.fz d
 |_=>.no
def vwC(s:SS):Rho:=s.t.map slC
theorem sx(S:List (Option Cl))(y:Option SV):AF S y=.no\/∃d x,AF S y=.fz d/\y=some x/\rdV S x=some d:=by
 cases y with
 |none=>exact .inl rfl
 |some x=>
  cases h:rdV S x with
  |none=>exact .inl (by simp only[AF,h])
  |some d=>exact .inr ⟨d,x,by simp only[AF,h],rfl,h⟩
theorem Cy(y:Option SV):slC y=.no\/∃d,slC y=.fz d/\y=some (.pl d):=by
 cases y with
 |none=>exact .inl rfl
 |some x=>cases x with
  |pl d=>exact .inr ⟨d,rfl,rfl⟩
  |lc _=>exact .inl rfl
  |tp _=>exact .inl rfl
theorem yg{i:Nat}{x:Sl}(h:(vw s)[i]?=some x):x=.no\/∃d y,x=.fz d/\s.t[i]?=some (some y)/\rdV s.S y=some d:=by
 unfold vw at h;rw[zao]at h;obtain⟨y,h1,rfl⟩:=zab h;rcases sx s.S y with e|⟨d,z,e,rfl,e2⟩
 ·exact .inl e
 ·exact .inr ⟨d,z,e,h1,e2⟩
theorem uh{i:Nat}{x:Sl}(h:(vwC s)[i]?=some x):x=.no\/∃d,x=.fz d/\s.t[i]?=some (some (.pl d)):=by
 unfold vwC at h;rw[zao]at h;obtain⟨y,h1,rfl⟩:=zab h;rcases Cy y with e|⟨d,e,rfl⟩
 ·exact .inl e
 ·exact .inr ⟨d,e,h1⟩
theorem bf.opn(R:bf G A B H σ s):Rel ⟨H,H,[],G.Z⟩ H H σ (vw s):=by
 have nk:∀(i:Nat) (x:Sl),(vw s)[i]?=some x->x.isRef=true->False:=λi x h e=>by
  rcases yg h with rfl|⟨d,y,rfl,_⟩<;>cases e
 refine⟨aE.refl _,aE.refl _,λ_ _ h _=>h,λ_ h z=>absurd z h,?_,λi x h=>?_,λi j x t p h1 h2=>(nk i x h1 (Sl.kA h2)).elim,λi d p h=>(nk i _ h rfl).elim,(λx hx=>by cases hx),λi d h=>(nk i _ h rfl).elim,λ_ _ h=>h,λi h=>?_,R.nz⟩
 ·unfold vw;rw[zal];exact R.len
 ·rcases yg h with rfl|⟨d,y,rfl,h1,h2⟩
  ·trivial
  ·obtain⟨v,h3,h4⟩:=R.slot i y h1
   exact⟨v,h3,zp R.st R.sub h4 h2⟩
 ·rcases yg h with z|⟨d,y,z,_⟩<;>cases z
theorem bf.cls(R:bf G A B H σ s):Rel ⟨B,H,[],G.Z⟩ B H σ (vwC s):=by
 have nk:∀(i:Nat) (x:Sl),(vwC s)[i]?=some x->x.isRef=true->False:=λi x h e=>by
  rcases uh h with rfl|⟨d,rfl,_⟩<;>cases e
 refine⟨R.sub,aE.refl _,λ_ _ h _=>h,λ_ _ z=>z,?_,λi x h=>?_,λi j x t p h1 h2=>(nk i x h1 (Sl.kA h2)).elim,λi d p h=>(nk i _ h rfl).elim,(λx hx=>by cases hx),λi d h=>(nk i _ h rfl).elim,R.cO,λi h=>?_,R.nz⟩
 ·unfold vwC;rw[zal];exact R.len
 ·rcases uh h with rfl|⟨d,rfl,h1⟩
  ·trivial
  ·obtain⟨v,h3,h4⟩:=R.slot i _ h1
   cases h4 with
   |pl r=>exact⟨v,h3,r⟩
 ·rcases uh h with z|⟨d,z,_⟩<;>cases z
def tbu(B H:Hp):Hp:=λq=>match B q with
 |some o=>some o
 |none=>match H q with
  |some (.tup xs)=>some (.tup xs)
  |_=>none
theorem mP{B H:Hp}:aE B (tbu B H):=λq o h=>by unfold tbu;rw[h]
theorem mQ{B H:Hp}(sub:aE B H){q:Addr}{xs:List V}(h:H q=some (.tup xs)):tbu B H q=some (.tup xs):=by
 unfold tbu;cases hb:B q with
 |none=>rw[h]
 |some o=>
  have:=sub q o hb;rw[h]at this;exact this.symm
theorem nY{B H:Hp}{q:Addr}{o:HO}(h:tbu B H q=some o):B q=some o\/(B q=none/\∃xs,o=.tup xs/\H q=some (.tup xs)):=by
 unfold tbu at h;cases hb:B q with
 |some o'=>rw[hb]at h;exact .inl h
 |none=>
  rw[hb]at h;refine .inr ⟨rfl,?_⟩;dsimp only at h;split at h
  ·rename_i xs hx;cases h;exact⟨xs,rfl,hx⟩
  ·cases h
theorem bf.back{ρ:Rho}{B1 H1:Hp}(R:bf G A B H σ s)(R1:Rel ⟨H,H,[],G.Z⟩ B1 H1 σ ρ):bf G A (tbu B H1) H1 σ s/\aE B (tbu B H1)/\aE H H1/\∀q xs,B1 q=some (.tup xs)->tbu B H1 q=some (.tup xs):=by
 have eH:aE H H1:=λq o h=>R1.sH q o h λx hx=>by cases hx
 have ui:aE B H1:=R.sub.trans eH;refine⟨R.grow mP eH (λq o h=>?_) (λq h z=>?_) (λq xs h=>mQ ui h) R1.nz,mP,eH,λq xs h=>mQ ui (R1.sub _ _ h)⟩
 ·rcases nY h with h|⟨_,xs,rfl,h'⟩
  ·exact ui q o h
  ·exact h'
 ·cases h2:tbu B H1 q with
  |none=>rfl
  |some o=>
   rcases nY h2 with h3|⟨_,xs,rfl,h3⟩
   ·rw[z]at h3;cases h3
   ·cases h4:H q with
    |none=>exact absurd h4 h
    |some u=>
     have:=eH q u h4;rw[h3]at this;cases this;rw[R.cO q xs h4]at z;cases z
theorem bf.JF{ρ:Rho}{B1 H1:Hp}(R:bf G A B H σ s)(R1:Rel ⟨B,H,[],G.Z⟩ B1 H1 σ ρ):bf G A B1 H1 σ s/\aE B B1/\aE H H1:=by
 have eH:aE H H1:=λq o h=>R1.sH q o h λx hx=>by cases hx
 exact⟨R.grow R1.sB eH R1.sub (λq h z=>R1.nB q h z) R1.cO R1.nz,R1.sB,eH⟩
end
theorem Own.dH{B B' H:Hp}{p:Addr}{d:D}(k:∀q xs,B q=some (.tup xs)->B' q=some (.tup xs))(h:Own B H p d)(e:eW d true=true):Own B' H p d:=by
 cases h with
 |lst h r=>exact .lst h (r.dH k e)
 |dct h r=>exact .dct h (r.dH k e)
theorem Own.mx{B H:Hp}{p:Addr}{d:D}(h:Own B H p d):∃o,H p=some o/\Mx o:=by
 cases h with
 |lst h r=>exact⟨_,h,trivial⟩
 |dct h r=>exact⟨_,h,trivial⟩
structure Xc where
 c:Str
 by_:Option Int
inductive RR(α:Type) where
 |ok (v : α) (s:SS)|er (x:Xc) (s:SS)
abbrev MN(α:Type):=SS->Option (RR α)
abbrev EN:=MN SV
def bN{α β:Type}(m:MN α)(k : α->MN β):MN β:=λs=>match m s with
 |some (.ok v s')=>k v s'
 |some (.er x s')=>some (.er x s')
 |none=>none
abbrev WX:=Xc->St->Hp->Prop
abbrev RL(β α:Type):=List Addr->Hp->β->α->Prop
def ROk{α β:Type}(G:FrN)(A:List Addr)(B:Hp)(σ:St)(W:WX)(Rl:RL β α)(Q : β->Hp->Prop):RR α->Prop
 | .ok v s'=>∀x A' B' H',Gro A A'->aE B B'->bf G A' B' H' σ s'->Rl A' B' x v->Q x H'
 | .er y s'=>∀A' B' H',bf G A' B' H' σ s'->W y σ H'
def NM{α β:Type}(W:WX)(Rl:RL β α)(t:St->Hp->(β->Hp->Prop)->Prop)(m:MN α):Prop :=
 ∀(G:FrN) (A:List Addr) (B H:Hp) (σ:St) (s:SS) (r:RR α) (Q : β->Hp->Prop),bf G A B H σ s->m s=some r->ROk G A B σ W Rl Q r->t σ H Q
abbrev NE(W:WX)(t:TE)(m:EN):Prop:=NM W dM t m
abbrev NT(W:WX)(t:TT)(m:MN Bool):Prop:=NM W (λ_ _ (b c:Bool)=>b=c) t m
abbrev NA(W:WX)(t:TA)(m:MN (List SV)):Prop:=NM W b7 t m
section
variable{W:WX}{G:FrN}{A:List Addr}{B H:Hp}{σ:St}{s:SS}
theorem ROk.up{α β:Type}{Rl:RL β α}{Q : β->Hp->Prop}{r:RR α}{A1:List Addr}{B1:Hp}(q:ROk G A B σ W Rl Q r)(g:Gro A A1)(e:aE B B1):ROk G A1 B1 σ W Rl Q r:=by
 cases r with
 |ok v s'=>exact λx A' B' H' g' e'=>q x A' B' H' (g.trans g') (e.trans e')
 |er y s'=>exact q
theorem dY{α β γ δ:Type}{Rl:RL β α}{Rl':RL δ γ}{t:St->Hp->(β->Hp->Prop)->Prop}{m:MN α}{k : α->MN γ}{r:RR γ}{Q : δ->Hp->Prop}{C : β->Hp->Prop}(h:NM W Rl t m)(R:bf G A B H σ s)(e:bN m k s=some r)(q:ROk G A B σ W Rl' Q r)
  (c:∀x v A' B' H' s',Gro A A'->aE B B'->bf G A' B' H' σ s'->Rl A' B' x v->k v s'=some r->ROk G A' B' σ W Rl' Q r->C x H'):t σ H C:=by
 unfold bN at e;split at e
 ·rename_i v s' h1
  exact h G A B H σ s _ C R h1 λx A' B' H' g eB R' V=>c x v A' B' H' s' g eB R' V e (q.up g eB)
 ·rename_i y s' h1
  cases e;exact h G A B H σ s _ C R h1 q
 ·cases e
def newD(d:D)(s:SS):RR SV:=.ok (.lc s.S.length) ⟨s.S++[some (.dat d)],s.t⟩
def JG(w:D×Bool)(s:SS):Option (RR SV):=match w with
 |(d,false)=>some (.ok (.pl d) s)
 |(.tuple ds,true)=>some (.ok (.pl (.tuple ds)) s)
 |(d,true)=>some (newD d s)
end
section
variable{W:WX}
def nO(m:PM):EN:=λs=>(m (vw s)).bind λx=>match x.1 with
 |(d,.fz)=>if eg d=true then some (.ok (.pl d) s)else none
 |(d,.new)=>if eW d true=true then some (newD d s)else none
 |_=>none
theorem gL{t:TE}{m:PM}(h:ME t m):NE W t (nO m):=by
 intro G A B H σ s r Q R e q;obtain⟨x,e1,e⟩:=zaa e;refine h _ H H σ (vw s) x.1 x.2 _ R.opn e1 λv B1 H1 E1 R1 V1 N1=>?_
 obtain⟨R2,eB,eH,kt⟩:=R.back R1;obtain⟨⟨d,k⟩,ρ1⟩:=x;cases k with
 |fz=>
  dsimp only at e;split at e
  ·rename_i hp
   cases e;have V1':Rep B1 v d:=V1;exact q v A _ H1 (Gro.refl _) eB R2 (.pl (V1'.dH kt hp))
  ·cases e
 |new=>
  dsimp only at e;split at e
  ·rename_i hp
   cases e;obtain⟨p,rfl,hB,hF,ow,_⟩:=V1;have hF':H p=none:=hF;obtain⟨g1,g2,g3⟩:=R.ql hF';have ow':=ow.dH kt hp;obtain⟨o,ho,mo⟩:=ow'.mx;have hB2:tbu B H1 p=none:=by
    cases h2:tbu B H1 p with
    |none=>rfl
    |some o'=>
     rcases nY h2 with h3|⟨_,xs,rfl,h3⟩
     ·rw[g3]at h3;cases h3
     ·exact absurd h3 (ow.kB xs)
   have R3:=R2.take (c:=.dat d) g1 g2 hB2 ho mo (.dat ow');refine q _ _ _ H1 (Gro.app _ _) eB R3 (.lc ?_);rw[<-R.st.len];exact List.getElem?_concat_length
  ·cases e
 |ro=>cases e
 | «at» j=>cases e
def nTo(m:Rho->Option (Bool×Rho)):MN Bool:=λs=>(m (vw s)).map λx=>.ok x.1 s
theorem qo{t:TT}{m:Rho->Option (Bool×Rho)}(h:MT t m):NT W t (nTo m):=by
 intro G A B H σ s r Q R e q;obtain⟨x,e1,e⟩:=zab e;cases e;refine h _ H H σ (vw s) x.1 x.2 _ R.opn e1 λB1 H1 E1 R1=>?_
 obtain⟨R2,eB,eH,kt⟩:=R.back R1;exact q _ A _ H1 (Gro.refl _) eB R2 rfl
def bH(i:Nat):EN:=λs=>match s.t[i]? with
 |some (some x)=>some (.ok x s)
 |_=>none
theorem aO{i:Nat}:NE W (my i) (bH i):=by
 intro G A B H σ s r Q R e q;unfold bH at e;split at e
 ·rename_i x hx
  cases e;obtain⟨v,h1,h2⟩:=R.slot i _ hx;exact⟨v,h1,q v A B H (Gro.refl _) (aE.refl _) R h2⟩
 ·cases e
def nLit(d:D):EN:=λs=>some (.ok (.pl d) s)
theorem b9{v:V}{d:D}(h:∀B,Rep B v d):NE W (tC v) (nLit d):=by
 intro G A B H σ s r Q R e q;cases e;exact q v A B H (Gro.refl _) (aE.refl _) R (.pl (h B))
def wu(a:EN):MN Bool:=bN a λx s=>match x with
 | .pl (.bool b)=>some (.ok b s)
 |_=>none
theorem EL{ta:TE}{a:EN}(ha:NE W ta a):NT W (BB ta) (wu a):=by
 intro G A B H σ s r0 Q R e q;refine dY (t:=ta) ha R e q λx v A1 B1 H1 s1 g1 eB1 R1 V1 e1 q1=>?_
 split at e1
 ·cases e1
  cases V1 with
  |pl r=>cases r;exact⟨_,rfl,q1 _ A1 B1 H1 (Gro.refl _) (aE.refl _) R1 rfl⟩
 ·cases e1
theorem JH{ta:TE}{a:EN}(ha:NE W ta a):NT W (tB ta) (wu a):=EL ha
def okB(b:Bool):MN Bool:=λs=>some (.ok b s)
theorem zq{G:FrN}{A:List Addr}{B H:Hp}{σ:St}{s:SS}{b:Bool}{r:RR Bool}{Q:Bool->Hp->Prop}(R:bf G A B H σ s)(e:okB b s=some r)(q:ROk G A B σ W (λ_ _ (b c:Bool)=>b=c) Q r):Q b H:=by
 cases e;exact q b A B H (Gro.refl _) (aE.refl _) R rfl
def nOr(a b:MN Bool):MN Bool:=bN a λx=>if x=true then okB true else b
theorem JI{ta tb:TT}{a b:MN Bool}(ha:NT W ta a)(hb:NT W tb b):NT W (tOr ta tb) (nOr a b):=by
 intro G A B H σ s r0 Q R e q;refine dY (t:=ta) ha R e q λx v A1 B1 H1 s1 g1 eB1 R1 V1 e1 q1=>?_
 subst V1
 by_cases h:x=true
 ·rw[if_pos h]at e1⊢;exact zq R1 e1 q1
 ·rw[if_neg h]at e1⊢;exact hb G A1 B1 H1 σ s1 r0 Q R1 e1 q1
def EM(a:MN Bool):MN Bool:=bN a λx=>okB (!x)
theorem Ij{ta:TT}{a:MN Bool}(ha:NT W ta a):NT W (Ha ta) (EM a):=by
 intro G A B H σ s r0 Q R e q;refine dY (t:=ta) ha R e q λx v A1 B1 H1 s1 g1 eB1 R1 V1 e1 q1=>?_
 subst V1;exact zq R1 e1 q1
def ixV(S:List (Option Cl))(x:SV)(i:Int):Option SV:=match x with
 | .tp xs=>L2.atI xs i
 | .pl (.tuple ds)=>(L2.atI ds i).map .pl
 | .pl (.list ds)=>(L2.atI ds i).map .pl
 | .lc k=>match S[k]? with
  |some (some (.dat (.list ds)))=>(L2.atI ds i).map .pl
  |some (some (.lst xs))=>L2.atI xs i
  |_=>none
 |_=>none
theorem mR{α β:Type}{P : α->β->Prop}{xs:List α}{ys:List β}(hl:xs.length=ys.length)(h:∀(n:Nat) (y : β),ys[n]?=some y->∃x,xs[n]?=some x/\P x y){i:Int}{y : β}(e:L2.atI ys i=some y):∃x,L2.atI xs i=some x/\P x y:=by
 unfold L2.atI at e⊢;rw[hl];obtain⟨j,e1,e2⟩:=zaa e;obtain⟨x,h1,h2⟩:=h j y e2;exact⟨x,by rw[e1,zai];exact h1,h2⟩
theorem Ik{K:zag}{G:FrN}{A:List Addr}{B H:Hp}{σ:St}{s:SS}{v:V}{x y:SV}{i:Int}(R:bf G A B H σ s)(hV:dM A B v x)(e:ixV s.S x i=some y):∃u,dM A B u y/\∀Q:VK,Q u H->rIx K v (.int i) H Q:=by
 have lst:∀{a:Addr} {xs:List V} {u:V},H a=some (.lst xs)\/Rd H a (.lst xs)->L2.atI xs i=some u->∀Q:VK,Q u H->rIx K (.ref a) (.int i) H Q:=λh h1 Q q=>
  .inl ⟨_,_,_,_,rfl,rfl,.inl (h.elim .inl id),h1,q⟩
 cases x with
 |tp xs=>
  cases hV with
  |tp ht rs=>
   obtain⟨u,h1,h2⟩:=mR rs.length (λn y hy=>rs.get n y hy) e
   exact⟨u,h2,λQ q=>.inr (.inl ⟨_,_,_,_,rfl,rfl,.inl (.inl (R.sub _ _ ht)),h1,q⟩)⟩
 |pl d=>
  cases d with
  |tuple ds=>
   obtain⟨c,e1,rfl⟩:=zab e;cases hV with
   |pl rp=>
    cases rp with
    |tup ht rs=>
     obtain⟨u,h1,h2⟩:=mR rs.length (λn y hy=>rs.get n y hy) e1
     exact⟨u,.pl h2,λQ q=>.inr (.inl ⟨_,_,_,_,rfl,rfl,.inl (.inl (R.sub _ _ ht)),h1,q⟩)⟩
  |list ds=>
   obtain⟨c,e1,rfl⟩:=zab e;cases hV with
   |pl rp=>
    cases rp with
    |lst ht rs=>
     obtain⟨u,h1,h2⟩:=mR rs.length (λn y hy=>rs.get n y hy) e1
     exact⟨u,.pl h2,lst (.inr (dy R.sub ht)) h1⟩
  |_=>cases e
 |lc k=>
  simp only[ixV]at e;cases hV with
  |lc hA=>
   split at e
   ·rename_i ds hk
    obtain⟨c,e1,rfl⟩:=zab e;cases R.st.cell k _ _ hk hA with
    |dat ow=>
     obtain⟨xs,hp,rs⟩:=ow.list;obtain⟨u,h1,h2⟩:=mR rs.length (λn y hy=>rs.get n y hy) e1
     exact⟨u,.pl h2,lst (.inl hp) h1⟩
   ·rename_i xs hk
    cases R.st.cell k _ _ hk hA with
    |lst hp rs=>
     obtain⟨u,h1,h2⟩:=mR rs.length (λn y hy=>rs.get n y hy) e
     exact⟨u,h2,lst (.inl hp) h1⟩
   ·cases e
def nIx(a b:EN):EN:=bN a λx=>bN b λy s=>match y with
 | .pl (.int i)=>(ixV s.S x i).map λz=>.ok z s
 |_=>none
theorem fO{K:zag}{ta tb:TE}{a b:EN}(ha:NE W ta a)(hb:NE W tb b):NE W (tOp (rIx K) ta tb) (nIx a b):=by
 intro G A B H σ s r0 Q R e q;refine dY (t:=ta) ha R e q λx v A1 B1 H1 s1 g1 eB1 R1 V1 e1 q1=>?_
 refine dY (t:=tb) hb R1 e1 q1 λy u A2 B2 H2 s2 g2 eB2 R2 V2 e2 q2=>?_
 split at e2
 ·obtain⟨z,e3,e4⟩:=zab e2
  cases e4;cases V2 with
  |pl rp=>
   cases rp;obtain⟨w,h1,h2⟩:=Ik (K:=K) R2 (V1.mono g2 eB2) e3;exact h2 Q (q2 w A2 B2 H2 (Gro.refl _) (aE.refl _) R2 h1)
 ·cases e2
def cM:MN (List SV):=λs=>some (.ok [] s)
theorem cf:NA W tw cM:=by
 intro G A B H σ s rs Q R e q;cases e;exact q [] A B H (Gro.refl _) (aE.refl _) R .nil
def aS(a:EN)(m:MN (List SV)):MN (List SV):=bN a λx=>bN m λxs s=>some (.ok (x::xs) s)
theorem aL{ta:TE}{tr:TA}{a:EN}{m:MN (List SV)}(ha:NE W ta a)(hr:NA W tr m):NA W (hI ta tr) (aS a m):=by
 intro G A B H σ s r0 Q R e q;refine dY (t:=ta) ha R e q λx v A1 B1 H1 s1 g1 eB1 R1 V1 e1 q1=>?_
 refine dY (t:=tr) hr R1 e1 q1 λy u A2 B2 H2 s2 g2 eB2 R2 V2 e2 q2=>?_
 cases e2;exact q2 _ A2 B2 H2 (Gro.refl _) (aE.refl _) R2 (.cons (V1.mono g2 eB2) V2)
def iO:List SV->Option (List D)
 | []=>some []
 | .pl d::xs=>(iO xs).map λds=>d::ds
 |_=>none
theorem jo{A:List Addr}{B:Hp}:∀{vs:List V} {xs:List SV} {ds:List D},b7 A B vs xs->iO xs=some ds->aQ B vs ds
 |_,_,ds,.nil,e=>by
  simp only[iO]at e;cases e;exact .nil
 |_,_,ds,.cons (x:=x) a b,e=>by
  cases x with
  |pl d=>
   simp only[iO]at e;obtain⟨ds',e1,rfl⟩:=zab e;cases a with
   |pl r=>exact .cons r (jo b e1)
  |lc k=>simp[iO]at e
  |tp k=>simp[iO]at e
def mkT(xs:List SV):SV:=match iO xs with
 |some ds=>.pl (.tuple ds)
 |none=>.tp xs
theorem EO{A:List Addr}{B:Hp}{t:Addr}{vs:List V}{xs:List SV}(h:B t=some (.tup vs))(r:b7 A B vs xs):dM A B (.ref t) (mkT xs):=by
 unfold mkT;split
 ·rename_i ds e;exact .pl (.tup h (jo r e))
 ·exact .tp h r
def kH(m:MN (List SV)):EN:=bN m λxs s=>cIf (xs.length<=sizeLine) (some (.ok (mkT xs) s)) none
theorem g7{t:TA}{m:MN (List SV)}(h:NA W t m):NE W (D9 t) (kH m):=by
 intro G A B H σ s r0 Q R e q;refine dY (t:=t) h R e q λvs xs A1 B1 H1 s1 g1 eB1 R1 V1 e1 q1=>?_
 obtain⟨hz,e1⟩:=cU e1;cases e1;refine⟨by rw[V1.length];exact hz,λp hp=>?_⟩
 obtain⟨R2,eB2⟩:=R1.rq (xs:=vs) hp;exact q1 _ A1 _ _ (Gro.refl _) eB2 R2 (EO ax (V1.mono (Gro.refl _) eB2))
def mkL(xs:List SV):Cl:=match iO xs with
 |some ds=>.dat (.list ds)
 |none=>.lst xs
def JJ(c:Cl)(s:SS):RR SV:=.ok (.lc s.S.length) ⟨s.S++[some c],s.t⟩
theorem Cz{G:FrN}{A:List Addr}{B H:Hp}{σ:St}{s:SS}{c:Cl}{p:Addr}{o:HO}{Q:VK}(R:bf G A B H σ s)(hp:H p=none)(mo:Mx o)(ok:∀H',H' p=some o->eS (A++[p]) B H' p c)(q:ROk G A B σ W dM Q (JJ c s)):Q (.ref p) (upd H p o):=by
 obtain⟨g1,g2,g3⟩:=R.ql hp;have eH:aE H (upd H p o):=λq u h=>by rw[aq (λz=>by rw[z,hp]at h;cases h)];exact h
 have R2:bf G A B (upd H p o) σ s:=R.grow (aE.refl _) eH (R.sub.trans eH) (λ_ _ z=>z) (λq xs h=>by
  by_cases z:q=p
  ·subst z;rw[ax]at h;cases h;cases mo
  ·rw[aq z]at h;exact R.cO q xs h) λq u w h=>by
  by_cases z:q=p
  ·subst z;rw[ax]at h;cases h;cases mo
  ·rw[aq z]at h;exact R.nz q u w h
 have R3:=R2.take (c:=c) g1 g2 g3 ax mo (ok _ ax);exact q _ _ _ _ (Gro.app _ _) (aE.refl _) R3 (.lc (by rw[<-R.st.len];exact List.getElem?_concat_length))
def CA(m:MN (List SV)):EN:=bN m λxs s=>cIf (xs.length<=sizeLine) (some (JJ (mkL xs) s)) none
theorem CB{t:TA}{m:MN (List SV)}(h:NA W t m):NE W (Ho t) (CA m):=by
 intro G A B H σ s r0 Q R e q;refine dY (t:=t) h R e q λvs xs A1 B1 H1 s1 g1 eB1 R1 V1 e1 q1=>?_
 obtain⟨hz,e1⟩:=cU e1;cases e1;refine⟨by rw[V1.length];exact hz,λp hp=>Cz R1 hp trivial (λH' h'=>?_) q1⟩
 unfold mkL;split
 ·rename_i ds ea;exact .dat (.lst h' (jo V1 ea))
 ·exact .lst h' (V1.mono (Gro.app _ _) (aE.refl _))
structure wx(A:List Addr)(B H:Hp)(A':List Addr)(B' H':Hp)(S':List (Option Cl))(v:V)(r:SV):Prop where
 gro:Gro A A'
 eB:aE B B'
 sub:aE B' H'
 tB:∀q xs,H' q=some (.tup xs)->B' q=some (.tup xs)
 kept:∀q o,H q=some o->q∉A->H' q=some o
 nb:∀q,H q≠none->B q=none->B' q=none
 fresh:∀a∈A',a∈A\/H a=none
 st:StO A' B' H' S'
 nz:∀q o u,H' q=some (.frz o u)->∃o0 u0,H q=some (.frz o0 u0)
 val:dM A' B' v r
inductive FR where
 |ok (r:SV) (S:List (Option Cl))|er (x:Xc) (S:List (Option Cl))
abbrev FN:=List (Option Cl)->List SV->Option FR
def spS(f:FN):Sp:=λvs H Q E=>∃A B S xs w,aE B H/\(∀q xs,H q=some (.tup xs)->B q=some (.tup xs))/\StO A B H S/\b7 A B vs xs/\f S xs=some w/\
 match w with
 | .ok r S'=>∀v A' B' H',wx A B H A' B' H' S' v r->Q v H'
 | .er x S'=>∀A' B' H',wx A B H A' B' H' S' .non (.pl .none)->E (Zl.cl x.c) none H'
def spQ(f:FN):Sp:=λvs H Q _=>spS f vs H Q E0
theorem bf.post{G:FrN}{A A':List Addr}{B H B' H':Hp}{σ:St}{s:SS}{S':List (Option Cl)}{v:V}{r:SV}(R:bf G A B H σ s)(P:wx A B H A' B' H' S' v r):bf G A' B' H' σ ⟨S',s.t⟩:=by
 refine⟨P.sub,R.sB.trans P.eB,P.tB,λq o h n=>?_,λq h z=>?_,R.pre.trans P.gro,λa ha=>?_,P.st,R.len,λi x h=>?_,λq o u h=>?_⟩
 ·refine P.kept q o (R.kept q o h n) λhq=>?_
  rcases R.fresh q hq with h1|h1
  ·exact n h1
  ·rw[h1]at h;cases h
 ·refine P.nb q (λhq=>?_) (R.nB q h z)
  have:=(R.ql hq).1;exact h this
 ·rcases P.fresh a ha with h|h
  ·exact R.fresh a h
  ·exact .inr (R.ql h).1
 ·obtain⟨w,h1,h2⟩:=R.slot i x h
  exact⟨w,h1,h2.mono P.gro P.eB⟩
 ·obtain⟨o0,u0,h0⟩:=P.nz q o u h
  exact R.nz q o0 u0 h0
def frR(w:FR)(t:List (Option SV)):RR SV:=match w with
 | .ok r S=>.ok r ⟨S,t⟩
 | .er x S=>.er x ⟨S,t⟩
def l7(f:FN)(m:MN (List SV)):EN:=bN m λxs s=>(f s.S xs).map λw=>frR w s.t
theorem CC{f:FN}{G:FrN}{A:List Addr}{B H:Hp}{σ:St}{s:SS}{vs:List V}{xs:List SV}{r0:RR SV}{Q:VK}{E:XK}(R:bf G A B H σ s)(V:b7 A B vs xs)(e:((f s.S xs).map λw=>frR w s.t)=some r0)(q:ROk G A B σ W dM Q r0)
  (hw:∀x H',W x σ H'->E (Zl.cl x.c) none H'):spS f vs H Q E:=by
 obtain⟨w,e2,e3⟩:=zab e;refine⟨A,B,s.S,xs,w,R.sub,R.cO,R.st,V,e2,?_⟩;cases w with
 |ok r S'=>
  cases e3;exact λv A' B' H' P=>q v A' B' H' P.gro P.eB (R.post P) P.val
 |er x S'=>
  cases e3;exact λA' B' H' P=>hw x H' (q A' B' H' (R.post P))
theorem ER{f:FN}{E:XK}{t:TA}{m:MN (List SV)}(hw:∀x σ H',W x σ H'->E (Zl.cl x.c) none H')(h:NA W t m):NE W (kq (spS f) [] E t) (l7 f m):=by
 intro G A B H σ s r0 Q R e q;refine dY (t:=t) h R e q λvs xs A1 B1 H1 s1 g1 eB1 R1 V1 e1 q1=>?_
 rw[zaR];exact CC R1 V1 e1 q1 λx H'=>hw x σ H'
def W0:WX:=λ_ _ _=>False
theorem jq{f:FN}{t:TA}{m:MN (List SV)}(h:NA W0 t m):NE W0 (kq (spQ f) [] E0 t) (l7 f m):=ER (λ_ _ _ z=>z.elim) h
end
inductive iV where
 |nx (s:SS)|rt (r:SV) (s:SS)|bk (s:SS)|ct (s:SS)|er (x:Xc) (s:SS)
abbrev SN:=SS->Option iV
def NOk(G:FrN)(W:WX)(D:Ends):iV->Prop
 | .nx s=>∀A B H σ,bf G A B H σ s->D.nx σ H
 | .rt r s=>∀v A B H σ,bf G A B H σ s->dM A B v r->D.rt v H
 | .bk s=>∀A B H σ,bf G A B H σ s->D.bk σ H
 | .ct s=>∀A B H σ,bf G A B H σ s->D.ct σ H
 | .er x s=>∀A B H σ,bf G A B H σ s->W x σ H
def NS(W:WX)(t:TS)(m:SN):Prop:=∀(G:FrN) (A:List Addr) (B H:Hp) (σ:St) (s:SS) (o:iV) (D:Ends),bf G A B H σ s->m s=some o->NOk G W D o->t D σ H
def bS{α:Type}(m:MN α)(k : α->SN):SN:=λs=>match m s with
 |some (.ok v s')=>k v s'
 |some (.er x s')=>some (.er x s')
 |none=>none
section
variable{W:WX}
theorem nZ{α β:Type}{Rl:RL β α}{t:St->Hp->(β->Hp->Prop)->Prop}{m:MN α}{k : α->SN}{G:FrN}{A:List Addr}{B H:Hp}{σ:St}{s:SS}{o:iV}{D:Ends}{C : β->Hp->Prop}(h:NM W Rl t m)(R:bf G A B H σ s)(e:bS m k s=some o)(q:NOk G W D o)
  (c:∀x v A' B' H' s',bf G A' B' H' σ s'->Rl A' B' x v->k v s'=some o->C x H'):t σ H C:=by
 unfold bS at e;split at e
 ·rename_i v s' h1
  exact h G A B H σ s _ C R h1 λx A' B' H' g eB R' V=>c x v A' B' H' s' R' V e
 ·rename_i y s' h1
  cases e;exact h G A B H σ s _ C R h1 λA' B' H' R'=>q A' B' H' σ R'
 ·cases e
def cI(a b:SN):SN:=λs=>match a s with
 |some (.nx s')=>b s'
 |o=>o
theorem a8{t u:TS}{a b:SN}(ha:NS W t a)(hb:NS W u b):NS W (Bn t u) (cI a b):=by
 intro G A B H σ s o D R e q;unfold cI at e;split at e
 ·rename_i s' e1
  exact ha G A B H σ s _ _ R e1 λA' B' H' σ' R'=>hb G A' B' H' σ' s' o D R' e q
 ·rename_i o' hn
  refine ha G A B H σ s o _ R e ?_;cases o with
  |nx s'=>exact absurd e (hn s')
  |rt r s'=>exact q
  |bk s'=>exact q
  |ct s'=>exact q
  |er x s'=>exact q
def kI:SN:=λs=>some (.nx s)
theorem ik:NS W yR kI:=by
 intro G A B H σ s o D R e q;cases e;exact q A B H σ R
def kJ(a:EN):SN:=bS a λx s=>some (.rt x s)
theorem fP{t:TE}{a:EN}(ha:NE W t a):NS W (Bp t) (kJ a):=by
 intro G A B H σ s o D R e q;refine nZ (t:=t) ha R e q λx v A' B' H' s' R' V' e1=>?_
 cases e1;exact q x A' B' H' σ R' V'
def jr(a:EN):SN:=bS a λ_ s=>some (.nx s)
theorem gA{t:TE}{a:EN}(ha:NE W t a):NS W (Bo t) (jr a):=by
 intro G A B H σ s o D R e q;refine nZ (t:=t) ha R e q λx v A' B' H' s' R' V' e1=>?_
 cases e1;exact q A' B' H' σ R'
def ml(c:MN Bool)(a b:SN):SN:=bS c λx=>if x=true then a else b
theorem mS{tc:TT}{t u:TS}{c:MN Bool}{a b:SN}(hc:NT W tc c)(ha:NS W t a)(hb:NS W u b):NS W (D3 tc t u) (ml c a b):=by
 intro G A B H σ s o D R e q;refine nZ (t:=tc) hc R e q λx v A' B' H' s' R' V' e1=>?_
 subst V'
 by_cases h:x=true
 ·rw[if_pos h]at e1⊢;exact ha G A' B' H' σ s' o D R' e1 q
 ·rw[if_neg h]at e1⊢;exact hb G A' B' H' σ s' o D R' e1 q
def NG(W:WX)(g:TG)(mg:SV->SN):Prop:=∀(G:FrN) (A:List Addr) (B H:Hp) (σ:St) (s:SS) (v:V) (x:SV) (o:iV) (D:Ends),bf G A B H σ s->dM A B v x->mg x s=some o->NOk G W D o->g v σ H D.nx
def ngN(i:Nat):SV->SN:=λx s=>if i<s.t.length then some (.nx ⟨s.S,s.t.set i (some x)⟩)else none
theorem bL{i:Nat}:NG W (pP i) (ngN i):=λG A B H σ s v x o D R rv e q=>by
 unfold ngN at e;split at e
 ·rename_i h;cases e;exact q A B H _ (R.set h rv)
 ·cases e
def NGs(g:TGs)(mg:List SV->SS->Option SS):Prop:=∀(G:FrN) (A:List Addr) (B H:Hp) (σ:St) (s:SS) (vs:List V) (xs:List SV) (s':SS) (Q:St->Hp->Prop),bf G A B H σ s->b7 A B vs xs->mg xs s=some s'->(∀σ',bf G A B H σ' s'->Q σ' H)->g vs σ H Q
def uj:List SV->SS->Option SS:=λxs s=>match xs with
 | []=>some s
 |_=>none
def gB(i:Nat)(gs:List SV->SS->Option SS):List SV->SS->Option SS:=λxs s=>match xs with
 |x::xs=>if i<s.t.length then gs xs ⟨s.S,s.t.set i (some x)⟩else none
 |_=>none
theorem um:NGs Hd uj:=λG A B H σ s vs xs s' Q R rv e q=>by
 cases rv with
 |nil=>cases e;exact⟨rfl,q σ R⟩
 |cons _ _=>cases e
theorem gM{i:Nat}{gs:TGs}{ms:List SV->SS->Option SS}(hs:NGs gs ms):NGs (Bu (pP i) gs) (gB i ms):=λG A B H σ s vs xs s' Q R rv e q=>by
 cases rv with
 |nil=>cases e
 |cons r rs=>
  simp only[gB]at e;split at e
  ·rename_i h
   exact⟨_,_,rfl,hs G A B H _ _ _ _ s' Q (R.set h r) rs e fun σ2 R2=>q σ2 R2⟩
  ·cases e
theorem aQ.plV{A:List Addr}{B:Hp}:∀{vs:List V} {ds:List D},aQ B vs ds->b7 A B vs (ds.map .pl)
 |_,_,.nil=>.nil
 |_,_,.cons a b=>.cons (.pl a) (aQ.plV b)
def rC(S:List (Option Cl)):SV->Option (List SV)
 | .tp xs=>some xs
 | .pl (.tuple ds)=>some (ds.map .pl)
 | .pl (.list ds)=>some (ds.map .pl)
 | .lc k=>match S[k]? with
  |some (some (.dat (.list ds)))=>some (ds.map .pl)
  |some (some (.lst xs))=>some xs
  |_=>none
 |_=>none
theorem CD{K:zag}{G:FrN}{A:List Addr}{B H:Hp}{σ:St}{s:SS}{v:V}{x:SV}{xs:List SV}(R:bf G A B H σ s)(h:dM A B v x)(e:rC s.S x=some xs):∃t vs,v=.ref t/\(SqT K H t vs\/SqL K H t vs)/\b7 A B vs xs:=by
 cases x with
 |lc k=>
  simp only[rC]at e;cases h with
  |lc hA=>
   split at e
   ·rename_i ds hk
    cases e;cases R.st.cell k _ _ hk hA with
    |dat ow=>
     obtain⟨ys,hp,rs⟩:=ow.list;exact⟨_,_,rfl,.inr (SqL.of hp),rs.plV⟩
   ·rename_i ys hk
    cases e;cases R.st.cell k _ _ hk hA with
    |lst hp rs=>exact⟨_,_,rfl,.inr (SqL.of hp),rs⟩
   ·cases e
 |tp ys=>cases e;cases h with|tp h1 h2=>exact⟨_,_,rfl,.inl (.inl (.inl (R.sub _ _ h1))),h2⟩
 |pl d=>
  cases d with
  |tuple ds=>cases e;cases h with|pl r=>cases r with|tup h1 h2=>exact⟨_,_,rfl,.inl (.inl (.inl (R.sub _ _ h1))),h2.plV⟩
  |list ds=>cases e;cases h with|pl r=>cases r with|lst h1 h2=>exact⟨_,_,rfl,.inr (.inl (dy R.sub h1)),h2.plV⟩
  |_=>cases e
def ngT(n:Nat)(ms:List SV->SS->Option SS):SV->SN:=λx s=>(rC s.S x).bind λxs=>if xs.length=n then(ms xs s).map .nx else none
theorem uo{K:zag}{n:Nat}{gs:TGs}{ms:List SV->SS->Option SS}(h:NGs gs ms):NG W (BQ K n gs) (ngT n ms):=λG A B H σ s v x o D R rv e q=>by
 obtain⟨xs,e1,e⟩:=zaa e;obtain⟨t,vs,rfl,h1,h2⟩:=CD (K:=K) R rv e1;split at e
 ·rename_i hn
  obtain⟨s2,e2,e3⟩:=zab e;cases e3;exact⟨_,_,rfl,h1,by rw[h2.length];exact hn,h G A B H σ s _ _ s2 _ R h2 e2 fun σ' R'=>q A B H σ' R'⟩
 ·cases e
def dW(a:EN)(g:SV->SN):SN:=bS a g
theorem cB{t:TE}{tg:TG}{a:EN}{g:SV->SN}(ha:NE W t a)(hg:NG W tg g):NS W (Ac t tg) (dW a g):=by
 intro G A B H σ s o D R e q;exact nZ (t:=t) ha R e q λx v A' B' H' s' R' V' e1=>hg G A' B' H' σ s' x v o D R' V' e1 q
theorem b7.set{A:List Addr}{B:Hp}{x:V}{c:SV}(r:dM A B x c):∀{v:List V} {d:List SV} (i:Nat),b7 A B v d->b7 A B (v.set i x) (d.set i c)
 |_,_,_,.nil=>.nil
 |_,_,0,.cons _ b=>.cons r b
 |_,_,i+1,.cons a b=>.cons a (b7.set r i b)
def fQ(kp:List Nat)(c:MN Bool)(b:SN):Nat->SN
 |0=>λ_=>none
 |n+1=>bS c λx s=>if x=true then(match b s with
   |some (.nx s')=>fQ kp c b n (gcE s.S.length kp s')
   |some (.ct s')=>fQ kp c b n (gcE s.S.length kp s')
   |some (.bk s')=>some (.nx s')
   |some (.rt r s')=>some (.rt r s')
   |some (.er x s')=>some (.er x s')
   |none=>none)
  else some (.nx s)
theorem Gw{G:FrN}{A:List Addr}{B H:Hp}{σ:St}{s:SS}(R:bf G A B H σ s):G.io.length<=s.S.length:=by rw[<-R.st.len];exact R.pre.len
theorem wy{tc:TT}{tb:TS}{c:MN Bool}{b:SN}{n:Nat}{kp:List Nat}(hc:NT W tc c)(hb:NS W tb b):NS W (xG tc tb) (fQ kp c b n):=by
 intro G A B H σ s o D R e q;refine⟨λm σ H=>∃A B s,bf G A B H σ s/\fQ kp c b m s=some o,⟨n,A,B,s,R,e⟩,?_⟩
 rintro m σ1 H1 ⟨A1,B1,s1,R1,e1⟩
 cases m with
 |zero=>cases e1
 |succ m=>
  refine nZ (t:=tc) hc R1 e1 q λx v A2 B2 H2 s2 R2 V2 e2=>?_
  subst V2
  by_cases h:x=true
  ·rw[if_pos h]at e2⊢
   refine⟨fun σ' H'=>∃A' B' s',bf G A' B' H' σ' s'/\fQ kp c b m s'=some o,fun σ' H' h'=>⟨m,Nat.lt_succ_self _,h'⟩,?_⟩
   split at e2
   ·rename_i s' e4;exact hb G A2 B2 H2 σ1 s2 _ _ R2 e4 λA' B' H' σ' R'=>(let⟨A3,R3⟩:=R'.gcE (Gw R2);⟨A3,B',_,R3,e2⟩)
   ·rename_i s' e4;exact hb G A2 B2 H2 σ1 s2 _ _ R2 e4 λA' B' H' σ' R'=>(let⟨A3,R3⟩:=R'.gcE (Gw R2);⟨A3,B',_,R3,e2⟩)
   ·rename_i s' e4;cases e2;exact hb G A2 B2 H2 σ1 s2 _ _ R2 e4 q
   ·rename_i r s' e4;cases e2;exact hb G A2 B2 H2 σ1 s2 _ _ R2 e4 q
   ·rename_i r s' e4;cases e2;exact hb G A2 B2 H2 σ1 s2 _ _ R2 e4 q
   ·cases e2
  ·rw[if_neg h]at e2⊢
   cases e2;exact q A2 B2 H2 σ1 R2
def gN(n:Nat)(kp:List Nat)(ok:SS->Prop)(g:SV->SN)(b:SN):List SV->SN
 | []=>λs=>cIf (ok s) (some (.nx s)) none
 |d::ds=>λs=>cIf (ok s) (match g d s with
   |some (.nx s1)=>(match b s1 with
    |some (.nx s')=>gN n kp ok g b ds (gcE n kp s')
    |some (.ct s')=>gN n kp ok g b ds (gcE n kp s')
    |some (.bk s')=>some (.nx s')
    |some (.rt r s')=>some (.rt r s')
    |some (.er x s')=>some (.er x s')
    |none=>none)
   |_=>none) none
theorem bf.down{G:FrN}{A A1:List Addr}{B H B1 H1:Hp}{σ σ1:St}{s s1:SS}(R1:bf G A1 B1 H1 σ1 s1)(R:bf ⟨B1,H1,A1,G.Z⟩ A B H σ s):bf G A B H σ s:=by
 refine⟨R.sub,R1.sB.trans R.sB,R.cO,λq o h n=>R.kept q o (R1.kept q o h n) λhq=>?_,λq h z=>R.nB q (λhq=>h (R1.ql hq).1) (R1.nB q h z),R1.pre.trans R.pre,λa ha=>?_,R.st,R.len,R.slot,R.nz⟩
 ·rcases R1.fresh q hq with h1|h1
  ·exact n h1
  ·rw[h1]at h;cases h
 ·rcases R.fresh a ha with h|h
  ·exact R1.fresh a h
  ·exact .inr (R1.ql h).1
theorem bf.up{G:FrN}{A1:List Addr}{B1 H1:Hp}{σ1:St}{s1:SS}(R1:bf G A1 B1 H1 σ1 s1):bf ⟨B1,H1,A1,G.Z⟩ A1 B1 H1 σ1 s1 :=
 ⟨R1.sub,aE.refl _,R1.cO,λ_ _ h _=>h,λ_ _ z=>z,Gro.refl _,λ_ h=>.inl h,R1.st,R1.len,R1.slot,R1.nz⟩
theorem NOk.up{G:FrN}{A1:List Addr}{B1 H1:Hp}{σ1:St}{s1:SS}(R1:bf G A1 B1 H1 σ1 s1){D:Ends}{o:iV}(h:NOk G W D o):NOk ⟨B1,H1,A1,G.Z⟩ W D o:=by
 cases o with
 |nx s=>exact λA B H σ R=>h A B H σ (R1.down R)
 |bk s=>exact λA B H σ R=>h A B H σ (R1.down R)
 |ct s=>exact λA B H σ R=>h A B H σ (R1.down R)
 |rt r s=>exact λv A B H σ R V=>h v A B H σ (R1.down R) V
 |er x s=>exact λA B H σ R=>h A B H σ (R1.down R)
def Il(A:List Addr)(B H:Hp)(x:V)(H':Hp)(y:SV):Prop:=(H'=H/\dM A B x y)\/∃p xs cs,y=.pl (.tuple cs)/\x=.ref p/\H p=none/\H'=upd H p (.tup xs)/\aQ B xs cs
theorem uq{kp:List Nat}{tg:TG}{tb:TS}{g:SV->SN}{b:SN}{ok:SS->Prop}{G:FrN}{J:It}{ds:List SV}{A1:List Addr}{B1 H1:Hp}{σ1:St}{s1:SS}{W0:Ends}{o:iV}
  (hg:NG W tg g) (hb:NS W tb b) (R1:bf G A1 B1 H1 σ1 s1) (e:gN s1.S.length kp ok g b ds s1=some o) (q:NOk G W W0 o)
  (I:∀A B H σ s,bf ⟨B1,H1,A1,G.Z⟩ A B H σ s->ok s->J.stop ds.length H/\∀(i:Nat) (d:SV),ds[i]?=some d->J.go i H/\∀x H',J.yld i H x H'->Il A B H x H' d) :
  ∃W:Nat->Nat->St->Hp->Prop,(∃m,W 0 m σ1 H1)/\∀i m σ H,W i m σ H->
   (J.stop i H/\W0.nx σ H)\/(J.go i H/\∃N:St->Hp->Prop,(∀σ' H',N σ' H'->∃m',m'<m/\W (i+1) m' σ' H')/\∀x H',J.yld i H x H'->tg x σ H' fun σ2 H2=>tb {W0 with nx:=N,ct:=N,bk:=W0.nx} σ2 H2):=by
 have q':=q.up R1;have hio:(FrN.mk B1 H1 A1 G.Z).io.length<=s1.S.length:=Nat.le_of_eq R1.st.len;refine⟨λi m σ H=>m=ds.length-i/\i<=ds.length/\∃A B s,bf ⟨B1,H1,A1,G.Z⟩ A B H σ s/\gN s1.S.length kp ok g b (ds.drop i) s=some o,⟨ds.length,rfl,Nat.zero_le _,A1,B1,s1,R1.up,e⟩,?_⟩
 rintro i m σ2 H2 ⟨rfl,hil,A2,B2,s2,R2,e2⟩
 by_cases hlt:i<ds.length
 ·refine .inr ?_
  rw[zbb hlt]at e2;obtain⟨hok,e2⟩:=cU (show cIf (ok s2) _ none=some o from e2);obtain⟨go,yl⟩:=(I A2 B2 H2 σ2 s2 R2 hok).2 i ds[i] (zaC hlt);refine⟨go,fun σ' H'=>∃A' B' s',bf ⟨B1,H1,A1,G.Z⟩ A' B' H' σ' s'/\gN s1.S.length kp ok g b (ds.drop (i+1)) s'=some o,fun σ' H' h'=>⟨ds.length-(i+1),by omega,rfl,hlt,h'⟩,λy H3 hy=>?_⟩
  have had:∃B3,bf ⟨B1,H1,A1,G.Z⟩ A2 B3 H3 σ2 s2/\dM A2 B3 y ds[i]:=by
   rcases yl y H3 hy with⟨rfl,h2⟩|⟨p,xs,cs,h1,rfl,h3,rfl,h5⟩
   ·exact⟨B2,R2,h2⟩
   ·obtain⟨R3,e3⟩:=R2.rq (xs:=xs) h3
    exact⟨_,R3,by rw[h1];exact .pl (.tup ax (h5.mono e3))⟩
  obtain⟨B3,R3,rp⟩:=had;split at e2
  ·rename_i s3 e3
   refine hg _ A2 B3 H3 σ2 s2 y ds[i] (.nx s3) ⟨fun σ2 H2=>tb {W0 with nx:=fun σ' H'=>∃A' B' s',bf ⟨B1,H1,A1,G.Z⟩ A' B' H' σ' s'/\gN s1.S.length kp ok g b (ds.drop (i+1)) s'=some o,ct:=fun σ' H'=>∃A' B' s',bf ⟨B1,H1,A1,G.Z⟩ A' B' H' σ' s'/\gN s1.S.length kp ok g b (ds.drop (i+1)) s'=some o,bk:=W0.nx} σ2 H2,W0.rt,W0.bk,W0.ct⟩ R3 rp e3 λA4 B4 H4 σ4 R4=>?_
   split at e2
   ·rename_i s' e5;exact hb _ A4 B4 H4 σ4 s3 _ _ R4 e5 λA' B' H' σ' R'=>(let⟨A3,R3⟩:=R'.gcE hio;⟨A3,B',_,R3,e2⟩)
   ·rename_i s' e5;exact hb _ A4 B4 H4 σ4 s3 _ _ R4 e5 λA' B' H' σ' R'=>(let⟨A3,R3⟩:=R'.gcE hio;⟨A3,B',_,R3,e2⟩)
   ·rename_i s' e5;cases e2;exact hb _ A4 B4 H4 σ4 s3 _ _ R4 e5 q'
   ·rename_i r s' e5;cases e2;exact hb _ A4 B4 H4 σ4 s3 _ _ R4 e5 q'
   ·rename_i r s' e5;cases e2;exact hb _ A4 B4 H4 σ4 s3 _ _ R4 e5 q'
   ·cases e2
  ·cases e2
 ·have hi':i=ds.length:=by omega
  subst hi';rw[List.drop_length]at e2;obtain⟨hok,e2⟩:=cU (show cIf (ok s2) _ none=some o from e2);cases e2;exact .inl ⟨(I A2 B2 H2 σ2 s2 R2 hok).1,q' A2 B2 H2 σ2 R2⟩
theorem ES{A:List Addr}{B H:Hp}{x:V}{H':Hp}{d:D}(h:vV B H x H' d):Il A B H x H' (.pl d):=by
 rcases h with⟨h1,h2⟩|⟨p,xs,cs,h1,h2,h3,h4,h5⟩
 ·exact .inl ⟨h1,.pl h2⟩
 ·exact .inr ⟨p,xs,cs,by rw[h1],h2,h3,h4,h5⟩
theorem vV.mono{B B' H:Hp}{x:V}{H':Hp}{d:D}(h:vV B H x H' d)(e:aE B B'):vV B' H x H' d:=by
 rcases h with⟨h1,h2⟩|⟨p,xs,cs,h1,h2,h3,h4,h5⟩
 ·exact .inl ⟨h1,h2.mono e⟩
 ·exact .inr ⟨p,xs,cs,h1,h2,h3,h4,h5.mono e⟩
theorem yh{ds:List D}{i:Nat}{x:SV}(h:(ds.map SV.pl)[i]?=some x):∃d,ds[i]?=some d/\x=.pl d:=by
 rw[zao]at h;obtain⟨d,h1,h2⟩:=zab h;exact⟨d,h1,h2.symm⟩
def CF(kp:List Nat)(it:Rho->Option (List D×Rho))(g:SV->SN)(b:SN):SN:=λs=>(it (vwC s)).bind λx=>gN s.S.length kp (λ_=>True) g b (x.1.map .pl) s
theorem CG{kp:List Nat}{ti:TI}{tg:TG}{tb:TS}{it:Rho->Option (List D×Rho)}{g:SV->SN}{b:SN}(hi:MF ti it)(hg:NG W tg g)(hb:NS W tb b):NS W (Bx ti tg tb) (CF kp it g b):=by
 intro G A B H σ s o D R e q;obtain⟨x,e1,e⟩:=zaa e;refine hi _ B H σ (vwC s) x.1 x.2 _ R.cls e1 λJ B1 H1 E1 R1 I1=>?_
 obtain⟨R2,eB,eH⟩:=R.JF R1;refine uq hg hb R2 e q λA' B' H' σ' s' R' _=>?_
 have I2:=I1 H' (R'.sB.trans R'.sub);rw[zal];refine⟨I2.1,λi d hd=>?_⟩
 obtain⟨c,h1,rfl⟩:=yh hd;exact⟨(I2.2 i c h1).1,λy H2 hy=>ES (((I2.2 i c h1).2 y H2 hy).mono R'.sB)⟩
def stays(k:SV)(xs:List SV)(s:SS):Prop:=rC s.S k=some xs
def wz(kp:List Nat)(a:EN)(g:SV->SN)(b:SN):SN:=bS a λy s=>match y with
 | .lc k=>(rC s.S (.lc k)).bind λxs=>gN s.S.length kp (stays (.lc k) xs) g b xs s
 | .pl (.list ds)=>gN s.S.length kp (λ_=>True) g b (ds.map .pl) s
 |_=>none
theorem zr{K:zag}{A:List Addr}{B H:Hp}{p:Addr}{xs:List V}{ys:List SV}(h:SqL K H p xs)(r:b7 A B xs ys):(Itl K p).stop ys.length H/\∀(i:Nat) (d:SV),ys[i]?=some d->(Itl K p).go i H/\∀x H',(Itl K p).yld i H x H'->Il A B H x H' d:=by
 refine⟨⟨xs,h,by rw[r.length];exact zap _⟩,λi d hd=>?_⟩
 obtain⟨u,h1,h2⟩:=r.get i d hd;refine⟨⟨xs,u,h,h1⟩,λx H' hy=>.inl ⟨hy.1,?_⟩⟩
 have:=hy.2 xs h;rw[h1]at this;cases this;exact h2
theorem zt{kp:List Nat}{K:zag}{te:TE}{tg:TG}{tb:TS}{a:EN}{g:SV->SN}{b:SN}(ha:NE W te a)(hg:NG W tg g)(hb:NS W tb b):NS W (Bx (vI K te) tg tb) (wz kp a g b):=by
 intro G A B H σ s o D R e q;refine nZ (t:=te) ha R e q λx v A1 B1 H1 s1 R1 V1 e1=>?_
 split at e1
 ·rename_i k
  obtain⟨xs,e2,e3⟩:=zaa e1;cases V1 with
  | @lc _ p hA=>
   have lst:∀{A':List Addr} {B' H':Hp} {σ':St} {s':SS} {G':FrN},bf G' A' B' H' σ' s'->A'[k]?=some p->rC s'.S (.lc k)=some xs->∃vs,H' p=some (.lst vs)/\b7 A' B' vs xs:=fun{A' B' H' σ' s' G'} R' hA' e'=>by
    simp only[rC]at e';split at e'
    ·rename_i ds hk
     cases e';cases R'.st.cell k _ _ hk hA' with
     |dat ow=>
      obtain⟨ys,hp,rs⟩:=ow.list;exact⟨_,hp,rs.plV⟩
    ·rename_i ys hk
     cases e';cases R'.st.cell k _ _ hk hA' with
     |lst hp rs=>exact⟨_,hp,rs⟩
    ·cases e'
   obtain⟨vs,hp,rs⟩:=lst R1 hA e2;refine⟨_,rfl,⟨vs,SqL.of hp⟩,?_⟩;refine uq hg hb R1 e3 q λA' B' H' σ' s' R' hok=>?_
   obtain⟨vs',hp',rs'⟩:=lst R' (R'.pre k _ hA) hok;exact zr (SqL.of hp') rs'
 ·rename_i ds
  cases V1 with
  |pl r=>
   cases r with
   |lst hp rs=>
    refine⟨_,rfl,⟨_,.inl (dy R1.sub hp)⟩,?_⟩;refine uq hg hb R1 e1 q λA' B' H' σ' s' R' hok=>?_
    exact zr (.inl (dy (R'.sB.trans R'.sub) hp)) (rs.mono R'.sB).plV
 ·cases e1
def qp(S:List (Option Cl))(k:Nat):Bool:=match S[k]? with
 |some (some (.dat (.list _)))=>true
 |some (some (.lst _))=>true
 |_=>false
theorem wA{K:zag}{G:FrN}{A:List Addr}{B H:Hp}{σ:St}{s:SS}{k:Nat}{a:Addr}(R:bf G A B H σ s)(hA:A[k]?=some a)(e:qp s.S k=true):tyV K "list" (.ref a) H:=by
 unfold qp at e;split at e
 ·rename_i ds hk
  cases R.st.cell k _ _ hk hA with
  |dat ow=>obtain⟨xs,hp,_⟩:=ow.list;exact .inl ⟨rfl,xs,SqL.of hp⟩
 ·rename_i ds hk
  cases R.st.cell k _ _ hk hA with
  |lst hp _=>exact .inl ⟨rfl,_,SqL.of hp⟩
 ·cases e
def wB(a:EN)(m:MN (List SV))(u:Nat->List SV->SS->Option (RR SV)):EN:=bN a λx s=>match x with
 | .lc k=>if qp s.S k=true then bN m (λxs s2=>u k xs s2) s else none
 |_=>none
theorem zu{K:zag}{te:TE}{a:EN}{r:V->List V->Hp->VK->Prop}{t:TA}{m:MN (List SV)}{u:Nat->List SV->SS->Option (RR SV)}(ha:NE W te a)(h:NA W t m)
  (hu:∀(G:FrN) (A:List Addr) (B H:Hp) (σ:St) (s:SS) (p:Addr) (k:Nat) (vs:List V) (xs:List SV) (r0:RR SV) (Q:VK),bf G A B H σ s->A[k]?=some p->b7 A B vs xs->u k xs s=some r0->ROk G A B σ W dM Q r0->r (.ref p) vs H Q):NE W (tBM K "list" r te t) (wB a m u):=by
 intro G A B H σ s r0 Q R e q;refine dY (t:=te) ha R e q λx v A1 B1 H1 s1 g1 eB1 R1 V1 e1 q1=>?_
 split at e1
 ·rename_i k
  split at e1
  ·rename_i hl
   cases V1 with
   |lc hA=>
    refine⟨wA R1 hA hl,?_⟩;refine dY (t:=t) h R1 e1 q1 λvs xs A2 B2 H2 s2 g2 eB2 R2 V2 e2 q2=>?_
    exact hu G A2 B2 H2 σ s2 _ k vs xs r0 Q R2 (g2 _ _ hA) V2 e2 q2
  ·cases e1
 ·cases e1
def CH(f:List D->List D->Option (List D×D))(k:Nat)(xs:List SV)(s:SS):Option (RR SV):=(iO xs).bind λas=>match s.S[k]? with
  |some (some (.dat (.list ds)))=>(f ds as).map λw=>.ok (.pl w.2) ⟨s.S.set k (some (.dat (.list w.1))),s.t⟩
  |_=>none
theorem zw{r:V->List V->Hp->VK->Prop}{f:List D->List D->Option (List D×D)}(J:tW r f)(G:FrN)(A:List Addr)(B H:Hp)(σ:St)(s:SS)(p:Addr)(k:Nat)(vs:List V)(xs:List SV)(r0:RR SV)(Q:VK)(R:bf G A B H σ s)(hA:A[k]?=some p)(hV:b7 A B vs xs)(e:CH f k xs s=some r0)(q:ROk G A B σ W dM Q r0):r (.ref p) vs H Q:=by
 obtain⟨as,e1,e⟩:=zaa e;split at e
 ·rename_i ds hk
  obtain⟨w,e2,e3⟩:=zab e;cases e3;cases R.st.cell k _ _ hk hA with
  |dat ow=>
   obtain⟨ys,hp,rx⟩:=ow.list;obtain⟨xs',u,rx',ru,hr⟩:=J B H _ ys ds vs as w hp rx R.sub (jo hV e1) e2;have R3:=R.write (o:=.lst xs') (c:=.dat (.list w.1)) hA trivial (.dat (.lst ax rx'));exact hr Q (q u A B _ (Gro.refl _) (aE.refl _) R3 (.pl ru))
 ·cases e
def ET(k:Nat)(xs:List SV)(s:SS):Option (RR SV):=match xs,s.S[k]? with
 | [.pl d],some (some (.dat (.list ds)))=>cIf (ds.length<sizeLine) (some (.ok (.pl .none) ⟨s.S.set k (some (.dat (.list (ds++[d])))),s.t⟩)) none
 | [x],some (some (.dat (.list ds)))=>cIf (ds.length<sizeLine) (some (.ok (.pl .none) ⟨s.S.set k (some (.lst (ds.map .pl++[x]))),s.t⟩)) none
 | [x],some (some (.lst ys))=>cIf (ys.length<sizeLine) (some (.ok (.pl .none) ⟨s.S.set k (some (.lst (ys++[x]))),s.t⟩)) none
 |_,_=>none
theorem b7.append{A:List Addr}{B:Hp}:∀{v w:List V} {d c:List SV},b7 A B v d->b7 A B w c->b7 A B (v++w) (d++c)
 |_,_,_,_,.nil,r=>r
 |_,_,_,_,.cons a b,r=>.cons a (b7.append b r)
theorem EU(G:FrN)(A:List Addr)(B H:Hp)(σ:St)(s:SS)(p:Addr)(k:Nat)(vs:List V)(xs:List SV)(r0:RR SV)(Q:VK)(R:bf G A B H σ s)(hA:A[k]?=some p)(hV:b7 A B vs xs)(e:ET k xs s=some r0)(q:ROk G A B σ W dM Q r0):mE (.ref p) vs H Q:=by
 have go:∀{x:SV} {y:V} {ys:List V} {c:Cl},vs=[y]->H p=some (.lst ys)->ys.length<sizeLine->eS A B (upd H p (.lst (ys++[y]))) p c->r0=.ok (.pl .none) ⟨s.S.set k (some c),s.t⟩->mE (.ref p) vs H Q:=fun{x y ys c} h1 h2 h3 ok er=>by
  subst er h1;exact⟨p,ys,y,rfl,rfl,h2,h3,q .non A B _ (Gro.refl _) (aE.refl _) (R.write (o:=.lst (ys++[y])) hA trivial ok) (.pl .non)⟩
 unfold ET at e;split at e
 ·rename_i d ds hk
  obtain⟨hz,e⟩:=cU e;cases e;cases hV with
  |cons a b=>
   cases b;cases a with
   |pl r=>
    cases R.st.cell k _ _ hk hA with
    |dat ow=>
     obtain⟨ys,hp,rs⟩:=ow.list;exact go (x:=.pl d) rfl hp (by rw[rs.length];exact hz) (.dat (.lst ax (rs.append (.cons r .nil)))) rfl
 ·rename_i x ds _ hk
  obtain⟨hz,e⟩:=cU e;cases e;cases hV with
  |cons a b=>
   cases b;cases R.st.cell k _ _ hk hA with
   |dat ow=>
    obtain⟨ys,hp,rs⟩:=ow.list;exact go (x:=x) rfl hp (by rw[rs.length];exact hz) (.lst ax (rs.plV.append (.cons a .nil))) rfl
 ·rename_i x ys hk
  obtain⟨hz,e⟩:=cU e;cases e;cases hV with
  |cons a b=>
   cases b;cases R.st.cell k _ _ hk hA with
   |lst hp rs=>exact go (x:=x) rfl hp (by rw[rs.length];exact hz) (.lst ax (rs.append (.cons a .nil))) rfl
 ·cases e
def wC(a:EN)(m:MN (List SV)):EN:=wB a m ET
theorem qq{K:zag}{te:TE}{a:EN}{t:TA}{m:MN (List SV)}(ha:NE W te a)(h:NA W t m):NE W (tBM K "list" mE te t) (wC a m):=zu ha h EU
def nMt(f:List D->List D->Option (List D×D))(a:EN)(m:MN (List SV)):EN:=wB a m (CH f)
theorem JK{K:zag}{te:TE}{a:EN}{r:V->List V->Hp->VK->Prop}{f:List D->List D->Option (List D×D)}{t:TA}{m:MN (List SV)}(J:tW r f)(ha:NE W te a)(h:NA W t m):NE W (tBM K "list" r te t) (nMt f a m):=zu ha h (zw J)
end
def fS(n:Nat)(S:List (Option Cl)):List (Option Cl):=if zo n S=true then gcS n S else S
def retS(n:Nat):iV->Option FR
 | .rt r s=>if blV n r=true then some (.ok r (fS n s.S))else some (.ok r s.S)
 | .nx s=>some (.ok (.pl .none) (fS n s.S))
 | .er x s=>some (.er x (fS n s.S))
 |_=>none
def fnS(n k:Nat)(b:SN):FN:=λS xs=>if xs.length=n then(b ⟨S,xs.map some++List.replicate k none⟩).bind (retS S.length)else none
theorem sy{A:List Addr}{B H:Hp}{N:List Str}{vs:List V}{S:List (Option Cl)}{xs:List SV}{n k:Nat}(sub:aE B H)(tB:∀q xs,H q=some (.tup xs)->B q=some (.tup xs))(O:StO A B H S)(rv:b7 A B vs xs)(hl:xs.length=n)(hN:N.length=n+k) :
  bf ⟨B,H,A,λq=>∃o u,H q=some (.frz o u)⟩ A B H (L2.start N vs) ⟨S,xs.map some++List.replicate k none⟩:=by
 have hvl:vs.length=n:=rv.length.trans hl;refine⟨sub,aE.refl _,tB,λ_ _ h _=>h,λ_ _ z=>z,Gro.refl _,λ_ h=>.inl h,O,?_,λi x h=>?_,λq o u h=>⟨o,u,h⟩⟩
 ·simp[L2.start,hl,hvl,hN]
 ·have h':(xs.map some++List.replicate k none)[i]?=some (some x):=h
  by_cases hi:i<n
  ·rw[zax (by simpa[hl]using hi),zao]at h'
   obtain⟨c,h1,h2⟩:=zab h';cases h2;obtain⟨y,h3,h4⟩:=rv.get i _ h1;refine⟨y,?_,h4⟩;unfold L2.start;rw[zax (by simpa[hvl]using hi),zao,h3]
   rfl
  ·rw[zaN (by simpa[hl]using zba hi)]at h'
   have:=zaG (zaj h');cases this
theorem post_of{A A':List Addr}{B H B' H':Hp}{σ':St}{s':SS}{v:V}{r:SV}(R':bf ⟨B,H,A,λq=>∃o u,H q=some (.frz o u)⟩ A' B' H' σ' s')(V':dM A' B' v r):wx A B H A' B' H' s'.S v r:=⟨R'.pre,R'.sB,R'.sub,R'.cO,R'.kept,R'.nB,R'.fresh,R'.st,R'.nz,V'⟩
theorem qr{A A':List Addr}{B H B' H':Hp}{σ':St}{s':SS}{v:V}{r:SV}{n:Nat}(hn:A.length<=n)(R':bf ⟨B,H,A,λq=>∃o u,H q=some (.frz o u)⟩ A' B' H' σ' s')(V':dM A' B' v r)(hb:blV n r=true):∃A'',wx A B H A'' B' H' (fS n s'.S) v r:=by
 unfold fS;split
 ·exact⟨_,post_of (R'.gc hn) (V'.take _ hb)⟩
 ·exact⟨_,post_of R' V'⟩
theorem EV{n k:Nat}{b:SN}{t:TS}{N:List Str}{vs:List V}{H:Hp}{Q:VK}{E:XK}(hb:NS (λx _ H=>E (Zl.cl x.c) none H) t b)(hN:N.length=n+k)(h:spS (fnS n k b) vs H Q E):t {nx:=λ_ H'=>Q .non H',rt:=Q} (L2.start N vs) H:=by
 obtain⟨A,B,S,xs,w0,sub,tB,O,rv,e,q⟩:=h;unfold fnS at e;split at e
 case isFalse=>cases e
 rename_i hl
 obtain⟨w,e1,e2⟩:=zaa e;have R:=sy (k:=k) sub tB O rv hl hN;refine hb _ A B H _ _ w _ R e1 ?_;have hn:A.length<=S.length:=Nat.le_of_eq O.len;cases w with
 |nx s'=>cases e2;exact λA' B' H' σ' R'=>(let⟨A2,p⟩:=qr hn R' (.pl .non) rfl;q _ A2 B' H' p)
 |bk s'=>cases e2
 |ct s'=>cases e2
 |er x s'=>cases e2;exact λA' B' H' σ' R'=>(let⟨A2,p⟩:=qr hn R' (.pl .non) rfl;q A2 B' H' p)
 |rt r' s'=>
  simp only[retS]at e2;split at e2
  ·rename_i hbl
   cases e2;exact λv A' B' H' σ' R' V'=>(let⟨A2,p⟩:=qr hn R' V' hbl;q v A2 B' H' p)
  ·cases e2
   exact λv A' B' H' σ' R' V'=>q v A' B' H' (post_of R' V')
theorem lI{n k:Nat}{b:SN}{t:TS}{N:List Str}{vs:List V}{H:Hp}{Q:VK}{E:XK}(hb:NS W0 t b)(hN:N.length=n+k)(h:spQ (fnS n k b) vs H Q E):t {nx:=λ_ H'=>Q .non H',rt:=Q} (L2.start N vs) H:=EV (E:=E0) hb hN h
theorem EW{n k:Nat}{b:SN}{vs:List V}{H:Hp}{Q:VK}{E:XK}(h:spS (fnS n k b) vs H Q E):vs.length=n:=by
 obtain⟨A,B,S,xs,w,sub,tB,O,rv,e,q⟩:=h;unfold fnS at e;split at e
 ·rename_i hl;exact rv.length.trans hl
 ·cases e
theorem lJ{n k:Nat}{b:SN}{vs:List V}{H:Hp}{Q:VK}{E:XK}(h:spQ (fnS n k b) vs H Q E):vs.length=n:=EW (E:=E0) h
def JL:iV->Option (D×Bool)
 | .rt (.pl d) _=>some (d,false)
 | .rt (.lc k) s=>match s.S[k]? with
  |some (some (.dat d))=>some (d,true)
  |_=>none
 | .nx _=>some (.none,false)
 |_=>none
def fnO(n k:Nat)(b:SN)(ds:List D):Option (D×Bool):=if ds.length=n then(b ⟨[],ds.map (λd=>some (.pl d))++List.replicate k none⟩).bind JL else none
theorem EX{n k:Nat}{b:SN}{t:TS}{N:List Str}{vs:List V}{H:Hp}{Q:VK}{E:XK}(hb:NS W0 t b)(hN:N.length=n+k)(h:spM (fnO n k b) vs H Q E):t {nx:=λ_ H'=>Q .non H',rt:=Q} (L2.start N vs) H:=by
 obtain⟨B,ds,d,o,sub,tB,rp,e,q⟩:=h;unfold fnO at e;split at e
 case isFalse=>cases e
 rename_i hl
 obtain⟨w,e1,e2⟩:=zaa e;have O:StO [] B H ([]:List (Option Cl)):=⟨rfl,List.nodup_nil,(λa h=>by cases h),(λa h=>by cases h),λk c a h=>by simp at h⟩
 have R:=sy (k:=k) (xs:=ds.map .pl) sub tB O (aQ.plV rp) (by simpa using hl) hN
 rw[List.map_map]at R;refine hb _ [] B H _ _ w _ R e1 ?_;have post:∀{A':List Addr} {B' H':Hp} {σ':St} {s':SS},bf ⟨B,H,[],λq=>∃o u,H q=some (.frz o u)⟩ A' B' H' σ' s'->aE H H'/\aE B B'/\aE B' H'/\(∀q,H q≠none->B q=none->B' q=none)/\(∀q xs,H' q=some (.tup xs)->B' q=some (.tup xs))/\∀q o u,H' q=some (.frz o u)->H q≠none:=λR'=>
  ⟨λq u z=>R'.kept q u z (by simp),R'.sB,R'.sub,R'.nB,R'.cO,λq o u z=>(let⟨_,_,y⟩:=R'.nz q o u z;by rw[y];simp)⟩
 cases w with
 |nx s'=>
  cases e2;intro A' B' H' σ' R';obtain⟨p1,p2,p3,p4,p5,p6⟩:=post R';exact q _ B' H' ⟨p1,p2,p3,p4,p5,p6,.non⟩
 |bk s'=>cases e2
 |ct s'=>cases e2
 |er x s'=>cases e2
 |rt r s'=>
  intro v A' B' H' σ' R' V';obtain⟨p1,p2,p3,p4,p5,p6⟩:=post R';cases r with
  |pl c=>
   cases e2;cases V' with
   |pl rv=>exact q v B' H' ⟨p1,p2,p3,p4,p5,p6,rv⟩
  |tp xs=>cases e2
  |lc j=>
   have e2':(match s'.S[j]? with
    |some (some (.dat d))=>some (d,true)
    |_=>none)=some (d,o):=e2
   split at e2'
   ·rename_i d' hj
    cases e2';obtain⟨a,rfl,hA⟩:∃a,v=.ref a/\A'[j]?=some a:=by cases V' with|lc h=>exact⟨_,rfl,h⟩
    ·have ha:=zaj hA
     cases R'.st.cell j _ _ hj hA with
     |dat ow=>
      have hn:H a=none:=by
       rcases R'.fresh a ha with z|z
       ·cases z
       ·exact z
      exact q _ B' H' ⟨p1,p2,p3,p4,p5,p6,⟨_,rfl,hn,R'.st.dis _ ha,ow⟩⟩
   ·cases e2'
theorem EY{n k:Nat}{b:SN}{vs:List V}{H:Hp}{Q:VK}{E:XK}(h:spM (fnO n k b) vs H Q E):vs.length=n:=by
 obtain⟨B,ds,d,o,sub,tB,rp,e,q⟩:=h;unfold fnO at e;split at e
 ·rename_i hl;exact rp.length.trans hl
 ·cases e
end
end Mir
namespace L2
open PySem PySem.Spec PyProof.Rows
section
variable{κ:Type} [DecidableEq κ]
def iP(kvs:List (κ×V))(k : κ):Option V:=(kvs.find? λkv=>decide (kv.1=k)).map (·.2)
def putK(kvs:List (κ×V))(k : κ)(v:V):List (κ×V) :=
 if(kvs.any λkv=>decide (kv.1=k))=true then kvs.map (λkv=>if kv.1=k then(kv.1,v)else kv)else kvs++[(k,v)]
def oO(kvs:List (κ×V))(k : κ):List (κ×V):=kvs.filter λkv=>decide (kv.1≠k)
theorem kK{p : κ×V}{r:List (κ×V)}{k : κ}(e:p.1=k):iP (p::r) k=some p.2:=by simp[iP,List.find?_cons,e]
theorem kL{p : κ×V}{r:List (κ×V)}{k : κ}(e : ¬p.1=k):iP (p::r) k=iP r k:=by simp[iP,List.find?_cons,e]
theorem qt(k : κ):∀kvs:List (κ×V),(kvs.any λkv=>decide (kv.1=k))=(iP kvs k).isSome
 | []=>rfl
 |p::r=>by
  rw[List.any_cons]
  by_cases e:p.1=k
  ·simp only[kK e,decide_eq_true e,Bool.true_or,Option.isSome_some]
  ·rw[kL e,zaO e,Bool.false_or];exact qt k r
theorem oP(kvs:List (κ×V))(k : κ)(v:V):(putK kvs k v).length<=kvs.length+1:=by
 unfold putK;split
 ·rw[zal];omega
 ·rw[zau,zaw,List.length_nil];omega
theorem CI{kvs:List (κ×V)}{k : κ}(v:V)(h:iP kvs k=none):putK kvs k v=kvs++[(k,v)]:=by
 unfold putK;rw[qt,h];exact if_neg (by decide)
theorem lS.js{o:Option V}{u:Option Value}(r:lS o u):o.isSome=u.isSome:=by
 cases o with
 |none=>cases u with
  |none=>rfl
  |some _=>exact(show False from r).elim
 |some _=>cases u with
  |none=>exact(show False from r).elim
  |some _=>rfl
theorem lS.getD{o:Option V}{u:Option Value}{d:V}{d':Value}(r:lS o u)(rd:RelV d d'):RelV (o.getD d) (u.getD d'):=by
 cases o with
 |none=>cases u with
  |none=>exact rd
  |some _=>exact(show False from r).elim
 |some _=>cases u with
  |none=>exact(show False from r).elim
  |some _=>exact r
theorem KV.val{kvs:List (κ×V)}{vs:List (κ×Value)}(r:KV kvs vs)(k : κ):lS (iP kvs k) (valueAt vs k):=by
 unfold KV at r
 induction r with
 |nil=>exact True.intro
 | @cons p q ps qs h t ih=>
  obtain⟨h1,h2⟩:=h
  by_cases e:p.1=k
  ·have e':q.1=k:=h1.symm.trans e
   have b:valueAt (q::qs) k=some q.2:=by simp[valueAt,List.find?_cons,e']
   rw[kK e,b];exact h2
  ·have e' : ¬q.1=k:=λz=>e (h1.trans z)
   have b:valueAt (q::qs) k=valueAt qs k:=by simp[valueAt,List.find?_cons,e']
   rw[kL e,b];exact ih
theorem KV.any{kvs:List (κ×V)}{vs:List (κ×Value)}(r:KV kvs vs)(k : κ):(kvs.any λkv=>decide (kv.1=k))=vs.any λkv=>decide (kv.1=k):=by
 unfold KV at r
 induction r with
 |nil=>rfl
 |cons h t ih=>rw[List.any_cons,List.any_cons,ih,h.1]
theorem KV.repl{kvs:List (κ×V)}{vs:List (κ×Value)}(r:KV kvs vs)(k : κ){y:V}{u:Value}(ry:RelV y u) :
  KV (kvs.map λkv=>if kv.1=k then(kv.1,y)else kv) (vs.map λkv=>if kv.1=k then(kv.1,u)else kv):=by
 unfold KV at r⊢
 induction r with
 |nil=>exact .nil
 | @cons p q ps qs h t ih=>
  rw[zaz,zaz];refine .cons ?_ ih;obtain⟨h1,h2⟩:=h
  by_cases e:p.1=k
  ·rw[if_pos e,if_pos (h1.symm.trans e)];exact⟨h1,ry⟩
  ·rw[if_neg e,if_neg (λz=>e (h1.trans z))];exact⟨h1,h2⟩
theorem KV.put{kvs:List (κ×V)}{vs:List (κ×Value)}(r:KV kvs vs)(k : κ){y:V}{u:Value}(ry:RelV y u):KV (putK kvs k y) (stored vs k u):=by
 unfold putK stored;rw[r.any k]
 by_cases e:(vs.any λkv=>decide (kv.1=k))=true
 ·rw[if_pos e,if_pos e];exact r.repl k ry
 ·rw[if_neg e,if_neg e];exact Paired.snoc r ⟨rfl,ry⟩
theorem KV.drop{kvs:List (κ×V)}{vs:List (κ×Value)}(r:KV kvs vs)(k : κ):KV (oO kvs k) (without vs k):=by
 unfold KV at r⊢;unfold oO without
 induction r with
 |nil=>exact .nil
 | @cons p q ps qs h t ih=>
  obtain⟨h1,h2⟩:=h;rw[List.filter_cons,List.filter_cons]
  by_cases e:p.1=k
  ·have a : ¬decide (p.1≠k)=true:=by simp[e]
   have b : ¬decide (q.1≠k)=true:=by simp[h1.symm.trans e]
   rw[if_neg a,if_neg b];exact ih
  ·have e' : ¬q.1=k:=λz=>e (h1.trans z)
   have a:decide (p.1≠k)=true:=by simp[e]
   have b:decide (q.1≠k)=true:=by simp[e']
   rw[if_pos a,if_pos b];exact .cons ⟨h1,h2⟩ ih
theorem KV.keys{kvs:List (κ×V)}{vs:List (κ×Value)}(r:KV kvs vs):kvs.map (·.1)=vs.map (·.1):=by
 unfold KV at r
 induction r with
 |nil=>rfl
 |cons h t ih=>rw[zaz,zaz,ih,h.1]
theorem KV.length{kvs:List (κ×V)}{vs:List (κ×Value)}(r:KV kvs vs):kvs.length=vs.length:=Paired.length r
theorem CJ(kvs:List (κ×V))(k : κ):(oO kvs k).length<=kvs.length:=zaY _ _
end
theorem sA{P:Program}{w:World}{k:Key}{u:Value}(r:RelV (kV k) u):(bX P w).is k u=true:=by
 cases k with
 |inl i=>obtain⟨t,e⟩:=(show∃t,u=Value.int i t from r);subst e;exact vB P w i t
 |inr x=>obtain⟨t,e⟩:=(show∃t,u=Value.str x t from r);subst e;exact vC P w x t
theorem sC{P:Program}{w:World}:∀{ks:List Key} {us:List Value},Vals (ks.map kV) us->ItemsAre (bX P w) ks us
 | [],_,r=>by rw[List.map_nil]at r;cases r;exact .nil
 |k::ks,_,r=>by
  rw[zaz]at r;cases r with
  |cons h t=>exact .cons (sA h) (sC t)
abbrev KT(H:Hp):List (List Key×V)->List (List Key×Addr×Value)->Prop:=Paired λp q=>p.1=q.1/\H q.2.1=some (.tup (p.1.map kV))/\RelV p.2 q.2.2
theorem KT.val{H:Hp}{kvs:List (List Key×V)}{xs:List (List Key×Addr×Value)}(r:KT H kvs xs)(k:List Key):lS (iP kvs k) ((atKey xs k).map (·.2)):=by
 induction r with
 |nil=>exact True.intro
 | @cons p q ps qs h t ih=>
  obtain⟨h1,_,h2⟩:=h
  by_cases e:p.1=k
  ·have e':q.1=k:=h1.symm.trans e
   have b:atKey (q::qs) k=some q.2:=by simp[atKey,List.find?_cons,e']
   rw[kK e,b];exact h2
  ·have e' : ¬q.1=k:=λz=>e (h1.trans z)
   have b:atKey (q::qs) k=atKey qs k:=by simp[atKey,List.find?_cons,e']
   rw[kL e,b];exact ih
theorem KT.repl{H:Hp}{kvs:List (List Key×V)}{xs:List (List Key×Addr×Value)}(r:KT H kvs xs)(k:List Key){y:V}{u:Value}(ry:RelV y u) :
  KT H (kvs.map λkv=>if kv.1=k then(kv.1,y)else kv) (xs.map (putAt k u)):=by
 induction r with
 |nil=>exact .nil
 | @cons p q ps qs h t ih=>
  rw[zaz,zaz];refine .cons ?_ ih;obtain⟨h1,h2,h3⟩:=h;unfold putAt
  by_cases e:p.1=k
  ·rw[if_pos e,if_pos (h1.symm.trans e)];exact⟨h1,h2,ry⟩
  ·rw[if_neg e,if_neg (λz=>e (h1.trans z))];exact⟨h1,h2,h3⟩
theorem KT.put{H:Hp}{kvs:List (List Key×V)}{xs:List (List Key×Addr×Value)}(r:KT H kvs xs)(k:List Key){b:Addr}{y:V}{u:Value}(hb:H b=some (.tup (k.map kV)))(ry:RelV y u) :
  KT H (putK kvs k y) (storedH xs k b u):=by
 have e:(kvs.any λkv=>decide (kv.1=k))=(atKey xs k).isSome:=by
  rw[qt,(r.val k).js,Option.isSome_map]
 unfold putK storedH;rw[e]
 by_cases q:(atKey xs k).isSome=true
 ·rw[if_pos q,if_pos q];exact r.repl k ry
 ·rw[if_neg q,if_neg q];exact Paired.snoc r ⟨rfl,hb,ry⟩
theorem KT.keeps{H H':Hp}{kvs:List (List Key×V)}{xs:List (List Key×Addr×Value)}(r:KT H kvs xs)(ht:∀b ys,H b=some (.tup ys)->H' b=some (.tup ys)):KT H' kvs xs :=
 Paired.G8 r λ_ _ z=>⟨z.1,ht _ _ z.2.1,z.2.2⟩
section
variable{P:Program}{w:World}{H:Hp}{h:Heap}{a:Addr}
theorem Gx{u:HO}(ok:HOk P w H h)(e:Rd H a u):cy P w H h a u:=e.ok ok
theorem oQ{kvs:List (Key×V)}(ok:HOk P w H h)(e:Rd H a (.dK kvs)):kvs.length<=sizeLine/\(a==sysModules)=false/\∃vs,KV kvs vs/\h.DictOf (bX P w) a vs :=
 show cy P w H h a (.dK kvs)from Gx ok e
theorem zx{kvs:List (Key×V)}(ok:HOk P w H h)(e:H a=some (.dK kvs)):kvs.length<=sizeLine/\(a==sysModules)=false/\∃vs,KV kvs vs/\h.DictOf (bX P w) a vs:=oQ ok (.inl e)
theorem qu{ks:List Key}(ok:HOk P w H h)(e:H a=some (.tup (ks.map kV))):(tupleKind (bX P w)).is h ks a:=by
 obtain⟨_,its,r,o,h1,h2,n,h3⟩:=cy.Jq (P:=P) (w:=w) (H:=H) (ok a _ e);exact⟨o,its.toArray,n,h1,h2,h3,by simpa using sC r⟩
theorem wD{kvs:List (List Key×V)}(ok:HOk P w H h)(e:Rd H a (.dT kvs)):kvs.length<=sizeLine/\(a==sysModules)=false/\
  ∃xs,KT H kvs xs/\h.DictOfH (tupleKind (bX P w)) a xs:=by
 obtain⟨z,y,xs,r,o,es,ep,h1,h2,h3,h4,h5⟩:=(show cy P w H h a (.dT kvs)from Gx ok e);refine⟨z,y,xs,r,o,es,ep,h1,h2,h3,h4,λx hx=>?_,h5⟩
 have all:∀{l:List (List Key×V)} {m:List (List Key×Addr×Value)},KT H l m->∀x∈m,(tupleKind (bX P w)).is h x.1 x.2.1:=by
  intro l m q
  induction q with
  |nil=>intro x hx;exact nomatch hx
  | @cons p q ps qs hq t ih=>
   intro x hx;rcases zaf hx with e|hx
   ·subst e
    exact qu ok (by rw[<-hq.1];exact hq.2.1)
   ·exact ih x hx
 exact all r x hx
theorem JM{kvs:List (List Key×V)}(ok:HOk P w H h)(e:H a=some (.dT kvs)):kvs.length<=sizeLine/\(a==sysModules)=false/\
  ∃xs,KT H kvs xs/\h.DictOfH (tupleKind (bX P w)) a xs:=wD ok (.inl e)
end
def mT(H:Hp)(a:Addr)(y:V)(r:Option V):Prop :=
 (∃kvs k,Rd H a (.dK kvs)/\y=kV k/\r=iP kvs k)\/∃kvs k b,Rd H a (.dT kvs)/\y=.ref b/\H b=some (.tup (k.map kV))/\r=iP kvs k
def AG(H:Hp)(a:Addr)(y v:V)(H':Hp):Prop :=
 (∃kvs k,H a=some (.dK kvs)/\y=kV k/\kvs.length<sizeLine/\H'=upd H a (.dK (putK kvs k v)))\/
 ∃kvs k b,H a=some (.dT kvs)/\y=.ref b/\H b=some (.tup (k.map kV))/\kvs.length<sizeLine/\H'=upd H a (.dT (putK kvs k v))
theorem mT.k{H:Hp}{a:Addr}{kvs:List (Key×V)}{k:Key}(e:H a=some (.dK kvs)):mT H a (kV k) (iP kvs k):=.inl ⟨kvs,k,.inl e,rfl,rfl⟩
theorem mT.t{H:Hp}{a b:Addr}{kvs:List (List Key×V)}{k:List Key}(e:H a=some (.dT kvs))(eb:H b=some (.tup (k.map kV))):mT H a (.ref b) (iP kvs k):=.inr ⟨kvs,k,b,.inl e,rfl,eb,rfl⟩
theorem AG.k{H:Hp}{a:Addr}{kvs:List (Key×V)}{k:Key}{v:V}(e:H a=some (.dK kvs))(hl:kvs.length<sizeLine):AG H a (kV k) v (upd H a (.dK (putK kvs k v))):=.inl ⟨kvs,k,e,rfl,hl,rfl⟩
theorem AG.t{H:Hp}{a b:Addr}{kvs:List (List Key×V)}{k:List Key}{v:V}(e:H a=some (.dT kvs))(eb:H b=some (.tup (k.map kV)))(hl:kvs.length<sizeLine) :
  AG H a (.ref b) v (upd H a (.dT (putK kvs k v))):=.inr ⟨kvs,k,b,e,rfl,eb,hl,rfl⟩
section
variable{X:Cx}{pins:List (Addr×Obj)}{σ:St}{H:Hp}{s:Shared}{a:Addr}{y v:V}{u r:Value}{o:Option V}{A:Around}{E:Value->Shared->Prop}
theorem Inv.big(I:Inv X pins σ H s):sysModules<s.heap.objs.size:=by
 have h:mainGlobals<s.heap.objs.size:=(I.mod.glob.keeps I.bk).lt;exact Nat.lt_trans (by decide) h
theorem AH{Q:Value->Shared->Prop}(hu:A.units+1<cLine)(I:Inv X pins σ H s)(g:mT H a y (some v))(ry:RelV y u)(h:∀w' s',Inv X pins σ H s'->RelV v w'->Q w' s') :
  wpAny (model X.prog X.w) A (getItem (.ref a) u) Q E s:=by
 rcases g with⟨kvs,k,e,ey,l⟩|⟨kvs,k,b,e,ey,eb,l⟩
 ·subst ey
  obtain⟨z,hd,vs,rel,dd⟩:=oQ I.hok e;obtain⟨w',hw,rw'⟩:=lS.some_of (v:=v) (o:=valueAt vs k) (by rw[l];exact rel.val k)
  exact wpAny_getItem_of (sA ry) dd.mapOf hw (h w' _ (I.tok _) rw')
 ·subst ey
  cases(show u=Value.ref b from ry);obtain⟨z,hd,xs,rel,dd⟩:=wD I.hok e;obtain⟨w',hw,rw'⟩:=lS.some_of (v:=v) (o:=(atKey xs k).map (·.2)) (by rw[l];exact rel.val k)
  obtain⟨p,hp,hp2⟩:=zab hw;refine wpAny_getItem_heap (tupleKind_room_in1 hu) (qu I.hok eb) dd hp ?_;rw[hp2];exact h w' _ (I.tok _) rw'
theorem KR{Q:Value->Shared->Prop}(hu:A.units+1<cLine)(I:Inv X pins σ H s)(g:mT H a y o)(ry:RelV y u)(h:∀s',Inv X pins σ H s'->Q (.bool o.isSome) s') :
  wpAny (model X.prog X.w) A (compareOp .In u (.ref a)) Q E s:=by
 rcases g with⟨kvs,k,e,ey,l⟩|⟨kvs,k,b,e,ey,eb,l⟩
 ·subst ey
  obtain⟨z,hd,vs,rel,dd⟩:=oQ I.hok e;refine wpAny_in_of (sA ry) hd dd.mapOf ?_;rw[<-(rel.val k).js,<-l];exact h _ (I.tok _)
 ·subst ey
  cases(show u=Value.ref b from ry);obtain⟨z,hd,xs,rel,dd⟩:=wD I.hok e;refine wpAny_in_heap (tupleKind_room_in1 hu) (qu I.hok eb) hd dd ?_;have q:=(rel.val k).js;rw[Option.isSome_map]at q;rw[<-q,<-l];exact h _ (I.tok _)
theorem EZ{Q:Value->Shared->Prop}(hu:A.units+1<cLine)(I:Inv X pins σ H s)(g:mT H a y o)(ry:RelV y u)(h:∀s',Inv X pins σ H s'->Q (.bool (!o.isSome)) s') :
  wpAny (model X.prog X.w) A (compareOp .NotIn u (.ref a)) Q E s:=by
 rcases g with⟨kvs,k,e,ey,l⟩|⟨kvs,k,b,e,ey,eb,l⟩
 ·subst ey
  obtain⟨z,hd,vs,rel,dd⟩:=oQ I.hok e;refine wpAny_notIn_of (sA ry) hd dd.mapOf ?_;rw[<-(rel.val k).js,<-l];exact h _ (I.tok _)
 ·subst ey
  cases(show u=Value.ref b from ry);obtain⟨z,hd,xs,rel,dd⟩:=wD I.hok e;refine wpAny_notIn_heap (tupleKind_room_in1 hu) (qu I.hok eb) hd dd ?_;have q:=(rel.val k).js;rw[Option.isSome_map]at q;rw[<-q,<-l];exact h _ (I.tok _)
theorem pC{h':Heap}{t':Nat}{ob:HO}(I:Inv X pins σ H s)(mu:Mut (H a))(hs:Heap.SameBut a s.heap h')(he:∃q,h'.get? a=some q)(new:cy X.prog X.w (upd H a ob) h' a ob) :
  Inv X pins σ (upd H a ob) {s with heap:=h',toks:=t'} :=
 I.write (x:=a) (e:=a) mu (.inl rfl) (λb q hb z=>(hs.2 b hb).trans z) he new
theorem ur{P:Program}{w:World}{H':Hp}{h':Heap}{kvs:List (Key×V)}{vs:List (Key×Value)}(z:kvs.length<=sizeLine)(hd:(a==sysModules)=false)(rel:KV kvs vs)(dd:h'.DictOf (bX P w) a vs) :
  cy P w H' h' a (.dK kvs):=⟨z,hd,vs,rel,dd⟩
theorem AI{H':Hp}{Q:Unit->Shared->Prop}(hu:A.units+1<cLine)(I:Inv X pins σ H s)(g:AG H a y v H')(ry:RelV y u)(rv:RelV v r)(h:∀s',Inv X pins σ H' s'->Q () s') :
  wpAny (model X.prog X.w) A (setItem (.ref a) u r) Q E s:=by
 rcases g with⟨kvs,k,e,ey,l,eH⟩|⟨kvs,k,b,e,ey,eb,l,eH⟩
 ·subst ey eH
  obtain⟨z,hd,vs,rel,dd⟩:=zx I.hok e;have hz:vs.length<=sizeLine:=by rw[<-rel.length];exact z
  have hl:(putK kvs k v).length<=sizeLine:=by have:=oP kvs k v;omega
  refine wpAny_setItem_pairs (hsz:=hz) (sA ry) dd λh' dd' hs=>h _ ?_
  have he:∃q,h'.get? a=some q:=let⟨q,_,_,hq,_⟩:=dd';⟨q,hq⟩
  exact pC I (by rw[e];exact True.intro) hs he (ur hl hd (rel.put k rv) dd')
 ·subst ey eH
  cases(show u=Value.ref b from ry);obtain⟨z,hd,xs,rel,dd⟩:=JM I.hok e;have hz:xs.length<=sizeLine:=by rw[<-Paired.length rel];exact z
  have hl:(putK kvs k v).length<=sizeLine:=by have:=oP kvs k v;omega
  refine wpAny_setItem_heap (hsz:=hz) (tupleKind_room_in1 hu) (qu I.hok eb) dd λh' dd' hs=>h _ ?_
  obtain⟨q,es,ep,hq,h2,h3,h4,_,h5⟩:=dd';refine pC I (by rw[e];exact True.intro) hs ⟨q,hq⟩ ⟨hl,hd,_,(rel.put k eb rv).keeps λc ys ec=>?_,q,es,ep,hq,h2,h3,h4,h5⟩
  rw[aq (Jb ec e (λz=>nomatch z))]
  exact ec
end
section
variable{X:Cx}{pins:List (Addr×Obj)}{σ:St}{H:Hp}{s:Shared}{a:Addr}{kvs:List (Key×V)}{k:Key}{u:Value}{A:Around}{E:Value->Shared->Prop}
theorem JN{v:V}{more:List Value}{Q:Value->Shared->Prop}(I:Inv X pins σ H s)(e:H a=some (.dK kvs))(ry:RelV (kV k) u)(l:iP kvs k=some v)(hm:more=[]\/∃x,more=[x])
  (h:∀w' s',Inv X pins σ (upd H a (.dK (oO kvs k))) s'->RelV v w'->Q w' s'):wpAny (model X.prog X.w) A (call (.builtin "dict.pop") (.ref a::u::more)) Q E s:=by
 obtain⟨z,hd,vs,rel,dd⟩:=zx I.hok e;obtain⟨w',hw,rw'⟩:=lS.some_of (v:=v) (o:=valueAt vs k) (by rw[<-l];exact rel.val k)
 have hp:(keyPart u).isSome=true:=by
  cases k with
  |inl i=>obtain⟨t,q⟩:=(show∃t,u=Value.int i t from ry);subst q;rfl
  |inr x=>obtain⟨t,q⟩:=(show∃t,u=Value.str x t from ry);subst q;rfl
 have ha:argsOk "dict.pop" ⟨.ref a::u::more,[]⟩:=by
  rcases hm with q|⟨x,q⟩
  ·subst q;exact PySem.F.args_dict_pop_2 _ _
  ·subst q;exact PySem.F.args_dict_pop_3 _ _ _
 refine call_meetsIn PySem.F.slot_dict_pop dd.typeIs PySem.F.entry_dict_pop ha (meets_dict_pop_there (bX X.prog X.w) a (sA ry) more hm hp)
  ⟨vs,w',dd,by rw[<-rel.length];exact z,hw,λh' dd' hs=>h w' _ ?_ rw'⟩
 have he:∃q,h'.get? a=some q:=let⟨q,_,_,hq,_⟩:=dd';⟨q,hq⟩
 exact pC I (by rw[e];exact True.intro) hs he (ur (zaX (CJ kvs k) z) hd (rel.drop k) dd')
theorem JO{Q:Value->Shared->Prop}(I:Inv X pins σ H s)(e:Rd H a (.dK kvs))(h:∀t s',Inv X pins σ H s'->Q (.int kvs.length t) s'):wpAny (model X.prog X.w) A (call (.builtin "len") [.ref a]) Q E s:=by
 obtain⟨z,hd,vs,rel,dd⟩:=oQ I.hok e;refine call_len_dict hd dd (by rw[<-rel.length];rw[sizeLine_eq]at z;omega) ?_
 rw[<-rel.length];exact h _ _ (I.tok _)
end
def JP(i:Expr):Prop:=∀ov iv,subscripted i false ov iv=operate [ov,iv] (getItem ov iv)
theorem E6{prog:Program}{w:World}{A:Around}{E:Value->Shared->Prop}{s:Shared}{env:Env}{value slice:Expr}{pos:Pos}{T id:String}{Q:Value->Shared->Prop}
  (hl:typeLookup (.type T) "__getitem__"=pure (some (.builtin id))) (hs:JP slice)
  (h:wpAny (model prog w) A (eval value env) (λo s₁=>wpAny (model prog w) A (eval slice env) (λi s₂=>s₂.TypeIs o T/\wpAny (model prog w) A (getItem o i) Q E s₂) E s₁) E s) :
  wpAny (model prog w) A (eval (.Subscript value slice pos) env) Q E s:=by
 refine Subscript_ (za6 h (λo s₁ h₁=>za6 h₁ (λi s₂ h₂=>?_) λ_ _ x=>x) λ_ _ x=>x)
 obtain⟨hT,h₂⟩:=h₂;unfold subscriptTail;refine zaI ?_;rw[getitemInPython_of_ne hT.not_modules];refine zaI (wpAny_specialOf hT hl ?_);have fin:wpAny (model prog w) A (subscripted slice false o i) (λr s₃=>wpAny (model prog w) A (letTemporaryGo value o r>>=λ_=>pure r) Q E s₃) E s₂:=by
  rw[hs o i];exact wpAny_operating (za6 h₂ (λr s₃ h₃=>zaI (wpAny_letTemporaryGo (zaZ h₃))) λ_ _ x=>x)
 first
  |exact zaZ (zaI fin)
  |exact zaI (zaZ (zaI fin))
  |exact zaI fin
theorem wF{X:Cx}{pins:List (Addr×Obj)}{σ:St}{H:Hp}{s:Shared}{a:Addr}{y:V}{o:Option V}(I:Inv X pins σ H s)(g:mT H a y o):s.TypeIs (.ref a) "dict":=by
 rcases g with⟨kvs,k,e,_,_⟩|⟨kvs,k,b,e,_,_,_⟩
 ·obtain⟨_,_,vs,_,dd⟩:=oQ I.hok e
  exact dd.typeIs
 ·obtain⟨_,_,xs,_,dd⟩:=wD I.hok e
  exact dd.typeIs
def JQ(td ty:TE):TE:=fun σ H Q=>td σ H λx H1=>ty σ H1 λy H2=>∃a v,x=.ref a/\mT H2 a y (some v)/\Q v H2
def KS(ty td:TE):TE:=fun σ H Q=>ty σ H λy H1=>td σ H1 λx H2=>∃a o,x=.ref a/\mT H2 a y o/\Q (.bl o.isSome) H2
def E7(ty td:TE):TE:=fun σ H Q=>ty σ H λy H1=>td σ H1 λx H2=>∃a o,x=.ref a/\mT H2 a y o/\Q (.bl (!o.isSome)) H2
def CK(td ty tv:TE):TS:=λD σ H=>tv σ H λv H1=>td σ H1 λx H2=>ty σ H2 λy H3=>∃a H4,x=.ref a/\AG H3 a y v H4/\D.nx σ H4
section
variable{X:Cx}{o i e value:Expr}{pos pos' tpos:Pos}{td ty tv:TE}
theorem ck(hu:X.A.units+1<cLine)(ho:PE X o td)(hi:PE X i ty)(hs:JP i):PE X (.Subscript o i pos) (JQ td ty):=by
 intro pins s σ H Q I h;refine E6 PySem.F.slot_dict_getitem.lookup hs (thn (ho pins s σ H _ I h) λu s1 ⟨x,H1,I1,rx,q1⟩=>thn (hi pins s1 σ H1 _ I1 q1) λiv s2 ⟨y,H2,I2,ry,a,v,ex,g,q2⟩=>?_)
 subst ex;obtain rfl:u=Value.ref a:=rx;exact⟨wF I2 g,AH hu I2 g ry λw' s3 I3 rw'=>⟨v,H2,I3,rw',q2⟩⟩
theorem Im(hu:X.A.units+1<cLine)(hi:PE X i ty)(ho:PE X o td):PC X .In i o (KS ty td):=by
 intro pins s σ H Q I h;refine thn (hi pins s σ H _ I h) λiv s1 ⟨y,H1,I1,ry,q1⟩=>thn (ho pins s1 σ H1 _ I1 q1) λu s2 ⟨x,H2,I2,rx,a,ov,ex,g,q2⟩=>?_
 subst ex;obtain rfl:u=Value.ref a:=rx;exact KR hu I2 g ry λs3 I3=>⟨.bl ov.isSome,H2,I3,rfl,q2⟩
theorem AJ(hu:X.A.units+1<cLine)(hi:PE X i ty)(ho:PE X o td):PC X .NotIn i o (E7 ty td):=by
 intro pins s σ H Q I h;refine thn (hi pins s σ H _ I h) λiv s1 ⟨y,H1,I1,ry,q1⟩=>thn (ho pins s1 σ H1 _ I1 q1) λu s2 ⟨x,H2,I2,rx,a,ov,ex,g,q2⟩=>?_
 subst ex;obtain rfl:u=Value.ref a:=rx;exact EZ hu I2 g ry λs3 I3=>⟨.bl (!ov.isSome),H2,I3,rfl,q2⟩
theorem eL(hu:X.A.units+1<cLine)(ho:PE X o td)(hi:PE X i ty)(hv:PE X value tv)(hs:swapsWith value (some (.Subscript o i pos')) pos.line X.env=pure false) :
  PS X (.Assign [.Subscript o i pos'] value pos) (CK td ty tv):=by
 intro pins s σ H D I h;refine wpAny_Assign_Subscript (thn (hv pins s σ H _ I h) λr s1 ⟨v,H1,I1,rv,q1⟩=>thn (ho pins s1 σ H1 _ I1 q1) λu s2 ⟨x,H2,I2,rx,q2⟩=>thn (hi pins s2 σ H2 _ I2 q2) λiv s3 ⟨y,H3,I3,ry,a,H4,ex,g,q3⟩=>?_) hs
 subst ex;obtain rfl:u=Value.ref a:=rx;exact AI hu I3 g ry rv λs4 I4=>⟨σ,H4,I4,q3⟩
end
theorem CL{P:Program}{w:World}{H:Hp}(h:Heap)(hb:sysModules<h.objs.size):cy P w H (h.push {cls:=.type "dict",data:=.dict #[]}) h.objs.size (.dK []) :=
 ⟨Nat.zero_le _,beq_eq_false_iff_ne.mpr (Ne.symm (zaS hb)),[],.nil,Heap.DictOf.new h⟩
def CM:TE:=λ_ H Q=>∀p,H p=none->Q (.ref p) (upd H p (.dK []))
section
variable{X:Cx}{pos:Pos}
theorem qv:PE X (.Dict [] [] pos) CM:=λpins s σ H Q I h=>
 wpAny_Dict_empty ⟨.ref s.heap.objs.size,_,I.laid (a:=s.heap.objs.size) (o:=.dK []) (t':=s.toks) (λ_ _ q=>zar _ q) (zap _) (CL s.heap I.big),rfl,h _ (I.hok.fresh (zap _))⟩
end
structure M1(X:Cx)(o:Expr)(m:Str)(apos:Pos)(e:Expr)(cpos:Pos):Prop where
 base:attributeBase o m X.env (eval o X.env)=eval o X.env
 few:((backTo cpos (starEach [e] X.env)).all (λx=>!x.1)&&(backToKw cpos (keywordEach [] X.env)).all (λx=>x.1.isSome)
  &&decide (([e]:List Expr).length+([]:List Keyword).length+(if([]:List Keyword).isEmpty then 0 else 1)<30))=true
 line:(apos.endLine==cpos.line)=true
 trees:backTo cpos (starEach [e] X.env)=[(false,eval e X.env)]
structure M2(X:Cx)(o:Expr)(m:Str)(apos:Pos)(e f:Expr)(cpos:Pos):Prop where
 base:attributeBase o m X.env (eval o X.env)=eval o X.env
 few:((backTo cpos (starEach [e,f] X.env)).all (λx=>!x.1)&&(backToKw cpos (keywordEach [] X.env)).all (λx=>x.1.isSome)
  &&decide (([e,f]:List Expr).length+([]:List Keyword).length+(if([]:List Keyword).isEmpty then 0 else 1)<30))=true
 line:(apos.endLine==cpos.line)=true
 trees:backTo cpos (starEach [e,f] X.env)=[(false,eval e X.env),(false,eval f X.env)]
section
variable{X:Cx}{pins:List (Addr×Obj)}{σ:St}{H:Hp}{s:Shared}{a:Addr}{kvs:List (Key×V)}{A:Around}{E:Value->Shared->Prop}
theorem CN{Q:Value->Shared->Prop}(I:Inv X pins σ H s)(e:Rd H a (.dK kvs))(h:∀p s',H p=none->Inv X pins σ (upd H p (.dK kvs)) s'->Q (.ref p) s'):wpAny (model X.prog X.w) A (call (.type "dict") [.ref a]) Q E s:=by
 obtain⟨z,hd,vs,rel,dd⟩:=oQ I.hok e;refine kt_call_dict hd dd (by rw[<-rel.length];exact z) λh' dd' hs=>?_
 refine h _ _ (I.hok.fresh (zap _)) (I.laid (a:=s.heap.objs.size) (o:=.dK kvs) (t':=s.toks) (λb q hq=>?_) (zap _) (ur z (beq_eq_false_iff_ne.mpr (Ne.symm (zaS I.big))) rel dd'))
 exact(hs.2 b (zaS (zaq hq))).trans (zar _ hq)
end
section
variable{X:Cx}
def diff(ns:List Int):Nat:=(firstMet (λi=>ns.getD i 0) ns.length).length
def Gy:List V->Hp->VK->Prop:=λxs H Q=>∃l ns,xs=[V.ref l]/\H l=some (.lst (ns.map .int))/\ns.length+1<4096/\∀p S,H p=none->Q (.ref p) (upd H p (.set S (diff ns)))
theorem lK:∀{ns:List Int} {us:List Value},Vals (ns.map V.int) us->IntsAre us ns
 | [],us,h=>by cases h;first|exact .nil|trivial
 |n::ns,us,h=>by
  cases h with
  |cons r t=>
   obtain⟨tk,rfl⟩:=r;exact .cons _ _ (lK t)
theorem AK(hc:X.calm=true):dZ X (.type "set") Gy:=by
 intro pins s σ H xs us Q I r h;obtain⟨l,ns,rfl,hl,hz,q⟩:=h;cases r with
 |cons r1 r=>
  cases r;obtain rfl:=r1;obtain⟨z,its,n,rv,hg⟩:=I.hok l _ hl;have hlen:its.length=ns.length:=by rw[<-rv.length,zal]
  refine PySem.call_set_list (items:=its.toArray) (ns:=ns) (I.ok.hd hc) ⟨_,hg,rfl,_,rfl⟩ (by simpa using lK rv) (by rw[zaK,hlen];exact hz) λh' tk hS hk=>?_
  have hsz:its.toArray.size=ns.length:=by rw[zaK,hlen]
  rw[hsz]at hS;exact⟨.ref s.heap.objs.size,_,I.laid (a:=s.heap.objs.size) (o:=.set _ _) (t':=tk) (λb o e=>hk b o (zaq e) e) (zap _) hS,rfl,q _ _ (I.hok.fresh (zap _))⟩
def Gz:List V->Hp->VK->Prop:=λxs H Q=>∃a S n,xs=[V.ref a]/\H a=some (.set S n)/\n<4096/\Q (.int n) H
theorem AM:dZ X (.builtin "len") Gz:=by
 intro pins s σ H xs us Q I r h;obtain⟨a,S,n,rfl,ha,hz,q⟩:=h;cases r with
 |cons r1 r=>
  cases r;obtain rfl:=r1;have hS:s.heap.SetOf (intKind X.prog X.w) a S n:=I.hok a _ ha;obtain⟨o,ho,hso⟩:=hS.objOf;obtain⟨hex,es,ep,t,hd,_,_,hn,hf⟩:=hso;subst hn;exact call_len_set ho hex hd hf (by omega) ⟨.int es.size,H,I.tok _,⟨_,rfl⟩,q⟩
end
end L2
namespace Mir
open PySem L2
variable [Zc]
def zy:PM:=fun ρ=>some ((.dict [],.new),ρ)
theorem uu:ME CM zy:=by
 intro F B H σ ρ r ρ' Q R e q;cases e;exact ic (res:=(.dict [],true)) (k:=λQ=>∀p,H p=none->Q (.ref p) (upd H p (.dK []))) (Q:=Q) R ⟨[],.nil,λQ h=>h⟩ λv B' H' E R' V' N=>q v B' H' E R' V' N
def CO:Option Sl->Option (List (D×D))
 |some (.own (.dict es))=>some es
 |some (.io (.dict es))=>some es
 |_=>none
theorem zz{s:Option Sl}{es:List (D×D)}(h:CO s=some es):∃t,s=some t/\t.d3=true/\slD t=.dict es:=by
 unfold CO at h;split at h
 ·cases h;exact⟨_,rfl,rfl,rfl⟩
 ·cases h;exact⟨_,rfl,rfl,rfl⟩
 ·cases h
theorem Own.dict{B H:Hp}{p:Addr}{es:List (D×D)}(h:Own B H p (.dict es)):∃kvs,H p=some (.dK kvs)/\bx B kvs es:=by
 cases h with
 |dct h r=>exact⟨_,h,r⟩
theorem bx.snoc{B:Hp}{k:Key}{c:D}{x:V}{d:D}(hk:tP k c)(hx:Rep B x d):∀{kvs:List (Key×V)} {es:List (D×D)},bx B kvs es->bx B (kvs++[(k,x)]) (es++[(c,d)])
 |_,_,.nil=>.cons hk hx .nil
 |_,_,.cons h1 h2 r=>.cons h1 h2 (bx.snoc hk hx r)
theorem bx.length{B:Hp}:∀{kvs:List (Key×V)} {es:List (D×D)},bx B kvs es->kvs.length=es.length
 |_,_,.nil=>rfl
 |_,_,.cons _ _ r=>by rw[zaw,zaw,bx.length r]
theorem CI{kvs:List (Key×V)}{k:Key}{v:V}(h:iP kvs k=none):putK kvs k v=kvs++[(k,v)]:=by
 unfold putK;rw[if_neg];intro z;rw[List.any_eq_true]at z;obtain⟨p,hp,e⟩:=z;have e':=of_decide_eq_true e;unfold iP at h;rw[Option.map_eq_none_iff,List.find?_eq_none]at h;exact h p hp (by simpa using e')
def CP:List (D×D)->Option (List Int)
 | []=>some []
 |(_,.int i)::r=>(CP r).map (i::·)
 |_=>none
theorem lK{B:Hp}:∀{kvs:List (Key×V)} {es:List (D×D)} {ns:List Int},bx B kvs es->CP es=some ns->kvs.map (·.2)=ns.map V.int
 |_,_,_,.nil,h=>by cases h;rfl
 |_,_,ns,.cons (d:=d) hk hx r,h=>by
  cases d with
  |int i=>
   obtain⟨ms,h1,h2⟩:=zab (show(CP _).map (i::·)=some ns from h)
   subst h2;cases hx;rw[zaz,zaz,lK r h1]
  |_=>cases h
theorem Rel.fresh{F:Fr}{B H:Hp}{σ:St}{ρ:Rho}{p:Addr}{o:HO}(R:Rel F B H σ ρ)(hp:H p=none)(n1:∀xs,o≠.tup xs)(n2:∀a u,o≠.frz a u):Rel F B (upd H p o) σ ρ/\Ext σ ρ B H ρ B (upd H p o):=by
 refine⟨R.grow (λ_ _ z=>z) (eV hp) (λq u z=>eV hp q u (R.sub q u z)) (λ_ _ z=>z) (λq xs z=>?_) λq a u z y=>?_,Ext.grow (λ_ _ z=>z) (eV hp) λ_ _ z=>z⟩
 ·by_cases w:q=p
  ·subst w;rw[ax]at z;cases z;exact absurd rfl (n1 xs)
  ·rw[aq w]at z;exact R.cO q xs z
 ·by_cases w:q=p
  ·subst w;rw[ax]at z;cases z;exact absurd rfl (n2 a u)
  ·rw[aq w,y]at z;cases z
theorem wG(f:Nat->Int)(n:Nat):(PyProof.Rows.firstMet f n).length<=n:=PyProof.Rows.firstMet_length_le f n
end Mir
namespace L2
open PySem PySem.Spec PyProof.Rows
section
variable{X:Cx}
def GA:List V->Hp->VK->Prop:=λxs H Q=>∃a kvs,xs=[V.ref a]/\Rd H a (.dK kvs)/\Q (.int kvs.length) H
theorem eM:dZ X (.builtin "len") GA:=by
 intro pins s σ H xs us Q I r h;obtain⟨a,kvs,rfl,ha,q⟩:=h;cases r with
 |cons r1 r=>
  cases r;obtain rfl:=r1;exact JO I ha λt s' I'=>⟨.int kvs.length,H,I',⟨t,rfl⟩,q⟩
def CQ:List V->Hp->VK->Prop:=λxs H Q=>∃a kvs,xs=[V.ref a]/\Rd H a (.dK kvs)/\∀p,H p=none->Q (.ref p) (upd H p (.dK kvs))
theorem jN:dZ X (.type "dict") CQ:=by
 intro pins s σ H xs us Q I r h;obtain⟨a,kvs,rfl,ha,q⟩:=h;cases r with
 |cons r1 r=>
  cases r;obtain rfl:=r1;exact CN I ha λp s' hp I'=>⟨.ref p,_,I',rfl,q p hp⟩
def CS:List V->Hp->VK->Prop:=λxs H Q=>∃a kvs,xs=[V.ref a]/\Rd H a (.dK kvs)/\∀p,H p=none->Q (.ref p) (upd H p (.lst (kvs.map λq=>kV q.1)))
theorem CT{P:Program}{w:World}{k:Key}{u:Value}(h:(bX P w).is k u=true):RelV (kV k) u:=by
 rw[xC]at h;rcases cX h with⟨i,t,rfl,rfl⟩|⟨x,t,rfl,rfl⟩
 ·exact⟨t,rfl⟩
 ·exact⟨t,rfl⟩
theorem AN{P:Program}{w:World}{kvs:List (Key×V)}{vs:List (Key×Value)}(us:List Value)(r:KV kvs vs)(hl:us.length=vs.length)(hv:∀(j:Nat) (v:Value),us[j]?=some v->∃k x,vs[j]?=some (k,x)/\(bX P w).is k v=true):Vals (kvs.map λq=>kV q.1) us:=by
 induction r generalizing us with
 |nil=>
  cases us with
  |nil=>exact .nil
  |cons u us=>cases hl
 | @cons a b l1 l2 h t ih=>
  cases us with
  |nil=>cases hl
  |cons u us=>
   obtain⟨k,x,e1,e2⟩:=hv 0 u rfl;have e3:b=(k,x):=by simpa using e1
   subst e3;have e4:a.1=k:=h.1;refine .cons ?_ (ih us (by simpa using hl) λj v e=>hv (j+1) v (by simpa using e))
   show RelV (kV a.1) u;rw[e4];exact CT e2
theorem wH(hc:X.calm=true):dZ X (.type "list") CS:=by
 intro pins s σ H xs us Q I r h;obtain⟨a,kvs,rfl,ha,q⟩:=h;cases r with
 |cons r1 r=>
  cases r;obtain rfl:=r1;obtain⟨z,hd,vs,rel,dd⟩:=oQ I.hok ha;obtain⟨ep,hat⟩:=dd.dictAt;refine PySem.W.kdl_call (PySem.W.kdl_dict (knd:=bX X.prog X.w) (kvs:=vs) (ep:=ep) hd) (I.ok.hd hc) hat (by rw[<-rel.length];exact z) λh' tk acc' c' hk hD hacc=>?_
  have kv:Vals (kvs.map λq=>kV q.1) acc'.toList:=AN acc'.toList rel (by rw[Array.length_toList];exact hacc.1) λj u e=>hacc.2 j u (by rw[<-Array.getElem?_toList];exact e)
  refine⟨.ref s.heap.objs.size,_,I.laid (a:=s.heap.objs.size) (o:=.lst (kvs.map λq=>kV q.1)) (t':=tk) hk (zap _) ⟨by rw[zal];exact z,acc'.toList,c',kv,?_⟩,rfl,q _ (I.hok.fresh (zap _))⟩
  rw[hD,Array.toArray_toList]
end
end L2
namespace Mir
open PySem L2
variable [Zc]
def keyOf:D->Option Key
 | .int i=>some (.inl i)
 | .str x=>some (.inr x)
 |_=>none
theorem tP.of{k:Key}{c:D}(h:tP k c):keyOf c=some k:=by
 cases k with
 |inl i=>obtain rfl:=(show c=.int i from h);rfl
 |inr x=>obtain rfl:=(show c=.str x from h);rfl
theorem zA{k:Key}{c:D}(h:keyOf c=some k):tP k c:=by
 unfold keyOf at h;split at h
 ·cases h;exact rfl
 ·cases h;exact rfl
 ·cases h
def fA:List (D×D)->Key->Option D
 | [],_=>none
 |(c,d)::r,k=>if keyOf c=some k then some d else fA r k
theorem jt{B:Hp}{k:Key}:∀{kvs:List (Key×V)} {es:List (D×D)},bx B kvs es->(∀d,fA es k=some d->∃u,iP kvs k=some u/\Rep B u d)/\(fA es k=none->iP kvs k=none)
 |_,_,.nil=>⟨λd h=>(by cases h),λ_=>rfl⟩
 |_,_,.cons (k:=k') (x:=x) (c:=c) (d:=d) (kvs:=kvs) (es:=es) hk hx r=>by
  have ih:=jt (k:=k) r
  by_cases e:k'=k
  ·subst e
   have hl:fA ((c,d)::es) k'=some d:=if_pos hk.of;refine⟨λd' h=>?_,λh=>?_⟩
   ·rw[hl]at h;cases h
    exact⟨x,kK rfl,hx⟩
   ·rw[hl]at h;cases h
  ·have hv:iP ((k',x)::kvs) k=iP kvs k:=kL e
   have hl:fA ((c,d)::es) k=fA es k:=if_neg λz=>e (by rw[hk.of]at z;exact zaQ z)
   rw[hv,hl];exact ih
theorem View.key{B H:Hp}{y:V}{d:D}{k:Key}(h:View B H y d)(e:keyOf d=some k):y=kV k:=by
 unfold keyOf at e;split at e
 ·cases e
  rcases h with h|⟨p,_,h⟩
  ·cases h;rfl
  ·cases h
 ·cases e
  rcases h with h|⟨p,_,h⟩
  ·cases h;rfl
  ·cases h
 ·cases e
def JR:R2:=λx y H Q=>∃a v,x=.ref a/\mT H a y (some v)/\Q v H
def KU:R2:=λy x H Q=>∃a o,x=.ref a/\mT H a y o/\Q (.bl o.isSome) H
def E8:R2:=λy x H Q=>∃a o,x=.ref a/\mT H a y o/\Q (.bl (!o.isSome)) H
def eu:D->D->Option (D×Bool)
 | .dict es,c=>(keyOf c).bind λk=>(fA es k).map λd=>(d,false)
 |_,_=>none
theorem d4:OpJ JR eu:=by
 intro B H x y c d res s hx hy e;unfold eu at e;split at e
 ·obtain⟨k,h1,e⟩:=zaa e
  obtain⟨v,h2,e⟩:=zab e;cases e;obtain rfl:=hy.key h1;obtain⟨a,kvs,rfl,r1,rk⟩:=hx.dict s;obtain⟨u,h3,h4⟩:=(jt rk).1 v h2;exact⟨u,h4,λQ q=>⟨a,u,rfl,.inl ⟨kvs,k,r1,rfl,h3.symm⟩,q⟩⟩
 ·cases e
def CU:D->D->Option (D×Bool)
 |c,.dict es=>(keyOf c).map λk=>(.bool (fA es k).isSome,false)
 |_,_=>none
def mU:D->D->Option (D×Bool)
 |c,.dict es=>(keyOf c).map λk=>(.bool (!(fA es k).isSome),false)
 |_,_=>none
theorem uv{B:Hp}{k:Key}{kvs:List (Key×V)}{es:List (D×D)}(r:bx B kvs es):(iP kvs k).isSome=(fA es k).isSome:=by
 cases h:fA es k with
 |none=>rw[(jt r).2 h];rfl
 |some d=>obtain⟨u,h1,_⟩:=(jt r).1 d h;rw[h1];rfl
theorem JS:OpJ KU CU:=by
 intro B H y x c d res s hy hx e;unfold CU at e;split at e
 ·obtain⟨k,h1,e⟩:=zab e
  cases e;obtain rfl:=hy.key h1;obtain⟨a,kvs,rfl,r1,rk⟩:=hx.dict s;exact⟨.bl _,.bl _,λQ q=>⟨a,_,rfl,.inl ⟨kvs,k,r1,rfl,rfl⟩,by rw[uv rk];exact q⟩⟩
 ·cases e
theorem CV:OpJ E8 mU:=by
 intro B H y x c d res s hy hx e;unfold mU at e;split at e
 ·obtain⟨k,h1,e⟩:=zab e
  cases e;obtain rfl:=hy.key h1;obtain⟨a,kvs,rfl,r1,rk⟩:=hx.dict s;exact⟨.bl _,.bl _,λQ q=>⟨a,_,rfl,.inl ⟨kvs,k,r1,rfl,rfl⟩,by rw[uv rk];exact q⟩⟩
 ·cases e
def fR:List D->Option (D×Bool)
 | [.dict es]=>some (.int es.length,false)
 |_=>none
theorem jO:lZ GA fR:=by
 intro B H vs ds res s h e;unfold fR at e;split at e
 ·cases e
  obtain⟨v,rfl,hh⟩:=gm h;obtain⟨a,kvs,rfl,r1,rk⟩:=hh.dict s;exact fJ λQ q=>⟨a,kvs,rfl,r1,by rw[rk.length];exact q⟩
 ·cases e
def n0:List D->Option (D×Bool)
 | [.dict es]=>some (.dict es,true)
 |_=>none
theorem pE:lZ CQ n0:=by
 intro B H vs ds res s h e;unfold n0 at e;split at e
 ·cases e
  obtain⟨v,rfl,hh⟩:=gm h;obtain⟨a,kvs,rfl,r1,rk⟩:=hh.dict s;exact⟨kvs,rk,λQ q=>⟨a,kvs,rfl,r1,q⟩⟩
 ·cases e
def uw:List D->Option (D×Bool)
 | [.dict es]=>some (.list (es.map (·.1)),true)
 |_=>none
theorem qw{B:Hp}:∀{kvs:List (Key×V)} {es:List (D×D)},bx B kvs es->aQ B (kvs.map λq=>kV q.1) (es.map (·.1))
 |_,_,.nil=>.nil
 |_,_,.cons (k:=k) (c:=c) hk hx r=>by
  refine .cons ?_ (qw r);cases k with
  |inl i=>obtain rfl:=(show c=.int i from hk);exact .int i
  |inr x=>obtain rfl:=(show c=.str x from hk);exact .str x
theorem E9:lZ CS uw:=by
 intro B H vs ds res s h e;unfold uw at e;split at e
 ·cases e
  obtain⟨v,rfl,hh⟩:=gm h;obtain⟨a,kvs,rfl,r1,rk⟩:=hh.dict s;exact⟨_,qw rk,λQ q=>⟨a,kvs,rfl,r1,q⟩⟩
 ·cases e
def putD(es:List (D×D))(c d:D)(k:Key):List (D×D):=if(fA es k).isSome then es.map λp=>if keyOf p.1=some k then(p.1,d)else p else es++[(c,d)]
theorem zB(k:Key):∀kvs:List (Key×V),(kvs.any λkv=>decide (kv.1=k))=(iP kvs k).isSome
 | []=>rfl
 |p::l=>by
  rw[List.any_cons,zB k l]
  by_cases h:p.1=k
  ·rw[kK h,zaH h];rfl
  ·rw[kL h,zaO h];rfl
theorem bx.map{B:Hp}{k:Key}{d:D}{v:V}(hv:Rep B v d):∀{kvs:List (Key×V)} {es:List (D×D)},bx B kvs es->bx B (kvs.map λp=>if p.1=k then(p.1,v)else p) (es.map λp=>if keyOf p.1=some k then(p.1,d)else p)
 |_,_,.nil=>.nil
 |_,_,.cons (k:=k') h1 h2 t=>by
  rw[zaz,zaz]
  by_cases e:k'=k
  ·subst e
   rw[if_pos rfl,if_pos h1.of];exact .cons h1 hv (bx.map hv t)
  ·rw[if_neg e,if_neg λz=>e (by rw[h1.of]at z;exact zaQ z)]
   exact .cons h1 h2 (bx.map hv t)
theorem bx.put{B:Hp}{k:Key}{c d:D}{v:V}(hk:tP k c)(hv:Rep B v d){kvs:List (Key×V)}{es:List (D×D)}(r:bx B kvs es):bx B (putK kvs k v) (putD es c d k):=by
 unfold putK putD;rw[zB,uv r];split
 ·exact bx.map hv r
 ·exact bx.snoc hk hv r
def kh(i:Nat)(a b:PM):SM:=fun ρ=>(sv a ρ).bind λx=>(kC x.1 x.2).bind λy=>(CO y.2[i]?).bind λ_=>(sv b y.2).bind λz=>(keyOf z.1.1).bind λk=>(CO z.2[i]?).bind λes=>cIf (es.length<100000) (some (.nx (Mir.putAt z.2 i (.dict (putD es z.1.1 y.1 k))))) none
theorem i4{i:Nat}{ty tv:TE}{a b:PM}(ha:ME tv a)(hb:ME ty b):MS (CK (my i) ty tv) (kh i a b):=by
 intro F B H σ ρ o D R e q;obtain⟨x,e1,e⟩:=zaa e;obtain⟨y,e2,e⟩:=zaa e;obtain⟨es0,e3,e⟩:=zaa e;obtain⟨z,e4,e⟩:=zaa e;obtain⟨k,e5,e⟩:=zaa e;obtain⟨es,e6,e⟩:=zaa e;obtain⟨hz,e⟩:=cU e;cases e;refine ha.sv F B H σ ρ x.1 x.2 _ R e1 λv B1 H1 E1 R1 V1 N1=>?_
 have w:Ap B1 σ v x.1:=(Vl.weak (F:=F) (H:=H1) (ρ:=x.2) (vs:=[v]) (rs:=[x.1]) ⟨⟨V1,lC e1⟩,trivial⟩).1;obtain⟨B2,R2,rp,E2⟩:=R1.frz w e2;obtain⟨s0,hs0,ho0,hd0⟩:=zz e3;obtain⟨p,hv,hB,ow⟩:=R2.ownAt hs0 ho0;refine⟨_,hv,?_⟩;refine hb.sv F B2 H1 σ y.2 z.1 z.2 _ R2 e4 λu B3 H3 E3 R3 V3 N3=>?_
 obtain rfl:=(V3.view R3).key e5;obtain⟨s,hs,ho,hd⟩:=zz e6;obtain⟨p',hv',hB',ow'⟩:=R3.ownAt hs ho;rw[hv]at hv';cases hv';rw[hd]at ow';obtain⟨kvs,hp,rk⟩:=ow'.dict;obtain⟨R4,E4⟩:=R3.write (o:=.dK (putK kvs k v)) (d:=.dict (putD es z.1.1 y.1 k)) hs ho hv ⟨(λ_ z=>by cases z),λ_ _ z=>by cases z⟩ (.dct ax (bx.put (zA e5) (rp.mono E3.sB) rk))
 have ep:Mir.putAt z.2 i (.dict (putD es z.1.1 y.1 k))=z.2.set i (s.put (.dict (putD es z.1.1 y.1 k))):=by unfold Mir.putAt;rw[hs]
 rw[ep]at q;exact⟨p,_,rfl,.inl ⟨kvs,k,hp,rfl,by rw[rk.length,sizeLine_eq];omega,rfl⟩,q B3 _ σ R4⟩
end Mir
namespace L2
open PySem PySem.Spec PyProof.Rows
section
variable{X:Cx}{pins:List (Addr×Obj)}{σ:St}{H:Hp}{s:Shared}{a:Addr}{kvs:List (Key×V)}
theorem Inv.view{u u':HO}(I:Inv X pins σ H s)(e:H a=some u)(nt:∀xs,u≠.tup xs)(no:∀x,u≠.own x)(nz:∀o v,X.H₀ a≠some (.frz o v))(nb:∀ps,u≠.tbl ps)(new:cy X.prog X.w (upd H a u') s.heap a u'):Inv X pins σ (upd H a u') s:=by
 have nn:∀b,H b=none->b≠a:=λb z y=>by rw[y,e]at z;cases z
 refine⟨I.ok,I.os,I.bare,⟨I.base.keep,I.base.slot,λb o q n hx=>?_,I.base.there,λb xs q=>?_,λb o v q=>?_,λb ps q=>?_⟩,I.loc,I.cell,?_,λx c hc=>?_,λp hp=>?_,λb v q=>?_,I.len⟩
 ·have:=I.base.free b o q n hx
  rw[aq (nn b this)];exact this
 ·have z:=I.base.tups b xs q
  rw[aq (λy=>by rw[y,e]at z;exact nt xs (zaQ z))];exact z
 ·have z:=I.base.jB b o v q
  rw[aq (λy=>nz o v (by rw[<-y];exact q))];exact z
 ·obtain⟨m,z⟩:=I.base.jj b ps q
  exact⟨m,by rw[aq (λy=>by rw[y,e]at z;exact nb _ (zaQ z))];exact z⟩
 ·rw[aq (nn _ I.free)];exact I.free
 ·have z:=I.hE x c hc
  rw[aq (nn _ z)];exact z
 ·obtain⟨a1,a2,a3,a4,a5⟩:=I.pin p hp
  exact⟨a1,by rw[aq (nn _ a2)];exact a2,a3,a4,a5⟩
 ·by_cases z:b=a
  ·subst z
   rw[ax]at q;cases q;exact new
  ·rw[aq z]at q
   refine(I.hok b v q).stay (λ_ _ _ r=>r) (λc r=>?_) λc xs hk r=>?_
   ·rw[aq (λy=>by rw[y,e]at r;exact no b (zaQ r))];exact r
   ·rw[aq (λy=>by
     rw[y,e]at r;cases xs with
     |tup l=>exact nt l (zaQ r)
     |tbl l=>exact nb l (zaQ r)
     |_=>exact hk)];exact r
theorem Inv.CW(I:Inv X pins σ H s)(e:H a=some (.dK kvs)):∀o v,X.H₀ a≠some (.frz o v):=λo v z=>by
 have:=I.base.jB a o v z;rw[e]at this;cases this
theorem Inv.JT(I:Inv X pins σ H s)(e:H a=some (.dK kvs)):∃o,Inv X pins σ (upd H a (.frz o (.dK kvs))) s:=by
 obtain⟨z,hd,vs,rel,dd⟩:=zx I.hok e;obtain⟨o,es,ep,ho,r⟩:=id dd;exact⟨o,I.view e (λ_ z=>by cases z) (λ_ z=>by cases z) (I.CW e) (λ_ z=>by cases z) ⟨ho,z,hd,vs,rel,dd⟩⟩
theorem Inv.qx{o:Obj}(I:Inv X pins σ H s)(e:H a=some (.frz o (.dK kvs)))(nz:∀o v,X.H₀ a≠some (.frz o v)):Inv X pins σ (upd H a (.dK kvs)) s:=by
 obtain⟨_,z,hd,vs,rel,dd⟩:=I.hok a _ e;exact I.view e (λ_ z=>by cases z) (λ_ z=>by cases z) nz (λ_ z=>by cases z) ⟨z,hd,vs,rel,dd⟩
def JU(a:Addr)(o:Obj)(kvs:List (Key×V))(D:Ends):Ends where
 nx:=fun σ H=>H a=some (.frz o (.dK kvs))/\D.nx σ (upd H a (.dK kvs))
 rt:=λv H=>H a=some (.frz o (.dK kvs))/\D.rt v (upd H a (.dK kvs))
 bk:=fun σ H=>H a=some (.frz o (.dK kvs))/\D.bk σ (upd H a (.dK kvs))
 ct:=fun σ H=>H a=some (.frz o (.dK kvs))/\D.ct σ (upd H a (.dK kvs))
def GB(t:TS):TS:=λD σ H=>∃a kvs,H a=some (.dK kvs)/\∀o,t (JU a o kvs D) σ (upd H a (.frz o (.dK kvs)))
theorem Io{st:Stmt}{t:TS}(h:PS X st t):PS X st (GB t):=by
 intro pins s σ H D I hw;obtain⟨a,kvs,e,q⟩:=hw;obtain⟨o,I1⟩:=I.JT e;have nz:=I.CW e;refine za6 (h pins s σ _ _ I1 (q o)) (λf s1 z=>?_) λ_ _ z=>z
 cases f with
 |next=>obtain⟨σ',H',I',e',z⟩:=z;exact⟨σ',_,I'.qx e' nz,z⟩
 |brk=>obtain⟨σ',H',I',e',z⟩:=z;exact⟨σ',_,I'.qx e' nz,z⟩
 |cont=>obtain⟨σ',H',I',e',z⟩:=z;exact⟨σ',_,I'.qx e' nz,z⟩
 |ret u=>obtain⟨v,σ',H',I',r,e',z⟩:=z;exact⟨v,σ',_,I'.qx e' nz,r,z⟩
def GC(t:TE):TE:=fun σ H Q=>∃a kvs,H a=some (.dK kvs)/\∀o,t σ (upd H a (.frz o (.dK kvs))) λv H'=>H' a=some (.frz o (.dK kvs))/\Q v (upd H' a (.dK kvs))
theorem Ip{ex:Expr}{t:TE}(h:PE X ex t):PE X ex (GC t):=by
 intro pins s σ H Q I hw;obtain⟨a,kvs,e,q⟩:=hw;obtain⟨o,I1⟩:=I.JT e;have nz:=I.CW e;refine za6 (h pins s σ _ _ I1 (q o)) (λu s1 z=>?_) λ_ _ z=>z
 obtain⟨v,H',I',r,e',z⟩:=z;exact⟨v,_,I'.qx e' nz,r,z⟩
def ItD(a:Addr)(o:Obj)(kvs:List (Key×V)):It where
 go:=λi H=>H a=some (.frz o (.dK kvs))/\i<kvs.length
 yld:=λi H x H'=>H'=H/\∃k v,kvs[i]?=some (k,v)/\x=kV k
 stop:=λi H=>H a=some (.frz o (.dK kvs))/\kvs.length<=i
theorem JV{kvs:List (Key×V)}{vs:List (Key×Value)}(r:KV kvs vs)(i:Nat){k:Key}{x:Value}(h:vs[i]?=some (k,x)):∃v,kvs[i]?=some (k,v):=by
 induction r generalizing i with
 |nil=>simp at h
 |cons h1 t ih=>
  cases i with
  |zero=>
   rename_i p q l l'
   have e:q=(k,x):=by simpa using h
   subst e;exact⟨p.2,by show some p=_;exact congrArg some (Prod.ext h1.1 rfl)⟩
  |succ i=>simpa using ih i (by simpa using h)
theorem AO{P:Program}{w:World}{K:zag}{tg:Expr}{a it:Addr}{o:Obj}{kvs:List (Key×V)}{vs:List (Key×Value)}{ep:Nat}{h₁:Heap}(rel:KV kvs vs)(ho:h₁.get? a=some o)(hat:h₁.DictAt (bX P w) a vs ep) :
  Turn P w K tg (ItD a o kvs) [it] it (λi h=>h.IsKeyIter it a i vs.length ep) where
 mem:=by simp
 obj:=λi h st b hb=>by
  have e:b=it:=by simpa using hb
  subst e;obtain⟨o,e,c,d⟩:=st;exact⟨o,e,λv z=>by rw[d]at z;cases z⟩
 keep:=λi h h' st k=>st.at λo e=>k it (by simp) o e
 item:=by
  intro X hP hw hK hc i pins s σ H E I hf st hg;subst hP hw hK;obtain⟨hH,hi⟩:=hg;obtain⟨hg,_⟩:=I.hok a _ hH;have hd:s.heap.DictAt (bX X.prog X.w) a vs ep:=hat.at' λo' e=>by rw[ho]at e;cases e;exact hg
  obtain⟨f0,f1,f2,f3,f4,f5⟩:=hf it (by simp)
  have hl:=rel.length;obtain⟨⟨k,x⟩,hx⟩:∃p,vs[i]?=some p:=⟨vs[i]'(by omega),by simp⟩
  refine wpAny_pyNext_dict_item st hd hx λkey h' hkey st' sb=>?_
  have I1:Inv X pins σ H {s with heap:=h'}:=I.turned (t':=s.toks) (λb o hb e=>(sb.2 b hb).trans e) f0 f1 f3 f4 f5
  obtain⟨oi,e,c,d⟩:=id st';obtain⟨v,hv⟩:=JV rel i hx;exact⟨key,rfl,yS (s:={s with heap:=h'}) e c d (by decide) ⟨kV k,H,I1,CT hkey,⟨rfl,k,v,hv,rfl⟩,st',λb hb=>(hf b hb).1⟩⟩
 done:=by
  intro X hP hw hK hc i pins s σ H E I hf st hg;subst hP hw hK;obtain⟨hH,hi⟩:=hg;obtain⟨hg,_⟩:=I.hok a _ hH;have hd:s.heap.DictAt (bX X.prog X.w) a vs ep:=hat.at' λo' e=>by rw[ho]at e;cases e;exact hg
  obtain⟨f0,f1,f2,f3,f4,f5⟩:=hf it (by simp)
  have hl:=rel.length;exact wpAny_pyNext_dict_end (I.ok.hd hc) st hd (by simp;omega) λh' eb=>⟨rfl,I.turned (t':=s.toks) (λb o hb e=>eb b o hb e) f0 f1 f3 f4 f5⟩
 self:=λA i s Q E st q=>wpAny_pyIter_keyiter st q
def JW(tl:TE):TI:=fun σ H R=>tl σ H λx H1=>∃a o kvs,x=.ref a/\H1 a=some (.frz o (.dK kvs))/\R (ItD a o kvs) H1
theorem zC{tg l:Expr}{tl:TE}(hl:PE X l tl):PI X tg l (JW tl):=by
 intro pins s σ H R I h;refine thn (hl pins s σ H _ I h) λv s1 ⟨x,H1,I1,r1,q1⟩=>?_
 obtain⟨a,o,kvs,e,hH,q⟩:=q1;subst e;cases r1;obtain⟨ho,z,hd,vs,rel,dd⟩:=I1.hok a _ hH;obtain⟨ep,hat⟩:=dd.dictAt;refine wpAny_pyIter_dict hd hat ?_;refine⟨s1.heap.objs.size,[s1.heap.objs.size],_,_,H1,rfl,I1.kept (t':=s1.toks) λb o e=>zar _ e,AO rel ho hat,⟨_,zaL _ rfl,rfl,rfl⟩,λb hb=>?_,q⟩
 have e:b=s1.heap.objs.size:=by simpa using hb
 subst e;exact I1.pQ (zap _) (I1.hok.fresh (zap _))
end
end L2
namespace Mir
open PySem L2
variable [Zc]
mutual
theorem Rep.map{B B':Hp}(hL:∀p xs,Rd B p (.lst xs)->Rd B' p (.lst xs))(hT:∀p xs,B p=some (.tup xs)->B' p=some (.tup xs))(hD:∀p kvs,Rd B p (.dK kvs)->Rd B' p (.dK kvs)):∀{v:V} {d:D},Rep B v d->Rep B' v d
 |_,_,.non=>.non
 |_,_,.bl b=>.bl b
 |_,_,.int i=>.int i
 |_,_,.str x=>.str x
 |_,_,.lst h r=>.lst (hL _ _ h) (aQ.map hL hT hD r)
 |_,_,.tup h r=>.tup (hT _ _ h) (aQ.map hL hT hD r)
 |_,_,.dct h r=>.dct (hD _ _ h) (bx.map' hL hT hD r)
theorem aQ.map{B B':Hp}(hL:∀p xs,Rd B p (.lst xs)->Rd B' p (.lst xs))(hT:∀p xs,B p=some (.tup xs)->B' p=some (.tup xs))(hD:∀p kvs,Rd B p (.dK kvs)->Rd B' p (.dK kvs)):∀{vs:List V} {ds:List D},aQ B vs ds->aQ B' vs ds
 |_,_,.nil=>.nil
 |_,_,.cons h r=>.cons (Rep.map hL hT hD h) (aQ.map hL hT hD r)
theorem bx.map'{B B':Hp}(hL:∀p xs,Rd B p (.lst xs)->Rd B' p (.lst xs))(hT:∀p xs,B p=some (.tup xs)->B' p=some (.tup xs))(hD:∀p kvs,Rd B p (.dK kvs)->Rd B' p (.dK kvs)):∀{kvs:List (Key×V)} {es:List (D×D)},bx B kvs es->bx B' kvs es
 |_,_,.nil=>.nil
 |_,_,.cons hk h r=>.cons hk (Rep.map hL hT hD h) (bx.map' hL hT hD r)
end
section
variable{B:Hp}{a:Addr}{o:Obj}{kvs:List (Key×V)}
theorem qy(hB:B a=some (.dK kvs)):∀p xs,Rd B p (.lst xs)->Rd (upd B a (.frz o (.dK kvs))) p (.lst xs):=λp xs h=>by
 by_cases z:p=a
 ·subst z
  rcases h with h|⟨o',h⟩<;>(rw[hB]at h;cases h)
 ·rcases h with h|⟨o',h⟩
  ·exact .inl (by rw[aq z];exact h)
  ·exact .inr ⟨o',by rw[aq z];exact h⟩
theorem qz(hB:B a=some (.dK kvs)):∀p xs,B p=some (.tup xs)->upd B a (.frz o (.dK kvs)) p=some (.tup xs):=λp xs h=>by
 rw[aq (λz=>by rw[z,hB]at h;cases h)];exact h
theorem qA(hB:B a=some (.dK kvs)):∀p kvs',Rd B p (.dK kvs')->Rd (upd B a (.frz o (.dK kvs))) p (.dK kvs'):=λp xs h=>by
 by_cases z:p=a
 ·subst z
  rcases h with h|⟨o',h⟩
  ·rw[hB]at h;cases h
   exact .inr ⟨o,ax⟩
  ·rw[hB]at h;cases h
 ·rcases h with h|⟨o',h⟩
  ·exact .inl (by rw[aq z];exact h)
  ·exact .inr ⟨o',by rw[aq z];exact h⟩
theorem oa(hB:B a=some (.frz o (.dK kvs))):∀p xs,Rd B p (.lst xs)->Rd (upd B a (.dK kvs)) p (.lst xs):=λp xs h=>by
 by_cases z:p=a
 ·subst z
  rcases h with h|⟨o',h⟩<;>(rw[hB]at h;cases h)
 ·rcases h with h|⟨o',h⟩
  ·exact .inl (by rw[aq z];exact h)
  ·exact .inr ⟨o',by rw[aq z];exact h⟩
theorem og(hB:B a=some (.frz o (.dK kvs))):∀p xs,B p=some (.tup xs)->upd B a (.dK kvs) p=some (.tup xs):=λp xs h=>by
 rw[aq (λz=>by rw[z,hB]at h;cases h)];exact h
theorem oh(hB:B a=some (.frz o (.dK kvs))):∀p kvs',Rd B p (.dK kvs')->Rd (upd B a (.dK kvs)) p (.dK kvs'):=λp xs h=>by
 by_cases z:p=a
 ·subst z
  rcases h with h|⟨o',h⟩
  ·rw[hB]at h;cases h
  ·rw[hB]at h;cases h
   exact .inl ax
 ·rcases h with h|⟨o',h⟩
  ·exact .inl (by rw[aq z];exact h)
  ·exact .inr ⟨o',by rw[aq z];exact h⟩
end
def mV(ρ:Rho):Bool:=ρ.all λs=>match s with
 | .ro _=>false
 |_=>true
theorem zD{ρ:Rho}(h:mV ρ=true){i:Nat}{d:D}(z : ρ[i]?=some (.ro d)):False:=by
 have:=(List.all_eq_true.mp h) _ (zaj z);cases this
def Fr.hide(F:Fr)(a:Addr)(u:HO):Fr:=⟨λq=>if q=a then(F.B a).map λ_=>u else F.B q,λq=>if q=a then(F.H a).map λ_=>u else F.H q,F.io,λq=>F.Z q\/q=a⟩
section
variable{F:Fr}{B H:Hp}{σ:St}{ρ:Rho}{a:Addr}{o:Obj}{kvs:List (Key×V)}
theorem Own.ne{p:Addr}{u:HO}(hp:B p=none)(hB:B a=some u):p≠a:=λz=>by rw[z,hB]at hp;cases hp
theorem Rel.hide(R:Rel F B H σ ρ)(hB:B a=some (.dK kvs))(nr:mV ρ=true):Rel (F.hide a (.frz o (.dK kvs))) (upd B a (.frz o (.dK kvs))) (upd H a (.frz o (.dK kvs))) σ ρ:=by
 have own:∀{p:Addr} {d:D},B p=none->Own B H p d->Own (upd B a (.frz o (.dK kvs))) (upd H a (.frz o (.dK kvs))) p d:=fun{p d} hp h=>by
  have z:=Own.ne hp hB;cases h with
  |lst h r=>exact .lst (by rw[aq z];exact h) (aQ.map (qy hB) (qz hB) (qA hB) r)
  |dct h r=>exact .dct (by rw[aq z];exact h) (bx.map' (qy hB) (qz hB) (qA hB) r)
 refine⟨λq u h=>?_,λq u h=>?_,λq u h n=>?_,λq h1 h2=>?_,R.len,λi s hs=>?_,R.dist,λi d p h1 h2=>?_,R.fx,R.ioN,λq xs h=>?_,R.exv,λq o' u h=>?_⟩
 ·by_cases z:q=a
  ·subst z;rw[ax]at h⊢;exact h
  ·rw[aq z]at h⊢;exact R.sub q u h
 ·by_cases z:q=a
  ·subst z
   have e:(∃x,F.B q=some x)/\HO.frz o (HO.dK kvs)=u:=by simpa[Fr.hide]using h
   rw[ax,e.2]
  ·rw[aq z];exact R.sB q u (by simpa[Fr.hide,z]using h)
 ·by_cases z:q=a
  ·subst z
   have e:(∃x,F.H q=some x)/\HO.frz o (HO.dK kvs)=u:=by simpa[Fr.hide]using h
   rw[ax,e.2]
  ·rw[aq z];exact R.sH q u (by simpa[Fr.hide,z]using h) n
 ·by_cases z:q=a
  ·subst z
   have g1:F.H q≠none:=λy=>h1 (by simp[Fr.hide,y])
   have g2:F.B q=none:=by simpa[Fr.hide]using h2
   have:=R.nB q g1 g2;rw[hB]at this;cases this
  ·rw[aq z];exact R.nB q (by simpa[Fr.hide,z]using h1) (by simpa[Fr.hide,z]using h2)
 ·have:=R.slot i s hs
  cases s with
  |no=>trivial
  |ex=>trivial
  |fz d=>obtain⟨v,h1,h2⟩:=this;exact⟨v,h1,Rep.map (qy hB) (qz hB) (qA hB) h2⟩
  |own d=>obtain⟨p,h1,h2,h3⟩:=this;exact⟨p,h1,by rw[aq (Own.ne h2 hB)];exact h2,own h2 h3⟩
  |io d=>obtain⟨p,h1,h2,h3⟩:=this;exact⟨p,h1,by rw[aq (Own.ne h2 hB)];exact h2,own h2 h3⟩
  |ro d=>exact(zD nr hs).elim
 ·have h3:=R.jE i d p h1 h2
  obtain⟨p',g1,g2,_⟩:=R.slot i _ h1;rw[h2]at g1;cases g1
  have z:=Own.ne g2 hB;show(if p=a then _ else F.H p)=none
  rw[if_neg z];exact h3
 ·have z:q≠a:=λz=>by rw[z,ax]at h;cases h
  rw[aq z]at h⊢;exact R.cO q xs h
 ·by_cases z:q=a
  ·exact .inr z
  ·rw[aq z]at h;exact .inl (R.nz q o' u h)
theorem Rel.show(R0:∃B0 H0 σ0 ρ0,Rel F B0 H0 σ0 ρ0/\B0 a=some (.dK kvs))(R:Rel (F.hide a (.frz o (.dK kvs))) B H σ ρ)(hB:B a=some (.frz o (.dK kvs)))(nr:mV ρ=true):Rel F (upd B a (.dK kvs)) (upd H a (.dK kvs)) σ ρ:=by
 obtain⟨B0,H0,σ0,ρ0,R0,hB0⟩:=R0;have own:∀{p:Addr} {d:D},B p=none->Own B H p d->Own (upd B a (.dK kvs)) (upd H a (.dK kvs)) p d:=fun{p d} hp h=>by
  have z:=Own.ne hp hB;cases h with
  |lst h r=>exact .lst (by rw[aq z];exact h) (aQ.map (oa hB) (og hB) (oh hB) r)
  |dct h r=>exact .dct (by rw[aq z];exact h) (bx.map' (oa hB) (og hB) (oh hB) r)
 refine⟨λq u h=>?_,λq u h=>?_,λq u h n=>?_,λq h1 h2=>?_,R.len,λi s hs=>?_,R.dist,λi d p h1 h2=>?_,R.fx,R.ioN,λq xs h=>?_,R.exv,λq o' u h=>?_⟩
 ·by_cases z:q=a
  ·subst z;rw[ax]at h⊢;exact h
  ·rw[aq z]at h⊢;exact R.sub q u h
 ·by_cases z:q=a
  ·subst z
   have:=R0.sB q u h;rw[hB0]at this;rw[ax];exact this
  ·rw[aq z];exact R.sB q u (by simpa[Fr.hide,z]using h)
 ·by_cases z:q=a
  ·subst z
   have:=R0.sH q u h n;rw[R0.sub q _ hB0]at this;rw[ax];exact this
  ·rw[aq z];exact R.sH q u (by simpa[Fr.hide,z]using h) n
 ·by_cases z:q=a
  ·subst z
   have:=R0.nB q h1 h2;rw[hB0]at this;cases this
  ·rw[aq z];exact R.nB q (by simpa[Fr.hide,z]using h1) (by simpa[Fr.hide,z]using h2)
 ·have:=R.slot i s hs
  cases s with
  |no=>trivial
  |ex=>trivial
  |fz d=>obtain⟨v,h1,h2⟩:=this;exact⟨v,h1,Rep.map (oa hB) (og hB) (oh hB) h2⟩
  |own d=>obtain⟨p,h1,h2,h3⟩:=this;exact⟨p,h1,by rw[aq (Own.ne h2 hB)];exact h2,own h2 h3⟩
  |io d=>obtain⟨p,h1,h2,h3⟩:=this;exact⟨p,h1,by rw[aq (Own.ne h2 hB)];exact h2,own h2 h3⟩
  |ro d=>exact(zD nr hs).elim
 ·have h3:=R.jE i d p h1 h2
  obtain⟨p',g1,g2,_⟩:=R.slot i _ h1;rw[h2]at g1;cases g1
  have z:=Own.ne g2 hB;have:(if p=a then(F.H a).map λ_=>HO.frz o (.dK kvs)else F.H p)=none:=h3
  rw[if_neg z]at this;exact this
 ·have z:q≠a:=λz=>by rw[z,ax]at h;cases h
  rw[aq z]at h⊢;exact R.cO q xs h
 ·have z:q≠a:=λz=>by rw[z,ax]at h;cases h
  rw[aq z]at h;rcases R.nz q o' u h with w|w
  ·exact w
  ·exact absurd w z
end
theorem CY{G B:Hp}{a:Addr}{o:Obj}{kvs:List (Key×V)}{es:List (D×D)}(h:G a=some (.frz o (.dK kvs)))(r:bx B kvs es):mI G B (ItD a o kvs) (es.map (·.1)):=λH s=>by
 have h':=s _ _ h;have hl:=r.length;refine⟨⟨h',by rw[zal];omega⟩,λi d hd=>?_⟩
 have hi:i<es.length:=by have:=(zac hd).1;rwa[zal]at this
 refine⟨⟨h',by omega⟩,λx H' hy=>?_⟩
 obtain⟨rfl,k,v,hk,rfl⟩:=hy;refine .inl ⟨rfl,?_⟩;have kr:=qw r;obtain⟨w,h1,h2⟩:=kr.get i d hd;have e:(kvs.map λq=>kV q.1)[i]?=some (kV k):=by rw[zao,hk];rfl
 rw[e]at h1;cases h1;exact h2
theorem CZ{tg:TG}{tb:TS}{g:D->Rho->Option Rho}{b:SM}(hg:MG tg g)(hb:MS tb b){F:Fr}{B1 H1:Hp}{σ:St}{ρ1:Rho}{J:It}{ds:List D}{o:Out}{D:Ends}(R1:Rel F B1 H1 σ ρ1)(I1:mI B1 B1 J ds)(e:forL g b ds ρ1=some o)(q:oH F D o) :
  ∃W:Nat->Nat->St->Hp->Prop,(∃m,W 0 m σ H1)/\∀i m σ H,W i m σ H->(J.stop i H/\D.nx σ H)\/(J.go i H/\∃N:St->Hp->Prop,(∀σ' H',N σ' H'->∃m',m'<m/\W (i+1) m' σ' H')/\∀x H',J.yld i H x H'->tg x σ H' fun σ2 H2=>tb {D with nx:=N,ct:=N,bk:=D.nx} σ2 H2):=by
 have q':=q.down R1;refine⟨λi m σ H=>m=ds.length-i/\i<=ds.length/\∃B ρ,Rel ⟨B1,F.H,F.io,F.Z⟩ B H σ ρ/\forL g b (ds.drop i) ρ=some o,⟨ds.length,rfl,Nat.zero_le _,B1,ρ1,R1.down,e⟩,?_⟩
 rintro i m σ2 H2 ⟨rfl,hil,B2,ρ2,R2,e2⟩
 have sH:aE B1 H2:=R2.sB.trans R2.sub
 by_cases hlt:i<ds.length
 ·refine .inr ?_
  obtain⟨go,yl⟩:=(I1 H2 sH).2 i ds[i] (zaC hlt);rw[zbb hlt]at e2;obtain⟨ρ3,e3,e4⟩:=zaa (show(g ds[i] ρ2).bind _=some o from e2);obtain⟨w,e5,e6⟩:=zaa e4;refine⟨go,fun σ' H'=>∃B' ρ',Rel ⟨B1,F.H,F.io,F.Z⟩ B' H' σ' ρ'/\forL g b (ds.drop (i+1)) ρ'=some o,fun σ' H' h'=>⟨ds.length-(i+1),by omega,rfl,hlt,h'⟩,λy H3 hy=>?_⟩
  have had:∃B3,Rel ⟨B1,F.H,F.io,F.Z⟩ B3 H3 σ2 ρ2/\Rep B3 y ds[i]:=by
   rcases yl y H3 hy with⟨rfl,h2⟩|⟨p,xs,cs,h1,rfl,h3,rfl,h5⟩
   ·exact⟨B2,R2,h2.mono R2.sB⟩
   ·obtain⟨R3,E3,e3⟩:=R2.rq (xs:=xs) h3
    exact⟨_,R3,by rw[h1];exact .tup ax (h5.mono (R2.sB.trans e3))⟩
  obtain⟨B3,R3,rp⟩:=had;refine hg _ B3 H3 σ2 ρ2 y ds[i] ρ3 _ R3 rp e3 λB4 H4 σ4 R4 _=>?_
  refine hb _ B4 H4 σ4 ρ3 w _ R4 e5 ?_;cases w with
  |nx ρ'=>exact λB' H' σ' R'=>⟨B',ρ',R',e6⟩
  |ct ρ'=>exact λB' H' σ' R'=>⟨B',ρ',R',e6⟩
  |bk ρ'=>cases e6;exact q'
  |rt r ρ'=>cases e6;exact q'
 ·have hi':i=ds.length:=by omega
  subst hi';rw[List.drop_length]at e2;cases e2;exact .inl ⟨(I1 H2 sH).1,q' B2 H2 σ2 R2⟩
def Iq:Out->Rho
 | .nx ρ=>ρ
 | .rt _ ρ=>ρ
 | .bk ρ=>ρ
 | .ct ρ=>ρ
def sD:RV->Option (List (D×D))
 |(.dict es,.fz)=>some es
 |_=>none
theorem wI{r:RV}{es:List (D×D)}(h:sD r=some es):r=(.dict es,.fz):=by
 unfold sD at h;split at h
 ·cases h;rfl
 ·cases h
def Calm(tl:TE)(dv:PM):Prop:=∀(F:Fr) (B H:Hp) (σ:St) (ρ:Rho) (r:RV) (ρ':Rho),Rel F B H σ ρ->dv ρ=some (r,ρ')->ρ'=ρ/\∃v,Rep B v r.1/\(∀Q:VK,Q v H->tl σ H Q)/\∀a o kvs,B a=some (.dK kvs)->∀Q:VK,Q v (upd H a (.frz o (.dK kvs)))->tl σ (upd H a (.frz o (.dK kvs))) Q
def oR(i:Nat):PM:=fun ρ=>match ρ[i]? with
 |some (.fz d)=>some ((d,.fz),ρ)
 |_=>none
theorem qB{i:Nat}:Calm (my i) (oR i):=by
 intro F B H σ ρ r ρ' R e;unfold oR at e;split at e
 ·rename_i d h
  cases e;obtain⟨v,h1,h2⟩:=R.slot i _ h;exact⟨rfl,v,h2,λQ q=>⟨v,h1,q⟩,λa o kvs _ Q q=>⟨v,h1,q⟩⟩
 ·cases e
def Ir(dv:PM)(j:Nat):PM:=fun ρ=>(dv ρ).bind λx=>match x.1.1 with
 | .tuple ds=>(ds[j]?).map λd=>((d,.fz),x.2)
 |_=>none
theorem Fb{K:zag}{tl:TE}{dv:PM}{j:Nat}(h:Calm tl dv):Calm (tOp (rIx K) tl (tC (.int (j:Int)))) (Ir dv j):=by
 intro F B H σ ρ r ρ' R e;obtain⟨x,e1,e⟩:=zaa e;obtain⟨⟨c,k⟩,ρ1⟩:=x;cases c with
 |tuple ds=>
  obtain⟨d,e2,e⟩:=zab (show(ds[j]?).map _=some (r,ρ')from e);cases e;obtain⟨rfl,v,rv,h1,h2⟩:=h F B H σ ρ _ _ R e1;refine⟨rfl,?_⟩;cases rv with
  | @tup p xs _ hp rp=>
   obtain⟨w,g1,g2⟩:=rp.get j d e2;have at1:atI xs (j:Int)=some w:=by
    have hl:j<xs.length:=(zac g1).1;unfold atI;have:ixN xs.length (j:Int)=some j:=EB hl;rw[this];exact g1
   refine⟨w,g2,λQ q=>h1 _ (.inr (.inl ⟨p,xs,(j:Int),w,rfl,rfl,.inl (.inl (R.sub _ _ hp)),at1,q⟩)),λa o kvs ha Q q=>h2 a o kvs ha _ (.inr (.inl ⟨p,xs,(j:Int),w,rfl,rfl,.inl (.inl ?_),at1,q⟩))⟩
   rw[aq (λz=>by rw[z,ha]at hp;cases hp)]
   exact R.sub _ _ hp
 |_=>cases e
theorem Own.show{B H:Hp}{a p:Addr}{o:Obj}{kvs:List (Key×V)}{d:D}(hB:B a=some (.frz o (.dK kvs)))(z:p≠a)(h:Own B H p d):Own (upd B a (.dK kvs)) (upd H a (.dK kvs)) p d:=by
 cases h with
 |lst h r=>exact .lst (by rw[aq z];exact h) (aQ.map (oa hB) (og hB) (oh hB) r)
 |dct h r=>exact .dct (by rw[aq z];exact h) (bx.map' (oa hB) (og hB) (oh hB) r)
theorem wJ{F:Fr}{B H:Hp}{σ:St}{ρ:Rho}{a:Addr}{o:Obj}{kvs:List (Key×V)}{v:V}{r:RV}(hB:B a=some (.frz o (.dK kvs)))(hH:H a=some (.frz o (.dK kvs)))(V:Val (F.hide a (.frz o (.dK kvs))) B H σ ρ v r):Val F (upd B a (.dK kvs)) (upd H a (.dK kvs)) σ ρ v r:=by
 obtain⟨c,k⟩:=r;cases k with
 |fz=>exact Rep.map (oa hB) (og hB) (oh hB) V
 |new=>
  obtain⟨p,rfl,h1,h2,h3,h4⟩:=V;have z:=Own.ne h1 hB;refine⟨p,rfl,by rw[aq z];exact h1,?_,Own.show hB z h3,h4⟩
  have:(if p=a then(F.H a).map λ_=>HO.frz o (.dK kvs)else F.H p)=none:=h2
  rw[if_neg z]at this;exact this
 | «at» i=>exact V
 |ro=>
  obtain⟨p,rfl,h1,h2⟩:=V;have z:p≠a:=λz=>by
   subst z;cases h1 with
   |lst h _=>rw[hH]at h;cases h
   |dct h _=>rw[hH]at h;cases h
  exact⟨p,rfl,Own.show hB z h1,h2⟩
theorem C0{F:Fr}{B0 H0:Hp}{σ0:St}{ρ0:Rho}{a:Addr}{ob:Obj}{kvs:List (Key×V)}(R0:Rel F B0 H0 σ0 ρ0)(hB:B0 a=some (.dK kvs)){o:Out}{D:Ends}(nr:mV (Iq o)=true)(q:oH F D o):oH ⟨upd B0 a (.frz ob (.dK kvs)),(F.hide a (.frz ob (.dK kvs))).H,F.io,(F.hide a (.frz ob (.dK kvs))).Z⟩ (JU a ob kvs D) o:=by
 have up:∀{B H σ ρ},Rel ⟨upd B0 a (.frz ob (.dK kvs)),(F.hide a (.frz ob (.dK kvs))).H,F.io,(F.hide a (.frz ob (.dK kvs))).Z⟩ B H σ ρ->Rel (F.hide a (.frz ob (.dK kvs))) B H σ ρ/\B a=some (.frz ob (.dK kvs)):=fun{B H σ ρ} R=>by
  refine⟨⟨R.sub,λq u h=>R.sB q u ?_,R.sH,λq h z=>R.nB q h ?_,R.len,R.slot,R.dist,R.jE,R.fx,R.ioN,R.cO,R.exv,R.nz⟩,R.sB a _ ax⟩
  ·show upd B0 a _ q=some u
   by_cases w:q=a
   ·subst w
    have e:(∃x,F.B q=some x)/\HO.frz ob (HO.dK kvs)=u:=by simpa[Fr.hide]using h
    rw[ax,e.2]
   ·rw[aq w];exact R0.sB q u (by simpa[Fr.hide,w]using h)
  ·show upd B0 a _ q=none
   by_cases w:q=a
   ·subst w
    have g1:F.H q≠none:=λy=>h (by simp[Fr.hide,y])
    have g2:F.B q=none:=by simpa[Fr.hide]using z
    have:=R0.nB q g1 g2;rw[hB]at this;cases this
   ·rw[aq w];exact R0.nB q (by simpa[Fr.hide,w]using h) (by simpa[Fr.hide,w]using z)
 cases o with
 |nx ρ=>exact λB H σ R=>⟨R.sub a _ (up R).2,q _ _ _ (Rel.show ⟨_,_,_,_,R0,hB⟩ (up R).1 (up R).2 nr)⟩
 |bk ρ=>exact λB H σ R=>⟨R.sub a _ (up R).2,q _ _ _ (Rel.show ⟨_,_,_,_,R0,hB⟩ (up R).1 (up R).2 nr)⟩
 |ct ρ=>exact λB H σ R=>⟨R.sub a _ (up R).2,q _ _ _ (Rel.show ⟨_,_,_,_,R0,hB⟩ (up R).1 (up R).2 nr)⟩
 |rt r ρ=>exact λv B H σ R V=>⟨R.sub a _ (up R).2,q _ _ _ _ (Rel.show ⟨_,_,_,_,R0,hB⟩ (up R).1 (up R).2 nr) (wJ (up R).2 (R.sub a _ (up R).2) V)⟩
def C1(t:TS):TS:=λD σ H=>GB t D σ H\/t D σ H
theorem _root_.L2.zE{X:Cx}{st:Stmt}{t:TS}(h:PS X st t):PS X st (C1 t):=by
 intro pins s σ H D I hw;rcases hw with hw|hw
 ·exact Io h pins s σ H D I hw
 ·exact h pins s σ H D I hw
end Mir
namespace Mir
open PySem L2
variable [Zc]
theorem GD{fr:List (Str×Nat)}{tc:TT}{te:TE}{c:Rho->Option (Bool×Rho)}{e:PM}(hc:MT tc c)(he:ME te e){F:Fr}{B1 H1:Hp}{σ:St}{ρ1:Rho}{J:It}{ds out:List D}{Q:VK}(R1:Rel F B1 H1 σ ρ1)(I1:mI H1 B1 J ds)(e2:iY c e (fr.map λp=>bI ρ1 p.2) ds=some out)(hz:out.length<sizeLine)
  (q:∀v B' H',Ext σ ρ1 B1 H1 ρ1 B' H'->Rel F B' H' σ ρ1->Val F B' H' σ ρ1 v (.list out,.new)->(∀p,Kd.new=Kd.new->v=.ref p->H1 p=none)->Q v H') :
  ∃W:Nat->Nat->List V->Hp->Prop,(∃m,W 0 m [] H1)/\∀i m ys H2,W i m ys H2->ys.length<sizeLine/\
 ((J.stop i H2/\∀D,H2 D=none->Q (.ref D) (upd H2 D (.lst ys)))\/
  (J.go i H2/\∀v H3,J.yld i H2 v H3->tc (some v::aZ σ fr) H3 λb H4=>
   if b=true then te (some v::aZ σ fr) H4 λy H5=>∃m',m'<m/\W (i+1) m' (ys++[y]) H5 else∃m',m'<m/\W (i+1) m' ys H4)):=by
 refine⟨λi m ys H2=>m=ds.length-i/\i<=ds.length/\∃B2 done rest,aE B1 B2/\aE H1 H2/\(∀q,H1 q≠none->B1 q=none->B2 q=none)/\Rel F B2 H2 σ ρ1/\aQ B2 ys done/\iY c e (fr.map λp=>bI ρ1 p.2) (ds.drop i)=some rest/\done++rest=out,
  ⟨ds.length,rfl,Nat.zero_le _,B1,[],out,aE.refl _,aE.refl _,λ_ _ z=>z,R1,.nil,e2,rfl⟩,?_⟩
 rintro i m ys H2 ⟨rfl,hil,B2,done,rest,eB,eH,nb,R2,rp,hcl,hdr⟩
 have hlen:ys.length<=out.length:=by rw[<-hdr,zau,rp.length];omega
 refine⟨by omega,?_⟩
 by_cases hlt:i<ds.length
 ·refine .inr ?_
  obtain⟨go,yl⟩:=(I1 H2 eH).2 i ds[i] (zaC hlt);refine⟨go,λv H3 hy=>?_⟩
  rw[zbb hlt]at hcl;obtain⟨b,c1,c2⟩:=zaa (show(c (.fz ds[i]::fr.map λp=>bI ρ1 p.2)).bind _=some rest from hcl)
  have had:∃B3,aE B2 B3/\aE H2 H3/\(∀q,H2 q≠none->B2 q=none->B3 q=none)/\Rel F B3 H3 σ ρ1/\Rep B3 v ds[i]:=by
   rcases yl v H3 hy with⟨rfl,h2⟩|⟨p,xs,cs,h1,rfl,h3,rfl,h5⟩
   ·exact⟨B2,aE.refl _,aE.refl _,λ_ _ z=>z,R2,h2.mono eB⟩
   ·obtain⟨R3,E3,e3⟩:=R2.rq (xs:=xs) h3
    refine⟨_,e3,eV h3,λq h z=>?_,R3,?_⟩
    ·rw[aq (show q≠p from λy=>h (by rw[y];exact h3))];exact z
    ·rw[h1];exact .tup ax (h5.mono (eB.trans e3))
  obtain⟨B3,eB3,eH3,nb3,R3,rv⟩:=had;have Ri:=R3.inner fr rv;refine hc (F0 H3) B3 H3 _ _ b.1 b.2 _ Ri c1 λB4 H4 E4 R4=>?_
  obtain⟨eH4,nb4⟩:=gk fg E4;have R4o:Rel F B4 H4 σ ρ1:=R3.grow E4.sB eH4 R4.sub nb4 R4.cO R4.nz;have nbA:∀q,H1 q≠none->B1 q=none->B4 q=none:=λq h z=>by
   have h2:H2 q≠none:=λy=>h (eH.free y)
   have h3:H3 q≠none:=λy=>h2 (eH3.free y)
   exact nb4 q h3 (nb3 q h2 (nb q h z))
  cases hb:b.1 with
  |false=>
   rw[hb,if_neg zam]at c2;rw[if_neg zam];exact⟨ds.length-(i+1),by omega,rfl,hlt,B4,done,rest,eB.trans (eB3.trans E4.sB),eH.trans (eH3.trans eH4),nbA,R4o,rp.mono (eB3.trans E4.sB),c2,hdr⟩
  |true=>
   rw[hb,if_pos rfl]at c2;rw[if_pos rfl];obtain⟨y,c3,c2⟩:=zaa c2;obtain⟨z,c4,c2⟩:=zaa c2;obtain⟨rest',c5,c6⟩:=zab c2;subst c6;have Ri4:=R4o.inner fr (rv.mono E4.sB);refine he.sv (F0 H4) B4 H4 _ _ y.1 y.2 _ Ri4 c3 λu B5 H5 E5 R5 V5 N5=>?_
   obtain⟨eH5,nb5⟩:=gk fg E5;have R5o:Rel F B5 H5 σ ρ1:=R4o.grow E5.sB eH5 R5.sub nb5 R5.cO R5.nz;rw[Cb c4]at V5;refine⟨ds.length-(i+1),by omega,rfl,hlt,B5,done++[z],rest',eB.trans (eB3.trans (E4.sB.trans E5.sB)),eH.trans (eH3.trans (eH4.trans eH5)),λq h w=>?_,R5o,(rp.mono (eB3.trans (E4.sB.trans E5.sB))).append (.cons V5 .nil),c5,by rw[zaD];exact hdr⟩
   have h2:H2 q≠none:=λy=>h (eH.free y)
   have h3:H3 q≠none:=λy=>h2 (eH3.free y)
   have h4:H4 q≠none:=λy=>h3 (eH4.free y)
   exact nb5 q h4 (nbA q h w)
 ·have hi':i=ds.length:=by omega
  subst hi';refine .inl ⟨(I1 H2 eH).1,λp hp=>?_⟩
  rw[List.drop_length]at hcl;cases hcl;rw[zaR]at hdr;subst hdr;have E2:Ext σ ρ1 B1 H1 ρ1 B2 H2:=Ext.grow eB eH nb;have:=ic (res:=(.list done,true)) (k:=λQ=>∀p,H2 p=none->Q (.ref p) (upd H2 p (.lst ys))) (Q:=Q) R2 ⟨ys,rp,λQ h=>h⟩ λv B' H' E R' V' N=>q v B' H' (E2.trans E) R' V' λp z1 z2=>E2.live p (N p z1 z2)
  exact this p hp
def AQ(fr:List (Str×Nat))(dv:PM)(c:Rho->Option (Bool×Rho))(e:PM):PM:=fun ρ=>(dv ρ).bind λx=>(sD x.1).bind λes=>if mV ρ=true then(iY c e (fr.map λp=>bI ρ p.2) (es.map (·.1))).bind λout=>cIf (out.length<sizeLine) (some ((.list out,.new),ρ)) none else none
def C2(t:TE):TE:=fun σ H Q=>GC t σ H Q\/t σ H Q
theorem _root_.L2.Fc{X:Cx}{ex:Expr}{t:TE}(h:PE X ex t):PE X ex (C2 t):=by
 intro pins s σ H Q I hw;rcases hw with hw|hw
 ·exact Ip h pins s σ H Q I hw
 ·exact h pins s σ H Q I hw
theorem C3{fr:List (Str×Nat)}{tl:TE}{tc:TT}{te:TE}{dv:PM}{c:Rho->Option (Bool×Rho)}{e:PM}(hd:Calm tl dv)(hc:MT tc c)(he:ME te e):ME (C2 (tLC fr (JW tl) tc te)) (AQ fr dv c e):=by
 intro F B H σ ρ r0 ρ' Q R e0 q;obtain⟨x,e1,e0⟩:=zaa e0;obtain⟨es,e2,e0⟩:=zaa e0;split at e0
 rotate_left
 ·cases e0
 rename_i nr
 obtain⟨out,e3,e0⟩:=zaa e0;obtain⟨hz,e0⟩:=cU e0;cases e0;obtain⟨r,ρ1⟩:=x;obtain⟨_,v,rv,h1,h2⟩:=hd F B H σ ρ r ρ1 R e1;obtain rfl:=wI e2;cases rv with
 | @dct a kvs _ hdd rk=>
  rcases hdd with hdd|⟨ob,hdd⟩
  ·refine .inl ⟨a,kvs,R.sub a _ hdd,λob=>?_⟩
   have R':=R.hide (o:=ob) hdd nr;refine h2 a ob kvs hdd _ ⟨a,ob,kvs,rfl,ax,?_⟩;refine GD (Q:=λv H'=>H' a=some (.frz ob (.dK kvs))/\Q v (upd H' a (.dK kvs))) hc he R' (CY ax (bx.map' (qy hdd) (qz hdd) (qA hdd) rk)) e3 hz λw B' H' E' RR V' N'=>?_
   have hB':B' a=some (.frz ob (.dK kvs)):=E'.sB a _ ax;have hH':=RR.sub a _ hB';refine⟨hH',q w _ _ ?_ (Rel.show ⟨_,_,_,_,R,hdd⟩ RR hB' nr) (wJ hB' hH' V') λp z1 z2=>?_⟩
   ·refine⟨λp u h=>?_,λp u h n=>?_,E'.own,E'.ref,λp h=>?_⟩
    ·by_cases z:p=a
     ·subst z;rw[ax,<-hdd];exact h
     ·rw[aq z];exact E'.sB p u (by rw[aq z];exact h)
    ·by_cases z:p=a
     ·subst z
      rw[R.sub p _ hdd]at h;exact⟨by rw[ax];exact h,λy=>by rw[hdd]at y;cases y⟩
     ·obtain⟨k1,k2⟩:=E'.keep p u (by rw[aq z];exact h) n
      exact⟨by rw[aq z];exact k1,λy=>by rw[aq z];exact k2 (by rw[aq z];exact y)⟩
    ·have z:p≠a:=λz=>by rw[z,ax]at h;cases h
     rw[aq z]at h;have:=E'.live p h;rw[aq z]at this;exact this
   ·have:=N' p rfl z2
    have z:p≠a:=λz=>by rw[z,ax]at this;cases this
    rw[aq z]at this;exact this
  ·exact .inr (h1 _ ⟨a,ob,kvs,rfl,R.sub a _ hdd,GD hc he R (CY (R.sub a _ hdd) rk) e3 hz q⟩)
end Mir
namespace L2
open PySem PySem.Spec PyProof.Rows
section
variable{X:Cx}{K:zag}
def GF(K:zag):List V->Hp->VK->Prop:=λxs H Q=>∃p ys,xs=[V.ref p]/\((SqL K H p ys/\∀l,H l=none->Q (.ref l) (upd H l (.tup ys)))\/(SqT K H p ys/\Q (.ref p) H))
theorem oS(h:X.K=K):dZ X (.type "tuple") (GF K):=h▸rn
def GG:V->List V->Hp->VK->Prop:=λx vs H Q=>∃(l:Addr) (zs:List Str) (z:Str) (j:Nat),x=.ref l/\vs=[.str z]/\H l=some (.lst (zs.map V.str))/\zs[j]?=some z/\(∀m,m<j->zs[m]?≠some z)/\Q .non (upd H l (.lst ((zs.eraseIdx j).map V.str)))
theorem Vals.erase:∀{xs:List V} {us:List Value} (j:Nat),Vals xs us->Vals (xs.eraseIdx j) (us.eraseIdx j)
 |_,_,_,.nil=>.nil
 |_,_,0,.cons _ t=>t
 |_,_,j+1,.cons h t=>.cons h (Vals.erase j t)
theorem ux{α β:Type}(f : α->β):∀(l:List α) (j:Nat),(l.eraseIdx j).map f=(l.map f).eraseIdx j
 | [],_=>rfl
 |_::_,0=>rfl
 |a::l,j+1=>by
  show f a::(l.eraseIdx j).map f=f a::(l.map f).eraseIdx j;rw[ux f l j]
def eqS(z:Str):Value->Bool
 | .str a _=>a==z
 |_=>false
theorem uy:∀{zs:List Str} {us:List Value},Vals (zs.map V.str) us->∀(i:Nat) (u:Value),us[i]?=some u->∃a t,zs[i]?=some a/\u=.str a t
 | [],us,h,i,u,e=>by cases h;simp at e
 |a::zs,us,h,i,u,e=>by
  cases h with
  |cons h1 t=>
   cases i with
   |zero=>
    obtain⟨tk,rfl⟩:=h1;have:u=.str a tk:=by simpa using e.symm
    exact⟨a,tk,rfl,this⟩
   |succ i=>simpa using uy t i u (by simpa using e)
theorem zF:MtM X "list.remove" GG:=by
 intro pins s σ H x vs v us Q I rx rv h;obtain⟨l,zs,z,j,rfl,rfl,hH,hj,hno,q⟩:=h;cases rx;obtain⟨u,rfl,ru⟩:=rv.one;obtain⟨tk,rfl⟩:=ru;obtain⟨hz,its,n,r,hl,e⟩:=I.BI hH;have hlen:its.length=zs.length:=by rw[<-r.length,zal]
 have hjz:j<zs.length:=(zac hj).1;refine call_meets F.slot_list_remove ⟨_,e,rfl⟩ F.entry_list_remove (F.args_list_remove_2 _ _) (PySem.MeetsSeq.list_remove l its.toArray n (.str z tk) (eqS z) (λy hy=>?_) j (by rw[zaK];omega) ?_ (λm hm hmj=>?_) (by rw[zaK,hlen];rwa[zal]at hz)) ⟨e,?_⟩
 ·obtain⟨i,hi,rfl⟩:=List.getElem_of_mem (show y∈its by simpa using hy)
  obtain⟨a,t,_,ha⟩:=uy r i its[i] (zaC hi);rw[ha];exact eqGives_str a z t tk
 ·have hji:j<its.length:=by omega
  obtain⟨a,t,h1,ha⟩:=uy r j its[j] (zaC hji);show eqS z (its.toArray[j]'(by simpa using hji))=true
  have:its.toArray[j]'(by simpa using hji)=its[j]:=by simp
  rw[this,ha];rw[hj]at h1;cases h1;simp[eqS]
 ·have hmi:m<its.length:=by simpa using hm
  obtain⟨a,t,h1,ha⟩:=uy r m its[m] (zaC hmi);have:its.toArray[m]'hm=its[m]:=by simp
  rw[this,ha];have ne:a≠z:=λw=>hno m hmj (by rw[h1,w])
  simp[eqS,ne]
 ·refine⟨.non,_,I.Eh (its':=its.eraseIdx j) hH e (by simp) ?_ ?_,rfl,q⟩
  ·have:=Vals.erase j r
   rwa[<-ux]at this
  ·rw[zal]
   have:=List.length_eraseIdx_le zs j;rw[zal]at hz;omega
end
end L2
namespace Mir
open PySem L2
variable [Zc]
def qC:List D->Option (List Str)
 | []=>some []
 | .str z::r=>(qC r).map (z::·)
 |_=>none
def wK:List Str->Str->Option Nat
 | [],_=>none
 |a::l,z=>if a=z then some 0 else(wK l z).map (· +1)
theorem zG{z:Str}:∀{zs:List Str} {j:Nat},wK zs z=some j->zs[j]?=some z/\∀m,m<j->zs[m]?≠some z
 | [],j,h=>by cases h
 |a::l,j,h=>by
  by_cases e:a=z
  ·have:wK (a::l) z=some 0:=if_pos e
   rw[this]at h;cases h
   exact⟨by rw[e];rfl,λm hm=>by omega⟩
  ·have:wK (a::l) z=(wK l z).map (· +1):=if_neg e
   rw[this]at h;obtain⟨i,h1,rfl⟩:=zab h;obtain⟨g1,g2⟩:=zG h1;refine⟨g1,λm hm=>?_⟩
   cases m with
   |zero=>exact λw=>e (by simpa using w)
   |succ m=>exact g2 m (by omega)
theorem wL{B:Hp}:∀{xs:List V} {ds:List D} {zs:List Str},aQ B xs ds->qC ds=some zs->xs=zs.map V.str
 |_,_,_,.nil,h=>by cases h;rfl
 |_,_,zs,.cons (d:=d) hx r,h=>by
  cases d with
  |str z=>
   obtain⟨ms,h1,h2⟩:=zab (show(qC _).map (z::·)=some zs from h)
   subst h2;cases hx;rw[zaz,wL r h1]
  |_=>cases h
def lM(ds:List D):List D->Option (List D×D)
 | [.str z]=>(qC ds).bind λzs=>(wK zs z).map λj=>(ds.eraseIdx j,.none)
 |_=>none
theorem wM:tW GG lM:=by
 intro B H p xs ds vs as w hp rx s rv e;unfold lM at e;split at e
 ·rename_i z
  obtain⟨zs,e1,e⟩:=zaa e;obtain⟨j,e2,e⟩:=zab e;cases e;cases rv with
  |cons a b=>
   cases b;cases a;obtain rfl:=wL rx e1;obtain⟨g1,g2⟩:=zG e2;refine⟨(zs.eraseIdx j).map V.str,.non,?_,.non,λQ q=>⟨p,zs,z,j,rfl,rfl,hp,g1,g2,q⟩⟩
   have:=aQ.eraseIdx j rx
   rwa[<-ux]at this
 ·cases e
def uz:List D->Option (D×Bool)
 | [.list ds]=>some (.tuple ds,true)
 | [.tuple ds]=>some (.tuple ds,false)
 |_=>none
theorem zH{K:zag}:lZ (GF K) uz:=by
 intro B H vs ds res s h e;unfold uz at e;split at e
 ·cases e
  obtain⟨v,rfl,hh⟩:=gm h;obtain⟨p,xs,rfl,r1,rp1⟩:=hh.list s;exact⟨xs,rp1,λQ q=>⟨p,xs,rfl,.inl ⟨hX r1,q⟩⟩⟩
 ·cases e
  obtain⟨v,rfl,hh⟩:=gm h;rcases hh with hh|⟨p,rfl,hh⟩
  ·cases hh with
   | @tup p xs _ h1 h2=>exact⟨.ref p,.tup h1 h2,λQ q=>⟨p,xs,rfl,.inr ⟨.inl (.inl (s _ _ h1)),q⟩⟩⟩
  ·cases hh
 ·cases e
def uA:D->D->Option (D×Bool)
 | .str z,.int i=>cIf (z.length<=sizeLine) ((atI z.cps.toList i).map λc=>(.str ⟨#[c]⟩,false)) none
 |c,d=>gIx c d
theorem GH{K:zag}:OpJ (rIx K) uA:=by
 intro B H x y c d res s hx hy e;unfold uA at e;split at e
 ·obtain⟨hz,e⟩:=cU e
  obtain⟨w,h1,h2⟩:=zab e;cases h2;rcases hx with hx|⟨p,_,hx⟩
  ·cases hx
   rcases hy with hy|⟨p,_,hy⟩
   ·cases hy
    exact⟨.str ⟨#[w]⟩,.str _,λQ q=>.inr (.inr ⟨_,_,w,rfl,rfl,hz,h1,q⟩)⟩
   ·cases hy
  ·cases hx
 ·exact bV B H x y _ _ res s hx hy e
end Mir
namespace L2
open PySem PySem.Spec PyProof.Rows
def Ite(K:zag)(a:Addr):It :=
 ⟨λi H=>∃xs x,SqL K H a xs/\xs[i]?=some x,
  λi H v H'=>∃p x,v=.ref p/\H p=none/\H'=upd H p (.tup [.int i,x])/\∀xs,SqL K H a xs->xs[i]?=some x,
  λi H=>∃xs,SqL K H a xs/\xs.length<=i⟩
theorem AR{P:Program}{w:World}{K:zag}{elts:List Expr}{cx}{pos:Pos}{e it l:Addr}(hei:e≠it) :
  Turn P w K (.Tuple elts cx pos) (Ite K l) [e,it] e (λi h=>(∃old,IsEnum h e it ((i:Nat):Int) old)/\h.IsListIter it l i) where
 mem:=by simp
 obj:=λi h st b hb=>by
  obtain⟨⟨old,he⟩,⟨o1,g1,c1,d1⟩⟩:=st;simp only[List.mem_cons,List.not_mem_nil,or_false]at hb;rcases hb with rfl|rfl
  ·exact⟨_,he,λv e=>by cases e⟩
  ·exact⟨_,g1,λv e=>by rw[d1]at e;cases e⟩
 keep:=λi h h' st k=>by
  obtain⟨⟨old,he⟩,h1⟩:=st;exact⟨⟨old,k e (by simp) _ he⟩,h1.at λo x=>k it (by simp) o x⟩
 item:=by
  intro X hP hw hK hc i pins s σ H E I hf st hg;subst hP hw hK;obtain⟨⟨old,he⟩,h1⟩:=st;obtain⟨xs,x,q1,hx⟩:=hg;obtain⟨us,r1,p1,_⟩:=I.list q1;obtain⟨u,hu,ru⟩:=r1.get hx;have lt:∀b∈[e,it],b<s.heap.objs.size:=λb hb=>by
   obtain⟨o1,g1,_,_⟩:=id h1;simp only[List.mem_cons,List.not_mem_nil,or_false]at hb;rcases hb with rfl|rfl
   ·exact zaq he
   ·exact zaq g1
  refine wpAny_pyNext_enum_item he h1 p1.isList (x:=u) (by simpa using hu) hei λh' heo h1' hT hsz hk=>?_
  refine⟨_,rfl,wpAny_letOwnedTupleGo_enum (s:={s with heap:=h',toks:=s.toks+1}) heo λh3 he3 sb=>?_⟩
  have hfr:H s.heap.objs.size=none:=I.hok.fresh (zap _);have up:∀b o,b≠e->h'.get? b=some o->h3.get? b=some o:=λb o hb x=>(sb.2 b hb).trans x
  have IA:Inv X pins σ (upd H s.heap.objs.size (.tup [.int i,x])) {s with heap:=s.heap.push {cls:=.type "tuple",data:=.seq #[.int i s.toks,u]},toks:=s.toks+1} :=
   I.laid (λb o e=>zar _ e) (zap _) (cy.BS (its:=[.int i s.toks,u]) (by simp only[List.length_cons,List.length_nil,sizeLine];omega) (.cons ⟨_,rfl⟩ (.cons ru .nil)))
  have IB:Inv X pins σ (upd H s.heap.objs.size (.tup [.int i,x])) {s with heap:=h3,toks:=s.toks+1}:=by
   refine Inv.ug (s:={s with heap:=s.heap.push {cls:=.type "tuple",data:=.seq #[.int i s.toks,u]},toks:=s.toks+1}) (h':=h3) (t':=s.toks+1) (fp:=[e,it]) IA (λb o hb g=>?_) (λb hb=>?_)
   ·simp only[List.mem_cons,List.not_mem_nil,or_false,not_or]at hb
    obtain⟨b1,b2⟩:=hb;refine up b o b1 ?_
    by_cases eb:b=s.heap.objs.size
    ·subst eb
     have e':(s.heap.push {cls:=.type "tuple",data:=.seq #[.int i s.toks,u]}).get? s.heap.objs.size=some {cls:=.type "tuple",data:=.seq #[.int i s.toks,u]}:=zaL _ rfl;rw[e']at g;cases g;exact hT
    ·have e0:(s.heap.push {cls:=.type "tuple",data:=.seq #[.int i s.toks,u]}).get? b=s.heap.get? b:=Heap.get?_push_ne _ _ _ eb
     exact hk b o b1 b2 (e0▸g)
   ·obtain⟨f0,f1⟩:=hf b hb
    exact⟨by rw[aq (λe=>absurd (lt b hb) (by rw[e];exact za3 _))];exact f0,f1⟩
  have ec:((i+1:Nat):Int)=(i:Int)+1:=by push_cast;rfl
  refine⟨.ref s.heap.objs.size,_,IB,rfl,⟨_,x,rfl,hfr,rfl,λxs' h=>by rw[I.vH h q1];exact hx⟩,⟨⟨u,ec▸he3⟩,h1'.at λo x=>up it o (Ne.symm hei) x⟩,λb hb=>?_⟩
  rw[aq (λe=>absurd (lt b hb) (by rw[e];exact za3 _))]
  exact(hf b hb).1
 done:=by
  intro X hP hw hK hc i pins s σ H E I hf st hg;subst hP hw hK;obtain⟨⟨old,he⟩,h1⟩:=st;obtain⟨xs,q1,hl⟩:=hg;obtain⟨us,r1,p1,_⟩:=I.list q1;have l1:=r1.length;refine wpAny_pyNext_enum_end (I.ok.hd hc) he h1 p1.isList (by simp;omega) λh' hk=>⟨rfl,?_⟩
  refine Inv.ug (t':=s.toks) (fp:=[e,it]) I (λb o hb g=>?_) hf
  simp only[List.mem_cons,List.not_mem_nil,or_false,not_or]at hb;exact hk b o hb.2 g
 self:=λ_ _ _ _ _ st h=>by obtain⟨⟨old,he⟩,_⟩:=st;exact wpAny_pyIter_enum he h
def GI(K:zag)(ta:TA):TI:=fun σ H R=>ta σ H λvs H1=>∃a xs,vs=[.ref a]/\SqL K H1 a xs/\R (Ite K a) H1
section
variable{X:Cx}
theorem Fd{elts:List Expr}{cx}{tp:Pos}{a:Expr}{ta:TA}{p pos:Pos}(hg:Gl X "enumerate")(hm:X.mg "enumerate"=none)(ha:PA X [a] ta)(hs:starEach [a] X.env=[(false,eval a X.env)]:=by rfl) :
  PI X (.Tuple elts cx tp) (.Call (.Name "enumerate" p) [a] [] pos) (GI X.K ta):=by
 intro pins s σ H R I h;refine Call_ (nM I hg hm boot_enumerate (PyProof.Rows.callWith_type1 (thn (ha pos pins s σ H _ I h) λus s1 ⟨vs,H1,I1,r1,q1⟩=>?_) (by rw[hs];rfl) (by rfl)))
 obtain⟨l1,xs,e,g1,q⟩:=q1;subst e;cases r1 with
 |cons r rr=>
  cases rr;cases r;obtain⟨us,rv1,p1,_⟩:=I1.list g1;have k1:l1<s1.heap.objs.size:=by obtain⟨o,_,e,_⟩:=id p1;exact zaq e
  refine call_enumerate_list p1.isList λh' he h1 hsz hk=>?_
  refine wpAny_pyIter_enum he ?_;refine⟨s1.heap.objs.size+1,[s1.heap.objs.size+1,s1.heap.objs.size],_,_,H1,rfl,I1.kept (t':=s1.toks) hk,AR (Nat.succ_ne_self _),⟨⟨_,he⟩,h1⟩,λb hb=>?_,q⟩
  have hb':s1.heap.objs.size<=b:=by
   simp only[List.mem_cons,List.not_mem_nil,or_false]at hb;rcases hb with rfl|rfl
   ·exact Nat.le_add_right _ _
   ·exact zap _
  exact I1.pQ hb' (I1.hok.fresh hb')
end
def ItI(a:Addr)(o:Obj)(kvs:List (Key×V)):It where
 go:=λi H=>H a=some (.frz o (.dK kvs))/\i<kvs.length
 yld:=λi H x H'=>∃p k v,x=.ref p/\H p=none/\H'=upd H p (.tup [kV k,v])/\kvs[i]?=some (k,v)
 stop:=λi H=>H a=some (.frz o (.dK kvs))/\kvs.length<=i
theorem Fe{kvs:List (Key×V)}{vs:List (Key×Value)}(r:KV kvs vs)(i:Nat){k:Key}{x:Value}(h:vs[i]?=some (k,x)):∃v,kvs[i]?=some (k,v)/\RelV v x:=by
 induction r generalizing i with
 |nil=>simp at h
 |cons h1 t ih=>
  cases i with
  |zero=>
   rename_i p q l l'
   have e:q=(k,x):=by simpa using h
   subst e;exact⟨p.2,congrArg some (Prod.ext h1.1 rfl),h1.2⟩
  |succ i=>simpa using ih i (by simpa using h)
theorem qD:entryFor table "dict_itemiterator.__iter__"=some Builtin.«dict_keyiterator.__iter__»:=entryFor_alias (id':="dict_keyiterator.__iter__") (by kernel_rfl) rfl (by decide+kernel) (by kernel_rfl)
theorem yi{P:Program}{w:World}{K:zag}{elts:List Expr}{cx}{pos:Pos}{a it:Addr}{o:Obj}{kvs:List (Key×V)}{vs:List (Key×Value)}{ep:Nat}{h₁:Heap}(rel:KV kvs vs)(ho:h₁.get? a=some o)(hat:h₁.DictAt (bX P w) a vs ep) :
  Turn P w K (.Tuple elts cx pos) (ItI a o kvs) [it] it (λi h=>∃ok ov,IsItemIter h it a i vs.length ep ok ov) where
 mem:=by simp
 obj:=λi h st b hb=>by
  have e:b=it:=by simpa using hb
  subst e;obtain⟨ok,ov,st⟩:=st;exact⟨_,st,λv e=>by cases e⟩
 keep:=λi h h' st k=>by
  obtain⟨ok,ov,st⟩:=st;exact⟨ok,ov,k it (by simp) _ st⟩
 item:=by
  intro X hP hw hK hc i pins s σ H E I hf st hg;subst hP hw hK;obtain⟨ok,ov,st⟩:=st;obtain⟨hH,hi⟩:=hg;obtain⟨hg,_⟩:=I.hok a _ hH;have hd:s.heap.DictAt (bX X.prog X.w) a vs ep:=hat.at' λo' e=>by rw[ho]at e;cases e;exact hg
  have hl:=rel.length;obtain⟨⟨k,x⟩,hx⟩:∃p,vs[i]?=some p:=⟨vs[i]'(by omega),by simp⟩
  obtain⟨v,hv,rv⟩:=Fe rel i hx;have lt:it<s.heap.objs.size:=zaq st;refine wpAny_pyNext_items_item st hd hx λkey h' hkey heo hT hsz hk=>?_
  refine⟨_,rfl,wpAny_letOwnedTupleGo_items (s:={s with heap:=h'}) heo λh3 he3 sb=>?_⟩
  have hfr:H s.heap.objs.size=none:=I.hok.fresh (zap _);have up:∀b o,b≠it->h'.get? b=some o->h3.get? b=some o:=λb o hb x=>(sb.2 b hb).trans x
  have IA:Inv X pins σ (upd H s.heap.objs.size (.tup [kV k,v])) {s with heap:=s.heap.push {cls:=.type "tuple",data:=.seq #[key,x]},toks:=s.toks} :=
   I.laid (λb o e=>zar _ e) (zap _) (cy.BS (its:=[key,x]) (by simp only[List.length_cons,List.length_nil,sizeLine];omega) (.cons (CT hkey) (.cons rv .nil)))
  have IB:Inv X pins σ (upd H s.heap.objs.size (.tup [kV k,v])) {s with heap:=h3,toks:=s.toks}:=by
   refine Inv.ug (s:={s with heap:=s.heap.push {cls:=.type "tuple",data:=.seq #[key,x]},toks:=s.toks}) (h':=h3) (t':=s.toks) (fp:=[it]) IA (λb o hb g=>?_) (λb hb=>?_)
   ·have b1:b≠it:=by simpa using hb
    refine up b o b1 ?_
    by_cases eb:b=s.heap.objs.size
    ·subst eb
     have e':(s.heap.push {cls:=.type "tuple",data:=.seq #[key,x]}).get? s.heap.objs.size=some {cls:=.type "tuple",data:=.seq #[key,x]}:=zaL _ rfl;rw[e']at g;cases g;exact hT
    ·have e0:(s.heap.push {cls:=.type "tuple",data:=.seq #[key,x]}).get? b=s.heap.get? b:=Heap.get?_push_ne _ _ _ eb
     exact hk b o b1 (e0▸g)
   ·have eb:b=it:=by simpa using hb
    subst eb;obtain⟨f0,f1⟩:=hf b hb;exact⟨by rw[aq (zaS lt)];exact f0,f1⟩
  refine⟨.ref s.heap.objs.size,_,IB,rfl,⟨_,k,v,rfl,hfr,rfl,hv⟩,⟨_,_,he3⟩,λb hb=>?_⟩
  have eb:b=it:=by simpa using hb
  subst eb;rw[aq (zaS lt)];exact(hf b hb).1
 done:=by
  intro X hP hw hK hc i pins s σ H E I hf st hg;subst hP hw hK;obtain⟨ok,ov,st⟩:=st;obtain⟨hH,hi⟩:=hg;obtain⟨hg,_⟩:=I.hok a _ hH;have hd:s.heap.DictAt (bX X.prog X.w) a vs ep:=hat.at' λo' e=>by rw[ho]at e;cases e;exact hg
  obtain⟨f0,f1,f2,f3,f4,f5⟩:=hf it (by simp)
  have hl:=rel.length;exact wpAny_pyNext_items_end (I.ok.hd hc) st hd (by simp;omega) λh' eb=>⟨rfl,I.turned (t':=s.toks) (λb o hb e=>eb b o hb e) f0 f1 f3 f4 f5⟩
 self:=λA i s Q E st q=>by
  obtain⟨ok,ov,st⟩:=st;refine wpAny_pyIter_slot (id:="dict_itemiterator.__iter__") ⟨_,st,rfl⟩ F.slot_dict_itemiterator_iter (wpAny_call_entry F.slot_dict_itemiterator_iter ⟨_,st,rfl⟩ qD ?_ (F.args_dict_itemiterator_iter_1 _));show wpAny _ _ (ret (.ref it)) _ _ s;exact zaZ ⟨_,rfl,"dict_itemiterator",_,⟨_,st,rfl⟩,F.slot_dict_itemiterator_next.lookup,q⟩
def JX(tl:TE):TI:=fun σ H R=>tl σ H λx H1=>∃a o kvs,x=.ref a/\H1 a=some (.frz o (.dK kvs))/\R (ItI a o kvs) H1
section
variable{X:Cx}
theorem C4{elts:List Expr}{cx}{tp:Pos}{l:Expr}{tl:TE}{apos cpos:Pos}(hl:PE X l tl)(hbase:attributeBase l "items" X.env (eval l X.env)=eval l X.env:=by rfl)(hline:(apos.endLine==cpos.line)=true:=by rfl) :
  PI X (.Tuple elts cx tp) (.Call (.Attribute l "items" apos) [] [] cpos) (JX tl):=by
 intro pins s σ H R I h;refine wpAny_Call_method0_late hbase hline (thn (hl pins s σ H _ I h) λv s1 ⟨x,H1,I1,r1,q1⟩=>?_)
 obtain⟨a,o,kvs,e,hH,q⟩:=q1;subst e;cases r1;obtain⟨ho,z,hd,vs,rel,dd⟩:=I1.hok a _ hH;obtain⟨ob,_,_,g1,g2,_⟩:=id dd;obtain⟨ep,hat⟩:=dd.dictAt;refine⟨"dict","dict.items",PySem.F.plainAttrs_dict,PySem.F.slot_dict_items,PySem.F.type_dict_items,dd.typeIs,λb eb=>by cases eb;exact⟨ob,g1,g2.2.1⟩,Calls.callWith_builtin rfl (PySem.evalArgs_none ?_)⟩
 refine call_meetsIn PySem.F.slot_dict_items dd.typeIs PySem.F.entry_dict_items (PySem.F.args_dict_items_1 _) (meets_dict_items (bX X.prog X.w) a hd) ⟨⟨vs,dd⟩,?_⟩;have JY:(s1.heap.push {cls:=.type "dict_items",data:=.fields #[.ref a]}).IsItemsView s1.heap.objs.size a:=⟨_,zaL _ rfl,rfl,rfl⟩;have I2:Inv X pins σ H1 {s1 with heap:=s1.heap.push {cls:=.type "dict_items",data:=.fields #[.ref a]}}:=I1.kept (t':=s1.toks) λb o e=>zar _ e
 refine wpAny_pyIter_items (s:={s1 with heap:=s1.heap.push {cls:=.type "dict_items",data:=.fields #[.ref a]}}) JY (hat.push _) ?_
 refine⟨_,[_],_,_,H1,rfl,I2.kept (t':=s1.toks) λb o e=>zar _ e,yi rel ho hat,⟨_,_,zaL _ rfl⟩,λb hb=>?_,q⟩
 have e:b=(s1.heap.push {cls:=.type "dict_items",data:=.fields #[.ref a]}).objs.size:=by simpa using hb
 subst e;exact I2.pQ (zap _) (I2.hok.fresh (zap _))
end
end L2
namespace Mir
open PySem L2
variable [Zc]
def kM(es:List (D×D)):List D:=es.map λp=>PyData.tuple [p.1,p.2]
theorem GJ{B:Hp}:∀{kvs:List (Key×V)} {es:List (D×D)} (_:bx B kvs es) (i:Nat) {k:Key} {v:V} {p:D×D},kvs[i]?=some (k,v)->es[i]?=some p->tP k p.1/\Rep B v p.2
 |_,_,.nil,i,k,v,p,h,_=>by simp at h
 |_,_,.cons hk hx r,0,k,v,p,h1,h2=>by
  simp only[List.getElem?_cons_zero,Option.some.injEq]at h1 h2;subst h2;cases h1;exact⟨hk,hx⟩
 |_,_,.cons hk hx r,i+1,k,v,p,h1,h2=>GJ r i (by simpa using h1) (by simpa using h2)
theorem tP.rep{B:Hp}{k:Key}{c:D}(h:tP k c):Rep B (kV k) c:=by
 cases k with
 |inl i=>obtain rfl:=(show c=.int i from h);exact .int i
 |inr x=>obtain rfl:=(show c=.str x from h);exact .str x
theorem C5{G B:Hp}{a:Addr}{o:Obj}{kvs:List (Key×V)}{es:List (D×D)}(h:G a=some (.frz o (.dK kvs)))(r:bx B kvs es):mI G B (ItI a o kvs) (kM es):=λH s=>by
 have h':=s _ _ h;have hl:=r.length;have hp:(kM es).length=es.length:=by unfold kM;rw[zal]
 refine⟨⟨h',by omega⟩,λi d hd=>?_⟩
 have hi:i<es.length:=by have:=(zac hd).1;omega
 refine⟨⟨h',by omega⟩,λx H' hy=>?_⟩
 obtain⟨p,k,v,rfl,hn,rfl,hk⟩:=hy;have e:(kM es)[i]?=(es[i]?).map λp=>PyData.tuple [p.1,p.2]:=by unfold kM;rw[zao]
 rw[e]at hd;obtain⟨q,h1,rfl⟩:=zab hd;obtain⟨g1,g2⟩:=GJ r i hk h1;exact .inr ⟨p,[kV k,v],[q.1,q.2],rfl,rfl,hn,rfl,.cons g1.rep (.cons g2 .nil)⟩
def zI(dv:PM)(g:D->Rho->Option Rho)(b:SM):SM:=fun ρ=>(dv ρ).bind λx=>(sD x.1).bind λes=>if mV ρ=true then(forL g b (kM es) x.2).bind λo=>if mV (Iq o)=true then some o else none else none
theorem Fg{tl:TE}{tg:TG}{tb:TS}{dv:PM}{g:D->Rho->Option Rho}{b:SM}(hc:Calm tl dv)(hg:MG tg g)(hb:MS tb b):MS (C1 (Bx (JX tl) tg tb)) (zI dv g b):=by
 intro F B H σ ρ o D R e q;obtain⟨x,e1,e⟩:=zaa e;obtain⟨es,e2,e⟩:=zaa e;split at e
 rotate_left
 ·cases e
 rename_i nr
 obtain⟨o',e3,e⟩:=zaa e;split at e
 rotate_left
 ·cases e
 rename_i nr2
 cases e;obtain⟨r,ρ1⟩:=x;obtain⟨rfl,v,rv,h1,h2⟩:=hc F B H σ ρ r ρ1 R e1;obtain rfl:=wI e2;cases rv with
 | @dct a kvs _ hd rk=>
  rcases hd with hd|⟨ob,hd⟩
  ·refine .inl ⟨a,kvs,R.sub a _ hd,λob=>?_⟩
   have R':=R.hide (o:=ob) hd nr;refine h2 a ob kvs hd _ ⟨a,ob,kvs,rfl,ax,?_⟩;exact CZ hg hb R'.down (C5 ax (bx.map' (qy hd) (qz hd) (qA hd) rk)) e3 (C0 R hd nr2 q)
  ·exact .inr (h1 _ ⟨a,ob,kvs,rfl,R.sub a _ hd,CZ hg hb R (C5 hd rk) e3 q⟩)
end Mir
set_option maxHeartbeats 1000000
namespace L2
open PySem PySem.Spec PyProof.Rows
def a0(a:Int)(x:Str)(c:Int)(y:Str):Bool:=if a=c then(if x=y then false else decide (x.cps.toList<y.cps.toList))else decide (a<c)
section
open PySem.SeqAt
open PySem.AutoSeq1 (wpAny_loadPart')
open PySem.MeetsSeq PySem.MeetsSeq2 PySem.MeetsSeq3
theorem wN(l b:Addr)(n n2:Nat)(dd dd2:Option Addr)(sl sl2:Array (Option Value))(a c:Int)(x y:Str)(t t2 u u2:Tok) :
  Meets (Builtin.«tuple.__lt__» ⟨[.ref l,.ref b],[]⟩)
   (λ_ R s=>s.heap.get? l=some {cls:=.type "tuple",dict:=dd,data:=.seq #[.int a t,.str x u] n,slots:=sl}/\s.heap.get? b=some {cls:=.type "tuple",dict:=dd2,data:=.seq #[.int c t2,.str y u2] n2,slots:=sl2}/\
    R (.ok (.ret (.bool (a0 a x c y)))) s) :=
 .of_wp λprog w A R s h=>by
  obtain⟨hp,g,d,tk,os⟩:=s;obtain⟨hl,hb,h⟩:=h;have f2:=AutoSeq1.sub_tuple_tuple
  wp_walk using wpAny_loadPart' hl,wpAny_loadPart' hb,wpAny_forIn_list _ (λrest b s'=>b.1=none/\s'=⟨hp,g,d,tk,os⟩/\
   ((rest=[(.int a t,.int c t2),(.str x u,.str y u2)])\/(rest=[(.str x u,.str y u2)]/\a=c)\/(rest=[]/\a=c/\x=y))) _
  case turn=>
   rintro⟨p,q⟩ rest b s' ⟨hb',rfl,hz⟩
   rcases hz with hz|⟨hz,e0⟩|⟨hz,_,_⟩
   ·cases hz
    refine zaI ((EqAt.int_int a t c t2) prog w _ _ ?_);cases hac:(a==c)with
    |true=>
     have e:a=c:=by simpa using hac
     wp_walk
     exact⟨rfl,rfl,.inr (.inl ⟨rfl,e⟩)⟩
    |false=>
     have e:a≠c:=by simpa using hac
     have hri:=HT.BC A.in1 ⟨hp,g,d,tk,os⟩ a t c t2 prog w;have hR:R (.ok (.ret (.bool (decide (a<c))))) ⟨hp,g,d,tk,os⟩:=by
      unfold a0 at h
      rwa[if_neg e]at h
     wp_walk using hri
     exact⟨_,rfl,by simpa using hR⟩
   ·cases hz
    refine zaI ((EqAt.str_str x u y u2) prog w _ _ ?_);cases hxy:(x==y)with
    |true=>
     have e:x=y:=by simpa using hxy
     wp_walk
     exact⟨rfl,rfl,.inr (.inr ⟨rfl,e0,e⟩)⟩
    |false=>
     have e:x≠y:=by simpa using hxy
     have hri:∀(E:Value->Shared->Prop) (Q:Value->Shared->Prop),Q (.bool (decide (x.cps.toList<y.cps.toList))) ⟨hp,g,d,tk,os⟩->wpAny (model prog w) A.in1 (richCompare .Lt (.str x u) (.str y u2)) Q E ⟨hp,g,d,tk,os⟩:=λE Q hq=>(PyProof.Rows.lt_str hq:wpAny (model prog w) A.in1 (compareOp .Lt (.str x u) (.str y u2)) Q E ⟨hp,g,d,tk,os⟩)
     have hR:R (.ok (.ret (.bool (decide (x.cps.toList<y.cps.toList))))) ⟨hp,g,d,tk,os⟩:=by
      unfold a0 at h
      rwa[if_pos e0,if_neg e]at h
     wp_walk using hri
     exact⟨_,rfl,by simpa using hR⟩
   ·cases hz
  case fin=>
   rintro⟨b1,b2⟩ s' ⟨hb',rfl,hz⟩
   simp only at hb';subst hb';rcases hz with hz|⟨hz,_⟩|⟨_,e1,e2⟩
   ·cases hz
   ·cases hz
   ·have hR:R (.ok (.ret (.bool false))) ⟨hp,g,d,tk,os⟩:=by
     unfold a0 at h
     rwa[if_pos e1,if_pos e2]at h
    wp_walk
    exact⟨_,rfl,by simpa[Builtin.Tuple.tupleCompareSizes]using hR⟩
  case h=>exact⟨rfl,rfl,.inl rfl⟩
end
section
variable{prog:Program}{w:World}{A:Around}{E:Value->Shared->Prop}{s:Shared}
theorem wO{l b:Addr}{a c:Int}{x y:Str}{t t2 u u2:Tok}{Q:Value->Shared->Prop}(hl:IsTup s.heap l #[.int a t,.str x u])(hb:IsTup s.heap b #[.int c t2,.str y u2])(hu:A.units<cLine)(h:Q (.bool (a0 a x c y)) s) :
  wpAny (model prog w) A (compareOp .Lt (.ref l) (.ref b)) Q E s:=by
 obtain⟨⟨cls,dd,data,sl⟩,ho,hc,n,hd⟩:=id hl;obtain⟨⟨cls2,dd2,data2,sl2⟩,ho2,hc2,n2,hd2⟩:=id hb;simp only at hc hd hc2 hd2;subst hc hd hc2 hd2;exact richCompare_meets_room (op:=.Lt) ⟨_,ho,rfl⟩ ⟨_,ho2,rfl⟩ PySem.F.slot_tuple_lt PySem.F.entry_tuple_lt (PySem.F.args_tuple_lt_2 _ _) (wN l b n n2 dd dd2 sl sl2 a c x y t t2 u u2)
  ⟨ho,ho2,show Value.bool (a0 a x c y)≠Value.notImplemented/\Q (.bool (a0 a x c y)) s from⟨(λx=>nomatch x),h⟩⟩ hu
end
section
variable{X:Cx}{K:zag}
def C6(K:zag):R2:=λx y H Q=>∃a b i z j v,x=.ref a/\y=.ref b/\SqT K H a [.int i,.str z]/\SqT K H b [.int j,.str v]/\Q (.bl (a0 i z j v)) H
theorem C7(h:X.K=K)(hu:X.A.units<cLine):OpR X (compareOp .Lt) (C6 K):=by
 subst h;intro pins s σ H x y v u Q I rx ry h;obtain⟨a,b,i,z,j,w,rfl,rfl,ha,hb,q⟩:=h;cases rx;cases ry;obtain⟨its,r1,p1,_⟩:=I.tuple ha;obtain⟨its2,r2,p2,_⟩:=I.tuple hb;cases r1 with
 |cons e1 r1=>
  cases r1 with
  |cons e2 r1=>
   cases r1;cases r2 with
   |cons f1 r2=>
    cases r2 with
    |cons f2 r2=>
     cases r2;obtain⟨t1,rfl⟩:=e1;obtain⟨t2,rfl⟩:=e2;obtain⟨t3,rfl⟩:=f1;obtain⟨t4,rfl⟩:=f2;exact wO p1 p2 hu ⟨.bl _,H,I,rfl,q⟩
end
end L2
namespace Mir
open PySem L2
variable [Zc]
def AS:D->D->Option (D×Bool)
 | .tuple [.int i,.str z],.tuple [.int j,.str w]=>some (.bool (a0 i z j w),false)
 |_,_=>none
theorem GK{K:zag}:OpJ (C6 K) AS:=by
 intro B H x y c d res s hx hy e;unfold AS at e;split at e
 ·cases e
  obtain⟨p,xs,rfl,h1,r1⟩:=hx.tuple s;obtain⟨q,ys,rfl,h2,r2⟩:=hy.tuple s;cases r1 with
  |cons a1 r1=>
   cases r1 with
   |cons a2 r1=>
    cases r1;cases r2 with
    |cons b1 r2=>
     cases r2 with
     |cons b2 r2=>
      cases r2;cases a1;cases a2;cases b1;cases b2
      exact⟨.bl _,.bl _,λQ q'=>⟨p,q,_,_,_,_,rfl,rfl,.inl (.inl h1),.inl (.inl h2),q'⟩⟩
 ·cases e
def mW:D->D->Option (D×Bool)
 |x,.tuple ds=>if iM x=true/\ds.all iM=true then some (.bool (!inD x ds),false)else none
 |x,y=>xZ x y
theorem wQ{K:zag}:OpJ (rIn K true) mW:=by
 intro B H x y c d res s hx hy e;unfold mW at e;split at e
 ·split at e
  ·rename_i hf
   cases e;obtain⟨p,xs,rfl,r1,rp1⟩:=hy.tuple s;have rx:=hx.rep s;have rp:=rp1.mono s;refine iL λQ q=>⟨_,_,rfl,.inr (.inl (.inl r1)),rx.flat hf.1,rp.uc hf.2,?_⟩
   rw[aQ.inV rx hf.1 rp hf.2];exact q
  ·cases e
 ·exact EC B H x y _ _ res s hx hy e
end Mir
set_option maxHeartbeats 1000000
namespace L2
open PySem PySem.Spec PyProof.Rows
section
open PySem.SeqAt
open PySem.AutoSeq1 (wpAny_loadPart')
open PySem.MeetsSeq PySem.MeetsSeq2 PySem.MeetsSeq3
end
end L2
namespace Mir
open PySem L2
variable [Zc]
end Mir
namespace L2
open PySem PySem.Spec PyProof.Rows
section
variable{X:Cx}
def zJ:V->List V->Hp->VK->Prop:=λx xs H Q=>∃a kvs,x=.ref a/\xs=[]/\H a=some (.dK kvs)/\Q .non (upd H a (.dK []))
theorem AU:MtR X "dict.clear" zJ:=by
 intro pins s σ H x xs v us Q I rx rv h;obtain⟨a,kvs,rfl,rfl,e,h1⟩:=h;cases rx;cases rv;obtain⟨z,hd,vs,rel,dd⟩:=zx I.hok e;refine call_meetsIn PySem.F.slot_dict_clear dd.typeIs PySem.F.entry_dict_clear (PySem.F.args_dict_clear_1 _) (meets_dict_clear (bX X.prog X.w) a) ⟨vs,dd,by rw[<-rel.length];exact z,λh' dd' hs=>?_⟩
 have he:∃q,h'.get? a=some q:=let⟨q,_,_,hq,_⟩:=dd';⟨q,hq⟩
 exact⟨.non,_,pC I (by rw[e];exact True.intro) hs he (ur (Nat.zero_le _) hd .nil dd'),rfl,h1⟩
end
end L2
namespace Mir
open PySem L2
section
variable [Zc] [Zl]{W:WX}
def Fh(f:List D->List D->Option (List D×D))(a:EN):EN:=bN a λx s=>match x with
 | .lc k=>if qp s.S k=true then CH f k [] s else none
 |_=>none
theorem Iu{K:zag}{te:TE}{a:EN}{r:V->List V->Hp->VK->Prop}{f:List D->List D->Option (List D×D)}(J:tW r f)(ha:NE W te a):NE W (BH K "list" r te) (Fh f a):=by
 intro G A B H σ s r0 Q R e q;refine dY (t:=te) ha R e q λx v A1 B1 H1 s1 g1 eB1 R1 V1 e1 q1=>?_
 split at e1
 ·rename_i k
  split at e1
  ·rename_i hl
   cases V1 with
   |lc hA=>exact⟨wA R1 hA hl,zw J G A1 B1 H1 σ s1 _ k [] [] r0 Q R1 hA .nil e1 q1⟩
  ·cases e1
 ·cases e1
def zK(a:EN):EN:=bN a λx s=>match x with
 | .lc k=>match s.S[k]? with
  |some (some (.dat (.dict _)))=>some (.ok (.pl .none) ⟨s.S.set k (some (.dat (.dict []))),s.t⟩)
  |_=>none
 |_=>none
theorem Fi{K:zag}{te:TE}{a:EN}(ha:NE W te a):NE W (BH K "dict" zJ te) (zK a):=by
 intro G A B H σ s r0 Q R e q;refine dY (t:=te) ha R e q λx v A1 B1 H1 s1 g1 eB1 R1 V1 e1 q1=>?_
 split at e1
 ·rename_i k
  split at e1
  ·rename_i es hk
   cases e1;cases V1 with
   |lc hA=>
    cases R1.st.cell k _ _ hk hA with
    |dat ow=>
     obtain⟨kvs,hp,rk⟩:=ow.dict;refine⟨.inr (.inr (.inl ⟨rfl,.inl ⟨kvs,hp⟩⟩)),_,kvs,rfl,rfl,hp,?_⟩;exact q1 .non A1 B1 _ (Gro.refl _) (aE.refl _) (R1.write (o:=.dK []) (c:=.dat (.dict [])) hA trivial (.dat (.dct ax .nil))) (.pl .non)
  ·cases e1
 ·cases e1
theorem uB{α β:Type}{Rl:RL β α}{t:St->Hp->(β->Hp->Prop)->Prop}{m:MN α}{k : α->SN}{G:FrN}{A:List Addr}{B H:Hp}{σ:St}{s:SS}{o:iV}{D:Ends}{C : β->Hp->Prop}(h:NM W Rl t m)(R:bf G A B H σ s)(e:bS m k s=some o)(q:NOk G W D o)
  (c:∀x v A' B' H' s',Gro A A'->aE B B'->bf G A' B' H' σ s'->Rl A' B' x v->k v s'=some o->C x H'):t σ H C:=by
 unfold bS at e;split at e
 ·rename_i v s' h1
  exact h G A B H σ s _ C R h1 λx A' B' H' g eB R' V=>c x v A' B' H' s' g eB R' V e
 ·rename_i y s' h1
  cases e;exact h G A B H σ s _ C R h1 λA' B' H' R'=>q A' B' H' σ R'
 ·cases e
def Fj(x y k:SV)(s:SS):Option iV:=match x,y,k with
 | .lc j,.pl yd,.pl kd=>(keyOf kd).bind λkey=>match s.S[j]? with
  |some (some (.dat (.dict es)))=>cIf (es.length<100000) (some (.nx ⟨s.S.set j (some (.dat (.dict (putD es kd yd key)))),s.t⟩)) none
  |_=>none
 |_,_,_=>none
def l8(d k v:EN):SN:=bS v λy=>bS d λx=>bS k λz=>Fj x y z
theorem mX{td ty tv:TE}{d k v:EN}(hd:NE W td d)(hk:NE W ty k)(hv:NE W tv v):NS W (CK td ty tv) (l8 d k v):=by
 intro G A B H σ s o D R e q;refine uB (t:=tv) hv R e q λy yv A1 B1 H1 s1 g1 eB1 R1 V1 e1=>?_
 refine uB (t:=td) hd R1 e1 q λx xv A2 B2 H2 s2 g2 eB2 R2 V2 e2=>?_
 refine uB (t:=ty) hk R2 e2 q λz zv A3 B3 H3 s3 g3 eB3 R3 V3 e3=>?_
 unfold Fj at e3;split at e3
 ·rename_i j yd kd
  obtain⟨key,e4,e5⟩:=zaa e3;split at e5
  ·rename_i es hj
   obtain⟨hz,e6⟩:=cU e5;cases e6;have V2':=V2.mono g3 eB3;cases V1 with
   |pl ry=>
    cases V3 with
    |pl rz=>
     cases V2' with
     |lc hA=>
      cases R3.st.cell j _ _ hj hA with
      |dat ow=>
       obtain⟨kvs,hp,rk⟩:=ow.dict;obtain rfl:z=kV key:=View.key (H:=H3) (.inl rz) e4;have R4:=R3.write (o:=.dK (putK kvs key y)) (c:=.dat (.dict (putD es kd yd key))) hA trivial (.dat (.dct ax (bx.put (zA e4) (ry.mono (eB2.trans eB3)) rk)));exact⟨_,_,rfl,.inl ⟨kvs,key,hp,rfl,by rw[rk.length,sizeLine_eq];omega,rfl⟩,q A3 B3 _ σ R4⟩
  ·cases e5
 ·cases e3
def yj(f:List D->Option (D×D))(m:MN (List SV)):EN:=bN m λxs s=>(rB s.S xs).bind λds=>(f ds).bind λc=>if(eW c.1 true&&eW c.2 true)=true then some (.ok (.tp [.lc s.S.length,.lc (s.S.length+1)]) ⟨s.S++[some (.dat c.1)]++[some (.dat c.2)],s.t⟩)else none
theorem bf.opened{G:FrN}{A:List Addr}{B H B' H':Hp}{σ:St}{s:SS}(R:bf G A B H σ s)(eH:aE H H')(nz:∀q o u,H' q=some (.frz o u)->H q≠none):bf G A (tbu B H') H' σ s:=by
 have ui:aE B H':=R.sub.trans eH;refine R.grow mP eH (λq u h=>?_) (λq h z=>?_) (λq xs h=>mQ ui h) λq u w h=>?_
 ·rcases nY h with h|⟨_,xs,rfl,h'⟩
  ·exact ui q u h
  ·exact h'
 ·cases h2:tbu B H' q with
  |none=>rfl
  |some u=>
   rcases nY h2 with h3|⟨_,xs,rfl,h3⟩
   ·rw[z]at h3;cases h3
   ·cases h4:H q with
    |none=>exact absurd h4 h
    |some u4=>
     have:=eH q u4 h4;rw[h3]at this;cases this;rw[R.cO q xs h4]at z;cases z
 ·have hq:=nz q u w h
  cases h2:H q with
  |none=>exact absurd h2 hq
  |some o2=>
   have:=eH q o2 h2;rw[h]at this;cases this;exact R.nz q u w h2
theorem wR{B H:Hp}{p:Addr}(h:B p=none)(n:∀xs,H p≠some (.tup xs)):tbu B H p=none:=by
 cases h2:tbu B H p with
 |none=>rfl
 |some o'=>
  rcases nY h2 with h3|⟨_,xs,rfl,h3⟩
  ·rw[h]at h3;cases h3
  ·exact absurd h3 (n xs)
theorem C8{f:List D->Option (D×D)}{E:XK}{t:TA}{m:MN (List SV)}(h:NA W t m):NE W (kq (spD f) [] E t) (yj f m):=by
 intro G A B H σ s r0 Q R e q;refine dY (t:=t) h R e q λvs xs A1 B1 H1 s1 g1 eB1 R1 V1 e1 q1=>?_
 rw[zaR];obtain⟨ds,h1,e1⟩:=zaa e1;obtain⟨c,h2,e1⟩:=zaa e1;split at e1
 case isFalse=>cases e1
 rename_i hp
 rw[Bool.and_eq_true]at hp;cases e1;refine⟨H1,ds,c,aE.refl _,λ_ _ z=>z,qm R1.st R1.sub V1 h1,h2,λv B' H' P=>?_⟩
 obtain⟨a,p,r,rfl,ha,hpr,hp0,hr0,hBp,hBr,op,or⟩:=P.val;have R2:=R1.opened (B':=B') P.eH P.nz;have ui:aE B1 H':=R1.sub.trans P.eH;have kt:∀q xs,B' q=some (.tup xs)->tbu B1 H' q=some (.tup xs):=λq xs h=>mQ ui (P.sub _ _ h)
 have op':=op.dH kt hp.1;have or':=or.dH kt hp.2;obtain⟨o1,ho1,mo1⟩:=op'.mx;obtain⟨o2,ho2,mo2⟩:=or'.mx;obtain⟨gp1,gp2,gp3⟩:=R1.ql hp0;obtain⟨gr1,gr2,gr3⟩:=R1.ql hr0;have R3:=R2.take (c:=.dat c.1) gp1 gp2 (wR gp3 (op.kB)) ho1 mo1 (.dat op');have R4:=R3.take (c:=.dat c.2) gr1 (λz=>by
  rcases zae z with z|z
  ·exact gr2 z
  ·exact hpr (zad z).symm) (wR gr3 (or.kB)) ho2 mo2 (.dat or')
 refine q1 _ _ _ H' ((Gro.app _ _).trans (Gro.app _ _)) mP R4 (.tp (mQ ui ha) (.cons (.lc ?_) (.cons (.lc ?_) .nil)))
 ·rw[<-R1.st.len]
  exact Gro.app _ _ _ _ List.getElem?_concat_length
 ·rw[<-R1.st.len]
  have:(A1++[p]).length=A1.length+1:=by simp
  rw[<-this];exact List.getElem?_concat_length
def uC(f:List D->Option ((D×Bool)×D×D))(m:MN (List SV)):EN:=bN m λxs s=>match xs with
 | .lc i::.lc j::ys=>if i=j then none else(iO ys).bind λds=>match s.S[i]?,s.S[j]? with
  |some (some (.dat d0)),some (some (.dat e0))=>(f (d0::e0::ds)).bind λw=>JG w.1 ⟨(s.S.set i (some (.dat w.2.1))).set j (some (.dat w.2.2)),s.t⟩
  |_,_=>none
 |_=>none
theorem bf.JZ{G:FrN}{A:List Addr}{B H B' H':Hp}{σ:St}{s:SS}{i j:Nat}{p p2:Addr}{v:V}{d:D}{o:Bool}{d0 e0 d1 d2:D}(R:bf G A B H σ s)(hij:i≠j)(hi:A[i]?=some p)(hj:A[j]?=some p2)(ow:Own B H p d0)(ow2:Own B H p2 e0)(P:Gv B H p p2 v B' H' d o d1 d2):bf G A B' H' σ ⟨(s.S.set i (some (.dat d1))).set j (some (.dat d2)),s.t⟩:=by
 have ip:=zaj hi;have jp:=zaj hj;have li:i<s.S.length:=by rw[<-R.st.len];exact(zac hi).1
 have lj:j<s.S.length:=by rw[<-R.st.len];exact(zac hj).1
 obtain⟨o1,ho1,mo1⟩:=ow.mx;obtain⟨o2,ho2,mo2⟩:=ow2.mx;have mx':∀{q:Addr} {u:HO},H q=some u->¬MxF u->H' q=some u:=fun{q u} h n=>P.eH q u (λz=>by subst z;rw[ho1]at h;cases h;exact n (.inl mo1)) (λz=>by subst z;rw[ho2]at h;cases h;exact n (.inl mo2)) h
 refine⟨P.sub,R.sB.trans P.eB,P.tB,λq u h n=>?_,λq h z=>P.nb q (λhq=>h (R.ql hq).1) (R.nB q h z),R.pre,R.fresh,⟨?_,R.st.nd,λa ha=>?_,λa ha=>?_,λk c a h1 h2=>?_⟩,R.len,λk x h=>?_,λq u w h=>?_⟩
 ·have nA:q∉A:=λhq=>by
   rcases R.fresh q hq with h1|h1
   ·exact n h1
   ·rw[h1]at h;cases h
  exact P.eH q u (λz=>nA (z▸ip)) (λz=>nA (z▸jp)) (R.kept q u h n)
 ·show A.length=((s.S.set i (some (.dat d1))).set j (some (.dat d2))).length
  rw[zaM,zaM];exact R.st.len
 ·obtain⟨u,h,_⟩:=R.st.mx a ha
  exact P.nb a (by rw[h];simp) (R.st.dis a ha)
 ·by_cases z:a=p
  ·subst z;obtain⟨u,h,m⟩:=P.own.mx;exact⟨u,h,.inl m⟩
  ·by_cases z2:a=p2
   ·subst z2;obtain⟨u,h,m⟩:=P.ye.mx;exact⟨u,h,.inl m⟩
   ·obtain⟨u,h,m⟩:=R.st.mx a ha
    exact⟨u,P.eH a u z z2 h,m⟩
 ·have h1':((s.S.set i (some (.dat d1))).set j (some (.dat d2)))[k]?=some (some c):=h1
  by_cases zj:k=j
  ·subst zj
   rw[zav (by rw[zaM];exact lj)]at h1'
   cases h1';rw[hj]at h2;cases h2
   exact .dat P.ye
  ·rw[zaA (λe=>zj e.symm)]at h1'
   by_cases zi:k=i
   ·subst zi
    rw[zav li]at h1';cases h1';rw[hi]at h2;cases h2
    exact .dat P.own
   ·rw[zaA (λe=>zi e.symm)]at h1'
    have na:a≠p:=λe=>by
     subst e;exact zi ((List.getElem?_inj (zac h2).1 R.st.nd).mp (h2.trans hi.symm))
    have nb:a≠p2:=λe=>by
     subst e;exact zj ((List.getElem?_inj (zac h2).1 R.st.nd).mp (h2.trans hj.symm))
    exact(R.st.cell k c a h1' h2).mono (Gro.refl _) P.eB (λu h=>P.eH a u na nb h) λq u h n=>mx' h n
 ·obtain⟨w,h1,h2⟩:=R.slot k x h
  exact⟨w,h1,h2.mono (Gro.refl _) P.eB⟩
 ·have hq:=P.nz q u w h
  cases h2:H q with
  |none=>exact absurd h2 hq
  |some o3=>
   by_cases z:q=p
   ·subst z;obtain⟨u',h',m'⟩:=P.own.mx;rw[h]at h';cases h';cases m'
   ·by_cases z2:q=p2
    ·subst z2;obtain⟨u',h',m'⟩:=P.ye.mx;rw[h]at h';cases h';cases m'
    ·have:=P.eH q o3 z z2 h2
     rw[h]at this;cases this;exact R.nz q u w h2
theorem C9{f:List D->Option ((D×Bool)×D×D)}{E:XK}{t:TA}{m:MN (List SV)}(h:NA W t m):NE W (kq (spJ f) [] E t) (uC f m):=by
 intro G A B H σ s r0 Q R e q;refine dY (t:=t) h R e q λvs xs A1 B1 H1 s1 g1 eB1 R1 V1 e1 q1=>?_
 rw[zaR];split at e1
 case h_2=>cases e1
 rename_i i j ys
 split at e1
 ·cases e1
 rename_i hij
 obtain⟨ds,h1,e1⟩:=zaa e1;split at e1
 case h_2=>cases e1
 rename_i d0 e0 hi hj
 obtain⟨⟨⟨d,o⟩,d1,d2⟩,h2,e1⟩:=zaa e1;cases V1 with
 |cons va V1=>
  cases V1 with
  |cons vb V1=>
   cases va with
   |lc hA=>
    cases vb with
    |lc hB=>
     cases R1.st.cell i _ _ hi hA with
     |dat ow=>
      cases R1.st.cell j _ _ hj hB with
      |dat ow2=>
       have hne:∀{p p2:Addr},A1[i]?=some p->A1[j]?=some p2->p≠p2:=fun{p p2} x y z=>by
        subst z;exact hij ((List.getElem?_inj (zac x).1 R1.st.nd).mp (x.trans y.symm))
       refine⟨B1,_,_,_,d0,e0,ds,(d,o),d1,d2,rfl,hne hA hB,R1.sub,R1.cO,R1.st.dis _ (zaj hA),R1.st.dis _ (zaj hB),ow,ow2,jo V1 h1,h2,λv B' H' P=>?_⟩
       have R2:=R1.JZ hij hA hB ow ow2 P;have pv:=P.val;cases o with
       |false=>
        cases e1;exact q1 v A1 B' H' (Gro.refl _) P.eB R2 (.pl pv)
       |true=>
        obtain⟨p,rfl,hn,hB',ow3⟩:=pv;have key:∀r1,r1=newD d ⟨(s1.S.set i (some (.dat d1))).set j (some (.dat d2)),s1.t⟩->ROk G A1 B1 σ W dM Q r1->Q (.ref p) H':=λr1 er q2=>by
         subst er;obtain⟨g1,g2,g3⟩:=R1.ql hn;obtain⟨ob,ho,mo⟩:=ow3.mx;have R3:=R2.take (c:=.dat d) g1 g2 hB' ho mo (.dat ow3);exact q2 _ _ B' H' (Gro.app _ _) P.eB R3 (.lc (by rw[<-R2.st.len];exact List.getElem?_concat_length))
        cases ow3 with
        |lst _ _=>cases e1;exact key _ rfl q1
        |dct _ _=>cases e1;exact key _ rfl q1
end
end Mir
namespace L2
open PySem PySem.Spec PyProof.Rows
section
variable{X:Cx}
def GL:V->List V->Hp->VK->Prop:=λx xs H Q=>∃a kvs k v,x=.ref a/\xs=[kV k]/\H a=some (.dK kvs)/\iP kvs k=some v/\Q v (upd H a (.dK (oO kvs k)))
theorem uD:MtR X "dict.pop" GL:=by
 intro pins s σ H x xs v us Q I rx rv h;obtain⟨a,kvs,k,y,rfl,rfl,e,l,q⟩:=h;cases rx;cases rv with
 |cons r1 rv=>
  cases rv;exact JN I e r1 l (.inl rfl) λw' s' I' rw'=>⟨y,_,I',rw',q⟩
end
end L2
namespace Mir
open PySem L2
section
variable [Zc] [Zl]{W:WX}
def oT(es:List (D×D))(k:Key):List (D×D):=es.filter λp=>decide (keyOf p.1≠some k)
theorem bx.drop{B:Hp}{k:Key}:∀{kvs:List (Key×V)} {es:List (D×D)},bx B kvs es->bx B (oO kvs k) (oT es k)
 |_,_,.nil=>.nil
 |_,_,.cons (k:=k') (c:=c') hk hv r=>by
  have ih:=bx.drop (k:=k) r;unfold oO oT at ih⊢;rw[List.filter_cons,List.filter_cons];have e:(decide (keyOf c'≠some k))=decide (k'≠k):=by
   rw[hk.of];simp
  dsimp only;rw[e];split
  ·exact .cons hk hv ih
  ·exact ih
def zL(k:Nat)(xs:List SV)(s:SS):Option (RR SV):=match xs with
 | [.pl kd]=>(keyOf kd).bind λkey=>match s.S[k]? with
  |some (some (.dat (.dict es)))=>(fA es key).map λd=>.ok (.pl d) ⟨s.S.set k (some (.dat (.dict (oT es key)))),s.t⟩
  |_=>none
 |_=>none
def zM(S:List (Option Cl))(k:Nat):Bool:=match S[k]? with
 |some (some (.dat (.dict _)))=>true
 |_=>false
def oU(a:EN)(m:MN (List SV)):EN:=bN a λx s=>match x with
 | .lc k=>if zM s.S k=true then bN m (λxs s2=>zL k xs s2) s else none
 |_=>none
theorem uE{K:zag}{te:TE}{a:EN}{t:TA}{m:MN (List SV)}(ha:NE W te a)(h:NA W t m):NE W (tBM K "dict" GL te t) (oU a m):=by
 intro G A B H σ s r0 Q R e q;refine dY (t:=te) ha R e q λx v A1 B1 H1 s1 g1 eB1 R1 V1 e1 q1=>?_
 split at e1
 ·rename_i k
  split at e1
  ·rename_i hl
   cases V1 with
   |lc hA=>
    refine⟨?_,?_⟩
    ·unfold zM at hl
     split at hl
     ·rename_i es hk
      cases R1.st.cell k _ _ hk hA with
      |dat ow=>obtain⟨kvs,hp,_⟩:=ow.dict;exact .inr (.inr (.inl ⟨rfl,.inl ⟨kvs,hp⟩⟩))
     ·cases hl
    ·refine dY (t:=t) h R1 e1 q1 λvs xs A2 B2 H2 s2 g2 eB2 R2 V2 e2 q2=>?_
     unfold zL at e2;split at e2
     ·rename_i kd
      obtain⟨key,e3,e4⟩:=zaa e2;split at e4
      ·rename_i es hk
       obtain⟨d,e5,e6⟩:=zab e4;cases e6;cases V2 with
       |cons va V2=>
        cases V2;cases va with
        |pl rz=>
         cases R2.st.cell k _ _ hk (g2 _ _ hA)with
         |dat ow=>
          obtain⟨kvs,hp,rk⟩:=ow.dict;obtain⟨u,hu,ru⟩:=(jt (k:=key) rk).1 d e5;have ez:=View.key (H:=H2) (.inl rz) e3;subst ez;have R3:=R2.write (o:=.dK (oO kvs key)) (c:=.dat (.dict (oT es key))) (g2 _ _ hA) trivial (.dat (.dct ax (bx.drop rk)));exact⟨_,kvs,key,u,rfl,rfl,hp,hu,q2 u A2 B2 _ (Gro.refl _) (aE.refl _) R3 (.pl ru)⟩
      ·cases e4
     ·cases e2
  ·cases e1
 ·cases e1
end
variable [Zc]
theorem yk{f:List D->Option ((D×Bool)×D)}{E:XK}{F:Fr}{B2 H1:Hp}{σ:St}{ρ2:Rho}{i:Nat}{s:Sl}{p:Addr}{vs:List V}{as:List D}{d d1:D}{Q:VK}(R2:Rel F B2 H1 σ ρ2)(hs : ρ2[i]?=some s)(ho:s.d3=true)(hv : σ[i]?=some (some (.ref p)))(rp:aQ B2 vs as)(e3:f (slD s::as)=some ((d,false),d1))
  (q:∀v B' H',Ext σ ρ2 B2 H1 (ρ2.set i (s.put d1)) B' H'->Rel F B' H' σ (ρ2.set i (s.put d1))->Rep B' v d->Q v H'):spI f (.ref p::vs) H1 Q E:=by
 obtain⟨p',hv',hB,ow⟩:=R2.ownAt hs ho;rw[hv]at hv';cases hv';obtain⟨oo,hoo⟩:=ow.there;refine⟨B2,p,vs,slD s,as,(d,false),d1,rfl,R2.sub,R2.cO,hB,ow,rp,e3,λv B' H' P=>?_⟩
 obtain⟨o1,ho1⟩:=P.own.there;have hB':B' p=none:=P.nb p (by rw[hoo];simp) hB
 have eH:aE H1 (upd H' p oo):=λc u hc=>by
  by_cases z:c=p
  ·subst z;rw[hoo]at hc;cases hc;exact ax
  ·rw[aq z];exact P.eH c u z hc
 have sub:aE B' (upd H' p oo):=λc u hc=>by
  rw[aq (λz=>by rw[z,hB']at hc;cases hc)];exact P.sub c u hc
 have tB:∀c xs,upd H' p oo c=some (.tup xs)->B' c=some (.tup xs):=λc xs hc=>by
  by_cases z:c=p
  ·subst z;rw[ax]at hc;cases hc;exact absurd hoo (ow.kB xs)
  ·rw[aq z]at hc;exact P.tB c xs hc
 have nz:∀c a u,upd H' p oo c=some (.frz a u)->H1 c≠none:=λc a u hc=>by
  by_cases z:c=p
  ·subst z;rw[hoo];simp
  ·rw[aq z]at hc;exact P.nz c a u hc
 have R3:=R2.grow P.eB eH sub P.nb tB nz;have E3:Ext σ ρ2 B2 H1 ρ2 B' (upd H' p oo):=Ext.grow P.eB eH P.nb;have back:upd (upd H' p oo) p o1=H':=by
  funext c
  by_cases z:c=p
  ·subst z;rw[ax,ho1]
  ·rw[aq z,aq z]
 obtain⟨R4,E4⟩:=R3.write (o:=o1) (d:=d1) hs ho hv ⟨(λxs z=>by rw[z]at ho1;exact P.own.kB xs ho1),λa u z=>by rw[z]at ho1;exact P.own.uf a u ho1⟩ (by rw[back];exact P.own)
 rw[back]at R4 E4;exact q v B' H' (E3.trans E4) R4 P.val
def Dc:List RV->Option (List D)
 | []=>some []
 |(d,.fz)::r=>(Dc r).map (d::·)
 |_=>none
theorem GN{F:Fr}{B H:Hp}{σ:St}{ρ:Rho}:∀{vs:List V} {rs:List RV} {ds:List D},Vl F B H σ ρ vs rs->Dc rs=some ds->aQ B vs ds
 | [],[],_,_,h=>by cases h;exact .nil
 |v::vs,(d,k)::rs,ds,V,h=>by
  obtain⟨⟨h1,_⟩,h2⟩:=V;cases k with
  |fz=>
   obtain⟨ds',e1,rfl⟩:=zab (show(Dc rs).map (d::·)=some ds from h)
   exact .cons h1 (GN h2 e1)
  |_=>cases h
 | [],_::_,_,V,_=>V.elim
 |_::_,[],_,V,_=>V.elim
def goI(f:List D->Option ((D×Bool)×D))(m:Rho->Option (List RV×Rho))(fr:List (Str×Nat))(ρ:Rho)(i:Nat)(s:Sl):List D->D->Option (List D×D)
 | [],d0=>some ([],d0)
 |d::ds,d0=>(m (.fz d::fr.map λp=>bI (ρ.set i (s.put d0)) p.2)).bind λx=>(Dc x.1).bind λas=>(f (d0::as)).bind λw=>if w.1.2=false then(goI f m fr ρ i s ds w.2).map λz=>(w.1.1::z.1,z.2)else none
def Iw(fr:List (Str×Nat))(i j:Nat)(it:Rho->Option (List D×Rho))(f:List D->Option ((D×Bool)×D))(m:Rho->Option (List RV×Rho)):PM:=fun ρ=>(it ρ).bind λx=>(ownAt x.2 i).bind λs=>(goI f m fr x.2 i s x.1 (slD s)).bind λw=>cIf (w.1.length<sizeLine) (some ((.list w.1,.new),x.2.set i (s.put w.2))) none
theorem Fl(s:Sl)(d e:D):(s.put d).put e=s.put e:=by cases s<;>rfl
theorem Fn{s:Sl}(h:s.d3=true)(d:D):(s.put d).d3=true/\slD (s.put d)=d:=by cases s<;>first|exact⟨rfl,rfl⟩|cases h
theorem De{s:Sl}(h:s.d3=true):s.put (slD s)=s:=by cases s<;>first|rfl|cases h
theorem Iy{fr:List (Str×Nat)}{i j:Nat}{wi:TI}{it:Rho->Option (List D×Rho)}{f:List D->Option ((D×Bool)×D)}{E:XK}{t:TA}{m:Rho->Option (List RV×Rho)}(hj:(fr.map (·.2))[j]?=some i)(hi:MF wi it)(h:MA t m) :
  ME (tLC fr wi Ej (kq (spI f) [] E (hI (my (j+1)) t))) (Iw fr i j it f m):=by
 intro F B H σ ρ r0 ρ' Q R e0 q;obtain⟨x,e1,e0⟩:=zaa e0;obtain⟨s,e2,e0⟩:=zaa e0;obtain⟨w,e3,e0⟩:=zaa e0;obtain⟨hz,e0⟩:=cU e0;cases e0;refine hi F B H σ ρ x.1 x.2 _ R e1 λJ B1 H1 E1 R1 I1=>?_
 obtain⟨ds,ρ1⟩:=x;obtain⟨hs,ho⟩:=iN e2;obtain⟨p,hv,_,_⟩:=R1.ownAt hs ho;have hil:i<ρ1.length:=(zac hs).1;have hin:∀v:V,(some v::aZ σ fr)[j+1]?=some (some (.ref p)):=λv=>by
  have:(fr[j]?).map (·.2)=some i:=by rw[<-zao];exact hj
  obtain⟨q,h1,h2⟩:=zab this;have hl:i<σ.length:=(zac hv).1;rw[zat];unfold aZ;rw[zao,h1,zaT,h2];have : σ.getD i none=some (.ref p):=by
   rw[List.getD_eq_getElem?_getD,hv];rfl
  rw[this]
 have self0 : ρ1.set i (s.put (slD s))=ρ1:=by
  rw[De ho];obtain⟨hlt,he⟩:=zac hs;rw[<-he];exact List.set_getElem_self hlt
 refine⟨λn m' ys H2=>m'=ds.length-n/\n<=ds.length/\∃B2 dc done rest,aE B1 B2/\Ext σ ρ1 B1 H1 (ρ1.set i (s.put dc)) B2 H2/\Rel F B2 H2 σ (ρ1.set i (s.put dc))/\aQ B2 ys done/\goI f m fr ρ1 i s (ds.drop n) dc=some (rest,w.2)/\done++rest=w.1,
  ⟨ds.length,rfl,Nat.zero_le _,B1,slD s,[],w.1,aE.refl _,by rw[self0];exact Ext.refl _ _ _ _,by rw[self0];exact R1,.nil,e3,rfl⟩,?_⟩
 rintro n m' ys H2 ⟨rfl,hnl,B2,dc,done,rest,eB,EE,R2,rp,hgo,hdr⟩
 have hlen:ys.length<=w.1.length:=by rw[<-hdr,zau,rp.length];omega
 refine⟨by omega,?_⟩
 have sH:aE B1 H2:=eB.trans R2.sub
 by_cases hlt:n<ds.length
 ·refine .inr ?_
  obtain⟨go,yl⟩:=(I1 H2 sH).2 n ds[n] (zaC hlt);refine⟨go,λv H3 hy=>?_⟩
  rw[zbb hlt]at hgo;obtain⟨y,c1,c2⟩:=zaa (show(m (.fz ds[n]::fr.map λp=>bI (ρ1.set i (s.put dc)) p.2)).bind _=some (rest,w.2)from hgo)
  obtain⟨as,c3,c2⟩:=zaa c2;obtain⟨g,c4,c2⟩:=zaa c2;split at c2
  rotate_left
  ·cases c2
  rename_i hg0
  obtain⟨z,c5,c6⟩:=zab c2;have had:∃B3,aE B2 B3/\Ext σ (ρ1.set i (s.put dc)) B2 H2 (ρ1.set i (s.put dc)) B3 H3/\Rel F B3 H3 σ (ρ1.set i (s.put dc))/\Rep B3 v ds[n]:=by
   rcases yl v H3 hy with⟨rfl,h2⟩|⟨p,xs,cs,h1,rfl,h3,rfl,h5⟩
   ·exact⟨B2,aE.refl _,Ext.refl _ _ _ _,R2,h2.mono eB⟩
   ·obtain⟨R3,E3,e3⟩:=R2.rq (xs:=xs) h3
    exact⟨_,e3,E3,R3,by rw[h1];exact .tup ax (h5.mono (eB.trans e3))⟩
  obtain⟨B3,eB3,E3,R3,rv⟩:=had;unfold Ej;dsimp only;rw[if_pos rfl];have Ri:=R3.inner fr rv;refine⟨_,hin v,?_⟩;refine h (F0 H3) B3 H3 _ _ y.1 y.2 _ Ri c1 λus B4 H4 E4 R4 V4=>?_
  obtain⟨eH4,nb4⟩:=gk fg E4;have R4o:Rel F B4 H4 σ (ρ1.set i (s.put dc)):=R3.grow E4.sB eH4 R4.sub nb4 R4.cO R4.nz;have E4o:Ext σ (ρ1.set i (s.put dc)) B3 H3 (ρ1.set i (s.put dc)) B4 H4:=Ext.grow E4.sB eH4 nb4;have hs':(ρ1.set i (s.put dc))[i]?=some (s.put dc):=zav hil;obtain⟨po,ps⟩:=Fn ho dc;obtain⟨⟨gd,gb⟩,g1⟩:=g;have KW:gb=false:=hg0;subst KW;show spI f (V.ref p::us++[]) H4 _ E;rw[zaR];refine yk R4o hs' po hv (GN V4 c3) (by rw[ps];exact c4) λu B5 H5 E5 R5 ru=>?_
  rw[Fl,List.set_set]at E5 R5;have EA:=((EE.trans E3).trans E4o).trans E5;have sB5:aE B1 B5:=EA.sB;have e6:gd::z.1=rest:=(Prod.mk.inj c6).1;have e7:z.2=w.2:=(Prod.mk.inj c6).2;refine⟨ds.length-(n+1),by omega,rfl,hlt,B5,g1,done++[gd],z.1,sB5,EA,R5,?_,by rw[c5,<-e7],by rw[<-hdr,<-e6,zaD];rfl⟩
  exact(rp.mono (eB3.trans (E4.sB.trans E5.sB))).append (.cons ru .nil)
 ·have hn':n=ds.length:=by omega
  subst hn';refine .inl ⟨(I1 H2 sH).1,λD hD=>?_⟩
  rw[List.drop_length]at hgo;have KY:rest=[]/\dc=w.2:=by
   have:=(zaQ (show some (([]:List PyData),dc)=some (rest,w.2)from hgo));exact⟨(congrArg Prod.fst this).symm,congrArg Prod.snd this⟩
  obtain⟨rfl,rfl⟩:=KY;rw[zaR]at hdr;rw[hdr]at rp;have:=ic (res:=(.list w.1,true)) (k:=λQ=>∀p,H2 p=none->Q (.ref p) (upd H2 p (.lst ys))) (Q:=Q) R2 ⟨ys,rp,λQ h=>h⟩ λv B' H' E' R' V' N=>q v B' H' ((E1.trans EE).trans E') R' V' λp z1 z2=>(E1.trans EE).live p (N p z1 z2)
  exact this D hD
end Mir
namespace L2
open PySem PySem.W PySem.Calls PySem.Spec PyProof.Rows
open PySem.AutoSeq1 (wpAny_loadPart')
theorem tuple_addW0(l b:Addr)(items items2:Array Value)(n n2:Nat)(dd dd2:Option Addr)(sl sl2:Array (Option Value))(hc0:items.isEmpty=true) :
  Meets (Builtin.«tuple.__add__» ⟨[.ref l,.ref b],[]⟩) (λ_ R s=>s.heap.get? l=some {cls:=.type "tuple",dict:=dd,data:=.seq items n,slots:=sl}/\s.heap.get? b=some {cls:=.type "tuple",dict:=dd2,data:=.seq items2 n2,slots:=sl2}/\R (.ok (.ret (Value.ref b))) s) :=
 .of_wp λprog w A R s h=>by
  obtain⟨hp,g,d,tk,os⟩:=s;obtain⟨hl,hb,h⟩:=h
  have f2:=PySem.AutoSeq1.sub_tuple_tuple
  wp_walk using wpAny_loadPart' hl,wpAny_loadPart' hb
  exact⟨_,rfl,h⟩
section
variable{prog:Program}{w:World}{A:Around}{E:Value->Shared->Prop}{s:Shared}
theorem Df{t b:Addr}{ws:List Value}{Q:Value->Shared->Prop}(ht:IsTup s.heap t ([]:List Value).toArray)(hb:IsTup s.heap b ws.toArray)(h1:Q (.ref b) s):wpAny (model prog w) A (binaryOp .Add (.ref t) (.ref b)) Q E s:=by
 obtain⟨⟨cls,dd,data,sl⟩,ho,hc,n,hd⟩:=id ht;obtain⟨⟨cls2,dd2,data2,sl2⟩,ho2,hc2,n2,hd2⟩:=id hb;simp only at hc hd hc2 hd2;subst hc hd hc2 hd2;exact concat_meets ⟨_,ho,rfl⟩ ⟨_,ho2,rfl⟩ noFill_tuple_add seq_tuple_add PySem.F.slot_tuple_add PySem.F.entry_tuple_add (PySem.F.args_tuple_add_2 _ _)
   (tuple_addW0 t b _ ws.toArray n n2 dd dd2 sl sl2 rfl) ⟨ho,ho2,h1⟩
end
def GO(K:zag):R2:=λx y H Q=>∃a b ys,x=.ref a/\y=.ref b/\SqT K H a []/\SqT K H b ys/\Q (.ref b) H
section
variable{X:Cx}
theorem Fo:OpR X (binaryOp .Add) (GO X.K):=by
 intro pins s σ H x y v u Q I rx ry h;obtain⟨a,b,ys,rfl,rfl,ha,hb,q⟩:=h;cases rx;cases ry;obtain⟨its,r1,p1,_⟩:=I.tuple ha;obtain⟨its2,r2,p2,_⟩:=I.tuple hb;cases r1;exact Df p1 p2 ⟨.ref b,H,I,rfl,q⟩
def Dg(K:zag):R2:=λx y H Q=>Mir.tY K x y H Q\/GO K x y H Q
theorem wU{K:zag}(h:X.K=K):OpR X (binaryOp .Add) (Dg K):=h▸Mir.y0.or Fo
end
end L2
namespace Mir
open PySem L2
variable [Zc]
def oV:D->D->Option (D×Bool)
 | .tuple [],.tuple b=>some (.tuple b,false)
 |x,y=>gK x y
theorem Dh{K:zag}:OpJ (Dg K) oV:=by
 intro B H x y c d res s hx hy e;unfold oV at e;split at e
 ·rename_i b
  cases e;obtain⟨p,xs,rfl,r1,rp1⟩:=hx.tuple s;cases rp1;have hy':Rep B y (.tuple b):=by
   rcases hy with h|⟨p,rfl,h⟩
   ·exact h
   ·cases h
  refine⟨y,hy',λQ q=>.inr ?_⟩
  cases hy' with
  |tup h r=>
   exact⟨_,_,_,rfl,rfl,.inl (.inl r1),.inl (.inl (s _ _ h)),q⟩
 ·have:=jl (K:=K) B H x y c d res s hx hy e
  obtain⟨r0,o⟩:=res;cases o with
  |false=>obtain⟨v,h1,h2⟩:=this;exact⟨v,h1,λQ q=>.inl (h2 Q q)⟩
  |true=>
   cases r0 with
   |list ds=>obtain⟨v,h1,h2⟩:=this;exact⟨v,h1,λQ q=>.inl (h2 Q q)⟩
   |tuple ds=>obtain⟨v,h1,h2⟩:=this;exact⟨v,h1,λQ q=>.inl (h2 Q q)⟩
   |dict ds=>obtain⟨v,h1,h2⟩:=this;exact⟨v,h1,λQ q=>.inl (h2 Q q)⟩
   |_=>exact this
theorem sE(a b:List D)(h:a.length+b.length<=100000)(hb:b≠[]):∃o,oV (.tuple a) (.tuple b)=some (.tuple (a++b),o):=by
 cases a with
 |nil=>exact⟨false,rfl⟩
 |cons c a=>exact⟨true,by show cIf _ _ _=_;rw[bZ ⟨sr h,hb⟩]⟩
end Mir
namespace Mir
open PySem L2
section
variable [Zc]
def Ag(N:List Nat)(σ σ':St):Prop:=σ'.length=σ.length/\∀n,n∉N->σ'[n]?=σ[n]?
theorem Ag.refl(N:List Nat)(σ:St):Ag N σ σ:=⟨rfl,λ_ _=>rfl⟩
theorem Ag.trans{N:List Nat}{σ σ1 σ2:St}(a:Ag N σ σ1)(b:Ag N σ1 σ2):Ag N σ σ2:=⟨b.1.trans a.1,λn h=>(b.2 n h).trans (a.2 n h)⟩
theorem Ag.set{N:List Nat}{σ:St}{i:Nat}(h:i∈N)(v:Option V):Ag N σ (σ.set i v):=⟨zaM,λn hn=>zaA (λe:i=n=>hn (by rw[<-e];exact h))⟩
def om(N:List Nat)(σ0:St)(F:Fr)(D:Ends):Out->Prop
 | .nx ρ=>∀B H σ,Rel F B H σ ρ->Ag N σ0 σ->D.nx σ H
 | .rt r ρ=>∀v B H σ,Rel F B H σ ρ->Val F B H σ ρ v r->D.rt v H
 | .bk ρ=>∀B H σ,Rel F B H σ ρ->Ag N σ0 σ->D.bk σ H
 | .ct ρ=>∀B H σ,Rel F B H σ ρ->Ag N σ0 σ->D.ct σ H
theorem om.step{N:List Nat}{σ σ1:St}{F:Fr}{D:Ends}{o:Out}(h:om N σ F D o)(a:Ag N σ σ1):om N σ1 F D o:=by
 cases o with
 |nx ρ=>exact λB H σ' R b=>h B H σ' R (a.trans b)
 |bk ρ=>exact λB H σ' R b=>h B H σ' R (a.trans b)
 |ct ρ=>exact λB H σ' R b=>h B H σ' R (a.trans b)
 |rt r ρ=>exact h
theorem om.down{N:List Nat}{σ:St}{F:Fr}{B1 H1:Hp}{σ1:St}{ρ1:Rho}(R1:Rel F B1 H1 σ1 ρ1){D:Ends}{o:Out}(h:om N σ F D o):om N σ ⟨B1,F.H,F.io,F.Z⟩ D o:=by
 cases o with
 |nx ρ=>exact λB H σ R a=>h B H σ (R1.up R) a
 |bk ρ=>exact λB H σ R a=>h B H σ (R1.up R) a
 |ct ρ=>exact λB H σ R a=>h B H σ (R1.up R) a
 |rt r ρ=>exact λv B H σ R V=>h v B H σ (R1.up R) V
variable{N:List Nat}
theorem Rel.AV{F:Fr}{B H:Hp}{σ:St}{ρ:Rho}{p:Addr}{xs:List V}(R:Rel F B H σ ρ)(hB:B p=none)(hF:F.H p=none)(hH:H p=some (.lst xs))(hn:∀(n:Nat) (s:Sl),ρ[n]?=some s->s.isRef=true->σ[n]?≠some (some (.ref p)))(ys:List V):Rel F B (upd H p (.lst ys)) σ ρ:=by
 refine⟨λq o h=>?_,R.sB,λq o h hx=>?_,R.nB,R.len,λn s hs=>?_,R.dist,R.jE,R.fx,R.ioN,λq zs h=>?_,R.exv,λq o u h=>?_⟩
 ·rw[aq (λz=>by rw[z,hB]at h;cases h)];exact R.sub q o h
 ·rw[aq (λz=>by rw[z,hF]at h;cases h)];exact R.sH q o h hx
 ·have ok:=R.slot n s hs
  have ne:s.isRef=true->∀q,σ[n]?=some (some (.ref q))->∀o,H q=some o->upd H p (.lst ys) q=some o:=λhr q hq o ho=>by
   rw[aq (λz=>hn n s hs hr (by rw[hq,z]))];exact ho
  cases s with
  |no=>trivial
  |ex=>trivial
  |fz d=>exact ok
  |own d=>obtain⟨q,h1,h2,h3⟩:=ok;exact⟨q,h1,h2,h3.mono (aE.refl _) (ne rfl q h1)⟩
  |io d=>obtain⟨q,h1,h2,h3⟩:=ok;exact⟨q,h1,h2,h3.mono (aE.refl _) (ne rfl q h1)⟩
  |ro d=>obtain⟨q,h1,h3⟩:=ok;exact⟨q,h1,h3.mono (aE.refl _) (ne rfl q h1)⟩
 ·by_cases z:q=p
  ·subst z;rw[ax]at h;cases h
  ·rw[aq z]at h;exact R.cO q zs h
 ·by_cases z:q=p
  ·subst z;rw[ax]at h;cases h
  ·rw[aq z]at h;exact R.nz q o u h
structure Iz(F:Fr)(B H:Hp)(σ:St)(ρ:Rho)(i:Nat)(ps:List Addr)(b:Nat):Prop where
 here:∃a,σ[i]?=some (some (.ref a))/\H a=some (.tup (ps.map .ref))
 lst:∀p∈ps,∃xs,H p=some (.lst xs)/\xs.length<=b
 out:∀p∈ps,B p=none/\F.H p=none
 free:∀p∈ps,∀(n:Nat) (s:Sl),ρ[n]?=some s->s.isRef=true->σ[n]?≠some (some (.ref p))
theorem Iz.AV{F:Fr}{B H:Hp}{σ:St}{ρ:Rho}{i:Nat}{ps:List Addr}{p:Addr}{b:Nat}(d:Iz F B H σ ρ i ps b)(hp:p∈ps)(ys:List V)(b2:Nat)(hb:b<=b2)(hy:ys.length<=b2):Iz F B (upd H p (.lst ys)) σ ρ i ps b2:=by
 obtain⟨xs,hx,_⟩:=d.lst p hp;refine⟨?_,λq hq=>?_,d.out,d.free⟩
 ·obtain⟨a,h1,h2⟩:=d.here
  exact⟨a,h1,by rw[aq (λz=>by rw[z,hx]at h2;cases h2)];exact h2⟩
 ·by_cases z:q=p
  ·subst z;exact⟨ys,ax,hy⟩
  ·rw[aq z];obtain⟨zs,h1,h2⟩:=d.lst q hq;exact⟨zs,h1,zaX h2 hb⟩
structure Sv(N:List Nat)(i:Nat)(F:Fr)(Bs:Hp)(σs:St)(ρs:Rho)(ps:List Addr)(b:Nat)(B:Hp)(σ:St):Prop where
 slot:∀(n:Nat) (d:D),n≠i->ρs[n]?=some (.fz d)->∃v,σs[n]?=some (some v)/\Rep Bs v d
 sBs:aE F.B Bs
 nBs:∀q,F.H q≠none->F.B q=none->Bs q=none
 sB:aE Bs B
 ag:Ag N σs σ
 ni:i∉N
 here:∃a,σs[i]?=some (some (.ref a))/\B a=some (.tup (ps.map .ref))
 out:∀p∈ps,Bs p=none/\F.H p=none
 lst:∀p∈ps,∃xs,B p=some (.lst xs)/\xs.length<=b
 len : ρs.length=σs.length
 io:F.io=[]
theorem Sv.go{N:List Nat}{i:Nat}{F:Fr}{Bs B B':Hp}{σs σ σ':St}{ρs:Rho}{ps:List Addr}{b:Nat}(s:Sv N i F Bs σs ρs ps b B σ)(e:aE B B')(a:Ag N σ σ'):Sv N i F Bs σs ρs ps b B' σ':=by
 refine⟨s.slot,s.sBs,s.nBs,s.sB.trans e,s.ag.trans a,s.ni,?_,s.out,λp hp=>?_,s.len,s.io⟩
 ·obtain⟨c,h1,h2⟩:=s.here;exact⟨c,h1,e _ _ h2⟩
 ·obtain⟨xs,h1,h2⟩:=s.lst p hp;exact⟨xs,e _ _ h1,h2⟩
end
def ym:D->Bool
 | .list _=>false
 | .tuple _=>false
 |_=>true
mutual
inductive Nw(G B:Hp):V->D->Prop
 |lst {p:Addr} {xs:List V} {ds:List D}:G p=none->B p=some (.lst xs)->xs.length=ds.length->Nw G B (.ref p) (.list ds)
 |tup {a:Addr} {xs:List V} {ds:List D}:B a=some (.tup xs)->Nws G B xs ds->Nw G B (.ref a) (.tuple ds)
 |oth {v:V} {d:D}:ym d=true->Nw G B v d
inductive Nws(G B:Hp):List V->List D->Prop
 |nil:Nws G B [] []
 |cons {v:V} {vs:List V} {d:D} {ds:List D}:Nw G B v d->Nws G B vs ds->Nws G B (v::vs) (d::ds)
end
mutual
theorem Nw.mono{G B B':Hp}(e:aE B B'):∀{v:V} {d:D},Nw G B v d->Nw G B' v d
 |_,_,.lst a b c=>.lst a (e _ _ b) c
 |_,_,.tup a b=>.tup (e _ _ a) (Nws.mono e b)
 |_,_,.oth a=>.oth a
theorem Nws.mono{G B B':Hp}(e:aE B B'):∀{v:List V} {d:List D},Nws G B v d->Nws G B' v d
 |_,_,.nil=>.nil
 |_,_,.cons a b=>.cons (Nw.mono e a) (Nws.mono e b)
end
mutual
theorem Nw.pure{G B:Hp}:∀{v:V} {d:D},Rep B v d->eg d=true->Nw G B v d
 |_,_,.non,_=>.oth rfl
 |_,_,.bl b,_=>.oth rfl
 |_,_,.int i,_=>.oth rfl
 |_,_,.str x,_=>.oth rfl
 |_,_,.lst _ _,h=>by simp[eg]at h
 |_,_,.dct _ _,h=>by simp[eg]at h
 |_,_,.tup h r,e=>.tup h (Nws.pure r (by simpa[eg]using e))
theorem Nws.pure{G B:Hp}:∀{v:List V} {d:List D},aQ B v d->bq d=true->Nws G B v d
 |_,_,.nil,_=>.nil
 |_,_,.cons a b,e=>by
  simp only[bq,Bool.and_eq_true]at e;exact .cons (Nw.pure a e.1) (Nws.pure b e.2)
end
theorem Nw.own{G B0 B H:Hp}{p:Addr}{d:D}(hG:G p=none)(o:Own B0 H p d)(r:Rep B (.ref p) d)(s:aE B H):Nw G B (.ref p) d:=by
 cases o with
 |dct h _=>exact .oth rfl
 |lst h _=>
  cases r with
  |lst hr rr=>
   rcases hr with e|⟨u,e⟩
   ·exact .lst hG e rr.length
   ·have:=s _ _ e
    rw[h]at this;cases this
section
variable [Zc]
def MEW(t:TE)(m:PM):Prop:=∀(F:Fr) (B H:Hp) (σ:St) (ρ:Rho) (r:RV) (ρ':Rho) (Q:VK),Rel F B H σ ρ->m ρ=some (r,ρ')->
  (∀v B' H',Ext σ ρ B H ρ' B' H'->Rel F B' H' σ ρ'->Val F B' H' σ ρ' v r->(∀p,r.2=.new->v=.ref p->H p=none)->(r.2=.fz->Nw F.H B' v r.1)->Q v H')->t σ H Q
theorem MEW.sv{t:TE}{m:PM}(h:MEW t m):MEW t (sv m):=by
 intro F B H σ ρ r ρ' Q R e q;unfold Mir.sv at e;split at e
 ·rename_i d ρ1 e1
  cases e;refine h F B H σ ρ _ _ Q R e1 λv B' H' E R' V' N W=>?_
  obtain⟨B2,R2,rp,s2,k2⟩:=R'.sg V';obtain⟨p,rfl,hB,hF,o,nn⟩:=V';refine q _ B2 H' ⟨E.sB.trans s2,λq o h1 h2=>?_,E.own,E.ref,E.live⟩ R2 rp (λ_ z=>by cases z) (λ_=>Nw.own hF o rp R2.sub)
  obtain⟨h3,h4⟩:=E.keep q o h1 h2;refine⟨h3,λz=>?_⟩
  by_cases y:q=p
  ·subst y
   exact absurd (N q rfl rfl) (by rw[h1];simp)
  ·rw[k2 q (λz=>y (by cases z;rfl))];exact h4 z
 ·rename_i hx
  exact h F B H σ ρ r ρ' Q R e q
def NwL(G B:Hp):List V->List RV->Prop
 | [],[]=>True
 |v::vs,r::rs=>(r.2=.fz->Nw G B v r.1)/\NwL G B vs rs
 |_,_=>False
theorem NwL.mono{G B B':Hp}(e:aE B B'):∀{vs:List V} {rs:List RV},NwL G B vs rs->NwL G B' vs rs
 | [],[],_=>trivial
 |_::_,_::_,⟨a,b⟩=>⟨λz=>(a z).mono e,NwL.mono e b⟩
 | [],_::_,h=>h.elim
 |_::_,[],h=>h.elim
def nr(m:SM):SM:=fun ρ=>(m ρ).bind λo=>match o with
 | .rt _ _=>none
 |o=>some o
end
mutual
inductive NwB(G Bs B:Hp)(b:Nat):V->D->Prop
 |lst {p:Addr} {xs:List V} {ds:List D}:G p=none->Bs p=none->B p=some (.lst xs)->xs.length<=b->NwB G Bs B b (.ref p) (.list ds)
 |tup {a:Addr} {xs:List V} {ds:List D}:B a=some (.tup xs)->mY G Bs B b xs ds->NwB G Bs B b (.ref a) (.tuple ds)
 |oth {v:V} {d:D}:ym d=true->NwB G Bs B b v d
inductive mY(G Bs B:Hp)(b:Nat):List V->List D->Prop
 |nil:mY G Bs B b [] []
 |cons {v:V} {vs:List V} {d:D} {ds:List D}:NwB G Bs B b v d->mY G Bs B b vs ds->mY G Bs B b (v::vs) (d::ds)
end
mutual
theorem NwB.mono{G Bs B B':Hp}{b:Nat}(e:aE B B'):∀{v:V} {d:D},NwB G Bs B b v d->NwB G Bs B' b v d
 |_,_,.lst a b c d=>.lst a b (e _ _ c) d
 |_,_,.tup a b=>.tup (e _ _ a) (mY.mono e b)
 |_,_,.oth a=>.oth a
theorem mY.mono{G Bs B B':Hp}{b:Nat}(e:aE B B'):∀{v:List V} {d:List D},mY G Bs B b v d->mY G Bs B' b v d
 |_,_,.nil=>.nil
 |_,_,.cons a b=>.cons (NwB.mono e a) (mY.mono e b)
end
mutual
def uF:D->Bool
 | .list ds=>decide (ds.length<=90000)
 | .tuple ds=>pF ds
 | .none=>true
 | .bool _=>true
 | .int _=>true
 | .str _=>true
 | .dict _=>true
def pF:List D->Bool
 | []=>true
 |d::ds=>uF d&&pF ds
end
mutual
theorem NwB.of{G G' Bs B:Hp}(k:∀p,G p=none->G' p=none/\Bs p=none):∀{v:V} {d:D},Nw G B v d->uF d=true->NwB G' Bs B 90000 v d
 |_,_,.lst a b c,h=>.lst (k _ a).1 (k _ a).2 b (by rw[c];simpa[uF]using h)
 |_,_,.tup a b,h=>.tup a (mY.of k b (by simpa[uF]using h))
 |_,_,.oth a,_=>.oth a
theorem mY.of{G G' Bs B:Hp}(k:∀p,G p=none->G' p=none/\Bs p=none):∀{v:List V} {d:List D},Nws G B v d->pF d=true->mY G' Bs B 90000 v d
 |_,_,.nil,_=>.nil
 |_,_,.cons a b,h=>by
  simp only[pF,Bool.and_eq_true]at h;exact .cons (NwB.of k a h.1) (mY.of k b h.2)
end
mutual
inductive Dd(G B H:Hp)(b:Nat):V->D->Prop
 |lst {p:Addr} {xs:List V} {ds:List D}:G p=none->B p=none->H p=some (.lst xs)->xs.length<=b->Dd G B H b (.ref p) (.list ds)
 |tup {a:Addr} {xs:List V} {ds:List D}:H a=some (.tup xs)->Dds G B H b xs ds->Dd G B H b (.ref a) (.tuple ds)
 |oth {v:V} {d:D}:ym d=true->Dd G B H b v d
inductive Dds(G B H:Hp)(b:Nat):List V->List D->Prop
 |nil:Dds G B H b [] []
 |cons {v:V} {vs:List V} {d:D} {ds:List D}:Dd G B H b v d->Dds G B H b vs ds->Dds G B H b (v::vs) (d::ds)
end
mutual
theorem Dd.of{G Bs B B5 H:Hp}{b:Nat}(s:aE B H)(k:∀p xs,B p=some (.lst xs)->Bs p=none->B5 p=none):∀{v:V} {d:D},NwB G Bs B b v d->Dd G B5 H b v d
 |_,_,.lst a b c d=>.lst a (k _ _ c b) (s _ _ c) d
 |_,_,.tup a b=>.tup (s _ _ a) (Dds.of s k b)
 |_,_,.oth a=>.oth a
theorem Dds.of{G Bs B B5 H:Hp}{b:Nat}(s:aE B H)(k:∀p xs,B p=some (.lst xs)->Bs p=none->B5 p=none):∀{v:List V} {d:List D},mY G Bs B b v d->Dds G B5 H b v d
 |_,_,.nil=>.nil
 |_,_,.cons a b=>.cons (Dd.of s k a) (Dds.of s k b)
end
mutual
theorem Dd.AV{G B H:Hp}{b b2:Nat}{p:Addr}{ys:List V}(hp:∃xs,H p=some (.lst xs))(hb:b<=b2)(hy:ys.length<=b2):∀{v:V} {d:D},Dd G B H b v d->Dd G B (upd H p (.lst ys)) b2 v d
 |_,_,.lst (p:=q) h1 h2 h3 h4=>by
  by_cases z:q=p
  ·subst z;exact .lst h1 h2 ax hy
  ·exact .lst h1 h2 (by rw[aq z];exact h3) (zaX h4 hb)
 |_,_,.tup (a:=q) h1 h2=>by
  refine .tup ?_ (Dds.AV hp hb hy h2);rw[aq (λz=>by obtain⟨xs,hx⟩:=hp;rw[z,hx]at h1;cases h1)];exact h1
 |_,_,.oth a=>.oth a
theorem Dds.AV{G B H:Hp}{b b2:Nat}{p:Addr}{ys:List V}(hp:∃xs,H p=some (.lst xs))(hb:b<=b2)(hy:ys.length<=b2):∀{v:List V} {d:List D},Dds G B H b v d->Dds G B (upd H p (.lst ys)) b2 v d
 |_,_,.nil=>.nil
 |_,_,.cons a c=>.cons (Dd.AV hp hb hy a) (Dds.AV hp hb hy c)
end
theorem Dds.get{G B H:Hp}{b:Nat}:∀{vs:List V} {ds:List D} (j:Nat) {d:D},Dds G B H b vs ds->ds[j]?=some d->∃v,vs[j]?=some v/\Dd G B H b v d
 |_,_,_,_,.nil,e=>by simp at e
 |_,_,0,_,.cons a _,e=>by simp at e;subst e;exact⟨_,rfl,a⟩
 |_,_,j+1,_,.cons _ c,e=>by
  obtain⟨v,h1,h2⟩:=Dds.get j c (by simpa using e)
  exact⟨v,by simpa using h1,h2⟩
section
variable [Zc]
structure Sg(N:List Nat)(i:Nat)(F:Fr)(Bs:Hp)(σs:St)(ρs:Rho)(v:V)(d:D)(b:Nat)(B:Hp)(σ:St):Prop where
 slot:∀(n:Nat) (d:D),n≠i->ρs[n]?=some (.fz d)->∃v,σs[n]?=some (some v)/\Rep Bs v d
 sBs:aE F.B Bs
 nBs:∀q,F.H q≠none->F.B q=none->Bs q=none
 sB:aE Bs B
 ag:Ag N σs σ
 ni:i∉N
 here : σs[i]?=some (some v)
 nw:NwB F.H Bs B b v d
 len : ρs.length=σs.length
 io:F.io=[]
theorem Sg.go{N:List Nat}{i:Nat}{F:Fr}{Bs B B':Hp}{σs σ σ':St}{ρs:Rho}{v:V}{d:D}{b:Nat}(s:Sg N i F Bs σs ρs v d b B σ)(e:aE B B')(a:Ag N σ σ'):Sg N i F Bs σs ρs v d b B' σ' :=
 ⟨s.slot,s.sBs,s.nBs,s.sB.trans e,s.ag.trans a,s.ni,s.here,s.nw.mono e,s.len,s.io⟩
variable{N:List Nat}
end
end Mir
namespace L2
open PySem PySem.Spec PyProof.Rows
theorem Def.imp{P:Program}{w:World}{K:zag}{mg:Str->Option Value}{base:Heap}{CX:CXT}{k:Nat}{x:Str}{ps:List Str}{sp sp':Sp}(D:Def P w K mg base CX k x ps sp)(h:∀vs H Q E,sp' vs H Q E->sp vs H Q E):Def P w K mg base CX k x ps sp':=by
 obtain⟨f,fd,F,m,kp,b⟩:=D.ex;exact⟨⟨f,fd,lT.imp F h,m,kp,b⟩⟩
end L2
namespace Mir
open PySem L2
section
variable [Zc]
def oW(as:List D):List D:=as.mapIdx λi a=>PyData.tuple [.int i,a]
theorem AW{as:List D}{i:Nat}{d:D}(h:(oW as)[i]?=some d):∃a,d=.tuple [.int i,a]/\as[i]?=some a:=by
 unfold oW at h;rw[List.getElem?_mapIdx]at h;obtain⟨a,h1,h2⟩:=zab h;exact⟨a,h2.symm,h1⟩
theorem IC{K:zag}{G B:Hp}{p:Addr}{xs:List V}{as:List D}(h1:Rd G p (.lst xs))(r1:aQ B xs as):mI G B (Ite K p) (oW as):=λH s=>by
 have g1:SqL K H p xs:=hX (dy s h1);refine⟨⟨xs,g1,by rw[r1.length];simp[oW]⟩,λi d hd=>?_⟩
 obtain⟨a,rfl,ha⟩:=AW hd;obtain⟨x,x1,x2⟩:=r1.get i a ha;refine⟨⟨xs,x,g1,x1⟩,λv H' hy=>?_⟩
 obtain⟨p',x',rfl,hp,rfl,e1⟩:=hy;have e1':=e1 xs g1;rw[x1]at e1';cases e1';exact .inr ⟨p',[.int i,x],[.int i,a],rfl,rfl,hp,rfl,.cons (.int _) (.cons x2 .nil)⟩
def J0(m:Rho->Option (List RV×Rho)):Rho->Option (List D×Rho):=fun ρ=>((m ρ).bind HP).bind λx=>(kC x.1 x.2).bind λy=>(asL y.1).map λds=>(oW ds,y.2)
section
variable{K:zag}{ta:TA}{m:Rho->Option (List RV×Rho)}
theorem Fp(h:MA ta m):MF (GI K ta) (J0 m):=by
 intro F B H σ ρ ds ρ' Q R e q;obtain⟨x,e0,e⟩:=zaa e;obtain⟨x0,e1,e3⟩:=zaa e0;obtain⟨y,e4,e⟩:=zaa e;obtain⟨ds',e2,e⟩:=zab e;cases e;rw[Er e3]at e1;refine h F B H σ ρ _ _ _ R e1 λvs B1 H1 E1 R1 V1=>?_
 match vs,V1 with
 | [v],V1=>
  obtain⟨B2,R2,rp,E2⟩:=R1.frz V1.weak.1 e4;rw[xP e2]at rp;cases rp with
  |lst h r=>exact⟨_,_,rfl,hX (dy R2.sub h),q _ B2 H1 (E1.trans E2) R2 (IC h r)⟩
end
end
end Mir
namespace L2
open PySem
def GP(xs:List V)(H:Hp)(Q:VK):Prop:=HF xs H Q\/∃a o kvs n,xs=[.ref a,.ty n]/\(H a=some (.dK kvs)\/H a=some (.frz o (.dK kvs)))/\n∈dw/\Q (.bl (mG "dict" n)) H
theorem oq{X:Cx}:dZ X (.builtin "isinstance") GP:=by
 intro pins s σ H xs us Q I r h;rcases h with h|⟨a,o,kvs,n,rfl,hd,h2,q⟩
 ·exact fF pins s σ H xs us Q I r h
 ·obtain⟨u,v,rfl,ru,rv⟩:=vals2 r
  cases rv;have fin:∀{vs} {h:Heap},h=s.heap->h.DictOf (bX X.prog X.w) a vs->wpAny (model X.prog X.w) X.A (call (.builtin "isinstance") [u,.type n]) (EP X pins σ Q) X.xe s:=fun{vs h} eh p=>by
   subst eh;cases(show u=Value.ref a from ru);obtain⟨o,es,ep,h1,h3,_⟩:=p;exact za4 PySem.W.kitx_dict I.kIn ⟨o,h1,h3.1⟩ (se X.K "dict" (by decide) n h2) (λz=>nomatch z) λtk=>⟨.bl _,H,I.tok tk,rfl,q⟩
  rcases hd with hd|hd
  ·obtain⟨_,_,vs,_,p⟩:=(show cy X.prog X.w H s.heap a (.dK kvs)from I.hok a _ hd)
   exact fin rfl p
  ·obtain⟨_,_,_,vs,_,p⟩:=(show cy X.prog X.w H s.heap a (.frz o (.dK kvs))from I.hok a _ hd)
   exact fin rfl p
end L2
namespace Mir
open PySem L2
section
variable [Zc]
def wV(n:String):D->Option (D×Bool)
 | .dict _=>if n∈dw then some (.bool (mG "dict" n),false)else none
 |d=>kE n d
def mZ(n:String)(a:PM):PM:=mUn (wV n) a
theorem uG{n:String}{ta:TE}{a:PM}(ha:ME ta a):ME (tCB GP (hI ta (hI (tC (.ty n)) tw))) (mZ n a):=by
 intro F B H σ ρ r0 ρ' Q R e q;obtain⟨x,e1,e⟩:=zaa e;obtain⟨res,e4,e⟩:=zab e;cases e
 by_cases hd:∃es,x.1.1=.dict es
 ·obtain⟨es,hd⟩:=hd
  refine ha.sv F B H σ ρ x.1 x.2 _ R e1 λv B1 H1 E1 R1 V1 N1=>?_
  rw[hd]at e4;have e4':(if n∈dw then some ((PyData.bool (mG "dict" n),false):D×Bool)else none)=some res:=e4
  by_cases hn:n∈dw
  ·rw[if_pos hn]at e4'
   cases e4';have rp:=(V1.view R1).rep R1.sub;rw[hd]at rp;cases rp with
   |dct h _=>
    rcases h with h|⟨o,h⟩
    ·exact .inr ⟨_,⟨.none,none,.plain,#[]⟩,_,n,rfl,.inl h,hn,q _ B1 H1 E1 R1 (.bl _) λp z=>by cases z⟩
    ·exact .inr ⟨_,o,_,n,rfl,.inr h,hn,q _ B1 H1 E1 R1 (.bl _) λp z=>by cases z⟩
  ·rw[if_neg hn]at e4';cases e4'
 ·have e5:kE n x.1.1=some res:=by
   revert e4 hd
   cases x.1.1 with
   |dict es=>intro _ hd;exact absurd ⟨es,rfl⟩ hd
   |_=>intro e4 _;exact e4
  refine ha.sv F B H σ ρ x.1 x.2 _ R e1 λv B1 H1 E1 R1 V1 N1=>.inl ?_
  unfold kE at e5;split at e5
  ·rename_i hd'
   cases e5;have rp:=(V1.view R1).rep R1.sub;have ht:=rp.ty hd'.1;have hk:tyD x.1.1∈cT:=by
    have h2:=hd'.1
    revert h2
    cases x.1.1 with
    |none=>intro _;show "NoneType"∈cT;decide
    |bool _=>intro _;show "bool"∈cT;decide
    |int _=>intro _;show "int"∈cT;decide
    |str _=>intro _;show "str"∈cT;decide
    |list _=>intro _;show "list"∈cT;decide
    |tuple _=>intro _;show "tuple"∈cT;decide
    |dict _=>intro h2;exact absurd rfl h2
   exact⟨v,n,rfl,by rw[ht];exact hk,hd'.2,by rw[ht];exact q _ B1 H1 E1 R1 (.bl _) λp z=>by cases z⟩
  ·cases e5
end
end Mir
namespace L2
open PySem
theorem hv1{a b c:Nat}(h:a+b<c)(hb : 1<=b:=by decide):a+1<c:=by omega
end L2
namespace Mir
open PySem L2
section
variable [Zc]
def sF:List D->Option (List Int)
 | []=>some []
 | .int i::r=>(sF r).map (i::·)
 |_=>none
theorem sG{B:Hp}:∀{vs:List V} {ds:List D} {ns:List Int},aQ B vs ds->sF ds=some ns->vs=ns.map V.int
 |_,_,_,.nil,h=>by cases h;rfl
 |_,_,ns,.cons (d:=d) hx r,h=>by
  cases d with
  |int i=>
   obtain⟨ms,h1,h2⟩:=zab (show(sF _).map (i::·)=some ns from h)
   subst h2;cases hx;rw[zaz,sG r h1]
  |_=>cases h
def Fq:RV->Option (List D)
 |(.list ds,.new)=>some ds
 |_=>none
theorem Fs{r:RV}{ds:List D}(h:Fq r=some ds):r=(.list ds,.new):=by
 unfold Fq at h;split at h
 ·cases h;rfl
 ·cases h
def ot(a:PM):PM:=fun ρ=>(a ρ).bind λx=>(Fq x.1).bind λds=>(sF ds).bind λns=>cIf (ns.length+1<4096) (some ((.int (diff ns:Int),.fz),x.2)) none
theorem Di{ta:TE}{a:PM}(ha:ME ta a):ME (tCB Gz (hI (tCB Gy (hI ta tw)) tw)) (ot a):=by
 intro F B H σ ρ r0 ρ' Q R e q;obtain⟨⟨r,ρ1⟩,e1,e⟩:=zaa e;obtain⟨ds,e2,e⟩:=zaa e;obtain⟨ns,e3,e⟩:=zaa e;obtain⟨hz,e⟩:=cU e;cases e;have er:=Fs e2;dsimp only at er;subst er;refine ha F B H σ ρ _ ρ1 _ R e1 λv B1 H1 E1 R1 V1 N1=>?_
 obtain⟨p,rfl,hB,hF,ow,_⟩:=V1;obtain⟨xs,hp,rs⟩:=ow.list;rw[sG rs e3]at hp;refine⟨p,ns,rfl,hp,hz,λp3 S h3=>?_⟩
 obtain⟨R3,E3⟩:=R1.fresh (o:=.set S (diff ns)) h3 (λ_ z=>by cases z) λ_ _ z=>by cases z
 exact⟨p3,S,diff ns,rfl,ax,Nat.lt_of_le_of_lt (wG _ _) (by omega),q _ B1 _ (E1.trans E3) R3 (.int _) λp z=>by cases z⟩
end
end Mir
namespace L2
open PySem PySem.Spec PyProof.Rows PySem.W
abbrev yn(X:Cx)(qual:Str)(scope:Scope)(L f:Addr)(cd:Value):Env:=envX qual scope L f cd (eU X.env.cells scope.names [])
def sI(X:Cx)(A:Around)(qual:Str)(scope:Scope)(N':List Str)(s₂:Shared)(H₂:Hp)(f:Addr)(cd:Value):Cx where
 prog:=X.prog
 w:=X.w
 K:=X.K
 mg:=X.mg
 base:=X.base
 A:=A.deeper (yn X qual scope s₂.heap.objs.size f cd)
 N:=N'
 s₀:=s₂
 H₀:=H₂
 env:=yn X qual scope s₂.heap.objs.size f cd
 outer:=X.stack
 stack:=yn X qual scope s₂.heap.objs.size f cd::X.stack
 ex:=[]
 calm:=true
 fn:=λ_=>false
 pn:=[]
 xe:=λ_ _=>False
section
variable{X:Cx}{scope:Scope}{x:Str}{fr:List (Str×Nat)}{pins:List (Addr×Obj)}{σ:St}{H:Hp}{s:Shared}
theorem Blk.kinds'(B:Blk X scope x fr){y:Str}(h:scope.names.lookup y=some .cell\/scope.names.lookup y=some .free):(y,NameKind.free)∈scope.names:=by
 rcases h with h|h
 ·exact absurd rfl (B.cell _ (za5 h))
 ·exact za5 h
theorem Ft(I:Inv X pins σ H s)(B:Blk X scope x fr){A:Around}{qual:Str}{f:Addr}{cd:Value}{h₁:Heap}{tk:Nat}{v:V}{u:Value}(hA:A.frames=some X.stack)(hd:A.handled=none)(rv:RelV v u)
  (old:∀b ob,s.heap.get? b=some ob->h₁.get? b=some ob) (hns:h₁.Ns s.heap.objs.size λy=>[(x,u)].reverse.lookup y) :
  Inv (sI X A qual scope (bR x fr) s H f cd) [] (some v::aZ σ fr) H {s with heap:=h₁,toks:=tk}:=by
 have e0:=I.env0;have noA:∀b:Addr,b∉([]:List Addr):=λb=>by simp
 refine⟨⟨I.ok.mod,B.kind,rfl,rfl,zap _,λy z c h1 h2=>I.ok.inj y z c (B.sub I.ok _ _ h1) (B.sub I.ok _ _ h2),λy hy=>mF _ _ _ (.inl (B.kinds' hy)),λy c h _=>(zam h).elim,λ_=>hd,Around.frames_deeper hA,.inr ⟨rfl,rfl⟩,
  λb z=>absurd z (noA b),I.bs,zaX I.ok.bsz I.sz,λb _ _=>noA b,λb z=>absurd z (noA b),I.stack,I.pe,I.tab⟩,
  rfl,I.bare,Un.kept old,⟨_,hns,λi y w' h1 h2 h3=>?_⟩,λy c e=>?_,I.hok.fresh (zap _),λy c e=>I.hE y c (B.sub I.ok _ _ e),λp hp=>absurd (show p∈([]:List (Addr×Obj))from hp) (by simp),I.hok.kept old,?_⟩
 ·cases i with
  |zero=>
   simp only[List.getElem?_cons_zero,Option.some.injEq]at h2;subst h2;have e1:x=y:=by simpa[bR,sI]using h1
   subst e1;exact⟨u,rv,.inl ⟨B.here,by simp⟩⟩
  |succ i=>
   have h1':(fr.map (·.1))[i]?=some y:=by
    have z:(x::fr.map (·.1))[i+1]?=some y:=h1
    rw[zat]at z;exact z
   have h2':(aZ σ fr)[i]?=some (some w'):=by simpa using h2
   rw[zao]at h1';unfold aZ at h2';rw[zao]at h2';cases e:fr[i]? with
   |none=>rw[e]at h1';cases h1'
   |some p=>
    rw[e]at h1' h2';have e1:p.1=y:=by simpa using h1'
    have e2 : σ.getD p.2 none=some w':=by simpa using h2'
    have hs:=List.all_eq_true.mp B.seen p (zaj e);rw[Bool.and_eq_true]at hs;have hs1:scope.names.lookup p.1=some .free:=by simpa using hs.1
    have hs2:X.N[p.2]?=some p.1:=by simpa using hs.2
    rw[e1]at hs1 hs2;have hk:X.env.kindOf y=some .cell:=B.frees _ (za5 hs1) rfl;have e3 : σ[p.2]?=some (some w'):=by
     rw[List.getD_eq_getElem?_getD]at e2;cases q : σ[p.2]? with
     |none=>rw[q]at e2;simp at e2
     |some z=>rw[q]at e2;simp at e2;rw[e2]
    obtain⟨m,hn,hl⟩:=I.loc;obtain⟨u,r,l⟩:=hl p.2 y w' hs2 e3 (.inr (.inl hk));refine⟨u,r,.inr ⟨.inr hs1,?_⟩⟩;rcases l with⟨z,_⟩|⟨_,c,ec,z⟩
    ·rw[hk]at z;cases z
    ·obtain⟨c',hc'⟩:=mF (cells:=X.env.cells) scope.names [] y (.inl (za5 hs1))
     have:=B.sub I.ok _ _ hc';rw[ec]at this;cases this;obtain⟨ob,ho,hd⟩:=z;exact⟨c,hc',ob,old _ _ ho,hd⟩
 ·obtain⟨v,ob,ho,hd⟩:=I.cell y c (B.sub I.ok _ _ e)
  exact⟨v,ob,old _ _ ho,hd⟩
 ·show _=(bR x fr).length
  simp[bR,aZ]
theorem Dj{A:Around}{k:Nat}{qual name:Str}{params:Arguments}{body:Expr}{pm ctv:Value}{c' f:Addr}{v:V}{u:Value}{te:TE}{Q:VK}(I:Inv X pins σ H s)(B:Blk X scope x fr)(hco:scope.isCoroutine=false)(hgen:scope.isGenerator=false)
  (hA:A.frames=some X.stack) (hr:eI (k+1) A) (ho:s.heap.get? f=some (kla_obj name qual params body scope (eU X.env.cells scope.names []) pm c' ctv)) (hcd:s.heap.CodeRec (.ref c') qual)
  (hbind:bindArgs (kla_fn name qual params body scope (eU X.env.cells scope.names []) pm (.ref c') ctv) ⟨[u],[]⟩=pure [(x,u)]) (rv:RelV v u)
  (he:∀s₂ H₂,PE (sI X A qual scope (bR x fr) s₂ H₂ f (.ref c')) body te) (q:te (some v::aZ σ fr) H Q) :
  codeAny (model X.prog X.w) A (.call (.ref f) ⟨[u],[]⟩) (λr s'=>match r with| .ok (.ret u')=>∃v' H',Inv X pins σ H' s'/\RelV v' u'/\(∀b ps,H b=some (.tbl ps)->∃more,H' b=some (.tbl (ps++more)))/\Q v' H'|_=>False) s:=by
 refine kla_callFunE hr.depth ho rfl hco hgen rfl hcd ?_;rw[hbind];refine zaZ (wpAny_newFunctionEnv B.cell (λy hy=>?_) (λh₁ hns hsb=>⟨?_,?_⟩) B.kind)
 ·have e:y=(x,u):=by simpa using hy
  rw[e];exact B.here
 ·exact(I.nolimit).fresh _ hsb
 ·have old:∀b ob,s.heap.get? b=some ob->h₁.get? b=some ob:=λb ob e=>hsb.extBut b ob (zaS (zaq e)) (zar _ e)
  have J:=Ft (tk:=s.toks+1) (f:=f) (cd:=.ref c') (qual:=qual) I B hA hr.hd rv old hns;refine kla_codeExpr (za6 (he s H [] _ _ H Q J q) (λu' s' h=>?_) λ_ _ z=>z.elim)
  obtain⟨v',H',J',r',q'⟩:=h;obtain⟨hh,g,d,t,os'⟩:=s';obtain rfl:os'=s.os:=J'.os;exact⟨v',H',I.call (h':=hh) (g':=g) (d':=d) (t':=t) (ch:=[]) J'.base J'.hok J'.bare (λb z=>absurd z (by simp)),r',J'.base.jj,q'⟩
theorem Dk{M:Model}{A:Around}{E:Value->Shared->Prop}{c T:Addr}{ps:Array Value}{name qual:Str}{t:Tok}{params:Arguments}{body:Expr}{pos:Pos}{fl:Nat}{Q:Value->Shared->Prop}(I:Inv X pins σ H s)(B:Blk X scope x fr)
  (hl:gF X.K=some (c,T,ps)) (hp:ps=#[rawInt pos.line,rawInt pos.col,.str qual t]) (hcode:X.env.code=.ref c)
  (h:∀f c' H' pm ctv s',Inv X pins σ H' s'->aE H H'->(∀b,H b=none->H' b=none\/∃m,H' b=some (.tbl m))->s'.heap.get? f=some (kla_obj name qual params body scope (eU X.env.cells scope.names []) pm c' ctv)->jb X pins H' f->
   (∃more,H' c'=some (.tbl (#[.none,.str qual t]++more)))->Q (.ref f) s') :
  wpAny M A (makeFunction name qual params (.expr body) scope X.env [] [] [] pos fl) Q E s:=by
 obtain⟨more,hT⟩:=I.tab c T ps hl;have hcl:=xO (scope:=scope) (env:=X.env) (B.clos I.ok);have hg:s.heap.Ns mainGlobals X.mg:=I.ok.mod.glob.keeps I.bk;have C:CodeHd s.heap c T:=codeHd_of_K I.kIn (pV hl).2;have nT:∀b o,X.base.get? b=some o->b≠T:=λb o e z=>by
  have:=(I.bs b o e).2;rw[z,hT]at this;cases this
 have hgT:mainGlobals≠T:=by
  obtain⟨o,es,ep,e,_⟩:=I.ok.mod.glob;exact nT _ _ e
 have hb:s.heap.BuiltinsAt X.mg T:=by
  obtain⟨bm,ob,b1,b2,b3,b4,b5,b6⟩:=I.ok.mod.bmain;refine⟨bm,ob,b1,b2,λz=>?_,nT _ _ b3,I.bk _ _ b3,b4,b5,b6⟩
  obtain⟨o,es,ep,e,d,_⟩:=I.ok.mod.glob;rw[z,e]at b3;cases b3;rw[d]at b6;cases b6
 subst hp;have g2:(#[rawInt pos.line,rawInt pos.col,Value.str qual t]++more)[2]?=some (.str qual t):=by rw[Array.getElem?_append_left (by simp)];rfl
 have d0:(#[rawInt pos.line,rawInt pos.col,Value.str qual t]++more).getD 0 .none=rawInt pos.line:=by rw[Array.getD_eq_getD_getElem?,Array.getElem?_append_left (by simp)];rfl
 have d1:(#[rawInt pos.line,rawInt pos.col,Value.str qual t]++more).getD 1 .none=rawInt pos.col:=by rw[Array.getD_eq_getD_getElem?,Array.getElem?_append_left (by simp)];rfl
 rcases I.hok T _ hT with⟨e0,_⟩|⟨e0,qs,hq,hc⟩
 ·exact absurd e0 (vN hl more)
 rcases hc with rfl|⟨c',q,t',m',rfl,e2,e3⟩
 ·refine kla_makeFunction (mg:=X.mg) hcl I.ok.glob hg hcode C hq trivial rfl hgT hb λc' ctv h' tk hx hge hlt hrec htb=>?_
  have hc0:H c'=none:=I.hok.fresh hge;have old:∀b o,b≠T->s.heap.get? b=some o->(h'.push (kla_obj name qual params body scope (eU X.env.cells scope.names []) ((X.mg "__name__").getD .none) c' ctv)).get? b=some o:=λb o hb' e=>zar _ (hx b o hb' e)
  have tn:∀b,H b=none->b≠T:=λb e z=>by rw[z,hT]at e;cases e
  have nc:∀b o,H b=some o->b≠c':=λb o e=>d9 e hc0
  have J:Inv X pins σ (upd H c' (.tbl #[.none,.str qual t])) {s with heap:=h'.push (kla_obj name qual params body scope (eU X.env.cells scope.names []) ((X.mg "__name__").getD .none) c' ctv),toks:=tk}:=by
   refine I.step (g':=s.gens) (d':=s.drawn) (ch:=[]) (λ_ z=>nomatch z) (λb o _ _ _ e n=>old b o (tn b n) e) (λb o _ _ _ e n=>⟨o.slots,old b o (tn b n) e⟩) (λb o _ e n=>?_) (λb o _ e=>?_) (λb xs e=>?_) (λb o u e=>?_) (λb ps' e=>⟨#[],?_⟩) (λm hm=>?_) (λb u e=>?_) I.bare
   ·rw[aq (zaS (zaF (zaq e) hge))];exact n
   ·by_cases hb':b=T
    ·exact⟨_,by rw[hb'];exact zar _ htb⟩
    ·exact⟨o,old b o hb' e⟩
   ·rw[aq (nc _ _ e)];exact e
   ·rw[aq (nc _ _ e)];exact e
   ·rw[aq (nc _ _ e),e];simp
   ·obtain⟨o,es,ep,ho,r⟩:=hm
    exact⟨o,es,ep,old _ o (tn _ I.free) ho,r⟩
   ·by_cases hbc:b=c'
    ·subst hbc
     rw[ax]at e;cases e;obtain⟨c2,oc,vs,tk2,ec,eo,ed⟩:=hrec;cases ec;exact .inl ⟨rfl,qual,t,rfl,b,oc,vs,tk2,rfl,zar _ eo,ed⟩
    ·rw[aq hbc]at e
     by_cases hbT:b=T
     ·subst hbT
      rw[hT]at e;cases e;refine .inr ⟨e0,_,zar _ htb,.inr ⟨c',qual,t,#[],?_,g2,?_⟩⟩
      ·rw[d0,d1];rfl
      ·rw[ax];rfl
     ·refine(I.hok b u e).stay (λb' u' hb' q=>old b' u' ?_ q) (λb' q=>by rw[aq (nc _ _ q)];exact q) λb' v' _ q=>by rw[aq (nc _ _ q)];exact q
      rintro rfl
      rcases hb' with z|z
      ·exact hbT z.symm
      ·rw[hT]at z;cases z
  have hf0:(upd H c' (.tbl #[.none,.str qual t])) h'.objs.size=none:=by
   rw[aq (Nat.ne_of_gt hlt)];exact I.hok.fresh (zaX hge (Nat.le_of_lt hlt))
  refine h h'.objs.size c' _ _ ctv _ J (λb o e=>by rw[aq (nc _ _ e)];exact e) (λb e=>?_) (zaL _ rfl) (I.pQ (zaX hge (Nat.le_of_lt hlt)) hf0) ⟨#[],by rw[ax];rfl⟩
  by_cases z:b=c'
  ·exact .inr ⟨_,by rw[z];exact ax⟩
  ·exact .inl (by rw[aq z];exact e)
 ·rw[g2]at e2
  cases e2;rw[d0,d1]at hq;refine kla_makeFunctionHit (mg:=X.mg) (cv:=.ref c') hcl I.ok.glob hg hcode C hq trivial (by simp[codeAmong,rawInt]) hb λctv h' tk hk hsz=>?_
  have J:Inv X pins σ H {s with heap:=h'.push (kla_obj name qual params body scope (eU X.env.cells scope.names []) ((X.mg "__name__").getD .none) c' ctv),toks:=tk}:=I.kept λb o e=>zar _ (hk b o e)
  exact h h'.objs.size c' H _ ctv _ J (aE.refl _) (λb e=>.inl e) (zaL _ rfl) (I.pQ hsz (I.hok.fresh hsz)) ⟨m',e3⟩
end
def GQ(K:zag)(fr:List (Str×Nat))(tl te:TE):TE:=fun σ H Q=>tl σ H λx H1=>∃a xs v0,x=.ref a/\SqL K H1 a xs/\xs[0]?=some v0/\
 ∀H2,aE H1 H2->(∀b,H1 b=none->H2 b=none\/∃m,H2 b=some (.tbl m))->te (some v0::aZ σ fr) H2 λk0 H3=>∃W:Nat->V->V->Hp->Prop,W 1 v0 k0 H3/\
  ∀i b kb H4,W i b kb H4->SqL K H4 a xs/\(xs.length<=i->Q b H4)/\∀v,xs[i]?=some v->te (some v::aZ σ fr) H4 λk H5=>C6 K k kb H5 λr H6=>∃c,r=.bl c/\if c=true then W (i+1) v k H6 else W (i+1) b kb H6
section
variable{X:Cx}{scope:Scope}{x:Str}{fr:List (Str×Nat)}{pins:List (Addr×Obj)}{σ:St}{H:Hp}{s:Shared}
theorem code_at{c:Addr}{q:Str}{t:Tok}{more:Array Value}(I:Inv X pins σ H s)(h:H c=some (.tbl (#[.none,.str q t]++more))):s.heap.CodeRec (.ref c) q:=by
 have e0:(#[Value.none,.str q t]++more)[0]?=some .none:=by rw[Array.getElem?_append_left (by simp)];rfl
 have e1:(#[Value.none,.str q t]++more)[1]?=some (.str q t):=by rw[Array.getElem?_append_left (by simp)];rfl
 rcases I.hok c _ h with⟨_,q',t',z,r⟩|⟨z,_⟩
 ·rw[e1]at z;cases z;exact r
 ·exact absurd e0 z
theorem sJ{prog:Program}{w:World}{A:Around}{E:Value->Shared->Prop}{s:Shared}{l b:Addr}{a c:Int}{x y:Str}{t t2 u u2:Tok}{Q:Value->Shared->Prop}(hl:IsTup s.heap l #[.int a t,.str x u])(hb:IsTup s.heap b #[.int c t2,.str y u2])(hu:A.units<cLine)(h:Q (.bool (a0 a x c y)) s) :
  wpAny (model prog w) A (richCompare .Lt (.ref l) (.ref b)) Q E s:=wO hl hb hu h
theorem wW{k:Nat}{qual name:Str}{t:Tok}{params:Arguments}{body:Expr}{pm ctv:Value}{c' f:Addr}{v:V}{u:Value}{te:TE}{Q:VK}{P:Value->Shared->Prop}{E:Value->Shared->Prop}(I:Inv X pins σ H s)(B:Blk X scope x fr)(hco:scope.isCoroutine=false)(hgen:scope.isGenerator=false)
  (hr:eI (k+2) X.A) (ho:s.heap.get? f=some (kla_obj name qual params body scope (eU X.env.cells scope.names []) pm c' ctv)) {more:Array Value} (hc:H c'=some (.tbl (#[.none,.str qual t]++more)))
  (hbind:∀(pm ctv:Value) (c':Addr) (cl:List (Str×Addr)) (u:Value),bindArgs (kla_fn name qual params body scope cl pm (.ref c') ctv) ⟨[u],[]⟩=pure [(x,u)]) (rv:RelV v u)
  (he:∀s₂ H₂ f c',PE (sI X X.A.in1 qual scope (bR x fr) s₂ H₂ f (.ref c')) body te) (q:te (some v::aZ σ fr) H Q)
  (h:∀u' s' v' H',Inv X pins σ H' s'->RelV v' u'->(∃more,H' c'=some (.tbl (#[.none,.str qual t]++more)))->Q v' H'->P u' s') :
  wpAny (model X.prog X.w) X.A.in1 (call (.ref f) [u]) P E s:=by
 refine wpAny_call (codeAny_mono (Dj I B hco hgen I.ok.frames hr.in1 ho (code_at I hc) (hbind _ _ _ _ _) rv (λs₂ H₂=>he s₂ H₂ f c') q) λr s' hq=>?_)
 cases r with
 |error e=>exact hq.elim
 |ok fl=>
  cases fl with
  |next=>exact hq.elim
  |brk=>exact hq.elim
  |cont=>exact hq.elim
  |ret u'=>
   obtain⟨v',H',J,r',tb,q'⟩:=hq;obtain⟨m2,z⟩:=tb _ _ hc;exact h u' s' v' H' J r' ⟨more++m2,by rw[z,Array.append_assoc]⟩ q'
structure GR(X:Cx)(pins:List (Addr×Obj))(σ:St)(a it S f c':Addr)(fo:Obj)(qual:Str)(t:Tok)(i:Nat)(H:Hp)(s:Shared):Prop where
 inv:Inv X pins σ H s
 fi:jb X pins H it
 fs:jb X pins H S
 ff:jb X pins H f
 n1:it≠S
 n2:it≠f
 n3:S≠f
 li:s.heap.IsListIter it a i
 lf:s.heap.get? f=some fo
 nf:∀v,fo.data≠.cell v
 lc:∃more,H c'=some (.tbl (#[.none,.str qual t]++more))
theorem jb.to{H':Hp}{b:Addr}(h:jb X pins H b)(e:H' b=none):jb X pins H' b:=⟨e,h.2⟩
theorem Dl{k:Nat}{qual name:Str}{t:Tok}{params:Arguments}{body:Expr}{pm ctv:Value}{a it S f c':Addr}{te:TE}{xs:List V}{Q:VK}{W:Nat->V->V->Hp->Prop}{R:Result->Shared->Prop}(B:Blk X scope x fr)(hco:scope.isCoroutine=false)(hgen:scope.isGenerator=false)
  (hr:eI (k+2) X.A) (hbind:∀(pm ctv:Value) (c':Addr) (cl:List (Str×Addr)) (u:Value),bindArgs (kla_fn name qual params body scope cl pm (.ref c') ctv) ⟨[u],[]⟩=pure [(x,u)])
  (he:∀s₂ H₂ f c',PE (sI X X.A.in1 qual scope (bR x fr) s₂ H₂ f (.ref c')) body te)
  (turn:∀i b kb H4,W i b kb H4->SqL X.K H4 a xs/\(xs.length<=i->Q b H4)/\∀v,xs[i]?=some v->te (some v::aZ σ fr) H4 λk H5=>C6 X.K k kb H5 λr H6=>∃c,r=.bl c/\if c=true then W (i+1) v k H6 else W (i+1) b kb H6)
  (hR:∀u s',EP X pins σ Q u s'->R (.ok (.ret u)) s') :
  ∀(n i:Nat) (H:Hp) (s:Shared) (b kb:V) (ub uk:Value) (cn:Nat),xs.length-i=n->GR X pins σ a it S f c' (kla_obj name qual params body scope (eU X.env.cells scope.names []) pm c' ctv) qual t i H s->
   s.heap.get? S=some (seqObj "list" #[ub,uk] cn)->RelV b ub->RelV kb uk->W i b kb H->codeAny (model X.prog X.w) X.A (.builtin "min.loop" ⟨[.ref it,.ref f,.ref S],[]⟩) R s:=by
 have hname:(toString "min"++toString ".loop":String)="min.loop":=by decide
 intro n
 induction n with
 |zero=>
  intro i H s b kb ub uk cn hn L hS rb rk w;obtain⟨sq,fin,_⟩:=turn i b kb H w;obtain⟨its,rv,p,hz⟩:=L.inv.list sq;have hl:=rv.length;refine codeAny_builtin PySem.F.entry_min_loop ?_;rw[Around.under_plainId PySem.F.plain_min_loop _];show wpAny _ X.A.in1 (seqItems? (.ref S)>>=_) _ _ s;refine zaI (wpAny_seqItems hS rfl ?_);show wpAny _ X.A.in1 (tryCatch (pyNext (.ref it)) _>>=_) _ _ s;refine zaI (wpAny_tryCatch (wpAny_pyNext_list_end (show X.A.in1.handled=none from hr.hd) L.li p.isList (by simp;omega) λh' eb=>?_))
  obtain⟨f0,f1,f2,f3,f4,f5⟩:=L.fi;obtain⟨g0,g1,g2,g3,g4,g5⟩:=L.fs;have I1:Inv X pins σ H {s with heap:=h'}:=L.inv.turned (t':=s.toks) (λb o hb e=>eb b o hb e) f0 f1 f3 f4 f5
  have hS':h'.get? S=some (seqObj "list" #[ub,uk] cn):=eb S _ (Ne.symm L.n1) hS;have s1:=Heap.SameBut.update h' S (Obj.mapSeq λ_=>(#[]:Array Value))
  show wpAny _ X.A.in1 (updateSeq S (λ_=>#[])>>=_) _ _ _
  refine zaI ?_;refine wpAny_updateSeq hS' rfl (zaI (wpAny_letGo (zaZ ?_)));refine hR ub _ ⟨b,H,?_,rb,fin (by omega)⟩
  exact I1.turned (t':=s.toks) (λb o hb e=>(s1.2 b hb).trans e) g0 g1 g3 g4 g5
 |succ n ih=>
  intro i H s b kb ub uk cn hn L hS rb rk w;obtain⟨sq,_,step⟩:=turn i b kb H w;obtain⟨its,rv,p,hz⟩:=L.inv.list sq;have hl:=rv.length;have hi:i<xs.length:=by omega
  have hxi:xs[i]?=some xs[i]:=zaC hi;obtain⟨u,hu,ru⟩:=rv.get hxi;refine codeAny_builtin PySem.F.entry_min_loop ?_;rw[Around.under_plainId PySem.F.plain_min_loop _];show wpAny _ X.A.in1 (seqItems? (.ref S)>>=_) _ _ s;refine zaI (wpAny_seqItems hS rfl ?_);show wpAny _ X.A.in1 (tryCatch (pyNext (.ref it)) _>>=_) _ _ s;refine zaI (wpAny_tryCatch (wpAny_pyNext_list_item L.li p.isList (x:=u) (by simpa using hu) λh' st' sb=>?_))
  obtain⟨f0,f1,f2,f3,f4,f5⟩:=L.fi;obtain⟨g0,g1,g2,g3,g4,g5⟩:=L.fs;have I1:Inv X pins σ H {s with heap:=h'}:=L.inv.turned (t':=s.toks) (λb o hb e=>(sb.2 b hb).trans e) f0 f1 f3 f4 f5
  have hS1:h'.get? S=some (seqObj "list" #[ub,uk] cn):=(sb.2 S (Ne.symm L.n1)).trans hS;have hf1:=(sb.2 f (Ne.symm L.n2)).trans L.lf;obtain⟨oi,ei,ci,di⟩:=id st';have IP:=Inv.pinned I1 (fp:=[it,S,f]) (λz hz=>by
    simp only[List.mem_cons,List.not_mem_nil,or_false]at hz;rcases hz with rfl|rfl|rfl
    ·exact L.fi
    ·exact L.fs
    ·exact L.ff) λz hz=>by
    simp only[List.mem_cons,List.not_mem_nil,or_false]at hz;rcases hz with rfl|rfl|rfl
    ·exact⟨oi,ei,λv z=>by rw[di]at z;cases z⟩
    ·exact⟨_,hS1,λv z=>by cases z⟩
    ·exact⟨_,hf1,L.nf⟩
  obtain⟨more,hcm⟩:=L.lc;show wpAny _ X.A.in1 (tryCatch (holding [u] (call (.ref f) [u])) _>>=_) _ _ _;refine zaI (wpAny_tryCatch (wpAny_holding ?_));refine wW IP B hco hgen hr hf1 hcm hbind ru he (step _ hxi) λuk' s2 vk' H2 J rk' lc2 q2=>?_
  have pi:=J.pin (it,oi) (zan _ (zan _ (bF (by simp) ei)))
  have pS:=J.pin (S,_) (zan _ (zan _ (bF (by simp) hS1)))
  have pf:=J.pin (f,_) (zan _ (zan _ (bF (by simp) hf1)))
  have J2:Inv X pins σ H2 s2:=Inv.dQ (pins:=pins) J;obtain⟨pa,pb,i1,z1,i2,z2,e1,e2,t1,t2,cc,ec,w2⟩:=q2;subst e1 e2;cases ec;obtain rfl:uk'=Value.ref pa:=rk';obtain rfl:uk=Value.ref pb:=rk;obtain⟨is1,r1,p1,_⟩:=J2.tuple t1;obtain⟨is2,r2,p2,_⟩:=J2.tuple t2;cases r1 with
  |cons a1 r1=>
   cases r1 with
   |cons a2 r1=>
    cases r1;cases r2 with
    |cons b1 r2=>
     cases r2 with
     |cons b2 r2=>
      cases r2;obtain⟨k1,rfl⟩:=a1;obtain⟨k2,rfl⟩:=a2;obtain⟨k3,rfl⟩:=b1;obtain⟨k4,rfl⟩:=b2;show wpAny _ X.A.in1 (tryCatch (holding [u,.ref pa] (richCompare .Lt (.ref pa) (.ref pb)>>=_)) _>>=_) _ _ _;refine zaI (wpAny_tryCatch (wpAny_holding (zaI (sJ p1 p2 (by have:=hr.un;show X.A.units+1<cLine;omega) ?_))))
      refine zaI (wpAny_holding (wpAny_truthy_bool ?_));refine zaI (wpAny_letGo (zaZ ?_));have L2':GR X pins σ a it S f c' (kla_obj name qual params body scope (eU X.env.cells scope.names []) pm c' ctv) qual t (i+1) H2 s2 :=
       ⟨J2,L.fi.to pi.2.1,L.fs.to pS.2.1,L.ff.to pf.2.1,L.n1,L.n2,L.n3,⟨oi,pi.1,ci,di⟩,pf.1,L.nf,lc2⟩
      by_cases hb':a0 i1 z1 i2 z2=true
      ·rw[hb']at w2⊢
       rw[if_pos rfl]at w2⊢;have s1:=Heap.SameBut.update s2.heap S (Obj.mapSeq λ_=>#[u,.ref pa])
       obtain⟨c2,hc2⟩:∃c2,(s2.heap.update S (Obj.mapSeq λ_=>#[u,.ref pa])).get? S=some (seqObj "list" #[u,.ref pa] c2):=⟨_,get?_update_seq pS.1 λ_=>#[u,.ref pa]⟩
       refine zaI ?_;refine wpAny_updateSeq pS.1 rfl (zaI (wpAny_letGo ?_));rw[hname];have I3:Inv X pins σ H2 {s2 with heap:=s2.heap.update S (Obj.mapSeq λ_=>#[u,.ref pa])}:=J2.turned (t':=s2.toks) (λb o hb e=>(s1.2 b hb).trans e) pS.2.1 g1 g3 g4 g5
       refine zaZ ⟨plainId_quiet PySem.F.plain_min_loop _,ih (i+1) H2 _ xs[i] (.ref pa) u (.ref pa) c2 (by omega) ⟨I3,L2'.fi,L2'.fs,L2'.ff,L.n1,L.n2,L.n3,⟨oi,(s1.2 it L.n1).trans pi.1,ci,di⟩,(s1.2 f (Ne.symm L.n3)).trans pf.1,L.nf,lc2⟩ hc2 ru rfl w2⟩
      ·have hb2:a0 i1 z1 i2 z2=false:=by simpa using hb'
       rw[hb2]at w2⊢;rw[if_neg zam]at w2⊢;refine zaI (wpAny_letGo ?_);rw[hname];exact zaZ ⟨plainId_quiet PySem.F.plain_min_loop _,ih (i+1) H2 _ b (.ref pb) ub (.ref pb) cn (by omega) L2' pS.1 rb rfl w2⟩
end
def GS(X:Cx)(pos:Pos):Prop:=∃c T ps t,gF X.K=some (c,T,ps)/\ps=#[rawInt pos.line,rawInt pos.col,.str (X.env.qual++"<lambda>") t]/\X.env.code=.ref c
section
variable{X:Cx}{scope:Scope}{x:Str}{fr:List (Str×Nat)}
theorem Fu{k:Nat}{e:Expr}{params:Arguments}{body:Expr}{J1 p pos kpos:Pos}{tl te:TE}(B:Blk X scope x fr)(hL:GS X J1)(hr:eI (k+2) X.A)(hg:Gl X "min")(hm:X.mg "min"=none)(hl:PE X e tl)
  (he:∀s₂ H₂ f c',PE (sI X X.A.in1 (X.env.qual++"<lambda>") scope (bR x fr) s₂ H₂ f (.ref c')) body te)
  (hbind:∀(pm ctv:Value) (c':Addr) (cl:List (Str×Addr)) (u:Value),bindArgs (kla_fn "<lambda>" (X.env.qual++"<lambda>") params body scope cl pm (.ref c') ctv) ⟨[u],[]⟩=pure [(x,u)])
  (hco:scope.isCoroutine=false:=by rfl) (hgen:scope.isGenerator=false:=by rfl) (hdef:defaultsOf params X.env=([],[]):=by rfl)
  (hst:backTo pos (starEach [e] X.env)=(false,eval e X.env)::backTo pos (starEach [] X.env):=by rfl) (hpl:(backTo pos (starEach [e] X.env)).any (·.1)=false:=by rfl) (hst2:starEach [e] X.env=(false,eval e X.env)::starEach [] X.env:=by rfl) :
  PE X (.Call (.Name "min" p) [e] [⟨some "key",.Lambda params body scope J1,kpos⟩] pos) (GQ X.K fr tl te):=by
 have ha:PA X [e] (hI tl tw):=aa hl au hst2;intro pins s σ H Q I h;obtain⟨c,T,ps,t,KZ,hps,hcode⟩:=hL;have hname:(toString "min"++toString ".loop":String)="min.loop":=by decide
 refine wpAny_Call_Name_kw (nM I hg hm PyProof.Rows.boot_min ?_ (by decide) (by decide))
 refine callWith_kw (thn (ha pos pins s σ H (λvs H1=>∃v,vs=[v]/\(λx H1=>∃a xs v0,x=.ref a/\SqL X.K H1 a xs/\xs[0]?=some v0/\
  ∀H2,aE H1 H2->(∀b,H1 b=none->H2 b=none\/∃m,H2 b=some (.tbl m))->te (some v0::aZ σ fr) H2 λk0 H3=>∃W:Nat->V->V->Hp->Prop,W 1 v0 k0 H3/\
  ∀i b kb H4,W i b kb H4->SqL X.K H4 a xs/\(xs.length<=i->Q b H4)/\∀v,xs[i]?=some v->te (some v::aZ σ fr) H4 λk H5=>C6 X.K k kb H5 λr H6=>∃c,r=.bl c/\if c=true then W (i+1) v k H6 else W (i+1) b kb H6) v H1) I ?_) λus s1 ⟨vs,H1,I1,r1,v,ev,q1⟩=>?_) hst hpl rfl rfl
 ·show tl σ H _
  have h':tl σ H _:=h;refine Eq.mp (congrArg (tl σ H) ?_) h';funext x H1
  exact propext ⟨λz=>⟨x,rfl,z⟩,λ⟨v,ev,z⟩=>by cases ev;exact z⟩
 subst ev;obtain⟨a,xs,v0,rfl,sq,h0,q⟩:=q1;obtain⟨ua,rfl,ra⟩:∃ua,us=[ua]/\RelV (.ref a) ua:=by
  cases r1 with
  |cons ra rr=>
   cases rr;exact⟨_,rfl,ra⟩
 obtain rfl:ua=Value.ref a:=ra;refine kws_cons (kla_eval hdef (Dk I1 B KZ hps hcode λf c' H2 pm ctv s2 J sm nn ho ff hc=>kws_nil ?_))
 have sq2:SqL X.K H2 a xs:=by
  rcases sq with(z|⟨o,z⟩)|z
  ·exact .inl (.inl (sm _ _ z))
  ·exact .inl (.inr ⟨o,sm _ _ z⟩)
  ·exact .inr z
 obtain⟨its,rv,p1,hz⟩:=J.list sq2;have hln:=rv.length;have hxl : 0<xs.length:=(zac h0).1;obtain⟨u0,hu0,ru0⟩:=rv.get h0;show wpAny (model X.prog X.w) X.A (call (.builtin "min") [.ref a] [(Str.ofString "key",.ref f)]) _ _ s2;refine kmk_tree PySem.F.kind_min PySem.F.plain_min PySem.F.entry_min (kmk_min_key _ _) ?_;show wpAny _ X.A.in1 (Builtin.Builtins.bindParams "min" ["key","default"] 0 ⟨[],[(Str.ofString "key",.ref f)]⟩>>=_) _ _ s2;refine zaI (wpAny_of_eq (show Builtin.Builtins.bindParams "min" ["key","default"] 0 ⟨[],[(Str.ofString "key",.ref f)]⟩=pure [some (.ref f),none]from rfl) ?_);refine zaI (zaZ ?_);refine zaI (wpAny_pyIter_list p1.isList ?_);refine zaI (wpAny_newList ?_ (Nat.zero_le _));rw[hname];refine zaZ ⟨plainId_quiet PySem.F.plain_min_loop _,?_⟩;generalize hG1:s2.heap.push {cls:=.type "list_iterator",data:=.fields #[.ref a,.int 0 0]}=G1;have hS:G1.objs.size=s2.heap.objs.size+1:=by rw[<-hG1,Heap.size_push]
 have old:∀b o,s2.heap.get? b=some o->(G1.push (seqObj "list" #[] 0)).get? b=some o:=λb o e=>zar _ (by rw[<-hG1];exact zar _ e)
 have gI:(G1.push (seqObj "list" #[] 0)).get? s2.heap.objs.size=some {cls:=.type "list_iterator",data:=.fields #[.ref a,.int 0 0]}:=zar _ (by rw[<-hG1];exact zaL _ rfl)
 have gS:(G1.push (seqObj "list" #[] 0)).get? G1.objs.size=some (seqObj "list" #[] 0):=zaL _ rfl;have I3:Inv X pins σ H2 {s2 with heap:=G1.push (seqObj "list" #[] 0)}:=J.kept (t':=s2.toks) old
 have fi:jb X pins H2 s2.heap.objs.size:=J.pQ (zap _) (J.hok.fresh (zap _));have fs:jb X pins H2 G1.objs.size:=J.pQ (by omega) (J.hok.fresh (by omega))
 have hfl:f<s2.heap.objs.size:=zaq ho;have n1:s2.heap.objs.size≠G1.objs.size:=by omega
 have n2:s2.heap.objs.size≠f:=Nat.ne_of_gt hfl;have n3:G1.objs.size≠f:=by rw[hS];exact Nat.ne_of_gt (Nat.lt_succ_of_lt hfl)
 obtain⟨g0,g1,g2,g3,g4,g5⟩:=fs;refine codeAny_builtin PySem.F.entry_min_loop ?_;rw[Around.under_plainId PySem.F.plain_min_loop _];show wpAny _ X.A.in1 (seqItems? (.ref _)>>=_) _ _ _;refine zaI (wpAny_seqItems gS rfl ?_);show wpAny _ X.A.in1 (tryCatch (pyNext (.ref s2.heap.objs.size)) _>>=_) _ _ _;obtain⟨K9,rv3,p3,_⟩:=I3.list sq2;obtain⟨u3,hu3,ru3⟩:=rv3.get h0;refine zaI (wpAny_tryCatch (wpAny_pyNext_list_item (it:=s2.heap.objs.size) (i:=0) ⟨_,gI,rfl,rfl⟩ p3.isList (x:=u3) (by simpa using hu3) λh' st' sb=>?_))
 have I4:Inv X pins σ H2 {s2 with heap:=h'}:=I3.turned (t':=s2.toks) (λb o hb e=>(sb.2 b hb).trans e) fi.1 fi.2.1 fi.2.2.2.1 fi.2.2.2.2.1 fi.2.2.2.2.2
 have hS4:h'.get? G1.objs.size=some (seqObj "list" #[] 0):=(sb.2 _ (Ne.symm n1)).trans gS;have hf4:=(sb.2 f (Ne.symm n2)).trans (old _ _ ho);obtain⟨oi,ei,ci,di⟩:=id st';have IP:=Inv.pinned I4 (fp:=[s2.heap.objs.size,G1.objs.size,f]) (λz hz=>by
   simp only[List.mem_cons,List.not_mem_nil,or_false]at hz;rcases hz with rfl|rfl|rfl
   ·exact fi
   ·exact⟨g0,g1,g2,g3,g4,g5⟩
   ·exact ff) λz hz=>by
   simp only[List.mem_cons,List.not_mem_nil,or_false]at hz;rcases hz with rfl|rfl|rfl
   ·exact⟨oi,ei,λv z=>by rw[di]at z;cases z⟩
   ·exact⟨_,hS4,λv z=>by cases z⟩
   ·exact⟨_,hf4,λv z=>by cases z⟩
 obtain⟨more,hcm⟩:=hc;show wpAny _ X.A.in1 (tryCatch (holding [u3] (call (.ref f) [u3])) _>>=_) _ _ _;refine zaI (wpAny_tryCatch (wpAny_holding ?_));refine wW IP B hco hgen hr hf4 hcm hbind ru3 he (q H2 sm nn) λuk s5 vk H5 J5 rk lc5 q5=>?_
 obtain⟨W,w0,turn⟩:=q5;have pi:=J5.pin (s2.heap.objs.size,oi) (zan _ (zan _ (bF (by simp) ei)))
 have pS:=J5.pin (G1.objs.size,_) (zan _ (zan _ (bF (by simp) hS4)))
 have pf:=J5.pin (f,_) (zan _ (zan _ (bF (by simp) hf4)))
 have J6:Inv X pins σ H5 s5:=Inv.dQ (pins:=pins) J5;have s1':=Heap.SameBut.update s5.heap G1.objs.size (Obj.mapSeq λ_=>#[u3,uk])
 obtain⟨c2,hc2⟩:∃c2,(s5.heap.update G1.objs.size (Obj.mapSeq λ_=>#[u3,uk])).get? G1.objs.size=some (seqObj "list" #[u3,uk] c2):=⟨_,get?_update_seq pS.1 λ_=>#[u3,uk]⟩
 show wpAny _ X.A.in1 (updateSeq G1.objs.size (λ_=>#[u3,uk])>>=_) _ _ _
 refine zaI ?_;refine wpAny_updateSeq pS.1 rfl ?_;rw[hname];have I7:Inv X pins σ H5 {s5 with heap:=s5.heap.update G1.objs.size (Obj.mapSeq λ_=>#[u3,uk])}:=J6.turned (t':=s5.toks) (λb o hb e=>(s1'.2 b hb).trans e) pS.2.1 g1 g3 g4 g5
 refine zaZ ⟨plainId_quiet PySem.F.plain_min_loop _,Dl B hco hgen hr hbind he turn (λu s' z=>z) _ 1 H5 _ v0 vk u3 uk c2 rfl
  ⟨I7,fi.to pi.2.1,⟨pS.2.1,g1,g2,g3,g4,g5⟩,ff.to pf.2.1,n1,n2,n3,⟨oi,(s1'.2 _ n1).trans pi.1,ci,di⟩,(s1'.2 f (Ne.symm n3)).trans pf.1,(λv z=>by cases z),lc5⟩ hc2 ru3 rk w0⟩
end
section
variable{P:Program}{w:World}{K:zag}{mg:Str->Option Value}{base:Heap}
theorem Top.K0{x:Str}{st:Stmt}{N ps:List Str}{k:Nat}{sp:Sp}{lp:Pos}(hK:(gF K).isSome=true)(hlp:tq (.stmts (eZ st))=some lp)(hq:((x++".<locals>.":Str)++"<lambda>":Str)=x++".<locals>.<lambda>")(T:Top K mg x st)(S:bO N ps (aV st))(len:∀vs H Q E,sp vs H Q E->vs.length=ps.length)
  (hb:∀(kV doc pm:Value) (an:Option Addr) (cdv ct:Value) (us:List Value),us.length=ps.length->bindArgs (PySem.W.fnOf x x (iW st) (eZ st) (aV st) .none kV doc pm an cdv ct) ⟨us,[]⟩=pure (ps.zip us))
  (hbody:∀(f:Addr) (cdv:Value) (A:Around) (outer:List Env) (s:Shared) (H:Hp) (vs:List V) (Q:VK) (E:XK),GS (tD CX0 P w K mg base N x (aV st) f cdv A outer s H E).nox lp->eI k (A.deeper (envOfC x (aV st) s.heap.objs.size f cdv))->sp vs H Q E->
   ∃t,PSs (tD CX0 P w K mg base N x (aV st) f cdv A outer s H E).nox (eZ st) t/\t {nx:=λ_ H'=>Q .non H',rt:=Q} (start N vs) H):Def P w K mg base CX0 (k+1) x ps sp:=by
 obtain⟨f,fd,F,m⟩:=T.ex;refine⟨⟨f,fd,?_,m,F.kp,F.binds hb⟩⟩;obtain⟨oc,od,kV,doc,pm,an,cdv,ct,osl,rfl,lk,hcd⟩:=F.ex;refine fE lk hcd S len λA outer s H vs Q E hr hsp=>?_
 obtain⟨⟨c,T',ps'⟩,hl⟩:=Option.isSome_iff_exists.mp hK;obtain⟨e1,e2⟩:=HA hl lk hlp;obtain⟨t,h,q⟩:=hbody f cdv A outer s H vs Q E ⟨c,T',ps',0,hl,by rw[e2];show _=#[_,_,Value.str (x++".<locals>."++"<lambda>") 0];rw[hq],e1⟩ hr hsp
 exact⟨t,h.nox,q⟩
end
def btK(ks:Nat->Int×Str)(i j:Nat):Bool:=a0 (ks i).1 (ks i).2 (ks j).1 (ks j).2
section
variable{prog:Program}{w:World}{A:Around}{R:Result->Shared->Prop}
theorem AX(hh:A.handled=none)(hu:A.units+1<cLine){l it S:Addr}{vs:List Value}{h0:Heap}{s0:Shared}(ks:Nat->Int×Str)(hl:h0.IsList l vs.toArray)(hi:h0.objs.size<=it)(hS:h0.objs.size<=S)(n1:it≠S)
  (ht:∀i v,vs[i]?=some v->∃p t u,v=.ref p/\IsTup h0 p #[.int (ks i).1 t,.str (ks i).2 u])
  (hR:∀v h' tk,vs[argBest (btK ks) (vs.length-1)]?=some v->(∀b o,h0.get? b=some o->h'.get? b=some o)->R (.ok (.ret v)) {s0 with heap:=h',toks:=tk}) :
  ∀(n j:Nat) (h:Heap) (tk:Nat) (ub:Value) (cn:Nat),vs.length-(j+1)=n->j+1<=vs.length->(∀b o,h0.get? b=some o->h.get? b=some o)->h.IsListIter it l (j+1)->h.get? S=some (seqObj "list" #[ub,ub] cn)->
   vs[argBest (btK ks) j]?=some ub->codeAny (model prog w) A (.builtin "min.loop" ⟨[.ref it,.none,.ref S],[]⟩) R {s0 with heap:=h,toks:=tk}:=by
 have hname:(toString "min"++toString ".loop":String)="min.loop":=by decide
 have neI:∀b o,h0.get? b=some o->b≠it:=λb o e=>zaS (zaF (zaq e) hi)
 have neS:∀b o,h0.get? b=some o->b≠S:=λb o e=>zaS (zaF (zaq e) hS)
 have lst:∀h:Heap,(∀b o,h0.get? b=some o->h.get? b=some o)->h.IsList l vs.toArray:=λh k=>by
  obtain⟨o,e,r⟩:=hl;exact⟨o,k _ _ e,r⟩
 intro n
 induction n with
 |zero=>
  intro j h tk ub cn hn hj kp li hSo hb;refine codeAny_builtin PySem.F.entry_min_loop ?_;rw[Around.under_plainId PySem.F.plain_min_loop _];show wpAny _ A.in1 (seqItems? (.ref S)>>=_) _ _ _;refine zaI (wpAny_seqItems hSo rfl ?_);show wpAny _ A.in1 (tryCatch (pyNext (.ref it)) _>>=_) _ _ _;refine zaI (wpAny_tryCatch (wpAny_pyNext_list_end (show A.in1.handled=none from hh) li (lst h kp) (by simp;omega) λh' eb=>?_))
  have hS':h'.get? S=some (seqObj "list" #[ub,ub] cn):=eb S _ (Ne.symm n1) hSo;have s1:=Heap.SameBut.update h' S (Obj.mapSeq λ_=>(#[]:Array Value))
  show wpAny _ A.in1 (updateSeq S (λ_=>#[])>>=_) _ _ _
  refine zaI ?_;refine wpAny_updateSeq hS' rfl (zaI (wpAny_letGo (zaZ ?_)));refine hR ub _ _ (by rw[show vs.length-1=j by omega];exact hb) λb o e=>(s1.2 b (neS b o e)).trans (eb b o (neI b o e) (kp b o e))
 |succ n ih=>
  intro j h tk ub cn hn hj kp li hSo hb;have hlt:j+1<vs.length:=by omega
  refine codeAny_builtin PySem.F.entry_min_loop ?_;rw[Around.under_plainId PySem.F.plain_min_loop _];show wpAny _ A.in1 (seqItems? (.ref S)>>=_) _ _ _;refine zaI (wpAny_seqItems hSo rfl ?_);show wpAny _ A.in1 (tryCatch (pyNext (.ref it)) _>>=_) _ _ _;refine zaI (wpAny_tryCatch (wpAny_pyNext_list_item li (lst h kp) (x:=vs[j+1]) (by simp) λh' st' sb=>?_))
  have kp1:∀b o,h0.get? b=some o->h'.get? b=some o:=λb o e=>(sb.2 b (neI b o e)).trans (kp b o e)
  have hS1:h'.get? S=some (seqObj "list" #[ub,ub] cn):=(sb.2 S (Ne.symm n1)).trans hSo;obtain⟨p1,t1,u1,e1,q1⟩:=ht (j+1) _ (zaC hlt);obtain⟨p2,t2,u2,e2,q2⟩:=ht _ _ hb;subst e2;have up:∀{p:Addr} {xs:Array Value},IsTup h0 p xs->IsTup h' p xs:=fun{p xs} ⟨o,e,r⟩=>⟨o,kp1 _ _ e,r⟩
  have hb1:vs[j+1]?=some (.ref p1):=by rw[zaC hlt,e1]
  rw[e1];show wpAny _ A.in1 (tryCatch (holding [.ref p1,.ref p1] (richCompare .Lt (.ref p1) (.ref p2)>>=_)) _>>=_) _ _ _;refine zaI (wpAny_tryCatch (wpAny_holding (zaI (sJ (up q1) (up q2) hu ?_))));refine zaI (wpAny_holding (wpAny_truthy_bool ?_));refine zaI (wpAny_letGo (zaZ ?_));cases hc:a0 (ks (j+1)).1 (ks (j+1)).2 (ks (argBest (btK ks) j)).1 (ks (argBest (btK ks) j)).2 with
  |true=>
   simp only[if_true];have hc':btK ks (j+1) (argBest (btK ks) j)=true:=hc;have s1:=Heap.SameBut.update h' S (Obj.mapSeq λ_=>#[Value.ref p1,.ref p1])
   obtain⟨c2,hc2⟩:∃c2,(h'.update S (Obj.mapSeq λ_=>#[Value.ref p1,.ref p1])).get? S=some (seqObj "list" #[Value.ref p1,.ref p1] c2):=⟨_,get?_update_seq hS1 λ_=>#[Value.ref p1,.ref p1]⟩
   refine zaI ?_;refine wpAny_updateSeq hS1 rfl (zaI (wpAny_letGo ?_));rw[hname];obtain⟨oi,ei,ci,di⟩:=id st';exact zaZ ⟨plainId_quiet PySem.F.plain_min_loop _,ih (j+1) _ _ (.ref p1) c2 (by omega) hlt (λb o e=>(s1.2 b (neS b o e)).trans (kp1 b o e)) ⟨oi,(s1.2 it n1).trans ei,ci,di⟩ hc2 (by simp only[argBest,hc',if_true];exact hb1)⟩
  |false=>
   simp only[Bool.false_eq_true,if_false];have hc':btK ks (j+1) (argBest (btK ks) j)=false:=hc;refine zaI (wpAny_letGo ?_);rw[hname];exact zaZ ⟨plainId_quiet PySem.F.plain_min_loop _,ih (j+1) _ _ (.ref p2) cn (by omega) hlt kp1 st' hS1 (by simp only[argBest,hc',Bool.false_eq_true,if_false];exact hb)⟩
end
section
variable{X:Cx}{K:zag}
def GU(K:zag):List V->Hp->VK->Prop:=λvs H Q=>∃(a:Addr) (xs:List V) (ks:Nat->Int×Str) (v:V),vs=[.ref a]/\SqL K H a xs/\(∀(i:Nat) (x:V),xs[i]?=some x->∃p,x=.ref p/\SqT K H p [.int (ks i).1,.str (ks i).2])/\
 xs[argBest (btK ks) (xs.length-1)]?=some v/\Q v H
theorem AY(h:X.K=K)(hc:X.calm=true)(hu:X.A.units+1<cLine):dZ X (.builtin "min") (GU K):=by
 subst h;intro pins s σ H vs us Q I r h;obtain⟨a,xs,ks,v,rfl,sq,ht,hv,q⟩:=h;obtain⟨u,rfl,ra⟩:=vals1 r;obtain rfl:u=Value.ref a:=ra;obtain⟨its,rv,p,hz⟩:=I.list sq;have hln:=rv.length;have hname:(toString "min"++toString ".loop":String)="min.loop":=by decide
 have hb0 : 0<xs.length:=Nat.lt_of_le_of_lt (Nat.zero_le _) (zac hv).1;have tup:∀i v,its[i]?=some v->∃p t u,v=.ref p/\IsTup s.heap p #[.int (ks i).1 t,.str (ks i).2 u]:=λi v hi=>by
  have hlt:i<xs.length:=by rw[hln];exact(zac hi).1
  obtain⟨u',hu',ru'⟩:=rv.get (zaC hlt);rw[hi]at hu';cases hu'
  obtain⟨pp,e,hs⟩:=ht i _ (zaC hlt);rw[e]at ru';obtain rfl:v=Value.ref pp:=ru';obtain⟨is,r1,p1,_⟩:=I.tuple hs;cases r1 with
  |cons a1 r1=>
   cases r1 with
   |cons a2 r1=>
    cases r1;obtain⟨k1,rfl⟩:=a1;obtain⟨k2,rfl⟩:=a2;exact⟨pp,k1,k2,rfl,p1⟩
 refine call_function_tree PySem.F.kind_min PySem.F.plain_min PySem.F.entry_min (PySem.F.args_min1 _) ?_
 show wpAny _ X.A.in1 (Builtin.Builtins.bindParams "min" ["key","default"] 0 ⟨[],[]⟩>>=_) _ _ s;refine zaI (wpAny_of_eq (show Builtin.Builtins.bindParams "min" ["key","default"] 0 ⟨[],[]⟩=pure [none,none]from rfl) ?_);refine zaI (zaZ ?_);refine zaI (wpAny_pyIter_list p.isList ?_);refine zaI (wpAny_newList ?_ (Nat.zero_le _));rw[hname];refine zaZ ⟨plainId_quiet PySem.F.plain_min_loop _,?_⟩;generalize hG1:s.heap.push {cls:=.type "list_iterator",data:=.fields #[.ref a,.int 0 0]}=G1;have hS:G1.objs.size=s.heap.objs.size+1:=by rw[<-hG1,Heap.size_push]
 have old:∀b o,s.heap.get? b=some o->(G1.push (seqObj "list" #[] 0)).get? b=some o:=λb o e=>zar _ (by rw[<-hG1];exact zar _ e)
 have gI:(G1.push (seqObj "list" #[] 0)).get? s.heap.objs.size=some {cls:=.type "list_iterator",data:=.fields #[.ref a,.int 0 0]}:=zar _ (by rw[<-hG1];exact zaL _ rfl)
 have gS:(G1.push (seqObj "list" #[] 0)).get? G1.objs.size=some (seqObj "list" #[] 0):=zaL _ rfl;have n1:s.heap.objs.size≠G1.objs.size:=by omega
 refine codeAny_builtin PySem.F.entry_min_loop ?_;rw[Around.under_plainId PySem.F.plain_min_loop _];show wpAny _ X.A.in1 (seqItems? (.ref _)>>=_) _ _ _;refine zaI (wpAny_seqItems gS rfl ?_);show wpAny _ X.A.in1 (tryCatch (pyNext (.ref s.heap.objs.size)) _>>=_) _ _ _;have hil : 0<its.length:=by omega
 have pl:(G1.push (seqObj "list" #[] 0)).IsList a its.toArray:=by
  obtain⟨o,e,r⟩:=p.isList;exact⟨o,old _ _ e,r⟩
 refine zaI (wpAny_tryCatch (wpAny_pyNext_list_item (it:=s.heap.objs.size) (i:=0) ⟨_,gI,rfl,rfl⟩ pl (x:=its[0]) (by simp) λh' st' sb=>?_))
 have hS4:h'.get? G1.objs.size=some (seqObj "list" #[] 0):=(sb.2 _ (Ne.symm n1)).trans gS;have s1':=Heap.SameBut.update h' G1.objs.size (Obj.mapSeq λ_=>#[its[0],its[0]])
 obtain⟨c2,hc2⟩:∃c2,(h'.update G1.objs.size (Obj.mapSeq λ_=>#[its[0],its[0]])).get? G1.objs.size=some (seqObj "list" #[its[0],its[0]] c2):=⟨_,get?_update_seq hS4 λ_=>#[its[0],its[0]]⟩
 show wpAny _ X.A.in1 (updateSeq G1.objs.size (λ_=>#[its[0],its[0]])>>=_) _ _ _
 refine zaI ?_;refine wpAny_updateSeq hS4 rfl ?_;rw[hname];obtain⟨oi,ei,ci,di⟩:=id st';have kp:∀b o,s.heap.get? b=some o->(h'.update G1.objs.size (Obj.mapSeq λ_=>#[its[0],its[0]])).get? b=some o:=λb o e=>by
  have hb:=zaq e;exact(s1'.2 b (zaS (by rw[hS];exact Nat.lt_succ_of_lt hb))).trans ((sb.2 b (zaS hb)).trans (old b o e))
 refine zaZ ⟨plainId_quiet PySem.F.plain_min_loop _,AX (s0:=s) (I.ok.hd hc) hu ks p.isList (zap _) (by omega) n1 tup (λv' h2 tk2 hv' kp'=>?_) _ 0 _ _ its[0] c2 rfl hil kp ⟨oi,(s1'.2 _ n1).trans ei,ci,di⟩ hc2 (zaC hil)⟩
 rw[<-hln]at hv';obtain⟨u',hu',ru'⟩:=rv.get hv;rw[hv']at hu';cases hu';exact⟨v,H,I.kept kp',ru',q⟩
end
end L2
namespace Mir
open PySem L2
section
variable [Zc]
def wX(e:PM)(ρn:Rho):List D->Option (List (D×Int×Str))
 | []=>some []
 |d::ds=>(sv e (.fz d::ρn)).bind λy=>match y.1 with
  |(.tuple [.int i,.str z],.fz)=>(wX e ρn ds).map ((d,i,z)::·)
  |_=>none
def l9:D×Int×Str->List (D×Int×Str)->D×Int×Str
 |b,[]=>b
 |b,c::r=>l9 (if a0 c.2.1 c.2.2 b.2.1 b.2.2=true then c else b) r
def Dm(fr:List (Str×Nat))(l e:PM):PM:=fun ρ=>(l ρ).bind λx=>match x.1 with
 |(.list ds,.fz)=>(wX e (fr.map λp=>bI x.2 p.2) ds).bind λks=>match ks with
  |b::r=>some (((l9 b r).1,.fz),x.2)
  | []=>none
 |_=>none
theorem sL{e:PM}{ρn:Rho}{d:D}{ds:List D}{ks:List (D×Int×Str)}(h:wX e ρn (d::ds)=some ks) :
  ∃y i z r,sv e (.fz d::ρn)=some y/\y.1=(.tuple [.int i,.str z],.fz)/\wX e ρn ds=some r/\ks=(d,i,z)::r:=by
 obtain⟨y,h1,h2⟩:=zaa (show(sv e (.fz d::ρn)).bind _=some ks from h);split at h2
 ·rename_i i z hy
  obtain⟨r,h3,h4⟩:=zab h2;exact⟨y,i,z,r,h1,hy,h3,h4.symm⟩
 ·cases h2
theorem qE{B:Hp}{v:V}{i:Int}{z:Str}(h:Rep B v (.tuple [.int i,.str z])):∃p,v=.ref p/\B p=some (.tup [.int i,.str z]):=by
 cases h with
 |tup h r=>
  cases r with
  |cons a r=>
   cases r with
   |cons b r=>
    cases r;cases a;cases b;exact⟨_,rfl,h⟩
theorem Rel.tabs{F:Fr}{B H H2:Hp}{σ:St}{ρ:Rho}(R:Rel F B H σ ρ)(sm:aE H H2)(nn:∀b,H b=none->H2 b=none\/∃m,H2 b=some (.tbl m)):Rel F B H2 σ ρ:=by
 have back:∀q o,H2 q=some o->(∀m,o≠.tbl m)->H q=some o:=λq o h n=>by
  cases e:H q with
  |some u=>rw[sm q u e]at h;exact h
  |none=>
   rcases nn q e with z|⟨m,z⟩
   ·rw[z]at h;cases h
   ·rw[z]at h;cases h;exact absurd rfl (n m)
 exact R.grow (aE.refl _) sm (R.sub.trans sm) (λq _ z=>z) (λq xs h=>R.cO q xs (back q _ h λm z=>by cases z)) λq o u h z=>by rw[back q _ h λm z=>by cases z]at z;cases z
theorem Fv{K:zag}{fr:List (Str×Nat)}{tl te:TE}{l e:PM}(hl:ME tl l)(he:ME te e):ME (GQ K fr tl te) (Dm fr l e):=by
 intro F B H σ ρ r0 ρ' Q R e0 q;obtain⟨x,e1,e0⟩:=zaa e0;obtain⟨r1,ρ1⟩:=x;split at e0
 case h_2=>cases e0
 rename_i ds hx
 obtain rfl:r1=(.list ds,.fz):=hx;obtain⟨ks,e2,e0⟩:=zaa e0;split at e0
 case h_2=>cases e0
 rename_i b0 zN
 cases e0;refine hl F B H σ ρ _ ρ1 _ R e1 λv B1 H1 E1 R1 V1 N1=>?_
 have V1':Rep B1 v (.list ds):=V1;cases V1' with
 |lst hrd rps=>
 rename_i a xs
 match ds,rps,e2 with
 | [],_,e2=>cases e2
 |d0::ds,.cons (x:=v0) (xs:=xs) rv0 rps,e2=>
 obtain⟨y,i0,z0,r,k1,k2,k3,k4⟩:=sL e2;obtain⟨rfl,rfl⟩:b0=(d0,i0,z0)/\zN=r:=by cases k4;exact⟨rfl,rfl⟩
 refine⟨a,v0::xs,v0,rfl,hX (dy R1.sub hrd),rfl,λH2 sm nn=>?_⟩
 have R2:Rel F B1 H2 σ ρ1:=R1.tabs sm nn;have Ri:=R2.inner fr rv0;refine he.sv (F0 H2) B1 H2 _ _ y.1 y.2 _ Ri k1 λu B3 H3 E3 R3 V3 N3=>?_
 obtain⟨eH3,nb3⟩:=gk fg E3;have R3o:Rel F B3 H3 σ ρ1:=R2.grow E3.sB eH3 R3.sub nb3 R3.cO R3.nz;rw[k2]at V3;have V3':Rep B3 u (.tuple [.int i0,.str z0]):=V3;have nbA:∀q,H1 q≠none->B1 q=none->B3 q=none:=λq h z=>nb3 q (λy=>h (sm.free y)) z
 refine⟨λi b kb H4=>1<=i/\i<=(d0::ds).length/\∃B4 bd rest,aE B1 B4/\aE H1 H4/\(∀q,H1 q≠none->B1 q=none->B4 q=none)/\Rel F B4 H4 σ ρ1/\Rep B4 b bd.1/\Rep B4 kb (.tuple [.int bd.2.1,.str bd.2.2])/\
   wX e (fr.map λp=>bI ρ1 p.2) ((d0::ds).drop i)=some rest/\l9 bd rest=l9 (d0,i0,z0) zN,
  ⟨zap _,by simp,B3,(d0,i0,z0),zN,E3.sB,sm.trans eH3,nbA,R3o,rv0.mono E3.sB,V3',k3,rfl⟩,?_⟩
 rintro i b kb H4 ⟨h1,hil,B4,bd,rest,eB,eH,nb,R4,rb,rk,hk,hb⟩
 refine⟨hX (dy R4.sub (dy eB hrd)),λhle=>?_,λv hv=>?_⟩
 ·have hi:i=(d0::ds).length:=by
   have:=rps.length;simp only[List.length_cons]at hle hil⊢;omega
  rw[hi,List.drop_length]at hk;cases hk;have E4:Ext σ ρ1 B1 H1 ρ1 B4 H4:=Ext.grow eB eH nb;refine q b B4 H4 (E1.trans E4) R4 ?_ (λp z=>by cases z)
  show Rep B4 b (l9 (d0,i0,z0) zN).1;rw[<-hb];exact rb
 ·obtain⟨c,hc,rc⟩:=(aQ.cons rv0 rps).HL i v hv
  have hlt:i<(d0::ds).length:=(zac hc).1;rw[zbb hlt]at hk;have hce:(d0::ds)[i]=c:=(zac hc).2;rw[hce]at hk;obtain⟨y',i',z',r',k1',k2',k3',k4'⟩:=sL hk;subst k4';have Ri':=R4.inner fr (rc.mono eB);refine he.sv (F0 H4) B4 H4 _ _ y'.1 y'.2 _ Ri' k1' λu' B5 H5 E5 R5 V5 N5=>?_
  obtain⟨eH5,nb5⟩:=gk fg E5;have R5o:Rel F B5 H5 σ ρ1:=R4.grow E5.sB eH5 R5.sub nb5 R5.cO R5.nz;rw[k2']at V5;have V5':Rep B5 u' (.tuple [.int i',.str z']):=V5;obtain⟨pu,rfl,hpu⟩:=qE V5';obtain⟨pk,rfl,hpk⟩:=qE (rk.mono E5.sB);have J3:∀q,H1 q≠none->B1 q=none->B5 q=none:=λq h z=>nb5 q (λy=>h (eH.free y)) (nb q h z)
  refine⟨pu,pk,i',z',bd.2.1,bd.2.2,rfl,rfl,.inl (.inl (R5o.sub _ _ hpu)),.inl (.inl (R5o.sub _ _ hpk)),_,rfl,?_⟩;simp only[l9]at hb
  by_cases hp:a0 i' z' bd.2.1 bd.2.2=true
  ·rw[if_pos hp]
   rw[if_pos hp]at hb;exact⟨by omega,hlt,B5,(c,i',z'),r',eB.trans E5.sB,eH.trans eH5,J3,R5o,(rc.mono eB).mono E5.sB,V5',k3',hb⟩
  ·rw[if_neg hp]
   rw[if_neg hp]at hb;exact⟨by omega,hlt,B5,bd,r',eB.trans E5.sB,eH.trans eH5,J3,R5o,rb.mono E5.sB,rk.mono E5.sB,k3',hb⟩
end
end Mir
namespace L2
open PySem
theorem eI.lam{j k:Nat}{A:Around}(r:eI k A)(h:j+2<=k)(env:Env):eI j (A.in1.deeper env):=(eI.in1 (k:=j+1) (r.mono h)).deeper env
theorem Fw{K:zag}{ts:List Addr}{h:Heap}(e:((gF K).all λx=>ts.contains x.2.1)=true)(t:∀T∈ts,h.get? T=some (PySem.W.tabObj #[])):∀c T ps,gF K=some (c,T,ps)->h.get? T=some (PySem.W.tabObj #[]):=λc T ps z=>by
 rw[z]at e;exact t T (by simpa using e)
end L2
namespace Mir
open PySem L2
section
variable [Zc]
def pairD:D->Option (Int×Str)
 | .tuple [.int i,.str z]=>some (i,z)
 |_=>none
def pkD(ds:List D)(i:Nat):Int×Str:=((ds[i]?).bind pairD).getD (0,"")
def wY:List D->Option (D×Bool)
 | [.list ds]=>if(ds.all λd=>(pairD d).isSome)=true then(ds[argBest (btK (pkD ds)) (ds.length-1)]?).map λd=>(d,false)else none
 |_=>none
theorem Dn{d:D}{p:Int×Str}(h:pairD d=some p):d=.tuple [.int p.1,.str p.2]:=by
 unfold pairD at h;split at h
 ·cases h;rfl
 ·cases h
theorem ID{K:zag}:lZ (GU K) wY:=by
 intro B H vs ds res s h e;unfold wY at e;split at e
 ·rename_i l
  split at e
  ·rename_i hall
   obtain⟨d,h1,h2⟩:=zab e;cases h2;obtain⟨v,rfl,hv⟩:=gm h;obtain⟨p,xs,rfl,hr,rp⟩:=hv.list s;obtain⟨x,hx,rx⟩:=rp.get _ d h1;rw[<-rp.length]at hx;refine⟨x,rx,λQ q=>⟨p,xs,pkD l,x,rfl,hX hr,λi y hy=>?_,hx,q⟩⟩
   obtain⟨c,hc,rc⟩:=rp.HL i y hy;have hp:=List.all_eq_true.mp hall c (zaj hc);obtain⟨pr,hpr⟩:=Option.isSome_iff_exists.mp hp;have e2:pkD l i=pr:=by unfold pkD;rw[hc];show(pairD c).getD _=_;rw[hpr];rfl
   rw[Dn hpr]at rc;obtain⟨a,rfl,ha⟩:=qE rc;exact⟨a,rfl,by rw[e2];exact .inl (.inl (s _ _ ha))⟩
  ·cases e
 ·cases e
end
end Mir
namespace aI
open PySem
structure Row where
 key:Int
 above:Option Str
 mark:Bool
 below:List Str
section
variable{α:Type} [DecidableEq α]
theorem iQ:∀(l k:List α),l.Nodup->(∀x∈l,x∈k)->l.length<=k.length
 | [],_,_,_=>Nat.zero_le _
 |a::l,k,h,hs=>by
  have ha:=hs a zas;have hn:=List.nodup_cons.mp h;have:=iQ l (k.erase a) hn.2 λx hx=>(List.mem_erase_of_ne (λe=>hn.1 (by rw[<-e];exact hx))).mpr (hs x (zak _ hx))
  rw[List.length_erase_of_mem ha]at this;have : 0<k.length:=List.length_pos_of_mem ha;rw[zaw];omega
end
variable(keys:List Str)(row:Str->Row)
def GV:Nat->Option Str->Option Str
 |0,x=>x
 |_+1,none=>none
 |k+1,some n=>if n∈keys then GV k (row n).above else some n
def reach:Nat->Str->Bool
 |0,_=>false
 |k+1,n=>if n∈keys then(match(row n).above with
  |none=>true
  |some a=>reach k a)else false
variable(lt:Int->Str->Int->Str->Bool)
structure K3(aj:List Str):Prop where
 aj:aj.Perm (keys.filter λn=>(row n).above.isNone)
 mark:∀n∈keys,(row n).above=none->(row n).mark=false
 up:∀n∈keys,∀a,(row n).above=some a->a∈keys/\(row a).below.count n=1/\lt (row n).key n (row a).key a=false
 down:∀n∈keys,∀(i:Nat) (l:Str),(row n).below[i]?=some l->l∈keys/\(row l).above=some n/\(i:Int)-(if(row l).mark then 1 else 0)<=((row l).below.length:Int)
 come:∀n∈keys,GV keys row keys.length (some n)=none
structure K4(aj:List Str):Prop where
 La:∀n∈aj,aj.count n=1/\n∈keys/\(row n).above=none
 top2:∀n∈keys,(row n).above=none->n∈aj
 mark:∀n∈keys,(row n).above=none->(row n).mark=false
 up:∀n∈keys,∀a,(row n).above=some a->a∈keys/\n∈(row a).below/\lt (row n).key n (row a).key a=false
 down:∀n∈keys,∀(i:Nat) (l:Str),(row n).below[i]?=some l->l∈keys/\l∉(row n).below.take i/\(row l).above=some n/\(i:Int)-(if(row l).mark then 1 else 0)<=((row l).below.length:Int)
 come:∀n∈keys,reach keys row (keys.length+1) n=true
end aI
set_option maxHeartbeats 4000000
namespace K74
open PySem L2 Mir
def il:SM :=
  (cg (dR 5 (mOp gIx (ah 0) (mOp d7 (mOp gK (ah 2) (ah 3)) (mCB cH (ak (ah 0) aF)))))
  (cg (dR 6 (mOp gIx (ah 0) (mOp d7 (mOp gK (ah 2) (ah 4)) (mCB cH (ak (ah 0) aF)))))
  (gY (aN (mOp gEq (mCB cH (ak (mOp gIx (mOp eu (ah 1) (ah 5)) (mC (.int 3))) aF)) (mCB cH (ak (mOp gIx (mOp eu (ah 1) (ah 6)) (mC (.int 3))) aF))))
  (fH (iJ (ak (ah 5) (ak (ah 6) aF))))
  gH)))
def m3:SM :=
  (v7 (tT (ak (ah 3) aF)) (mgN 4)
  il)
def yo:SM :=
  (cg (v7 (tT (ak (mCB cH (ak (ah 0) aF)) aF)) (mgN 3)
  m3)
  (fH (iJ aF)))
def jP:List D->Option (D×Bool):=fnM 3 4 yo
def wZ:Rho->Option (Bool×Rho) :=
  (aN (mOp gNe (ah 0) (ah 1)))
def w6:PM :=
  (ah 0)
def oX:Rho->Option (Bool×Rho) :=
  (aN (ah 4))
def kN:SM :=
  (cg (oI (mOp eu (ah 1) (ah 2)) (mgU 4 (bK (mgN 5) (bK (mgN 6) (bK (mgN 7) (bK (mgN 8) gZ))))))
  (cg (kh 1 (f9 (ak (ah 5) (ak (mC .none) (ak (mC (.bool false)) (ak (ah 8) aF))))) (ah 2))
  (cg (gJ (rA 0 ie (ak (ah 2) aF)))
  (cg (gJ (rA 3 ie (ak (f9 (ak (mC (.str "cut")) (ak (ah 2) aF))) aF)))
  (cg (oI (mOp eu (ah 1) (ah 6)) (mgU 4 (bK (mgN 5) (bK (mgN 9) (bK (mgN 10) (bK (mgN 8) gZ))))))
  (cg (dR 8 (mCB uz (ak (mLC [("_law_name",2)] (vW (ah 8)) wZ w6) aF)))
  (cg (kh 1 (f9 (ak (ah 5) (ak (ah 9) (ak (mOp nU (ah 9) (mC .none)) (ak (ah 8) aF))))) (ah 6))
  (cg (dR 4 (ah 10))
  (dR 2 (ah 6))))))))))
def AZ:SM :=
  (cg (dR 3 (iJ aF))
  (cg (dR 4 (mOp nU (mOp gIx (mOp eu (ah 1) (ah 2)) (mC (.int 1))) (mC .none)))
  (cg (fI oX
  kN 1000000)
  (fH (ah 3)))))
def iD:List D->Option ((D×Bool)×D×D):=fnJ 3 8 AZ
def uH:SM :=
  (fH (mOp AS (f9 (ak (mOp gIx (mOp eu (ah 0) (ah 1)) (mC (.int 0))) (ak (ah 1) aF))) (f9 (ak (mOp gIx (mOp eu (ah 0) (ah 2)) (mC (.int 0))) (ak (ah 2) aF)))))
def df:List D->Option (D×Bool):=fnM 3 0 uH
def yp:SM :=
  (cg (oI (mOp eu (ah 1) (ah 2)) (mgU 4 (bK (mgN 4) (bK (mgN 5) (bK (mgN 6) (bK (mgN 7) gZ))))))
  (cg (kh 1 (f9 (ak (ah 4) (ak (ah 3) (ak (mC (.bool false)) (ak (ah 7) aF))))) (ah 2))
  (cg (oI (mOp eu (ah 1) (ah 3)) (mgU 4 (bK (mgN 4) (bK (mgN 5) (bK (mgN 6) (bK (mgN 7) gZ))))))
  (cg (kh 1 (f9 (ak (ah 4) (ak (ah 5) (ak (ah 6) (ak (mOp oV (ah 7) (f9 (ak (ah 2) aF))) aF))))) (ah 3))
  (gJ (rA 0 lM (ak (ah 2) aF)))))))
def eA:List D->Option ((D×Bool)×D×D):=fnJ 4 4 yp
def rD:SM :=
  (cg (dR 1 (mC (.str "abcdefghijklmnopqrstuvwxyz")))
  (cg (dR 2 (mOp gK (mOp uA (ah 1) (mOp d7 (mOp lU (ah 0) (mC (.int 52))) (mC (.int 26)))) (mOp uA (ah 1) (mOp d7 (mOp lU (ah 0) (mC (.int 2))) (mC (.int 26))))))
  (cg (gY (aN (mOp gEq (mOp d7 (ah 0) (mC (.int 2))) (mC (.int 1))))
  (dR 2 (mOp gK (ah 2) (mOp gIx (iJ (ak (mC (.str "a")) (ak (mC (.str "zz")) (ak (mC (.str "aaa")) (ak (mC (.str "zzzz")) (ak (mC (.str "bbbbb")) (ak (mC (.str "zzzzzz")) aF))))))) (mOp d7 (mOp lU (ah 0) (mC (.int 2))) (mC (.int 6))))))
  gH)
  (fH (ah 2)))))
def cL:List D->Option (D×Bool):=fnM 1 2 rD
def uI:SM :=
  (cg (gY (aN (mOp gEq (mOp d7 (ah 0) (mC (.int 3))) (mC (.int 0))))
  (fH (mOp rj (mOp d7 (mOp lU (ah 0) (mC (.int 3))) (mC (.int 5))) (mC (.int 2))))
  gH)
  (cg (gY (aN (mOp gEq (mOp d7 (ah 0) (mC (.int 3))) (mC (.int 1))))
  (fH (mOp rj (mOp d7 (mOp lU (ah 0) (mC (.int 3))) (mC (.int 61))) (mC (.int 30))))
  gH)
  (fH (mOp rj (mOp d7 (mOp lU (ah 0) (mC (.int 3))) (mOp gK (mOp v8 (mC (.int 2)) (mOp Cf (mC (.int 10)) (mC (.int 59)))) (mC (.int 1)))) (mOp Cf (mC (.int 10)) (mC (.int 59)))))))
def dh:List D->Option (D×Bool):=fnM 1 0 uI
def gC:SM :=
  (cg (dR 6 (mOp lU (ah 5) (mC (.int 5))))
  (cg (dR 7 (cK jP (ak (ah 2) (ak (ah 3) (ak (mOp d7 (ah 6) (mC (.int 97))) aF)))))
  (cg (dR 8 (mCB uw (ak (ah 3) aF)))
  (gY (nR (aN (mOp gEq (mOp d7 (ah 5) (mC (.int 5))) (mC (.int 4)))) (aN (mOp gGt (mCB cH (ak (ah 8) aF)) (mC (.int 0)))))
  (gJ (jM 2 3 iD (ak (mOp gIx (ah 8) (mOp d7 (ah 6) (mCB cH (ak (ah 8) aF)))) aF)))
  (gY (nR (aN (mOp gGt (mOp d7 (ah 5) (mC (.int 5))) (mC (.int 0)))) (aN (mOp gNe (ah 7) (iJ aF))))
  (cg (gY (aN (cK df (ak (ah 3) (ak (mOp gIx (ah 7) (mC (.int 0))) (ak (mOp gIx (ah 7) (mC (.int 1))) aF)))))
  (gJ (sh 7 mM))
  gH)
  (gJ (jM 2 3 eA (ak (mOp gIx (ah 7) (mC (.int 0))) (ak (mOp gIx (ah 7) (mC (.int 1))) aF)))))
  (cg (dR 9 (cK cL (ak (mOp gK (ah 1) (ah 4)) aF)))
  (cg (kh 3 (f9 (ak (cK dh (ak (ah 6) aF)) (ak (mC .none) (ak (mC (.bool false)) (ak (f9 aF) aF))))) (ah 9))
  (gJ (rA 2 ie (ak (ah 9) aF))))))))))
def uJ:Rho->Option (D×D) :=
  (mO (dR 2 (iJ aF))
  (mO (dR 3 zy)
  (mO (v7 (J0 (ak (ah 0) aF)) (mgU 2 (bK (mgN 4) (bK (mgN 5) gZ)))
  gC)
  (zf 2 3))))
def gO:List D->Option (D×D):=fnD 2 8 uJ
def w8(self:List D->Option ((D×Bool)×D)):SM :=
  (cg (dR 5 (cK cL (ak (mCB fR (ak (ah 0) aF)) aF)))
  (cg (kh 0 (f9 (ak (ah 4) (ak (ah 2) (ak (ah 3) (ak (f9 aF) aF))))) (ah 5))
  (cg (dR 6 (Iw [("_law_held",0),("_law_name",5),("_law_key",4)] 0 0 (tT (ak (ah 1) aF)) self (ak (mCB t5 (ak (mC (.int 0)) (ak (mOp rj (ah 0) (mC (.int 1))) aF))) (ak (ah 2) (ak (mOp gGt (ah 0) (mC (.int 0))) (ak (mOp gK (ah 3) (mC (.int 1))) aF))))))
  (cg (kh 0 (f9 (ak (ah 4) (ak (ah 2) (ak (ah 3) (ak (mCB uz (ak (ah 6) aF)) aF))))) (ah 5))
  (fH (ah 5))))))
def eC:Nat->List D->Option ((D×Bool)×D)
 |0=>λ_=>none
 |n+1=>fnI 5 2 (w8 (eC n))
def md:SM :=
  (cg (dR 4 (cK cL (ak (mCB fR (ak (ah 1) aF)) aF)))
  (cg (kh 1 (f9 (ak (cK dh (ak (ah 3) aF)) (ak (mC .none) (ak (mC (.bool false)) (ak (f9 aF) aF))))) (ah 4))
  (gJ (rA 2 ie (ak (ah 4) aF)))))
def uK:Rho->Option (D×D) :=
  (AA (mOr (aN (mOp gEq (ah 0) (iJ aF))) (aN (mOp gNe (mOp d7 (mOp gIx (ah 0) (mC (.int 0))) (mC (.int 7))) (mC (.int 6))))) (Cu gO (ak (ah 0) (ak (mC (.int 0)) aF)))
  (mO (dR 1 zy)
  (mO (dR 2 (iJ (ak (ue 1 (eC 12) (ak (mOp d7 (mOp lU (mOp gIx (ah 0) (mC (.int 0))) (mC (.int 7))) (mC (.int 10))) (ak (mC .none) (ak (mC (.bool false)) (ak (cK dh (ak (mOp lU (mOp gIx (ah 0) (mC (.int 0))) (mC (.int 70))) aF)) aF))))) aF)))
  (mO (v7 (B7 (mSl gSl (ah 0) (hW (mC (.int 1))) (hW (mC (.int 12))))) (mgN 3)
  md)
  (zf 2 1)))))
def gP:List D->Option (D×D):=fnD 1 4 uK
def ki:Rho->Option (Bool×Rho) :=
  (aN (mOp gIx (mOp eu (mOp gIx (ah 1) (mC (.int 1))) (ah 0)) (mC (.int 2))))
def kj:PM :=
  (ah 0)
def rE:SM :=
  (cg (dR 1 (AQ [("pile",0)] (Ir (oR 0) 1) ki kj))
  (fH (mOp gK (mCB cH (ak (mOp gIx (ah 0) (mC (.int 0))) aF)) (mOp v8 (mC (.int 2)) (mCB cH (ak (ah 1) aF))))))
def eX:List D->Option (D×Bool):=fnM 1 1 rE
def yq:SM :=
  (fH (f9 (ak (mOp gIx (mOp eu (ah 0) (ah 1)) (mC (.int 0))) (ak (ah 1) aF))))
def c8:List D->Option (D×Bool):=fnM 2 0 yq
def dF:PM :=
  (cK c8 (ak (mOp gIx (ah 1) (mC (.int 1))) (ak (ah 0) aF)))
def uL:SM :=
  (cg (gY (aN (mOp gEq (mCB cH (ak (mOp gIx (ah 0) (mC (.int 0))) aF)) (mC (.int 0))))
  Cc
  gH)
  (fH (Dm [("pile",0)] (mOp gIx (ah 0) (mC (.int 0))) dF)))
def iq:List D->Option (D×Bool):=fnM 1 0 uL
def IF:SN :=
  (cI (dW (nO (mOp eu (ah 0) (ah 1))) (ngN 3))
  (cI (l8 (bH 0) (bH 1) (kH (aS (nIx (bH 3) (nLit (.int 0))) (aS (bH 2) (aS (nLit (.bool false)) (aS (nIx (bH 3) (nLit (.int 3))) cM))))))
  (cI (dW (nO (mOp eu (ah 0) (ah 2))) (ngN 3))
  (l8 (bH 0) (bH 2) (kH (aS (nIx (bH 3) (nLit (.int 0))) (aS (nIx (bH 3) (nLit (.int 1))) (aS (nIx (bH 3) (nLit (.int 2))) (aS (nO (mOp oV (mOp gIx (ah 3) (mC (.int 3))) (f9 (ak (ah 1) aF)))) cM)))))))))
def uM:FN:=fnS 3 1 IF
def kP:Rho->Option (Bool×Rho) :=
  (aN (mOp gIs (mOp gIx (mOp eu (ah 1) (ah 0)) (mC (.int 1))) (mC .none)))
def kQ:PM :=
  (ah 0)
def kR:MN Bool :=
  (nTo (aN (mOp CU (mCB cH (ak (mOp gIx (mOp eu (ah 1) (ah 5)) (mC (.int 3))) aF)) (ah 2))))
def kS:SN :=
  (cI (dW (oU (bH 2) (aS (nO (mCB cH (ak (mOp gIx (mOp eu (ah 1) (ah 5)) (mC (.int 3))) aF))) cM)) (ngN 6))
  (cI (ml (nTo (aN (mOp AS (cK c8 (ak (ah 1) (ak (ah 6) aF))) (cK c8 (ak (ah 1) (ak (ah 5) aF))))))
  (cI (dW (bH 6) (ngN 7))
  (cI (dW (bH 5) (ngN 6))
  (dW (bH 7) (ngN 5))))
  kI)
  (cI (jr (l7 uM (aS (bH 1) (aS (bH 6) (aS (bH 5) cM)))))
  (jr (wC (bH 3) (aS (kH (aS (nLit (.str "hang")) (aS (bH 6) (aS (bH 5) cM)))) cM))))))
def kT:SN :=
  (cI (dW (bH 4) (ngN 5))
  (cI (fQ [0,1,2,3,4,5] kR
  kS 1000000)
  (l8 (bH 2) (nO (mCB cH (ak (mOp gIx (mOp eu (ah 1) (ah 5)) (mC (.int 3))) aF))) (bH 5))))
def uN:SN :=
  (cI (dW (nO (mCB n0 (ak (mOp gIx (ah 0) (mC (.int 1))) aF))) (ngN 1))
  (cI (dW (nO zy) (ngN 2))
  (cI (dW (CA cM) (ngN 3))
  (cI (wz [0,1,2,3] (nIx (bH 0) (nLit (.int 0))) (ngN 4)
  kT)
  (kJ (kH (aS (kH (aS (nO (mLC [("held",1)] (o7 (mOp gIx (ah 0) (mC (.int 0)))) kP kQ)) (aS (bH 1) cM))) (aS (bH 3) cM))))))))
def ir:FN:=fnS 1 7 uN
def Dp:SM :=
  (fH (f9 (ak (mOp gIx (ah 0) (mC (.int 0))) (ak (mC .none) (ak (mC (.bool false)) (ak (mOp gIx (ah 0) (mC (.int 3))) aF))))))
def m4:List D->Option (D×Bool):=fnM 1 0 Dp
def m5:SN :=
  (cI (l8 (bH 2) (bH 6) (nO (cK m4 (ak (mOp eu (ah 2) (ah 6)) aF))))
  (cI (jr (wC (bH 4) (aS (bH 6) cM)))
  (jr (wC (bH 5) (aS (kH (aS (nLit (.str "free")) (aS (bH 6) cM))) cM)))))
def ng:Rho->Option (Bool×Rho) :=
  (aN (mOp gNe (ah 0) (ah 1)))
def nh:PM :=
  (ah 0)
def yr:SN :=
  (cI (dW (nO (mCB n0 (ak (mOp gIx (ah 0) (mC (.int 1))) aF))) (ngN 2))
  (cI (dW (oU (bH 2) (aS (bH 1) cM)) (ngN 3))
  (cI (dW (nO (mLC [("name",1)] (o7 (mOp gIx (ah 0) (mC (.int 0)))) ng nh)) (ngN 4))
  (cI (dW (CA cM) (ngN 5))
  (cI (CF [0,1,2,3,4,5,7] (vW (mOp gIx (ah 3) (mC (.int 3)))) (ngN 6)
  m5)
  (cI (dW (l7 ir (aS (kH (aS (bH 4) (aS (bH 2) cM))) cM)) (ngN 7))
  (kJ (kH (aS (nIx (bH 3) (nLit (.int 0))) (aS (nIx (bH 7) (nLit (.int 0))) (aS (nO (mOp gK (ah 5) (mOp gIx (ah 7) (mC (.int 1))))) cM)))))))))))
def jQ:FN:=fnS 2 6 yr
def uO:SN :=
  (cI (dW (nO (cK iq (ak (ah 0) aF))) (ngN 1))
  (cI (dW (l7 jQ (aS (bH 0) (aS (bH 1) cM))) (ngN 2))
  (kJ (kH (aS (bH 1) (aS (nIx (bH 2) (nLit (.int 0))) (aS (nIx (bH 2) (nLit (.int 1))) (aS (nIx (bH 2) (nLit (.int 2))) cM))))))))
def iu:FN:=fnS 1 2 uO
def kU:Rho->Option (Bool×Rho) :=
  (aN (mOp gLe (ah 3) (ah 0)))
def kW:SM :=
  (cg (dR 4 (mOp gK (ah 2) (ah 3)))
  (cg (dR 2 (ah 3))
  (cg (dR 3 (ah 4))
  (Et 1 (λi j=>i+j) (mC (.int 1))))))
def uP:SM :=
  (cg (dR 1 (mC (.int 0)))
  (cg (dR 2 (mC (.int 1)))
  (cg (dR 3 (mC (.int 2)))
  (cg (fI kU
  kW 1000000)
  (fH (ah 1))))))
def iw:List D->Option (D×Bool):=fnM 1 4 uP
def ou:SM :=
  (cg (gY (mOr (gG (aN (lW "tuple" (ah 2)))) (mOr (aN (mOp gNe (mCB cH (ak (ah 2) aF)) (mC (.int 3)))) (mOr (aN (mOp gNe (mOp gIx (ah 2) (mC (.int 0))) (mC (.str "hang")))) (aN (mOp gEq (mOp gIx (ah 2) (mC (.int 1))) (mOp gIx (ah 2) (mC (.int 2))))))))
  (fH (mC (.bool false)))
  gH)
  (cg (gY (mOr (aN (mOp mW (mOp gIx (ah 2) (mC (.int 1))) (ah 0))) (mOr (aN (mOp mW (mOp gIx (ah 2) (mC (.int 2))) (ah 0))) (gG (aN (cK df (ak (ah 1) (ak (mOp gIx (ah 2) (mC (.int 2))) (ak (mOp gIx (ah 2) (mC (.int 1))) aF))))))))
  (fH (mC (.bool false)))
  gH)
  (fH (mOp gEq (mCB cH (ak (mOp gIx (mOp eu (ah 1) (mOp gIx (ah 2) (mC (.int 1)))) (mC (.int 3))) aF)) (mCB cH (ak (mOp gIx (mOp eu (ah 1) (mOp gIx (ah 2) (mC (.int 2)))) (mC (.int 3))) aF))))))
def eN:List D->Option (D×Bool):=fnM 3 0 ou
def fT:PM :=
  (mCB cH (ak (mOp gIx (mOp eu (ah 1) (ah 0)) (mC (.int 3))) aF))
def kX:SN :=
  (cI (ml (nTo (gG (aN (cK eN (ak (ah 0) (ak (ah 1) (ak (ah 10) aF)))))))
  (kJ (nLit (.bool false)))
  kI)
  (jr (uC eA (aS (bH 0) (aS (bH 1) (aS (nIx (bH 10) (nLit (.int 1))) (aS (nIx (bH 10) (nLit (.int 2))) cM)))))))
def kY:PM :=
  (f9 (ak (mC (.str "free")) (ak (ah 0) aF)))
def kZ:SN :=
  (cI (dW (nO (mOp eu (ah 1) (ah 5))) (ngT 4 (gB 6 (gB 7 (gB 8 (gB 9 uj))))))
  (cI (l8 (bH 1) (bH 5) (kH (aS (bH 6) (aS (nLit .none) (aS (nLit (.bool false)) (aS (bH 9) cM))))))
  (jr (wC (bH 0) (aS (bH 5) cM)))))
def uQ:SN :=
  (cI (dW (nIx (oU (bH 1) (aS (bH 2) cM)) (nLit (.int 3))) (ngN 4))
  (cI (jr (nMt lM (bH 0) (aS (bH 2) cM)))
  (cI (CF [0,1,2,3,4,10] (vW (ah 4)) (ngN 5)
  kZ)
  (cI (ml (nTo (aN (mOp gNe (mSl gSl (ah 3) gy (hW (mCB cH (ak (ah 4) aF)))) (mLC [] (vW (ah 4)) pZ kY))))
  (kJ (nLit (.bool false)))
  kI)
  (cI (wz [0,1,2,3,4,5,6,7,8,9] (nO (mSl gSl (ah 3) (hW (mCB cH (ak (ah 4) aF))) gy)) (ngN 10)
  kX)
  (kJ (nO (mOp gEq (ot (mLC [("_law_held",1)] (o7 (ah 0)) pZ fT)) (mCB cH (ak (ah 0) aF))))))))))
def ix:FN:=fnS 4 7 uQ
def qF:SM :=
  (cg (gY (mOr (gG (aN (lW "tuple" (ah 0)))) (mOr (aN (mOp gNe (mCB cH (ak (ah 0) aF)) (mC (.int 4)))) (gG (aN (lW "tuple" (mOp gIx (ah 0) (mC (.int 3))))))))
  (fH (mC (.bool false)))
  gH)
  (cg (gY (mOr (aN (lW "bool" (mOp gIx (ah 0) (mC (.int 0))))) (gG (aN (lW "bool" (mOp gIx (ah 0) (mC (.int 2)))))))
  (fH (mC (.bool false)))
  gH)
  (fH (mOp gEq (ah 0) (ah 1)))))
def fU:List D->Option (D×Bool):=fnM 2 0 qF
def fc:SM :=
  (gY (mOr (aN (mOp mU (ah 3) (mOp gIx (ah 0) (mC (.int 1))))) (gG (aN (cK fU (ak (mOp eu (mOp gIx (ah 0) (mC (.int 1))) (ah 3)) (ak (ah 4) aF))))))
  (fH (mC (.bool false)))
  gH)
def rF:SM :=
  (cg (gY (mOr (gG (aN (mZ "tuple" (ah 0)))) (mOr (aN (mOp gNe (mCB cH (ak (ah 0) aF)) (mC (.int 2)))) (mOr (gG (aN (mZ "list" (mOp gIx (ah 0) (mC (.int 0)))))) (aN (mOp gNe (mOp gIx (ah 0) (mC (.int 0))) (ah 1))))))
  (fH (mC (.bool false)))
  gH)
  (cg (gY (mOr (gG (aN (mZ "dict" (mOp gIx (ah 0) (mC (.int 1)))))) (aN (mOp gNe (mCB fR (ak (mOp gIx (ah 0) (mC (.int 1))) aF)) (mCB fR (ak (ah 2) aF)))))
  (fH (mC (.bool false)))
  gH)
  (cg (zI (oR 2) (mgU 2 (bK (mgN 3) (bK (mgN 4) gZ)))
  fc)
  (fH (mC (.bool true))))))
def cY:List D->Option (D×Bool):=fnM 3 2 rF
def me:PM :=
  (f9 (ak (mOp gIx (mOp eu (ah 1) (ah 0)) (mC (.int 0))) (ak (ah 0) aF)))
def w9:SN :=
  (cI (dW (nO (mOp v8 (mC (.int 2)) (cK iw (ak (mCB fR (ak (ah 2) aF)) aF)))) (ngN 3))
  (cI (dW (nO (cK eX (ak (ah 0) aF))) (ngN 4))
  (cI (dW (l7 iu (aS (bH 0) cM)) (ngN 5))
  (cI (ml (nTo (mOr (gG (aN (lW "tuple" (ah 5)))) (mOr (aN (mOp gNe (mCB cH (ak (ah 5) aF)) (mC (.int 4)))) (gG (aN (lW "list" (mOp gIx (ah 5) (mC (.int 3)))))))))
  (kJ (nLit .none))
  kI)
  (cI (dW (nO (mCB wY (ak (AQ [("_law_held",2)] (oR 2) pZ me) aF))) (ngT 2 (gB 6 (gB 7 uj))))
  (cI (ml (nTo (mOr (aN (mOp gNe (mOp gIx (ah 5) (mC (.int 0))) (ah 7))) (mOr (aN (mOp gNe (mOp gIx (ah 5) (mC (.int 1))) (ah 6))) (aN (lW "bool" (mOp gIx (ah 5) (mC (.int 1))))))))
  (kJ (nLit .none))
  kI)
  (cI (ml (nOr (EM (wu (l7 ix (aS (bH 1) (aS (bH 2) (aS (bH 7) (aS (nIx (bH 5) (nLit (.int 3))) cM))))))) (nTo (gG (aN (cK cY (ak (mOp gIx (ah 5) (mC (.int 2))) (ak (ah 1) (ak (ah 2) aF))))))))
  (kJ (nLit .none))
  kI)
  (cI (ml (nTo (aN (mOp gGt (mOp gK (mCB cH (ak (mOp gIx (ah 5) (mC (.int 3))) aF)) (cK eX (ak (mOp gIx (ah 5) (mC (.int 2))) aF))) (mOp gK (ah 4) (ah 3)))))
  (kJ (nLit .none))
  kI)
  (kJ (bH 5))))))))))
def i5:FN:=fnS 3 5 w9
def zO:MN Bool :=
  (nTo (aN (mOp gGt (mCB fR (ak (ah 2) aF)) (ah 4))))
def uR:SN :=
  (cI (dW (kH (aS (nO (mCB zb (ak (ah 1) aF))) (aS (nO (mCB n0 (ak (ah 2) aF))) cM))) (ngN 5))
  (cI (dW (l7 i5 (aS (bH 3) (aS (bH 1) (aS (bH 2) cM)))) (ngN 6))
  (cI (ml (nTo (mOr (aN (mOp gIs (ah 6) (mC .none))) (gG (aN (cK cY (ak (ah 3) (ak (mOp gIx (ah 5) (mC (.int 0))) (ak (mOp gIx (ah 5) (mC (.int 1))) aF))))))))
  (kJ (nLit (.bool false)))
  kI)
  (cI (jr (Fh nV (nIx (bH 3) (nLit (.int 0)))))
  (cI (jr (zK (nIx (bH 3) (nLit (.int 1)))))
  (cI (jr (wC (nIx (bH 6) (nLit (.int 3))) (aS (nLit (.str "x")) cM)))
  (cI (ml (nTo (gG (aN (cK cY (ak (mOp gIx (ah 6) (mC (.int 2))) (ak (ah 1) (ak (ah 2) aF)))))))
  (kJ (nLit (.bool false)))
  kI)
  (dW (nIx (bH 6) (nLit (.int 2))) (ngN 3)))))))))
def zP:SN :=
  (cI (dW (yj gP (aS (nO (mSl gSl (ah 0) gy (hW (mC (.int 60))))) cM)) (ngT 2 (gB 1 (gB 2 uj))))
  (cI (dW (kH (aS (nO (mCB zb (ak (ah 1) aF))) (aS (nO (mCB n0 (ak (ah 2) aF))) cM))) (ngN 3))
  (cI (dW (nO (mCB t5 (ak (mC (.int 0)) (ak (mOp rj (mCB fR (ak (ah 2) aF)) (mOp gIx (iJ (ak (mC (.int 60)) (ak (mC (.int 8)) aF))) (mCB xT (ak (mOp gGt (mCB fR (ak (ah 2) aF)) (mC (.int 60))) aF)))) aF)))) (ngN 4))
  (cI (fQ [0,1,2,3,4] zO
  uR 1000000)
  (kJ (nO (vS (mOp gEq (mCB cH (ak (mOp gIx (ah 3) (mC (.int 0))) aF)) (mCB cH (ak (ah 1) aF))) (mOp gEq (mCB fR (ak (mOp gIx (ah 3) (mC (.int 1))) aF)) (ah 4)))))))))
def GW:List D->Option (D×Bool):=fnO 1 6 zP
local macro_rules | `(tactic| walk_at "mir") => `(tactic| simp only [*, fnM, cg, gY, aN, mOp, sv, ah, mC, mCB, ak, aF, mj, gB0, gI0, gI, gK, v8, KD, gIx, Ez, gSl, cH, t5, KG, KH, xT, gIs, nU, HU, HV, HW, asB, asI, mUn, lW, zc, zd, wa, Cm, Cj, Ck, wb, jH, l5, dU, isNone,
 nR,mOr,gG,vS,Kx,Jr,Ky,f9,iJ,hU,kC,dR,sto,hZ,fH,Js,gJ,gH,Et,xR,cK,Au,xV,Av,xW,xX,Aw,Ax,qe,qf,wc,wd,oM,KJ,KL,tT,Kz,rg1,rg2,o7,B7,asL,asT,v7,mgN,mgT,mgU,asS,bK,gZ,oI,Jt,qa,Mir.putAt,Sl.put,rA,sh,ie,KI,nV,
 List.length_cons,List.length_nil,List.map_cons,List.map_nil,List.cons_append,List.nil_append,List.replicate,List.getElem?_cons_zero,List.getElem?_cons_succ,List.getElem?_nil,List.set_cons_zero,List.set_cons_succ,
 Option.bind_some,Option.bind_none,Option.map_some,Option.map_none,if_true,if_false,BU,Bool.false_eq_true,reduceIte,decide_true,decide_false,Bool.not_true,Bool.not_false,ite_true,ite_false,Nat.reduceAdd,Nat.reduceEqDiff,Bool.and_true,Bool.true_and,Bool.and_false,Bool.not_eq_true,not_true_eq_false,not_false_eq_true,Int.reduceLT,Int.reduceLE,Int.reduceEq,Nat.reduceLeDiff])
local macro_rules | `(tactic| walk_at "st") => `(tactic| (apply aX; · (walk_at "mir"; try exact rfl)))
theorem JA{a b:PM}{ρ ρ1 ρ2:Rho}{x:D}{r:RV}{res:D×Bool}{g:D->D->Option (D×Bool)}(h1:sv a ρ=some ((x,.ro),ρ1))(h2:sv b ρ1=some (r,ρ2))(h3:g x r.1=some res):mOp g a b ρ=some (kn res,ρ2):=by
 unfold mOp;rw[h1,zai];dsimp only;rw[h2,zai];dsimp only[mj,Option.bind_some];rw[h3,zaT]
theorem qG(l:List D)(k:Int)(d:D)(h:L2.atI l k=some d):gIx (.list l) (.int k)=some (d,false):=by
 show(L2.atI l k).map _=_;rw[h];rfl
def NIo(s:Sl):Prop:=∀d,s≠.io d
theorem NIo.no:NIo .no:=λd h=>by cases h
theorem NIo.fz(x:D):NIo (.fz x):=λd h=>by cases h
theorem NIo.own(x:D):NIo (.own x):=λd h=>by cases h
theorem iy{ρ:Rho}{i:Nat}{s:Sl}(q:Sl)(h : ρ[i]?=some s)(hs:NIo s):hZ ρ i q=some (ρ.set i q):=by
 unfold hZ;rw[h];cases s<;>first|rfl|exact absurd rfl (hs _)
theorem fV{ρ:Rho}{i:Nat}{s:Sl}{d:D}(h : ρ[i]?=some s)(hs:NIo s):mgN i d ρ=some (ρ.set i (.fz d)):=iy _ h hs
def LT:Str:="abcdefghijklmnopqrstuvwxyz"
def letter(j:Nat):Str:=⟨#[LT.cps.toList.getD j 97]⟩
theorem J4:∀j:Nat,j<26->atI LT.cps.toList (j:Int)=some (LT.cps.toList.getD j 97):=by decide
theorem sM(j:Nat)(h:j<26):uA (.str LT) (.int (j:Int))=some (.str (letter j),false):=by
 show cIf (LT.length<=sizeLine) _ none=_;rw[bZ (by rw[sizeLine_eq];decide),J4 j h];rfl
def sfx(j:Nat):Str:=(["a","zz","aaa","zzzz","bbbbb","zzzzzz"]:List Str).getD j ""
def aA(k:Nat):Str:=if k%2=1 then letter (k/52%26)++letter (k/2%26)++sfx (k/2%6)else letter (k/52%26)++letter (k/2%26)
theorem gQ:∀i:Nat,i<130->∀j:Nat,j<i->aA i≠aA j:=by decide+kernel
theorem zQ(m:Str):keyOf (.str m)=some (.inr m):=rfl
def bg:Option Str->D
 |none=>.none
 |some a=>.str a
def bB(r:aI.Row):D:=.tuple [.int r.key,bg r.above,.bool r.mark,.tuple (r.below.map .str)]
def cb(keys:List Str)(row:Str->aI.Row):List (D×D):=keys.map λn=>(PyData.str n,bB (row n))
theorem iE(row:Str->aI.Row)(n:Str):∀keys:List Str,fA (cb keys row) (.inr n)=if n∈keys then some (bB (row n))else none
 | []=>rfl
 |m::keys=>by
  show(if keyOf (.str m)=some (.inr n)then some (bB (row m))else fA (cb keys row) (.inr n))=_
  by_cases e:m=n
  ·subst e
   rw[if_pos (zQ m),if_pos zas]
  ·have e1 : ¬keyOf (.str m)=some (.inr n):=λz=>e (Sum.inr.inj (zaQ z))
   rw[if_neg e1,iE row n keys]
   by_cases h:n∈keys
   ·rw[if_pos h,if_pos (zak _ h)]
   ·rw[if_neg h,if_neg λz=>by
     rcases zaf z with z|z
     ·exact e z.symm
     ·exact h z]
def aY(row:Str->aI.Row)(n:Str)(r:aI.Row):Str->aI.Row:=λm=>if m=n then r else row m
theorem uS(keys:List Str)(row:Str->aI.Row)(n:Str)(r:aI.Row)(h:n∈keys):putD (cb keys row) (.str n) (bB r) (.inr n)=cb keys (aY row n r):=by
 unfold putD;rw[iE,if_pos h];show(cb keys row).map _=_;unfold cb;rw[List.map_map];refine List.map_congr_left λm _=>?_
 show(if keyOf (.str m)=some (.inr n)then(PyData.str m,bB r)else(PyData.str m,bB (row m)))=(PyData.str m,bB (aY row n r m))
 unfold aY
 by_cases e:m=n
 ·subst e
  rw[if_pos (zQ m),if_pos rfl]
 ·have e1 : ¬keyOf (.str m)=some (.inr n):=λz=>e (Sum.inr.inj (zaQ z))
  rw[if_neg e1,if_neg e]
theorem uT(keys:List Str)(row:Str->aI.Row)(n:Str)(r:aI.Row)(h:n∉keys):putD (cb keys row) (.str n) (bB r) (.inr n)=cb (keys++[n]) (aY row n r):=by
 unfold putD;rw[iE,if_neg h];show cb keys row++[(.str n,bB r)]=_;unfold cb;rw[za1]
 congr 1
 ·refine List.map_congr_left λm hm=>?_
  show _=(PyData.str m,bB (aY row n r m));unfold aY;rw[if_neg λz=>h (by rw[<-z];exact hm)]
 ·show [(PyData.str n,bB r)]=[(PyData.str n,bB (aY row n r n))]
  unfold aY;rw[if_pos rfl]
theorem nj(keys:List Str)(row:Str->aI.Row):(cb keys row).length=keys.length:=by unfold cb;rw[zal]
theorem sN(keys:List Str)(row:Str->aI.Row):(cb keys row).map (·.1)=keys.map .str:=by unfold cb;rw[List.map_map];rfl
theorem zR(keys:List Str)(row:Str->aI.Row)(n:Str)(h:n∈keys):eu (.dict (cb keys row)) (.str n)=some (bB (row n),false):=by
 show(fA (cb keys row) (.inr n)).map _=_;rw[iE,if_pos h];rfl
theorem qH(j:Nat):(letter j).length=1:=rfl
theorem Fx:∀j:Nat,j<6->(sfx j).length<=6:=by decide
theorem add_str(a b:Str)(h:a.length+b.length<=1000):gK (.str a) (.str b)=some (.str (a++b),false):=by
 show cIf (a.length+b.length<=sizeLine) _ none=_;rw[bZ (by rw[sizeLine_eq];omega)]
theorem two_len(i j:Nat):(letter i++letter j).length=2:=rfl
theorem uU(k:Nat):cL [.int (k:Int)]=some (.str (aA k),false):=by
 have hk:∀{ρ:Rho},ρ[0]?=some (.fz (.int (k:Int)))->∀(a b:Nat),0<a->a<1000->0<b->IE (mOp d7 (mOp lU (ah 0) (mC (.int (a:Int)))) (mC (.int (b:Int)))) ρ ((k/a%b:Nat):Int):=fun{ρ} h a b ha ha2 hb=>by
  have:=fN (qj (b8 h) (cS (i:=(a:Int))) ⟨by omega,by omega⟩) (cS (i:=(b:Int))) (by omega)
  rwa[show((k:Int)/(a:Int)%(b:Int))=((k/a%b:Nat):Int) by rw[Int.natCast_emod,Int.natCast_ediv]]at this
 have l1:∀{ρ:Rho},ρ[0]?=some (.fz (.int (k:Int)))->ρ[1]?=some (.fz (.str LT))->mOp uA (ah 1) (mOp d7 (mOp lU (ah 0) (mC (.int 52))) (mC (.int 26))) ρ=some ((.str (letter (k/52%26)),.fz),ρ):=fun{ρ} h0 h1=>bP (r:=(.int ((k/52%26:Nat):Int),.fz)) (res:=(.str (letter (k/52%26)),false)) (ao (av h1)) (ao (hk h0 52 26 (by omega) (by omega) (by omega))) (sM _ (by omega))
 have l2:∀{ρ:Rho},ρ[0]?=some (.fz (.int (k:Int)))->ρ[1]?=some (.fz (.str LT))->mOp uA (ah 1) (mOp d7 (mOp lU (ah 0) (mC (.int 2))) (mC (.int 26))) ρ=some ((.str (letter (k/2%26)),.fz),ρ):=fun{ρ} h0 h1=>bP (r:=(.int ((k/2%26:Nat):Int),.fz)) (res:=(.str (letter (k/2%26)),false)) (ao (av h1)) (ao (hk h0 2 26 (by omega) (by omega) (by omega))) (sM _ (by omega))
 have em:∀{ρ:Rho},ρ[0]?=some (.fz (.int (k:Int)))->IE (mOp d7 (ah 0) (mC (.int 2))) ρ ((k:Int)%2):=fun{ρ} h=>fN (b8 h) cS (by decide)
 have two:=add_str (letter (k/52%26)) (letter (k/2%26)) (by rw[qH,qH];omega)
 have hd:∀(u:SM) (o:Option Out),u [.fz (.int (k:Int)),.fz (.str LT),.fz (.str (letter (k/52%26)++letter (k/2%26)))]=o->cg (dR 1 (mC (.str "abcdefghijklmnopqrstuvwxyz"))) (cg (dR 2 (mOp gK (mOp uA (ah 1) (mOp d7 (mOp lU (ah 0) (mC (.int 52))) (mC (.int 26)))) (mOp uA (ah 1) (mOp d7 (mOp lU (ah 0) (mC (.int 2))) (mC (.int 26)))))) u) [.fz (.int (k:Int)),.no,.no]=o:=λu o h=>by
  refine aX (ρ1:=[.fz (.int (k:Int)),.fz (.str LT),.no]) (dD rfl rfl) ?_;exact aX (ρ1:=[.fz (.int (k:Int)),.fz (.str LT),.fz (.str (letter (k/52%26)++letter (k/2%26)))]) (dD (bP (r:=(.str (letter (k/2%26)),.fz)) (res:=(.str (letter (k/52%26)++letter (k/2%26)),false)) (ao (l1 rfl rfl)) (ao (l2 rfl rfl)) two) rfl) h
 by_cases odd:k%2=1
 ·have en:aA k=letter (k/52%26)++letter (k/2%26)++sfx (k/2%6):=if_pos odd
  rw[en];refine fE (o:=.rt (.str (letter (k/52%26)++letter (k/2%26)++sfx (k/2%6)),.fz) [.fz (.int (k:Int)),.fz (.str LT),.fz (.str (letter (k/52%26)++letter (k/2%26)++sfx (k/2%6)))]) rfl (hd _ _ ?_) rfl;have six:∀j:Nat,j<6->gIx (.list [.str "a",.str "zz",.str "aaa",.str "zzzz",.str "bbbbb",.str "zzzzzz"]) (.int (j:Int))=some (.str (sfx j),false):=λj hj=>by
   have:j=0\/j=1\/j=2\/j=3\/j=4\/j=5:=by omega
   rcases this with rfl|rfl|rfl|rfl|rfl|rfl<;>rfl
  refine aX (ρ1:=[.fz (.int (k:Int)),.fz (.str LT),.fz (.str (letter (k/52%26)++letter (k/2%26)++sfx (k/2%6)))]) (wg (tEq (em rfl) cS (by omega)) (dD (bP (r:=(.str (sfx (k/2%6)),.fz)) (res:=(.str (letter (k/52%26)++letter (k/2%26)++sfx (k/2%6)),false)) (ao (av rfl)) (ao (bP (r:=(.int ((k/2%6:Nat):Int),.fz)) (res:=(.str (sfx (k/2%6)),false)) (jI (je (rs:=[(.str "a",.fz),(.str "zz",.fz),(.str "aaa",.fz),(.str "zzzz",.fz),(.str "bbbbb",.fz),(.str "zzzzzz",.fz)]) rfl rfl (by simp))) (ao (hk rfl 2 6 (by omega) (by omega) (by omega))) (six _ (by omega)))) (add_str _ _ (by have:=Fx (k/2%6) (by omega);rw[two_len];omega))) rfl)) (dJ (av rfl))
 ·have en:aA k=letter (k/52%26)++letter (k/2%26):=if_neg odd
  rw[en];exact fE (o:=.rt (.str (letter (k/52%26)++letter (k/2%26)),.fz) [.fz (.int (k:Int)),.fz (.str LT),.fz (.str (letter (k/52%26)++letter (k/2%26)))]) rfl (hd _ _ (aX (ρ1:=[.fz (.int (k:Int)),.fz (.str LT),.fz (.str (letter (k/52%26)++letter (k/2%26)))]) (jK (tNe (em rfl) cS (by omega)) rfl) (dJ (av rfl)))) rfl
theorem key_is(c:Int):∃v:Int,dh [.int c]=some (.int v,false):=by
 have em:∀{ρ:Rho},IE (mOp d7 (ah 0) (mC (.int 3))) (.fz (.int c)::ρ) (c%3):=fun{ρ}=>fN (b8 rfl) cS (by decide)
 have ed:∀{ρ:Rho},IE (mOp lU (ah 0) (mC (.int 3))) (.fz (.int c)::ρ) (c/3):=fun{ρ}=>qj (b8 rfl) cS ⟨by decide,by decide⟩
 by_cases h0:c%3=0
 ·exact⟨c/3%5-2,fE (o:=.rt (.int (c/3%5-2),.fz) [.fz (.int c)]) rfl (xY (wg (tEq em cS h0) (dJ (qi (fN ed cS (by decide)) cS)))) rfl⟩
 ·by_cases h1:c%3=1
  ·exact⟨c/3%61-30,fE (o:=.rt (.int (c/3%61-30),.fz) [.fz (.int c)]) rfl (aX (ρ1:=[.fz (.int c)]) (jK (tNe em cS h0) rfl) (xY (wg (tEq em cS h1) (dJ (qi (fN ed cS (by decide)) cS))))) rfl⟩
  ·have ep:∀{ρ:Rho},IE (mOp Cf (mC (.int 10)) (mC (.int 59))) ρ ((10:Int)^(59:Int).toNat):=fun{ρ}=>HZ cS cS ⟨by decide,by decide,by decide⟩
   have e2:IE (mOp v8 (mC (.int 2)) (mOp Cf (mC (.int 10)) (mC (.int 59)))) [.fz (.int c)] (2*(10:Int)^(59:Int).toNat):=yb cS ep (IntMulOk.of_left (by decide))
   exact⟨_,fE (o:=.rt (.int (c/3%(2*(10:Int)^(59:Int).toNat+1)-(10:Int)^(59:Int).toNat),.fz) [.fz (.int c)]) rfl (aX (ρ1:=[.fz (.int c)]) (jK (tNe em cS h0) rfl) (aX (ρ1:=[.fz (.int c)]) (jK (tNe em cS h1) rfl) (dJ (qi (fN ed (jL e2 cS) (by decide)) ep)))) rfl⟩
theorem qI{keys:List Str}{row:Str->aI.Row}{n:Str}(h:n∈keys){a b:PM}{ρ:Rho}(ha:sv a ρ=some ((.dict (cb keys row),.fz),ρ))(hb:b ρ=some ((.str n,.fz),ρ)):mOp eu a b ρ=some ((bB (row n),.fz),ρ):=bP (r:=(.str n,.fz)) (res:=(bB (row n),false)) ha (ao hb) (zR keys row n h)
theorem lN{r:aI.Row}{a:PM}{ρ:Rho}(h:a ρ=some ((bB r,.fz),ρ)):IE (mOp gIx a (mC (.int 0))) ρ r.key:=bP (r:=(.int 0,.fz)) (res:=(.int r.key,false)) (ao h) (ao rfl) rfl
theorem ox{r:aI.Row}{a:PM}{ρ:Rho}(h:a ρ=some ((bB r,.fz),ρ)):mOp gIx a (mC (.int 1)) ρ=some ((bg r.above,.fz),ρ):=bP (r:=(.int 1,.fz)) (res:=(bg r.above,false)) (ao h) (ao rfl) rfl
theorem xa{r:aI.Row}{a:PM}{ρ:Rho}(h:a ρ=some ((bB r,.fz),ρ)):mOp gIx a (mC (.int 2)) ρ=some ((.bool r.mark,.fz),ρ):=bP (r:=(.int 2,.fz)) (res:=(.bool r.mark,false)) (ao h) (ao rfl) rfl
theorem gq{r:aI.Row}{a:PM}{ρ:Rho}(h:a ρ=some ((bB r,.fz),ρ)):mOp gIx a (mC (.int 3)) ρ=some ((.tuple (r.below.map .str),.fz),ρ):=bP (r:=(.int 3,.fz)) (res:=(.tuple (r.below.map .str),false)) (ao h) (ao rfl) rfl
theorem sO(keys:List Str)(row:Str->aI.Row)(x y:Str)(hx:x∈keys)(hy:y∈keys):df [.dict (cb keys row),.str x,.str y]=some (.bool (a0 (row x).key x (row y).key y),false):=by
 generalize hH:PyData.dict (cb keys row)=X;have rx:mOp eu (ah 0) (ah 1) [.fz X,.fz (.str x),.fz (.str y)]=some ((bB (row x),.fz),[.fz X,.fz (.str x),.fz (.str y)]):=qI hx (by rw[hH];exact ao (av rfl)) (av rfl)
 have ry:mOp eu (ah 0) (ah 2) [.fz X,.fz (.str x),.fz (.str y)]=some ((bB (row y),.fz),[.fz X,.fz (.str x),.fz (.str y)]):=qI hy (by rw[hH];exact ao (av rfl)) (av rfl)
 have tx:=dE (rs:=[(.int (row x).key,.fz),(.str x,.fz)]) (gg (lN rx) (aB (ao (av (i:=1) rfl)) aR)) rfl (by simp)
 have ty:=dE (rs:=[(.int (row y).key,.fz),(.str y,.fz)]) (gg (lN ry) (aB (ao (av (i:=2) rfl)) aR)) rfl (by simp)
 exact fE (o:=.rt (.bool (a0 (row x).key x (row y).key y),.fz) [.fz X,.fz (.str x),.fz (.str y)]) rfl (dJ (bP (r:=(.tuple [.int (row y).key,.str y],.fz)) (res:=(.bool (a0 (row x).key x (row y).key y),false)) (ao tx) (ao ty) rfl)) rfl
theorem sP:∀zs:List Str,qC (zs.map PyData.str)=some zs
 | []=>rfl
 |z::zs=>by
  show(qC (zs.map PyData.str)).map (z::·)=_
  rw[sP zs];rfl
def Is(ρ:Rho)(i:Nat)(d:D):Prop:=ρ[i]?=some (.fz d)\/ρ[i]?=some (.own d)\/ρ[i]?=some (.io d)
theorem yc{ρ:Rho}{i:Nat}{d:D}(h : ρ[i]?=some (.io d)):ah i ρ=some ((d,.at i),ρ):=by unfold ah;rw[h]
theorem Gu{a b:PM}{ρ ρ1 ρ2:Rho}{x y:D}{r:RV}{res:D×Bool}{g:D->D->Option (D×Bool)}{i:Nat}(h1:sv a ρ=some ((x,.at i),ρ1))(h2:sv b ρ1=some (r,ρ2))(h4 : ρ2[i]?=some (.io y))(h3:g y r.1=some res):mOp g a b ρ=some (kn res,ρ2):=by
 unfold mOp;rw[h1,zai];dsimp only;rw[h2,zai];simp only[mj,h4,Option.bind_some,h3,Option.map_some]
theorem qJ{g:D->D->Option (D×Bool)}{b:PM}{ρ:Rho}{i:Nat}{x:D}{r:RV}{res:D×Bool}(h:Is ρ i x)(h2:sv b ρ=some (r,ρ))(h3:g x r.1=some res):mOp g (ah i) b ρ=some (kn res,ρ):=by
 rcases h with h|h|h
 ·exact bP (ao (av h)) h2 h3
 ·exact Jy (qh (jJ h)) h2 h h3
 ·exact Gu (qh (yc h)) h2 h h3
theorem Fy{m:Rho->Option (List RV×Rho)}{ρ:Rho}{i:Nat}{x:D}{rs:List RV}(h:Is ρ i x)(h2:m ρ=some (rs,ρ)):∃k,ak (ah i) m ρ=some ((x,k)::rs,ρ):=by
 rcases h with h|h|h
 ·exact⟨_,aB (ao (av h)) h2⟩
 ·exact⟨_,pB (qh (jJ h)) h2 h⟩
 ·refine⟨.at i,?_⟩
  unfold ak;rw[qh (yc h),zai];dsimp only
  rw[h2,zai];simp only[mj,h,Option.map_some]
theorem zS{g:List D->Option (D×Bool)}{ρ:Rho}{i:Nat}{x:D}{res:D×Bool}(h:Is ρ i x)(h2:g [x]=some res):mCB g (ak (ah i) aF) ρ=some (kn res,ρ):=by
 obtain⟨k,e⟩:=Fy h aR;exact dC e h2
theorem yt{ρ:Rho}{i:Nat}{l:List D}(h:Is ρ i (.list l)):IE (mCB cH (ak (ah i) aF)) ρ (l.length:Int):=zS (res:=(.int (l.length:Int),false)) h rfl
theorem i6{ρ:Rho}{i:Nat}{keys:List Str}{row:Str->aI.Row}(h:Is ρ i (.dict (cb keys row))):IE (mCB fR (ak (ah i) aF)) ρ (keys.length:Int):=zS (res:=(.int (keys.length:Int),false)) h (by show some (PyData.int ((cb keys row).length:Int),false)=_;rw[nj])
theorem dr{ρ:Rho}{i:Nat}{keys:List Str}{row:Str->aI.Row}{n:Str}{b:PM}(h:Is ρ i (.dict (cb keys row)))(hn:n∈keys)(hb:b ρ=some ((.str n,.fz),ρ)):mOp eu (ah i) b ρ=some ((bB (row n),.fz),ρ):=qJ (r:=(.str n,.fz)) (res:=(bB (row n),false)) h (ao hb) (zR keys row n hn)
theorem pG{a:PM}{g:D->Rho->Option Rho}{ρ ρ1 ρ2:Rho}{d:D}(h:a ρ=some ((d,.fz),ρ1))(hg:g d ρ1=some ρ2):oI a g ρ=some (.nx ρ2):=by
 unfold oI;rw[ao h,zai];dsimp only[kC,Option.bind_some];rw[hg];rfl
def A0(keys:List Str)(n:Str):List Str:=if n∈keys then keys else keys++[n]
theorem gD{keys:List Str}{n:Str}(h:n∈keys):A0 keys n=keys:=if_pos h
theorem qK{keys:List Str}{n:Str}(h:n∉keys):A0 keys n=keys++[n]:=if_neg h
theorem xb(keys:List Str)(row:Str->aI.Row)(n:Str)(r:aI.Row):putD (cb keys row) (.str n) (bB r) (.inr n)=cb (A0 keys n) (aY row n r):=by
 by_cases h:n∈keys
 ·rw[gD h,uS _ _ _ _ h]
 ·rw[qK h,uT _ _ _ _ h]
theorem i7{i:Nat}{a b:PM}{ρ:Rho}{keys:List Str}{row:Str->aI.Row}{n:Str}{r:aI.Row}{s:Sl}(ha:a ρ=some ((bB r,.fz),ρ))(hb:b ρ=some ((.str n,.fz),ρ))(h : ρ[i]?=some s)(hs:s=.own (.dict (cb keys row))\/s=.io (.dict (cb keys row)))(hl:keys.length<=1000):kh i a b ρ=some (.nx (ρ.set i (s.put (.dict (cb (A0 keys n) (aY row n r)))))):=by
 have hl':(cb keys row).length<100000:=by rw[nj];omega
 have ho:CO (some s)=some (cb keys row):=by rcases hs with rfl|rfl<;>rfl
 unfold kh;rw[ao ha,zai];dsimp only[kC,Option.bind_some]
 rw[h,ho,zai,ao hb,zai];dsimp only[keyOf,Option.bind_some]
 rw[h,ho,zai,bZ hl',xb];unfold Mir.putAt;rw[h]
theorem qL{i:Nat}{f:List D->List D->Option (List D×D)}{m:Rho->Option (List RV×Rho)}{ρ ρ1 ρ2 ρ3:Rho}{rs:List RV}{as ds0 ds:List D}{w:List D×D}(h0:qa ρ[i]?=some ds0)(h1:m ρ=some (rs,ρ1))(h2:hU rs ρ1=some (as,ρ2))(h3:qa ρ2[i]?=some ds)(h4:f ds as=some w)(h5:Mir.putAt ρ2 i (.list w.1)=ρ3):rA i f m ρ=some ((w.2,.fz),ρ3):=by
 unfold rA;rw[h0,zai,h1,zai];dsimp only
 rw[h2,zai];dsimp only
 rw[h3,zai,h4,zaT,h5]
theorem uV{ds:List D}(d:D)(h:ds.length<=100000):ie ds [d]=some (ds++[d],.none):=by
 show cIf _ _ _=_;rw[bZ (we h)]
theorem xc{i j:Nat}{f:List D->Option ((D×Bool)×D×D)}{m:Rho->Option (List RV×Rho)}{ρ ρ1 ρ2 ρ3:Rho}{rs:List RV}{ds:List D}{s t s0 t0:Sl}{d d1 d2 dS dT:D}{o:Bool}{r:RV}(hij:i≠j)(a:ownAt ρ i=some s0)(b:ownAt ρ j=some t0)(h1:m ρ=some (rs,ρ1))(h2:hU rs ρ1=some (ds,ρ2))(h3:ownAt ρ2 i=some s)(h4:ownAt ρ2 j=some t)(h5:f (dS::dT::ds)=some ((d,o),d1,d2))(h6:(ρ2.set i (s.put d1)).set j (t.put d2)=ρ3)(e1:slD s=dS:=by rfl)(e2:slD t=dT:=by rfl)(h7:kO d o=r:=by rfl):jM i j f m ρ=some (r,ρ3):=by
 subst e1 e2 h7;unfold jM;rw[if_neg hij,a,zai,b,zai,h1,zai];dsimp only
 rw[h2,zai];dsimp only
 rw[h3,zai,h4,zai,h5,zaT,h6]
theorem yu{n k:Nat}{b:SM}{d0 e0:D}{ds:List D}{o:Out}{r:D×Bool}{d:D×D}(h0:ds.length+2=n)(h1:b (.io d0::.io e0::ds.map .fz++List.replicate k .no)=some o)(h2:xR o=some r)(h3:io2 (nW o)=some d):fnJ n k b (d0::e0::ds)=some (r,d):=by
 show(if ds.length+2=n then _ else _)=_
 rw[if_pos h0,h1,zai,h2,zai,h3,zaT]
abbrev TD(aj:List Str):D:=.list (aj.map .str)
abbrev HD(keys:List Str)(row:Str->aI.Row):D:=.dict (cb keys row)
theorem Dq{z:Str}:∀{zs:List Str},z∈zs->∃j,wK zs z=some j/\zs.eraseIdx j=zs.erase z
 | [],h=>by cases h
 |a::zs,h=>by
  unfold wK
  by_cases e:a=z
  ·subst e
   exact⟨0,if_pos rfl,by simp⟩
  ·obtain⟨j,h1,h2⟩:=Dq (zs:=zs) ((zaf h).resolve_left λq=>e q.symm)
   refine⟨j+1,?_,?_⟩
   ·rw[if_neg e,h1];rfl
   ·rw[List.eraseIdx_cons_succ,h2,List.erase_cons_tail (by simpa using e)]
theorem Dr{z:Str}{zs:List Str}(h:z∈zs):lM (zs.map .str) [.str z]=some ((zs.erase z).map .str,.none):=by
 obtain⟨j,h1,h2⟩:=Dq h;show(qC (zs.map .str)).bind _=_;rw[sP,zai,h1,zaT,<-h2,ux]
def bz(row:Str->aI.Row)(name on:Str):Str->aI.Row :=
 aY (aY row name ⟨(row name).key,some on,false,(row name).below⟩) on ⟨((aY row name ⟨(row name).key,some on,false,(row name).below⟩) on).key,((aY row name ⟨(row name).key,some on,false,(row name).below⟩) on).above,((aY row name ⟨(row name).key,some on,false,(row name).below⟩) on).mark,((aY row name ⟨(row name).key,some on,false,(row name).below⟩) on).below++[name]⟩
theorem zT{aj keys:List Str}{row:Str->aI.Row}{name on:Str}(hn:name∈keys)(ho:on∈keys)(ht:name∈aj)(hk:keys.length<=1000)(hb:∀n∈keys,(row n).below.length<=1000):eA [TD aj,HD keys row,.str name,.str on]=some ((.none,false),TD (aj.erase name),HD keys (bz row name on)):=by
 have e1:bB (row name)=.tuple [.int (row name).key,bg (row name).above,.bool (row name).mark,.tuple ((row name).below.map .str)]:=rfl
 let cq:=aY row name ⟨(row name).key,some on,false,(row name).below⟩
 have hb1:(cq on).below.length<=1000:=by
  show(aY row name ⟨(row name).key,some on,false,(row name).below⟩ on).below.length<=1000;unfold aY;split
  ·exact hb name hn
  ·exact hb on ho
 refine yu (o:=.nx [.io (TD (aj.erase name)),.io (HD keys (bz row name on)),.fz (.str name),.fz (.str on),.fz (.int (cq on).key),.fz (bg (cq on).above),.fz (.bool (cq on).mark),.fz (.tuple ((cq on).below.map .str))]) rfl ?_ rfl rfl;refine aX (ρ1:=[.io (TD aj),.io (HD keys row),.fz (.str name),.fz (.str on),.fz (.int (row name).key),.fz (bg (row name).above),.fz (.bool (row name).mark),.fz (.tuple ((row name).below.map .str))]) (pG (dr (.inr (.inr rfl)) hn (av rfl)) rfl) ?_;refine aX (ρ1:=[.io (TD aj),.io (HD keys cq),.fz (.str name),.fz (.str on),.fz (.int (row name).key),.fz (bg (row name).above),.fz (.bool (row name).mark),.fz (.tuple ((row name).below.map .str))]) ((i7 (i:=1) (r:=⟨(row name).key,some on,false,(row name).below⟩) (dE (rs:=[(.int (row name).key,.fz),(.str on,.fz),(.bool false,.fz),(.tuple ((row name).below.map .str),.fz)]) rfl rfl (by simp)) (av rfl) rfl (.inr rfl) hk).trans (by rw[gD hn];rfl)) ?_
 refine aX (ρ1:=[.io (TD aj),.io (HD keys cq),.fz (.str name),.fz (.str on),.fz (.int (cq on).key),.fz (bg (cq on).above),.fz (.bool (cq on).mark),.fz (.tuple ((cq on).below.map .str))]) (pG (dr (.inr (.inr rfl)) ho (av rfl)) rfl) ?_;refine aX (ρ1:=[.io (TD aj),.io (HD keys (bz row name on)),.fz (.str name),.fz (.str on),.fz (.int (cq on).key),.fz (bg (cq on).above),.fz (.bool (cq on).mark),.fz (.tuple ((cq on).below.map .str))]) ?_ ?_
 ·have ea:∃k,sv (mOp oV (ah 7) (f9 (ak (ah 2) aF))) [.io (TD aj),.io (HD keys cq),.fz (.str name),.fz (.str on),.fz (.int (cq on).key),.fz (bg (cq on).above),.fz (.bool (cq on).mark),.fz (.tuple ((cq on).below.map .str))]=some ((.tuple (((cq on).below++[name]).map .str),.fz),k)/\k=[.io (TD aj),.io (HD keys cq),.fz (.str name),.fz (.str on),.fz (.int (cq on).key),.fz (bg (cq on).above),.fz (.bool (cq on).mark),.fz (.tuple ((cq on).below.map .str))]:=by
   obtain⟨o,ho⟩:=sE ((cq on).below.map .str) [.str name] (by simp;omega) (by simp)
   refine⟨_,?_,rfl⟩;have h:=bP (a:=ah 7) (b:=f9 (ak (ah 2) aF)) (r:=(.tuple [.str name],.fz)) (res:=(.tuple (((cq on).below++[name]).map .str),o)) (ρ:=[.io (TD aj),.io (HD keys cq),.fz (.str name),.fz (.str on),.fz (.int (cq on).key),.fz (bg (cq on).above),.fz (.bool (cq on).mark),.fz (.tuple ((cq on).below.map .str))]) (g:=oV) (ao (av rfl)) (ao (dE (rs:=[(.str name,.fz)]) rfl rfl (by simp))) (by rw[ho,za1];rfl)
   cases o
   ·exact ao h
   ·exact ao h
  obtain⟨_,ea,rfl⟩:=ea;exact(i7 (i:=1) (r:=⟨(cq on).key,(cq on).above,(cq on).mark,(cq on).below++[name]⟩) (dE (rs:=[(.int (cq on).key,.fz),(bg (cq on).above,.fz),(.bool (cq on).mark,.fz),(.tuple (((cq on).below++[name]).map .str),.fz)]) (aB (ao (av rfl)) (aB (ao (av rfl)) (aB (ao (av rfl)) (aB ea aR)))) rfl (by simp)) (av rfl) rfl (.inr rfl) hk).trans (by rw[gD ho];rfl)
 ·exact i3 (qL (rs:=[(.str name,.fz)]) rfl rfl rfl rfl (Dr ht) rfl)
theorem nq{a c:Int}{x y:Str}(ne:x≠y)(h:a0 a x c y=false):a0 c y a x=true:=by
 unfold a0 at h⊢
 by_cases e:a=c
 ·subst e
  rw[if_pos rfl,if_neg ne]at h;rw[if_pos rfl,if_neg (λz=>ne z.symm)]
  have h1 : ¬x.cps.toList<y.cps.toList:=of_decide_eq_false h;refine zaH ?_;rcases List.le_iff_lt_or_eq.mp (List.not_lt.mp h1)with h2|h2
  ·exact h2
  ·refine absurd ?_ ne
   cases x;cases y
   congr 1
   exact(Array.toList_inj.mp h2).symm
 ·rw[if_neg e]at h
  rw[if_neg (λz=>e z.symm)]
  have:=of_decide_eq_false h;exact zaH (by omega)
theorem fW{a b c:Int}{x y z:Str}(h1:a0 a x b y=true)(h2:a0 b y c z=true):a0 a x c z=true:=by
 unfold a0 at h1 h2⊢
 by_cases e1:a=b
 ·subst e1
  rw[if_pos rfl]at h1
  by_cases e2:a=c
  ·subst e2
   rw[if_pos rfl]at h2⊢;split at h1
   ·cases h1
   split at h2
   ·cases h2
   have l1:=of_decide_eq_true h1;have l2:=of_decide_eq_true h2;have l3:x.cps.toList<z.cps.toList:=List.lt_trans l1 l2;rw[if_neg (λq=>by rw[q]at l3;exact List.lt_irrefl _ l3)]
   exact zaH l3
  ·rw[if_neg e2]at h2⊢;exact h2
 ·rw[if_neg e1]at h1
  have l1:=of_decide_eq_true h1
  by_cases e2:b=c
  ·subst e2;rw[if_neg e1];exact h1
  ·rw[if_neg e2]at h2
   have l2:=of_decide_eq_true h2;rw[if_neg (by omega)]
   exact zaH (by omega)
theorem k5{a:Int}{x:Str}:a0 a x a x=false:=by
 unfold a0;rw[if_pos rfl,if_pos rfl]
theorem iA{x:Str}(h:PyData.strOk x=true):SeqAt.shaped (.str x)=true:=by
 unfold SeqAt.shaped;rw[zaH (by simp[PyData.depth]),Bool.and_true]
 simp only[PyData.canLay0,h]
theorem pH{x y:Str}(hx:PyData.strOk x=true)(hy:PyData.strOk y=true):gNe (.str x) (.str y)=some (.bool (!decide (x=y)),false):=by
 unfold gNe;rw[if_pos ⟨iA hx,iA hy⟩];simp only[PyData.eqv]
 by_cases e:x=y
 ·subst e;simp
 ·simp[e]
theorem fX{c:Rho->Option (Bool×Rho)}{e:PM}{ρn:Rho}{p:Str->Bool}:∀l:List Str,(∀x∈l,∃ρ,c (.fz (.str x)::ρn)=some (p x,ρ))->(∀x∈l,∃ρ,sv e (.fz (.str x)::ρn)=some ((.str x,.fz),ρ))->iY c e ρn (l.map .str)=some ((l.filter p).map .str)
 | [],_,_=>rfl
 |x::l,h,h2=>by
  have ih:=fX l (λy hy=>h y (zak _ hy)) λy hy=>h2 y (zak _ hy)
  obtain⟨ρ,e1⟩:=h x zas;obtain⟨ρ2,e2⟩:=h2 x zas;show(c (.fz (.str x)::ρn)).bind _=_;rw[e1,zai];dsimp only
  cases hp:p x with
  |false=>rw[if_neg (by simp),ih,List.filter_cons_of_neg (by simp[hp])]
  |true=>rw[if_pos rfl,e2,zai];dsimp only[asF,Option.bind_some];rw[ih,List.filter_cons_of_pos (by simp[hp])];rfl
theorem jR{x y:Str}(hx:PyData.strOk x=true)(hy:PyData.strOk y=true):PyData.strOk (x++y)=true:=by
 unfold PyData.strOk at*;show(x.cps++y.cps).all _=true;rw[Array.all_append,hx,hy];rfl
theorem sQ:∀j:Nat,j<26->PyData.strOk (letter j)=true:=by decide+kernel
theorem IG:∀j:Nat,j<6->PyData.strOk (sfx j)=true:=by decide+kernel
theorem Ds(k:Nat):PyData.strOk (aA k)=true:=by
 unfold aA;have h1:=sQ (k/52%26) (by omega)
 have h2:=sQ (k/2%26) (by omega)
 split
 ·exact jR (jR h1 h2) (IG _ (by omega))
 ·exact jR h1 h2
structure Bt(K:Str->Int)(c:Nat)(aj keys:List Str)(row:Str->aI.Row):Prop where
 nd:keys.Nodup
 nm:∀n∈keys,∃i,i<c/\n=aA i
 tn:aj.Nodup
 tk:∀t∈aj,t∈keys/\(row t).above=none
 ne:∀n∈keys,(row n).above=none->n∈aj
 mkd:∀n∈keys,(row n).mark=true->(row n).above≠none
 ab:∀n∈keys,∀a,(row n).above=some a->a∈keys
 bl:∀n∈keys,(row n).below.length<=c/\∀b∈(row n).below,b∈keys
 ho:∀n∈keys,∀a,(row n).above=some a->a0 (K a) a (K n) n=true
theorem Bt.kl{c:Nat}{aj keys:List Str}{row:Str->aI.Row}{K:Str->Int}(h:Bt K c aj keys row):keys.length<=c:=by
 have:=aI.iQ keys ((List.range c).map aA) h.nd λx hx=>by
  obtain⟨i,hi,rfl⟩:=h.nm x hx;exact List.mem_map_of_mem (List.mem_range.mpr hi)
 simpa using this
theorem Bt.tl{c:Nat}{aj keys:List Str}{row:Str->aI.Row}{K:Str->Int}(h:Bt K c aj keys row):aj.length<=c:=zaX (aI.iQ aj keys h.tn λx hx=>(h.tk x hx).1) h.kl
theorem Bt.ok{c:Nat}{aj keys:List Str}{row:Str->aI.Row}{K:Str->Int}(h:Bt K c aj keys row){n:Str}(hn:n∈keys):PyData.strOk n=true:=by
 obtain⟨i,_,rfl⟩:=h.nm n hn;exact Ds i
theorem aU(row:Str->aI.Row)(n:Str)(r:aI.Row):aY row n r n=r:=if_pos rfl
theorem aG(row:Str->aI.Row){n m:Str}(r:aI.Row)(h:m≠n):aY row n r m=row m:=if_neg h
def bT(row:Str->aI.Row)(name:Str):Str->aI.Row:=aY row name ⟨(row name).key,none,false,(row name).below⟩
def d8(row:Str->aI.Row)(name a:Str):Str->aI.Row:=aY (bT row name) a ⟨(bT row name a).key,(bT row name a).above,(bT row name a).above.isSome,(bT row name a).below.filter λx=>!decide (x=name)⟩
theorem qM(row:Str->aI.Row)(name n:Str):(bT row name n).above=if n=name then none else(row n).above:=by
 unfold bT aY;split<;>rfl
theorem eD(row:Str->aI.Row)(name a n:Str):(d8 row name a n).above=if n=name then none else(row n).above:=by
 rw[<-qM];unfold d8
 by_cases e:n=a
 ·subst e;rw[aU]
 ·rw[aG _ _ e]
theorem qN{row:Str->aI.Row}{name a n:Str}:(d8 row name a n).below.length<=(row n).below.length/\∀b∈(d8 row name a n).below,b∈(row n).below:=by
 have h1:(bT row name n).below=(row n).below:=by
  unfold bT aY;split
  ·rename_i e;rw[e]
  ·rfl
 unfold d8
 by_cases e:n=a
 ·subst e
  rw[aU];show(List.filter _ (bT row name n).below).length<=_/\∀b∈List.filter _ (bT row name n).below,_;rw[h1];exact⟨zaY _ _,λb hb=>(List.mem_filter.mp hb).1⟩
 ·rw[aG _ _ e,h1]
  exact⟨zap _,λb hb=>hb⟩
theorem A5{row:Str->aI.Row}{name a n:Str}:(d8 row name a n).mark=true->(d8 row name a n).above.isSome=true\/(n≠name/\(row n).mark=true):=by
 intro h
 by_cases e:n=a
 ·subst e
  left;unfold d8 at h⊢;rw[aU]at h⊢;exact h
 ·unfold d8 at h⊢
  rw[aG _ _ e]at h⊢;unfold bT at h⊢
  by_cases e2:n=name
  ·subst e2;rw[aU]at h;cases h
  ·rw[aG _ _ e2]at h
   exact Or.inr ⟨e2,h⟩
theorem Dt(row:Str->aI.Row)(name n:Str):(bT row name n).key=(row n).key:=by
 unfold bT aY;split
 ·rename_i e;rw[e]
 ·rfl
theorem Du(row:Str->aI.Row)(name a n:Str):(d8 row name a n).key=(row n).key:=by
 rw[<-Dt row name];unfold d8
 by_cases e:n=a
 ·subst e;rw[aU]
 ·rw[aG _ _ e]
theorem Bt.cut{c:Nat}{aj keys:List Str}{row:Str->aI.Row}{K:Str->Int}(h:Bt K c aj keys row){name a:Str}(hn:name∈keys)(ha:(row name).above=some a):Bt K c (aj++[name]) keys (d8 row name a):=by
 have hnt:name∉aj:=λz=>by rw[(h.tk name z).2]at ha;cases ha
 refine⟨h.nd,h.nm,?_,λt ht=>?_,λm hm e=>?_,λn hk hm=>?_,λn hk b hb=>?_,λn hk=>?_,λn hk b hb=>?_⟩
 ·rw[List.nodup_append]
  refine⟨h.tn,by simp,λx hx y hy=>?_⟩
  rw[zad hy];exact λe=>hnt (by rw[<-e];exact hx)
 ·rw[eD]
  rcases zae ht with ht|ht
  ·refine⟨(h.tk t ht).1,?_⟩
   split
   ·rfl
   ·exact(h.tk t ht).2
  ·rw[zad ht]
   exact⟨hn,if_pos rfl⟩
 ·by_cases z:m=name
  ·rw[z];simp
  ·rw[eD,if_neg z]at e;exact zaW _ (h.ne m hm e)
 ·rcases A5 hm with e|⟨e1,e2⟩
  ·exact λz=>by rw[z]at e;cases e
  ·rw[eD,if_neg e1]
   exact h.mkd n hk e2
 ·rw[eD]at hb
  split at hb
  ·cases hb
  ·exact h.ab n hk b hb
 ·exact⟨zaX qN.1 (h.bl n hk).1,λb hb=>(h.bl n hk).2 b (qN.2 b hb)⟩
 ·rw[eD]at hb
  split at hb
  ·cases hb
  ·exact h.ho n hk b hb
inductive Ch(row:Str->aI.Row):Str->List Str->Str->Prop
 |one {n a:Str}:(row n).above=some a->(row a).mark=false->Ch row n [n] a
 |more {n a L:Str} {C:List Str}:(row n).above=some a->(row a).mark=true->Ch row a C L->Ch row n (n::C) L
theorem sR{α:Type}{p q : α->Bool}:∀l:List α,(∀x∈l,p x=true->q x=true)->(∃x∈l,p x=false/\q x=true)->l.countP p<l.countP q
 | [],_,⟨x,hx,_⟩=>by cases hx
 |y::l,h,⟨x,hx,e1,e2⟩=>by
  rw[List.countP_cons,List.countP_cons];have hle:l.countP p<=l.countP q:=List.countP_mono_left λz hz=>h z (zak _ hz)
  rcases zaf hx with rfl|hx'
  ·rw[e1,e2,if_neg zam,if_pos rfl];omega
  ·have:=sR l (λz hz=>h z (zak _ hz)) ⟨x,hx',e1,e2⟩
   have hy:=h y (zas);cases hp:p y with
   |false=>rw[if_neg zam];omega
   |true=>rw[hy hp,if_pos rfl];omega
section
variable{K:Str->Int}{c:Nat}{aj keys:List Str}{row:Str->aI.Row}
def rank(K:Str->Int)(keys:List Str)(n:Str):Nat:=keys.countP λm=>a0 (K m) m (K n) n
theorem zU(h:Bt K c aj keys row){n a:Str}(hn:n∈keys)(ha:(row n).above=some a):rank K keys a<rank K keys n :=
 sR keys (λm _ e=>fW e (h.ho n hn a ha)) ⟨a,h.ab n hn a ha,k5,h.ho n hn a ha⟩
theorem J7(h:Bt K c aj keys row):∀(m:Nat) (n:Str),n∈keys->rank K keys n<=m->(row n).above≠none->∃C L,Ch row n C L/\C.length<=m:=by
 intro m
 induction m with
 |zero=>
  intro n hn hr ha;cases e:(row n).above with
  |none=>exact absurd e ha
  |some a=>have:=zU h hn e;omega
 |succ m ih=>
  intro n hn hr ha;cases e:(row n).above with
  |none=>exact absurd e ha
  |some a=>
   have hk:=h.ab n hn a e;cases em:(row a).mark with
   |false=>exact⟨[n],a,.one e em,by simp⟩
   |true=>
    obtain⟨C,L,h1,h2⟩:=ih a hk (by have:=zU h hn e;omega) (h.mkd a hk em)
    exact⟨n::C,L,.more e em h1,by rw[zaw];omega⟩
theorem J8(h:Bt K c aj keys row){n:Str}(hn:n∈keys)(ha:(row n).above≠none):∃C L,Ch row n C L/\C.length<=c:=by
 obtain⟨C,L,h1,h2⟩:=J7 h keys.length n hn List.countP_le_length ha;exact⟨C,L,h1,zaX h2 h.kl⟩
theorem Ch.mem(h:Bt K c aj keys row):∀{C:List Str} {n L:Str},Ch row n C L->n∈keys->(∀x∈C,x∈keys)/\L∈keys
 |_,n,_,.one ha _,hn=>⟨λx hx=>by rw[zad hx];exact hn,h.ab n hn _ ha⟩
 |_,n,_,.more ha _ hc,hn=>by
  obtain⟨h1,h2⟩:=Ch.mem h hc (h.ab n hn _ ha);exact⟨λx hx=>(zaf hx).elim (λe=>e▸hn) (h1 x),h2⟩
theorem Ch.tr{aK:Str->aI.Row}(h:Bt K c aj keys row):∀{C:List Str} {n L:Str},Ch row n C L->n∈keys->(aK n).above=(row n).above->(∀m∈keys,a0 (K m) m (K n) n=true->(aK m).above=(row m).above/\(aK m).mark=(row m).mark)->Ch aK n C L
 |_,n,a,.one ha hm,hn,e,k=>.one (e.trans ha) (((k a (h.ab n hn a ha) (h.ho n hn a ha)).2).trans hm)
 |_,n,_,.more (a:=a) ha hm hc,hn,e,k=>
  .more (e.trans ha) (((k a (h.ab n hn a ha) (h.ho n hn a ha)).2).trans hm) (Ch.tr h hc (h.ab n hn a ha) (k a (h.ab n hn a ha) (h.ho n hn a ha)).1 λm hm l=>k m hm (fW l (h.ho n hn a ha)))
theorem sS{n a m:Str}(h1:m≠n)(h2:m≠a):d8 row n a m=row m:=by
 unfold d8 bT;rw[aG _ _ h2,aG _ _ h1]
theorem sT{n a:Str}(h:a≠n):(bT row n a).mark=(row a).mark:=by
 unfold bT;rw[aG _ _ h]
theorem Bt.neA(h:Bt K c aj keys row){n a:Str}(hn:n∈keys)(ha:(row n).above=some a):a≠n:=λe=>by
 have:=h.ho n hn a ha;rw[e,k5]at this;cases this
theorem Ch.cut(h:Bt K c aj keys row){n a L:Str}{C:List Str}(hn:n∈keys)(ha:(row n).above=some a)(hc:Ch row a C L):Ch (d8 row n a) a C L:=by
 have ne:=h.neA hn ha;refine Ch.tr h hc (h.ab n hn a ha) (by rw[eD,if_neg ne]) λm hm l=>?_
 have e1:m≠n:=λe=>by
  subst e;have:=fW l (h.ho m hn a ha);rw[k5]at this;cases this
 have e2:m≠a:=λe=>by
  subst e;rw[k5]at l;cases l
 rw[sS e1 e2];exact⟨rfl,rfl⟩
end
def cuts:List Str->(Str->aI.Row)->Str->aI.Row
 | [],row=>row
 |n::C,row=>cuts C (d8 row n ((row n).above.getD n))
theorem lO{C:List Str}{row:Str->aI.Row}{n a:Str}(ha:(row n).above=some a):cuts (n::C) row=cuts C (d8 row n a):=by
 show cuts C (d8 row n ((row n).above.getD n))=_;rw[ha];rfl
theorem xf:∀(C:List Str) (row:Str->aI.Row) (n:Str),(cuts C row n).key=(row n).key
 | [],_,_=>rfl
 |x::C,row,n=>(xf C _ n).trans (Du _ _ _ _)
def stp(n:Str):D:=.tuple [.str "cut",.str n]
section
variable{keys:List Str}{row:Str->aI.Row}{aj:List Str}{c:Nat}
def mk(keys:List Str)(row:Str->aI.Row):Nat:=(keys.filter λn=>(row n).mark).length
def b1(b:Bool):Nat:=if b then 1 else 0
theorem J9(b:Bool):b1 b<=1:=by unfold b1;split<;>omega
end
theorem pI(c:Int)(n:Nat)(h : 0<n):∃a:Nat,c%(n:Int)=(a:Int)/\a<n:=by
 have h1:=Int.emod_nonneg c (show(n:Int)≠0 by omega)
 have h2:=Int.emod_lt_of_pos c (show(0:Int)<(n:Int) by omega)
 exact⟨(c%(n:Int)).toNat,by omega,by omega⟩
theorem IH(c:Int){n k j:Nat}(hk:k<n)(hj:j<k):(c+(k:Int))%(n:Int)≠(c+(j:Int))%(n:Int):=λe=>by
 have h:=Int.emod_eq_emod_iff_emod_sub_eq_zero.mp e;rw[show c+(k:Int)-(c+(j:Int))=(k:Int)-(j:Int) by omega,Int.emod_eq_of_lt (by omega) (by omega)]at h
 omega
theorem uW{a:PM}{ρ:Rho}{n:Nat}(h:IE a ρ (n:Int))(hn:n<=100000):tT (ak a aF) ρ=some ((List.range n).map (λk:Nat=>PyData.int (k:Int)),ρ):=by
 rw[HX (j:=(n:Int)) (k:=.fz) (gg h aR) ⟨by omega,by omega⟩,Int.toNat_natCast,Cn]
theorem uX{g:D->Rho->Option Rho}{b:SM}{α:Type}{f : α->D}(I:Rho->Prop)(R:RV->Prop):∀(l:List α) (ρ:Rho),I ρ->(∀x∈l,∀ρ,I ρ->∃ρ1 o,g (f x) ρ=some ρ1/\b ρ1=some o/\((∃ρ2,o=.nx ρ2/\I ρ2)\/∃r ρ2,o=.rt r ρ2/\R r))->∃o,forL g b (l.map f) ρ=some o/\((∃ρ2,o=.nx ρ2/\I ρ2)\/∃r ρ2,o=.rt r ρ2/\R r)
 | [],ρ,h,_=>⟨_,rfl,.inl ⟨ρ,rfl,h⟩⟩
 |x::l,ρ,h,hb=>by
  obtain⟨ρ1,o,h1,h2,h3⟩:=hb x zas ρ h;rcases h3 with⟨ρ2,rfl,i2⟩|⟨r,ρ2,rfl,i2⟩
  ·obtain⟨o,e1,e2⟩:=uX I R l ρ2 i2 λy hy=>hb y (zak _ hy)
   exact⟨o,jn h1 h2 e1,e2⟩
  ·exact⟨_,EF h1 h2,.inr ⟨r,ρ2,rfl,i2⟩⟩
theorem Dv{aj:List Str}{i:Nat}{t:Str}(h:aj[i]?=some t):gIx (TD aj) (.int (i:Int))=some (.str t,false):=qG _ _ _ (by rw[Mir.tH,zao,h];rfl)
def II(aj:List Str)(row:Str->aI.Row)(r:RV):Prop:=∃a b,(∃i j:Nat,i≠j/\aj[i]?=some a/\aj[j]?=some b)/\(row a).below.length=(row b).below.length/\r=(.list [.str a,.str b],.new)
theorem ju{r:aI.Row}{a:PM}{ρ:Rho}(h:a ρ=some ((bB r,.fz),ρ)):IE (mCB cH (ak (mOp gIx a (mC (.int 3))) aF)) ρ (r.below.length:Int):=dC (rs:=[(.tuple (r.below.map .str),.fz)]) (res:=(.int (r.below.length:Int),false)) (aB (ao (gq h)) aR) (by show some (PyData.int ((r.below.map PyData.str).length:Int),false)=_;rw[zal])
theorem A6{aj keys:List Str}{row:Str->aI.Row}(hk:∀t∈aj,t∈keys)(st:Int){k j:Nat}(hkn:k<aj.length)(hj:j<k){s5 s6:Sl}(n5:NIo s5)(n6:NIo s6) :
  ∃o,il [.fz (TD aj),.fz (HD keys row),.fz (.int st),.fz (.int (k:Int)),.fz (.int (j:Int)),s5,s6]=some o/\((∃x y,o=.nx [.fz (TD aj),.fz (HD keys row),.fz (.int st),.fz (.int (k:Int)),.fz (.int (j:Int)),.fz x,.fz y])\/∃r ρ2,o=.rt r ρ2/\II aj row r):=by
 obtain⟨i,e1,hi⟩:=pI (st+(k:Int)) aj.length (by omega)
 obtain⟨i',e2,hi'⟩:=pI (st+(j:Int)) aj.length (by omega)
 have ne:i≠i':=λz=>IH st hkn hj (by rw[e1,e2,z])
 have g1:aj[i]?=some aj[i]:=zaC hi;have g2:aj[i']?=some aj[i']:=zaC hi';have m1:=hk _ (List.getElem_mem hi);have m2:=hk _ (List.getElem_mem hi');generalize aj[i]=a at g1 m1;generalize aj[i']=b at g2 m2;have ln:∀{ρ:Rho},ρ[0]?=some (.fz (TD aj))->IE (mCB cH (ak (ah 0) aF)) ρ (aj.length:Int):=fun{ρ} h=>by
  have:=yt (i:=0) (l:=aj.map .str) (.inl h)
  rwa[zal]at this
 have v1:∀{ρ:Rho},ρ[0]?=some (.fz (TD aj))->ρ[2]?=some (.fz (.int st))->ρ[3]?=some (.fz (.int (k:Int)))->mOp gIx (ah 0) (mOp d7 (mOp gK (ah 2) (ah 3)) (mCB cH (ak (ah 0) aF))) ρ=some ((.str a,.fz),ρ):=fun{ρ} h0 h2 h3=>bP (r:=(.int (i:Int),.fz)) (res:=(.str a,false)) (ao (av h0)) (ao ((fN (jL (b8 h2) (b8 h3)) (ln h0) (by omega)).is e1)) (Dv g1)
 have v2:∀{ρ:Rho},ρ[0]?=some (.fz (TD aj))->ρ[2]?=some (.fz (.int st))->ρ[4]?=some (.fz (.int (j:Int)))->mOp gIx (ah 0) (mOp d7 (mOp gK (ah 2) (ah 4)) (mCB cH (ak (ah 0) aF))) ρ=some ((.str b,.fz),ρ):=fun{ρ} h0 h2 h3=>bP (r:=(.int (i':Int),.fz)) (res:=(.str b,false)) (ao (av h0)) (ao ((fN (jL (b8 h2) (b8 h3)) (ln h0) (by omega)).is e2)) (Dv g2)
 have go:∀o,gY (aN (mOp gEq (mCB cH (ak (mOp gIx (mOp eu (ah 1) (ah 5)) (mC (.int 3))) aF)) (mCB cH (ak (mOp gIx (mOp eu (ah 1) (ah 6)) (mC (.int 3))) aF)))) (fH (iJ (ak (ah 5) (ak (ah 6) aF)))) gH [.fz (TD aj),.fz (HD keys row),.fz (.int st),.fz (.int (k:Int)),.fz (.int (j:Int)),.fz (.str a),.fz (.str b)]=some o->il [.fz (TD aj),.fz (HD keys row),.fz (.int st),.fz (.int (k:Int)),.fz (.int (j:Int)),s5,s6]=some o:=λo h=>by
  refine aX (ρ1:=[.fz (TD aj),.fz (HD keys row),.fz (.int st),.fz (.int (k:Int)),.fz (.int (j:Int)),.fz (.str a),s6]) (dD (v1 rfl rfl rfl) (iy (s:=s5) _ rfl n5)) ?_;exact aX (ρ1:=[.fz (TD aj),.fz (HD keys row),.fz (.int st),.fz (.int (k:Int)),.fz (.int (j:Int)),.fz (.str a),.fz (.str b)]) (dD (v2 rfl rfl rfl) (iy (s:=s6) _ rfl n6)) h
 have l1:=ju (dr (i:=1) (ρ:=[.fz (TD aj),.fz (HD keys row),.fz (.int st),.fz (.int (k:Int)),.fz (.int (j:Int)),.fz (.str a),.fz (.str b)]) (b:=ah 5) (.inl rfl) m1 (av rfl));have l2:=ju (dr (i:=1) (ρ:=[.fz (TD aj),.fz (HD keys row),.fz (.int st),.fz (.int (k:Int)),.fz (.int (j:Int)),.fz (.str a),.fz (.str b)]) (b:=ah 6) (.inl rfl) m2 (av rfl))
 by_cases e:((row a).below.length:Int)=((row b).below.length:Int)
 ·exact⟨_,go _ (wg (tEq l1 l2 e) (dJ (je (rs:=[(.str a,.fz),(.str b,.fz)]) rfl rfl (by simp)))),.inr ⟨_,_,rfl,a,b,⟨i,i',ne,g1,g2⟩,by omega,rfl⟩⟩
 ·exact⟨_,go _ (jK (tNe l1 l2 e) rfl),.inl ⟨_,_,rfl⟩⟩
theorem Fz{aj keys:List Str}{row:Str->aI.Row}(hk:∀t∈aj,t∈keys)(hl:aj.length<=1000)(st:Int):∃L:List Str,jP [TD aj,HD keys row,.int st]=some (TD L,true)/\(L=[]\/∃(a b:Str) (i j:Nat),L=[a,b]/\i≠j/\aj[i]?=some a/\aj[j]?=some b/\(row a).below.length=(row b).below.length):=by
 have ln:IE (mCB cH (ak (ah 0) aF)) [.fz (TD aj),.fz (HD keys row),.fz (.int st),.no,.no,.no,.no] (aj.length:Int):=by
  have:=yt (i:=0) (l:=aj.map .str) (ρ:=[.fz (TD aj),.fz (HD keys row),.fz (.int st),.no,.no,.no,.no]) (.inl rfl)
  rwa[zal]at this
 obtain⟨o,h1,h2⟩:=uX (g:=mgN 3) (b:=m3) (f:=λk:Nat=>PyData.int (k:Int)) (fun ρ=>∃s3 s4 s5 s6,NIo s3/\NIo s4/\NIo s5/\NIo s6/\ρ=[.fz (TD aj),.fz (HD keys row),.fz (.int st),s3,s4,s5,s6]) (II aj row) (List.range aj.length) [.fz (TD aj),.fz (HD keys row),.fz (.int st),.no,.no,.no,.no] ⟨_,_,_,_,NIo.no,NIo.no,NIo.no,NIo.no,rfl⟩ (λk hkm ρ hρ=>by
  obtain⟨s3,s4,s5,s6,n3,n4,n5,n6,rfl⟩:=hρ;have hkn:=List.mem_range.mp hkm;obtain⟨o,g1,g2⟩:=uX (g:=mgN 4) (b:=il) (f:=λk:Nat=>PyData.int (k:Int)) (fun ρ=>∃s4 s5 s6,NIo s4/\NIo s5/\NIo s6/\ρ=[.fz (TD aj),.fz (HD keys row),.fz (.int st),.fz (.int (k:Int)),s4,s5,s6]) (II aj row) (List.range k) [.fz (TD aj),.fz (HD keys row),.fz (.int st),.fz (.int (k:Int)),s4,s5,s6] ⟨_,_,_,n4,n5,n6,rfl⟩ (λj hjm ρ hρ=>by
   obtain⟨s4,s5,s6,n4,n5,n6,rfl⟩:=hρ;obtain⟨o,f1,f2⟩:=A6 (row:=row) hk st hkn (List.mem_range.mp hjm) n5 n6;refine⟨_,o,fV (s:=s4) rfl n4,f1,?_⟩;rcases f2 with⟨x,y,rfl⟩|f2
   ·exact .inl ⟨_,rfl,_,_,_,NIo.fz _,NIo.fz _,NIo.fz _,rfl⟩
   ·exact .inr f2)
  refine⟨_,o,fV (s:=s3) rfl n3,qg (uW (b8 rfl) (by omega)) g1,?_⟩
  rcases g2 with⟨ρ2,rfl,s4,s5,s6,n4,n5,n6,rfl⟩|g2
  ·exact .inl ⟨_,rfl,_,_,_,_,NIo.fz _,n4,n5,n6,rfl⟩
  ·exact .inr g2)
 rcases h2 with⟨ρ2,rfl,_⟩|⟨r,ρ2,rfl,a,b,⟨i,j,ne,g1,g2⟩,ed,rfl⟩
 ·exact⟨[],fE (o:=.rt (.list [],.new) ρ2) rfl (aX (qg (uW ln (by omega)) h1) (dJ (je (rs:=[]) rfl rfl (by simp)))) rfl,.inl rfl⟩
 ·exact⟨[a,b],fE rfl (xY (qg (uW ln (by omega)) h1)) rfl,.inr ⟨a,b,i,j,rfl,ne,g1,g2,ed⟩⟩
theorem Bt.more{c d:Nat}{aj keys:List Str}{row:Str->aI.Row}{K:Str->Int}(h:Bt K c aj keys row)(hd:c<=d):Bt K d aj keys row :=
 ⟨h.nd,λn hn=>by obtain⟨i,hi,e⟩:=h.nm n hn;exact⟨i,by omega,e⟩,h.tn,h.tk,h.ne,h.mkd,h.ab,λn hn=>⟨by have:=(h.bl n hn).1;omega,(h.bl n hn).2⟩,h.ho⟩
theorem cR{row:Str->aI.Row}{name on:Str}(ne:on≠name):bz row name on on=⟨(row on).key,(row on).above,(row on).mark,(row on).below++[name]⟩:=by
 unfold bz;rw[aU,aG _ _ ne]
theorem cC{row:Str->aI.Row}{name on:Str}(ne:on≠name):bz row name on name=⟨(row name).key,some on,false,(row name).below⟩:=by
 unfold bz;rw[aG _ _ (λz=>ne z.symm),aU]
theorem cD{row:Str->aI.Row}{name on n:Str}(h1:n≠on)(h2:n≠name):bz row name on n=row n:=by
 unfold bz;rw[aG _ _ h1,aG _ _ h2]
theorem k6{row:Str->aI.Row}{name on:Str}(ne:on≠name)(n:Str):(bz row name on n).key=(row n).key:=by
 by_cases e:n=on
 ·subst e;rw[cR ne]
 ·by_cases e2:n=name
  ·subst e2;rw[cC ne]
  ·rw[cD e e2]
theorem Bt.hung{c:Nat}{aj keys:List Str}{row:Str->aI.Row}{K:Str->Int}(h:Bt K c aj keys row){name on:Str}(hn:name∈aj)(ho:on∈aj)(ne:on≠name)(hlt:a0 (K on) on (K name) name=true):Bt K (c+1) (aj.erase name) keys (bz row name on):=by
 have hk:=(h.tk name hn).1;have ok:=(h.tk on ho).1;refine⟨h.nd,(h.more (Nat.le_succ c)).nm,h.tn.erase _,λt ht=>?_,λm hm e=>?_,λn hnk hm=>?_,λn hnk a ha=>?_,λn hnk=>?_,λn hnk a ha=>?_⟩
 ·obtain⟨h1,h2⟩:=(za9 h.tn).mp ht
  refine⟨(h.tk t h2).1,?_⟩
  by_cases e:t=on
  ·subst e;rw[cR ne];exact(h.tk t h2).2
  ·rw[cD e h1];exact(h.tk t h2).2
 ·refine(za9 h.tn).mpr ⟨λz=>?_,h.ne m hm ?_⟩
  ·rw[z,cC ne]at e;cases e
  ·by_cases z:m=on
   ·rw[z,cR ne]at e;rw[z];exact e
   ·by_cases w:m=name
    ·rw[w,cC ne]at e;cases e
    ·rw[cD z w]at e;exact e
 ·by_cases e:n=on
  ·subst e;rw[cR ne]at hm⊢;exact h.mkd n hnk hm
  ·by_cases e2:n=name
   ·subst e2;rw[cC ne]at hm;cases hm
   ·rw[cD e e2]at hm⊢;exact h.mkd n hnk hm
 ·by_cases e:n=on
  ·subst e;rw[cR ne]at ha;exact h.ab n hnk a ha
  ·by_cases e2:n=name
   ·subst e2;rw[cC ne]at ha;cases ha;exact ok
   ·rw[cD e e2]at ha;exact h.ab n hnk a ha
 ·by_cases e:n=on
  ·subst e
   rw[cR ne];refine⟨?_,λb hb=>?_⟩
   ·show((row n).below++[name]).length<=c+1
    rw[zau,za7];have:=(h.bl n hnk).1;omega
   ·rcases zae (show b∈(row n).below++[name]from hb)with hb|hb
    ·exact(h.bl n hnk).2 b hb
    ·rw[zad hb];exact hk
  ·by_cases e2:n=name
   ·subst e2;rw[cC ne];exact⟨Nat.le_succ_of_le (h.bl n hnk).1,(h.bl n hnk).2⟩
   ·rw[cD e e2];exact⟨by have:=(h.bl n hnk).1;omega,(h.bl n hnk).2⟩
 ·by_cases e:n=on
  ·subst e;rw[cR ne]at ha;exact h.ho n hnk a ha
  ·by_cases e2:n=name
   ·subst e2;rw[cC ne]at ha;cases ha;exact hlt
   ·rw[cD e e2]at ha;exact h.ho n hnk a ha
theorem Bt.new{c:Nat}(hc:c<130){aj keys:List Str}{row:Str->aI.Row}{K:Str->Int}(h:Bt K c aj keys row)(v:Int):aA c∉keys/\Bt (λn=>if n=aA c then v else K n) (c+1) (aj++[aA c]) (keys++[aA c]) (aY row (aA c) ⟨v,none,false,[]⟩):=by
 have hn:aA c∉keys:=λz=>by
  obtain⟨i,hi,e⟩:=h.nm _ z;exact gQ c hc i hi e
 refine⟨hn,?_,λn hnk=>?_,?_,λt ht=>?_,λm hm e=>?_,λn hnk hm=>?_,λn hnk a ha=>?_,λn hnk=>?_,λn hnk a ha=>?_⟩
 ·rw[List.nodup_append]
  exact⟨h.nd,by simp,λx hx y hy=>by rw[zad hy];exact λe=>hn (by rw[<-e];exact hx)⟩
 ·rcases zae hnk with hx|hx
  ·obtain⟨i,hi,e⟩:=h.nm n hx;exact⟨i,by omega,e⟩
  ·exact⟨c,by omega,zad hx⟩
 ·rw[List.nodup_append]
  exact⟨h.tn,by simp,λx hx y hy=>by rw[zad hy];exact λe=>hn (by rw[<-e];exact(h.tk x hx).1)⟩
 ·rcases zae ht with hx|hx
  ·refine⟨zaW _ (h.tk t hx).1,?_⟩
   rw[aG _ _ (λz=>hn (by rw[<-z];exact(h.tk t hx).1))]
   exact(h.tk t hx).2
  ·rw[zad hx,aU]
   exact⟨by simp,rfl⟩
 ·by_cases z:m=aA c
  ·rw[z];simp
  ·rw[aG _ _ z]at e
   exact zaW _ (h.ne m ((zae hm).resolve_right λw=>z (zad w)) e)
 ·by_cases e:n=aA c
  ·subst e;rw[aU]at hm;cases hm
  ·rw[aG _ _ e]at hm⊢
   exact h.mkd n ((zae hnk).resolve_right λz=>e (zad z)) hm
 ·by_cases e:n=aA c
  ·subst e;rw[aU]at ha;cases ha
  ·rw[aG _ _ e]at ha
   exact zaW _ (h.ab n ((zae hnk).resolve_right λz=>e (zad z)) a ha)
 ·by_cases e:n=aA c
  ·subst e;rw[aU];exact⟨Nat.zero_le _,λb hb=>by cases hb⟩
  ·rw[aG _ _ e]
   have h1:=h.bl n ((zae hnk).resolve_right λz=>e (zad z))
   exact⟨by have:=h1.1;omega,λb hb=>zaW _ (h1.2 b hb)⟩
 ·by_cases e:n=aA c
  ·subst e;rw[aU]at ha;cases ha
  ·rw[aG _ _ e]at ha
   have hk:=(zae hnk).resolve_right λz=>e (zad z)
   rw[if_neg e,if_neg (λz=>hn (by rw[<-z];exact h.ab n hk a ha))]
   exact h.ho n hk a ha
abbrev Bk(c:Nat)(aj keys:List Str)(row:Str->aI.Row):Prop:=Bt (λn=>(row n).key) c aj keys row
theorem Bt.re{K:Str->Int}{c:Nat}{aj keys:List Str}{row:Str->aI.Row}(h:Bt K c aj keys row)(e:∀n∈keys,K n=(row n).key):Bk c aj keys row :=
 ⟨h.nd,h.nm,h.tn,h.tk,h.ne,h.mkd,h.ab,h.bl,λn hn a ha=>by rw[<-e n hn,<-e a (h.ab n hn a ha)];exact h.ho n hn a ha⟩
theorem Bk.new{c:Nat}(hc:c<130){aj keys:List Str}{row:Str->aI.Row}(h:Bk c aj keys row)(v:Int):aA c∉keys/\Bk (c+1) (aj++[aA c]) (keys++[aA c]) (aY row (aA c) ⟨v,none,false,[]⟩) :=
 ⟨(Bt.new hc h v).1,(Bt.new hc h v).2.re λn _=>by
  by_cases e:n=aA c
  ·subst e;rw[aU,if_pos rfl]
  ·rw[aG _ _ e,if_neg e]⟩
theorem k7{l:List Str}(h:∀x∈l,PyData.strOk x=true):PyData.canLayAll0 (l.map .str)=true/\PyData.depthAll (l.map .str)<=1:=by
 induction l with
 |nil=>exact⟨rfl,by simp[PyData.depthAll]⟩
 |cons x l ih=>
  obtain⟨h1,h2⟩:=ih λy hy=>h y (zak _ hy)
  refine⟨?_,?_⟩
  ·simp only[List.map_cons,PyData.canLayAll0,PyData.canLay0,h x List.mem_cons_self,h1,Bool.and_true]
  ·simp only[List.map_cons,PyData.depthAll,PyData.depth]
   omega
theorem lP{l:List Str}(h:∀x∈l,PyData.strOk x=true):SeqAt.shaped (TD l)=true:=by
 obtain⟨h1,h2⟩:=k7 h;unfold SeqAt.shaped;rw[zaH (by simp only[PyData.depth];omega),Bool.and_true]
 simp only[PyData.canLay0,h1]
theorem FA{l:List Str}(h:∀x∈l,PyData.strOk x=true):gNe (TD l) (.list [])=some (.bool (!l.isEmpty),false):=by
 unfold gNe;rw[if_pos ⟨lP h,lP (l:=[]) λx hx=>by cases hx⟩]
 cases l with
 |nil=>rfl
 |cons x l=>simp[PyData.eqv,PyData.eqvAll]
theorem jv:∀l:List Str,bq (l.map .str)=true
 | []=>rfl
 |x::l=>by
  show(eg (.str x)&&bq (l.map .str))=true;rw[jv l];rfl
theorem FC{i:Nat}{f:List D->List D->Option (List D×D)}{ρ ρ1:Rho}{ds:List D}{w:List D×D}(h0:qa ρ[i]?=some ds)(h4:f ds []=some w)(h5:Mir.putAt ρ i (.list w.1)=ρ1):sh i f ρ=some ((w.2,.fz),ρ1):=by
 unfold sh;rw[h0,zai,h4,zaT,h5]
theorem Dw{ρ:Rho}{i:Nat}{keys:List Str}{row:Str->aI.Row}(h:Is ρ i (HD keys row)):mCB uw (ak (ah i) aF) ρ=some ((TD keys,.new),ρ):=zS (res:=(TD keys,true)) h (by show some (PyData.list ((cb keys row).map (·.1)),true)=_;rw[sN])
theorem pJ{ρ:Rho}{i:Nat}{l:List Str}(h:Is ρ i (TD l)):IE (mCB cH (ak (ah i) aF)) ρ (l.length:Int):=by
 have:=yt h
 rwa[zal]at this
theorem FD{ρ:Rho}{i:Nat}{l:List Str}(h:Is ρ i (TD l))(hl : 0<l.length){a:PM}{v:Int}(ha:IE a ρ v):∃n∈l,mOp gIx (ah i) (mOp d7 a (mCB cH (ak (ah i) aF))) ρ=some ((.str n,.fz),ρ):=by
 obtain⟨k,e,hk⟩:=pI v l.length hl;exact⟨l[k],List.getElem_mem hk,qJ (r:=(.int (k:Int),.fz)) (res:=(.str l[k],false)) h (ao ((fN ha (pJ h) (by omega)).is e)) (Dv (zaC hk))⟩
def gf:Nat->Nat×Nat
 |0=>(1,1)
 |n+1=>((gf n).2+(gf n).1,(gf n).1)
def gd(d:Nat):Nat:=(gf d).1
theorem nu(d:Nat):gd (d+1)=gd d+gd (d-1):=by
 unfold gd;cases d with
 |zero=>rfl
 |succ d=>show(gf (d+1)).2+(gf (d+1)).1=_;rw[Nat.add_comm];rfl
theorem IJ(d:Nat) : 0<gd d:=by
 induction d with
 |zero=>decide
 |succ d ih=>rw[nu];omega
theorem zV{a b:Nat}(h:a<=b):gd a<=gd b:=by
 induction h with
 |refl=>exact zap _
 |step h ih=>rw[nu];omega
inductive Up(row:Str->aI.Row):Str->Str->Prop
 |refl (m:Str):Up row m m
 |step {m a n:Str}:(row m).above=some a->Up row a n->Up row m n
theorem Up.lin{row:Str->aI.Row}{m x:Str}(h1:Up row m x):∀{y:Str},Up row m y->Up row x y\/Up row y x:=by
 induction h1 with
 |refl m=>exact λh2=>.inl h2
 |step e h ih=>
  intro y h2;cases h2 with
  |refl=>exact .inr (.step e h)
  |step e2 h2=>rw[e]at e2;cases e2;exact ih h2
theorem Up.trans{row:Str->aI.Row}{m x y:Str}(h1:Up row m x)(h2:Up row x y):Up row m y:=by
 induction h1 with
 |refl m=>exact h2
 |step e h ih=>exact .step e (ih h2)
section
variable{K:Str->Int}{c:Nat}{aj keys:List Str}{row:Str->aI.Row}
theorem Up.ord(h:Bt K c aj keys row){m n:Str}(u:Up row m n):m∈keys->n∈keys/\(m=n\/a0 (K n) n (K m) m=true):=by
 induction u with
 |refl m=>exact λhm=>⟨hm,.inl rfl⟩
 | @step m a n e u ih=>
  intro hm;obtain⟨h1,h2⟩:=ih (h.ab m hm a e);refine⟨h1,.inr ?_⟩;have l:=h.ho m hm a e;rcases h2 with rfl|h2
  ·exact l
  ·exact fW h2 l
structure Fm(keys:List Str)(row:Str->aI.Row):Prop where
 nd:∀n∈keys,(row n).below.Nodup
 up:∀n∈keys,∀b∈(row n).below,b∈keys/\(row b).above=some n
 dn:∀m∈keys,∀a,(row m).above=some a->m∈(row a).below
 dg:∀n∈keys,∀(i:Nat) (b:Str),(row n).below[i]?=some b->i<=(row b).below.length+b1 (row b).mark
open Classical in
def cm(keys:List Str)(row:Str->aI.Row)(n:Str):List Str:=keys.filter λm=>decide (Up row m n)
open Classical in
theorem oy{n m:Str}:m∈cm keys row n↔m∈keys/\Up row m n:=by
 unfold cm;rw[List.mem_filter];exact⟨λh=>⟨h.1,of_decide_eq_true h.2⟩,λh=>⟨h.1,zaH h.2⟩⟩
theorem Dx(h:Bt K c aj keys row){n b:Str}(hb:b∈keys)(hn:n∈keys)(e:(row b).above=some n) : ¬Up row n b:=λu=>by
 have l:=h.ho b hb n e;rcases(u.ord h hn).2 with rfl|l2
 ·rw[k5]at l;cases l
 ·have:=fW l l2
  rw[k5]at this;cases this
theorem qO{f:Str->List Str}:∀l:List Str,l.Nodup->(∀x∈l,(f x).Nodup)->(∀x∈l,∀y∈l,x≠y->∀z,z∈f x->z∈f y->False)->(l.flatMap f).Nodup
 | [],_,_,_=>List.nodup_nil
 |x::l,nd,h1,h2=>by
  obtain⟨n1,n2⟩:=List.nodup_cons.mp nd;rw[List.flatMap_cons,List.nodup_append];refine⟨h1 x zas,qO l n2 (λy hy=>h1 y (zak _ hy)) λy hy z hz=>h2 y (zak _ hy) z (zak _ hz),λa ha b hb e=>?_⟩
  subst e;obtain⟨y,hy,hz⟩:=List.mem_flatMap.mp hb;exact h2 x zas y (zak _ hy) (λe=>n1 (e▸hy)) a ha hz
theorem Dy(h:Bt K c aj keys row)(f:Fm keys row){n:Str}(hn:n∈keys) : 1+((row n).below.map λb=>(cm keys row b).length).sum<=(cm keys row n).length:=by
 have nd:(n::(row n).below.flatMap (cm keys row)).Nodup:=by
  refine List.nodup_cons.mpr ⟨λz=>?_,qO _ (f.nd n hn) (λb _=>h.nd.sublist List.filter_sublist) λb1 hb1 b2 hb2 ne m hm1 hm2=>?_⟩
  ·obtain⟨b,hb,hz⟩:=List.mem_flatMap.mp z
   obtain⟨hk,e⟩:=f.up n hn b hb;exact Dx h hk hn e (oy.mp hz).2
  ·obtain⟨k1,e1⟩:=f.up n hn b1 hb1
   obtain⟨k2,e2⟩:=f.up n hn b2 hb2;rcases(oy.mp hm1).2.lin (oy.mp hm2).2 with u|u
   ·cases u with
    |refl=>exact ne rfl
    |step e u=>rw[e1]at e;cases e;exact Dx h k2 hn e2 u
   ·cases u with
    |refl=>exact ne rfl
    |step e u=>rw[e2]at e;cases e;exact Dx h k1 hn e1 u
 have:=aI.iQ _ (cm keys row n) nd λx hx=>by
  rcases zaf hx with rfl|hx
  ·exact oy.mpr ⟨hn,.refl _⟩
  ·obtain⟨b,hb,hz⟩:=List.mem_flatMap.mp hx
   obtain⟨hk,e⟩:=f.up n hn b hb;obtain⟨z1,z2⟩:=oy.mp hz;exact oy.mpr ⟨z1,z2.trans (.step e (.refl _))⟩
 rw[zaw,List.length_flatMap]at this;omega
theorem Dz{w:Str->Nat}:∀(l:List Str) (i:Nat),(∀(j:Nat) (b:Str),l[j]?=some b->gd (i+j-1)<=w b)->gd (i+l.length)<=gd i+(l.map w).sum
 | [],i,_=>by simp
 |b::l,i,h=>by
  have h0:=h 0 b rfl;have h1:=Dz l (i+1) λj x e=>by
   have:=h (j+1) x (by simpa using e)
   rw[show i+1+j-1=i+(j+1)-1 by omega];exact this
  rw[zaw,zaz,List.sum_cons,show i+(l.length+1)=i+1+l.length by omega]
  rw[nu]at h1;simp only[Nat.add_zero]at h0;omega
theorem DA{w:Str->Nat}{b:Str}:∀l:List Str,b∈l->w b<=(l.map w).sum
 |x::l,h=>by
  rw[zaz,List.sum_cons];rcases zaf h with rfl|h
  ·omega
  ·have:=DA (w:=w) l h;omega
theorem FE(h:Bt K c aj keys row)(f:Fm keys row):∀(m:Nat) (n:Str),n∈keys->(cm keys row n).length<=m->gd (row n).below.length<=(cm keys row n).length:=by
 intro m
 induction m with
 |zero=>
  intro n hn hm;have:=Dy h f hn;omega
 |succ m ih=>
  intro n hn hm;have hs:=Dy h f hn;have:=Dz (w:=λb=>(cm keys row b).length) (row n).below 0 λj b e=>by
   have hb:=f.up n hn b (zaj e);have hle:(cm keys row b).length<=((row n).below.map λb=>(cm keys row b).length).sum:=DA (w:=λb=>(cm keys row b).length) _ (zaj e)
   have i1:=ih b hb.1 (by omega)
   have d1:=f.dg n hn j b e;have:=J9 (row b).mark;exact zaX (zV (by omega)) i1
  rw[Nat.zero_add]at this;have:gd 0=1:=rfl;omega
theorem IK(h:Bt K c aj keys row)(f:Fm keys row){n:Str}(hn:n∈keys):gd (row n).below.length<=keys.length :=
 zaX (FE h f _ n hn (zap _)) (zaY _ _)
theorem Fm.zero(row:Str->aI.Row):Fm [] row:=⟨(λn hn=>by cases hn),(λn hn=>by cases hn),(λn hn=>by cases hn),λn hn=>by cases hn⟩
theorem Fm.new(f:Fm keys row)(ab:∀n∈keys,∀a,(row n).above=some a->a∈keys){x:Str}(hx:x∉keys)(v:Int):Fm (keys++[x]) (aY row x ⟨v,none,false,[]⟩):=by
 have ne:∀{n:Str},n∈keys->n≠x:=fun{n} hn e=>hx (e▸hn)
 have spl:∀{n:Str},n∈keys++[x]->n≠x->n∈keys:=fun{n} hn e=>(zae hn).resolve_right λz=>e (zad z)
 refine⟨λn hn=>?_,λn hn b hb=>?_,λm hm a e=>?_,λn hn i b e=>?_⟩
 ·by_cases e:n=x
  ·subst e;rw[aU];exact List.nodup_nil
  ·rw[aG _ _ e];exact f.nd n (spl hn e)
 ·by_cases e:n=x
  ·subst e;rw[aU]at hb;cases hb
  ·rw[aG _ _ e]at hb
   obtain⟨h1,h2⟩:=f.up n (spl hn e) b hb;rw[aG _ _ (ne h1)];exact⟨zaW _ h1,h2⟩
 ·by_cases z:m=x
  ·subst z;rw[aU]at e;cases e
  ·rw[aG _ _ z]at e
   rw[aG _ _ (ne (ab m (spl hm z) a e))];exact f.dn m (spl hm z) a e
 ·by_cases z:n=x
  ·subst z;rw[aU]at e;simp at e
  ·rw[aG _ _ z]at e
   have hb:=f.up n (spl hn z) b (zaj e);rw[aG _ _ (ne hb.1)];exact f.dg n (spl hn z) i b e
theorem Fm.hung(f:Fm keys row){x y:Str}(hx:x∈keys)(hy:y∈keys)(ne:y≠x)(tx:(row x).above=none)(ed:(row x).below.length=(row y).below.length):Fm keys (bz row x y):=by
 have kb:∀{n:Str},n≠y->(bz row x y n).below=(row n).below:=fun{n} e=>by
  by_cases z:n=x
  ·subst z;rw[cC ne]
  ·rw[cD e z]
 have ky:(bz row x y y).below=(row y).below++[x]:=by rw[cR ne]
 have ka:∀{n:Str},n≠x->(bz row x y n).above=(row n).above:=fun{n} e=>by
  by_cases z:n=y
  ·subst z;rw[cR ne]
  ·rw[cD z e]
 have kx:(bz row x y x).above=some y:=by rw[cC ne]
 have km:∀{n:Str},n≠x->(bz row x y n).mark=(row n).mark:=fun{n} e=>by
  by_cases z:n=y
  ·subst z;rw[cR ne]
  ·rw[cD z e]
 have nb:∀n∈keys,x∉(row n).below:=λn hn z=>by
  rw[(f.up n hn x z).2]at tx;cases tx
 have old:∀n∈keys,∀b∈(row n).below,b∈keys/\(bz row x y b).above=some n:=λn hn b hb=>by
  obtain⟨h1,h2⟩:=f.up n hn b hb;exact⟨h1,by rw[ka λe=>nb n hn (e▸hb)];exact h2⟩
 have dl:∀b:Str,(row b).below.length<=(bz row x y b).below.length:=λb=>by
  by_cases z:b=y
  ·subst z;rw[ky,zau];omega
  ·rw[kb z];exact zap _
 have odg:∀n∈keys,∀(i:Nat) (b:Str),(row n).below[i]?=some b->i<=(bz row x y b).below.length+b1 (bz row x y b).mark:=λn hn i b e=>by
  have h1:=f.dg n hn i b e;have h2:=dl b;rw[km λz=>nb n hn (z▸zaj e)]
  omega
 refine⟨λn hn=>?_,λn hn b hb=>?_,λm hm a e=>?_,λn hn i b e=>?_⟩
 ·by_cases z:n=y
  ·subst z
   rw[ky,List.nodup_append];exact⟨f.nd n hn,by simp,λp hp q hq=>by rw[zad hq];exact λe=>nb n hn (e▸hp)⟩
  ·rw[kb z];exact f.nd n hn
 ·by_cases z:n=y
  ·subst z
   rw[ky]at hb;rcases zae hb with hb|hb
   ·exact old n hn b hb
   ·rw[zad hb];exact⟨hx,kx⟩
  ·rw[kb z]at hb;exact old n hn b hb
 ·by_cases z:m=x
  ·subst z
   rw[kx]at e;cases e
   rw[ky];simp
  ·rw[ka z]at e
   have:=f.dn m hm a e
   by_cases w:a=y
   ·subst w;rw[ky];exact zaW _ this
   ·rw[kb w];exact this
 ·by_cases z:n=y
  ·subst z
   rw[ky]at e
   by_cases l:i<(row n).below.length
   ·rw[zax l]at e;exact odg n hn i b e
   ·rw[zaN (by omega)]at e
    cases q:i-(row n).below.length with
    |zero=>
     rw[q]at e;simp at e;subst e;rw[kb λw=>ne w.symm]
     omega
    |succ k=>rw[q]at e;simp at e
  ·rw[kb z]at e;exact odg n hn i b e
structure FmX(keys:List Str)(row:Str->aI.Row)(x:Str):Prop where
 nd:∀n∈keys,(row n).below.Nodup
 up:∀n∈keys,∀b∈(row n).below,b∈keys/\(row b).above=some n
 dn:∀m∈keys,∀a,(row m).above=some a->m∈(row a).below
 dg:∀n∈keys,∀(i:Nat) (b:Str),(row n).below[i]?=some b->b≠x->i<=(row b).below.length+b1 (row b).mark
theorem Fm.x(f:Fm keys row)(x:Str):FmX keys row x:=⟨f.nd,f.up,f.dn,λn hn i b e _=>f.dg n hn i b e⟩
theorem xg{n:Str}:∀l:List Str,l.Nodup->n∈l->(l.filter λx=>!decide (x=n)).length+1=l.length
 |y::l,nd,h=>by
  obtain⟨n1,n2⟩:=List.nodup_cons.mp nd;rw[List.filter_cons]
  by_cases e:y=n
  ·subst e
   rw[if_neg (by simp),zaw,List.filter_eq_self.mpr λx hx=>by
    have:x≠y:=λe=>n1 (e▸hx)
    simpa using this]
  ·rw[if_pos (by simpa using e),zaw,zaw,xg l n2 ((zaf h).resolve_left λz=>e z.symm)]
theorem uY{p:Str->Bool}:∀(l:List Str) (i:Nat) (b:Str),(l.filter p)[i]?=some b->∃j,i<=j/\l[j]?=some b
 | [],i,b,h=>by simp at h
 |y::l,i,b,h=>by
  rw[List.filter_cons]at h;split at h
  ·cases i with
   |zero=>exact⟨0,zap _,by simpa using h⟩
   |succ i=>
    obtain⟨j,h1,h2⟩:=uY l i b (by simpa using h)
    exact⟨j+1,by omega,by simpa using h2⟩
  ·obtain⟨j,h1,h2⟩:=uY l i b h
   exact⟨j+1,by omega,by simpa using h2⟩
theorem FmX.cut{n:Str}(f:FmX keys row n)(sa:∀m∈keys,(row m).above≠some m){a:Str}(hn:n∈keys)(hk:a∈keys)(ha:(row n).above=some a)(ne:a≠n):FmX keys (d8 row n a) a/\((row a).mark=false->Fm keys (d8 row n a)):=by
 have ca:∀{m:Str},m≠n->(d8 row n a m).above=(row m).above:=fun{m} e=>by rw[eD,if_neg e]
 have ba:(d8 row n a a).below=(row a).below.filter λx=>!decide (x=n):=by
  unfold d8 bT;rw[aU,aG _ _ ne]
 have bo:∀{m:Str},m≠a->(d8 row n a m).below=(row m).below:=fun{m} e=>by
  unfold d8 bT;rw[aG _ _ e]
  by_cases z:m=n
  ·subst z;rw[aU]
  ·rw[aG _ _ z]
 have sub:∀{m b:Str},m∈keys->b∈(d8 row n a m).below->b∈(row m).below/\b≠n:=fun{m b} hm hb=>by
  by_cases e:m=a
  ·subst e
   rw[ba]at hb;obtain⟨h1,h2⟩:=List.mem_filter.mp hb;exact⟨h1,by simpa using h2⟩
  ·rw[bo e]at hb
   refine⟨hb,λz=>?_⟩
   subst z;rw[(f.up m hm b hb).2]at ha;cases ha;exact e rfl
 have dl:=xg (n:=n) (row a).below (f.nd a hk) (f.dn n hn a ha);have o:FmX keys (d8 row n a) a:=by
  refine⟨λm hm=>?_,λm hm b hb=>?_,λm hm x e=>?_,λm hm i b e nb=>?_⟩
  ·by_cases e:m=a
   ·subst e;rw[ba];exact(f.nd m hm).sublist List.filter_sublist
   ·rw[bo e];exact f.nd m hm
  ·obtain⟨h1,h2⟩:=sub hm hb
   rw[ca h2];exact f.up m hm b h1
  ·by_cases z:m=n
   ·subst z;rw[eD,if_pos rfl]at e;cases e
   ·rw[ca z]at e
    have:=f.dn m hm x e
    by_cases w:x=a
    ·subst w;rw[ba];exact List.mem_filter.mpr ⟨this,by simpa using z⟩
    ·rw[bo w];exact this
  ·have hb:=(sub hm (zaj e)).2
   have key:∀j,i<=j->(row m).below[j]?=some b->i<=(d8 row n a b).below.length+b1 (d8 row n a b).mark:=λj hj ej=>by
    have:=f.dg m hm j b ej hb;rw[bo nb,sS hb nb];omega
   by_cases z:m=a
   ·subst z
    rw[ba]at e;obtain⟨j,h1,h2⟩:=uY _ i b e;exact key j h1 h2
   ·rw[bo z]at e;exact key i (zap _) e
 refine⟨o,λhm=>⟨o.nd,o.up,o.dn,λm hmk i b e=>?_⟩⟩
 by_cases nb:b=a
 ·subst nb
  have hu:=o.up m hmk b (zaj e);have hs:(d8 row n b b).mark=true:=by
   unfold d8;rw[aU];show(bT row n b).above.isSome=true;rw[qM,if_neg ne,<-ca ne,hu.2];rfl
  have mb:m≠b:=λz=>by
   subst z;exact sa m hmk (f.up m hmk m (sub hmk (zaj e)).1).2
  rw[bo mb]at e;have:=f.dg m hmk i b e (λz=>ne z)
  rw[ba,hs];rw[hm]at this;have h1:b1 true=1:=rfl;have h0:b1 false=0:=rfl;omega
 ·exact o.dg m hmk i b e nb
theorem Fm.cuts:∀(C aj:List Str) (row:Str->aI.Row) (n L:Str),Bt K c aj keys row->n∈keys->FmX keys row n->Ch row n C L->Fm keys (cuts C row):=by
 intro C
 induction C with
 |nil=>intro aj row n L _ _ _ hch;cases hch
 |cons x C ih=>
  intro aj row n L h hn f hch;have sa:∀m∈keys,(row m).above≠some m:=λm hm e=>h.neA hm e rfl
  cases hch with
  |one ha hm=>
   rw[lO ha];exact(f.cut sa hn (h.ab x hn _ ha) ha (h.neA hn ha)).2 hm
  |more ha hm hch=>
   rename_i a
   have hka:=h.ab x hn a ha;rw[lO ha];exact ih (aj++[x]) (d8 row x a) a L (h.cut hn ha) hka (f.cut sa hn hka ha (h.neA hn ha)).1 (Ch.cut h hn ha hch)
end
theorem k8(f:Option Str):nU (bg f) .none=some (.bool f.isSome,false):=by cases f<;>rfl
theorem DB(f:Option Str):gIs (bg f) .none=some (.bool f.isNone,false):=by cases f<;>rfl
theorem k9(l:List Str)(x:Str):l.map PyData.str++[.str x]=(l++[x]).map .str:=by rw[za1];rfl
theorem uZ{a:PM}{ρ ρ1:Rho}{l:List D}{k:Kd}(h1:sv a ρ=some ((.tuple l,k),ρ1)):vW a ρ=some (l,ρ1):=by
 unfold vW;rw[h1];rfl
theorem xh{c:Nat}(hc:c<=200){aj keys:List Str}{row:Str->aI.Row}{name a:Str}{K:Str->Int}(h:Bt K c aj keys row)(hn:name∈keys)(ha:(row name).above=some a){sts:List D}(hs:sts.length<=1000){s5 s6 s7 s8 s9 s10:Sl}(n5:NIo s5)(n6:NIo s6)(n7:NIo s7)(n8:NIo s8)(n9:NIo s9)(n10:NIo s10) :
  kN [.io (TD aj),.io (HD keys row),.fz (.str name),.own (.list sts),.fz (.bool true),s5,s6,s7,s8,s9,s10]=some (.nx [.io (TD (aj++[name])),.io (HD keys (d8 row name a)),.fz (.str a),.own (.list (sts++[.tuple [.str "cut",.str name]])),.fz (.bool (bT row name a).mark),.fz (.int (bT row name a).key),.fz (.str a),.fz (.bool (row name).mark),.fz (.tuple (((bT row name a).below.filter λx=>!decide (x=name)).map .str)),.fz (bg (bT row name a).above),.fz (.bool (bT row name a).mark)]):=by
 have hka:=h.ab name hn a ha;have kl:=h.kl;have tl:=h.tl;have okn:=h.ok hn;refine aX (ρ1:=[.io (TD aj),.io (HD keys row),.fz (.str name),.own (.list sts),.fz (.bool true),.fz (.int (row name).key),.fz (.str a),.fz (.bool (row name).mark),.fz (.tuple ((row name).below.map .str)),s9,s10]) (pG (dr (.inr (.inr rfl)) hn (av rfl)) ?_) ?_
 ·show(mgN 5 (.int (row name).key) _).bind (fun ρ1=>(mgN 6 (bg (row name).above) ρ1).bind fun ρ2=>(mgN 7 (.bool (row name).mark) ρ2).bind fun ρ3=>(mgN 8 (.tuple ((row name).below.map .str)) ρ3).bind fun ρ4=>some ρ4)=_
  rw[fV (s:=s5) rfl n5,zai,fV (s:=s6) rfl n6,zai,fV (s:=s7) rfl n7,zai,fV (s:=s8) rfl n8,zai,ha];rfl
 refine aX (ρ1:=[.io (TD aj),.io (HD keys (bT row name)),.fz (.str name),.own (.list sts),.fz (.bool true),.fz (.int (row name).key),.fz (.str a),.fz (.bool (row name).mark),.fz (.tuple ((row name).below.map .str)),s9,s10]) ((i7 (i:=1) (r:=⟨(row name).key,none,false,(row name).below⟩) (dE (rs:=[(.int (row name).key,.fz),(.none,.fz),(.bool false,.fz),(.tuple ((row name).below.map .str),.fz)]) rfl rfl (by simp)) (av rfl) rfl (.inr rfl) (by omega)).trans (by rw[gD hn];rfl)) ?_
 refine aX (ρ1:=[.io (TD (aj++[name])),.io (HD keys (bT row name)),.fz (.str name),.own (.list sts),.fz (.bool true),.fz (.int (row name).key),.fz (.str a),.fz (.bool (row name).mark),.fz (.tuple ((row name).below.map .str)),s9,s10]) (i3 (qL (rs:=[(.str name,.fz)]) rfl rfl rfl rfl (uV _ (by rw[zal];omega)) (by rw[k9];rfl))) ?_
 refine aX (ρ1:=[.io (TD (aj++[name])),.io (HD keys (bT row name)),.fz (.str name),.own (.list (sts++[.tuple [.str "cut",.str name]])),.fz (.bool true),.fz (.int (row name).key),.fz (.str a),.fz (.bool (row name).mark),.fz (.tuple ((row name).below.map .str)),s9,s10]) (i3 (qL (rs:=[(.tuple [.str "cut",.str name],.fz)]) rfl (aB (ao (dE (rs:=[(.str "cut",.fz),(.str name,.fz)]) rfl rfl (by simp))) aR) rfl rfl (uV _ (by omega)) rfl)) ?_
 refine aX (ρ1:=[.io (TD (aj++[name])),.io (HD keys (bT row name)),.fz (.str name),.own (.list (sts++[.tuple [.str "cut",.str name]])),.fz (.bool true),.fz (.int (bT row name a).key),.fz (.str a),.fz (.bool (row name).mark),.fz (.tuple ((bT row name a).below.map .str)),.fz (bg (bT row name a).above),.fz (.bool (bT row name a).mark)]) (pG (dr (.inr (.inr rfl)) hka (av rfl)) ?_) ?_
 ·show(some ([.io (TD (aj++[name])),.io (HD keys (bT row name)),.fz (.str name),.own (.list (sts++[.tuple [.str "cut",.str name]])),.fz (.bool true),.fz (.int (bT row name a).key),.fz (.str a),.fz (.bool (row name).mark),.fz (.tuple ((row name).below.map .str)),s9,s10]:Rho)).bind (fun ρ1=>(mgN 9 (bg (bT row name a).above) ρ1).bind fun ρ2=>(mgN 10 (.bool (bT row name a).mark) ρ2).bind fun ρ3=>(mgN 8 (.tuple ((bT row name a).below.map .str)) ρ3).bind fun ρ4=>some ρ4)=_
  rw[zai,fV (s:=s9) rfl n9,zai,fV (s:=s10) rfl n10,zai];rfl
 have bk:∀b∈(bT row name a).below,b∈keys:=λb hb=>by
  have e:(bT row name a).below=(row a).below:=by
   unfold bT aY;split
   ·rename_i e;rw[e]
   ·rfl
  rw[e]at hb;exact(h.bl a hka).2 b hb
 have bl:(bT row name a).below.length<=1000:=by
  have e:(bT row name a).below=(row a).below:=by
   unfold bT aY;split
   ·rename_i e;rw[e]
   ·rfl
  rw[e];have:=(h.bl a hka).1;omega
 refine aX (ρ1:=[.io (TD (aj++[name])),.io (HD keys (bT row name)),.fz (.str name),.own (.list (sts++[.tuple [.str "cut",.str name]])),.fz (.bool true),.fz (.int (bT row name a).key),.fz (.str a),.fz (.bool (row name).mark),.fz (.tuple (((bT row name a).below.filter λx=>!decide (x=name)).map .str)),.fz (bg (bT row name a).above),.fz (.bool (bT row name a).mark)]) (dD (dC (rs:=[(.list (((bT row name a).below.filter λx=>!decide (x=name)).map .str),.fz)]) (res:=(.tuple (((bT row name a).below.filter λx=>!decide (x=name)).map .str),true)) (aB (jI (wj (uZ (ao (av rfl))) (fX (p:=λx=>!decide (x=name)) _ (λx hx=>⟨_,test_ev (k:=.fz) (bP (r:=(.str name,.fz)) (res:=(.bool (!decide (x=name)),false)) (ao (av rfl)) (ao (av rfl)) (pH (h.ok (bk x hx)) okn))⟩) λx hx=>⟨_,ao (av rfl)⟩) (by rw[zal];exact zaX (zaY _ _) (by omega)))) aR) rfl) rfl) ?_
 refine aX (ρ1:=[.io (TD (aj++[name])),.io (HD keys (d8 row name a)),.fz (.str name),.own (.list (sts++[.tuple [.str "cut",.str name]])),.fz (.bool true),.fz (.int (bT row name a).key),.fz (.str a),.fz (.bool (row name).mark),.fz (.tuple (((bT row name a).below.filter λx=>!decide (x=name)).map .str)),.fz (bg (bT row name a).above),.fz (.bool (bT row name a).mark)]) ((i7 (i:=1) (r:=⟨(bT row name a).key,(bT row name a).above,(bT row name a).above.isSome,(bT row name a).below.filter λx=>!decide (x=name)⟩) (dE (rs:=[(.int (bT row name a).key,.fz),(bg (bT row name a).above,.fz),(.bool (bT row name a).above.isSome,.fz),(.tuple (((bT row name a).below.filter λx=>!decide (x=name)).map .str),.fz)]) (aB (ao (av rfl)) (aB (ao (av rfl)) (aB (ao (bP (r:=(.none,.fz)) (res:=(.bool (bT row name a).above.isSome,false)) (ao (av rfl)) (ao rfl) (k8 _))) (aB (ao (av rfl)) aR)))) rfl (by simp)) (av rfl) rfl (.inr rfl) (by omega)).trans (by rw[gD hka];rfl)) ?_
 exact aX (ρ1:=[.io (TD (aj++[name])),.io (HD keys (d8 row name a)),.fz (.str name),.own (.list (sts++[.tuple [.str "cut",.str name]])),.fz (.bool (bT row name a).mark),.fz (.int (bT row name a).key),.fz (.str a),.fz (.bool (row name).mark),.fz (.tuple (((bT row name a).below.filter λx=>!decide (x=name)).map .str)),.fz (bg (bT row name a).above),.fz (.bool (bT row name a).mark)]) (dD (av rfl) rfl) (dD (av rfl) rfl)
theorem A7{c:Nat}(hc:c<=200){K:Str->Int}{keys:List Str}:∀(C:List Str) (aj:List Str) (row:Str->aI.Row) (name L:Str) (sts:List D) (s5 s6 s7 s8 s9 s10:Sl) (fuel:Nat),NIo s5->NIo s6->NIo s7->NIo s8->NIo s9->NIo s10->Ch row name C L->Bt K c aj keys row->name∈keys->sts.length+C.length<=1000->C.length<fuel->
  ∃n' tl,fI oX kN fuel [.io (TD aj),.io (HD keys row),.fz (.str name),.own (.list sts),.fz (.bool true),s5,s6,s7,s8,s9,s10]=some (.nx (.io (TD (aj++C))::.io (HD keys (cuts C row))::.fz n'::.own (.list (sts++C.map stp))::tl))/\Bt K c (aj++C) keys (cuts C row):=by
 intro C
 induction C with
 |nil=>intro aj row name L sts s5 s6 s7 s8 s9 s10 fuel _ _ _ _ _ _ hch;cases hch
 |cons x C ih=>
  intro aj row name L sts s5 s6 s7 s8 s9 s10 fuel n5 n6 n7 n8 n9 n10 hch h hn hs hf;rw[zaw]at hs hf;obtain⟨fuel,rfl⟩:∃k,fuel=k+1:=⟨fuel-1,by omega⟩
  cases hch with
  |one ha hm=>
   obtain⟨fuel,rfl⟩:∃k,fuel=k+1:=⟨fuel-1,by omega⟩
   have ne:=h.neA hn ha;rw[lO ha];exact⟨_,_,qd (test_ev (k:=.fz) (av rfl)) (xh hc h hn ha (by omega) n5 n6 n7 n8 n9 n10) (lE (test_ev (k:=.fz) (by rw[sT ne,hm];exact av rfl))),h.cut hn ha⟩
  |more ha hm hch=>
   rename_i a
   have ne:=h.neA hn ha;rw[lO ha];obtain⟨n',tl,h1,h2⟩:=ih (aj++[x]) (d8 row x a) a L (sts++[.tuple [.str "cut",.str x]]) (.fz (.int (bT row x a).key)) (.fz (.str a)) (.fz (.bool (row x).mark)) (.fz (.tuple (((bT row x a).below.filter λy=>!decide (y=x)).map .str))) (.fz (bg (bT row x a).above)) (.fz (.bool (bT row x a).mark)) fuel (NIo.fz _) (NIo.fz _) (NIo.fz _) (NIo.fz _) (NIo.fz _) (NIo.fz _) (Ch.cut h hn ha hch) (h.cut hn ha) (h.ab x hn a ha) (by rw[zau,za7];omega) (by omega)
   refine⟨n',tl,qd (test_ev (k:=.fz) (av rfl)) (xh hc h hn ha (by omega) n5 n6 n7 n8 n9 n10) ?_,?_⟩
   ·rw[sT ne,hm]at h1⊢
    rw[h1,zaD,zaD];rfl
   ·rw[zaD]at h2;exact h2
theorem Ka{c:Nat}(hc:c<=200){K:Str->Int}{aj keys C:List Str}{row:Str->aI.Row}(h:Bt K c aj keys row){name L:Str}(hn:name∈keys)(hch:Ch row name C L)(hl:C.length<=200):iD [TD aj,HD keys row,.str name]=some ((.list (C.map stp),true),TD (aj++C),HD keys (cuts C row))/\Bt K c (aj++C) keys (cuts C row):=by
 obtain⟨n',tl,h1,h2⟩:=A7 hc C aj row name L [] .no .no .no .no .no .no 1000000 NIo.no NIo.no NIo.no NIo.no NIo.no NIo.no hch h hn (by simp;omega) (by omega)
 refine⟨?_,h2⟩;have ea:(row name).above.isSome=true:=by cases hch with|one ha _=>rw[ha];rfl|more ha _ _=>rw[ha];rfl
 refine yu (o:=.rt (.list (C.map stp),.at 3) (.io (TD (aj++C))::.io (HD keys (cuts C row))::.fz n'::.own (.list (C.map stp))::tl)) rfl ?_ rfl rfl;refine aX (ρ1:=[.io (TD aj),.io (HD keys row),.fz (.str name),.own (.list []),.no,.no,.no,.no,.no,.no,.no]) (gz (je (rs:=[]) rfl rfl (by simp)) rfl) ?_
 refine aX (ρ1:=[.io (TD aj),.io (HD keys row),.fz (.str name),.own (.list []),.fz (.bool true),.no,.no,.no,.no,.no,.no]) (dD (bP (r:=(.none,.fz)) (res:=(.bool true,false)) (ao (ox (dr (.inr (.inr rfl)) hn (av rfl)))) (ao rfl) (by rw[k8,ea])) rfl) ?_
 rw[List.nil_append]at h1;exact aX h1 (dJ (jJ rfl))
theorem IL{c:Nat}(hc:c<=200){K:Str->Int}{aj keys:List Str}{row:Str->aI.Row}(h:Bt K c aj keys row)(hF:Fm keys row){name:Str}(hn:name∈keys):∃d5 aK sts,iD [TD aj,HD keys row,.str name]=some ((.list sts,true),TD d5,HD keys aK)/\Bt K c d5 keys aK/\(∀n,(aK n).key=(row n).key)/\Fm keys aK:=by
 cases ea:(row name).above with
 |some a=>
  obtain⟨C,L,h1,h2⟩:=J8 h hn (by rw[ea];simp)
  obtain⟨h3,h4⟩:=Ka hc h hn h1 (by omega)
  exact⟨_,_,_,h3,h4,xf C row,Fm.cuts C aj row name L h hn (hF.x name) h1⟩
 |none=>
  refine⟨aj,row,[],?_,h,λ_=>rfl,hF⟩
  refine yu (o:=.rt (.list [],.at 3) [.io (TD aj),.io (HD keys row),.fz (.str name),.own (.list []),.fz (.bool false),.no,.no,.no,.no,.no,.no]) rfl ?_ rfl rfl;refine aX (ρ1:=[.io (TD aj),.io (HD keys row),.fz (.str name),.own (.list []),.no,.no,.no,.no,.no,.no,.no]) (gz (je (rs:=[]) rfl rfl (by simp)) rfl) ?_
  refine aX (ρ1:=[.io (TD aj),.io (HD keys row),.fz (.str name),.own (.list []),.fz (.bool false),.no,.no,.no,.no,.no,.no]) (dD (bP (r:=(.none,.fz)) (res:=(.bool false,false)) (ao (ox (dr (.inr (.inr rfl)) hn (av rfl)))) (ao rfl) (by rw[k8,ea];rfl)) rfl) ?_
  exact aX (lE (n:=999999) (test_ev (k:=.fz) (av rfl))) (dJ (jJ rfl))
abbrev bst(cs:D)(T H:D)(k cell:Int)(s6 s7 s8 s9:Sl):Rho:=[.fz cs,.fz (.int 0),.own T,.own H,.fz (.int k),.fz (.int cell),s6,s7,s8,s9]
theorem yw{c:Nat}(hc:c<100){aj keys:List Str}{row:Str->aI.Row}(h:Bk c aj keys row)(hF:Fm keys row)(cs:D)(cell:Int){s6 s7 s8 s9:Sl}(n6:NIo s6)(n7:NIo s7)(n8:NIo s8)(n9:NIo s9) :
  ∃d5 keys' aK t6 t7 t8 t9,gC (bst cs (TD aj) (HD keys row) (c:Int) cell s6 s7 s8 s9)=some (.nx (bst cs (TD d5) (HD keys' aK) (c:Int) cell t6 t7 t8 t9))/\Bk (c+1) d5 keys' aK/\Fm keys' aK/\NIo t6/\NIo t7/\NIo t8/\NIo t9:=by
 have kl:=h.kl;have tl:=h.tl;obtain⟨L,hL,hL2⟩:=Fz (row:=row) (λt ht=>(h.tk t ht).1) (by omega) (cell/5%97)
 have okL:∀x∈L,PyData.strOk x=true:=λx hx=>by
  rcases hL2 with rfl|⟨a,b,i,j,rfl,_,g1,g2,_⟩
  ·cases hx
  ·have:x=a\/x=b:=by simpa using hx
   rcases this with rfl|rfl
   ·exact h.ok (h.tk x (zaj g1)).1
   ·exact h.ok (h.tk x (zaj g2)).1
 have hd:∀o,gY (nR (aN (mOp gEq (mOp d7 (ah 5) (mC (.int 5))) (mC (.int 4)))) (aN (mOp gGt (mCB cH (ak (ah 8) aF)) (mC (.int 0)))))
   (gJ (jM 2 3 iD (ak (mOp gIx (ah 8) (mOp d7 (ah 6) (mCB cH (ak (ah 8) aF)))) aF)))
   (gY (nR (aN (mOp gGt (mOp d7 (ah 5) (mC (.int 5))) (mC (.int 0)))) (aN (mOp gNe (ah 7) (iJ aF))))
   (cg (gY (aN (cK df (ak (ah 3) (ak (mOp gIx (ah 7) (mC (.int 0))) (ak (mOp gIx (ah 7) (mC (.int 1))) aF)))))
   (gJ (sh 7 mM))
   gH)
   (gJ (jM 2 3 eA (ak (mOp gIx (ah 7) (mC (.int 0))) (ak (mOp gIx (ah 7) (mC (.int 1))) aF)))))
   (cg (dR 9 (cK cL (ak (mOp gK (ah 1) (ah 4)) aF)))
   (cg (kh 3 (f9 (ak (cK dh (ak (ah 6) aF)) (ak (mC .none) (ak (mC (.bool false)) (ak (f9 aF) aF))))) (ah 9))
   (gJ (rA 2 ie (ak (ah 9) aF)))))) (bst cs (TD aj) (HD keys row) (c:Int) cell (.fz (.int (cell/5))) (.own (TD L)) (.own (TD keys)) s9)=some o->gC (bst cs (TD aj) (HD keys row) (c:Int) cell s6 s7 s8 s9)=some o:=λo ho=>by
  refine aX (ρ1:=bst cs (TD aj) (HD keys row) (c:Int) cell (.fz (.int (cell/5))) s7 s8 s9) (dD (qj (b8 rfl) cS ⟨by decide,by decide⟩) (iy (s:=s6) _ rfl n6)) ?_
  refine aX (ρ1:=bst cs (TD aj) (HD keys row) (c:Int) cell (.fz (.int (cell/5))) (.own (TD L)) s8 s9) (gz (dB (rs:=[(TD aj,.at 2),(HD keys row,.at 3),(.int (cell/5%97),.fz)]) (pB (qh (jJ rfl)) (pB (qh (jJ rfl)) (gg (fN (b8 rfl) cS (by decide)) aR) rfl) rfl) hL (jv L)) (iy (s:=s7) _ rfl n7)) ?_
  exact aX (ρ1:=bst cs (TD aj) (HD keys row) (c:Int) cell (.fz (.int (cell/5))) (.own (TD L)) (.own (TD keys)) s9) (gz (Dw (.inr (.inl rfl))) (iy (s:=s8) _ rfl n8)) ho
 have em:IE (mOp d7 (ah 5) (mC (.int 5))) (bst cs (TD aj) (HD keys row) (c:Int) cell (.fz (.int (cell/5))) (.own (TD L)) (.own (TD keys)) s9) (cell%5):=fN (b8 rfl) cS (by decide)
 have el:IE (mCB cH (ak (ah 8) aF)) (bst cs (TD aj) (HD keys row) (c:Int) cell (.fz (.int (cell/5))) (.own (TD L)) (.own (TD keys)) s9) (keys.length:Int):=pJ (.inr (.inl rfl))
 by_cases c1:cell%5=4/\0<keys.length
 ·obtain⟨n,hn,en⟩:=FD (ρ:=bst cs (TD aj) (HD keys row) (c:Int) cell (.fz (.int (cell/5))) (.own (TD L)) (.own (TD keys)) s9) (i:=8) (l:=keys) (.inr (.inl rfl)) c1.2 (a:=ah 6) (b8 rfl)
  obtain⟨d5,aK,sts,h1,h2,h2k,h2f⟩:=IL (by omega:c<=200) h hF hn
  refine⟨d5,keys,aK,_,_,_,_,hd _ (wg (ze (tEq em cS c1.1) (ig (l6 el cS) (zaH (by omega)))) (i3 (xc (r:=(.list sts,.new)) (ρ3:=bst cs (TD d5) (HD keys aK) (c:Int) cell (.fz (.int (cell/5))) (.own (TD L)) (.own (TD keys)) s9) (by decide) rfl rfl (aB (ao en) aR) rfl rfl rfl h1 rfl))),(h2.re λn _=>(h2k n).symm).more (Nat.le_succ c),h2f,NIo.fz _,NIo.own _,NIo.own _,n9⟩
 ·have t1:nR (aN (mOp gEq (mOp d7 (ah 5) (mC (.int 5))) (mC (.int 4)))) (aN (mOp gGt (mCB cH (ak (ah 8) aF)) (mC (.int 0)))) (bst cs (TD aj) (HD keys row) (c:Int) cell (.fz (.int (cell/5))) (.own (TD L)) (.own (TD keys)) s9)=some (false,bst cs (TD aj) (HD keys row) (c:Int) cell (.fz (.int (cell/5))) (.own (TD L)) (.own (TD keys)) s9):=by
   by_cases e:cell%5=4
   ·exact ze (tEq em cS e) (ig (l6 el cS) (zaO (by omega)))
   ·exact Gr (tNe em cS e)
  have enw:mOp gNe (ah 7) (iJ aF) (bst cs (TD aj) (HD keys row) (c:Int) cell (.fz (.int (cell/5))) (.own (TD L)) (.own (TD keys)) s9)=some ((.bool (!L.isEmpty),.fz),bst cs (TD aj) (HD keys row) (c:Int) cell (.fz (.int (cell/5))) (.own (TD L)) (.own (TD keys)) s9):=qJ (r:=(.list [],.fz)) (res:=(.bool (!L.isEmpty),false)) (.inr (.inl rfl)) (jI (je (rs:=[]) rfl rfl (by simp))) (FA okL)
  by_cases c2 : 0<cell%5/\L≠[]
  ·obtain⟨a,b,i,j,rfl,ne,g1,g2,ed⟩:=hL2.resolve_left c2.2
   have ma:=zaj g1;have mb:=zaj g2;have ka:=(h.tk a ma).1;have kb:=(h.tk b mb).1;have nab:a≠b:=λe=>by
    subst e;obtain⟨hi,e1⟩:=zac g1;obtain⟨hj,e2⟩:=zac g2;have pw:=List.pairwise_iff_getElem.mp h.tn;rcases Nat.lt_or_gt_of_ne ne with q|q
    ·exact pw i j hi hj q (e1.trans e2.symm)
    ·exact pw j i hj hi q (e2.trans e1.symm)
   have fin:∀x y:Str,x∈aj->y∈aj->y≠x->gJ (jM 2 3 eA (ak (mOp gIx (ah 7) (mC (.int 0))) (ak (mOp gIx (ah 7) (mC (.int 1))) aF))) (bst cs (TD aj) (HD keys row) (c:Int) cell (.fz (.int (cell/5))) (.own (TD [x,y])) (.own (TD keys)) s9)=some (.nx (bst cs (TD (aj.erase x)) (HD keys (bz row x y)) (c:Int) cell (.fz (.int (cell/5))) (.own (TD [x,y])) (.own (TD keys)) s9)):=λx y hx hy hne=>by
    have i0:mOp gIx (ah 7) (mC (.int 0)) (bst cs (TD aj) (HD keys row) (c:Int) cell (.fz (.int (cell/5))) (.own (TD [x,y])) (.own (TD keys)) s9)=some ((.str x,.fz),bst cs (TD aj) (HD keys row) (c:Int) cell (.fz (.int (cell/5))) (.own (TD [x,y])) (.own (TD keys)) s9):=qJ (r:=(.int 0,.fz)) (res:=(.str x,false)) (.inr (.inl rfl)) (ao rfl) rfl;have i1:mOp gIx (ah 7) (mC (.int 1)) (bst cs (TD aj) (HD keys row) (c:Int) cell (.fz (.int (cell/5))) (.own (TD [x,y])) (.own (TD keys)) s9)=some ((.str y,.fz),bst cs (TD aj) (HD keys row) (c:Int) cell (.fz (.int (cell/5))) (.own (TD [x,y])) (.own (TD keys)) s9):=qJ (r:=(.int 1,.fz)) (res:=(.str y,false)) (.inr (.inl rfl)) (ao rfl) rfl;exact i3 (xc (r:=(.none,.fz)) (by decide) rfl rfl (aB (ao i0) (aB (ao i1) aR)) rfl rfl rfl (zT (h.tk x hx).1 (h.tk y hy).1 hx (by omega) λn hn=>by have:=(h.bl n hn).1;omega) rfl)
   have i0:mOp gIx (ah 7) (mC (.int 0)) (bst cs (TD aj) (HD keys row) (c:Int) cell (.fz (.int (cell/5))) (.own (TD [a,b])) (.own (TD keys)) s9)=some ((.str a,.fz),bst cs (TD aj) (HD keys row) (c:Int) cell (.fz (.int (cell/5))) (.own (TD [a,b])) (.own (TD keys)) s9):=qJ (r:=(.int 0,.fz)) (res:=(.str a,false)) (.inr (.inl rfl)) (ao rfl) rfl;have i1:mOp gIx (ah 7) (mC (.int 1)) (bst cs (TD aj) (HD keys row) (c:Int) cell (.fz (.int (cell/5))) (.own (TD [a,b])) (.own (TD keys)) s9)=some ((.str b,.fz),bst cs (TD aj) (HD keys row) (c:Int) cell (.fz (.int (cell/5))) (.own (TD [a,b])) (.own (TD keys)) s9):=qJ (r:=(.int 1,.fz)) (res:=(.str b,false)) (.inr (.inl rfl)) (ao rfl) rfl;have tb:aN (cK df (ak (ah 3) (ak (mOp gIx (ah 7) (mC (.int 0))) (ak (mOp gIx (ah 7) (mC (.int 1))) aF)))) (bst cs (TD aj) (HD keys row) (c:Int) cell (.fz (.int (cell/5))) (.own (TD [a,b])) (.own (TD keys)) s9)=some (a0 (row a).key a (row b).key b,bst cs (TD aj) (HD keys row) (c:Int) cell (.fz (.int (cell/5))) (.own (TD [a,b])) (.own (TD keys)) s9):=(lG (rs:=[(HD keys row,.at 3),(.str a,.fz),(.str b,.fz)]) (pB (qh (jJ rfl)) (aB (ao i0) (aB (ao i1) aR)) rfl) (sO keys row a b ka kb)).t;have t2:nR (aN (mOp gGt (mOp d7 (ah 5) (mC (.int 5))) (mC (.int 0)))) (aN (mOp gNe (ah 7) (iJ aF))) (bst cs (TD aj) (HD keys row) (c:Int) cell (.fz (.int (cell/5))) (.own (TD [a,b])) (.own (TD keys)) s9)=some (true,bst cs (TD aj) (HD keys row) (c:Int) cell (.fz (.int (cell/5))) (.own (TD [a,b])) (.own (TD keys)) s9):=ze (ig (l6 em cS) (zaH c2.1)) (test_ev (k:=.fz) enw);cases eb:a0 (row a).key a (row b).key b with
   |true=>
    rw[eb]at tb;exact⟨aj.erase b,keys,bz row b a,_,_,_,_,hd _ (jK t1 (wg t2 (aX (ρ1:=bst cs (TD aj) (HD keys row) (c:Int) cell (.fz (.int (cell/5))) (.own (TD [b,a])) (.own (TD keys)) s9) (wg tb (i3 (FC rfl rfl rfl))) (fin b a mb ma nab)))),(h.hung mb ma nab eb).re λn _=>(k6 nab n).symm,hF.hung kb ka nab (h.tk b mb).2 ed.symm,NIo.fz _,NIo.own _,NIo.own _,n9⟩
   |false=>
    rw[eb]at tb;exact⟨aj.erase a,keys,bz row a b,_,_,_,_,hd _ (jK t1 (wg t2 (aX (ρ1:=bst cs (TD aj) (HD keys row) (c:Int) cell (.fz (.int (cell/5))) (.own (TD [a,b])) (.own (TD keys)) s9) (jK tb rfl) (fin a b ma mb λz=>nab z.symm)))),(h.hung ma mb (λz=>nab z.symm) (nq nab eb)).re λn _=>(k6 (λz=>nab z.symm) n).symm,hF.hung ka kb (λz=>nab z.symm) (h.tk a ma).2 ed,NIo.fz _,NIo.own _,NIo.own _,n9⟩
  ·have t2:nR (aN (mOp gGt (mOp d7 (ah 5) (mC (.int 5))) (mC (.int 0)))) (aN (mOp gNe (ah 7) (iJ aF))) (bst cs (TD aj) (HD keys row) (c:Int) cell (.fz (.int (cell/5))) (.own (TD L)) (.own (TD keys)) s9)=some (false,bst cs (TD aj) (HD keys row) (c:Int) cell (.fz (.int (cell/5))) (.own (TD L)) (.own (TD keys)) s9):=by
    by_cases e : 0<cell%5
    ·have:L=[]:=Classical.byContradiction λz=>c2 ⟨e,z⟩
     subst this;exact ze (ig (l6 em cS) (zaH e)) (test_ev (k:=.fz) enw)
    ·exact Gr (ig (l6 em cS) (zaO e))
   obtain⟨v,hv⟩:=key_is (cell/5);obtain⟨hnk,hB⟩:=Bk.new (by omega:c<130) h v
   have ea:IE (mOp gK (ah 1) (ah 4)) (bst cs (TD aj) (HD keys row) (c:Int) cell (.fz (.int (cell/5))) (.own (TD L)) (.own (TD keys)) s9) (c:Int):=(jL (b8 rfl) (b8 rfl)).is (by omega)
   refine⟨_,_,_,_,_,_,_,hd _ (jK t1 (jK t2 ?_)),hB,hF.new h.ab hnk v,NIo.fz (.int (cell/5)),NIo.own (TD L),NIo.own (TD keys),NIo.fz (.str (aA c))⟩;refine aX (ρ1:=bst cs (TD aj) (HD keys row) (c:Int) cell (.fz (.int (cell/5))) (.own (TD L)) (.own (TD keys)) (.fz (.str (aA c)))) (dD (dB (rs:=[(.int (c:Int),.fz)]) (gg ea aR) (uU c) rfl) (iy (s:=s9) _ rfl n9)) ?_;refine aX (ρ1:=bst cs (TD aj) (HD (keys++[aA c]) (aY row (aA c) ⟨v,none,false,[]⟩)) (c:Int) cell (.fz (.int (cell/5))) (.own (TD L)) (.own (TD keys)) (.fz (.str (aA c)))) ((i7 (i:=3) (r:=⟨v,none,false,[]⟩) (dE (rs:=[(.int v,.fz),(.none,.fz),(.bool false,.fz),(.tuple [],.fz)]) (gg (lF (rs:=[(.int (cell/5),.fz)]) rfl hv) (aB (ao rfl) (aB (ao rfl) (aB (ao (dE (rs:=[]) rfl rfl (by simp))) aR)))) rfl (by simp)) (av rfl) rfl (.inl rfl) (by omega)).trans (by rw[qK hnk];rfl)) ?_
   exact i3 (qL (rs:=[(.str (aA c),.fz)]) rfl rfl rfl rfl (uV _ (by rw[zal];omega)) (by rw[k9];rfl))
theorem DC(cs:List Int):oW (cs.map .int)=(cs.zipIdx).map λp:Int×Nat=>PyData.tuple [.int (p.2:Int),.int p.1]:=by
 unfold oW;refine List.ext_getElem? λi=>?_
 rw[List.getElem?_mapIdx,zao,zao,List.getElem?_zipIdx];cases cs[i]? <;>simp
theorem yx(csD:D):∀(cs:List Int) (c:Nat) (aj keys:List Str) (row:Str->aI.Row) (s4 s5 s6 s7 s8 s9:Sl),NIo s4->NIo s5->NIo s6->NIo s7->NIo s8->NIo s9->c+cs.length<=100->Bk c aj keys row->Fm keys row->
  ∃d5 keys' aK tl,forL (mgU 2 (bK (mgN 4) (bK (mgN 5) gZ))) gC ((cs.zipIdx c).map λp:Int×Nat=>PyData.tuple [.int (p.2:Int),.int p.1]) [.fz csD,.fz (.int 0),.own (TD aj),.own (HD keys row),s4,s5,s6,s7,s8,s9]=some (.nx (.fz csD::.fz (.int 0)::.own (TD d5)::.own (HD keys' aK)::tl))/\Bk (c+cs.length) d5 keys' aK/\Fm keys' aK:=by
 intro cs
 induction cs with
 |nil=>intro c aj keys row s4 s5 s6 s7 s8 s9 _ _ _ _ _ _ _ h hF;exact⟨aj,keys,row,_,rfl,h,hF⟩
 |cons x cs ih=>
  intro c aj keys row s4 s5 s6 s7 s8 s9 n4 n5 n6 n7 n8 n9 hl h hF;rw[zaw]at hl⊢;obtain⟨Kb,zW,cq,t6,t7,t8,t9,h1,h2,h2f,m6,m7,m8,m9⟩:=yw (by omega:c<100) h hF csD x n6 n7 n8 n9
  obtain⟨d5,keys',aK,tl,h3,h4,h4f⟩:=ih (c+1) Kb zW cq (.fz (.int (c:Int))) (.fz (.int x)) t6 t7 t8 t9 (NIo.fz _) (NIo.fz _) m6 m7 m8 m9 (by omega) h2 h2f
  refine⟨d5,keys',aK,tl,?_,by rw[show c+(cs.length+1)=c+1+cs.length by omega];exact h4,h4f⟩
  rw[List.zipIdx_cons,zaz];refine jn (ρ1:=bst csD (TD aj) (HD keys row) (c:Int) x s6 s7 s8 s9) ?_ h1 h3;show(mgN 4 (.int (c:Int)) _).bind (fun ρ1=>(mgN 5 (.int x) ρ1).bind fun ρ2=>some ρ2)=_
  rw[fV (s:=s4) rfl n4,zai,fV (s:=s5) rfl n5,zai];rfl
theorem Bt.zero(row:Str->aI.Row):Bk 0 [] [] row:=⟨by simp,(λn hn=>by cases hn),by simp,(λn hn=>by cases hn),(λn hn=>by cases hn),(λn hn=>by cases hn),(λn hn=>by cases hn),(λn hn=>by cases hn),λn hn=>by cases hn⟩
theorem yy{n k:Nat}{b:Rho->Option (D×D)}{ds:List D}{w:D×D}(h0:ds.length=n)(h1:b (ds.map .fz++List.replicate k .no)=some w):fnD n k b ds=some w:=by unfold fnD;rw[if_pos h0,h1]
theorem jw{a:SM}{b:Rho->Option (D×D)}{ρ ρ1:Rho}{o:Option (D×D)}(h1:a ρ=some (.nx ρ1))(h2:b ρ1=o):mO a b ρ=o:=by unfold mO;rw[h1,zai];exact h2
theorem DD(cs:List Int)(hl:cs.length<=60):∃aj keys row,gO [.list (cs.map .int),.int 0]=some (TD aj,HD keys row)/\Bk 60 aj keys row/\Fm keys row:=by
 obtain⟨aj,keys,row,tl,h1,h2,h2f⟩:=yx (.list (cs.map .int)) cs 0 [] [] (λ_=>⟨0,none,false,[]⟩) .no .no .no .no .no .no NIo.no NIo.no NIo.no NIo.no NIo.no NIo.no (by omega) (Bt.zero _) (Fm.zero _)
 refine⟨aj,keys,row,?_,h2.more (by omega),h2f⟩
 refine yy rfl ?_;refine jw (ρ1:=[.fz (.list (cs.map .int)),.fz (.int 0),.own (TD []),.no,.no,.no,.no,.no,.no,.no]) (gz (je (rs:=[]) rfl rfl (by simp)) rfl) ?_
 refine jw (ρ1:=[.fz (.list (cs.map .int)),.fz (.int 0),.own (TD []),.own (HD [] λ_=>⟨0,none,false,[]⟩),.no,.no,.no,.no,.no,.no]) (gz rfl rfl) ?_
 rw[<-DC]at h1;exact jw (qg (ds:=oW (cs.map .int)) rfl h1) rfl
def names(c:Nat):List Str:=(List.range c).map aA
theorem jx(c:Nat):(names c).length=c:=by unfold names;rw[zal,List.length_range]
theorem fB{c:Nat}{n:Str}:n∈names c↔∃i,i<c/\n=aA i:=by
 unfold names;rw[List.mem_map]
 constructor
 ·rintro⟨i,hi,rfl⟩;exact⟨i,List.mem_range.mp hi,rfl⟩
 ·rintro⟨i,hi,rfl⟩;exact⟨i,List.mem_range.mpr hi,rfl⟩
theorem jS(c:Nat):names (c+1)=names c++[aA c]:=by unfold names;rw[List.range_succ,za1];rfl
theorem oz{c:Nat}(hc:c<130):aA c∉names c:=λz=>by
 obtain⟨i,hi,e⟩:=fB.mp z;exact gQ c hc i hi e
theorem qP{c:Nat}(hc:c<130):A0 (names c) (aA c)=names (c+1):=by rw[qK (oz hc),jS]
theorem DE:∀c:Nat,c<=130->(names c).Nodup:=by
 intro c
 induction c with
 |zero=>intro _;exact List.nodup_nil
 |succ c ih=>
  intro hc;rw[jS,List.nodup_append];exact⟨ih (by omega),by simp,λx hx y hy=>by rw[zad hy];exact λe=>oz (c:=c) (by omega) (by rw[<-e];exact hx)⟩
def fb(m:Nat):Nat:=[1,2,3,5,8,13,21,34,55,89].getD m 0
theorem u5:∀q,q<9->fb (q+1)=fb q+fb (q-1):=by decide
theorem sU:∀M,M<10->∀q,q<M+1->fb q<=fb M:=by decide
theorem lQ:∀M,M<10->M<=fb M/\0<fb M:=by decide
structure Gp(o:Str->Prop)(c:Nat)(row:Str->aI.Row):Prop where
 ab:∀i,i<c->∀a,(row (aA i)).above=some a->(∃j,j<c/\a=aA j)/\(row a).key<(row (aA i)).key
 mkd:∀i,i<c->(row (aA i)).mark=true->(row (aA i)).above≠none
 bl:∀i,i<c->(row (aA i)).below.length<=c/\∀b∈(row (aA i)).below,(∃j,j<c/\b=aA j)/\(row b).above=some (aA i)
 nd:∀i,i<c->(row (aA i)).below.Nodup
 dg:∀i,i<c->∀(p:Nat) (b:Str),(row (aA i)).below[p]?=some b->p<=(row b).below.length+b1 (row b).mark
 dn:∀i,i<c->∀a,(row (aA i)).above=some a->¬o a->aA i∈(row a).below
theorem jy{i j:Nat}(hi:i<130)(hj:j<130)(e:aA i=aA j):i=j:=by
 rcases Nat.lt_trichotomy i j with h|h|h
 ·exact absurd e.symm (gQ j hj i h)
 ·exact h
 ·exact absurd e (gQ i hi j h)
theorem Gp.new{o:Str->Prop}{c:Nat}{row:Str->aI.Row}(h:Gp o c row)(hc:c<130){key:Int}{above:Option Str}{mark:Bool}(ha:∀a,above=some a->(∃j,j<c/\a=aA j)/\(row a).key<key)(hm:mark=true->above≠none)(ho:∀a,above=some a->o a):Gp o (c+1) (aY row (aA c) ⟨key,above,mark,[]⟩):=by
 have ne:∀i,i<c->aA i≠aA c:=λi hi e=>gQ c hc i hi e.symm
 have cs:∀(P:Nat->Prop),P c->(∀i,i<c->P i)->∀i,i<c+1->P i:=λP h1 h2 i hi=>by
  by_cases z:i=c
  ·subst z;exact h1
  ·exact h2 i (by omega)
 refine⟨cs _ (λa e=>?_) λi hi a e=>?_,cs _ (λe=>?_) λi hi e=>?_,cs _ ?_ λi hi=>?_,cs _ ?_ λi hi=>?_,cs _ (λp b e=>?_) λi hi p b e=>?_,cs _ (λa e n=>?_) λi hi a e n=>?_⟩
 ·rw[aU]at e⊢
  obtain⟨⟨j,hj,rfl⟩,h2⟩:=ha a e;rw[aG _ _ (ne j hj)];exact⟨⟨j,by omega,rfl⟩,h2⟩
 ·rw[aG _ _ (ne i hi)]at e⊢
  obtain⟨⟨j,hj,rfl⟩,h2⟩:=h.ab i hi a e;rw[aG _ _ (ne j hj)];exact⟨⟨j,by omega,rfl⟩,h2⟩
 ·rw[aU]at e⊢;exact hm e
 ·rw[aG _ _ (ne i hi)]at e⊢;exact h.mkd i hi e
 ·rw[aU];exact⟨Nat.zero_le _,λb hb=>by cases hb⟩
 ·rw[aG _ _ (ne i hi)]
  obtain⟨h1,h2⟩:=h.bl i hi;refine⟨by omega,λb hb=>?_⟩
  obtain⟨⟨j,hj,rfl⟩,e⟩:=h2 b hb;rw[aG _ _ (ne j hj)];exact⟨⟨j,by omega,rfl⟩,e⟩
 ·rw[aU];exact List.nodup_nil
 ·rw[aG _ _ (ne i hi)];exact h.nd i hi
 ·rw[aU]at e;simp at e
 ·rw[aG _ _ (ne i hi)]at e
  obtain⟨⟨j,hj,rfl⟩,_⟩:=(h.bl i hi).2 b (zaj e);rw[aG _ _ (ne j hj)];exact h.dg i hi p _ e
 ·rw[aU]at e;exact absurd (ho a e) n
 ·rw[aG _ _ (ne i hi)]at e
  obtain⟨⟨j,hj,rfl⟩,_⟩:=h.ab i hi a e;rw[aG _ _ (ne j hj)];exact h.dn i hi _ e n
theorem Gp.upd{o:Str->Prop}{c c0:Nat}{row:Str->aI.Row}(h:Gp (λx=>o x\/x=aA c0) c row)(h0:c0<c)(e0:(row (aA c0)).below=[]){ns:List Str}(hl:ns.length<=c)(hn:ns.Nodup)(hb:∀b∈ns,(∃j,j<c/\b=aA j)/\(row b).above=some (aA c0))(hg:∀(p:Nat) (b:Str),ns[p]?=some b->p<=(row b).below.length+b1 (row b).mark)(hd:∀i,i<c->(row (aA i)).above=some (aA c0)->aA i∈ns):Gp o c (aY row (aA c0) ⟨(row (aA c0)).key,(row (aA c0)).above,(row (aA c0)).mark,ns⟩):=by
 have ek:∀m,(aY row (aA c0) ⟨(row (aA c0)).key,(row (aA c0)).above,(row (aA c0)).mark,ns⟩ m).key=(row m).key/\(aY row (aA c0) ⟨(row (aA c0)).key,(row (aA c0)).above,(row (aA c0)).mark,ns⟩ m).above=(row m).above/\(aY row (aA c0) ⟨(row (aA c0)).key,(row (aA c0)).above,(row (aA c0)).mark,ns⟩ m).mark=(row m).mark/\(row m).below.length<=(aY row (aA c0) ⟨(row (aA c0)).key,(row (aA c0)).above,(row (aA c0)).mark,ns⟩ m).below.length:=λm=>by
  by_cases z:m=aA c0
  ·subst z;rw[aU,e0];exact⟨rfl,rfl,rfl,Nat.zero_le _⟩
  ·rw[aG _ _ z];exact⟨rfl,rfl,rfl,zap _⟩
 refine⟨λi hi a e=>?_,λi hi e=>?_,λi hi=>?_,λi hi=>?_,λi hi p b e=>?_,λi hi a e n=>?_⟩
 ·rw[(ek _).2.1]at e
  rw[(ek _).1,(ek _).1];exact h.ab i hi a e
 ·rw[(ek _).2.2.1]at e
  rw[(ek _).2.1];exact h.mkd i hi e
 ·by_cases z:aA i=aA c0
  ·rw[z,aU]
   exact⟨hl,λb hbn=>⟨(hb b hbn).1,by rw[(ek b).2.1];exact(hb b hbn).2⟩⟩
  ·rw[aG _ _ z]
   exact⟨(h.bl i hi).1,λb hbn=>⟨((h.bl i hi).2 b hbn).1,by rw[(ek b).2.1];exact((h.bl i hi).2 b hbn).2⟩⟩
 ·by_cases z:aA i=aA c0
  ·rw[z,aU];exact hn
  ·rw[aG _ _ z];exact h.nd i hi
 ·have q:=(ek b).2.2
  rw[q.1]
  by_cases z:aA i=aA c0
  ·rw[z,aU]at e
   have:=hg p b e;omega
  ·rw[aG _ _ z]at e
   have:=h.dg i hi p b e;omega
 ·rw[(ek _).2.1]at e
  by_cases z:a=aA c0
  ·subst z;rw[aU];exact hd i hi e
  ·rw[aG _ _ z]
   exact h.dn i hi a e λw=>w.elim n z
theorem Gp.bt{o:Str->Prop}{c:Nat}{row:Str->aI.Row}(h:Gp o c row)(hc:c<=130)(h0 : 0<c)(ha:(row (aA 0)).above=none)(no:∀x,¬o x)(ht:∀i,0<i->i<c->(row (aA i)).above≠none):Bk c [aA 0] (names c) row/\Fm (names c) row:=by
 refine⟨⟨DE c hc,λn hn=>fB.mp hn,by simp,λt ht=>?_,λn hn e=>?_,λn hn e=>?_,λn hn a e=>?_,λn hn=>?_,λn hn a e=>?_⟩,⟨λn hn=>?_,λn hn b hb=>?_,λn hn a e=>?_,λn hn p b e=>?_⟩⟩
 ·rw[zad ht]
  exact⟨fB.mpr ⟨0,h0,rfl⟩,ha⟩
 all_goals obtain⟨i,hi,rfl⟩:=fB.mp hn
 ·by_cases z:i=0
  ·rw[z];simp
  ·exact absurd e (ht i (by omega) hi)
 ·exact h.mkd i hi e
 ·exact fB.mpr (h.ab i hi a e).1
 ·exact⟨(h.bl i hi).1,λb hb=>fB.mpr ((h.bl i hi).2 b hb).1⟩
 ·have hk:=(h.ab i hi a e).2
  unfold a0;rw[if_neg (by omega)]
  exact zaH hk
 ·exact h.nd i hi
 ·exact⟨fB.mpr ((h.bl i hi).2 b hb).1,((h.bl i hi).2 b hb).2⟩
 ·exact h.dn i hi a e (no a)
 ·exact h.dg i hi p b e
def Grows(f:List D->Option ((D×Bool)×D))(many:Nat):Prop:=∀(o:Str->Prop) (c:Nat) (row:Str->aI.Row) (above:Option Str) (mark:Bool) (key:Int),Gp o c row->c+fb many<=120->(∀a,above=some a->(∃j,j<c/\a=aA j)/\(row a).key<key)->(mark=true->above≠none)->(∀a,above=some a->o a)->
 ∃aK:Str->aI.Row,f [HD (names c) row,.int (many:Int),bg above,.bool mark,.int key]=some ((.str (aA c),false),HD (names (c+fb many)) aK)/\Gp o (c+fb many) aK/\(∀i,i<c->aK (aA i)=row (aA i))/\((aK (aA c)).above=above/\(aK (aA c)).mark=mark/\(aK (aA c)).below.length=many)/\∀i,c<i->i<c+fb many->(aK (aA i)).above≠none/\∀a,(aK (aA i)).above=some a->∃j,c<=j/\j<c+fb many/\a=aA j
theorem FG{f:List D->Option ((D×Bool)×D)}{M:Nat}(hM:M<10)(hf:∀k,k+1<M\/(k=0/\0<M)->Grows f k){many above mark key s6:Sl}{o:Str->Prop}(c0:Nat)(hoc:o (aA c0))(k0:Int)(hm:key=.fz (.int k0))(hb:c0+fb M<=120):∀(m q:Nat) (row:Str->aI.Row),q+m=M->Gp o (c0+fb q) row->(row (aA c0)).key=k0->∀d0:D,
  ∃(ns:List Str) (aK:Str->aI.Row),goI f (ak (mCB t5 (ak (mC (.int 0)) (ak (mOp rj (ah 0) (mC (.int 1))) aF))) (ak (ah 2) (ak (mOp gGt (ah 0) (mC (.int 0))) (ak (mOp gK (ah 3) (mC (.int 1))) aF)))) [("_law_held",0),("_law_name",5),("_law_key",4)] [.io d0,many,above,mark,key,.fz (.str (aA c0)),s6] 0 (.io d0) ((List.range' q m).map λk:Nat=>PyData.int (k:Int)) (HD (names (c0+fb q)) row)=some (ns.map .str,HD (names (c0+fb M)) aK)/\Gp o (c0+fb M) aK/\(∀i,i<c0+fb q->aK (aA i)=row (aA i))/\ns.length=m/\(∀(p:Nat) (x:Str),ns[p]?=some x->q+p<M/\x=aA (c0+fb (q+p))/\(aK x).above=some (aA c0)/\(aK x).below.length=q+p-1/\(aK x).mark=decide (0<((q+p:Nat):Int)))/\(∀i,c0+fb q<=i->i<c0+fb M->(aK (aA i)).above=some (aA c0)->aA i∈ns)/\∀i,c0+fb q<=i->i<c0+fb M->(aK (aA i)).above≠none/\∀a,(aK (aA i)).above=some a->∃j,c0<=j/\j<c0+fb M/\a=aA j:=by
 subst hm;intro m
 induction m with
 |zero=>
  intro q row hq hg hk d0;obtain rfl:q=M:=by omega
  exact⟨[],row,rfl,hg,λ_ _=>rfl,rfl,(λp x hx=>by simp at hx),(λi h1 h2=>by omega),λi h1 h2=>by omega⟩
 |succ m ih=>
  intro q row hq hg hk d0;have p0:=(lQ q (by omega)).2
  have p1:=u5 q (by omega)
  have p2:=sU M hM (q+1) (by omega)
  obtain⟨cq,e1,g1,s1,r1,t1⟩:=hf (q-1) (by omega) o (c0+fb q) row (some (aA c0)) (decide (0<(q:Int))) (k0+1) hg (by omega) (λa ha=>by cases ha;exact⟨⟨c0,by omega,rfl⟩,by rw[hk];omega⟩) (λ_ z=>by cases z) (λa ha=>by cases ha;exact hoc)
  rw[show c0+fb q+fb (q-1)=c0+fb (q+1) by omega]at e1 g1 t1
  obtain⟨ns,aK,e2,g2,s2,l2,o2,u2,v2⟩:=ih (q+1) cq (by omega) g1 (by rw[s1 c0 (by omega)];exact hk) d0
  refine⟨aA (c0+fb q)::ns,aK,?_,g2,λi hi=>(s2 i (by omega)).trans (s1 i hi),by rw[zaw,l2],λp x hx=>?_,λi h1 h2 ea=>?_,λi h1 h2=>?_⟩
  ·rw[List.range'_succ,zaz]
   unfold goI;have ev:ak (mCB t5 (ak (mC (.int 0)) (ak (mOp rj (ah 0) (mC (.int 1))) aF))) (ak (ah 2) (ak (mOp gGt (ah 0) (mC (.int 0))) (ak (mOp gK (ah 3) (mC (.int 1))) aF))) [.fz (.int (q:Int)),.ro (HD (names (c0+fb q)) row),.fz (.str (aA c0)),.fz (.int k0)]=some ([(.int ((q-1:Nat):Int),.fz),(.str (aA c0),.fz),(.bool (decide (0<(q:Int))),.fz),(.int (k0+1),.fz)],[.fz (.int (q:Int)),.ro (HD (names (c0+fb q)) row),.fz (.str (aA c0)),.fz (.int k0)]):=by
    refine aB (ao (dC (rs:=[(.int 0,.fz),(.int ((q:Int)-1),.fz)]) (res:=(.int ((q-1:Nat):Int),false)) (gg cS (gg (qi (b8 rfl) cS) aR)) ?_)) (aB (ao (av rfl)) (aB (ao (l6 (b8 rfl) cS)) (gg (jL (b8 rfl) cS) aR)));show some (PyData.int (if(0:Int)<(q:Int)-1 then(q:Int)-1 else 0),false)=_
    rw[show(if(0:Int)<(q:Int)-1 then(q:Int)-1 else 0)=((q-1:Nat):Int) by split<;>omega]
   show(ak _ _ [.fz (.int (q:Int)),.ro (HD (names (c0+fb q)) row),.fz (.str (aA c0)),.fz (.int k0)]).bind _=_;rw[ev,zai];dsimp only[Dc,Option.bind_some,Option.map_some];show(f (HD (names (c0+fb q)) row::[.int ((q-1:Nat):Int),.str (aA c0),.bool (decide (0<(q:Int))),.int (k0+1)])).bind _=_;rw[show f [HD (names (c0+fb q)) row,.int ((q-1:Nat):Int),.str (aA c0),.bool (decide (0<(q:Int))),.int (k0+1)]=some ((.str (aA (c0+fb q)),false),HD (names (c0+fb (q+1))) cq)from e1,zai];dsimp only;rw[if_pos rfl,e2];rfl
  ·cases p with
   |zero=>
    obtain rfl:aA (c0+fb q)=x:=by simpa using hx
    rw[s2 (c0+fb q) (by have:=(lQ (q-1) (by omega)).2;omega)]
    exact⟨by omega,rfl,r1.1,r1.2.2,r1.2.1⟩
   |succ p=>
    have:=o2 p x (by simpa using hx)
    rw[show q+1+p=q+(p+1) by omega]at this
    exact this
  ·by_cases z:i<c0+fb (q+1)
   ·by_cases w:i=c0+fb q
    ·subst w;exact zas
    ·rw[s2 i z]at ea
     obtain⟨j,j1,j2,j3⟩:=(t1 i (by omega) z).2 _ ea
     exact absurd (jy (by omega) (by omega) j3) (by omega)
   ·exact zak _ (u2 i (by omega) h2 ea)
  ·by_cases z:i<c0+fb (q+1)
   ·rw[s2 i z]
    by_cases w:i=c0+fb q
    ·subst w;rw[r1.1];exact⟨by simp,λa ea=>by cases ea;exact⟨c0,by omega,by omega,rfl⟩⟩
    ·obtain⟨k1,k2⟩:=t1 i (by omega) z
     exact⟨k1,λa ea=>(let⟨j,j1,j2,j3⟩:=k2 a ea;⟨j,by omega,by omega,j3⟩)⟩
   ·exact v2 i (by omega) h2
theorem DF:∀n many:Nat,many<n->many<10->Grows (eC n) many:=by
 intro n
 induction n with
 |zero=>intro many h;omega
 |succ n ih=>
  intro many hmn h9 o c row above mark key hg hl ha hk hoa;have pm:=lQ many h9;have hc:c<130:=by omega
  have g1:=(Gp.new (o:=λx=>o x\/x=aA c) ⟨hg.ab,hg.mkd,hg.bl,hg.nd,hg.dg,λi hi a e n=>hg.dn i hi a e λz=>n (.inl z)⟩ hc ha hk λa e=>.inl (hoa a e))
  obtain⟨ns,aK,e2,g2,s2,l2,o2,u2,v2⟩:=FG (f:=eC n) (M:=many) (o:=λx=>o x\/x=aA c) h9 (λk hk=>ih k (by omega) (by omega)) (many:=.fz (.int (many:Int))) (above:=.fz (bg above)) (mark:=.fz (.bool mark)) (s6:=.no) c (.inr rfl) key rfl hl many 0 _ (by omega) g1 (by rw[aU]) (HD (names (c+1)) (aY row (aA c) ⟨key,above,mark,[]⟩))
  have er:aK (aA c)=⟨key,above,mark,[]⟩:=(s2 c (Nat.lt_succ_self c)).trans (aU _ _ _);have f0:fb 0=1:=rfl;have nsx:∀(p:Nat) (x:Str),ns[p]?=some x->p<many/\x=aA (c+fb p)/\(aK x).above=some (aA c)/\(aK x).below.length=p-1/\(aK x).mark=decide (0<(p:Int)):=λp x e=>by
   have:=o2 p x e;rw[Nat.zero_add]at this;exact this
  have nnd:ns.Nodup:=List.pairwise_iff_getElem.mpr λp p' hp hp' hlt e=>by
   have a1:=nsx p _ (zaC hp);have a2:=nsx p' _ (zaC hp');have b1':=sU many h9 p' (by omega)
   have b2:fb p<fb p':=zaF (show fb p<fb (p+1) by rw[u5 p (by omega)];have:=(lQ (p-1) (by omega)).2;omega) (sU p' (by omega) (p+1) (by omega))
   rw[a1.2.1,a2.2.1]at e;have:=jy (by omega) (by omega) e
   omega
  have g3:=Gp.upd (o:=o) (c0:=c) (ns:=ns) g2 (by omega) (by rw[er]) (by omega) nnd (λb hb=>by
   obtain⟨p,hp⟩:=List.mem_iff_getElem?.mp hb;obtain⟨q1,q2,q3,_⟩:=nsx p b hp;have w1:=sU many h9 (p+1) (by omega)
   rw[u5 p (by omega)]at w1
   have w2:=(lQ (p-1) (by omega)).2
   exact⟨⟨c+fb p,by omega,q2⟩,q3⟩) (λp b hp=>by
   obtain⟨_,_,_,q4,q5⟩:=nsx p b hp;rw[q4,q5];unfold b1
   by_cases z:p=0
   ·omega
   ·rw[if_pos (zaH (by omega))];omega) λi hi ea=>by
   by_cases z:c+1<=i
   ·exact u2 i (by rw[f0];omega) hi ea
   ·exfalso
    rw[s2 i (by rw[f0];omega)]at ea
    by_cases w:i=c
    ·subst w
     rw[aU]at ea;obtain⟨⟨j,j1,j2⟩,_⟩:=ha _ ea;exact absurd (jy (by omega) (by omega) j2) (by omega)
    ·rw[aG _ _ (λe=>gQ c hc i (by omega) e.symm)]at ea
     obtain⟨⟨j,j1,j2⟩,_⟩:=hg.ab i (by omega) _ ea
     exact absurd (jy (by omega) (by omega) j2) (by omega)
  rw[er]at g3;have hin:aA c∈names (c+fb many):=fB.mpr ⟨c,by omega,rfl⟩
  refine⟨aY aK (aA c) ⟨key,above,mark,ns⟩,?_,g3,λi hi=>?_,by rw[aU];exact⟨rfl,rfl,l2⟩,λi h1 h2=>?_⟩
  ·refine Ic (o:=.rt (.str (aA c),.fz) [.io (HD (names (c+fb many)) (aY aK (aA c) ⟨key,above,mark,ns⟩)),.fz (.int (many:Int)),.fz (bg above),.fz (.bool mark),.fz (.int key),.fz (.str (aA c)),.own (TD ns)]) rfl ?_ rfl rfl
   refine aX (ρ1:=[.io (HD (names c) row),.fz (.int (many:Int)),.fz (bg above),.fz (.bool mark),.fz (.int key),.fz (.str (aA c)),.no]) (dD (dB (rs:=[(.int (c:Int),.fz)]) (gg ((i6 (.inr (.inr rfl))).is (by rw[jx])) aR) (uU c) rfl) rfl) ?_
   refine aX (ρ1:=[.io (HD (names (c+1)) (aY row (aA c) ⟨key,above,mark,[]⟩)),.fz (.int (many:Int)),.fz (bg above),.fz (.bool mark),.fz (.int key),.fz (.str (aA c)),.no]) ((i7 (i:=0) (r:=⟨key,above,mark,[]⟩) (dE (rs:=[(.int key,.fz),(bg above,.fz),(.bool mark,.fz),(.tuple [],.fz)]) (aB (ao (av rfl)) (aB (ao (av rfl)) (aB (ao (av rfl)) (aB (ao (dE (rs:=[]) rfl rfl (by simp))) aR)))) rfl (by simp)) (av rfl) rfl (.inr rfl) (by rw[jx];omega)).trans (by rw[qP hc];rfl)) ?_
   refine aX (ρ1:=[.io (HD (names (c+fb many)) aK),.fz (.int (many:Int)),.fz (bg above),.fz (.bool mark),.fz (.int key),.fz (.str (aA c)),.own (TD ns)]) (gz (ρ1:=[.io (HD (names (c+fb many)) aK),.fz (.int (many:Int)),.fz (bg above),.fz (.bool mark),.fz (.int key),.fz (.str (aA c)),.no]) ?_ rfl) ?_
   ·unfold Iw
    rw[uW (n:=many) (b8 rfl) (by omega),zai]
    dsimp only;rw[show ownAt [Sl.io (HD (names (c+1)) (aY row (aA c) ⟨key,above,mark,[]⟩)),.fz (.int (many:Int)),.fz (bg above),.fz (.bool mark),.fz (.int key),.fz (.str (aA c)),.no] 0=some (.io (HD (names (c+1)) (aY row (aA c) ⟨key,above,mark,[]⟩)))from rfl,zai];rw[List.range_eq_range'];show(goI _ _ _ _ _ _ _ (HD (names (c+fb 0)) (aY row (aA c) ⟨key,above,mark,[]⟩))).bind _=_;rw[show c+1=c+fb 0 from rfl]at e2⊢;rw[e2,zai];rw[bZ (we (by rw[zal];omega))];rfl
   ·exact aX (ρ1:=[.io (HD (names (c+fb many)) (aY aK (aA c) ⟨key,above,mark,ns⟩)),.fz (.int (many:Int)),.fz (bg above),.fz (.bool mark),.fz (.int key),.fz (.str (aA c)),.own (TD ns)]) ((i7 (i:=0) (r:=⟨key,above,mark,ns⟩) (dE (rs:=[(.int key,.fz),(bg above,.fz),(.bool mark,.fz),(.tuple (ns.map .str),.fz)]) (aB (ao (av rfl)) (aB (ao (av rfl)) (aB (ao (av rfl)) (aB (ao (zS (i:=6) (x:=TD ns) (res:=(.tuple (ns.map .str),true)) (.inr (.inl rfl)) rfl)) aR)))) rfl (by simp)) (av rfl) rfl (.inr rfl) (by rw[jx];omega)).trans (by rw[gD hin];rfl)) (dJ (av rfl))
  ·rw[aG _ _ (λe=>gQ c hc i hi e.symm),s2 i (Nat.lt_succ_of_lt hi),aG _ _ (λe=>gQ c hc i hi e.symm)]
  ·rw[aG _ _ (λe=>absurd (jy (by omega) (by omega) e) (by omega))]
   exact v2 i (by rw[f0];omega) h2
theorem yz(cs0:D):∀(cs:List Int) (c:Nat) (aj:List Str) (row:Str->aI.Row) (s3 s4:Sl),NIo s3->NIo s4->Bk c aj (names c) row->Fm (names c) row->c+cs.length<=120->
  ∃(d5:List Str) (aK:Str->aI.Row) (tl:Rho),forL (mgN 3) md (cs.map .int) [.fz cs0,.own (HD (names c) row),.own (TD aj),s3,s4]=some (.nx (.fz cs0::.own (HD (names (c+cs.length)) aK)::.own (TD d5)::tl))/\Bk (c+cs.length) d5 (names (c+cs.length)) aK/\Fm (names (c+cs.length)) aK:=by
 intro cs
 induction cs with
 |nil=>intro c aj row s3 s4 _ _ h hF _;exact⟨aj,row,_,rfl,h,hF⟩
 |cons x cs ih=>
  intro c aj row s3 s4 n3 n4 h hF hl;rw[zaw]at hl⊢;obtain⟨v,hv⟩:=key_is x;have hc:c<130:=by omega
  have hB:=(Bk.new hc h v).2;rw[<-jS]at hB;have hFn:=hF.new h.ab (oz hc) v;rw[<-jS]at hFn;have tl:=h.tl;obtain⟨d5,aK,tl',h1,h2,h2f⟩:=ih (c+1) (aj++[aA c]) (aY row (aA c) ⟨v,none,false,[]⟩) (.fz (.int x)) (.fz (.str (aA c))) (NIo.fz _) (NIo.fz _) hB hFn (by omega)
  rw[show c+1+cs.length=c+(cs.length+1) by omega]at h1 h2 h2f
  refine⟨d5,aK,tl',?_,h2,h2f⟩;rw[zaz];refine jn (ρ1:=[.fz cs0,.own (HD (names c) row),.own (TD aj),.fz (.int x),s4]) (fV (s:=s3) rfl n3) ?_ h1;refine aX (ρ1:=[.fz cs0,.own (HD (names c) row),.own (TD aj),.fz (.int x),.fz (.str (aA c))]) (dD (dB (rs:=[(.int (c:Int),.fz)]) (gg ((i6 (.inr (.inl rfl))).is (by rw[jx])) aR) (uU c) rfl) (iy (s:=s4) _ rfl n4)) ?_
  refine aX (ρ1:=[.fz cs0,.own (HD (names (c+1)) (aY row (aA c) ⟨v,none,false,[]⟩)),.own (TD aj),.fz (.int x),.fz (.str (aA c))]) ((i7 (i:=1) (r:=⟨v,none,false,[]⟩) (dE (rs:=[(.int v,.fz),(.none,.fz),(.bool false,.fz),(.tuple [],.fz)]) (gg (lF (rs:=[(.int x,.fz)]) rfl hv) (aB (ao rfl) (aB (ao rfl) (aB (ao (dE (rs:=[]) rfl rfl (by simp))) aR)))) rfl (by simp)) (av rfl) rfl (.inl rfl) (by rw[jx];omega)).trans (by rw[qP hc];rfl)) ?_
  exact i3 (qL (rs:=[(.str (aA c),.fz)]) rfl rfl rfl rfl (uV _ (by rw[zal];omega)) (by rw[k9];rfl))
theorem xi(ns:List Int)(lo hi:Nat):∃cs:List Int,cutD (ns.map .int) (some (lo:Int)) (some (hi:Int))=cs.map .int/\cs.length<=hi-lo/\∀c∈cs,c∈ns:=by
 unfold cutD;refine⟨(ns.drop (HT.sIx (ns.map PyData.int).length 0 (some (lo:Int)))).take (HT.sIx (ns.map PyData.int).length (ns.map PyData.int).length (some (hi:Int))-HT.sIx (ns.map PyData.int).length 0 (some (lo:Int))),by rw[List.map_take,List.map_drop],?_,λc hc=>List.mem_of_mem_drop (List.mem_of_mem_take hc)⟩
 rw[List.length_take,List.length_drop];simp only[HT.sIx,List.length_map];rw[if_neg (by omega),if_neg (by omega)]
 omega
theorem DG(cs:List Int)(hl:cs.length<=60):∃(aj keys:List Str) (row:Str->aI.Row),gP [.list (cs.map .int)]=some (TD aj,HD keys row)/\Bk 120 aj keys row/\Fm keys row:=by
 have eq0:mOp gEq (ah 0) (iJ aF) [.fz (.list (cs.map .int)),.no,.no,.no,.no]=some ((.bool (decide (cs=[])),.fz),[.fz (.list (cs.map .int)),.no,.no,.no,.no]):=bP (r:=(.list [],.fz)) (res:=(.bool (decide (cs=[])),false)) (ao (av rfl)) (jI (je (rs:=[]) rfl rfl (by simp))) (wa cs [])
 have bt:∀h:mOr (aN (mOp gEq (ah 0) (iJ aF))) (aN (mOp gNe (mOp d7 (mOp gIx (ah 0) (mC (.int 0))) (mC (.int 7))) (mC (.int 6)))) [.fz (.list (cs.map .int)),.no,.no,.no,.no]=some (true,[.fz (.list (cs.map .int)),.no,.no,.no,.no]),∃(aj keys:List Str) (row:Str->aI.Row),gP [.list (cs.map .int)]=some (TD aj,HD keys row)/\Bk 120 aj keys row/\Fm keys row:=λh=>by
  obtain⟨aj,keys,row,h1,h2,h2f⟩:=DD cs hl;refine⟨aj,keys,row,yy rfl ?_,h2.more (by omega),h2f⟩
  show AA _ _ _ [.fz (.list (cs.map .int)),.no,.no,.no,.no]=_;unfold AA;rw[h,zai];dsimp only
  rw[if_pos rfl];show(gO [.list (cs.map .int),.int 0])=_;exact h1
 cases cs with
 |nil=>exact bt (KN (test_ev (k:=.fz) eq0))
 |cons c cs=>
  have i0:IE (mOp gIx (ah 0) (mC (.int 0))) [.fz (.list ((c::cs).map .int)),.no,.no,.no,.no] c:=bP (r:=(.int 0,.fz)) (res:=(.int c,false)) (ao (av rfl)) (ao rfl) (qG _ _ _ (Mir.wm _ _));have ne0:aN (mOp gEq (ah 0) (iJ aF)) [.fz (.list ((c::cs).map .int)),.no,.no,.no,.no]=some (false,[.fz (.list ((c::cs).map .int)),.no,.no,.no,.no]):=test_ev (k:=.fz) (by rw[eq0];rfl)
  by_cases h6:c%7=6
  ·obtain⟨v,hv⟩:=key_is (c/70)
   obtain⟨m,em,hm⟩:∃m:Nat,c/7%10=(m:Int)/\m<10:=pI (c/7) 10 (by omega)
   obtain⟨cq,e1,g1,_,a1,a2⟩:=DF 12 m (by omega) hm (λ_=>False) 0 (λ_=>(⟨0,none,false,[]⟩:aI.Row)) none false v ⟨(λi hi=>by omega),(λi hi=>by omega),(λi hi=>by omega),(λi hi=>by omega),(λi hi=>by omega),λi hi=>by omega⟩ (by have:=sU 9 (by omega) m (by omega);have:fb 9=89:=rfl;omega) (λa ha=>by cases ha) (λz=>by cases z) (λa ha=>by cases ha)
   have hz:=sU 9 (by omega) m (by omega)
   have hz9:fb 9=89:=rfl;rw[Nat.zero_add]at e1 g1;have b1:=g1.bt (by omega) (lQ m hm).2 a1.1 (λ_ z=>z) λi h1 h2=>(a2 i h1 (by rw[Nat.zero_add];exact h2)).1
   obtain⟨ds,e2,l2,_⟩:=xi (c::cs) 1 12;obtain⟨d5,aK,tl,h1,h2,h2f⟩:=yz (.list ((c::cs).map .int)) ds (fb m) [aA 0] cq .no .no NIo.no NIo.no b1.1 b1.2 (by omega)
   refine⟨d5,_,aK,yy rfl ?_,h2.more (by omega),h2f⟩
   show AA _ _ _ [.fz (.list ((c::cs).map .int)),.no,.no,.no,.no]=_;unfold AA;rw[jd ne0 (ig (oN (fN i0 cS (by decide)) cS) (by rw[h6])),zai];dsimp only
   rw[if_neg (by simp)]
   refine jw (ρ1:=[.fz (.list ((c::cs).map .int)),.own (HD [] λ_=>⟨0,none,false,[]⟩),.no,.no,.no]) (gz rfl rfl) ?_
   have i1:IE (mOp gIx (ah 0) (mC (.int 0))) [.fz (.list ((c::cs).map .int)),.own (HD [] λ_=>⟨0,none,false,[]⟩),.no,.no,.no] c:=bP (r:=(.int 0,.fz)) (res:=(.int c,false)) (ao (av rfl)) (ao rfl) (qG _ _ _ (Mir.wm _ _))
   refine jw (ρ1:=[.fz (.list ((c::cs).map .int)),.own (HD (names (fb m)) cq),.own (TD [aA 0]),.no,.no]) (gz (je (rs:=[(.str (aA 0),.fz)]) (ρ1:=[.fz (.list ((c::cs).map .int)),.own (HD (names (fb m)) cq),.no,.no,.no]) (ρ2:=[.fz (.list ((c::cs).map .int)),.own (HD (names (fb m)) cq),.no,.no,.no]) (ds:=[.str (aA 0)]) (aB (ρ1:=[.fz (.list ((c::cs).map .int)),.own (HD (names (fb m)) cq),.no,.no,.no]) (ao (Cs (d0:=.none) (i:=1) (f:=eC 12) (d:=.str (aA 0)) (o:=false) (d1:=HD (names (fb m)) cq) (s:=.own (HD [] λ_=>⟨0,none,false,[]⟩)) (s':=.own (HD [] λ_=>⟨0,none,false,[]⟩)) (ds:=[.int (m:Int),.none,.bool false,.int v]) (ρ2:=[.fz (.list ((c::cs).map .int)),.own (HD [] λ_=>⟨0,none,false,[]⟩),.no,.no,.no]) (rs:=[(.int (m:Int),.fz),(.none,.fz),(.bool false,.fz),(.int v,.fz)]) rfl (gg ((fN (qj i1 cS ⟨by decide,by decide⟩) cS (by decide)).is em) (aB (ao rfl) (aB (ao rfl) (gg (lF (rs:=[(.int (c/70),.fz)]) (gg (qj i1 cS ⟨by decide,by decide⟩) aR) hv) aR)))) rfl rfl e1)) aR) rfl (by simp)) rfl) ?_
   exact jw (qg (ds:=ds.map .int) (ρ1:=[.fz (.list ((c::cs).map .int)),.own (HD (names (fb m)) cq),.own (TD [aA 0]),.no,.no]) (HY (jI (show mSl gSl (ah 0) (hW (mC (.int 1))) (hW (mC (.int 12))) [.fz (.list ((c::cs).map .int)),.own (HD (names (fb m)) cq),.own (TD [aA 0]),.no,.no]=some ((.list (ds.map .int),.new),_)from by rw[<-e2];rfl))) h1) rfl
  ·exact bt (jd ne0 (ig (oN (fN i0 cS (by decide)) cS) (by rw[zaO h6];rfl)))
inductive Hs:List Str->(Str->aI.Row)->List (Str×Str)->List Str->(Str->aI.Row)->Prop
 |nil {T:List Str} {row:Str->aI.Row}:Hs T row [] T row
 |cons {T T':List Str} {row aK:Str->aI.Row} {x y:Str} {r:List (Str×Str)}:x∈T->y∈T->y≠x->a0 (row y).key y (row x).key x=true->(row x).below.length=(row y).below.length->Hs (T.erase x) (bz row x y) r T' aK->Hs T row ((x,y)::r) T' aK
theorem Hs.snoc{T T':List Str}{row aK:Str->aI.Row}{r:List (Str×Str)}(h:Hs T row r T' aK){x y:Str}(hx:x∈T')(hy:y∈T')(ne:y≠x)(lt:a0 (aK y).key y (aK x).key x=true)(ed:(aK x).below.length=(aK y).below.length):Hs T row (r++[(x,y)]) (T'.erase x) (bz aK x y):=by
 induction h with
 |nil=>exact .cons hx hy ne lt ed .nil
 |cons a b c d e _ ih=>exact .cons a b c d e (ih hx hy lt ed)
theorem Hs.len{T T':List Str}{row aK:Str->aI.Row}{r:List (Str×Str)}(h:Hs T row r T' aK):T'.length+r.length=T.length:=by
 induction h with
 |nil=>rfl
 |cons a b c d e _ ih=>
  rw[List.length_erase_of_mem a]at ih;have:=List.length_pos_of_mem a;rw[zaw];omega
theorem Hs.sub{T T':List Str}{row aK:Str->aI.Row}{r:List (Str×Str)}(h:Hs T row r T' aK)(nd:T.Nodup):T'.Nodup/\(∀t∈T',t∈T)/\∀m,m∉T->aK m=row m:=by
 induction h with
 |nil=>exact⟨nd,λt ht=>ht,λ_ _=>rfl⟩
 | @cons T T' row aK x y r a b c d e _ ih=>
  obtain⟨h1,h2,h3⟩:=ih (nd.erase _);refine⟨h1,λt ht=>List.mem_of_mem_erase (h2 t ht),λm hm=>?_⟩
  rw[h3 m λz=>hm (List.mem_of_mem_erase z),cD (λz=>hm (by rw[z];exact b)) (λz=>hm (by rw[z];exact a))]
theorem Hs.aj{T T':List Str}{row aK:Str->aI.Row}{r:List (Str×Str)}(h:Hs T row r T' aK)(nd:T.Nodup)(ha:∀t∈T,(row t).above=none):T'=T.filter (λt=>(aK t).above.isNone):=by
 induction h with
 |nil=>exact(List.filter_eq_self.mpr λt ht=>by rw[ha t ht];rfl).symm
 | @cons T T' row aK x y r a b c d e hs ih=>
  have nx:x∉T.erase x:=λz=>((za9 nd).mp z).1 rfl
  have hx:(aK x).above=some y:=by rw[(hs.sub (nd.erase _)).2.2 x nx,cC c]
  rw[ih (nd.erase _) λt ht=>?_,List.Nodup.erase_eq_filter nd,List.filter_filter]
  ·refine List.filter_congr λt ht=>?_
   by_cases z:t=x
   ·subst z;rw[hx];rfl
   ·simp[z]
  ·obtain⟨z1,z2⟩:=(za9 nd).mp ht
   by_cases w:t=y
   ·subst w;rw[cR c];exact ha t z2
   ·rw[cD w z1];exact ha t z2
section
variable{c:Nat}{aj keys:List Str}{row:Str->aI.Row}
theorem Bt.Kc{K:Str->Int}{d:Nat}(h:Bt K d aj keys row)(f:Fm keys row)(nm:∀n∈keys,∃i,i<c/\n=aA i):Bt K c aj keys row:=by
 have kl:keys.length<=c:=by
  have:=aI.iQ keys ((List.range c).map aA) h.nd λx hx=>by
   obtain⟨i,hi,rfl⟩:=nm x hx;exact List.mem_map_of_mem (List.mem_range.mpr hi)
  simpa using this
 exact⟨h.nd,nm,h.tn,h.tk,h.ne,h.mkd,h.ab,λn hn=>⟨zaX (aI.iQ _ keys (f.nd n hn) (h.bl n hn).2) kl,(h.bl n hn).2⟩,h.ho⟩
theorem Bk.hang(h:Bk c aj keys row)(f:Fm keys row){x y:Str}(hx:x∈aj)(hy:y∈aj)(ne:y≠x)(lt:a0 (row y).key y (row x).key x=true)(ed:(row x).below.length=(row y).below.length):Bk c (aj.erase x) keys (bz row x y)/\Fm keys (bz row x y):=by
 have f':=f.hung (h.tk x hx).1 (h.tk y hy).1 ne (h.tk x hx).2 ed;exact⟨((Bt.hung h hx hy ne lt).Kc f' h.nm).re λn _=>(k6 ne n).symm,f'⟩
theorem Hs.inv{T':List Str}{aK:Str->aI.Row}{r:List (Str×Str)}(hs:Hs aj row r T' aK):Bk c aj keys row->Fm keys row->Bk c T' keys aK/\Fm keys aK:=by
 induction hs with
 |nil=>exact λh f=>⟨h,f⟩
 |cons a b c' d e _ ih=>exact λh f=>ih (Bk.hang h f a b c' d e).1 (Bk.hang h f a b c' d e).2
theorem Hs.marks{T':List Str}{aK:Str->aI.Row}{r:List (Str×Str)}(hs:Hs aj row r T' aK):Bk c aj keys row->Fm keys row->mk keys aK=mk keys row:=by
 induction hs with
 |nil=>exact λ_ _=>rfl
 | @cons T T' row aK x y r a b c' d e _ ih=>
  intro h f;rw[ih (Bk.hang h f a b c' d e).1 (Bk.hang h f a b c' d e).2];unfold mk
  congr 1
  refine List.filter_congr λm hm=>?_
  by_cases z:m=y
  ·subst z;rw[cR c']
  ·by_cases w:m=x
   ·subst w
    rw[cC c'];cases em:(row m).mark with
    |false=>rfl
    |true=>exact absurd (h.tk m a).2 (h.mkd m (h.tk m a).1 em)
   ·rw[cD z w]
end
def alL(al:List (Nat×Str)):List (D×D):=al.map λp=>(PyData.int (p.1:Int),PyData.str p.2)
abbrev AL(al:List (Nat×Str)):D:=.dict (alL al)
theorem pK(d:Nat):∀al:List (Nat×Str),fA (alL al) (.inl (d:Int))=(al.lookup d).map .str
 | []=>rfl
 |(e,t)::al=>by
  show(if keyOf (.int (e:Int))=some (.inl (d:Int))then some (.str t)else fA (alL al) (.inl (d:Int)))=_
  by_cases z:d=e
  ·subst z
   rw[if_pos (show keyOf (PyData.int (d:Int))=some (.inl (d:Int))from rfl),za8,beq_self_eq_true];rfl
  ·rw[if_neg (λw=>z (by
    have:(e:Int)=(d:Int):=by injection w with w;injection w
    omega)),za8,beq_eq_false_iff_ne.mpr z,pK d al]
theorem FH(d:Nat)(al:List (Nat×Str)):oT (alL al) (.inl (d:Int))=alL (al.filter λp=>decide (p.1≠d)):=by
 unfold oT alL;rw[List.filter_map]
 congr 1
 refine List.filter_congr λp _=>?_
 have:(keyOf (PyData.int (p.1:Int))≠some (Sum.inl (d:Int)))↔p.1≠d:=by
  refine⟨λh e=>h (by rw[e];rfl),λh w=>h ?_⟩
  have w':some (Sum.inl (p.1:Int):Key)=some (Sum.inl (d:Int)):=w;have:(p.1:Int)=(d:Int):=by injection w' with w;injection w
  omega
 exact decide_eq_decide.mpr this
theorem IM{d:Nat}{al:List (Nat×Str)}(h:al.lookup d=none)(t:Str):putD (alL al) (.int (d:Int)) (.str t) (.inl (d:Int))=alL (al++[(d,t)]):=by
 unfold putD;rw[pK,h];show(if false=true then _ else _)=_
 rw[if_neg zam];unfold alL;rw[za1];rfl
theorem GX(d:Nat)(al:List (Nat×Str)):CU (.int (d:Int)) (AL al)=some (.bool (al.lookup d).isSome,false):=by
 show some (PyData.bool (fA (alL al) (.inl (d:Int))).isSome,false)=_;rw[pK];cases al.lookup d<;>rfl
theorem FI(x y:Str):PyData.eqv (.str x) (.str y)=decide (x=y):=by
 simp only[PyData.eqv]
 by_cases e:x=y
 ·subst e;simp
 ·simp[e]
theorem gR:∀a b:List Str,PyData.eqvAll (a.map .str) (b.map .str)=decide (a=b)
 | [],[]=>by simp[PyData.eqvAll]
 | [],_::_=>by simp[PyData.eqvAll]
 |_::_,[]=>by simp[PyData.eqvAll]
 |x::a,y::b=>by
  simp only[List.map_cons,PyData.eqvAll];rw[FI,gR a b,Bool.eq_iff_iff];simp
theorem IQ{a b:List Str}(ha:∀x∈a,PyData.strOk x=true)(hb:∀x∈b,PyData.strOk x=true):gNe (TD a) (TD b)=some (.bool (!decide (a=b)),false):=by
 unfold gNe;rw[if_pos ⟨lP ha,lP hb⟩];show some (PyData.bool (!PyData.eqvAll (a.map .str) (b.map .str)),false)=_;rw[gR]
variable{keys:List Str}{row:Str->aI.Row}{aj:List Str}{c:Nat}
theorem yA(keys:List Str)(row:Str->aI.Row)(n:Str):mU (.str n) (HD keys row)=some (.bool (!decide (n∈keys)),false):=by
 show some (PyData.bool (!(fA (cb keys row) (.inr n)).isSome),false)=_;rw[iE]
 by_cases h:n∈keys
 ·rw[if_pos h,zaH h];rfl
 ·rw[if_neg h,zaO h];rfl
theorem lg{n:Str}(hn:n∈keys):c8 [HD keys row,.str n]=some (.tuple [.int (row n).key,.str n],false) :=
 fE (o:=.rt (.tuple [.int (row n).key,.str n],.fz) [.fz (HD keys row),.fz (.str n)]) rfl (dJ (dE (rs:=[(.int (row n).key,.fz),(.str n,.fz)]) (gg (lN (dr (.inl rfl) hn (av rfl))) (aB (ao (av rfl)) aR)) rfl (by simp))) rfl
theorem DH{fr:List (Str×Nat)}{dv:PM}{cc:Rho->Option (Bool×Rho)}{e:PM}{ρ:Rho}{ys:List D}(h1:dv ρ=some ((HD keys row,.fz),ρ))(hr:mV ρ=true)(h2:iY cc e (fr.map λp=>bI ρ p.2) (keys.map .str)=some ys)(h3:ys.length<=100000):AQ fr dv cc e ρ=some ((.list ys,.new),ρ):=by
 unfold AQ;rw[h1,zai];dsimp only[sD,Option.bind_some];rw[if_pos hr,sN,h2,zai,bZ (we h3)]
theorem sV(hkl:keys.length<=950):eX [.tuple [TD aj,HD keys row]]=some (.int ((aj.length:Int)+2*((keys.filter λn=>(row n).mark).length:Int)),false):=by
 have fl:(keys.filter λn=>(row n).mark).length<=1000:=zaX (zaY _ _) (by omega)
 have f1:AQ [("pile",0)] (Ir (oR 0) 1) ki kj [.fz (.tuple [TD aj,HD keys row]),.no]=some ((TD (keys.filter λn=>(row n).mark),.new),[.fz (.tuple [TD aj,HD keys row]),.no]):=by
  refine DH rfl rfl ?_ (by rw[zal];omega)
  refine fX (p:=λn=>(row n).mark) keys (λn hn=>⟨_,test_ev (k:=.fz) (xa (qI hn (ao (bP (r:=(.int 1,.fz)) (res:=(HD keys row,false)) (ao (av rfl)) (ao rfl) rfl)) (av rfl)))⟩) λn hn=>⟨_,ao (av rfl)⟩
 have l0:IE (mCB cH (ak (mOp gIx (ah 0) (mC (.int 0))) aF)) [.fz (.tuple [TD aj,HD keys row]),.own (TD (keys.filter λn=>(row n).mark))] (aj.length:Int):=dC (rs:=[(TD aj,.fz)]) (res:=(.int (aj.length:Int),false)) (aB (ao (bP (r:=(.int 0,.fz)) (res:=(TD aj,false)) (ao (av rfl)) (ao rfl) rfl)) aR) (by show some (PyData.int ((aj.map PyData.str).length:Int),false)=_;rw[zal])
 have l1:IE (mCB cH (ak (ah 1) aF)) [.fz (.tuple [TD aj,HD keys row]),.own (TD (keys.filter λn=>(row n).mark))] ((keys.filter λn=>(row n).mark).length:Int):=pJ (.inr (.inl rfl))
 exact fE (o:=.rt (.int ((aj.length:Int)+2*((keys.filter λn=>(row n).mark).length:Int)),.fz) [.fz (.tuple [TD aj,HD keys row]),.own (TD (keys.filter λn=>(row n).mark))]) rfl (aX (gz f1 rfl) (dJ (jL l0 (yb cS l1 (Gs (.inl ⟨by omega,by omega⟩)))))) rfl
abbrev PD(aj keys:List Str)(row:Str->aI.Row):D:=.tuple [TD aj,HD keys row]
theorem mf{ρ:Rho}{i:Nat}(h : ρ[i]?=some (.fz (PD aj keys row))):mOp gIx (ah i) (mC (.int 1)) ρ=some ((HD keys row,.fz),ρ):=bP (r:=(.int 1,.fz)) (res:=(HD keys row,false)) (ao (av h)) (ao rfl) rfl
theorem oY{ρ:Rho}{i:Nat}(h : ρ[i]?=some (.fz (PD aj keys row))):mOp gIx (ah i) (mC (.int 0)) ρ=some ((TD aj,.fz),ρ):=bP (r:=(.int 0,.fz)) (res:=(TD aj,false)) (ao (av h)) (ao rfl) rfl
theorem xj{ρ:Rho}{i j:Nat}{n:Str}(h : ρ[i]?=some (.fz (PD aj keys row)))(hj : ρ[j]?=some (.fz (.str n))):BE (mOp mU (ah j) (mOp gIx (ah i) (mC (.int 1)))) ρ (!decide (n∈keys)):=bP (r:=(HD keys row,.fz)) (res:=(.bool (!decide (n∈keys)),false)) (ao (av hj)) (ao (mf h)) (yA keys row n)
def rOk(r:aI.Row):Prop:=(∀a,r.above=some a->PyData.strOk a=true)/\∀b∈r.below,PyData.strOk b=true
theorem qQ{r:aI.Row}(h:rOk r):SeqAt.shaped (bB r)=true:=by
 obtain⟨h1,h2⟩:=k7 h.2;have ha:PyData.canLay0 (bg r.above)=true/\PyData.depth (bg r.above)=0:=by
  cases e:r.above with
  |none=>exact⟨rfl,by simp[bg,PyData.depth]⟩
  |some a=>exact⟨by simp only[bg,PyData.canLay0,h.1 a e],by simp[bg,PyData.depth]⟩
 unfold SeqAt.shaped bB;rw[zaH (by simp only[PyData.depth,PyData.depthAll,ha.2];omega),Bool.and_true]
 simp only[PyData.canLay0,PyData.canLayAll0,ha.1,h1,Bool.and_true,Bool.true_and]
theorem FJ(r:aI.Row):PyData.eqv (bB r) (bB r)=true:=by
 unfold bB;cases r.above with
 |none=>simp[bg,PyData.eqv,PyData.eqvAll,gR]
 |some a=>simp[bg,PyData.eqv,PyData.eqvAll,gR]
theorem entry_is{r:aI.Row}(h:rOk r):fU [bB r,bB r]=some (.bool true,false):=by
 have t1:mOr (gG (aN (lW "tuple" (ah 0)))) (mOr (aN (mOp gNe (mCB cH (ak (ah 0) aF)) (mC (.int 4)))) (gG (aN (lW "tuple" (mOp gIx (ah 0) (mC (.int 3))))))) [.fz (bB r),.fz (bB r)]=some (false,[.fz (bB r),.fz (bB r)]) :=
  jd (fM (test_ev (k:=.fz) (v:=true) (kG (ao (av rfl)) (dU _)))) (jd (ig (oN (dC (rs:=[(bB r,.fz)]) (res:=(.int 4,false)) (aB (ao (av rfl)) aR) rfl) cS) rfl) (fM (test_ev (k:=.fz) (v:=true) (kG (ao (gq (av rfl))) (dU _)))))
 have t2:mOr (aN (lW "bool" (mOp gIx (ah 0) (mC (.int 0))))) (gG (aN (lW "bool" (mOp gIx (ah 0) (mC (.int 2)))))) [.fz (bB r),.fz (bB r)]=some (false,[.fz (bB r),.fz (bB r)]) :=
  jd (test_ev (k:=.fz) (v:=false) (kG (ao (lN (av rfl))) (jH _))) (fM (test_ev (k:=.fz) (v:=true) (kG (ao (xa (av rfl))) (by simp[kE,tyD,dw,mG]))))
 refine fE (o:=.rt (.bool true,.fz) [.fz (bB r),.fz (bB r)]) rfl (aX (jK t1 rfl) (aX (jK t2 rfl) (dJ (bP (r:=(bB r,.fz)) (res:=(.bool true,false)) (ao (av rfl)) (ao (av rfl)) ?_)))) rfl;show gEq (bB r) (bB r)=_;unfold gEq;rw[if_pos ⟨qQ h,qQ h⟩,FJ]
theorem u9{n:String}{a:PM}{ρ ρ1:Rho}{d:D}{k:Kd}{v:Bool}(h1:sv a ρ=some ((d,k),ρ1))(h2:wV n d=some (.bool v,false)):mZ n a ρ=some ((.bool v,.fz),ρ1):=by
 unfold mZ mUn;rw[h1,zai];dsimp only;rw[h2];rfl
theorem FK{dv:PM}{g:D->Rho->Option Rho}{b:SM}{ρ ρ1:Rho}{o:Out}(h1:dv ρ=some ((HD keys row,.fz),ρ1))(hr:mV ρ=true)(h2:forL g b (keys.map λn=>PyData.tuple [.str n,bB (row n)]) ρ1=some o)(h3:mV (Iq o)=true):zI dv g b ρ=some o:=by
 unfold zI;rw[h1,zai];dsimp only[sD,Option.bind_some];rw[if_pos hr,show kM (cb keys row)=keys.map λn=>PyData.tuple [.str n,bB (row n)]from by unfold kM cb;rw[List.map_map];rfl,h2,zai,if_pos h3]
theorem A8(T:D):∀(l:List Str) (x y:D),(∀n∈l,n∈keys)->(∀n∈keys,rOk (row n))->∃x' y',forL (mgU 2 (bK (mgN 3) (bK (mgN 4) gZ))) fc (l.map λn=>PyData.tuple [.str n,bB (row n)]) [.fz (PD aj keys row),.fz T,.fz (HD keys row),.fz x,.fz y]=some (.nx [.fz (PD aj keys row),.fz T,.fz (HD keys row),.fz x',.fz y']):=by
 intro l
 induction l with
 |nil=>intro x y _ _;exact⟨x,y,rfl⟩
 |cons n l ih=>
  intro x y hl hk;obtain⟨x',y',h1⟩:=ih (.str n) (bB (row n)) (λm hm=>hl m (zak _ hm)) hk
  have hn:=hl n zas;refine⟨x',y',?_⟩;rw[zaz];refine jn (ρ1:=[.fz (PD aj keys row),.fz T,.fz (HD keys row),.fz (.str n),.fz (bB (row n))]) rfl ?_ h1;refine jK (jd (ig (xj (i:=0) (j:=3) rfl rfl) (by rw[zaH hn];rfl)) (fM (v:=true) ?_)) rfl
  exact(lG (rs:=[(bB (row n),.fz),(bB (row n),.fz)]) (aB (ao (qI hn (ao (mf rfl)) (av rfl))) (aB (ao (av rfl)) aR)) (entry_is (hk n hn))).t
theorem FL(hk:∀n∈keys,rOk (row n))(ht:∀t∈aj,PyData.strOk t=true):cY [PD aj keys row,TD aj,HD keys row]=some (.bool true,false):=by
 have t1:mOr (gG (aN (mZ "tuple" (ah 0)))) (mOr (aN (mOp gNe (mCB cH (ak (ah 0) aF)) (mC (.int 2)))) (mOr (gG (aN (mZ "list" (mOp gIx (ah 0) (mC (.int 0)))))) (aN (mOp gNe (mOp gIx (ah 0) (mC (.int 0))) (ah 1))))) [.fz (PD aj keys row),.fz (TD aj),.fz (HD keys row),.no,.no]=some (false,[.fz (PD aj keys row),.fz (TD aj),.fz (HD keys row),.no,.no]) :=
  jd (fM (test_ev (k:=.fz) (v:=true) (u9 (ao (av rfl)) (by simp[wV,kE,tyD,dw,mG])))) (jd (ig (oN (dC (rs:=[(PD aj keys row,.fz)]) (res:=(.int 2,false)) (aB (ao (av rfl)) aR) rfl) cS) rfl) (jd (fM (test_ev (k:=.fz) (v:=true) (u9 (ao (oY rfl)) (by simp[wV,kE,tyD,dw,mG])))) (test_ev (k:=.fz) (v:=false) (bP (r:=(TD aj,.fz)) (res:=(.bool false,false)) (ao (oY rfl)) (ao (av rfl)) (by rw[IQ ht ht,zaH rfl];rfl)))))
 have l0:IE (mCB fR (ak (mOp gIx (ah 0) (mC (.int 1))) aF)) [.fz (PD aj keys row),.fz (TD aj),.fz (HD keys row),.no,.no] (keys.length:Int):=dC (rs:=[(HD keys row,.fz)]) (res:=(.int (keys.length:Int),false)) (aB (ao (mf rfl)) aR) (by show some (PyData.int ((cb keys row).length:Int),false)=_;rw[nj])
 have t2:mOr (gG (aN (mZ "dict" (mOp gIx (ah 0) (mC (.int 1)))))) (aN (mOp gNe (mCB fR (ak (mOp gIx (ah 0) (mC (.int 1))) aF)) (mCB fR (ak (ah 2) aF)))) [.fz (PD aj keys row),.fz (TD aj),.fz (HD keys row),.no,.no]=some (false,[.fz (PD aj keys row),.fz (TD aj),.fz (HD keys row),.no,.no]) :=
  jd (fM (test_ev (k:=.fz) (v:=true) (u9 (ao (mf rfl)) (by simp[wV,dw,mG])))) (ig (oN l0 (i6 (.inl rfl))) (by simp))
 have lp:∃s t,forL (mgU 2 (bK (mgN 3) (bK (mgN 4) gZ))) fc (keys.map λn=>PyData.tuple [.str n,bB (row n)]) [.fz (PD aj keys row),.fz (TD aj),.fz (HD keys row),.no,.no]=some (.nx [.fz (PD aj keys row),.fz (TD aj),.fz (HD keys row),s,t])/\mV [.fz (PD aj keys row),.fz (TD aj),.fz (HD keys row),s,t]=true:=by
  have gen:∀l:List Str,(∀n∈l,n∈keys)->∃s t,forL (mgU 2 (bK (mgN 3) (bK (mgN 4) gZ))) fc (l.map λn=>PyData.tuple [.str n,bB (row n)]) [.fz (PD aj keys row),.fz (TD aj),.fz (HD keys row),.no,.no]=some (.nx [.fz (PD aj keys row),.fz (TD aj),.fz (HD keys row),s,t])/\mV [.fz (PD aj keys row),.fz (TD aj),.fz (HD keys row),s,t]=true:=λl hl=>by
   cases l with
   |nil=>exact⟨.no,.no,rfl,rfl⟩
   |cons n l=>
    have hn:=hl n zas;obtain⟨x',y',h1⟩:=A8 (aj:=aj) (TD aj) l (.str n) (bB (row n)) (λm hm=>hl m (zak _ hm)) hk
    refine⟨.fz x',.fz y',?_,rfl⟩;rw[zaz];refine jn (ρ1:=[.fz (PD aj keys row),.fz (TD aj),.fz (HD keys row),.fz (.str n),.fz (bB (row n))]) rfl ?_ h1;refine jK (jd (ig (xj (i:=0) (j:=3) rfl rfl) (by rw[zaH hn];rfl)) (fM (v:=true) ?_)) rfl
    exact(lG (rs:=[(bB (row n),.fz),(bB (row n),.fz)]) (aB (ao (qI hn (ao (mf rfl)) (av rfl))) (aB (ao (av rfl)) aR)) (entry_is (hk n hn))).t
  exact gen keys λn hn=>hn
 obtain⟨s,t,h1,h2⟩:=lp;exact fE (o:=.rt (.bool true,.fz) [.fz (PD aj keys row),.fz (TD aj),.fz (HD keys row),s,t]) rfl (aX (jK t1 rfl) (aX (jK t2 rfl) (aX (FK (ρ1:=[.fz (PD aj keys row),.fz (TD aj),.fz (HD keys row),.no,.no]) rfl rfl h1 h2) (dJ rfl)))) rfl
theorem A9(r:aI.Row):m4 [bB r]=some (bB ⟨r.key,none,false,r.below⟩,false) :=
 fE (o:=.rt (bB ⟨r.key,none,false,r.below⟩,.fz) [.fz (bB r)]) rfl (dJ (dE (rs:=[(.int r.key,.fz),(.none,.fz),(.bool false,.fz),(.tuple (r.below.map .str),.fz)]) (aB (ao (lN (av rfl))) (aB (ao rfl) (aB (ao rfl) (aB (ao (gq (av rfl))) aR)))) rfl (by simp))) rfl
section
variable{α β:Type}
theorem eE{m:MN α}{k : α->MN β}{s s':SS}{v : α}(h:m s=some (.ok v s')):bN m k s=k v s':=by unfold bN;rw[h]
theorem gT{m:MN α}{k : α->SN}{s s':SS}{v : α}(h:m s=some (.ok v s')):bS m k s=k v s':=by unfold bS;rw[h]
theorem aT{a b:SN}{s s':SS}{o:Option iV}(h:a s=some (.nx s'))(h2:b s'=o):cI a b s=o:=by unfold cI;rw[h];exact h2
theorem Ke{c:MN Bool}{a b:SN}{s s':SS}{o:Option iV}(h:c s=some (.ok true s'))(h2:a s'=o):ml c a b s=o:=by unfold ml;rw[gT h,if_pos rfl];exact h2
theorem nv{c:MN Bool}{a b:SN}{s s':SS}{o:Option iV}(h:c s=some (.ok false s'))(h2:b s'=o):ml c a b s=o:=by unfold ml;rw[gT h,if_neg zam];exact h2
theorem cN{a:EN}{i:Nat}{s s':SS}{x:SV}(h:a s=some (.ok x s'))(hi:i<s'.t.length):dW a (ngN i) s=some (.nx ⟨s'.S,s'.t.set i (some x)⟩):=by unfold dW;rw[gT h];unfold ngN;rw[if_pos hi]
theorem lR{a:EN}{s s':SS}{x:SV}(h:a s=some (.ok x s')):kJ a s=some (.rt x s'):=by unfold kJ;rw[gT h]
theorem eY{a:EN}{s s':SS}{x:SV}(h:a s=some (.ok x s')):jr a s=some (.nx s'):=by unfold jr;rw[gT h]
theorem aH{i:Nat}{s:SS}{x:SV}(h:s.t[i]?=some (some x)):bH i s=some (.ok x s):=by unfold bH;rw[h]
theorem aW{a:EN}{m:MN (List SV)}{s s1 s2:SS}{x:SV}{xs:List SV}(h:a s=some (.ok x s1))(h2:m s1=some (.ok xs s2)):aS a m s=some (.ok (x::xs) s2):=by unfold aS;rw[eE h,eE h2]
theorem DI{a:EN}{s s':SS}{b:Bool}(h:a s=some (.ok (.pl (.bool b)) s')):wu a s=some (.ok b s'):=by unfold wu;rw[eE h]
theorem FO{a:MN Bool}{s s':SS}{b:Bool}(h:a s=some (.ok b s')):EM a s=some (.ok (!b) s'):=by unfold EM;rw[eE h];rfl
theorem Kf{a b:MN Bool}{s s':SS}{r:Option (RR Bool)}(h:a s=some (.ok false s'))(h2:b s'=r):nOr a b s=r:=by unfold nOr;rw[eE h,if_neg zam];exact h2
theorem jz{f:FN}{m:MN (List SV)}{s s1:SS}{xs:List SV}{r:SV}{S':List (Option Cl)}(h:m s=some (.ok xs s1))(h2:f s1.S xs=some (.ok r S')):l7 f m s=some (.ok r ⟨S',s1.t⟩):=by unfold l7;rw[eE h,h2];rfl
theorem g8{d:D}{s:SS}:nLit d s=some (.ok (.pl d) s):=rfl
theorem dj{s:SS}:cM s=some (.ok [] s):=rfl
theorem yB{n k:Nat}{b:SN}{S:List (Option Cl)}{xs:List SV}{o:iV}{w:FR}(h0:xs.length=n)(h1:b ⟨S,xs.map some++List.replicate k none⟩=some o)(h2:retS S.length o=some w):fnS n k b S xs=some w:=by
 unfold fnS;rw[if_pos h0,h1];exact h2
end
theorem sW{n:Nat}{S:List (Option Cl)}(h:zo n S=true){c:Cl}(hc:some c∈S.take n):blC n c=true:=by
 unfold zo at h;exact(List.all_eq_true.mp h) _ hc
theorem zX{n:Nat}{c:Option Cl}(h:∀d,c=some d->blC n d=true):gcC n c=c:=by
 cases c with
 |none=>rfl
 |some d=>simp only[gcC,h d rfl,if_true]
theorem fY{α:Type}{S X:List α}{j:Nat}{c : α}(h:S[j]?=some c):(S++X)[j]?=some c:=by
 rw[zax (zac h).1];exact h
theorem FP{n:Nat}{x:Option SV}(h:∀y,x=some y->blV n y=true):gcV n x=x:=by
 cases x with
 |none=>rfl
 |some y=>simp only[gcV,h y rfl,if_true]
def lX(n:Nat)(t:List (Option SV)):Bool:=t.all λx=>match x with
 |some x=>blV n x
 |none=>true
theorem FQ{n:Nat}{t:List (Option SV)}(h:lX n t=true){x:SV}(hx:some x∈t):blV n x=true:=(List.all_eq_true.mp h) _ hx
theorem FT{n:Nat}{t:List (Option SV)}(h:lX n t=true):gcT n t=t:=by
 unfold gcT;refine(List.map_congr_left λc hc=>FP λd e=>?_).trans (List.map_id _)
 subst e;exact FQ h hc
theorem cP{S:List (Option Cl)}{j:Nat}{d:D}(h:S[j]?=some (some (.dat d))):rdV S (.lc j)=some d:=by simp only[rdV,h]
theorem Kg{S:List (Option Cl)}{d:D}:rdV S (.pl d)=some d:=by simp only[rdV]
theorem bJ{s:SS}{k:Nat}{x:SV}{d:D}(h:s.t[k]?=some (some x))(e:rdV s.S x=some d):(vw s)[k]?=some (.fz d):=by
 unfold vw;rw[zao,h];simp only[Option.map_some,AF,e]
theorem d6{s:SS}{k:Nat}{d:D}(h:s.t[k]?=some (some (.pl d))):(vw s)[k]?=some (.fz d):=bJ h Kg
theorem DJ{s:SS}{k:Nat}{d:D}(h:s.t[k]?=some (some (.pl d))):(vwC s)[k]?=some (.fz d):=by
 unfold vwC;rw[zao,h];rfl
theorem ny{m:PM}{s:SS}{d:D}{ρ:Rho}(h:m (vw s)=some ((d,.fz),ρ))(hp:eg d=true):nO m s=some (.ok (.pl d) s):=by
 unfold nO;rw[h,zai];dsimp only;rw[if_pos hp]
theorem xk{m:PM}{s:SS}{i:Int}(h:IE m (vw s) i):nO m s=some (.ok (.pl (.int i)) s):=ny h rfl
theorem GY{m:PM}{s:SS}{b:Bool}(h:BE m (vw s) b):nO m s=some (.ok (.pl (.bool b)) s):=ny h rfl
theorem lh{m:PM}{s:SS}{d:D}{ρ:Rho}(h:m (vw s)=some ((d,.new),ρ))(hp:eW d true=true):nO m s=some (.ok (.lc s.S.length) ⟨s.S++[some (.dat d)],s.t⟩):=by
 unfold nO;rw[h,zai];dsimp only;rw[if_pos hp];rfl
theorem gr{m:Rho->Option (Bool×Rho)}{s:SS}{b:Bool}{ρ:Rho}(h:m (vw s)=some (b,ρ)):nTo m s=some (.ok b s):=by unfold nTo;rw[h];rfl
theorem dN{a b:EN}{s s1 s2:SS}{x y:SV}{i:Int}(h1:a s=some (.ok x s1))(h2:b s1=some (.ok (.pl (.int i)) s2))(h3:ixV s2.S x i=some y):nIx a b s=some (.ok y s2):=by
 unfold nIx;rw[eE h1,eE h2];simp only[h3,Option.map_some]
theorem GZ{s:SS}:CA cM s=some (.ok (.lc s.S.length) ⟨s.S++[some (.dat (.list []))],s.t⟩):=by
 unfold CA;rw[eE (show cM s=some (.ok [] s)from rfl),bZ (show([]:List SV).length<=sizeLine from Nat.zero_le _)];rfl
theorem nC{m:MN (List SV)}{s s1:SS}{xs:List SV}{ds:List D}(h:m s=some (.ok xs s1))(h1:iO xs=some ds)(h2:xs.length<=100):kH m s=some (.ok (.pl (.tuple ds)) s1):=by
 unfold kH;rw[eE h,bZ (sr (by omega))]
 simp only[mkT,h1]
theorem nD{a:EN}{m:MN (List SV)}{s s1 s2:SS}{k:Nat}{ds:List D}{d:D}{ds0:List D}(h:a s=some (.ok (.lc k) s1))(h0:s1.S[k]?=some (some (.dat (.list ds0))))(h1:m s1=some (.ok [.pl d] s2))(h2:s2.S[k]?=some (some (.dat (.list ds))))(h3:ds.length<=100000):wC a m s=some (.ok (.pl .none) ⟨s2.S.set k (some (.dat (.list (ds++[d])))),s2.t⟩):=by
 unfold wC wB;rw[eE h];simp only[qp,h0,if_true];rw[eE h1];simp only[ET,h2,bZ (we h3)]
theorem xl{n:Nat}{kp:List Nat}{g:SV->SN}{b:SN}{s:SS}:gN n kp (λ_=>True) g b [] s=some (.nx s):=by unfold gN;rw[bZ trivial]
theorem sX{n:Nat}{kp:List Nat}{g:SV->SN}{b:SN}{d:SV}{ds:List SV}{s s1 s2 s3:SS}{o:Option iV}(h1:g d s=some (.nx s1))(h2:b s1=some (.nx s2))(h3:gcE n kp s2=s3)(h4:gN n kp (λ_=>True) g b ds s3=o):gN n kp (λ_=>True) g b (d::ds) s=o:=by
 unfold gN;rw[bZ trivial,h1];dsimp only;rw[h2];dsimp only;rw[h3];exact h4
theorem zY{kp:List Nat}{it:Rho->Option (List D×Rho)}{g:SV->SN}{b:SN}{s:SS}{ds:List D}{ρ:Rho}{o:Option iV}(h1:it (vwC s)=some (ds,ρ))(h2:gN s.S.length kp (λ_=>True) g b (ds.map .pl) s=o):CF kp it g b s=o:=by unfold CF;rw[h1,zai];exact h2
theorem vc{i:Nat}{x:SV}{s:SS}(h:i<s.t.length):ngN i x s=some (.nx ⟨s.S,s.t.set i (some x)⟩):=by unfold ngN;rw[if_pos h]
abbrev dt(d:D):Option Cl:=some (.dat d)
section
variable{α:Type}
theorem ap0{S X:List α}{a : α}:(S++a::X)[S.length]?=some a:=by rw[zaN (zap _),Nat.sub_self];rfl
theorem apk{S X:List α}{a : α}{k:Nat}(h:X[k]?=some a):(S++X)[S.length+k]?=some a:=by rw[zaN (Nat.le_add_right _ _),Nat.add_sub_cancel_left];exact h
theorem IS{S X:List α}{a b : α}:(S++a::X).set S.length b=S++b::X:=by
 rw[List.set_append_right _ _ (zap _),Nat.sub_self];rfl
theorem c9{S:List α}{i:Nat}{a : α}(h:S[i]?=some a):i<S.length:=(zac h).1
end
theorem yC(l:List Str):eg (.tuple (l.map .str))=true:=by
 show bq (l.map .str)=true;exact jv l
theorem jA(r:aI.Row):eg (bB r)=true:=by
 unfold bB;have:eg (bg r.above)=true:=by cases r.above<;>rfl
 simp only[eg,bq,this,jv,Bool.and_true]
theorem nE(keys:List Str)(row:Str->aI.Row):eW (HD keys row) true=true:=by
 show bq ((cb keys row).map (·.2))=true
 unfold cb;rw[List.map_map]
 induction keys with
 |nil=>rfl
 |cons n l ih=>simp only[List.map_cons,bq,Function.comp,jA,Bool.true_and];exact ih
theorem nF(l:List Str):eW (TD l) true=true:=jv l
theorem ll{S:List (Option Cl)}{kp:List Nat}{t:List (Option SV)}{n:Nat}(hn:S.length<=n)(ht:lX n t=true):gcE n kp ⟨S,t⟩=⟨S,t⟩:=by
 unfold gcE;split
 ·rename_i h
  rw[Bool.and_eq_true]at h;unfold gc;dsimp only;rw[FT ht]
  congr 1
  unfold gcS;rw[List.take_of_length_le hn];refine(List.map_congr_left λc hc=>zX λd e=>?_).trans (List.map_id _)
  subst e;exact sW h.1 (by rw[List.take_of_length_le hn];exact hc)
 ·rfl
theorem sY{n:Nat}{kp:List Nat}{ok:SS->Prop}{g:SV->SN}{b:SN}{s:SS}(h0:ok s):gN n kp ok g b [] s=some (.nx s):=by unfold gN;rw[bZ h0]
theorem qR{n:Nat}{kp:List Nat}{ok:SS->Prop}{g:SV->SN}{b:SN}{d:SV}{ds:List SV}{s s1 s2 s3:SS}{o:Option iV}(h0:ok s)(h1:g d s=some (.nx s1))(h2:b s1=some (.nx s2))(h3:gcE n kp s2=s3)(h4:gN n kp ok g b ds s3=o):gN n kp ok g b (d::ds) s=o:=by
 unfold gN;rw[bZ h0,h1];dsimp only;rw[h2];dsimp only;rw[h3];exact h4
theorem pL{d k v:EN}{s s1 s2 s3:SS}{j:Nat}{n:Str}{r:aI.Row}(hv:v s=some (.ok (.pl (bB r)) s1))(hd:d s1=some (.ok (.lc j) s2))(hk:k s2=some (.ok (.pl (.str n)) s3))(hj:s3.S[j]?=some (dt (HD keys row)))(hl:keys.length<=1000):l8 d k v s=some (.nx ⟨s3.S.set j (dt (HD (A0 keys n) (aY row n r))),s3.t⟩):=by
 unfold l8;rw[gT hv,gT hd,gT hk];unfold Fj;dsimp only[keyOf,Option.bind_some];rw[hj];dsimp only;rw[bZ (by rw[nj];omega),xb]
theorem xm{kp:List Nat}{a:EN}{g:SV->SN}{b:SN}{s s1:SS}{k:Nat}{ds:List D}{o:Option iV}(h:a s=some (.ok (.lc k) s1))(hk:s1.S[k]?=some (dt (.list ds)))(h2:gN s1.S.length kp (stays (.lc k) (ds.map .pl)) g b (ds.map .pl) s1=o):wz kp a g b s=o:=by
 unfold wz;rw[gT h];simp only[rC,hk,Option.bind_some];exact h2
theorem qS{S:List (Option Cl)}{t:List (Option SV)}{k:Nat}{ds:List D}(h:S[k]?=some (dt (.list ds))):stays (.lc k) (ds.map .pl) ⟨S,t⟩:=by
 show rC S (.lc k)=_;simp only[rC,h]
theorem fZ{S:List (Option Cl)}{p q:Nat}(hp:S[p]?=some (dt (TD aj)))(hq:S[q]?=some (dt (HD keys row))):rdV S (.tp [.lc p,.lc q])=some (PD aj keys row):=by
 simp only[rdV,rB,hp,hq,Option.bind_some,Option.map_some]
theorem jT{m:MN (List SV)}{s s1:SS}{xs:List SV}(h:m s=some (.ok xs s1))(h1:iO xs=none)(h2:xs.length<=100):kH m s=some (.ok (.tp xs) s1):=by
 unfold kH;rw[eE h,bZ (sr (by omega))]
 simp only[mkT,h1]
theorem Ch.above{n L:Str}{C:List Str}(h:Ch row n C L):∃a,(row n).above=some a:=by cases h with|one e _=>exact⟨_,e⟩|more e _ _=>exact⟨_,e⟩
theorem IT{α:Type}{S:List α}{a : α}:(S++[a]).length=S.length+1:=by simp
theorem IU{α:Type}{S:List α}{a b : α}:(S++[a,b]).length=S.length+2:=by simp
theorem xn{m:PM}{S:List (Option Cl)}{t:List (Option SV)}{d:D}{ρ:Rho}{X:List (Option Cl)}{k:Nat}(h:m (vw ⟨S++X,t⟩)=some ((d,.new),ρ))(hp:eW d true=true)(hk:X.length=k):nO m ⟨S++X,t⟩=some (.ok (.lc (S.length+k)) ⟨S++(X++[dt d]),t⟩):=by
 rw[lh h hp];dsimp only;rw[zau,hk,zaD]
theorem vd{n k:Nat}{b:SN}{S S':List (Option Cl)}{xs:List SV}{r:SV}{t':List (Option SV)}(h0:xs.length=n)(h1:b ⟨S,xs.map some++List.replicate k none⟩=some (.rt r ⟨S',t'⟩))(h2:blV S.length r=false):fnS n k b S xs=some (.ok r S') :=
 yB h0 h1 (show(if blV S.length r=true then _ else _)=_ from if_neg (by rw[h2];simp))
theorem FU{n:Nat}{S:List (Option Cl)}(h:S.length<=n):fS n S=S:=by
 unfold fS;split
 ·rename_i hc
  unfold gcS;rw[List.take_of_length_le h];refine(List.map_congr_left λc hc'=>zX λd e=>?_).trans (List.map_id _)
  subst e;exact sW hc (by rw[List.take_of_length_le h];exact hc')
 ·rfl
def stH(p:Str×Str):D:=.tuple [.str "hang",.str p.1,.str p.2]
theorem FV{r:aI.Row}{x:Str}(hl:r.below.length<=1000){a b:PM}{ρ:Rho}(h:a ρ=some ((bB r,.fz),ρ))(hb:b ρ=some ((.tuple [.str x],.fz),ρ)):mOp oV (mOp gIx a (mC (.int 3))) b ρ=some ((.tuple ((r.below++[x]).map .str),.fz),ρ):=by
 obtain⟨o,ho⟩:=sE (r.below.map .str) [.str x] (by simp;omega) (by simp)
 have e:=bP (r:=(.tuple [.str x],.fz)) (res:=(.tuple ((r.below++[x]).map .str),o)) (ao (gq h)) (ao hb) (by rw[za1];exact ho)
 cases o<;>exact e
theorem FW{x y:Str}(hx:x∈keys)(hy:y∈keys)(ne:y≠x)(hk:keys.length<=1000)(hb:(row y).below.length<=1000){S:List (Option Cl)}{j:Nat}(hj:S[j]?=some (dt (HD keys row))):uM S [.lc j,.pl (.str x),.pl (.str y)]=some (.ok (.pl .none) (S.set j (dt (HD keys (bz row x y))))):=by
 have lj:=c9 hj;refine yB (o:=.nx ⟨S.set j (dt (HD keys (bz row x y))),[some (.lc j),some (.pl (.str x)),some (.pl (.str y)),some (.pl (bB (row y)))]⟩) rfl ?_ (by show some (FR.ok (.pl .none) (fS S.length (S.set j _)))=_;rw[FU (by rw[zaM];exact zap _)])
 refine aT (s':=⟨S,[some (.lc j),some (.pl (.str x)),some (.pl (.str y)),some (.pl (bB (row x)))]⟩) (cN (i:=3) (ny (dr (.inl (bJ rfl (cP hj))) hx (av (d6 rfl))) (jA _)) (by simp)) ?_
 have h1:(S.set j (dt (HD keys (aY row x ⟨(row x).key,some y,false,(row x).below⟩))))[j]?=some (dt (HD keys (aY row x ⟨(row x).key,some y,false,(row x).below⟩))):=zav lj;refine aT (s':=⟨S.set j (dt (HD keys (aY row x ⟨(row x).key,some y,false,(row x).below⟩))),[some (.lc j),some (.pl (.str x)),some (.pl (.str y)),some (.pl (bB (row x)))]⟩) ((pL (r:=⟨(row x).key,some y,false,(row x).below⟩) (nC (xs:=[.pl (.int (row x).key),.pl (.str y),.pl (.bool false),.pl (.tuple ((row x).below.map .str))]) (aW (dN (aH rfl) g8 rfl) (aW (aH rfl) (aW g8 (aW (dN (aH rfl) g8 rfl) dj)))) rfl (by simp)) (aH rfl) (aH rfl) hj hk).trans (by rw[gD hx])) ?_
 have ry:=dr (keys:=keys) (row:=aY row x ⟨(row x).key,some y,false,(row x).below⟩) (n:=y) (i:=0) (b:=ah 2) (ρ:=vw ⟨S.set j (dt (HD keys (aY row x ⟨(row x).key,some y,false,(row x).below⟩))),[some (.lc j),some (.pl (.str x)),some (.pl (.str y)),some (.pl (bB (row x)))]⟩) (.inl (bJ rfl (cP h1))) hy (av (d6 rfl));rw[aG _ _ ne]at ry;refine aT (s':=⟨S.set j (dt (HD keys (aY row x ⟨(row x).key,some y,false,(row x).below⟩))),[some (.lc j),some (.pl (.str x)),some (.pl (.str y)),some (.pl (bB (row y)))]⟩) (cN (i:=3) (ny ry (jA _)) (by simp)) ?_
 refine(pL (row:=aY row x ⟨(row x).key,some y,false,(row x).below⟩) (r:=⟨(row y).key,(row y).above,(row y).mark,(row y).below++[x]⟩) (nC (xs:=[.pl (.int (row y).key),.pl (bg (row y).above),.pl (.bool (row y).mark),.pl (.tuple (((row y).below++[x]).map .str))]) (aW (dN (aH rfl) g8 rfl) (aW (dN (aH rfl) g8 rfl) (aW (dN (aH rfl) g8 rfl) (aW (ny (FV hb (av (d6 rfl)) (dE (rs:=[(.str x,.fz)]) (aB (ao (av (d6 rfl))) aR) rfl (by simp))) (yC _)) dj)))) rfl (by simp)) (aH rfl) (aH rfl) h1 hk).trans ?_
 rw[gD hy,List.set_set];unfold bz;rw[aG _ _ ne]
theorem ve{kp:List Nat}{cc:MN Bool}{b:SN}{n:Nat}{s s':SS}(h:cc s=some (.ok false s')):fQ kp cc b (n+1) s=some (.nx s'):=by
 unfold fQ;rw[gT h,if_neg zam]
theorem DK{kp:List Nat}{cc:MN Bool}{b:SN}{n:Nat}{s s1 s2 s3:SS}{o:Option iV}(h1:cc s=some (.ok true s1))(h2:b s1=some (.nx s2))(h3:gcE s1.S.length kp s2=s3)(h4:fQ kp cc b n s3=o):fQ kp cc b (n+1) s=o:=by
 unfold fQ;rw[gT h1,if_pos rfl,h2];dsimp only;rw[h3];exact h4
theorem FX{a:EN}{m:MN (List SV)}{s s1 s2:SS}{k d:Nat}{al:List (Nat×Str)}{t:Str}(h:a s=some (.ok (.lc k) s1))(h0:s1.S[k]?=some (dt (AL al)))(h1:m s1=some (.ok [.pl (.int (d:Int))] s2))(h2:s2.S[k]?=some (dt (AL al)))(hl:al.lookup d=some t):oU a m s=some (.ok (.pl (.str t)) ⟨s2.S.set k (dt (AL (al.filter λp=>decide (p.1≠d)))),s2.t⟩):=by
 unfold oU;rw[eE h];simp only[zM,h0,if_true];rw[eE h1];unfold zL;dsimp only[keyOf,Option.bind_some];rw[h2];dsimp only;rw[pK,hl,FH];rfl
section
variable{α:Type}
theorem IV{S X:List α}{a b x : α}:(S++a::b::X).set (S.length+1) x=S++a::x::X:=by
 rw[List.set_append_right _ _ (by omega),Nat.add_sub_cancel_left];rfl
theorem Kh{S X:List α}{a b e x : α}:(S++a::b::e::X).set (S.length+2) x=S++a::b::x::X:=by
 rw[List.set_append_right _ _ (by omega),Nat.add_sub_cancel_left];rfl
end
abbrev Sa(B:List (Option Cl))(keys:List Str)(row:Str->aI.Row)(al:List (Nat×Str))(sts:List (Str×Str)):List (Option Cl):=B++[dt (HD keys row),dt (AL al),dt (.list (sts.map stH))]
abbrev fh(pile:SV)(N:Nat)(x4 x5 x6 x7:Option SV):List (Option SV):=[some pile,some (.lc N),some (.lc (N+1)),some (.lc (N+2)),x4,x5,x6,x7]
structure Al(T0:List Str)(eF:Str->aI.Row)(sts:List (Str×Str))(T:List Str)(row:Str->aI.Row)(al:List (Nat×Str))(on:Str)(rest:List Str):Prop where
 hs:Hs T0 eF sts T row
 nk:(al.map Prod.fst).Nodup
 ae:∀p∈al,p.2∈T/\(row p.2).below.length=p.1/\p.2≠on/\p.2∉rest
 oo:on∈T/\on∉rest
 rs:∀t∈rest,t∈T
 cov:∀t∈T,t=on\/(∃p∈al,p.2=t)\/t∈rest
theorem vf{d:Nat}{t:Str}:∀{al:List (Nat×Str)},al.lookup d=some t->(d,t)∈al
 |(e,u)::al,h=>by
  by_cases z:d=e
  ·subst z;rw[za8,beq_self_eq_true]at h;cases h;exact zas
  ·rw[za8,beq_eq_false_iff_ne.mpr z]at h;exact zak _ (vf h)
theorem vg:∀{al:List (Nat×Str)},(al.map Prod.fst).Nodup->∀{p q:Nat×Str},p∈al->q∈al->p.1=q.1->p=q
 |x::al,nd,p,q,hp,hq,e=>by
  rw[zaz,List.nodup_cons]at nd;rcases zaf hp with rfl|hp'<;>rcases zaf hq with rfl|hq'
  ·rfl
  ·exact absurd (e▸List.mem_map_of_mem hq') nd.1
  ·exact absurd (e▸List.mem_map_of_mem hp') nd.1
  ·exact vg nd.2 hp' hq' e
theorem Al.turn{T0:List Str}{eF:Str->aI.Row}{sts:List (Str×Str)}{T:List Str}{al:List (Nat×Str)}{on:Str}{rest:List Str}(A:Al T0 eF sts T row al on rest)(ndT:T.Nodup){t x y:Str}(hl:al.lookup (row on).below.length=some t)(xy:(x=on/\y=t)\/(x=t/\y=on))(lt:a0 (row y).key y (row x).key x=true) :
  y≠x/\x∈T/\y∈T/\Al T0 eF (sts++[(x,y)]) (T.erase x) (bz row x y) (al.filter λp=>decide (p.1≠(row on).below.length)) y rest:=by
 have mt:=vf hl;obtain⟨t1,t2,t3,t4⟩:=A.ae _ mt;dsimp only at t1 t2 t3 t4;have ne:y≠x:=by rcases xy with⟨rfl,rfl⟩|⟨rfl,rfl⟩<;>first|exact t3|exact λe=>t3 e.symm
 have hx:x∈T/\x∉rest:=by rcases xy with⟨rfl,rfl⟩|⟨rfl,rfl⟩<;>first|exact A.oo|exact⟨t1,t4⟩
 have hy:y∈T/\y∉rest:=by rcases xy with⟨rfl,rfl⟩|⟨rfl,rfl⟩<;>first|exact A.oo|exact⟨t1,t4⟩
 have ed:(row x).below.length=(row y).below.length:=by rcases xy with⟨rfl,rfl⟩|⟨rfl,rfl⟩<;>omega
 have er:∀{u:Str},u∈T->u≠x->u∈T.erase x:=fun{u} h1 h2=>(za9 ndT).mpr ⟨h2,h1⟩
 have oth:∀p∈al,p.1≠(row on).below.length->p.2≠x/\p.2≠y:=λp hp hd=>by
  obtain⟨p1,p2,p3,p4⟩:=A.ae p hp;have pt:p.2≠t:=λe=>hd (by rw[<-p2,e];exact t2)
  rcases xy with⟨rfl,rfl⟩|⟨rfl,rfl⟩
  ·exact⟨p3,pt⟩
  ·exact⟨pt,p3⟩
 refine⟨ne,hx.1,hy.1,A.hs.snoc hx.1 hy.1 ne lt ed,A.nk.sublist (List.filter_sublist.map _),λp hp=>?_,⟨er hy.1 ne,hy.2⟩,λu hu=>er (A.rs u hu) λe=>hx.2 (e▸hu),λu hu=>?_⟩
 ·obtain⟨h1,h2⟩:=List.mem_filter.mp hp
  have hd:p.1≠(row on).below.length:=of_decide_eq_true h2;obtain⟨p1,p2,p3,p4⟩:=A.ae p h1;obtain⟨q1,q2⟩:=oth p h1 hd;exact⟨er p1 q1,by rw[cD q2 q1];exact p2,q2,p4⟩
 ·obtain⟨u1,u2⟩:=(za9 ndT).mp hu
  rcases A.cov u u2 with rfl|⟨p,hp,rfl⟩|h
  ·rcases xy with⟨rfl,rfl⟩|⟨rfl,rfl⟩
   ·exact absurd rfl u1
   ·exact .inl rfl
  ·by_cases hd:p.1=(row on).below.length
   ·have:=vg A.nk hp mt hd
    subst this;rcases xy with⟨rfl,rfl⟩|⟨rfl,rfl⟩
    ·exact .inl rfl
    ·exact absurd rfl u1
   ·exact .inr (.inl ⟨p,List.mem_filter.mpr ⟨hp,zaH hd⟩,rfl⟩)
  ·exact .inr (.inr h)
theorem FY(hc:c<=200){T0:List Str}{eF:Str->aI.Row}(h0:Bk c T0 keys eF)(f0:Fm keys eF){B:List (Option Cl)}{pile:SV}(hpl:blV (B.length+3) pile=true){rest:List Str}{x4:SV}(h4:blV (B.length+3) x4=true):∀(m:Nat) (al:List (Nat×Str)) (sts:List (Str×Str)) (T:List Str) (row:Str->aI.Row) (on:Str) (x6 x7:Option SV) (fuel:Nat),al.length<=m->m<fuel->lX (B.length+3) [x6,x7]=true->Al T0 eF sts T row al on rest->
  ∃al' qT T' aK on' x6' x7',fQ [0,1,2,3,4,5] kR kS fuel ⟨Sa B keys row al sts,fh pile B.length (some x4) (some (.pl (.str on))) x6 x7⟩=some (.nx ⟨Sa B keys aK al' qT,fh pile B.length (some x4) (some (.pl (.str on'))) x6' x7'⟩)/\Al T0 eF qT T' aK al' on' rest/\al'.lookup (aK on').below.length=none/\lX (B.length+3) [x6',x7']=true:=by
 intro m
 induction m with
 |zero=>
  intro al sts T row on x6 x7 fuel hm hf hx A;obtain⟨fuel,rfl⟩:∃k,fuel=k+1:=⟨fuel-1,by omega⟩
  obtain rfl:al=[]:=List.eq_nil_of_length_eq_zero (by omega)
  obtain⟨hB,hF⟩:=A.hs.inv h0 f0;have hon:=(hB.tk on A.oo.1).1;refine⟨[],sts,T,row,on,x6,x7,ve (gr (test_ev (k:=.fz) (bP (r:=(AL [],.fz)) (res:=(.bool false,false)) (ao (ju (dr (.inl (bJ rfl (cP ap0))) hon (av (d6 rfl))))) (ao (av (bJ rfl (cP (apk (k:=1) rfl))))) (GX _ _)))),A,rfl,hx⟩
 |succ m ih=>
  intro al sts T row on x6 x7 fuel hm hf hx A;obtain⟨fuel,rfl⟩:∃k,fuel=k+1:=⟨fuel-1,by omega⟩
  obtain⟨hB,hF⟩:=A.hs.inv h0 f0;have hon:=(hB.tk on A.oo.1).1;have kl:=hB.kl;have sl:=A.hs.len;have tl0:=h0.tl;have tst:nTo (aN (mOp CU (mCB cH (ak (mOp gIx (mOp eu (ah 1) (ah 5)) (mC (.int 3))) aF)) (ah 2))) ⟨Sa B keys row al sts,fh pile B.length (some x4) (some (.pl (.str on))) x6 x7⟩=some (.ok (al.lookup (row on).below.length).isSome ⟨Sa B keys row al sts,fh pile B.length (some x4) (some (.pl (.str on))) x6 x7⟩):=gr (test_ev (k:=.fz) (bP (r:=(AL al,.fz)) (res:=(.bool (al.lookup (row on).below.length).isSome,false)) (ao (ju (dr (.inl (bJ rfl (cP ap0))) hon (av (d6 rfl))))) (ao (av (bJ rfl (cP (apk (k:=1) rfl))))) (GX _ _)));cases el:al.lookup (row on).below.length with
  |none=>
   rw[el]at tst;exact⟨al,sts,T,row,on,x6,x7,ve tst,A,el,hx⟩
  |some t=>
   rw[el]at tst;have mt:=vf el;obtain⟨t1,t2,t3,_⟩:=A.ae _ mt;have htk:=(hB.tk t t1).1;obtain⟨x,y,xy,lt,hsw⟩:∃x y,((x=on/\y=t)\/(x=t/\y=on))/\a0 (row y).key y (row x).key x=true/\∃x7',lX (B.length+3) [x7']=true/\ml (nTo (aN (mOp AS (cK c8 (ak (ah 1) (ak (ah 6) aF))) (cK c8 (ak (ah 1) (ak (ah 5) aF)))))) (cI (dW (bH 6) (ngN 7)) (cI (dW (bH 5) (ngN 6)) (dW (bH 7) (ngN 5)))) kI ⟨Sa B keys row (al.filter λp=>decide (p.1≠(row on).below.length)) sts,fh pile B.length (some x4) (some (.pl (.str on))) (some (.pl (.str t))) x7⟩=some (.nx ⟨Sa B keys row (al.filter λp=>decide (p.1≠(row on).below.length)) sts,fh pile B.length (some x4) (some (.pl (.str y))) (some (.pl (.str x))) x7'⟩):=by
    have tl:nTo (aN (mOp AS (cK c8 (ak (ah 1) (ak (ah 6) aF))) (cK c8 (ak (ah 1) (ak (ah 5) aF))))) ⟨Sa B keys row (al.filter λp=>decide (p.1≠(row on).below.length)) sts,fh pile B.length (some x4) (some (.pl (.str on))) (some (.pl (.str t))) x7⟩=some (.ok (a0 (row t).key t (row on).key on) ⟨Sa B keys row (al.filter λp=>decide (p.1≠(row on).below.length)) sts,fh pile B.length (some x4) (some (.pl (.str on))) (some (.pl (.str t))) x7⟩):=gr (test_ev (k:=.fz) (bP (r:=(.tuple [.int (row on).key,.str on],.fz)) (res:=(.bool (a0 (row t).key t (row on).key on),false)) (ao (dB (rs:=[(HD keys row,.fz),(.str t,.fz)]) (aB (ao (av (bJ rfl (cP ap0)))) (aB (ao (av (d6 rfl))) aR)) (lg htk) rfl)) (ao (dB (rs:=[(HD keys row,.fz),(.str on,.fz)]) (aB (ao (av (bJ rfl (cP ap0)))) (aB (ao (av (d6 rfl))) aR)) (lg hon) rfl)) rfl))
    cases eb:a0 (row t).key t (row on).key on with
    |true=>
     rw[eb]at tl;exact⟨on,t,.inl ⟨rfl,rfl⟩,eb,some (.pl (.str t)),rfl,Ke tl (aT (cN (i:=7) (aH rfl) (by simp)) (aT (cN (i:=6) (aH rfl) (by simp)) (cN (i:=5) (aH rfl) (by simp))))⟩
    |false=>
     rw[eb]at tl;exact⟨t,on,.inr ⟨rfl,rfl⟩,nq t3 eb,x7,(by simp[lX]at hx⊢;exact hx.2),nv tl rfl⟩
   obtain⟨x7',h7,hsw⟩:=hsw;obtain⟨ne,hxT,hyT,A'⟩:=A.turn hB.tn el xy lt;have hxk:=(hB.tk x hxT).1;have hyk:=(hB.tk y hyT).1;have hfl:(al.filter λp=>decide (p.1≠(row on).below.length)).length<al.length:=List.length_filter_lt_length_iff_exists.mpr ⟨_,mt,by simp⟩
   obtain⟨al',qT,T',aK,on',y6,y7,e1,e2,e3,e4⟩:=ih (al.filter λp=>decide (p.1≠(row on).below.length)) (sts++[(x,y)]) (T.erase x) (bz row x y) y (some (.pl (.str x))) x7' fuel (by omega) (by omega) (by simp[lX,blV]at h7⊢;exact h7) A'
   refine⟨al',qT,T',aK,on',y6,y7,DK tst ?_ (ll (by simp) (by simp[lX,hpl,h4,blV]at h7⊢;exact h7)) e1,e2,e3,e4⟩
   refine aT (s':=⟨Sa B keys row (al.filter λp=>decide (p.1≠(row on).below.length)) sts,fh pile B.length (some x4) (some (.pl (.str on))) (some (.pl (.str t))) x7⟩) ((cN (i:=6) (FX (aH rfl) (apk (k:=1) rfl) (aW (xk (ju (dr (.inl (bJ rfl (cP ap0))) hon (av (d6 rfl))))) dj) (apk (k:=1) rfl) el) (by simp)).trans (by dsimp only;rw[IV];rfl)) ?_
   refine aT hsw ?_;have hh:=FW hxk hyk ne (row:=row) (by omega) (by have:=(hB.bl y hyk).1;omega) (S:=Sa B keys row (al.filter λp=>decide (p.1≠(row on).below.length)) sts) (j:=B.length) ap0
   rw[IS]at hh;refine aT (s':=⟨Sa B keys (bz row x y) (al.filter λp=>decide (p.1≠(row on).below.length)) sts,fh pile B.length (some x4) (some (.pl (.str y))) (some (.pl (.str x))) x7'⟩) (eY (jz (aW (aH rfl) (aW (aH rfl) (aW (aH rfl) dj))) hh)) ?_
   refine(eY (nD (aH rfl) (apk (k:=2) rfl) (aW (nC (xs:=[.pl (.str "hang"),.pl (.str x),.pl (.str y)]) (aW g8 (aW (aH rfl) (aW (aH rfl) dj))) rfl (by simp)) dj) (apk (k:=2) rfl) (by rw[zal];omega))).trans ?_
   dsimp only;rw[Kh];show _=some (iV.nx ⟨B++[_,_,dt (.list ((sts++[(x,y)]).map stH))],_⟩);rw[za1];rfl
structure Am(T0:List Str)(eF:Str->aI.Row)(sts:List (Str×Str))(T:List Str)(row:Str->aI.Row)(al:List (Nat×Str))(rest:List Str):Prop where
 hs:Hs T0 eF sts T row
 nk:(al.map Prod.fst).Nodup
 ae:∀p∈al,p.2∈T/\(row p.2).below.length=p.1/\p.2∉rest
 rs:∀t∈rest,t∈T
 cov:∀t∈T,(∃p∈al,p.2=t)\/t∈rest
 nd:rest.Nodup
theorem zZ{d:Nat}:∀{al:List (Nat×Str)},al.lookup d=none->∀p∈al,p.1≠d
 |(e,u)::al,h,p,hp=>by
  by_cases z:d=e
  ·subst z;rw[za8,beq_self_eq_true]at h;cases h
  ·rw[za8,beq_eq_false_iff_ne.mpr z]at h
   rcases zaf hp with rfl|hp
   ·exact λw=>z w.symm
   ·exact zZ h p hp
theorem DM{d k v:EN}{s s1 s2 s3:SS}{j n:Nat}{t:Str}{al:List (Nat×Str)}(hv:v s=some (.ok (.pl (.str t)) s1))(hd:d s1=some (.ok (.lc j) s2))(hk:k s2=some (.ok (.pl (.int (n:Int))) s3))(hj:s3.S[j]?=some (dt (AL al)))(hl:al.length<=1000)(hn:al.lookup n=none):l8 d k v s=some (.nx ⟨s3.S.set j (dt (AL (al++[(n,t)]))),s3.t⟩):=by
 unfold l8;rw[gT hv,gT hd,gT hk];unfold Fj;dsimp only[keyOf,Option.bind_some];rw[hj];dsimp only;rw[bZ (by unfold alL;rw[zal];omega),IM hn]
theorem FZ(hc:c<=200){T0:List Str}{eF:Str->aI.Row}(h0:Bk c T0 keys eF)(f0:Fm keys eF){B:List (Option Cl)}{pile:SV}(hpl:blV (B.length+3) pile=true){p:Nat}(hp:B[p]?=some (dt (TD T0))):∀(rest:List Str) (al:List (Nat×Str)) (sts:List (Str×Str)) (T:List Str) (row:Str->aI.Row) (x4 x5 x6 x7:Option SV),lX (B.length+3) [x6,x7]=true->Am T0 eF sts T row al rest->
  ∃al' qT T' aK y4 y5 y6 y7,gN (B.length+3) [0,1,2,3] (stays (.lc p) ((T0.map PyData.str).map .pl)) (ngN 4) kT ((rest.map PyData.str).map .pl) ⟨Sa B keys row al sts,fh pile B.length x4 x5 x6 x7⟩=some (.nx ⟨Sa B keys aK al' qT,fh pile B.length y4 y5 y6 y7⟩)/\Am T0 eF qT T' aK al' []:=by
 intro rest
 induction rest with
 |nil=>intro al sts T row x4 x5 x6 x7 _ A;exact⟨al,sts,T,row,x4,x5,x6,x7,sY (qS (fY hp)),A⟩
 |cons t rest ih=>
  intro al sts T row x4 x5 x6 x7 hx A;obtain⟨nt,ndr⟩:=List.nodup_cons.mp A.nd;have A1:Al T0 eF sts T row al t rest:=⟨A.hs,A.nk,λq hq=>(let⟨a1,a2,a3⟩:=A.ae q hq;⟨a1,a2,λe=>a3 (by rw[e];exact zas),λz=>a3 (zak _ z)⟩),⟨A.rs t zas,nt⟩,λu hu=>A.rs u (zak _ hu),λu hu=>by
   rcases A.cov u hu with h|h
   ·exact .inr (.inl h)
   ·rcases zaf h with h|h
    ·exact .inl h
    ·exact .inr (.inr h)⟩
  have all:∀{al:List (Nat×Str)} {sts:List (Str×Str)} {T:List Str} {row:Str->aI.Row},Hs T0 eF sts T row->(al.map Prod.fst).Nodup->(∀q∈al,q.2∈T/\(row q.2).below.length=q.1)->al.length<=201:=fun{al sts T row} hs nk ae=>by
   obtain⟨hB,_⟩:=hs.inv h0 f0;have:=aI.iQ (al.map Prod.fst) (List.range 201) nk λd hd=>by
    obtain⟨q,hq,rfl⟩:=List.mem_map.mp hd;obtain⟨a1,a2⟩:=ae q hq;have:=(hB.bl q.2 (hB.tk q.2 a1).1).1;exact List.mem_range.mpr (by omega)
   simpa using this
  obtain⟨al',qT,T',aK,on',x6',x7',w1,A2,w3,w4⟩:=FY hc h0 f0 hpl (x4:=.pl (.str t)) rfl (rest:=rest) al.length al sts T row t x6 x7 1000000 (zap _) (by have:=all A.hs A.nk λq hq=>⟨(A.ae q hq).1,(A.ae q hq).2.1⟩;omega) hx A1
  obtain⟨hB,_⟩:=A2.hs.inv h0 f0;have hon:=(hB.tk on' A2.oo.1).1;have A3:Am T0 eF qT T' aK (al'++[((aK on').below.length,on')]) rest:=by
   refine⟨A2.hs,?_,λq hq=>?_,A2.rs,λu hu=>?_,ndr⟩
   ·rw[za1,List.nodup_append]
    refine⟨A2.nk,by simp,λa ha b hb e=>?_⟩
    obtain⟨q,hq,rfl⟩:=List.mem_map.mp ha;rw[List.map_singleton,List.mem_singleton]at hb;exact zZ w3 q hq (e.trans hb)
   ·rcases zae hq with hq|hq
    ·obtain⟨a1,a2,_,a4⟩:=A2.ae q hq
     exact⟨a1,a2,a4⟩
    ·rw[zad hq];exact⟨A2.oo.1,rfl,A2.oo.2⟩
   ·rcases A2.cov u hu with rfl|⟨q,hq,e⟩|h
    ·exact .inl ⟨_,zan _ (List.mem_singleton.mpr rfl),rfl⟩
    ·exact .inl ⟨q,zaW _ hq,e⟩
    ·exact .inr h
  obtain⟨al2,K1,T2,row2,y4,y5,y6,y7,i1,i2⟩:=ih (al'++[((aK on').below.length,on')]) qT T' aK (some (.pl (.str t))) (some (.pl (.str on'))) x6' x7' w4 A3;refine⟨al2,K1,T2,row2,y4,y5,y6,y7,?_,i2⟩;refine qR (s1:=⟨Sa B keys row al sts,fh pile B.length (some (.pl (.str t))) x5 x6 x7⟩) (s2:=⟨Sa B keys aK (al'++[((aK on').below.length,on')]) qT,fh pile B.length (some (.pl (.str t))) (some (.pl (.str on'))) x6' x7'⟩) (qS (fY hp)) (vc (by simp)) ?_ (ll (by simp) (by simp[lX,hpl,blV]at w4⊢;exact w4)) i1
  refine aT (s':=⟨Sa B keys row al sts,fh pile B.length (some (.pl (.str t))) (some (.pl (.str t))) x6 x7⟩) (cN (i:=5) (aH rfl) (by simp)) ?_
  refine aT w1 ((DM (aH rfl) (aH rfl) (xk (ju (dr (.inl (bJ rfl (cP ap0))) hon (av (d6 rfl))))) (apk (k:=1) rfl) (by have:=all A2.hs A2.nk λq hq=>⟨(A2.ae q hq).1,(A2.ae q hq).2.1⟩;omega) w3).trans ?_)
  dsimp only;rw[IV]
theorem DN(hc:c<=200){T0:List Str}{eF:Str->aI.Row}(h0:Bk c T0 keys eF)(f0:Fm keys eF){S:List (Option Cl)}{p q:Nat}(hp:S[p]?=some (dt (TD T0)))(hq:S[q]?=some (dt (HD keys eF))) :
  ∃(sts:List (Str×Str)) (T:List Str) (row:Str->aI.Row) (al:List (Nat×Str)),ir S [.tp [.lc p,.lc q]]=some (.ok (.tp [.tp [.lc (S.length+3),.lc S.length],.lc (S.length+2)]) (S++[dt (HD keys row),dt (AL al),dt (.list (sts.map stH)),dt (TD T)]))/\Hs T0 eF sts T row/\∀t∈T,∀u∈T,(row t).below.length=(row u).below.length->t=u:=by
 have lp:=c9 hp;have lq:=c9 hq;have tl0:=h0.tl;obtain⟨al,sts,T,row,y4,y5,y6,y7,lo,A⟩:=FZ hc h0 f0 (B:=S) (pile:=.tp [.lc p,.lc q]) (by simp[blV,o8];omega) hp T0 [] [] T0 eF none none none none rfl ⟨.nil,List.nodup_nil,(λq hq=>by cases hq),λt ht=>ht,λt ht=>.inr ht,h0.tn⟩
 obtain⟨hB,_⟩:=A.hs.inv h0 f0;refine⟨sts,T,row,al,?_,A.hs,λt ht u hu e=>?_⟩
 ·refine vd (t':=fh (.tp [.lc p,.lc q]) S.length y4 y5 y6 y7) rfl ?_ (by simp[blV,o8])
  refine aT (s':=⟨S++[dt (HD keys eF)],[some (.tp [.lc p,.lc q]),some (.lc S.length),none,none,none,none,none,none]⟩) (cN (i:=1) (s':=⟨S++[dt (HD keys eF)],[some (.tp [.lc p,.lc q]),none,none,none,none,none,none,none]⟩) (lh (dC (rs:=[(HD keys eF,.fz)]) (res:=(HD keys eF,true)) (aB (ao (mf (bJ rfl (fZ hp hq)))) aR) rfl) (nE keys eF)) (by simp)) ?_
  refine aT (s':=⟨S++[dt (HD keys eF),dt (AL [])],[some (.tp [.lc p,.lc q]),some (.lc S.length),some (.lc (S.length+1)),none,none,none,none,none]⟩) (cN (i:=2) (xn (k:=1) (d:=.dict []) rfl rfl rfl) (by simp)) ?_
  refine aT (s':=⟨Sa S keys eF [] [],fh (.tp [.lc p,.lc q]) S.length none none none none⟩) ((cN (i:=3) GZ (by simp)).trans (by dsimp only;rw[IU,zaD];rfl)) ?_
  refine aT (s':=⟨Sa S keys row al sts,fh (.tp [.lc p,.lc q]) S.length y4 y5 y6 y7⟩) (xm (ds:=T0.map .str) (s1:=⟨Sa S keys eF [] [],fh (.tp [.lc p,.lc q]) S.length none none none none⟩) (dN (aH rfl) g8 rfl) (fY hp) (by dsimp only;rw[show(Sa S keys eF [] []).length=S.length+3 by simp];exact lo)) ?_
  have dm:([("held",1)]:List (Str×Nat)).map (λz=>bI (vw ⟨Sa S keys row al sts,fh (.tp [.lc p,.lc q]) S.length y4 y5 y6 y7⟩) z.2)=[.fz (HD keys row)]:=by
   show [bI (vw ⟨Sa S keys row al sts,fh (.tp [.lc p,.lc q]) S.length y4 y5 y6 y7⟩) 1]=_;unfold bI;rw[bJ (d:=HD keys row) rfl (cP ap0)]
  have eT:=A.hs.aj h0.tn λt ht=>(h0.tk t ht).2
  have cmp:mLC [("held",1)] (o7 (mOp gIx (ah 0) (mC (.int 0)))) kP kQ (vw ⟨Sa S keys row al sts,fh (.tp [.lc p,.lc q]) S.length y4 y5 y6 y7⟩)=some ((TD T,.new),vw ⟨Sa S keys row al sts,fh (.tp [.lc p,.lc q]) S.length y4 y5 y6 y7⟩):=by
   refine wj (ya (ao (oY (aj:=T0) (keys:=keys) (row:=eF) (bJ rfl (fZ (fY hp) (fY hq)))))) ?_ (by rw[zal];have:=hB.tl;omega)
   rw[dm,eT];exact fX (p:=λn=>(row n).above.isNone) T0 (λn hn=>⟨_,test_ev (k:=.fz) (bP (r:=(.none,.fz)) (res:=(.bool (row n).above.isNone,false)) (ao (ox (dr (i:=1) (.inl rfl) (h0.tk n hn).1 (av rfl)))) (ao rfl) (DB _))⟩) λn hn=>⟨_,ao (av rfl)⟩
  exact lR (jT (xs:=[.tp [.lc (S.length+3),.lc S.length],.lc (S.length+2)]) (aW (jT (xs:=[.lc (S.length+3),.lc S.length]) (aW (xn (k:=3) cmp (nF _) rfl) (aW (aH rfl) dj)) rfl (by simp)) (aW (aH rfl) dj)) rfl (by simp))
 ·rcases A.cov t ht with⟨q1,hq1,rfl⟩|h
  ·rcases A.cov u hu with⟨q2,hq2,rfl⟩|h
   ·rw[(A.ae q1 hq1).2.1,(A.ae q2 hq2).2.1]at e
    rw[vg A.nk hq1 hq2 e]
   ·cases h
  ·cases h
def bw(keys:List Str)(n:Str):List Str:=keys.filter λx=>!decide (x=n)
theorem cE{n m:Str}:m∈bw keys n↔m∈keys/\m≠n:=by
 unfold bw;rw[List.mem_filter];simp
def free(row:Str->aI.Row)(l:List Str):Str->aI.Row:=λm=>if m∈l then⟨(row m).key,none,false,(row m).below⟩else row m
theorem i8{l:List Str}{m:Str}(h:m∈l):free row l m=⟨(row m).key,none,false,(row m).below⟩:=if_pos h
theorem dX{l:List Str}{m:Str}(h:m∉l):free row l m=row m:=if_neg h
theorem i9(l:List Str)(m:Str):(free row l m).key=(row m).key/\(free row l m).below=(row m).below:=by
 by_cases h:m∈l
 ·rw[i8 h];exact⟨rfl,rfl⟩
 ·rw[dX h];exact⟨rfl,rfl⟩
theorem sZ(l:List Str)(b:Str):free row (l++[b])=aY (free row l) b ⟨(free row l b).key,none,false,(free row l b).below⟩:=by
 funext m
 by_cases e:m=b
 ·subst e
  rw[aU,i8 (by simp),(i9 l m).1,(i9 l m).2]
 ·rw[aG _ _ e]
  by_cases h:m∈l
  ·rw[i8 h,i8 (zaW _ h)]
  ·rw[dX h,dX λz=>(zae z).elim h λw=>e (zad w)]
theorem tf{row:Str->aI.Row}(n:Str):∀keys:List Str,oT (cb keys row) (.inr n)=cb (bw keys n) row
 | []=>rfl
 |m::l=>by
  have ih:=tf (row:=row) n l;unfold oT cb bw at ih⊢;rw[zaz,List.filter_cons,List.filter_cons];have e:(decide (keyOf (PyData.str m)≠some (Sum.inr n)))= !decide (m=n):=by
   by_cases z:m=n
   ·subst z;rw[zaH rfl];exact zaO λw=>w rfl
   ·rw[zaO z]
    refine zaH λw=>z ?_
    have w':some (Sum.inr m:Key)=some (Sum.inr n):=w;injection w' with w;injection w
  dsimp only;rw[e];split
  ·rw[zaz,ih]
  ·exact ih
theorem qU(h:Bk c aj keys row)(f:Fm keys row){n:Str}(hn:n∈aj):Bk c (bw aj n++(row n).below) (bw keys n) (free row (row n).below)/\Fm (bw keys n) (free row (row n).below)/\mk (bw keys n) (free row (row n).below)<=mk keys row:=by
 have hk:=(h.tk n hn).1;have bu:=f.up n hk;have bn:∀b∈(row n).below,b≠n/\b∉aj:=λb hb=>by
  have q:=(bu b hb).2;refine⟨λe=>?_,λz=>?_⟩
  ·rw[e,(h.tk n hn).2]at q;cases q
  ·rw[(h.tk b z).2]at q;cases q
 have ab:∀m,m∈bw keys n->∀a,(free row (row n).below m).above=some a->m∉(row n).below/\(row m).above=some a/\a≠n:=λm hm a e=>by
  by_cases z:m∈(row n).below
  ·rw[i8 z]at e;cases e
  ·rw[dX z]at e
   refine⟨z,e,λw=>z ?_⟩
   subst w;exact f.dn m (cE.mp hm).1 a e
 have un:∀m,m∈bw keys n->∀b∈(row m).below,b∈bw keys n/\b∉(row n).below/\(row b).above=some m:=λm hm b hb=>by
  obtain⟨m1,m2⟩:=cE.mp hm;obtain⟨u1,u2⟩:=f.up m m1 b hb;refine⟨cE.mpr ⟨u1,λe=>?_⟩,λz=>?_,u2⟩
  ·rw[e,(h.tk n hn).2]at u2;cases u2
  ·rw[(bu b z).2]at u2;cases u2;exact m2 rfl
 have hb:Bt (λm=>(row m).key) c (bw aj n++(row n).below) (bw keys n) (free row (row n).below):=by
  refine⟨h.nd.sublist List.filter_sublist,λm hm=>h.nm m (cE.mp hm).1,?_,λt ht=>?_,λm hm e=>?_,λm hm e=>?_,λm hm a e=>?_,λm hm=>?_,λm hm a e=>?_⟩
  ·rw[List.nodup_append]
   exact⟨h.tn.sublist List.filter_sublist,f.nd n hk,λx hx y hy e=>(bn y hy).2 (e▸(cE.mp hx).1)⟩
  ·rcases zae ht with ht|ht
   ·obtain⟨t1,t2⟩:=cE.mp ht
    rw[dX λz=>(bn t z).2 t1]
    exact⟨cE.mpr ⟨(h.tk t t1).1,t2⟩,(h.tk t t1).2⟩
   ·rw[i8 ht];exact⟨cE.mpr ⟨(bu t ht).1,(bn t ht).1⟩,rfl⟩
  ·by_cases z:m∈(row n).below
   ·exact zan _ z
   ·rw[dX z]at e
    exact zaW _ (cE.mpr ⟨h.ne m (cE.mp hm).1 e,(cE.mp hm).2⟩)
  ·by_cases z:m∈(row n).below
   ·rw[i8 z]at e;cases e
   ·rw[dX z]at e⊢;exact h.mkd m (cE.mp hm).1 e
  ·obtain⟨a1,a2,a3⟩:=ab m hm a e
   exact cE.mpr ⟨h.ab m (cE.mp hm).1 a a2,a3⟩
  ·rw[(i9 _ m).2]
   exact⟨(h.bl m (cE.mp hm).1).1,λb hb=>(un m hm b hb).1⟩
  ·exact h.ho m (cE.mp hm).1 a (ab m hm a e).2.1
 refine⟨hb.re λm _=>(i9 _ m).1.symm,⟨λm hm=>?_,λm hm b hb=>?_,λm hm a e=>?_,λm hm i b e=>?_⟩,?_⟩
 ·rw[(i9 _ m).2];exact f.nd m (cE.mp hm).1
 ·rw[(i9 _ m).2]at hb
  obtain⟨u1,u2,u3⟩:=un m hm b hb;rw[dX u2];exact⟨u1,u3⟩
 ·obtain⟨a1,a2,a3⟩:=ab m hm a e
  rw[(i9 _ a).2];exact f.dn m (cE.mp hm).1 a a2
 ·rw[(i9 _ m).2]at e
  obtain⟨u1,u2,u3⟩:=un m hm b (zaj e);rw[dX u2];exact f.dg m (cE.mp hm).1 i b e
 ·unfold mk bw
  rw[List.filter_filter,<-List.countP_eq_length_filter,<-List.countP_eq_length_filter];refine List.countP_mono_left λm _ e=>?_
  rw[Bool.and_eq_true]at e
  by_cases z:m∈(row n).below
  ·rw[i8 z]at e;cases e.1
  ·rw[dX z]at e;exact e.1
def stF(b:Str):D:=.tuple [.str "free",.str b]
theorem qV{α:Type}{f : α->D}(h:∀x,eg (f x)=true)(l:List α):eW (.list (l.map f)) true=true:=by
 show bq (l.map f)=true
 induction l with
 |nil=>rfl
 |cons x l ih=>simp only[List.map_cons,bq,ih,Bool.and_true];exact h x
abbrev St(B:List (Option Cl))(keys:List Str)(row:Str->aI.Row)(ts:List Str)(sts:List Str):List (Option Cl):=B++[dt (HD keys row),dt (TD ts),dt (.list (sts.map stF))]
abbrev ft(pile nm:SV)(N:Nat)(x3:SV)(x6 x7:Option SV):List (Option SV):=[some pile,some nm,some (.lc N),some x3,some (.lc (N+1)),some (.lc (N+2)),x6,x7]
theorem Ba{B:List (Option Cl)}{pile nm x3:SV}(hpl:blV (B.length+3) pile=true)(hnm:blV (B.length+3) nm=true)(h3:blV (B.length+3) x3=true)(hk:keys.length<=1000){ts:List Str}(hts:ts.length<=1000){row:Str->aI.Row}:∀(l pre:List Str) (x6:Option SV),(∀b∈l,b∈keys)->pre.length+l.length<=1000->
  ∃x6',gN (B.length+3) [0,1,2,3,4,5,7] (λ_=>True) (ngN 6) m5 ((l.map PyData.str).map .pl) ⟨St B keys (free row pre) (ts++pre) pre,ft pile nm B.length x3 x6 none⟩=some (.nx ⟨St B keys (free row (pre++l)) (ts++(pre++l)) (pre++l),ft pile nm B.length x3 x6' none⟩):=by
 intro l
 induction l with
 |nil=>intro pre x6 _ _;rw[zaR];exact⟨x6,xl⟩
 |cons b l ih=>
  intro pre x6 hl hz;rw[zaw]at hz;have hb:=hl b zas;obtain⟨x6',h1⟩:=ih (pre++[b]) (some (.pl (.str b))) (λy hy=>hl y (zak _ hy)) (by rw[zau,za7];omega)
  rw[zaD]at h1;refine⟨x6',sX (s1:=⟨St B keys (free row pre) (ts++pre) pre,ft pile nm B.length x3 (some (.pl (.str b))) none⟩) (s2:=⟨St B keys (free row (pre++[b])) (ts++(pre++[b])) (pre++[b]),ft pile nm B.length x3 (some (.pl (.str b))) none⟩) (vc (by simp)) ?_ (ll (by simp) (by simp[lX,hpl,hnm,h3,blV])) h1⟩
  refine aT (s':=⟨St B keys (free row (pre++[b])) (ts++pre) pre,ft pile nm B.length x3 (some (.pl (.str b))) none⟩) ((pL (r:=⟨(free row pre b).key,none,false,(free row pre b).below⟩) (ny (dB (rs:=[(bB (free row pre b),.fz)]) (aB (ao (dr (.inl (bJ rfl (cP ap0))) hb (av (d6 rfl)))) aR) (A9 _) (jA _)) (jA _)) (aH rfl) (aH rfl) ap0 hk).trans (by rw[gD hb,IS,sZ])) ?_
  refine aT (s':=⟨St B keys (free row (pre++[b])) (ts++(pre++[b])) pre,ft pile nm B.length x3 (some (.pl (.str b))) none⟩) ((eY (nD (aH rfl) (apk (k:=1) rfl) (aW (aH rfl) dj) (apk (k:=1) rfl) (by rw[zal,zau];omega))).trans (by dsimp only;rw[IV,k9,zaD])) ?_
  refine(eY (nD (aH rfl) (apk (k:=2) rfl) (aW (nC (xs:=[.pl (.str "free"),.pl (.str b)]) (aW g8 (aW (aH rfl) dj)) rfl (by simp)) dj) (apk (k:=2) rfl) (by rw[zal];omega))).trans ?_
  dsimp only;rw[Kh];show _=some (iV.nx ⟨B++[_,_,dt (.list ((pre++[b]).map stF))],_⟩);rw[za1];rfl
theorem qW:∀a b:List D,bq (a++b)=(bq a&&bq b)
 | [],b=>by simp[bq]
 |x::a,b=>by simp only[List.cons_append,bq,qW a b,Bool.and_assoc]
theorem xo{a:EN}{m:MN (List SV)}{s s1 s2:SS}{k:Nat}{n:Str}(h:a s=some (.ok (.lc k) s1))(h0:s1.S[k]?=some (dt (HD keys row)))(h1:m s1=some (.ok [.pl (.str n)] s2))(h2:s2.S[k]?=some (dt (HD keys row)))(hn:n∈keys):oU a m s=some (.ok (.pl (bB (row n))) ⟨s2.S.set k (dt (HD (bw keys n) row)),s2.t⟩):=by
 unfold oU;rw[eE h];simp only[zM,h0,if_true];rw[eE h1];unfold zL;dsimp only[keyOf,Option.bind_some];rw[h2];dsimp only;rw[iE,if_pos hn,tf];rfl
def vh(fs:List Str)(hs:List (Str×Str)):List D:=fs.map stF++hs.map stH
theorem F1(hc:c<=200)(h:Bk c aj keys row)(f:Fm keys row){n:Str}(hn:n∈aj){S:List (Option Cl)}{p q:Nat}(hp:S[p]?=some (dt (TD aj)))(hq:S[q]?=some (dt (HD keys row))) :
  ∃(sts:List (Str×Str)) (T:List Str) (aK:Str->aI.Row) (X:List (Option Cl)),jQ S [.tp [.lc p,.lc q],.pl (.str n)]=some (.ok (.tp [.pl (.int (row n).key),.tp [.lc (S.length+6),.lc (S.length+3)],.lc (S.length+7)]) (S++X))/\(S++X)[S.length+6]?=some (dt (TD T))/\(S++X)[S.length+3]?=some (dt (HD (bw keys n) aK))/\(S++X)[S.length+7]?=some (dt (.list (vh (row n).below sts)))/\Hs (bw aj n++(row n).below) (free row (row n).below) sts T aK/\∀t∈T,∀u∈T,(aK t).below.length=(aK u).below.length->t=u:=by
 have lp:=c9 hp;have lq:=c9 hq;have kl:=h.kl;have tl:=h.tl;have hk:=(h.tk n hn).1;have bb:=h.bl n hk;have ol:(bw aj n).length<=aj.length:=zaY _ _;have okl:(bw keys n).length<=keys.length:=zaY _ _;have rp:∀X:List (Option Cl),rdV (S++X) (.tp [.lc p,.lc q])=some (PD aj keys row):=λX=>fZ (fY hp) (fY hq)
 obtain⟨hB',hF',_⟩:=qU h f hn;have bo:∀b∈(row n).below,b∈bw keys n:=λb hb=>(hB'.tk b (zan _ hb)).1
 obtain⟨x6,fl⟩:=Ba (keys:=bw keys n) (B:=S) (pile:=.tp [.lc p,.lc q]) (nm:=.pl (.str n)) (x3:=.pl (bB (row n))) (by simp[blV,o8];omega) rfl rfl (by omega) (ts:=bw aj n) (by omega) (row:=row) (row n).below [] none bo (by simp;omega)
 rw[List.nil_append,zaR,show free row []=row from funext λm=>dX (by simp)]at fl
 obtain⟨sts,T,aK,al,e1,e2,e3⟩:=DN hc hB' hF' (S:=St S (bw keys n) (free row (row n).below) (bw aj n++(row n).below) (row n).below) (p:=S.length+1) (q:=S.length) (apk (k:=1) rfl) ap0;rw[show(St S (bw keys n) (free row (row n).below) (bw aj n++(row n).below) (row n).below).length=S.length+3 by simp,zaD]at e1
 have sl:=e2.len;rw[zau]at sl;have cmp:mLC [("name",1)] (o7 (mOp gIx (ah 0) (mC (.int 0)))) ng nh (vw ⟨S++[dt (HD (bw keys n) row)],[some (.tp [.lc p,.lc q]),some (.pl (.str n)),some (.lc S.length),some (.pl (bB (row n))),none,none,none,none]⟩)=some ((TD (bw aj n),.new),vw ⟨S++[dt (HD (bw keys n) row)],[some (.tp [.lc p,.lc q]),some (.pl (.str n)),some (.lc S.length),some (.pl (bB (row n))),none,none,none,none]⟩):=by
  refine wj (ya (ao (oY (aj:=aj) (keys:=keys) (row:=row) (bJ rfl (rp _))))) ?_ (by rw[zal];omega)
  have dm:([("name",1)]:List (Str×Nat)).map (λz=>bI (vw ⟨S++[dt (HD (bw keys n) row)],[some (.tp [.lc p,.lc q]),some (.pl (.str n)),some (.lc S.length),some (.pl (bB (row n))),none,none,none,none]⟩) z.2)=[.fz (.str n)]:=by
   show [bI (vw _) 1]=_;unfold bI;rw[d6 (d:=.str n) rfl]
  rw[dm];exact fX (p:=λx=>!decide (x=n)) aj (λx hx=>⟨_,test_ev (k:=.fz) (bP (r:=(.str n,.fz)) (res:=(.bool (!decide (x=n)),false)) (ao (av rfl)) (ao (av rfl)) (pH (h.ok (h.tk x hx).1) (h.ok hk)))⟩) λx hx=>⟨_,ao (av rfl)⟩
 refine⟨sts,T,aK,[dt (HD (bw keys n) (free row (row n).below)),dt (TD (bw aj n++(row n).below)),dt (.list ((row n).below.map stF)),dt (HD (bw keys n) aK),dt (AL al),dt (.list (sts.map stH)),dt (TD T),dt (.list (vh (row n).below sts))],?_,apk (k:=6) rfl,apk (k:=3) rfl,apk (k:=7) rfl,e2,e3⟩;refine vd (t':=ft (.tp [.lc p,.lc q]) (.pl (.str n)) S.length (.pl (bB (row n))) x6 (some (.tp [.tp [.lc (S.length+6),.lc (S.length+3)],.lc (S.length+5)]))) rfl ?_ (by simp[blV,o8])
 refine aT (s':=⟨S++[dt (HD keys row)],[some (.tp [.lc p,.lc q]),some (.pl (.str n)),some (.lc S.length),none,none,none,none,none]⟩) (cN (i:=2) (s':=⟨S++[dt (HD keys row)],[some (.tp [.lc p,.lc q]),some (.pl (.str n)),none,none,none,none,none,none]⟩) (lh (dC (rs:=[(HD keys row,.fz)]) (res:=(HD keys row,true)) (aB (ao (mf (bJ rfl (fZ hp hq)))) aR) rfl) (nE keys row)) (by simp)) ?_
 refine aT (s':=⟨S++[dt (HD (bw keys n) row)],[some (.tp [.lc p,.lc q]),some (.pl (.str n)),some (.lc S.length),some (.pl (bB (row n))),none,none,none,none]⟩) ((cN (i:=3) (xo (aH rfl) ap0 (aW (aH rfl) dj) ap0 hk) (by simp)).trans (by dsimp only;rw[IS];rfl)) ?_
 refine aT (s':=⟨S++[dt (HD (bw keys n) row),dt (TD (bw aj n))],[some (.tp [.lc p,.lc q]),some (.pl (.str n)),some (.lc S.length),some (.pl (bB (row n))),some (.lc (S.length+1)),none,none,none]⟩) (cN (i:=4) (xn (k:=1) cmp (nF _) rfl) (by simp)) ?_
 refine aT (s':=⟨St S (bw keys n) row (bw aj n) [],ft (.tp [.lc p,.lc q]) (.pl (.str n)) S.length (.pl (bB (row n))) none none⟩) ((cN (i:=5) GZ (by simp)).trans (by dsimp only;rw[IU,zaD];rfl)) ?_
 refine aT (s':=⟨St S (bw keys n) (free row (row n).below) (bw aj n++(row n).below) (row n).below,ft (.tp [.lc p,.lc q]) (.pl (.str n)) S.length (.pl (bB (row n))) x6 none⟩) (zY (ds:=(row n).below.map .str) (uZ (ao (gq (av (DJ rfl))))) (by dsimp only;rw[show(St S (bw keys n) row (bw aj n) []).length=S.length+3 by simp];exact fl)) ?_
 refine aT (s':=⟨S++[dt (HD (bw keys n) (free row (row n).below)),dt (TD (bw aj n++(row n).below)),dt (.list ((row n).below.map stF)),dt (HD (bw keys n) aK),dt (AL al),dt (.list (sts.map stH)),dt (TD T)],ft (.tp [.lc p,.lc q]) (.pl (.str n)) S.length (.pl (bB (row n))) x6 (some (.tp [.tp [.lc (S.length+6),.lc (S.length+3)],.lc (S.length+5)]))⟩) (cN (i:=7) (jz (aW (jT (xs:=[.lc (S.length+1),.lc S.length]) (aW (aH rfl) (aW (aH rfl) dj)) rfl (by simp)) dj) e1) (by simp)) ?_
 have rh:rdV (S++[dt (HD (bw keys n) (free row (row n).below)),dt (TD (bw aj n++(row n).below)),dt (.list ((row n).below.map stF)),dt (HD (bw keys n) aK),dt (AL al),dt (.list (sts.map stH)),dt (TD T)]) (.tp [.tp [.lc (S.length+6),.lc (S.length+3)],.lc (S.length+5)])=some (.tuple [PD T (bw keys n) aK,.list (sts.map stH)]):=by
  simp only[rdV,rB,apk (k:=6) (show([dt (HD (bw keys n) (free row (row n).below)),dt (TD (bw aj n++(row n).below)),dt (.list ((row n).below.map stF)),dt (HD (bw keys n) aK),dt (AL al),dt (.list (sts.map stH)),dt (TD T)]:List (Option Cl))[6]?=some (dt (TD T))from rfl),apk (k:=3) (show([dt (HD (bw keys n) (free row (row n).below)),dt (TD (bw aj n++(row n).below)),dt (.list ((row n).below.map stF)),dt (HD (bw keys n) aK),dt (AL al),dt (.list (sts.map stH)),dt (TD T)]:List (Option Cl))[3]?=some (dt (HD (bw keys n) aK))from rfl),apk (k:=5) (show([dt (HD (bw keys n) (free row (row n).below)),dt (TD (bw aj n++(row n).below)),dt (.list ((row n).below.map stF)),dt (HD (bw keys n) aK),dt (AL al),dt (.list (sts.map stH)),dt (TD T)]:List (Option Cl))[5]?=some (dt (.list (sts.map stH)))from rfl),zai,zaT]
 refine lR (jT (xs:=[.pl (.int (row n).key),.tp [.lc (S.length+6),.lc (S.length+3)],.lc (S.length+7)]) (aW (dN (aH rfl) g8 rfl) (aW (dN (aH rfl) g8 rfl) (aW (xn (k:=7) (bP (r:=(.list (sts.map stH),.fz)) (res:=(.list (vh (row n).below sts),true)) (ao (av (bJ rfl (cP (apk (k:=2) rfl))))) (ao (bP (r:=(.int 1,.fz)) (res:=(.list (sts.map stH),false)) (ao (av (bJ rfl rh))) (ao rfl) rfl)) (Ay _ _ (by simp only[List.length_map];omega))) ?_ rfl) dj))) rfl (by simp))
 show bq (vh (row n).below sts)=true;unfold vh;rw[qW,show bq ((row n).below.map stF)=true from qV (λx=>rfl) _,show bq (sts.map stH)=true from qV (λx=>rfl) _];rfl
theorem oA{S:List (Option Cl)}{i j:Nat}{x y:D}(h1:S[i]?=some (dt x))(h2:S[j]?=some (dt y))(ne:x≠y):i≠j:=λe=>by
 subst e;rw[h1]at h2;cases h2;exact ne rfl
theorem Bb(l:List Str):(l.map PyData.str).all iM=true:=by
 rw[List.all_map,List.all_eq_true];exact λ_ _=>rfl
theorem qX{x:Str}{l:List Str}(h:x∈l):mW (.str x) (TD l)=some (.bool false,false):=by
 show(if iM (.str x)=true/\(l.map PyData.str).all iM=true then some (PyData.bool (!(l.map PyData.str).any λc=>PyData.eqv c (.str x)),false)else none)=_
 rw[if_pos ⟨rfl,Bb l⟩,List.any_map,List.any_eq_true.mpr ⟨x,h,by simp[PyData.eqv]⟩];rfl
theorem DO(x y:Str)(hx:PyData.strOk x=true)(hy:PyData.strOk y=true):gEq (.str x) (.str y)=some (.bool (x==y),false):=by
 unfold gEq;rw[if_pos ⟨iA hx,iA hy⟩];simp only[PyData.eqv]
theorem F2{T:List Str}{x y:Str}(hT:∀t∈T,t∈keys)(ok:∀t∈keys,PyData.strOk t=true)(hx:x∈T)(hy:y∈T)(ne:y≠x)(lt:a0 (row y).key y (row x).key x=true)(ed:(row x).below.length=(row y).below.length):eN [TD T,HD keys row,stH (x,y)]=some (.bool true,false):=by
 have ixn:∀(k:Nat) (d:D),[PyData.str "hang",.str x,.str y][k]?=some d->mOp gIx (ah 2) (mC (.int (k:Int))) [.fz (TD T),.fz (HD keys row),.fz (stH (x,y))]=some ((d,.fz),[.fz (TD T),.fz (HD keys row),.fz (stH (x,y))]):=λk d h=>
  bP (r:=(.int (k:Int),.fz)) (res:=(d,false)) (ao (av rfl)) (ao rfl) (by
   match k,h with
   |0,h=>cases h;rfl
   |1,h=>cases h;rfl
   |2,h=>cases h;rfl
   |n+3,h=>cases h)
 have i1:=ixn 1 _ rfl;have i2:=ixn 2 _ rfl;have lb:∀(k:Nat) (z:Str),z∈keys->mOp gIx (ah 2) (mC (.int (k:Int))) [.fz (TD T),.fz (HD keys row),.fz (stH (x,y))]=some ((.str z,.fz),[.fz (TD T),.fz (HD keys row),.fz (stH (x,y))])->IE (mCB cH (ak (mOp gIx (mOp eu (ah 1) (mOp gIx (ah 2) (mC (.int (k:Int))))) (mC (.int 3))) aF)) [.fz (TD T),.fz (HD keys row),.fz (stH (x,y))] ((row z).below.length:Int):=λk z hz h=>
  dC (rs:=[(.tuple ((row z).below.map .str),.fz)]) (res:=(.int ((row z).below.length:Int),false)) (aB (ao (gq (dr (.inl rfl) hz h))) aR) (by show some (PyData.int (((row z).below.map PyData.str).length:Int),false)=_;rw[zal])
 have b0:PyData.strOk "hang"=true:=by decide+kernel
 refine fE (o:=.rt (.bool true,.fz) [.fz (TD T),.fz (HD keys row),.fz (stH (x,y))]) rfl ?_ rfl;refine aX (jK (jd (fM (test_ev (k:=.fz) (v:=true) (kG (ao (av rfl)) (dU _)))) (jd (ig (oN (dC (rs:=[(stH (x,y),.fz)]) (res:=(.int 3,false)) (aB (ao (av rfl)) aR) rfl) cS) rfl) (jd (test_ev (k:=.fz) (v:=false) (bP (r:=(.str "hang",.fz)) (res:=(.bool false,false)) (ao (ixn 0 _ rfl)) (ao rfl) (by rw[pH b0 b0];simp))) (test_ev (k:=.fz) (v:=false) (bP (r:=(.str y,.fz)) (res:=(.bool false,false)) (ao i1) (ao i2) (by rw[DO _ _ (ok x (hT x hx)) (ok y (hT y hy))];simp;exact λe=>ne e.symm)))))) rfl) ?_
 refine aX (jK (jd (test_ev (k:=.fz) (v:=false) (bP (r:=(TD T,.fz)) (res:=(.bool false,false)) (ao i1) (ao (av rfl)) (qX hx))) (jd (test_ev (k:=.fz) (v:=false) (bP (r:=(TD T,.fz)) (res:=(.bool false,false)) (ao i2) (ao (av rfl)) (qX hy))) (fM (v:=true) ((lG (rs:=[(HD keys row,.fz),(.str y,.fz),(.str x,.fz)]) (aB (ao (av rfl)) (aB (ao i2) (aB (ao i1) aR))) (by rw[<-lt];exact sO keys row y x (hT y hy) (hT x hx))).t)))) rfl) ?_
 exact dJ ((qk (lb 1 x (hT x hx) i1) (lb 2 y (hT y hy) i2)).is (zaH (by rw[ed])))
theorem iR{α:Type}{S:List α}{i x:Nat}{u : α}(h:x≠i):(S.set i u)[x]?=S[x]?:=zaA λe=>h e.symm
def Wk(W:List (Option Cl))(i j:Nat)(T keys:List Str)(row:Str->aI.Row):List (Option Cl):=(W.set i (dt (TD T))).set j (dt (HD keys row))
structure Wx(W:List (Option Cl))(i j:Nat):Prop where
 li:i<W.length
 lj:j<W.length
 ij:i≠j
section
variable{W:List (Option Cl)}{i j:Nat}{T T' keys':List Str}{aK:Str->aI.Row}
theorem Wx.gi(h:Wx W i j):(Wk W i j T keys row)[i]?=some (dt (TD T)):=by unfold Wk;rw[iR h.ij];exact zav h.li
theorem Wx.gj(h:Wx W i j):(Wk W i j T keys row)[j]?=some (dt (HD keys row)):=by unfold Wk;exact zav (by rw[zaM];exact h.lj)
theorem Wx.si(h:Wx W i j):(Wk W i j T keys row).set i (dt (TD T'))=Wk W i j T' keys row:=by
 unfold Wk;rw[List.set_comm _ _ (λe=>h.ij e.symm),List.set_set]
theorem Wx.sj:(Wk W i j T keys row).set j (dt (HD keys' aK))=Wk W i j T keys' aK:=by
 unfold Wk;rw[List.set_set]
theorem Wx.go{x:Nat}(e1:x≠i)(e2:x≠j):(Wk W i j T keys row)[x]?=W[x]?:=by
 unfold Wk;rw[iR e2,iR e1]
theorem Wx.len:(Wk W i j T keys row).length=W.length:=by unfold Wk;simp
theorem Wx.app(h:Wx W i j)(c:Option Cl):Wk W i j T keys row++[c]=Wk (W++[c]) i j T keys row:=by
 unfold Wk;rw[List.set_append_left _ _ h.li,List.set_append_left _ _ (by rw[zaM];exact h.lj)]
theorem Wx.more(h:Wx W i j)(c:Option Cl):Wx (W++[c]) i j:=⟨by rw[IT];exact Nat.lt_succ_of_lt h.li,by rw[IT];exact Nat.lt_succ_of_lt h.lj,h.ij⟩
theorem Wk.self(hi:W[i]?=some (dt (TD T)))(hj:W[j]?=some (dt (HD keys row))):Wk W i j T keys row=W:=by
 unfold Wk;apply List.ext_getElem?;intro x
 by_cases e:x=j
 ·rw[e,hj];exact zav (by rw[zaM];exact c9 hj)
 ·rw[iR e]
  by_cases e2:x=i
  ·rw[e2,hi];exact zav (c9 hi)
  ·rw[iR e2]
end
theorem Bc{f:List D->Option ((D×Bool)×D×D)}{m:MN (List SV)}{s s1:SS}{i j:Nat}{ys:List SV}{ds:List D}{d0 e0 d1 e1:D}(h:m s=some (.ok (.lc i::.lc j::ys) s1))(hij:i≠j)(h1:iO ys=some ds)(hi:s1.S[i]?=some (dt d0))(hj:s1.S[j]?=some (dt e0))(hf:f (d0::e0::ds)=some ((.none,false),d1,e1)):uC f m s=some (.ok (.pl .none) ⟨(s1.S.set i (dt d1)).set j (dt e1),s1.t⟩):=by
 unfold uC;rw[eE h];simp only[if_neg hij,h1,hi,hj,Option.bind_some,hf,JG]
theorem F3{a:EN}{m:MN (List SV)}{s s1 s2:SS}{k:Nat}{n:Str}{T:List Str}(h:a s=some (.ok (.lc k) s1))(h0:s1.S[k]?=some (dt (TD T)))(h1:m s1=some (.ok [.pl (.str n)] s2))(h2:s2.S[k]?=some (dt (TD T)))(hn:n∈T):nMt lM a m s=some (.ok (.pl .none) ⟨s2.S.set k (dt (TD (T.erase n))),s2.t⟩):=by
 unfold nMt wB;rw[eE h];simp only[qp,h0,if_true];rw[eE h1];simp only[CH,iO,Option.bind_some,h2,Dr hn,Option.map_some]
abbrev wt(n:Str)(i j f:Nat)(B:D)(x5 x6 x7 x8 x9 x10:Option SV):List (Option SV):=[some (.lc i),some (.lc j),some (.pl (.str n)),some (.lc f),some (.pl B),x5,x6,x7,x8,x9,x10]
def lw(l:List (Option SV)):Prop:=∀m,lX m l=true
theorem DP{n:Str}{i j f N:Nat}{B:D}{x5 x6 x7 x8 x9 x10:Option SV}(hi:i<N)(hj:j<N)(hf:f<N)(h:lw [x5,x6,x7,x8,x9,x10]):lX N (wt n i j f B x5 x6 x7 x8 x9 x10)=true:=by
 have:=h N;simp only[lX,List.all_cons,List.all_nil,Bool.and_true,blV,decide_eq_true hi,decide_eq_true hj,decide_eq_true hf,Bool.true_and]at this⊢;exact this
theorem Ki{W:List (Option Cl)}{i j f:Nat}{n:Str}{B:D}{ts:List Str}(hx:Wx W i j)(hf:f<W.length)(hk:keys.length<=1000)(hts:ts.length<=1000){row:Str->aI.Row}:∀(l pre:List Str) (x6 x7 x8 x9 x10:Option SV),lw [x6,x7,x8,x9,x10,none]->(∀b∈l,b∈keys)->ts.length+pre.length+l.length<=1000->
  ∃y6 y7 y8 y9 y10,lw [y6,y7,y8,y9,y10,none]/\gN W.length [0,1,2,3,4,10] (λ_=>True) (ngN 5) kZ ((l.map PyData.str).map .pl) ⟨Wk W i j (ts++pre) keys (free row pre),wt n i j f B x6 x7 x8 x9 x10 none⟩=some (.nx ⟨Wk W i j (ts++(pre++l)) keys (free row (pre++l)),wt n i j f B y6 y7 y8 y9 y10 none⟩):=by
 intro l
 induction l with
 |nil=>intro pre x6 x7 x8 x9 x10 h _ _;rw[zaR];exact⟨x6,x7,x8,x9,x10,h,xl⟩
 |cons b l ih=>
  intro pre x6 x7 x8 x9 x10 h hl hz;rw[zaw]at hz;have hb:=hl b zas;have hlw:lw [some (.pl (.str b)),some (.pl (.int (free row pre b).key)),some (.pl (bg (free row pre b).above)),some (.pl (.bool (free row pre b).mark)),some (.pl (.tuple ((free row pre b).below.map .str))),none]:=λm=>rfl
  obtain⟨y6,y7,y8,y9,y10,hy,h1⟩:=ih (pre++[b]) _ _ _ _ _ hlw (λy hy=>hl y (zak _ hy)) (by rw[zau,za7];omega)
  rw[zaD pre]at h1;refine⟨y6,y7,y8,y9,y10,hy,sX (s1:=⟨Wk W i j (ts++pre) keys (free row pre),wt n i j f B (some (.pl (.str b))) x7 x8 x9 x10 none⟩) (vc (by simp)) ?_ (ll (by rw[Wx.len];exact zap _) (DP hx.li hx.lj hf hlw)) h1⟩
  refine aT (s':=⟨Wk W i j (ts++pre) keys (free row pre),wt n i j f B (some (.pl (.str b))) (some (.pl (.int (free row pre b).key))) (some (.pl (bg (free row pre b).above))) (some (.pl (.bool (free row pre b).mark))) (some (.pl (.tuple ((free row pre b).below.map .str)))) none⟩) ?_ ?_
  ·unfold dW
   rw[gT (ny (dr (.inl (bJ rfl (cP hx.gj))) hb (av (d6 rfl))) (jA _))];rfl
  refine aT (s':=⟨Wk W i j (ts++pre) keys (free row (pre++[b])),_⟩) ((pL (r:=⟨(free row pre b).key,none,false,(free row pre b).below⟩) (nC (xs:=[.pl (.int (free row pre b).key),.pl .none,.pl (.bool false),.pl (.tuple ((free row pre b).below.map .str))]) (aW (aH rfl) (aW g8 (aW g8 (aW (aH rfl) dj)))) rfl (by simp)) (aH rfl) (aH rfl) hx.gj hk).trans (by rw[gD hb,Wx.sj,sZ])) ?_
  refine(eY (nD (aH rfl) hx.gi (aW (aH rfl) dj) hx.gi (by rw[zal,zau];omega))).trans ?_
  dsimp only;rw[k9,hx.si,zaD]
theorem Kj(hc:c<=200){V:List (Option Cl)}{i j f k:Nat}{n:Str}{B:D}{ds:List D}{x6 x7 x8 x9 x10:Option SV}(hx:Wx V i j)(hf:f<V.length)(hk:V[k]?=some (dt (.list ds)))(k1:k≠i)(k2:k≠j){aj T':List Str}{row aK:Str->aI.Row}{r:List (Str×Str)}(hs:Hs aj row r T' aK):Bk c aj keys row->Fm keys row->∀x11,lw [x6,x7,x8,x9,x10,x11]->
  ∃y11,gN V.length [0,1,2,3,4,5,6,7,8,9] (stays (.lc k) (ds.map .pl)) (ngN 10) kX ((r.map stH).map .pl) ⟨Wk V i j aj keys row,wt n i j f B x6 x7 x8 x9 x10 x11⟩=some (.nx ⟨Wk V i j T' keys aK,wt n i j f B x6 x7 x8 x9 x10 y11⟩):=by
 have st:∀{T:List Str} {row:Str->aI.Row} {t:List (Option SV)},stays (.lc k) (ds.map .pl) ⟨Wk V i j T keys row,t⟩:=fun{T row t}=>qS ((Wx.go k1 k2).trans hk)
 induction hs with
 |nil=>exact λ_ _ x11 _=>⟨x11,sY st⟩
 | @cons T T' row aK x y r a b ne lt ed _ ih=>
  intro h fm x11 hl;obtain⟨h',f'⟩:=Bk.hang h fm a b ne lt ed;have kl:=h.kl;have hlw:lw [x6,x7,x8,x9,x10,some (.pl (stH (x,y)))]:=λm=>by
   have:=hl m;simp only[lX,List.all_cons,List.all_nil,Bool.and_true,Bool.and_eq_true]at this⊢;exact⟨this.1,this.2.1,this.2.2.1,this.2.2.2.1,this.2.2.2.2.1,rfl⟩
  obtain⟨y11,e⟩:=ih h' f' _ hlw;refine⟨y11,qR (s1:=⟨Wk V i j T keys row,wt n i j f B x6 x7 x8 x9 x10 (some (.pl (stH (x,y))))⟩) st (vc (by simp)) ?_ (ll (by rw[Wx.len];exact zap _) (DP hx.li hx.lj hf hlw)) e⟩
  refine aT (nv (gr (fM (v:=true) ((lG (rs:=[(TD T,.fz),(HD keys row,.fz),(stH (x,y),.fz)]) (aB (ao (av (bJ rfl (cP hx.gi)))) (aB (ao (av (bJ rfl (cP hx.gj)))) (aB (ao (av (d6 rfl))) aR))) (F2 (λt ht=>(h.tk t ht).1) (λt ht=>h.ok ht) a b ne lt ed)).t))) rfl) ?_
  refine(eY (Bc (aW (aH rfl) (aW (aH rfl) (aW (dN (aH rfl) g8 rfl) (aW (dN (aH rfl) g8 rfl) dj)))) hx.ij rfl hx.gi hx.gj (zT (h.tk x a).1 (h.tk y b).1 a (by omega) λm hm=>by have:=(h.bl m hm).1;omega))).trans ?_
  dsimp only;rw[hx.si,Wx.sj]
theorem IW(d:Nat):d<gd d:=by
 induction d with
 |zero=>decide
 |succ d ih=>rw[nu];have:=IJ (d-1);omega
theorem Bd(n:Nat):∀(k m fuel:Nat) (s4:Sl),NIo s4->n<m+k->k<fuel->∃d s4',n<gd (d+1)/\fI kU kW fuel [.fz (.int (n:Int)),.fz (.int (m:Int)),.fz (.int (gd m:Int)),.fz (.int (gd (m+1):Int)),s4]=some (.nx [.fz (.int (n:Int)),.fz (.int (d:Int)),.fz (.int (gd d:Int)),.fz (.int (gd (d+1):Int)),s4']):=by
 intro k
 induction k with
 |zero=>
  intro m fuel s4 n4 hm hf;obtain⟨fuel,rfl⟩:∃f,fuel=f+1:=⟨fuel-1,by omega⟩
  have:=IW (m+1);exact⟨m,s4,by omega,lE (ig (Cp (b8 rfl) (b8 rfl)) (zaO (by omega)))⟩
 |succ k ih=>
  intro m fuel s4 n4 hm hf;obtain⟨fuel,rfl⟩:∃f,fuel=f+1:=⟨fuel-1,by omega⟩
  by_cases hb:n<gd (m+1)
  ·exact⟨m,s4,hb,lE (ig (Cp (b8 rfl) (b8 rfl)) (zaO (by omega)))⟩
  ·obtain⟨d,s4',g,e⟩:=ih (m+1) fuel (.fz (.int (gd (m+2):Int))) (NIo.fz _) (by omega) (by omega)
   refine⟨d,s4',g,qd (ig (Cp (b8 rfl) (b8 rfl)) (zaH (by omega))) ?_ e⟩
   have ef:((gd m:Int)+(gd (m+1):Int))=(gd (m+2):Int):=by
    have:gd (m+2)=gd (m+1)+gd m:=nu (m+1);omega
   refine aX (ρ1:=[.fz (.int (n:Int)),.fz (.int (m:Int)),.fz (.int (gd m:Int)),.fz (.int (gd (m+1):Int)),.fz (.int (gd (m+2):Int))]) (KO ((jL (b8 rfl) (b8 rfl)).is ef) (iy (s:=s4) _ rfl n4)) ?_;refine aX (ρ1:=[.fz (.int (n:Int)),.fz (.int (m:Int)),.fz (.int (gd (m+1):Int)),.fz (.int (gd (m+1):Int)),.fz (.int (gd (m+2):Int))]) (dD (av rfl) rfl) ?_;refine aX (ρ1:=[.fz (.int (n:Int)),.fz (.int (m:Int)),.fz (.int (gd (m+1):Int)),.fz (.int (gd (m+2):Int)),.fz (.int (gd (m+2):Int))]) (dD (av rfl) rfl) ?_;rfl
theorem F4{n:Nat}(hn:n<=1000):∃d,n<gd (d+1)/\iw [.int (n:Int)]=some (.int (d:Int),false):=by
 obtain⟨d,s4',g,e⟩:=Bd n (n+1) 0 1000000 .no NIo.no (by omega) (by omega)
 refine⟨d,g,fE (o:=.rt (.int (d:Int),.fz) [.fz (.int (n:Int)),.fz (.int (d:Int)),.fz (.int (gd d:Int)),.fz (.int (gd (d+1):Int)),s4']) rfl ?_ rfl⟩;refine aX (ρ1:=[.fz (.int (n:Int)),.fz (.int 0),.no,.no,.no]) (dD rfl rfl) ?_;refine aX (ρ1:=[.fz (.int (n:Int)),.fz (.int 0),.fz (.int 1),.no,.no]) (dD rfl rfl) ?_;refine aX (ρ1:=[.fz (.int (n:Int)),.fz (.int 0),.fz (.int 1),.fz (.int 2),.no]) (dD rfl rfl) ?_;exact aX e (dJ (av rfl))
abbrev tp(l:List Str):D:=.tuple (l.map .str)
theorem yD{C:List (List Str)}(h:∀l∈C,∀x∈l,PyData.strOk x=true):PyData.canLayAll0 (C.map tp)=true/\PyData.depthAll (C.map tp)<=3/\PyData.eqvAll (C.map tp) (C.map tp)=true:=by
 induction C with
 |nil=>exact⟨rfl,by simp[PyData.depthAll],rfl⟩
 |cons x C ih=>
  obtain⟨h1,h2,h3⟩:=ih λy hy=>h y (zak _ hy)
  obtain⟨q1,q2⟩:=k7 (h x zas);refine⟨?_,?_,?_⟩
  ·simp only[List.map_cons,PyData.canLayAll0,PyData.canLay0,h1,q1,Bool.and_true]
  ·simp only[List.map_cons,PyData.depthAll,PyData.depth]
   omega
  ·simp only[List.map_cons,PyData.eqvAll,PyData.eqv,h3,gR,Bool.and_true,decide_true]
theorem F5{C:List (List Str)}(h:∀l∈C,∀x∈l,PyData.strOk x=true):gNe (.list (C.map tp)) (.list (C.map tp))=some (.bool false,false):=by
 obtain⟨h1,h2,h3⟩:=yD h;have hs:SeqAt.shaped (.list (C.map tp))=true:=by
  unfold SeqAt.shaped;rw[zaH (by simp only[PyData.depth];omega),Bool.and_true]
  simp only[PyData.canLay0,h1]
 unfold gNe;rw[if_pos ⟨hs,hs⟩];show some (PyData.bool (!PyData.eqvAll (C.map tp) (C.map tp)),false)=_;rw[h3];rfl
def stL(C B:List Str):List (List Str):=C.map (λx=>([("cut":Str),x]:List Str))++B.map λx=>([("free":Str),x]:List Str)
theorem IX(C B:List Str):(stL C B).map tp=C.map stp++B.map stF:=by
 unfold stL;rw[za1,List.map_map,List.map_map];rfl
theorem IY{C B:List Str}(h1:∀x∈C,PyData.strOk x=true)(h2:∀x∈B,PyData.strOk x=true):∀l∈stL C B,∀x∈l,PyData.strOk x=true:=λl hl x hx=>by
 have k1:PyData.strOk "cut"=true:=by decide+kernel
 have k2:PyData.strOk "free"=true:=by decide+kernel
 rcases zae (show l∈_++_ from hl)with hl|hl
 ·obtain⟨y,hy,rfl⟩:=List.mem_map.mp hl
  rcases zaf hx with rfl|hx
  ·exact k1
  ·rw[zad hx];exact h1 y hy
 ·obtain⟨y,hy,rfl⟩:=List.mem_map.mp hl
  rcases zaf hx with rfl|hx
  ·exact k2
  ·rw[zad hx];exact h2 y hy
theorem F6(A B:List D):cutD (A++B) none (some (A.length:Int))=A:=by
 unfold cutD;rw[HT.vK,HT.yU,zau,List.drop_zero,Nat.sub_zero,Nat.min_eq_left (by omega),List.take_left]
theorem F7(A B:List D):cutD (A++B) (some (A.length:Int)) none=B:=by
 unfold cutD;rw[HT.vK,HT.yU,zau,Nat.min_eq_left (by omega),List.drop_left,Nat.add_sub_cancel_left,List.take_length]
theorem oZ:∀(ns acc:List Int),(acc++ns).Nodup->ns.foldl PyProof.Rows.step_dedup acc=acc++ns
 | [],acc,_=>by simp
 |a::ns,acc,h=>by
  have hn:(acc.any (· ==a))=false:=by
   rw[List.any_eq_false];intro b hb z;have:b=a:=by simpa using z
   subst this;have:=(List.nodup_append.mp h).2.2 b hb b zas;exact this rfl
  have:PyProof.Rows.step_dedup acc a=acc++[a]:=by unfold PyProof.Rows.step_dedup;rw[hn];rfl
  rw[List.foldl_cons,this,oZ ns (acc++[a]) (by simpa using h)]
  simp
theorem yE{ns:List Int}(h:ns.Nodup):diff ns=ns.length:=by
 have e:(List.range ns.length).map (λi=>ns.getD i 0)=ns:=by
  apply List.ext_getElem
  ·simp
  ·intro i h1 h2
   simp at h1;simp[h1]
 unfold diff PyProof.Rows.firstMet;rw[e,oZ ns [] (by simpa using h),List.nil_append]
theorem tj:∀l:List Int,sF (l.map .int)=some l
 | []=>rfl
 |x::l=>by show(sF (l.map .int)).map (x::·)=_;rw[tj l];rfl
theorem iC{e:PM}{ρn:Rho}{g:Str->Int}:∀l:List Str,(∀x∈l,∃ρ,sv e (.fz (.str x)::ρn)=some ((.int (g x),.fz),ρ))->iY pZ e ρn (l.map .str)=some ((l.map g).map .int)
 | [],_=>rfl
 |x::l,h=>by
  have ih:=iC l λy hy=>h y (zak _ hy)
  obtain⟨ρ,e1⟩:=h x zas;show(sv e (.fz (.str x)::ρn)).bind _=_;rw[e1,zai];dsimp only[asF,Option.bind_some];rw[ih];rfl
theorem DQ{T:List Str}{s:SS}(h0:(vw s)[0]?=some (.fz (TD T)))(h1:(vw s)[1]?=some (.fz (HD keys row)))(hT:∀t∈T,t∈keys)(hl:T.length<=1000)(nd:T.Nodup)(hd:∀t∈T,∀u∈T,(row t).below.length=(row u).below.length->t=u):BE (mOp gEq (ot (mLC [("_law_held",1)] (o7 (ah 0)) pZ fT)) (mCB cH (ak (ah 0) aF))) (vw s) true:=by
 have e:mLC [("_law_held",1)] (o7 (ah 0)) pZ fT (vw s)=some ((.list ((T.map λt=>((row t).below.length:Int)).map .int),.new),vw s):=by
  refine wj (ya (ao (av h0))) ?_ (by rw[zal,zal];omega)
  have dm:([("_law_held",1)]:List (Str×Nat)).map (λz=>bI (vw s) z.2)=[.fz (HD keys row)]:=by
   show [bI (vw s) 1]=_;unfold bI;rw[h1]
  rw[dm];exact iC T λx hx=>⟨_,ao (dC (rs:=[(.tuple ((row x).below.map .str),.fz)]) (res:=(.int ((row x).below.length:Int),false)) (aB (ao (gq (dr (.inl rfl) (hT x hx) (av rfl)))) aR) (by show some (PyData.int (((row x).below.map PyData.str).length:Int),false)=_;rw[zal]))⟩
 have nd':(T.map λt=>((row t).below.length:Int)).Nodup:=by
  unfold List.Nodup;rw[List.pairwise_map];exact nd.imp_of_mem fun{t u} ht hu ne z=>ne (hd t ht u hu (by omega))
 have e2:IE (ot (mLC [("_law_held",1)] (o7 (ah 0)) pZ fT)) (vw s) (T.length:Int):=by
  show ot _ _=_;unfold ot;rw[e,zai];dsimp only[Fq,Option.bind_some];rw[tj,zai,bZ (by rw[zal];omega),yE nd',zal]
 exact(qk e2 (dC (rs:=[(TD T,.fz)]) (res:=(.int (T.length:Int),false)) (aB (ao (av h0)) aR) (by show some (PyData.int ((T.map PyData.str).length:Int),false)=_;rw[zal]))).is (zaH rfl)
theorem nG{S:List (Option Cl)}{n x:Nat}{d:D}(hx:x<n)(h:S[x]?=some (dt d)):(gcS n S)[x]?=some (dt d):=by
 unfold gcS;rw[zao,List.getElem?_take,if_pos hx,h];rfl
theorem yF{S:List (Option Cl)}{n x:Nat}{d:D}(hx:x<n)(h:S[x]?=some (dt d)):(fS n S)[x]?=some (dt d):=by
 unfold fS;split
 ·exact nG hx h
 ·exact h
theorem oB{n:Str}{T:List Str}(nd:T.Nodup):T.erase n=bw T n:=by
 rw[List.Nodup.erase_eq_filter nd];unfold bw;exact List.filter_congr λt _=>by by_cases e:t=n<;>simp[e]
section
variable{ρ:Rho}{A B:List D}(h3 : ρ[3]?=some (.fz (.list (A++B))))(h4 : ρ[4]?=some (.fz (.list A)))
include h4
include h3
end
theorem Bt.rok{K:Str->Int}(h:Bt K c aj keys row):∀n∈keys,rOk (row n):=λn hn=>⟨λa ha=>h.ok (h.ab n hn a ha),λb hb=>h.ok ((h.bl n hn).2 b hb)⟩
theorem Bt.tok{K:Str->Int}(h:Bt K c aj keys row):∀t∈aj,PyData.strOk t=true:=λt ht=>h.ok (h.tk t ht).1
theorem F8{a:EN}{s s1:SS}{k:Nat}{ds:List D}(h:a s=some (.ok (.lc k) s1))(hk:s1.S[k]?=some (dt (.list ds))):Fh nV a s=some (.ok (.pl .none) ⟨s1.S.set k (dt (.list [])),s1.t⟩):=by
 unfold Fh;rw[eE h];simp only[qp,hk,if_true,CH,iO,Option.bind_some,nV,Option.map_some]
theorem DR{a:EN}{s s1:SS}{k:Nat}{es:List (D×D)}(h:a s=some (.ok (.lc k) s1))(hk:s1.S[k]?=some (dt (.dict es))):zK a s=some (.ok (.pl .none) ⟨s1.S.set k (dt (.dict [])),s1.t⟩):=by
 unfold zK;rw[eE h];simp only[hk]
theorem yG{aj keys:List Str}{row:Str->aI.Row}{a b d:PM}{s:SS}(hB:Bk c aj keys row)(h1:a (vw s)=some ((PD aj keys row,.fz),vw s))(h2:b (vw s)=some ((TD aj,.fz),vw s))(h3:d (vw s)=some ((HD keys row,.fz),vw s)):gG (aN (cK cY (ak a (ak b (ak d aF))))) (vw s)=some (false,vw s) :=
 fM (v:=true) (lG (rs:=[(PD aj keys row,.fz),(TD aj,.fz),(HD keys row,.fz)]) (aB (ao h1) (aB (ao h2) (aB (ao h3) aR))) (FL hB.rok hB.tok)).t
abbrev fr(a b i j:Nat)(n:Str)(s4 s5 s6:Option SV):List (Option SV):=[some (.tp [.lc a,.lc b]),some (.lc i),some (.lc j),some (.pl (.str n)),s4,s5,s6]
def Lst(row:Str->aI.Row)(l:List Str)(n:Str):Prop:=n∈l/\∀m∈l,m=n\/a0 (row n).key n (row m).key m=true
theorem G0{a c:Int}{x y:Str}(h1:a0 a x c y=true)(h2:a0 c y a x=true):False:=by
 have:=fW h1 h2;rw[k5]at this;cases this
theorem Lst.one{l l':List Str}{n m:Str}(h1:Lst row l n)(h2:Lst row l' m)(a:n∈l')(b:m∈l):n=m:=by
 rcases h1.2 m b with e|e
 ·exact e.symm
 ·rcases h2.2 n a with e2|e2
  ·exact e2
  ·exact(G0 e e2).elim
theorem vm:∀(l:List Str) (b:Str),∃n,l9 (.str b,(row b).key,b) (l.map λt=>(PyData.str t,(row t).key,t))=(.str n,(row n).key,n)/\Lst row (b::l) n
 | [],b=>⟨b,rfl,zas,λm hm=>.inl (zad hm)⟩
 |t::l,b=>by
  by_cases hp:a0 (row t).key t (row b).key b=true
  ·obtain⟨n,e,h1,h2⟩:=vm l t
   refine⟨n,?_,zak _ h1,λm hm=>?_⟩
   ·simp only[List.map_cons,l9,hp,if_true];exact e
   ·rcases zaf hm with rfl|hm
    ·rcases h2 t zas with z|z
     ·exact .inr (by rw[<-z];exact hp)
     ·exact .inr (fW z hp)
    ·exact h2 m hm
  ·obtain⟨n,e,h1,h2⟩:=vm l b
   have hp':a0 (row t).key t (row b).key b=false:=by simpa using hp
   refine⟨n,?_,?_,λm hm=>?_⟩
   ·simp only[List.map_cons,l9,hp',Bool.false_eq_true,if_false];exact e
   ·rcases zaf h1 with z|z
    ·rw[z];exact zas
    ·exact zak _ (zak _ z)
   ·rcases zaf hm with rfl|hm
    ·exact h2 _ zas
    ·rcases zaf hm with rfl|hm
     ·by_cases eb:m=b
      ·rw[eb];exact h2 b zas
      ·have lt:=nq eb hp'
       rcases h2 b zas with z|z
       ·exact .inr (by rw[<-z];exact lt)
       ·exact .inr (fW z lt)
     ·exact h2 m (zak _ hm)
theorem Lst.top{K:Str->Int}(h:Bt K c aj keys row)(hK:∀n∈keys,K n=(row n).key){n:Str}(hl:Lst row keys n):n∈aj:=by
 refine h.ne n hl.1 ?_;cases e:(row n).above with
 |none=>rfl
 |some a=>
  have ha:=h.ab n hl.1 a e;have hp:=h.ho n hl.1 a e;rw[hK n hl.1,hK a ha]at hp;rcases hl.2 a ha with z|z
  ·rw[z,k5]at hp;cases hp
  ·exact(G0 hp z).elim
theorem F9{l:List Str}:(∀t∈l,t∈keys)->wX dF [.fz (PD aj keys row)] (l.map .str)=some (l.map λt=>(PyData.str t,(row t).key,t)):=by
 induction l with
 |nil=>intro _;rfl
 |cons t l ih=>
  intro h;have e:sv dF (.fz (.str t)::[.fz (PD aj keys row)])=some ((.tuple [.int (row t).key,.str t],.fz),[.fz (.str t),.fz (PD aj keys row)]) :=
   ao (dB (rs:=[(HD keys row,.fz),(.str t,.fz)]) (aB (ao (mf (aj:=aj) rfl)) (aB (ao (av rfl)) aR)) (lg (h t zas)) rfl)
  show(sv dF (.fz (.str t)::[.fz (PD aj keys row)])).bind _=_;rw[e,zai];show(wX dF [.fz (PD aj keys row)] (l.map .str)).map _=_;rw[ih λx hx=>h x (zak _ hx)]
  rfl
theorem DS(hne:aj≠[])(ht:∀t∈aj,t∈keys):∃n,Lst row aj n/\iq [PD aj keys row]=some (.str n,false):=by
 match aj,hne,ht with
 |b::l,_,ht=>
  obtain⟨n,e,h⟩:=vm (row:=row) l b;refine⟨n,h,fE (o:=.rt (.str n,.fz) [.fz (PD (b::l) keys row)]) rfl (aX (jK (ig (qk (dC (rs:=[(TD (b::l),.fz)]) (res:=(.int (((b::l).length:Nat):Int),false)) (aB (ao (oY (keys:=keys) (row:=row) rfl)) aR) (by show some (PyData.int ((((b::l).map PyData.str).length:Nat):Int),false)=_;rw[zal])) cS) (zaO (by simp only[List.length_cons];omega))) rfl) (dJ ?_)) rfl⟩
  unfold Dm;rw[show mOp gIx (ah 0) (mC (.int 0)) ([PD (b::l) keys row].map Sl.fz++List.replicate 0 Sl.no)=some ((TD (b::l),.fz),[.fz (PD (b::l) keys row)])from oY (keys:=keys) (row:=row) rfl,zai];show(wX dF [.fz (PD (b::l) keys row)] ((b::l).map .str)).bind _=_;rw[F9 ht,zai];show some (((l9 _ _).1,Kd.fz),_)=_;rw[e]
theorem IZ(l:List Str){i:Nat}{n:Str}(h:l[i]?=some n):pkD (l.map λt=>PyData.tuple [.int (row t).key,.str t]) i=((row n).key,n):=by
 unfold pkD;rw[zao,h];rfl
theorem yH{bt:Nat->Nat->Bool}:∀k:Nat,argBest bt k<=k
 |0=>zap _
 |k+1=>by
  unfold argBest;split
  ·exact zap _
  ·exact Nat.le_succ_of_le (yH k)
theorem Ga{l:List Str}(hne:l≠[]):∃n,Lst row l n/\wY [.list (l.map λt=>PyData.tuple [.int (row t).key,.str t])]=some (.tuple [.int (row n).key,.str n],false):=by
 have hpos : 0<l.length:=List.length_pos_iff.mpr hne;obtain⟨G,hG⟩:∃G,G=pkD (l.map λt=>PyData.tuple [.int (row t).key,.str t]):=⟨_,rfl⟩
 have at_:∀{i:Nat} {n:Str},l[i]?=some n->G i=((row n).key,n):=fun{i n} h=>by rw[hG];exact IZ l h
 have key:∀k,k<l.length->∀m j,j<=k->l[j]?=some m->∀n,l[argBest (btK G) k]?=some n->m=n\/a0 (row n).key n (row m).key m=true:=by
  intro k
  induction k with
  |zero=>
   intro _ m j hj hm n hn;obtain rfl:j=0:=by omega
   have:l[0]?=some n:=hn;rw[hm]at this;cases this;exact .inl rfl
  |succ k ih=>
   intro hk m j hj hm n hn;have hle:=yH (bt:=btK G) k;obtain⟨p,hp⟩:∃p,l[argBest (btK G) k]?=some p:=⟨_,zaC (by omega)⟩
   obtain⟨q,hq⟩:∃q,l[k+1]?=some q:=⟨_,zaC hk⟩;have eb:btK G (k+1) (argBest (btK G) k)=a0 (row q).key q (row p).key p:=by
    show a0 (G (k+1)).1 (G (k+1)).2 (G (argBest (btK G) k)).1 (G (argBest (btK G) k)).2=_;rw[at_ hq,at_ hp]
   have hn':l[if btK G (k+1) (argBest (btK G) k)=true then k+1 else argBest (btK G) k]?=some n:=hn
   rw[eb]at hn'
   by_cases hlt:a0 (row q).key q (row p).key p=true
   ·rw[if_pos hlt]at hn'
    have en:q=n:=zaQ (hq.symm.trans hn');rw[<-en]
    by_cases ej:j=k+1
    ·rw[ej]at hm
     exact .inl (zaQ (hm.symm.trans hq))
    ·rcases ih (by omega) m j (by omega) hm p hp with z|z
     ·rw[z];exact .inr hlt
     ·exact .inr (fW hlt z)
   ·rw[if_neg hlt]at hn'
    have en:p=n:=zaQ (hp.symm.trans hn');rw[<-en]
    by_cases ej:j=k+1
    ·rw[ej]at hm
     have em:q=m:=zaQ (hq.symm.trans hm);rw[<-em]
     by_cases e:q=p
     ·exact .inl e
     ·exact .inr (nq e (by simpa using hlt))
    ·exact ih (by omega) m j (by omega) hm p hp
 have hle:=yH (bt:=btK G) (l.length-1);obtain⟨n,hn⟩:∃n,l[argBest (btK G) (l.length-1)]?=some n:=⟨_,zaC (by omega)⟩
 refine⟨n,⟨zaj hn,λm hm=>?_⟩,?_⟩
 ·obtain⟨j,hj⟩:=List.mem_iff_getElem?.mp hm
  have:=(zac hj).1;exact key _ (by omega) m j (by omega) hj n hn
 ·unfold wY
  dsimp only;rw[if_pos (List.all_eq_true.mpr λd hd=>by obtain⟨t,_,rfl⟩:=List.mem_map.mp hd;rfl),zal,<-hG,zao,hn]
  rfl
theorem DT(hc:c<=200)(h:Bk c aj keys row)(f:Fm keys row){n:Str}(hl:Lst row aj n){S:List (Option Cl)}{p q:Nat}(hp:S[p]?=some (dt (TD aj)))(hq:S[q]?=some (dt (HD keys row))) :
  ∃(sts:List (Str×Str)) (T:List Str) (aK:Str->aI.Row) (X:List (Option Cl)),iu S [.tp [.lc p,.lc q]]=some (.ok (.tp [.pl (.str n),.pl (.int (row n).key),.tp [.lc (S.length+6),.lc (S.length+3)],.lc (S.length+7)]) (S++X))/\(S++X)[S.length+6]?=some (dt (TD T))/\(S++X)[S.length+3]?=some (dt (HD (bw keys n) aK))/\(S++X)[S.length+7]?=some (dt (.list (vh (row n).below sts)))/\Hs (bw aj n++(row n).below) (free row (row n).below) sts T aK/\∀t∈T,∀u∈T,(aK t).below.length=(aK u).below.length->t=u:=by
 have lp:=c9 hp;have lq:=c9 hq;obtain⟨sts,T,aK,X,e1,e2,e3,e4,e5,e6⟩:=F1 hc h f hl.1 hp hq;refine⟨sts,T,aK,X,?_,e2,e3,e4,e5,e6⟩;obtain⟨m,hm,em⟩:=DS (aj:=aj) (keys:=keys) (row:=row) (λz=>by rw[z]at hl;exact absurd hl.1 (by simp)) λt ht=>(h.tk t ht).1
 obtain rfl:n=m:=hl.one hm hl.1 hm.1;refine vd (t':=[some (.tp [.lc p,.lc q]),some (.pl (.str n)),some (.tp [.pl (.int (row n).key),.tp [.lc (S.length+6),.lc (S.length+3)],.lc (S.length+7)])]) rfl ?_ (by simp[blV,o8])
 refine aT (s':=⟨S,[some (.tp [.lc p,.lc q]),some (.pl (.str n)),none]⟩) (cN (i:=1) (ny (dB (rs:=[(PD aj keys row,.fz)]) (aB (ao (av (bJ rfl (fZ hp hq)))) aR) em rfl) rfl) (by simp)) ?_
 refine aT (s':=⟨S++X,[some (.tp [.lc p,.lc q]),some (.pl (.str n)),some (.tp [.pl (.int (row n).key),.tp [.lc (S.length+6),.lc (S.length+3)],.lc (S.length+7)])]⟩) (cN (i:=2) (jz (aW (aH rfl) (aW (aH rfl) dj)) e1) (by simp)) ?_
 exact lR (jT (xs:=[.pl (.str n),.pl (.int (row n).key),.tp [.lc (S.length+6),.lc (S.length+3)],.lc (S.length+7)]) (aW (aH rfl) (aW (dN (aH rfl) g8 rfl) (aW (dN (aH rfl) g8 rfl) (aW (dN (aH rfl) g8 rfl) dj)))) rfl (by simp))
section
variable{ρ:Rho}{A B:List D}
theorem slf(h3 : ρ[3]?=some (.fz (.list (A++B))))(h4:IE (mCB cH (ak (ah 4) aF)) ρ (A.length:Int)):mSl gSl (ah 3) gy (hW (mCB cH (ak (ah 4) aF))) ρ=some ((.list A,.new),ρ):=by
 have p:hW (mCB cH (ak (ah 4) aF)) ρ=some (some (A.length:Int),ρ):=by
  unfold hW;rw[ao h4];rfl
 unfold mSl;rw[ao (av h3),zai,show gy ρ=some (none,ρ)from rfl,zai,p,zai];dsimp only[mj,Option.bind_some,gSl];rw[F6];rfl
theorem sls(h3 : ρ[3]?=some (.fz (.list (A++B))))(h4:IE (mCB cH (ak (ah 4) aF)) ρ (A.length:Int)):mSl gSl (ah 3) (hW (mCB cH (ak (ah 4) aF))) gy ρ=some ((.list B,.new),ρ):=by
 have p:hW (mCB cH (ak (ah 4) aF)) ρ=some (some (A.length:Int),ρ):=by
  unfold hW;rw[ao h4];rfl
 unfold mSl;rw[ao (av h3),zai,p,zai,show gy ρ=some (none,ρ)from rfl,zai];dsimp only[mj,Option.bind_some,gSl];rw[F7];rfl
end
theorem walked_is(hc:c<=200)(h:Bk c aj keys row)(fm:Fm keys row){n:Str}(hn:n∈aj){S:List (Option Cl)}{i j f:Nat}{sts:List (Str×Str)}{T:List Str}{aK:Str->aI.Row}(hi:S[i]?=some (dt (TD aj)))(hj:S[j]?=some (dt (HD keys row)))(hf:S[f]?=some (dt (.list (vh (row n).below sts))))(fi:f≠i)(fj:f≠j)
  (hs:Hs (bw aj n++(row n).below) (free row (row n).below) sts T aK) (dd:∀t∈T,∀u∈T,(aK t).below.length=(aK u).below.length->t=u) :
  ∃S',ix S [.lc i,.lc j,.pl (.str n),.lc f]=some (.ok (.pl (.bool true)) S')/\S'[i]?=some (dt (TD T))/\S'[j]?=some (dt (HD (bw keys n) aK))/\∀(x:Nat) (d':D),x≠i->x≠j->S[x]?=some (dt d')->S'[x]?=some (dt d'):=by
 have li:=c9 hi;have lj:=c9 hj;have lf:=c9 hf;have nij:i≠j:=oA hi hj (λe=>by cases e)
 have hnk:=(h.tk n hn).1;have tl:=h.tl;have kl:=h.kl;have bb:=(h.bl n hnk).1;have ol:(bw aj n).length<=aj.length:=zaY _ _;have okl:(bw keys n).length<=keys.length:=zaY _ _;obtain⟨hB',hF',_⟩:=qU h fm hn;have bo:∀b∈(row n).below,b∈bw keys n:=λb hb=>(hB'.tk b (zan _ hb)).1
 have hx:Wx S i j:=⟨li,lj,nij⟩;have gf:∀{T keys:List Str} {cq:Str->aI.Row},(Wk S i j T keys cq)[f]?=some (dt (.list ((row n).below.map stF++sts.map stH))):=fun{T keys cq}=>by
  rw[Wx.go fi fj,hf];rfl
 obtain⟨y6,y7,y8,y9,y10,hy,fl⟩:=Ki (n:=n) (B:=.tuple ((row n).below.map .str)) (f:=f) (keys:=bw keys n) (ts:=bw aj n) (row:=row) hx lf (by omega) (by omega) (row n).below [] none none none none none (λm=>rfl) bo (by simp;omega)
 rw[List.nil_append,zaR,show free row []=row from funext λm=>dX (by simp)]at fl
 obtain⟨V,hV⟩:∃V,V=S++[dt (.list (sts.map stH))]:=⟨_,rfl⟩;have lV:V.length=S.length+1:=by rw[hV,IT]
 have hxV:Wx V i j:=by rw[hV];exact hx.more _
 have vk:V[S.length]?=some (dt (.list (sts.map stH))):=by rw[hV];exact ap0
 obtain⟨y11,hl⟩:=Kj (n:=n) (B:=.tuple ((row n).below.map .str)) (f:=f) hc hxV (by omega) vk (by omega) (by omega) hs hB' hF' none hy
 obtain⟨hT,_⟩:=hs.inv hB' hF';have s0:Wk S i j aj keys row=S:=Wk.self hi hj;refine⟨_,yB (o:=.rt (.pl (.bool true)) ⟨Wk V i j T (bw keys n) aK,wt n i j f (.tuple ((row n).below.map .str)) y6 y7 y8 y9 y10 y11⟩) rfl ?_ rfl,yF li hxV.gi,yF lj hxV.gj,λx d' e1 e2 e=>yF (c9 e) ((Wx.go e1 e2).trans (by rw[hV];exact fY e))⟩
 refine aT (s':=⟨Wk S i j aj (bw keys n) row,wt n i j f (.tuple ((row n).below.map .str)) none none none none none none⟩) ((cN (i:=4) (dN (xo (aH rfl) hj (aW (aH rfl) dj) hj hnk) g8 rfl) (by simp)).trans (by dsimp only;rw[<-s0,Wx.sj,s0];rfl)) ?_
 refine aT (s':=⟨Wk S i j (bw aj n) (bw keys n) row,wt n i j f (.tuple ((row n).below.map .str)) none none none none none none⟩) ((eY (F3 (aH rfl) hx.gi (aW (aH rfl) dj) hx.gi hn)).trans (by dsimp only;rw[hx.si,oB h.tn])) ?_
 refine aT (zY (ds:=(row n).below.map .str) (uZ (ao (av (DJ rfl)))) (by dsimp only;rw[Wx.len];exact fl)) ?_
 have l4:∀{ρ:Rho},ρ[4]?=some (.fz (.tuple ((row n).below.map .str)))->IE (mCB cH (ak (ah 4) aF)) ρ (((row n).below.map stF).length:Int):=fun{ρ} e=>dC (rs:=[(.tuple ((row n).below.map .str),.fz)]) (res:=(.int (((row n).below.map stF).length:Int),false)) (aB (ao (av e)) aR) (by show some (PyData.int (((row n).below.map PyData.str).length:Int),false)=_;rw[zal,zal])
 have cl:iY pZ kY [] ((row n).below.map .str)=some ((row n).below.map stF):=Mir.iC (f:=PyData.str) (g:=stF) _ λx hx=>⟨[.fz (.str x)],ao (dE (rs:=[(.str "free",.fz),(.str x,.fz)]) (aB (ao rfl) (aB (ao (av rfl)) aR)) rfl (by simp))⟩
 refine aT (nv (gr (test_ev (k:=.fz) (v:=false) (bP (r:=(.list ((row n).below.map stF),.fz)) (res:=(.bool false,false)) (jI (slf (bJ rfl (cP gf)) (l4 (d6 rfl)))) (jI (wj (uZ (ao (av (d6 rfl)))) cl (by rw[zal];omega))) (by have:=F5 (IY (C:=[]) (B:=(row n).below) (by simp) λx hx=>hB'.ok (bo x hx));rw[IX]at this;exact this)))) rfl) ?_
 refine aT (xm (k:=S.length) (ds:=sts.map stH) (s1:=⟨Wk V i j (bw aj n++(row n).below) (bw keys n) (free row (row n).below),wt n i j f (.tuple ((row n).below.map .str)) y6 y7 y8 y9 y10 none⟩) ((lh (sls (bJ rfl (cP gf)) (l4 (d6 rfl))) (qV (λx=>rfl) _)).trans (by dsimp only;rw[Wx.len,hx.app,<-hV])) ((Wx.go (by omega) (by omega)).trans vk) (by dsimp only;rw[Wx.len];exact hl)) ?_
 exact lR (GY (DQ (bJ rfl (cP hxV.gi)) (bJ rfl (cP hxV.gj)) (λt ht=>(hT.tk t ht).1) (by have:=hT.tl;omega) hT.tn dd))
theorem Gb{ρ:Rho}{i:Nat}{d:D}(h : ρ[i]?=some (.fz d)):oR i ρ=some ((d,.fz),ρ):=by unfold oR;rw[h]
theorem Gd(s:SS):mV (vw s)=true:=by
 unfold mV vw;rw[List.all_eq_true];intro x hx;obtain⟨y,_,rfl⟩:=List.mem_map.mp hx;rcases sx s.S y with e|⟨d,x,e,_⟩<;>rw[e]
abbrev ft4(a b i j:Nat)(s3 s4 s5 s6 s7:Option SV):List (Option SV):=[some (.tp [.lc a,.lc b]),some (.lc i),some (.lc j),s3,s4,s5,s6,s7]
theorem ix4{k:Nat}{x y z u d:D}{ρ:Rho}{i:Nat}(z1 : ρ[i]?=some (.fz (.tuple [x,y,z,u])))(z2 : [x,y,z,u][k]?=some d):mOp gIx (ah i) (mC (.int (k:Int))) ρ=some ((d,.fz),ρ):=bP (r:=(.int (k:Int),.fz)) (res:=(d,false)) (ao (av z1)) (ao rfl) (by
 match k,z2 with
 |0,z2=>cases z2;rfl
 |1,z2=>cases z2;rfl
 |2,z2=>cases z2;rfl
 |3,z2=>cases z2;rfl
 |k+4,z2=>cases z2)
theorem nH{Z:List (Option Cl)}{n:Str}{k:Int}{f0 f1 f2:Nat}{L:List D}{T zW:List Str}{cq:Str->aI.Row}(z1:Z[f0]?=some (dt (TD T)))(z2:Z[f1]?=some (dt (HD zW cq)))(z3:Z[f2]?=some (dt (.list L))) :
  rdV Z (.tp [.pl (.str n),.pl (.int k),.tp [.lc f0,.lc f1],.lc f2])=some (.tuple [.str n,.int k,PD T zW cq,.list L]):=by
 simp only[rdV,rB,z1,z2,z3,Option.bind_some,Option.map_some]
theorem DU(hc:c<=200)(h:Bk c aj keys row)(fm:Fm keys row)(hne:keys≠[]){S:List (Option Cl)}{a b i j:Nat}(ha:S[a]?=some (dt (TD aj)))(hb:S[b]?=some (dt (HD keys row)))(hi:S[i]?=some (dt (TD aj)))(hj:S[j]?=some (dt (HD keys row)))(nai:a≠i)(nbj:b≠j) :
  ∃S' n T aK L,i5 S [.tp [.lc a,.lc b],.lc i,.lc j]=some (.ok (.tp [.pl (.str n),.pl (.int (row n).key),.tp [.lc (S.length+6),.lc (S.length+3)],.lc (S.length+7)]) S')/\n∈keys/\S'[S.length+6]?=some (dt (TD T))/\S'[S.length+3]?=some (dt (HD (bw keys n) aK))/\S'[S.length+7]?=some (dt (.list L))/\L.length<=1000/\S'[i]?=some (dt (TD T))/\S'[j]?=some (dt (HD (bw keys n) aK))/\Bk c T (bw keys n) aK/\Fm (bw keys n) aK/\∀(x:Nat) (d:D),x≠i->x≠j->S[x]?=some (dt d)->S'[x]?=some (dt d):=by
 have kl:=h.kl;have tl:=h.tl;have la:=c9 ha;have lb:=c9 hb;have li:=c9 hi;have lj:=c9 hj;have naj:a≠j:=oA ha hj (λe=>by cases e)
 have nbi:b≠i:=oA hb hi (λe=>by cases e)
 obtain⟨n,hl,em⟩:=Ga (row:=row) hne;have hn:n∈aj:=hl.top h λ_ _=>rfl
 have hlt:Lst row aj n:=⟨hn,λm hm=>hl.2 m (h.tk m hm).1⟩
 obtain⟨sts,T,aK,X,r1,r2,r3,r4,hs,dd⟩:=DT hc h fm hlt ha hb;have low:∀{x:Nat} {d:Option Cl},S[x]?=some d->(S++X)[x]?=some d:=fun{x d} e=>fY e
 obtain⟨S3,wk,g_i,g_j,g_o⟩:=walked_is hc h fm hn (low hi) (low hj) r4 (by omega) (by omega) hs dd
 have q0:=g_o _ _ (by omega) (by omega) r2
 have q1:=g_o _ _ (by omega) (by omega) r3
 have q2:=g_o _ _ (by omega) (by omega) r4
 obtain⟨hB',hF',hmk⟩:=qU h fm hn;obtain⟨hT,hFT⟩:=hs.inv hB' hF';have Lb:=hs.marks hB' hF';have kl':=hT.kl;obtain⟨m,hm,emb⟩:=F4 (n:=keys.length) (by omega)
 have hnk:=hl.1;have bm:(row n).below.length<=m:=by
  have:=IK h fm hnk;rcases Nat.lt_or_ge m (row n).below.length with z|z
  ·have:=zV (show m+1<=(row n).below.length from z);omega
  ·exact z
 have hsl:=hs.len;have ol:(bw aj n).length+1<=aj.length:=by
  rw[<-oB h.tn,List.length_erase_of_mem hn];have:=List.length_pos_of_mem hn;omega
 rw[zau]at hsl;have bb:=(h.bl n hnk).1;obtain⟨L,hL⟩:∃L,L=vh (row n).below sts:=⟨_,rfl⟩;have lL:L.length=(row n).below.length+sts.length:=by rw[hL];unfold vh;simp
 rw[<-hL]at r4 q2;obtain⟨P1,hP1⟩:∃P1:Int,P1=2*(m:Int):=⟨_,rfl⟩;obtain⟨A1,hA1⟩:∃A1:Int,A1=(aj.length:Int)+2*(mk keys row:Int):=⟨_,rfl⟩;refine⟨S3,n,T,aK,L,?_,hnk,q0,q1,q2,by omega,g_i,g_j,hT,hFT,λx d e1 e2 e=>g_o x d e1 e2 (low e)⟩
 refine vd (t':=ft4 a b i j (some (.pl (.int P1))) (some (.pl (.int A1))) (some (.tp [.pl (.str n),.pl (.int (row n).key),.tp [.lc (S.length+6),.lc (S.length+3)],.lc (S.length+7)])) (some (.pl (.int (row n).key))) (some (.pl (.str n)))) rfl ?_ (by simp[blV,o8])
 refine aT (s':=⟨S,ft4 a b i j (some (.pl (.int P1))) none none none none⟩) (cN (i:=3) (xk (IE.is (yb cS (lF (rs:=[(.int (keys.length:Int),.fz)]) (gg (i6 (i:=2) (.inl (bJ rfl (cP hj)))) aR) emb) (Gs (.inl ⟨by decide,by decide⟩))) hP1.symm)) (by simp)) ?_
 refine aT (s':=⟨S,ft4 a b i j (some (.pl (.int P1))) (some (.pl (.int A1))) none none none⟩) (cN (i:=4) (xk (IE.is (lF (rs:=[(PD aj keys row,.fz)]) (aB (ao (av (bJ rfl (fZ ha hb)))) aR) (sV (by omega))) hA1.symm)) (by simp)) ?_
 refine aT (s':=⟨S++X,ft4 a b i j (some (.pl (.int P1))) (some (.pl (.int A1))) (some (.tp [.pl (.str n),.pl (.int (row n).key),.tp [.lc (S.length+6),.lc (S.length+3)],.lc (S.length+7)])) none none⟩) (cN (i:=5) (jz (aW (aH rfl) dj) r1) (by simp)) ?_
 have v5:∀{s6 s7:Option SV},(vw ⟨S++X,ft4 a b i j (some (.pl (.int P1))) (some (.pl (.int A1))) (some (.tp [.pl (.str n),.pl (.int (row n).key),.tp [.lc (S.length+6),.lc (S.length+3)],.lc (S.length+7)])) s6 s7⟩)[5]?=some (.fz (.tuple [.str n,.int (row n).key,PD T (bw keys n) aK,.list L])):=fun{s6 s7}=>bJ rfl (nH r2 r3 r4)
 refine aT (nv (gr (jd (fM (test_ev (k:=.fz) (v:=true) (kG (ao (av v5)) (dU _)))) (jd (ig (oN (dC (rs:=[(.tuple [.str n,.int (row n).key,PD T (bw keys n) aK,.list L],.fz)]) (res:=(.int 4,false)) (aB (ao (av v5)) aR) rfl) cS) rfl) (fM (test_ev (k:=.fz) (v:=true) (kG (ao (ix4 (k:=3) v5 rfl)) (l5 _))))))) rfl) ?_;have v2:∀{s3 s4 s5 s6 s7:Option SV},(vw ⟨S++X,ft4 a b i j s3 s4 s5 s6 s7⟩)[2]?=some (.fz (HD keys row)):=fun{s3 s4 s5 s6 s7}=>bJ rfl (cP (low hj))
 refine aT (s':=⟨S++X,ft4 a b i j (some (.pl (.int P1))) (some (.pl (.int A1))) (some (.tp [.pl (.str n),.pl (.int (row n).key),.tp [.lc (S.length+6),.lc (S.length+3)],.lc (S.length+7)])) (some (.pl (.int (row n).key))) (some (.pl (.str n)))⟩) ?_ ?_
 ·have ρd:∀{s3 s4 s5 s6 s7:Option SV},([("_law_held",2)]:List (Str×Nat)).map (λz=>bI (vw ⟨S++X,ft4 a b i j s3 s4 s5 s6 s7⟩) z.2)=[.fz (HD keys row)]:=fun{s3 s4 s5 s6 s7}=>by
   show [bI (vw _) 2]=_;unfold bI;rw[v2]
  have cmp:=Mir.iC (e:=me) (ρn:=[.fz (HD keys row)]) (f:=PyData.str) (g:=λt=>PyData.tuple [.int (row t).key,.str t]) keys λx hx=>⟨[.fz (.str x),.fz (HD keys row)],ao (dE (rs:=[(.int (row x).key,.fz),(.str x,.fz)]) (gg (lN (dr (.inl rfl) hx (av rfl))) (aB (ao (av rfl)) aR)) rfl (by simp))⟩
  unfold dW;rw[gT (ny (dC (rs:=[(.list (keys.map λt=>PyData.tuple [.int (row t).key,.str t]),.fz)]) (res:=(.tuple [.int (row n).key,.str n],false)) (aB (jI (DH (Gb v2) (Gd _) (by rw[ρd];exact cmp) (by rw[zal];omega))) aR) em) rfl)]
  rfl
 refine aT (nv (gr (jd (test_ev (k:=.fz) (v:=false) (bP (r:=(.str n,.fz)) (res:=(.bool false,false)) (ao (ix4 (k:=0) v5 rfl)) (ao (av (d6 rfl))) (by rw[pH (h.ok hnk) (h.ok hnk)];simp))) (jd (ig (oN (ix4 (k:=1) v5 rfl) (b8 (d6 rfl))) (by simp)) (test_ev (k:=.fz) (v:=false) (kG (ao (ix4 (k:=1) v5 rfl)) (jH _)))))) rfl) ?_
 have w5:(vw ⟨S3,ft4 a b i j (some (.pl (.int P1))) (some (.pl (.int A1))) (some (.tp [.pl (.str n),.pl (.int (row n).key),.tp [.lc (S.length+6),.lc (S.length+3)],.lc (S.length+7)])) (some (.pl (.int (row n).key))) (some (.pl (.str n)))⟩)[5]?=some (.fz (.tuple [.str n,.int (row n).key,PD T (bw keys n) aK,.list L])):=bJ rfl (nH q0 q1 q2);refine aT (nv (s':=⟨S3,ft4 a b i j (some (.pl (.int P1))) (some (.pl (.int A1))) (some (.tp [.pl (.str n),.pl (.int (row n).key),.tp [.lc (S.length+6),.lc (S.length+3)],.lc (S.length+7)])) (some (.pl (.int (row n).key))) (some (.pl (.str n)))⟩) (Kf (FO (b:=true) (DI (jz (aW (aH rfl) (aW (aH rfl) (aW (aH rfl) (aW (dN (aH rfl) g8 rfl) dj)))) wk))) (gr (yG hT (ix4 (k:=2) w5 rfl) (av (bJ rfl (cP g_i))) (av (bJ rfl (cP g_j)))))) rfl) ?_;refine aT (nv (gr (ig (l6 (jL (dC (rs := [(.list L, .fz)]) (res := (.int (L.length : Int), false)) (aB (ao (ix4 (k := 3) w5 rfl)) aR) rfl) (lF (rs := [(PD T (bw keys n) aK, .fz)]) (aB (ao (ix4 (k := 2) w5 rfl)) aR) (sV (by omega)))) (jL (b8 (d6 rfl)) (b8 (d6 rfl)))) (zaO (by
    show¬(A1+P1<(L.length:Int)+((T.length:Int)+2*(mk (bw keys n) aK:Int)));omega)))) rfl) ?_
 exact lR (aH rfl)
theorem Ge{n:Str}(nd:keys.Nodup)(hn:n∈keys):(bw keys n).length+1=keys.length:=by
 rw[<-oB nd,List.length_erase_of_mem hn];have:=List.length_pos_of_mem hn;omega
theorem Kk(l:List Int):eW (.list (l.map .int)) true=true:=by
 show bq (l.map .int)=true
 induction l with
 |nil=>rfl
 |cons x l ih=>simp only[List.map_cons,bq,eg,ih,Bool.and_true]
def Iv(scr:D)(M:Nat)(k:Nat)(s:SS):Prop:=∃S a b aj keys row x5 x6,s=⟨S,[some (.pl scr),some (.lc 1),some (.lc 2),some (.tp [.lc a,.lc b]),some (.pl (.int (M:Int))),x5,x6]⟩/\S[1]?=some (dt (TD aj))/\S[2]?=some (dt (HD keys row))/\S[a]?=some (dt (TD aj))/\S[b]?=some (dt (HD keys row))/\a≠1/\b≠2/\Bk 120 aj keys row/\Fm keys row/\keys.length=k
theorem Kl{scr:D}{M k N:Nat}{s:SS}(hN : 2<N)(h:Iv scr M k s):Iv scr M k (gcE N [0,1,2,3,4] s):=by
 unfold gcE;split
 ·rename_i hc
  obtain⟨S,a,b,aj,keys,row,x5,x6,rfl,h1,h2,h3,h4,n1,n2,hB,hF,hk⟩:=h;rw[Bool.and_eq_true]at hc;have hl:blV N (.tp [.lc a,.lc b])=true:=by
   have:=(List.all_eq_true.mp hc.2) 3 (by simp)
   exact this
  have hab:a<N/\b<N:=by simpa[blV,o8]using hl
  refine⟨gcS N S,a,b,aj,keys,row,gcV N x5,gcV N x6,?_,nG (by omega) h1,nG (by omega) h2,nG hab.1 h3,nG hab.2 h4,n1,n2,hB,hF,hk⟩
  show(⟨gcS N S,[gcV N (some (.pl scr)),gcV N (some (.lc 1)),gcV N (some (.lc 2)),gcV N (some (.tp [.lc a,.lc b])),gcV N (some (.pl (.int (M:Int)))),gcV N x5,gcV N x6]⟩:SS)=_;have e:gcV N (some (.tp [.lc a,.lc b]))=some (.tp [.lc a,.lc b]):=by simp only[gcV,hl,if_true]
  have e1:gcV N (some (.lc 1))=some (.lc 1):=by simp only[gcV,blV,decide_eq_true (show 1<N by omega),if_true]
  have e2:gcV N (some (.lc 2))=some (.lc 2):=by simp only[gcV,blV,decide_eq_true hN,if_true]
  rw[e,e1,e2];rfl
 ·exact h
abbrev lt(scr:D)(M a b:Nat)(x5 x6:Option SV):List (Option SV):=[some (.pl scr),some (.lc 1),some (.lc 2),some (.tp [.lc a,.lc b]),some (.pl (.int (M:Int))),x5,x6]
theorem Gf{scr:D}{M:Nat}{S:List (Option Cl)}{a b:Nat}{x5 x6:Option SV}(h1:S[1]?=some (dt (TD aj)))(h2:S[2]?=some (dt (HD keys row)))(h3:S[a]?=some (dt (TD aj)))(h4:S[b]?=some (dt (HD keys row)))(n1:a≠1)(n2:b≠2)(hB:Bk 120 aj keys row)(hF:Fm keys row){k:Nat}(hk:keys.length=k+1) :
  ∃s',uR ⟨S,lt scr M a b x5 x6⟩=some (.nx s')/\Iv scr M k s':=by
 have kl:=hB.kl;have l1:=c9 h1;have l2:=c9 h2;have la:=c9 h3;have lb:=c9 h4;have na2:a≠2:=oA h3 h2 (λe=>by cases e)
 have nb1:b≠1:=oA h4 h1 (λe=>by cases e)
 have nab:a≠b:=oA h3 h4 (λe=>by cases e)
 obtain⟨S1,hS1⟩:∃S1,S1=S++[dt (TD aj),dt (HD keys row)]:=⟨_,rfl⟩;have lS1:S1.length=S.length+2:=by rw[hS1,IU]
 have low:∀{x:Nat} {d:Option Cl},S[x]?=some d->S1[x]?=some d:=fun{x d} e=>by rw[hS1];exact fY e
 have k0:S1[S.length]?=some (dt (TD aj)):=by rw[hS1];exact ap0
 have k1:S1[S.length+1]?=some (dt (HD keys row)):=by rw[hS1];exact apk (k:=1) rfl
 obtain⟨S2,n,T,aK,L,r,hn,q0,q1,q2,hL,g1,g2,hT,hFT,go⟩:=DU (c:=120) (by omega) hB hF (λz=>by rw[z]at hk;cases hk) (low h3) (low h4) (low h1) (low h2) n1 n2
 have g_a:=go a _ n1 na2 (low h3);have g_b:=go b _ nb1 n2 (low h4);have g_0:=go _ _ (by omega) (by omega) k0
 have g_1:=go _ _ (by omega) (by omega) k1
 obtain⟨S3,hS3⟩:∃S3,S3=((S2.set a (dt (.list []))).set b (dt (.dict []))).set (S1.length+7) (dt (.list (L++[.str "x"]))):=⟨_,rfl⟩;have up:∀{x:Nat} {d:Option Cl},x≠a->x≠b->x≠S1.length+7->S2[x]?=some d->S3[x]?=some d:=fun{x d} e1 e2 e3 e=>by rw[hS3,iR e3,iR e2,iR e1];exact e
 have e0:=up (by omega) (by omega) (by omega) q0
 have e1:=up (by omega) (by omega) (by omega) q1
 have ei:=up (λe=>n1 e.symm) (λe=>nb1 e.symm) (by omega) g1
 have ej:=up (λe=>na2 e.symm) (λe=>n2 e.symm) (by omega) g2
 have e2:S3[S1.length+7]?=some (dt (.list (L++[.str "x"]))):=by rw[hS3];exact zav (by rw[zaM,zaM];exact c9 q2)
 obtain⟨fv,hfv⟩:∃fv:SV,fv=.tp [.pl (.str n),.pl (.int (row n).key),.tp [.lc (S1.length+6),.lc (S1.length+3)],.lc (S1.length+7)]:=⟨_,rfl⟩;refine⟨⟨S3,lt scr M (S1.length+6) (S1.length+3) (some (.tp [.lc S.length,.lc (S.length+1)])) (some fv)⟩,?_,S3,S1.length+6,S1.length+3,T,bw keys n,aK,_,_,rfl,ei,ej,e0,e1,by omega,by omega,hT,hFT,by have:=Ge hB.nd hn;omega⟩
 refine aT (s':=⟨S1,lt scr M a b (some (.tp [.lc S.length,.lc (S.length+1)])) x6⟩) (cN (i:=5) (s':=⟨S1,lt scr M a b x5 x6⟩) (jT (xs:=[.lc S.length,.lc (S.length+1)]) (aW (s1:=⟨S++[dt (TD aj)],lt scr M a b x5 x6⟩) (lh (dC (rs:=[(TD aj,.fz)]) (res:=(TD aj,true)) (aB (ao (av (bJ rfl (cP h1)))) aR) rfl) (nF _)) (aW ((xn (k:=1) (dC (rs:=[(HD keys row,.fz)]) (res:=(HD keys row,true)) (aB (ao (av (bJ rfl (cP (fY h2))))) aR) rfl) (nE _ _) rfl).trans (by rw[hS1];rfl)) dj)) rfl (by simp)) (by simp)) ?_
 refine aT (s':=⟨S2,lt scr M a b (some (.tp [.lc S.length,.lc (S.length+1)])) (some fv)⟩) (cN (i:=6) (jz (aW (aH rfl) (aW (aH rfl) (aW (aH rfl) dj))) (by rw[hfv];exact r)) (by simp)) ?_
 refine aT (nv (gr (jd (test_ev (k:=.fz) (bP (r:=(.none,.fz)) (res:=(.bool false,false)) (ao (av (bJ rfl (by rw[hfv];exact nH q0 q1 q2)))) (ao rfl) rfl)) (yG hB (av (bJ rfl (fZ g_a g_b))) (oY (bJ rfl (fZ g_0 g_1))) (mf (bJ rfl (fZ g_0 g_1)))))) rfl) ?_
 refine aT (s':=⟨S2.set a (dt (.list [])),_⟩) (eY (F8 (ds:=aj.map .str) (dN (aH rfl) g8 rfl) g_a)) ?_;refine aT (s':=⟨(S2.set a (dt (.list []))).set b (dt (.dict [])),_⟩) (eY (DR (es:=cb keys row) (dN (aH rfl) g8 rfl) (by dsimp only;rw[iR (λe=>nab e.symm)];exact g_b))) ?_
 have q2':((S2.set a (dt (.list []))).set b (dt (.dict [])))[S1.length+7]?=some (dt (.list L)):=by rw[iR (by omega),iR (by omega)];exact q2
 refine aT (s':=⟨S3,_⟩) ((eY (nD (k:=S1.length+7) (dN (aH rfl) g8 (by rw[hfv];rfl)) q2' (aW g8 dj) q2' (by omega))).trans (by dsimp only;rw[hS3])) ?_
 refine aT (nv (gr (yG hT (ix4 (k:=2) (bJ rfl (by rw[hfv];exact nH e0 e1 e2)) rfl) (av (bJ rfl (cP ei))) (av (bJ rfl (cP ej))))) rfl) ?_
 exact cN (i:=3) (dN (aH rfl) g8 (by rw[hfv];rfl)) (by simp)
theorem DV{scr:D}{M:Nat}:∀(d:Nat) (s:SS) (fuel:Nat),d<fuel->Iv scr M (M+d) s->∃s',fQ [0,1,2,3,4] zO uR fuel s=some (.nx s')/\Iv scr M M s':=by
 intro d
 induction d with
 |zero=>
  intro s fuel hf h;obtain⟨fuel,rfl⟩:∃g,fuel=g+1:=⟨fuel-1,by omega⟩
  refine⟨s,?_,h⟩;obtain⟨S,a,b,aj,keys,row,x5,x6,rfl,h1,h2,h3,h4,n1,n2,hB,hF,hk⟩:=h;exact ve (gr (ig (l6 (i6 (i:=2) (.inl (bJ rfl (cP h2)))) (b8 (d6 rfl))) (zaO (by omega))))
 |succ d ih=>
  intro s fuel hf h;obtain⟨fuel,rfl⟩:∃g,fuel=g+1:=⟨fuel-1,by omega⟩
  obtain⟨S,a,b,aj,keys,row,x5,x6,rfl,h1,h2,h3,h4,n1,n2,hB,hF,hk⟩:=h;obtain⟨s1,e1,i1⟩:=Gf (scr:=scr) (M:=M) (x5:=x5) (x6:=x6) (k:=M+d) h1 h2 h3 h4 n1 n2 hB hF (by omega)
  have l2:=c9 h2;obtain⟨s2,e2,i2⟩:=ih _ fuel (by omega) (Kl (N:=S.length) l2 i1)
  exact⟨s2,DK (gr (ig (l6 (i6 (i:=2) (.inl (bJ rfl (cP h2)))) (b8 (d6 rfl))) (zaH (by omega)))) e1 rfl e2,i2⟩
theorem Km{m:PM}{ρ:Rho}{u v:Bool}(h:BE m ρ u)(e:u=v):BE m ρ v:=e▸h
theorem DW(ns:List Int)(hl:ns.length<=63)(hb:∀k∈ns,Builtin.Int.intBits k<=1048576):GW [.list (ns.map .int)]=some (.bool true,false):=by
 obtain⟨cs,e1,l1,_⟩:∃cs:List Int,cutD (ns.map .int) none (some (60:Int))=cs.map .int/\cs.length<=60/\True:=by
  obtain⟨cs,e,h1,_⟩:=xi ns 0 60;exact⟨cs,e,h1,trivial⟩
 obtain⟨aj,keys,row,eb,hB,hF⟩:=DG cs (by omega)
 have kl:=hB.kl;obtain⟨M,hM,hle⟩:∃M:Nat,(M:Int)=max 0 ((keys.length:Int)-(if(60:Int)<(keys.length:Int)then 8 else 60))/\M<=keys.length:=by
  by_cases z:(60:Int)<(keys.length:Int)
  ·exact⟨keys.length-8,by rw[if_pos z];omega,by omega⟩
  ·exact⟨0,by rw[if_neg z];omega,by omega⟩
 have i0:Iv (.list (ns.map .int)) M (M+(keys.length-M)) ⟨[dt (.list (cs.map .int)),dt (TD aj),dt (HD keys row),dt (TD aj),dt (HD keys row)],[some (.pl (.list (ns.map .int))),some (.lc 1),some (.lc 2),some (.tp [.lc 3,.lc 4]),some (.pl (.int (M:Int))),none,none]⟩ :=
  ⟨_,3,4,aj,keys,row,none,none,rfl,rfl,rfl,rfl,rfl,by omega,by omega,hB,hF,by omega⟩
 obtain⟨s',lo,iv⟩:=DV (keys.length-M) _ 1000000 (by omega) i0
 obtain⟨S,a,b,d5,keys',aK,x5,x6,rfl,h1,h2,h3,h4,n1,n2,hB',_,hk'⟩:=iv;have body:zP ⟨[],[some (.pl (.list (ns.map .int))),none,none,none,none,none,none]⟩=some (.rt (.pl (.bool true)) ⟨S,[some (.pl (.list (ns.map .int))),some (.lc 1),some (.lc 2),some (.tp [.lc a,.lc b]),some (.pl (.int (M:Int))),x5,x6]⟩):=by
  refine aT (s':=⟨[dt (.list (cs.map .int)),dt (TD aj),dt (HD keys row)],[some (.pl (.list (ns.map .int))),some (.lc 1),some (.lc 2),none,none,none,none]⟩) ?_ ?_
  ·have en:nO (mSl gSl (ah 0) gy (hW (mC (.int 60)))) ⟨[],[some (.pl (.list (ns.map .int))),none,none,none,none,none,none]⟩=some (.ok (.lc 0) ⟨[dt (.list (cs.map .int))],[some (.pl (.list (ns.map .int))),none,none,none,none,none,none]⟩):=lh (show mSl gSl (ah 0) gy (hW (mC (.int 60))) _=some ((.list (cs.map .int),.new),_)from by rw[<-e1];rfl) (Kk cs)
   unfold dW;rw[gT (v:=.tp [.lc 1,.lc 2]) (s':=⟨[dt (.list (cs.map .int)),dt (TD aj),dt (HD keys row)],[some (.pl (.list (ns.map .int))),none,none,none,none,none,none]⟩)]
   ·rfl
   ·unfold yj
    rw[eE (aW en dj)];simp only[rB,rdV,List.getElem?_cons_zero,Option.bind_some,Option.map_some,eb,nF,nE,Bool.and_true,if_true];rfl
  refine aT (s':=⟨[dt (.list (cs.map .int)),dt (TD aj),dt (HD keys row),dt (TD aj),dt (HD keys row)],[some (.pl (.list (ns.map .int))),some (.lc 1),some (.lc 2),some (.tp [.lc 3,.lc 4]),none,none,none]⟩) (cN (i:=3) (s':=⟨[dt (.list (cs.map .int)),dt (TD aj),dt (HD keys row),dt (TD aj),dt (HD keys row)],[some (.pl (.list (ns.map .int))),some (.lc 1),some (.lc 2),none,none,none,none]⟩) (jT (xs:=[.lc 3,.lc 4]) (aW (lh (dC (rs:=[(TD aj,.fz)]) (res:=(TD aj,true)) (aB (ao (av (bJ rfl (cP rfl)))) aR) rfl) (nF _)) (aW (lh (dC (rs:=[(HD keys row,.fz)]) (res:=(HD keys row,true)) (aB (ao (av (bJ rfl (cP rfl)))) aR) rfl) (nE _ _)) dj)) rfl (by simp)) (by simp)) ?_
  obtain⟨s0,hs0⟩:∃s0:SS,s0=⟨[dt (.list (cs.map .int)),dt (TD aj),dt (HD keys row),dt (TD aj),dt (HD keys row)],[some (.pl (.list (ns.map .int))),some (.lc 1),some (.lc 2),some (.tp [.lc 3,.lc 4]),none,none,none]⟩:=⟨_,rfl⟩;have v2:(vw s0)[2]?=some (.fz (HD keys row)):=by rw[hs0];exact bJ rfl (cP rfl)
  have iz:IE (mCB xT (ak (mOp gGt (mCB fR (ak (ah 2) aF)) (mC (.int 60))) aF)) (vw s0) (if(60:Int)<(keys.length:Int)then 1 else 0):=dC (rs:=[(.bool (decide ((60:Int)<(keys.length:Int))),.fz)]) (res:=(.int (if(60:Int)<(keys.length:Int)then 1 else 0),false)) (aB (ao (l6 (i6 (i:=2) (.inl v2)) cS)) aR) (by
   by_cases z:(60:Int)<(keys.length:Int)
   ·rw[if_pos z,zaH z];rfl
   ·rw[if_neg z,zaO z];rfl)
  have ixe:IE (mOp gIx (iJ (ak (mC (.int 60)) (ak (mC (.int 8)) aF))) (mCB xT (ak (mOp gGt (mCB fR (ak (ah 2) aF)) (mC (.int 60))) aF))) (vw s0) (if(60:Int)<(keys.length:Int)then 8 else 60):=bP (r:=(.int (if(60:Int)<(keys.length:Int)then 1 else 0),.fz)) (res:=(.int (if(60:Int)<(keys.length:Int)then 8 else 60),false)) (jI (je (rs:=[(.int 60,.fz),(.int 8,.fz)]) rfl rfl (by simp))) (ao iz) (by
   by_cases z:(60:Int)<(keys.length:Int)
   ·rw[if_pos z,if_pos z];rfl
   ·rw[if_neg z,if_neg z];rfl)
  have mx:IE (mCB t5 (ak (mC (.int 0)) (ak (mOp rj (mCB fR (ak (ah 2) aF)) (mOp gIx (iJ (ak (mC (.int 60)) (ak (mC (.int 8)) aF))) (mCB xT (ak (mOp gGt (mCB fR (ak (ah 2) aF)) (mC (.int 60))) aF)))) aF))) (vw s0) (M:Int):=dC (rs:=[(.int 0,.fz),(.int ((keys.length:Int)-(if(60:Int)<(keys.length:Int)then 8 else 60)),.fz)]) (res:=(.int (M:Int),false)) (aB (ao rfl) (aB (ao (qi (i6 (i:=2) (.inl v2)) ixe)) aR)) (by rw[hM];exact Cq _ _)
  refine aT (s':=⟨[dt (.list (cs.map .int)),dt (TD aj),dt (HD keys row),dt (TD aj),dt (HD keys row)],[some (.pl (.list (ns.map .int))),some (.lc 1),some (.lc 2),some (.tp [.lc 3,.lc 4]),some (.pl (.int (M:Int))),none,none]⟩) (by rw[<-hs0];exact(cN (i:=4) (xk mx) (by rw[hs0];simp)).trans (by rw[hs0];rfl)) ?_
  refine aT lo ?_;exact lR (GY (Ia (u:=true) (Km (qk (dC (rs:=[(TD d5,.fz)]) (res:=(.int (d5.length:Int),false)) (aB (ao (oY (bJ rfl (fZ h3 h4)))) aR) (by show some (PyData.int ((d5.map PyData.str).length:Int),false)=_;rw[zal])) (pJ (.inl (bJ rfl (cP h1))))) (by simp)) (λ_=>Km (qk (dC (rs:=[(HD keys' aK,.fz)]) (res:=(.int (keys'.length:Int),false)) (aB (ao (mf (bJ rfl (fZ h3 h4)))) aR) (by show some (PyData.int ((cb keys' aK).length:Int),false)=_;rw[show(cb keys' aK).length=keys'.length by unfold cb;rw[zal]])) (b8 (d6 rfl))) (by simp[hk'])) (λz=>by cases z)))
 show fnO 1 6 zP [.list (ns.map .int)]=_;unfold fnO;rw[if_pos (show([PyData.list (ns.map .int)]:List D).length=1 from rfl)];show(zP ⟨[],[some (.pl (.list (ns.map .int))),none,none,none,none,none,none]⟩).bind JL=_;rw[body];rfl
end K74
set_option maxHeartbeats 4000000
def PySem.W.Fast.tw881867257053937489:Nat:=0
def PySem.W.Fast.tw5305654074210971397:Nat:=0
def PySem.W.Fast.tw8154682731345424044:Nat:=0
def PySem.W.Fast.tw14294986457650883989:Nat:=0
def PySem.W.Fast.tw6007201920472605087:Nat:=0
def PySem.W.Fast.tw517628355131250028:Nat:=0
def PySem.W.Fast.tw7104497036143668471:Nat:=0
def PySem.W.Fast.tw6190994602295045354:Nat:=0
namespace K74
open PySem L2 Mir
def top(i:Nat):Stmt:=PySem.Challenge.pw_creditworks_k74_least_taken.main.body.getD i (.Pass ⟨0,0,0,0⟩)
abbrev mm:Stmt:=top 20
theorem gU:bO ["_law_tops","_law_held","_law_start","_law_k","_law_j","_law_one","_law_other"] ["_law_tops","_law_held","_law_start"] (aV mm):=⟨rfl,rfl,rfl,by decide+kernel,rfl,by decide+kernel,by decide+kernel⟩
abbrev oD:Stmt:=top 18
theorem cF:bO ["_law_tops","_law_held","_law_name","_law_steps","_law_going","_law_key","_law_above","_law_mark","_law_below","_law_further","_law_marked"] ["_law_tops","_law_held","_law_name"] (aV oD):=⟨rfl,rfl,rfl,by decide+kernel,rfl,by decide+kernel,by decide+kernel⟩
abbrev jU:Stmt:=top 19
theorem rG:bO ["_law_held","_law_one","_law_other"] ["_law_held","_law_one","_law_other"] (aV jU):=⟨rfl,rfl,rfl,by decide+kernel,rfl,by decide+kernel,by decide+kernel⟩
abbrev mn:Stmt:=top 17
theorem dk:bO ["_law_tops","_law_held","_law_name","_law_on","_law_key","_law_above","_law_mark","_law_below"] ["_law_tops","_law_held","_law_name","_law_on"] (aV mn):=⟨rfl,rfl,rfl,by decide+kernel,rfl,by decide+kernel,by decide+kernel⟩
abbrev jf:Stmt:=top 15
theorem f6:bO ["_law_k","_law_letters","_law_name"] ["_law_k"] (aV jf):=⟨rfl,rfl,rfl,by decide+kernel,rfl,by decide+kernel,by decide+kernel⟩
abbrev jV:Stmt:=top 16
theorem rH:bO ["_law_number"] ["_law_number"] (aV jV):=⟨rfl,rfl,rfl,by decide+kernel,rfl,by decide+kernel,by decide+kernel⟩
abbrev lr:Stmt:=top 21
theorem cW:bO ["_law_cells","_law_first","_law_tops","_law_held","_law_k","_law_cell","_law_number","_law_like_here","_law_names","_law_name"] ["_law_cells","_law_first"] (aV lr):=⟨rfl,rfl,rfl,by decide+kernel,rfl,by decide+kernel,by decide+kernel⟩
abbrev lu:Stmt:=top 22
theorem iB:bO ["_law_held","_law_many","_law_above","_law_mark","_law_key","_law_name","_law_below"] ["_law_held","_law_many","_law_above","_law_mark","_law_key"] (aV lu):=⟨rfl,rfl,rfl,by decide+kernel,rfl,by decide+kernel,by decide+kernel⟩
abbrev lx:Stmt:=top 23
theorem f7:bO ["_law_cells","_law_held","_law_tops","_law_cell","_law_name"] ["_law_cells"] (aV lx):=⟨rfl,rfl,rfl,by decide+kernel,rfl,by decide+kernel,by decide+kernel⟩
abbrev jg:Stmt:=top 6
theorem ly:bO ["pile","marked"] ["pile"] (aV jg):=⟨rfl,rfl,rfl,by decide+kernel,rfl,by decide+kernel,by decide+kernel⟩
abbrev mq:Stmt:=top 4
theorem xp:bO ["held","name"] ["held","name"] (aV mq):=⟨rfl,rfl,rfl,by decide+kernel,rfl,by decide+kernel,by decide+kernel⟩
abbrev jW:Stmt:=top 8
theorem rJ:bO ["pile"] ["pile"] (aV jW):=⟨rfl,rfl,rfl,by decide+kernel,rfl,by decide+kernel,by decide+kernel⟩
abbrev yI:Stmt:=top 13
theorem vn:bO ["held","name","on","row"] ["held","name","on"] (aV yI):=⟨rfl,rfl,rfl,by decide+kernel,rfl,by decide+kernel,by decide+kernel⟩
abbrev jX:Stmt:=top 12
theorem cu:bO ["pile","held","alone","steps","top","on","name","lesser"] ["pile"] (aV jX):=⟨rfl,rfl,rfl,by decide+kernel,rfl,by decide+kernel,by decide+kernel⟩
abbrev qY:Stmt:=top 5
theorem Be:bO ["row"] ["row"] (aV qY):=⟨rfl,rfl,rfl,by decide+kernel,rfl,by decide+kernel,by decide+kernel⟩
abbrev mr:Stmt:=top 11
theorem eG:bO ["pile","name","held","row","tops","steps","lower","hung"] ["pile","name"] (aV mr):=⟨rfl,rfl,rfl,by decide+kernel,rfl,by decide+kernel,by decide+kernel⟩
abbrev jY:Stmt:=top 10
theorem jh:bO ["pile","name","taken"] ["pile"] (aV jY):=⟨rfl,rfl,rfl,by decide+kernel,rfl,by decide+kernel,by decide+kernel⟩
abbrev jZ:Stmt:=top 7
theorem cZ:bO ["n","most","lesser","greater","total"] ["n"] (aV jZ):=⟨rfl,rfl,rfl,by decide+kernel,rfl,by decide+kernel,by decide+kernel⟩
abbrev gu:Stmt:=top 26
theorem nI:bO ["_law_tops","_law_held","_law_step"] ["_law_tops","_law_held","_law_step"] (aV gu):=⟨rfl,rfl,rfl,by decide+kernel,rfl,by decide+kernel,by decide+kernel⟩
abbrev j0:Stmt:=top 27
theorem c7:bO ["_law_tops","_law_held","_law_name","_law_steps","_law_below","_law_one","_law_key","_law_above","_law_mark","_law_under","_law_step"] ["_law_tops","_law_held","_law_name","_law_steps"] (aV j0):=⟨rfl,rfl,rfl,by decide+kernel,rfl,by decide+kernel,by decide+kernel⟩
abbrev iS:Stmt:=top 24
theorem o9:bO ["_law_found","_law_due"] ["_law_found","_law_due"] (aV iS):=⟨rfl,rfl,rfl,by decide+kernel,rfl,by decide+kernel,by decide+kernel⟩
abbrev ji:Stmt:=top 25
theorem iT:bO ["_law_found","_law_tops","_law_held","_law_name","_law_entry"] ["_law_found","_law_tops","_law_held"] (aV ji):=⟨rfl,rfl,rfl,by decide+kernel,rfl,by decide+kernel,by decide+kernel⟩
abbrev lz:Stmt:=top 28
theorem eO:bO ["_law_pile","_law_tops","_law_held","_law_price","_law_ahead","_law_found","_law_key","_law_name"] ["_law_pile","_law_tops","_law_held"] (aV lz):=⟨rfl,rfl,rfl,by decide+kernel,rfl,by decide+kernel,by decide+kernel⟩
abbrev z4:Stmt:=top 29
theorem lA:bO ["_law_script","_law_tops","_law_held","_law_pile","_law_least","_law_kept","_law_found"] ["_law_script"] (aV z4):=⟨rfl,rfl,rfl,by decide+kernel,rfl,by decide+kernel,by decide+kernel⟩
local macro_rules | `(tactic| walk_at "l") => `(tactic| first | exact Or.inl rfl | exact Or.inr rfl)
section
variable{P:Program}{w:World}{K:zag}{mg:Str->Option Value}{base:Heap}
def g9(mg:Str->Option Value):Prop:=∀x∈(["bool","dict","enumerate","int","isinstance","len","list","max","min","range","set","tuple"]:List Str),mg x=none
theorem xq(Z:g9 mg)(T:Top K mg "_law_like" mm) :Def P w K mg base CX0 1 "_law_like" ["_law_tops","_law_held","_law_start"] (spM jP):=by
 have bQ:mg "len"=none:=Z _ (by decide+kernel)
 have nJ:mg "range"=none:=Z _ (by decide+kernel)
 refine T.def gU (λvs H Q E h=>e8 h) (λ_ _ _ _ _ _ us hl=>match us,hl with| [_,_,_],_=>rfl) λf cdv A outer s H vs Q E hr h=>?_
 have hu:=hr.units;exact⟨_,(ar (jC PassesOwn.never rfl (nN rfl nJ (aa (aM (bc (K:=K) rfl) rfl bQ zaE (aa (pv 0) au)) au)) (a9 (i:=3) gU.nd rfl (by walk_at "l"))
   (aJ (jC PassesOwn.never rfl (nN rfl nJ (aa (pv 3) au)) (a9 (i:=4) gU.nd rfl (by walk_at "l"))
   (ar (a6 (i:=5) gU.nd rfl (by walk_at "l") (aP (aC (K:=K) rfl) (pv 0) (bM ee (bM (e9 (K:=K) rfl) (pv 2) (pv 3)) (aM (bc (K:=K) rfl) rfl bQ zaE (aa (pv 0) au))) (λ_ _=>rfl)))
   (ar (a6 (i:=6) gU.nd rfl (by walk_at "l") (aP (aC (K:=K) rfl) (pv 0) (bM ee (bM (e9 (K:=K) rfl) (pv 2) (pv 4)) (aM (bc (K:=K) rfl) rfl bQ zaE (aa (pv 0) au))) (λ_ _=>rfl)))
   (aJ (dP (bD (gp (K:=K) rfl hu) (aM (bc (K:=K) rfl) rfl bQ zaE (aa (aP (aC (K:=K) rfl) (ck (hv1 hu) (pv 1) (pv 5) (λ_ _=>rfl)) aw (λ_ _=>rfl)) au)) (aM (bc (K:=K) rfl) rfl bQ zaE (aa (aP (aC (K:=K) rfl) (ck (hv1 hu) (pv 1) (pv 6) (λ_ _=>rfl)) aw (λ_ _=>rfl)) au)) (bE _))
   (aJ (bC (iF (aa (pv 5) (aa (pv 6) au)))))
   cz)))))))
   (aJ (bC (iF au)))),
   g6 (n:=3) (k:=4) (a7 (tX (tU (ai (bU dG (ai af aD)) aD)) cA
   (tX (tU (ai af aD)) cA
   (a7 (cG (ay bV af (ay J_I (ay jl af af) (bU dG (ai af aD)))))
   (a7 (cG (ay bV af (ay J_I (ay jl af af) (bU dG (ai af aD)))))
   (iK (bh (ay nS (bU dG (ai (ay bV (ay d4 af af) az) aD)) (bU dG (ai (ay bV (ay d4 af af) az) aD))))
   (cV (jG (ai af (ai af aD))))
   eK)))))
   (cV (jG aD))) rfl h⟩
theorem yJ(Z:g9 mg)(T:Top K mg "_law_cut" oD) :Def P w K mg base CX0 1 "_law_cut" ["_law_tops","_law_held","_law_name"] (spJ iD):=by
 have eP:mg "tuple"=none:=Z _ (by decide+kernel)
 refine T.def cF (λvs H Q E h=>zm h) (λ_ _ _ _ _ _ us hl=>match us,hl with| [_,_,_],_=>rfl) λf cdv A outer s H vs Q E hr h=>?_
 have hu:=hr.units;exact⟨_,(ar (a6 (i:=3) cF.nd rfl (by walk_at "l") (iF au))
   (ar (a6 (i:=4) cF.nd rfl (by walk_at "l") (gx yT (aP (aC (K:=K) rfl) (ck (hv1 hu) (pv 1) (pv 2) (λ_ _=>rfl)) aw (λ_ _=>rfl)) fC (bE _)))
   (ar (mz PassesOwn.never (dq (pv 4))
   (ar (mi (ck (hv1 hu) (pv 1) (pv 2) (λ_ _=>rfl)) (ib rfl (bA (a9 (i:=5) cF.nd rfl (by walk_at "l")) (bA (a9 (i:=6) cF.nd rfl (by walk_at "l")) (bA (a9 (i:=7) cF.nd rfl (by walk_at "l")) (bA (a9 (i:=8) cF.nd rfl (by walk_at "l")) h8))))))
   (ar (eL (hv1 hu) (pv 1) (pv 2) (bY (aa (pv 5) (aa fC (aa fq (aa (pv 8) au))))) rfl)
   (ar (de (fL (K:=K) rfl zaJ zaV zaU eJ (pv 0) (aa (pv 2) au)))
   (ar (de (fL (K:=K) rfl zaJ zaV zaU eJ (pv 3) (aa (bY (aa gh (aa (pv 2) au))) au)))
   (ar (mi (ck (hv1 hu) (pv 1) (pv 6) (λ_ _=>rfl)) (ib rfl (bA (a9 (i:=5) cF.nd rfl (by walk_at "l")) (bA (a9 (i:=9) cF.nd rfl (by walk_at "l")) (bA (a9 (i:=10) cF.nd rfl (by walk_at "l")) (bA (a9 (i:=8) cF.nd rfl (by walk_at "l")) h8))))))
   (ar (a6 (i:=8) cF.nd rfl (by walk_at "l") (dz (oS (K:=K) rfl) rfl eP za2 (aa (vQ (fr:=[("_law_name",2)]) rfl ⟨rfl,rfl,rfl,rfl,rfl,rfl,by decide+kernel⟩ (pz (K:=K) rfl (pv 8)) (λ_ _ _ _=>(pj (bD (fK (K:=K) rfl hu) (pv 0) (pv 1) (bE _)))) (λ_ _ _ _=>(pv 0))) au)))
   (ar (eL (hv1 hu) (pv 1) (pv 6) (bY (aa (pv 5) (aa (pv 9) (aa (gx yT (pv 9) fC (bE _)) (aa (pv 8) au))))) rfl)
   (ar (a6 (i:=4) cF.nd rfl (by walk_at "l") (pv 10))
   (aJ (a6 (i:=2) cF.nd rfl (by walk_at "l") (pv 6))))))))))))
   (aJ (bC (pv 3)))))),
   zl (n:=3) (k:=8) (a7 (cG (jG aD))
   (a7 (cG (ay za (ay bV (ay d4 af af) az) jF))
   (a7 (v3 (fw af)
   (a7 (pq (ay d4 af af) (lH (cj cA (cj cA (cj cA (cj cA lD))))))
   (a7 (i4 (i:=1) (dA (ai af (ai jF (ai iX (ai af aD))))) af)
   (a7 (iZ (qb mL (ai af aD)))
   (a7 (iZ (qb mL (ai (dA (ai jc (ai af aD))) aD)))
   (a7 (pq (ay d4 af af) (lH (cj cA (cj cA (cj cA (cj cA lD))))))
   (a7 (cG (bU zH (ai (vY (B8 af) (bh (ay mK af af)) af) aD)))
   (a7 (i4 (i:=1) (dA (ai af (ai af (ai (ay za af jF) (ai af aD))))) af)
   (a7 (cG af)
   (cG af))))))))))
   (cV af)))) rfl h⟩
theorem rK(Z:g9 mg)(T:Top K mg "_law_before" jU) :Def P w K mg base CX0 1 "_law_before" ["_law_held","_law_one","_law_other"] (spM df):=by
 refine T.def rG (λvs H Q E h=>e8 h) (λ_ _ _ _ _ _ us hl=>match us,hl with| [_,_,_],_=>rfl) λf cdv A outer s H vs Q E hr h=>?_
 have hu:=hr.units;exact⟨_,(aJ (bC (gx (C7 (K:=K) rfl (Nat.lt_of_le_of_lt (Nat.le_add_right _ _) hu)) (bY (aa (aP (aC (K:=K) rfl) (ck (hv1 hu) (pv 0) (pv 1) (λ_ _=>rfl)) aw (λ_ _=>rfl)) (aa (pv 1) au))) (bY (aa (aP (aC (K:=K) rfl) (ck (hv1 hu) (pv 0) (pv 2) (λ_ _=>rfl)) aw (λ_ _=>rfl)) (aa (pv 2) au))) (bE _)))),
   g6 (n:=3) (k:=0) (cV (ay GK (dA (ai (ay bV (ay d4 af af) az) (ai af aD))) (dA (ai (ay bV (ay d4 af af) az) (ai af aD))))) rfl h⟩
theorem xr(Z:g9 mg)(T:Top K mg "_law_hung" mn) :Def P w K mg base CX0 1 "_law_hung" ["_law_tops","_law_held","_law_name","_law_on"] (spJ eA):=by
 refine T.def dk (λvs H Q E h=>zm h) (λ_ _ _ _ _ _ us hl=>match us,hl with| [_,_,_,_],_=>rfl) λf cdv A outer s H vs Q E hr h=>?_
 have hu:=hr.units;exact⟨_,(ar (mi (ck (hv1 hu) (pv 1) (pv 2) (λ_ _=>rfl)) (ib rfl (bA (a9 (i:=4) dk.nd rfl (by walk_at "l")) (bA (a9 (i:=5) dk.nd rfl (by walk_at "l")) (bA (a9 (i:=6) dk.nd rfl (by walk_at "l")) (bA (a9 (i:=7) dk.nd rfl (by walk_at "l")) h8))))))
   (ar (eL (hv1 hu) (pv 1) (pv 2) (bY (aa (pv 4) (aa (pv 3) (aa fq (aa (pv 7) au))))) rfl)
   (ar (mi (ck (hv1 hu) (pv 1) (pv 3) (λ_ _=>rfl)) (ib rfl (bA (a9 (i:=4) dk.nd rfl (by walk_at "l")) (bA (a9 (i:=5) dk.nd rfl (by walk_at "l")) (bA (a9 (i:=6) dk.nd rfl (by walk_at "l")) (bA (a9 (i:=7) dk.nd rfl (by walk_at "l")) h8))))))
   (ar (eL (hv1 hu) (pv 1) (pv 3) (bY (aa (pv 4) (aa (pv 5) (aa (pv 6) (aa (bM (wU (K:=K) rfl) (pv 7) (bY (aa (pv 2) au))) au))))) rfl)
   (aJ (de (fL (K:=K) rfl zaJ PySem.F.slot_list_remove PySem.F.type_list_remove zF (pv 0) (aa (pv 2) au)))))))),
   zl (n:=4) (k:=4) (a7 (pq (ay d4 af af) (lH (cj cA (cj cA (cj cA (cj cA lD))))))
   (a7 (i4 (i:=1) (dA (ai af (ai af (ai iX (ai af aD))))) af)
   (a7 (pq (ay d4 af af) (lH (cj cA (cj cA (cj cA (cj cA lD))))))
   (a7 (i4 (i:=1) (dA (ai af (ai af (ai af (ai (ay Dh af (dA (ai af aD))) aD))))) af)
   (iZ (qb wM (ai af aD))))))) rfl h⟩
theorem qZ(Z:g9 mg)(T:Top K mg "_law_name_by" jf) :Def P w K mg base CX0 1 "_law_name_by" ["_law_k"] (spM cL):=by
 refine T.def f6 (λvs H Q E h=>e8 h) (λ_ _ _ _ _ _ us hl=>match us,hl with| [_],_=>rfl) λf cdv A outer s H vs Q E hr h=>?_
 have hu:=hr.units;exact⟨_,(ar (a6 (i:=1) f6.nd rfl (by walk_at "l") gh)
   (ar (a6 (i:=2) f6.nd rfl (by walk_at "l") (bM (e9 (K:=K) rfl) (aP (aC (K:=K) rfl) (pv 1) (bM ee (bM ia (pv 0) aw) aw) (λ_ _=>rfl)) (aP (aC (K:=K) rfl) (pv 1) (bM ee (bM ia (pv 0) aw) aw) (λ_ _=>rfl))))
   (ar (dP (bD (gp (K:=K) rfl hu) (bM ee (pv 0) aw) aw (bE _))
   (aJ (a6 (i:=2) f6.nd rfl (by walk_at "l") (bM (e9 (K:=K) rfl) (pv 2) (aP (aC (K:=K) rfl) (iF (aa gh (aa gh (aa gh (aa gh (aa gh (aa gh au))))))) (bM ee (bM ia (pv 0) aw) aw) (λ_ _=>rfl)))))
   cz)
   (aJ (bC (pv 2)))))),
   g6 (n:=1) (k:=2) (a7 (cG jc)
   (a7 (cG (ay jl (ay GH af (ay J_I (ay J_I af az) az)) (ay GH af (ay J_I (ay J_I af az) az))))
   (a7 (iK (bh (ay nS (ay J_I af az) az))
   (cG (ay jl af (ay bV (jG (ai jc (ai jc (ai jc (ai jc (ai jc (ai jc aD))))))) (ay J_I (ay J_I af az) az))))
   eK)
   (cV af)))) rfl h⟩
theorem rL(Z:g9 mg)(T:Top K mg "_law_key_by" jV) :Def P w K mg base CX0 1 "_law_key_by" ["_law_number"] (spM dh):=by
 refine T.def rH (λvs H Q E h=>e8 h) (λ_ _ _ _ _ _ us hl=>match us,hl with| [_],_=>rfl) λf cdv A outer s H vs Q E hr h=>?_
 have hu:=hr.units;exact⟨_,(ar (dP (bD (gp (K:=K) rfl hu) (bM ee (pv 0) aw) aw (bE _))
   (aJ (bC (bM pR (bM ee (bM ia (pv 0) aw) aw) aw)))
   cz)
   (ar (dP (bD (gp (K:=K) rfl hu) (bM ee (pv 0) aw) aw (bE _))
   (aJ (bC (bM pR (bM ee (bM ia (pv 0) aw) aw) aw)))
   cz)
   (aJ (bC (bM pR (bM ee (bM ia (pv 0) aw) (bM (e9 (K:=K) rfl) (bM tZ aw (bM By aw aw)) aw)) (bM By aw aw)))))),
   g6 (n:=1) (k:=0) (a7 (iK (bh (ay nS (ay J_I af az) az))
   (cV (ay Ce (ay J_I (ay J_I af az) az) az))
   eK)
   (a7 (iK (bh (ay nS (ay J_I af az) az))
   (cV (ay Ce (ay J_I (ay J_I af az) az) az))
   eK)
   (cV (ay Ce (ay J_I (ay J_I af az) (ay jl (ay Cg az (ay J_I az az)) az)) (ay J_I az az))))) rfl h⟩
theorem rM(Z:g9 mg)(T:Top K mg "_law_built" lr)(oE:Def P w K mg base CX0 1 "_law_cut" ["_law_tops","_law_held","_law_name"] (spJ iD))(gv:Def P w K mg base CX0 1 "_law_hung" ["_law_tops","_law_held","_law_name","_law_on"] (spJ eA))(eQ:Def P w K mg base CX0 1 "_law_before" ["_law_held","_law_one","_law_other"] (spM df))(dO:Def P w K mg base CX0 1 "_law_key_by" ["_law_number"] (spM dh))(cw:Def P w K mg base CX0 1 "_law_name_by" ["_law_k"] (spM cL))(mv:Def P w K mg base CX0 1 "_law_like" ["_law_tops","_law_held","_law_start"] (spM jP)):Def P w K mg base CX0 2 "_law_built" ["_law_cells","_law_first"] (spD gO):=by
 have o4:mg "enumerate"=none:=Z _ (by decide+kernel)
 have bQ:mg "len"=none:=Z _ (by decide+kernel)
 have j4:mg "list"=none:=Z _ (by decide+kernel)
 refine T.def cW (λvs H Q E h=>zk h) (λ_ _ _ _ _ _ us hl=>match us,hl with| [_,_],_=>rfl) λf cdv A outer s H vs Q E hr h=>?_
 have hu:=hr.units;exact⟨_,(ar (a6 (i:=2) cW.nd rfl (by walk_at "l") (iF au))
   (ar (a6 (i:=3) cW.nd rfl (by walk_at "l") qv)
   (ar (jC PassesOwn.never rfl (Fd rfl o4 (aa (pv 0) au)) (ib rfl (bA (a9 (i:=4) cW.nd rfl (by walk_at "l")) (bA (a9 (i:=5) cW.nd rfl (by walk_at "l")) h8)))
   (ar (a6 (i:=6) cW.nd rfl (by walk_at "l") (bM ia (pv 5) aw))
   (ar (a6 (i:=7) cW.nd rfl (by walk_at "l") (bW mv (hr.mono (by omega)) (aa (pv 2) (aa (pv 3) (aa (bM ee (pv 6) aw) au)))))
   (ar (a6 (i:=8) cW.nd rfl (by walk_at "l") (dz (wH rfl) rfl j4 PyProof.Rows.boot_list (aa (pv 3) au)))
   (aJ (dP (PW.pt (Bm (bD (gp (K:=K) rfl hu) (bM ee (pv 5) aw) aw (bE _)) (yQ (bD rW (aM (bc (K:=K) rfl) rfl bQ zaE (aa (pv 8) au)) aw (bE _)))))
   (aJ (de (bW oE (hr.mono (by omega)) (aa (pv 2) (aa (pv 3) (aa (aP (aC (K:=K) rfl) (pv 8) (bM ee (pv 6) (aM (bc (K:=K) rfl) rfl bQ zaE (aa (pv 8) au))) (λ_ _=>rfl)) au))))))
   (aJ (dP (PW.pt (Bm (bD rW (bM ee (pv 5) aw) aw (bE _)) (yQ (bD (fK (K:=K) rfl hu) (pv 7) (iF au) (bE _)))))
   (ar (dP (dq (bW eQ (hr.mono (by omega)) (aa (pv 3) (aa (aP (aC (K:=K) rfl) (pv 7) aw (λ_ _=>rfl)) (aa (aP (aC (K:=K) rfl) (pv 7) aw (λ_ _=>rfl)) au)))))
   (aJ (de (ud (K:=K) rfl zaJ PySem.F.slot_list_reverse PySem.F.type_list_reverse xN (pv 7))))
   cz)
   (aJ (de (bW gv (hr.mono (by omega)) (aa (pv 2) (aa (pv 3) (aa (aP (aC (K:=K) rfl) (pv 7) aw (λ_ _=>rfl)) (aa (aP (aC (K:=K) rfl) (pv 7) aw (λ_ _=>rfl)) au))))))))
   (ar (a6 (i:=9) cW.nd rfl (by walk_at "l") (bW cw (hr.mono (by omega)) (aa (bM (e9 (K:=K) rfl) (pv 1) (pv 4)) au)))
   (ar (eL (hv1 hu) (pv 3) (pv 9) (bY (aa (bW dO (hr.mono (by omega)) (aa (pv 6) au)) (aa fC (aa fq (aa (bY au) au))))) rfl)
   (aJ (de (fL (K:=K) rfl zaJ zaV zaU eJ (pv 2) (aa (pv 9) au))))))))))))))
   (aJ (bC (bY (aa (pv 2) (aa (pv 3) au)))))))),
   zg (n:=2) (k:=8) (nX (cG (jG aD))
   (nX (cG uu)
   (nX (tX (Fp (ai af aD)) (lH (cj cA (cj cA lD)))
   (a7 (cG (ay J_I af az))
   (a7 (cG (cJ (ai af (ai af (ai (ay J_I af az) aD)))))
   (a7 (cG (bU E9 (ai af aD)))
   (iK (BW (bh (ay nS (ay J_I af az) az)) (bh (ay xS (bU dG (ai af aD)) az)))
   (iZ (wo (i:=2) (j:=3) (ai (ay bV af (ay J_I af (bU dG (ai af aD)))) aD)))
   (iK (BW (bh (ay xS (ay J_I af az) az)) (bh (ay mK af (jG aD))))
   (a7 (iK (fw (cJ (ai af (ai (ay bV af az) (ai (ay bV af az) aD)))))
   (iZ (Es As))
   eK)
   (iZ (wo (i:=2) (j:=3) (ai (ay bV af az) (ai (ay bV af az) aD)))))
   (a7 (cG (cJ (ai (ay jl af af) aD)))
   (a7 (i4 (i:=3) (dA (ai (cJ (ai af aD)) (ai jF (ai iX (ai (dA aD) aD))))) af)
   (iZ (qb mL (ai af aD)))))))))))
   (Ct (i:=2) (j:=3))))) rfl h⟩
theorem nK(Z:g9 mg)(T:Top K mg "_law_grown" lu)(cw:Def P w K mg base CX0 1 "_law_name_by" ["_law_k"] (spM cL)):∀n,Def P w K mg base CX0 (2+n) "_law_grown" ["_law_held","_law_many","_law_above","_law_mark","_law_key"] (spI (eC n))
 |0=>T.def iB (λvs H Q E h=>by obtain⟨_,_,_,_,_,_,_,_,_,_,_,_,_,e,_⟩:=h;cases e) (λ_ _ _ _ _ _ us hl=>match us,hl with| [_,_,_,_,_],_=>rfl) λf cdv A outer s H vs Q E hr h=>by obtain⟨_,_,_,_,_,_,_,_,_,_,_,_,_,e,_⟩:=h;cases e
 |n+1=>by
  have gW:=nK Z T cw n;have eP:mg "tuple"=none:=Z _ (by decide+kernel)
  have nJ:mg "range"=none:=Z _ (by decide+kernel)
  have z5:mg "max"=none:=Z _ (by decide+kernel)
  have bQ:mg "len"=none:=Z _ (by decide+kernel)
  refine T.def iB (λvs H Q E h=>EH h) (λ_ _ _ _ _ _ us hl=>match us,hl with| [_,_,_,_,_],_=>rfl) λf cdv A outer s H vs Q E hr h=>?_
  have hu:=hr.units;exact⟨_,(ar (a6 (i:=5) iB.nd rfl (by walk_at "l") (bW cw (hr.mono (by first|omega|(show _<=_+n;omega))) (aa (aM eM rfl bQ zaE (aa (pv 0) au)) au)))
   (ar (eL (hv1 hu) (pv 0) (pv 5) (bY (aa (pv 4) (aa (pv 2) (aa (pv 3) (aa (bY au) au))))) rfl)
   (ar (pW (i0:=6) (fr:=[("_law_held",0),("_law_name",5),("_law_key",4)]) rfl iB.nd rfl (by walk_at "l") ⟨rfl,rfl,rfl,rfl,rfl,rfl,by decide+kernel⟩ (nN rfl nJ (aa (pv 1) au)) (λ_ _ _ _=>ph) (λ_ _ _ _=>(bW gW (hr.mono (zap _)) (aa (pv 1) (aa (aM (rX rfl) rfl z5 PyProof.Rows.boot_max (aa aw (aa (bM pR (pv 0) aw) au))) (aa (pv 2) (aa (gx rW (pv 0) aw (bE _)) (aa (bM (e9 (K:=K) rfl) (pv 3) aw) au))))))))
   (ar (eL (hv1 hu) (pv 0) (pv 5) (bY (aa (pv 4) (aa (pv 2) (aa (pv 3) (aa (dz (oS (K:=K) rfl) rfl eP za2 (aa (pv 6) au)) au))))) rfl)
   (aJ (bC (pv 5))))))),
   EG (n:=5) (k:=2) (a7 (cG (cJ (ai (bU jO (ai af aD)) aD)))
   (a7 (i4 (i:=0) (dA (ai af (ai af (ai af (ai (dA aD) aD))))) af)
   (a7 (cG (Iy (i:=0) (j:=0) rfl (tU (ai af aD)) (ai (bU Gq (ai az (ai (ay Ce af az) aD))) (ai af (ai (ay xS af az) (ai (ay jl af az) aD))))))
   (a7 (i4 (i:=0) (dA (ai af (ai af (ai af (ai (bU zH (ai af aD)) aD))))) af)
   (cV af))))) rfl h⟩
theorem rN(Z:g9 mg)(T:Top K mg "_law_begun" lx)(dO:Def P w K mg base CX0 1 "_law_key_by" ["_law_number"] (spM dh))(cw:Def P w K mg base CX0 1 "_law_name_by" ["_law_k"] (spM cL))(gW:Def P w K mg base CX0 14 "_law_grown" ["_law_held","_law_many","_law_above","_law_mark","_law_key"] (spI (eC 12)))(j5:Def P w K mg base CX0 2 "_law_built" ["_law_cells","_law_first"] (spD gO)):Def P w K mg base CX0 15 "_law_begun" ["_law_cells"] (spD gP):=by
 have bQ:mg "len"=none:=Z _ (by decide+kernel)
 refine T.def f7 (λvs H Q E h=>zk h) (λ_ _ _ _ _ _ us hl=>match us,hl with| [_],_=>rfl) λf cdv A outer s H vs Q E hr h=>?_
 have hu:=hr.units;exact⟨_,(ar (dP (PW.pt (fu (bD (gp (K:=K) rfl hu) (pv 0) (iF au) (bE _)) (gX (bD (fK (K:=K) rfl hu) (bM ee (aP (aC (K:=K) rfl) (pv 0) aw (λ_ _=>rfl)) aw) aw (bE _))))) (aJ (bC (bW j5 (hr.mono (by omega)) (aa (pv 0) (aa aw au))))) cz)
   (ar (a6 (i:=1) f7.nd rfl (by walk_at "l") qv)
   (ar (a6 (i:=2) f7.nd rfl (by walk_at "l") (iF (aa (bW gW (hr.mono (by omega)) (aa (pv 1) (aa (bM ee (bM ia (aP (aC (K:=K) rfl) (pv 0) aw (λ_ _=>rfl)) aw) aw) (aa fC (aa fq (aa (bW dO (hr.mono (by omega)) (aa (bM ia (aP (aC (K:=K) rfl) (pv 0) aw (λ_ _=>rfl)) aw) au)) au)))))) au)))
   (ar (jC PassesOwn.never rfl (jm (K:=K) rfl (mD (mN (K:=K) rfl) (pv 0) (mB aw) (mB aw))) (a9 (i:=3) f7.nd rfl (by walk_at "l"))
   (ar (a6 (i:=4) f7.nd rfl (by walk_at "l") (bW cw (hr.mono (by omega)) (aa (aM eM rfl bQ zaE (aa (pv 1) au)) au)))
   (ar (eL (hv1 hu) (pv 1) (pv 4) (bY (aa (bW dO (hr.mono (by omega)) (aa (pv 3) au)) (aa fC (aa fq (aa (bY au) au))))) rfl)
   (aJ (de (fL (K:=K) rfl zaJ zaV zaU eJ (pv 2) (aa (pv 4) au)))))))
   (aJ (bC (bY (aa (pv 2) (aa (pv 1) au))))))))),
   zg (n:=1) (k:=4) (JC (fG (bh (ay nS af (jG aD))) (bh (ay mK (ay J_I (ay bV af az) az) az))) (EI (ai af (ai az aD)))
   (nX (cG uu)
   (nX (cG (jG (ai (Cr (i:=1) (ai (ay J_I (ay J_I (ay bV af az) az) az) (ai jF (ai iX (ai (cJ (ai (ay J_I (ay bV af az) az) aD)) aD))))) aD)))
   (nX (tX (Ep (yZ Ex af (mH az) (mH az))) cA
   (a7 (cG (cJ (ai (bU jO (ai af aD)) aD)))
   (a7 (i4 (i:=1) (dA (ai (cJ (ai af aD)) (ai jF (ai iX (ai (dA aD) aD))))) af)
   (iZ (qb mL (ai af aD))))))
   (Ct (i:=2) (j:=1)))))) rfl h⟩
theorem q8(Z:g9 mg)(T:Top K mg "pile_credit" jg) :Def P w K mg base CX0 1 "pile_credit" ["pile"] (spM eX):=by
 have bQ:mg "len"=none:=Z _ (by decide+kernel)
 refine T.def ly (λvs H Q E h=>e8 h) (λ_ _ _ _ _ _ us hl=>match us,hl with| [_],_=>rfl) λf cdv A outer s H vs Q E hr h=>?_
 have hu:=hr.units;exact⟨_,(ar (zE (pW (i0:=1) (fr:=[("pile",0)]) rfl ly.nd rfl (by walk_at "l") ⟨rfl,rfl,rfl,rfl,rfl,rfl,by decide+kernel⟩ (zC (aP (aC (K:=K) rfl) (pv 0) aw (λ_ _=>rfl))) (λ_ _ _ _=>(pj (dq (aP (aC (K:=K) rfl) (ck (hv1 hu) (aP (aC (K:=K) rfl) (pv 1) aw (λ_ _=>rfl)) (pv 0) (λ_ _=>rfl)) aw (λ_ _=>rfl))))) (λ_ _ _ _=>(pv 0))))
   (aJ (bC (bM (e9 (K:=K) rfl) (aM (bc (K:=K) rfl) rfl bQ zaE (aa (aP (aC (K:=K) rfl) (pv 0) aw (λ_ _=>rfl)) au)) (bM tZ aw (aM (bc (K:=K) rfl) rfl bQ zaE (aa (pv 1) au))))))),
   g6 (n:=1) (k:=1) (a7 (cG (C3 (Fb (j:=1) qB) (fw (ay bV (ay d4 (ay bV af az) af) az)) af))
   (cV (ay jl (bU dG (ai (ay bV af az) aD)) (ay Cg az (bU dG (ai af aD)))))) rfl h⟩
theorem xt(Z:g9 mg)(T:Top K mg "standing" mq) :Def P w K mg base CX0 1 "standing" ["held","name"] (spM c8):=by
 refine T.def xp (λvs H Q E h=>e8 h) (λ_ _ _ _ _ _ us hl=>match us,hl with| [_,_],_=>rfl) λf cdv A outer s H vs Q E hr h=>?_
 have hu:=hr.units;exact⟨_,(aJ (bC (bY (aa (aP (aC (K:=K) rfl) (ck (hv1 hu) (pv 0) (pv 1) (λ_ _=>rfl)) aw (λ_ _=>rfl)) (aa (pv 1) au))))),
   g6 (n:=2) (k:=0) (cV (dA (ai (ay bV (ay d4 af af) az) (ai af aD)))) rfl h⟩
theorem rO(Z:g9 mg)(hK:(gF K).isSome=true)(T:Top K mg "least_name" jW)(fk:Def P w K mg base CX0 1 "standing" ["held","name"] (spM c8)):Def P w K mg base CX0 4 "least_name" ["pile"] (spM iq):=by
 have z6:mg "min"=none:=Z _ (by decide+kernel)
 have bQ:mg "len"=none:=Z _ (by decide+kernel)
 refine T.K0 hK rfl (by decide+kernel) rJ (λvs H Q E h=>e8 h) (λ_ _ _ _ _ _ us hl=>match us,hl with| [_],_=>rfl) λf cdv A outer s H vs Q E hL hr h=>?_
 have hu:=hr.units;exact⟨_,(ar (dP (bD (gp (K:=K) rfl hu) (aM (bc (K:=K) rfl) rfl bQ zaE (aa (aP (aC (K:=K) rfl) (pv 0) aw (λ_ _=>rfl)) au)) aw (bE _))
   (aJ Br)
   cz)
   (aJ (bC (Fu (k:=1) (fr:=[("pile",0)]) ⟨rfl,rfl,rfl,rfl,rfl,rfl,by decide+kernel⟩ hL (hr.mono (by omega)) rfl z6 (aP (aC (K:=K) rfl) (pv 0) aw (λ_ _=>rfl)) (λ_ _ _ _=>(bW fk (hr.lam (by omega) _) (aa (aP (aC (K:=K) rfl) (pv 1) aw (λ_ _=>rfl)) (aa (pv 0) au)))) (λ_ _ _ _ _=>rfl))))),
   g6 (n:=1) (k:=0) (a7 (iK (bh (ay nS (bU dG (ai (ay bV af az) aD)) az))
   Cd
   eK)
   (cV (Fv (ay bV af az) (cJ (ai (ay bV af az) (ai af aD)))))) rfl h⟩
theorem Gg(Z:g9 mg)(T:Top K mg "hang" yI) :Def P w K mg base CX0 1 "hang" ["held","name","on"] (spQ uM):=by
 refine T.def vn (λvs H Q E h=>lJ h) (λ_ _ _ _ _ _ us hl=>match us,hl with| [_,_,_],_=>rfl) λf cdv A outer s H vs Q E hr h=>?_
 have hu:=hr.units;exact⟨_,(ar (a6 (i:=3) vn.nd rfl (by walk_at "l") (ck (hv1 hu) (pv 0) (pv 1) (λ_ _=>rfl)))
   (ar (eL (hv1 hu) (pv 0) (pv 1) (bY (aa (aP (aC (K:=K) rfl) (pv 3) aw (λ_ _=>rfl)) (aa (pv 2) (aa fq (aa (aP (aC (K:=K) rfl) (pv 3) aw (λ_ _=>rfl)) au))))) rfl)
   (ar (a6 (i:=3) vn.nd rfl (by walk_at "l") (ck (hv1 hu) (pv 0) (pv 2) (λ_ _=>rfl)))
   (aJ (eL (hv1 hu) (pv 0) (pv 2) (bY (aa (aP (aC (K:=K) rfl) (pv 3) aw (λ_ _=>rfl)) (aa (aP (aC (K:=K) rfl) (pv 3) aw (λ_ _=>rfl)) (aa (aP (aC (K:=K) rfl) (pv 3) aw (λ_ _=>rfl)) (aa (bM (wU (K:=K) rfl) (aP (aC (K:=K) rfl) (pv 3) aw (λ_ _=>rfl)) (bY (aa (pv 1) au))) au))))) rfl))))),
   lI (n:=3) (k:=1) (a8 (cB (gL (ay d4 af af)) bL)
   (a8 (mX aO aO (g7 (aL (fO aO (b9 λ_=>.int _)) (aL aO (aL (b9 λ_=>.bl _) (aL (fO aO (b9 λ_=>.int _)) cf))))))
   (a8 (cB (gL (ay d4 af af)) bL)
   (mX aO aO (g7 (aL (fO aO (b9 λ_=>.int _)) (aL (fO aO (b9 λ_=>.int _)) (aL (fO aO (b9 λ_=>.int _)) (aL (gL (ay Dh (ay bV af az) (dA (ai af aD)))) cf))))))))) rfl h⟩
theorem rP(Z:g9 mg)(T:Top K mg "hang_alike" jX)(yK:Def P w K mg base CX0 1 "hang" ["held","name","on"] (spQ uM))(fk:Def P w K mg base CX0 1 "standing" ["held","name"] (spM c8)):Def P w K mg base CX0 2 "hang_alike" ["pile"] (spQ ir):=by
 have bQ:mg "len"=none:=Z _ (by decide+kernel)
 have j6:mg "dict"=none:=Z _ (by decide+kernel)
 refine T.def cu (λvs H Q E h=>lJ h) (λ_ _ _ _ _ _ us hl=>match us,hl with| [_],_=>rfl) λf cdv A outer s H vs Q E hr h=>?_
 have hu:=hr.units;exact⟨_,(ar (a6 (i:=1) cu.nd rfl (by walk_at "l") (dz jN rfl j6 PyProof.Rows.boot_dict (aa (aP (aC (K:=K) rfl) (pv 0) aw (λ_ _=>rfl)) au)))
   (ar (a6 (i:=2) cu.nd rfl (by walk_at "l") qv)
   (ar (a6 (i:=3) cu.nd rfl (by walk_at "l") (iF au))
   (ar (jC PassesOwn.never rfl (jm (K:=K) rfl (aP (aC (K:=K) rfl) (pv 0) aw (λ_ _=>rfl))) (a9 (i:=4) cu.nd rfl (by walk_at "l"))
   (ar (a6 (i:=5) cu.nd rfl (by walk_at "l") (pv 4))
   (ar (mz PassesOwn.never (Bl (Im (hv1 hu) (aM (bc (K:=K) rfl) rfl bQ zaE (aa (aP (aC (K:=K) rfl) (ck (hv1 hu) (pv 1) (pv 5) (λ_ _=>rfl)) aw (λ_ _=>rfl)) au)) (pv 2)))
   (ar (a6 (i:=6) cu.nd rfl (by walk_at "l") (fL (K:=K) rfl PySem.F.plainAttrs_dict PySem.F.slot_dict_pop PySem.F.type_dict_pop uD (pv 2) (aa (aM (bc (K:=K) rfl) rfl bQ zaE (aa (aP (aC (K:=K) rfl) (ck (hv1 hu) (pv 1) (pv 5) (λ_ _=>rfl)) aw (λ_ _=>rfl)) au)) au)))
   (ar (dP (bD (C7 (K:=K) rfl (Nat.lt_of_le_of_lt (Nat.le_add_right _ _) hu)) (bW fk (hr.mono (by omega)) (aa (pv 1) (aa (pv 6) au))) (bW fk (hr.mono (by omega)) (aa (pv 1) (aa (pv 5) au))) (bE _))
   (ar (a6 (i:=7) cu.nd rfl (by walk_at "l") (pv 6))
   (ar (a6 (i:=6) cu.nd rfl (by walk_at "l") (pv 5))
   (aJ (a6 (i:=5) cu.nd rfl (by walk_at "l") (pv 7)))))
   cz)
   (ar (de (bW yK (hr.mono (by omega)) (aa (pv 1) (aa (pv 6) (aa (pv 5) au)))))
   (aJ (de (fL (K:=K) rfl zaJ zaV zaU eJ (pv 3) (aa (bY (aa gh (aa (pv 6) (aa (pv 5) au)))) au))))))))
   (aJ (eL (hv1 hu) (pv 2) (aM (bc (K:=K) rfl) rfl bQ zaE (aa (aP (aC (K:=K) rfl) (ck (hv1 hu) (pv 1) (pv 5) (λ_ _=>rfl)) aw (λ_ _=>rfl)) au)) (pv 5) rfl)))))
   (aJ (bC (bY (aa (bY (aa (vQ (fr:=[("held",1)]) rfl ⟨rfl,rfl,rfl,rfl,rfl,rfl,by decide+kernel⟩ (jm (K:=K) rfl (aP (aC (K:=K) rfl) (pv 0) aw (λ_ _=>rfl))) (λ_ _ _ _=>(pj (bD BA (aP (aC (K:=K) rfl) (ck (hv1 hu) (pv 1) (pv 0) (λ_ _=>rfl)) aw (λ_ _=>rfl)) fC (bE _)))) (λ_ _ _ _=>(pv 0))) (aa (pv 1) au))) (aa (pv 3) au))))))))),
   lI (n:=1) (k:=7) (a8 (cB (gL (bU pE (ai (ay bV af az) aD))) bL)
   (a8 (cB (gL uu) bL)
   (a8 (cB (CB cf) bL)
   (a8 (zt (fO aO (b9 λ_=>.int _)) bL
   (a8 (cB aO bL)
   (a8 (wy (qo (bh (ay JS (bU dG (ai (ay bV (ay d4 af af) az) aD)) af)))
   (a8 (cB (uE aO (aL (gL (bU dG (ai (ay bV (ay d4 af af) az) aD))) cf)) bL)
   (a8 (mS (qo (bh (ay GK (cJ (ai af (ai af aD))) (cJ (ai af (ai af aD))))))
   (a8 (cB aO bL)
   (a8 (cB aO bL)
   (cB aO bL)))
   ik)
   (a8 (gA (jq (aL aO (aL aO (aL aO cf)))))
   (gA (qq aO (aL (g7 (aL (b9 λ_=>.str _) (aL aO (aL aO cf)))) cf)))))))
   (mX aO (gL (bU dG (ai (ay bV (ay d4 af af) az) aD))) aO))))
   (fP (g7 (aL (g7 (aL (gL (vY (tS (ay bV af az)) (bh (ay Ju (ay bV (ay d4 af af) az) jF)) af)) (aL aO cf))) (aL aO cf)))))))) rfl h⟩
theorem Bf(Z:g9 mg)(T:Top K mg "as_top" qY) :Def P w K mg base CX0 1 "as_top" ["row"] (spM m4):=by
 refine T.def Be (λvs H Q E h=>e8 h) (λ_ _ _ _ _ _ us hl=>match us,hl with| [_],_=>rfl) λf cdv A outer s H vs Q E hr h=>?_
 have hu:=hr.units;exact⟨_,(aJ (bC (bY (aa (aP (aC (K:=K) rfl) (pv 0) aw (λ_ _=>rfl)) (aa fC (aa fq (aa (aP (aC (K:=K) rfl) (pv 0) aw (λ_ _=>rfl)) au))))))),
   g6 (n:=1) (k:=0) (cV (dA (ai (ay bV af az) (ai jF (ai iX (ai (ay bV af az) aD)))))) rfl h⟩
theorem xu(Z:g9 mg)(T:Top K mg "take_top" mr)(j7:Def P w K mg base CX0 2 "hang_alike" ["pile"] (spQ ir))(q9:Def P w K mg base CX0 1 "as_top" ["row"] (spM m4)):Def P w K mg base CX0 3 "take_top" ["pile","name"] (spQ jQ):=by
 have j6:mg "dict"=none:=Z _ (by decide+kernel)
 refine T.def eG (λvs H Q E h=>lJ h) (λ_ _ _ _ _ _ us hl=>match us,hl with| [_,_],_=>rfl) λf cdv A outer s H vs Q E hr h=>?_
 have hu:=hr.units;exact⟨_,(ar (a6 (i:=2) eG.nd rfl (by walk_at "l") (dz jN rfl j6 PyProof.Rows.boot_dict (aa (aP (aC (K:=K) rfl) (pv 0) aw (λ_ _=>rfl)) au)))
   (ar (a6 (i:=3) eG.nd rfl (by walk_at "l") (fL (K:=K) rfl PySem.F.plainAttrs_dict PySem.F.slot_dict_pop PySem.F.type_dict_pop uD (pv 2) (aa (pv 1) au)))
   (ar (pW (i0:=4) (fr:=[("name",1)]) rfl eG.nd rfl (by walk_at "l") ⟨rfl,rfl,rfl,rfl,rfl,rfl,by decide+kernel⟩ (jm (K:=K) rfl (aP (aC (K:=K) rfl) (pv 0) aw (λ_ _=>rfl))) (λ_ _ _ _=>(pj (bD (fK (K:=K) rfl hu) (pv 0) (pv 1) (bE _)))) (λ_ _ _ _=>(pv 0)))
   (ar (a6 (i:=5) eG.nd rfl (by walk_at "l") (iF au))
   (ar (jC PassesOwn.never rfl (pz (K:=K) rfl (aP (aC (K:=K) rfl) (pv 3) aw (λ_ _=>rfl))) (a9 (i:=6) eG.nd rfl (by walk_at "l"))
   (ar (eL (hv1 hu) (pv 2) (pv 6) (bW q9 (hr.mono (by omega)) (aa (ck (hv1 hu) (pv 2) (pv 6) (λ_ _=>rfl)) au)) rfl)
   (ar (de (fL (K:=K) rfl zaJ zaV zaU eJ (pv 4) (aa (pv 6) au)))
   (aJ (de (fL (K:=K) rfl zaJ zaV zaU eJ (pv 5) (aa (bY (aa gh (aa (pv 6) au))) au)))))))
   (ar (a6 (i:=7) eG.nd rfl (by walk_at "l") (bW j7 (hr.mono (by omega)) (aa (bY (aa (pv 4) (aa (pv 2) au))) au)))
   (aJ (bC (bY (aa (aP (aC (K:=K) rfl) (pv 3) aw (λ_ _=>rfl)) (aa (aP (aC (K:=K) rfl) (pv 7) aw (λ_ _=>rfl)) (aa (bM (e9 (K:=K) rfl) (pv 5) (aP (aC (K:=K) rfl) (pv 7) aw (λ_ _=>rfl))) au)))))))))))),
   lI (n:=2) (k:=6) (a8 (cB (gL (bU pE (ai (ay bV af az) aD))) bL)
   (a8 (cB (uE aO (aL aO cf)) bL)
   (a8 (cB (gL (vY (tS (ay bV af az)) (bh (ay mK af af)) af)) bL)
   (a8 (cB (CB cf) bL)
   (a8 (CG (B9 (ay bV af az)) bL
   (a8 (mX aO aO (gL (cJ (ai (ay d4 af af) aD))))
   (a8 (gA (qq aO (aL aO cf)))
   (gA (qq aO (aL (g7 (aL (b9 λ_=>.str _) (aL aO cf))) cf))))))
   (a8 (cB (jq (aL (g7 (aL aO (aL aO cf))) cf)) bL)
   (fP (g7 (aL (fO aO (b9 λ_=>.int _)) (aL (fO aO (b9 λ_=>.int _)) (aL (gL (ay jl af (ay bV af az))) cf))))))))))) rfl h⟩
theorem rQ(Z:g9 mg)(T:Top K mg "take_least" jY)(mw:Def P w K mg base CX0 3 "take_top" ["pile","name"] (spQ jQ))(j8:Def P w K mg base CX0 4 "least_name" ["pile"] (spM iq)):Def P w K mg base CX0 5 "take_least" ["pile"] (spQ iu):=by
 refine T.def jh (λvs H Q E h=>lJ h) (λ_ _ _ _ _ _ us hl=>match us,hl with| [_],_=>rfl) λf cdv A outer s H vs Q E hr h=>?_
 have hu:=hr.units;exact⟨_,(ar (a6 (i:=1) jh.nd rfl (by walk_at "l") (bW j8 (hr.mono (by omega)) (aa (pv 0) au)))
   (ar (a6 (i:=2) jh.nd rfl (by walk_at "l") (bW mw (hr.mono (by omega)) (aa (pv 0) (aa (pv 1) au))))
   (aJ (bC (bY (aa (pv 1) (aa (aP (aC (K:=K) rfl) (pv 2) aw (λ_ _=>rfl)) (aa (aP (aC (K:=K) rfl) (pv 2) aw (λ_ _=>rfl)) (aa (aP (aC (K:=K) rfl) (pv 2) aw (λ_ _=>rfl)) au))))))))),
   lI (n:=1) (k:=2) (a8 (cB (gL (cJ (ai af aD))) bL)
   (a8 (cB (jq (aL aO (aL aO cf))) bL)
   (fP (g7 (aL aO (aL (fO aO (b9 λ_=>.int _)) (aL (fO aO (b9 λ_=>.int _)) (aL (fO aO (b9 λ_=>.int _)) cf)))))))) rfl h⟩
theorem rR(Z:g9 mg)(T:Top K mg "most_below" jZ) :Def P w K mg base CX0 1 "most_below" ["n"] (spM iw):=by
 refine T.def cZ (λvs H Q E h=>e8 h) (λ_ _ _ _ _ _ us hl=>match us,hl with| [_],_=>rfl) λf cdv A outer s H vs Q E hr h=>?_
 have hu:=hr.units;exact⟨_,(ar (a6 (i:=1) cZ.nd rfl (by walk_at "l") aw)
   (ar (a6 (i:=2) cZ.nd rfl (by walk_at "l") aw)
   (ar (a6 (i:=3) cZ.nd rfl (by walk_at "l") aw)
   (ar (mz PassesOwn.never (bD Jg (pv 3) (pv 0) (bE _))
   (ar (a6 (i:=4) cZ.nd rfl (by walk_at "l") (bM (e9 (K:=K) rfl) (pv 2) (pv 3)))
   (ar (a6 (i:=2) cZ.nd rfl (by walk_at "l") (pv 3))
   (ar (a6 (i:=3) cZ.nd rfl (by walk_at "l") (pv 4))
   (aJ (He (i:=1) cZ.nd rfl (by walk_at "l") aw Hf))))))
   (aJ (bC (pv 1))))))),
   g6 (n:=1) (k:=4) (a7 (cG az)
   (a7 (cG az)
   (a7 (cG az)
   (a7 (v3 (bh (ay xS af af))
   (a7 (cG (ay jl af af))
   (a7 (cG af)
   (a7 (cG af)
   (HQ az)))))
   (cV af))))) rfl h⟩
theorem nL(Z:g9 mg)(T:Top K mg "_law_hang_right" gu)(eQ:Def P w K mg base CX0 1 "_law_before" ["_law_held","_law_one","_law_other"] (spM df)):Def P w K mg base CX0 2 "_law_hang_right" ["_law_tops","_law_held","_law_step"] (spM eN):=by
 have bQ:mg "len"=none:=Z _ (by decide+kernel)
 have eP:mg "tuple"=none:=Z _ (by decide+kernel)
 have bG:mg "isinstance"=none:=Z _ (by decide+kernel)
 refine T.def nI (λvs H Q E h=>e8 h) (λ_ _ _ _ _ _ us hl=>match us,hl with| [_,_,_],_=>rfl) λf cdv A outer s H vs Q E hr h=>?_
 have hu:=hr.units;exact⟨_,(ar (dP (PW.pt (fu (eR (dq (aM fF rfl bG zaB (aa (pv 2) (aa (kz eP za2) au))))) (fu (bD (fK (K:=K) rfl hu) (aM (bc (K:=K) rfl) rfl bQ zaE (aa (pv 2) au)) aw (bE _)) (fu (bD (fK (K:=K) rfl hu) (aP (aC (K:=K) rfl) (pv 2) aw (λ_ _=>rfl)) gh (bE _)) (gX (bD (gp (K:=K) rfl hu) (aP (aC (K:=K) rfl) (pv 2) aw (λ_ _=>rfl)) (aP (aC (K:=K) rfl) (pv 2) aw (λ_ _=>rfl)) (bE _)))))))
   (aJ (bC fq))
   cz)
   (ar (dP (PW.pt (fu (bD (su (K:=K) rfl) (aP (aC (K:=K) rfl) (pv 2) aw (λ_ _=>rfl)) (pv 0) rfl) (fu (bD (su (K:=K) rfl) (aP (aC (K:=K) rfl) (pv 2) aw (λ_ _=>rfl)) (pv 0) rfl) (gX (eR (dq (bW eQ (hr.mono (by omega)) (aa (pv 1) (aa (aP (aC (K:=K) rfl) (pv 2) aw (λ_ _=>rfl)) (aa (aP (aC (K:=K) rfl) (pv 2) aw (λ_ _=>rfl)) au))))))))))
   (aJ (bC fq))
   cz)
   (aJ (bC (gx (gp (K:=K) rfl hu) (aM (bc (K:=K) rfl) rfl bQ zaE (aa (aP (aC (K:=K) rfl) (ck (hv1 hu) (pv 1) (aP (aC (K:=K) rfl) (pv 2) aw (λ_ _=>rfl)) (λ_ _=>rfl)) aw (λ_ _=>rfl)) au)) (aM (bc (K:=K) rfl) rfl bQ zaE (aa (aP (aC (K:=K) rfl) (ck (hv1 hu) (pv 1) (aP (aC (K:=K) rfl) (pv 2) aw (λ_ _=>rfl)) (λ_ _=>rfl)) aw (λ_ _=>rfl)) au)) (bE _)))))),
   g6 (n:=3) (k:=0) (a7 (iK (fG (fe (fw (kF af))) (fG (bh (ay mK (bU dG (ai af aD)) az)) (fG (bh (ay mK (ay bV af az) jc)) (bh (ay nS (ay bV af az) (ay bV af az))))))
   (cV iX)
   eK)
   (a7 (iK (fG (bh (ay wQ (ay bV af az) af)) (fG (bh (ay wQ (ay bV af az) af)) (fe (fw (cJ (ai af (ai (ay bV af az) (ai (ay bV af az) aD))))))))
   (cV iX)
   eK)
   (cV (ay nS (bU dG (ai (ay bV (ay d4 af (ay bV af az)) az) aD)) (bU dG (ai (ay bV (ay d4 af (ay bV af az)) az) aD)))))) rfl h⟩
theorem rS(Z:g9 mg)(T:Top K mg "_law_walked" j0)(gv:Def P w K mg base CX0 1 "_law_hung" ["_law_tops","_law_held","_law_name","_law_on"] (spJ eA))(gw:Def P w K mg base CX0 2 "_law_hang_right" ["_law_tops","_law_held","_law_step"] (spM eN)):Def P w K mg base CX0 3 "_law_walked" ["_law_tops","_law_held","_law_name","_law_steps"] (spQ ix):=by
 have bQ:mg "len"=none:=Z _ (by decide+kernel)
 have G2:mg "set"=none:=Z _ (by decide+kernel)
 refine T.def c7 (λvs H Q E h=>lJ h) (λ_ _ _ _ _ _ us hl=>match us,hl with| [_,_,_,_],_=>rfl) λf cdv A outer s H vs Q E hr h=>?_
 have hu:=hr.units;exact⟨_,(ar (a6 (i:=4) c7.nd rfl (by walk_at "l") (aP (aC (K:=K) rfl) (fL (K:=K) rfl PySem.F.plainAttrs_dict PySem.F.slot_dict_pop PySem.F.type_dict_pop uD (pv 1) (aa (pv 2) au)) aw (λ_ _=>rfl)))
   (ar (de (fL (K:=K) rfl zaJ PySem.F.slot_list_remove PySem.F.type_list_remove zF (pv 0) (aa (pv 2) au)))
   (ar (jC PassesOwn.never rfl (pz (K:=K) rfl (pv 4)) (a9 (i:=5) c7.nd rfl (by walk_at "l"))
   (ar (mi (ck (hv1 hu) (pv 1) (pv 5) (λ_ _=>rfl)) (ib rfl (bA (a9 (i:=6) c7.nd rfl (by walk_at "l")) (bA (a9 (i:=7) c7.nd rfl (by walk_at "l")) (bA (a9 (i:=8) c7.nd rfl (by walk_at "l")) (bA (a9 (i:=9) c7.nd rfl (by walk_at "l")) h8))))))
   (ar (eL (hv1 hu) (pv 1) (pv 5) (bY (aa (pv 6) (aa fC (aa fq (aa (pv 9) au))))) rfl)
   (aJ (de (fL (K:=K) rfl zaJ zaV zaU eJ (pv 0) (aa (pv 5) au)))))))
   (ar (dP (bD (fK (K:=K) rfl hu) (mD (mN (K:=K) rfl) (pv 3) tE (mB (aM (bc (K:=K) rfl) rfl bQ zaE (aa (pv 4) au)))) (vQ (fr:=[]) rfl ⟨rfl,rfl,rfl,rfl,rfl,rfl,by decide+kernel⟩ (pz (K:=K) rfl (pv 4)) (λ_ _ _ _=>ph) (λ_ _ _ _=>(bY (aa gh (aa (pv 0) au))))) (bE _))
   (aJ (bC fq))
   cz)
   (ar (jC PassesOwn.never rfl (jm (K:=K) rfl (mD (mN (K:=K) rfl) (pv 3) (mB (aM (bc (K:=K) rfl) rfl bQ zaE (aa (pv 4) au))) tE)) (a9 (i:=10) c7.nd rfl (by walk_at "l"))
   (ar (dP (eR (dq (bW gw (hr.mono (by omega)) (aa (pv 0) (aa (pv 1) (aa (pv 10) au))))))
   (aJ (bC fq))
   cz)
   (aJ (de (bW gv (hr.mono (by omega)) (aa (pv 0) (aa (pv 1) (aa (aP (aC (K:=K) rfl) (pv 10) aw (λ_ _=>rfl)) (aa (aP (aC (K:=K) rfl) (pv 10) aw (λ_ _=>rfl)) au)))))))))
   (aJ (bC (gx (gp (K:=K) rfl hu) (aM AM rfl bQ zaE (aa (dz (AK rfl) rfl G2 PyProof.Rows.boot_set (aa (vQ (fr:=[("_law_held",1)]) rfl ⟨rfl,rfl,rfl,rfl,rfl,rfl,by decide+kernel⟩ (jm (K:=K) rfl (pv 0)) (λ_ _ _ _=>ph) (λ_ _ _ _=>(aM (bc (K:=K) rfl) rfl bQ zaE (aa (aP (aC (K:=K) rfl) (ck (hv1 hu) (pv 1) (pv 0) (λ_ _=>rfl)) aw (λ_ _=>rfl)) au)))) au)) au)) (aM (bc (K:=K) rfl) rfl bQ zaE (aa (pv 0) au)) (bE _))))))))),
   lI (n:=4) (k:=7) (a8 (cB (fO (uE aO (aL aO cf)) (b9 λ_=>.int _)) bL)
   (a8 (gA (JK wM aO (aL aO cf)))
   (a8 (CG (B9 af) bL
   (a8 (cB (gL (ay d4 af af)) (uo (gM (gM (gM (gM um))))))
   (a8 (mX aO aO (g7 (aL aO (aL (b9 λ_=>.non) (aL (b9 λ_=>.bl _) (aL aO cf))))))
   (gA (qq aO (aL aO cf))))))
   (a8 (mS (qo (bh (ay mK (yZ Ex af tR (mH (bU dG (ai af aD)))) (vY (B8 af) xQ (dA (ai jc (ai af aD)))))))
   (fP (b9 λ_=>.bl _))
   ik)
   (a8 (zt (gL (yZ Ex af (mH (bU dG (ai af aD))) tR)) bL
   (a8 (mS (qo (fe (fw (cJ (ai af (ai af (ai af aD)))))))
   (fP (b9 λ_=>.bl _))
   ik)
   (gA (C9 (aL aO (aL aO (aL (fO aO (b9 λ_=>.int _)) (aL (fO aO (b9 λ_=>.int _)) cf))))))))
   (fP (gL (ay nS (Di (vY (tS af) xQ (bU dG (ai (ay bV (ay d4 af af) az) aD)))) (bU dG (ai af aD)))))))))) rfl h⟩
theorem pd(Z:g9 mg)(T:Top K mg "_law_is_entry" iS) :Def P w K mg base CX0 1 "_law_is_entry" ["_law_found","_law_due"] (spM fU):=by
 have rf:mg "bool"=none:=Z _ (by decide+kernel)
 have bG:mg "isinstance"=none:=Z _ (by decide+kernel)
 have eP:mg "tuple"=none:=Z _ (by decide+kernel)
 have bQ:mg "len"=none:=Z _ (by decide+kernel)
 refine T.def o9 (λvs H Q E h=>e8 h) (λ_ _ _ _ _ _ us hl=>match us,hl with| [_,_],_=>rfl) λf cdv A outer s H vs Q E hr h=>?_
 have hu:=hr.units;exact⟨_,(ar (dP (PW.pt (fu (eR (dq (aM fF rfl bG zaB (aa (pv 0) (aa (kz eP za2) au))))) (fu (bD (fK (K:=K) rfl hu) (aM (bc (K:=K) rfl) rfl bQ zaE (aa (pv 0) au)) aw (bE _)) (gX (eR (dq (aM fF rfl bG zaB (aa (aP (aC (K:=K) rfl) (pv 0) aw (λ_ _=>rfl)) (aa (kz eP za2) au)))))))))
   (aJ (bC fq))
   cz)
   (ar (dP (PW.pt (fu (dq (aM fF rfl bG zaB (aa (aP (aC (K:=K) rfl) (pv 0) aw (λ_ _=>rfl)) (aa (kz rf PyProof.Rows.boot_bool) au)))) (gX (eR (dq (aM fF rfl bG zaB (aa (aP (aC (K:=K) rfl) (pv 0) aw (λ_ _=>rfl)) (aa (kz rf PyProof.Rows.boot_bool) au))))))))
   (aJ (bC fq))
   cz)
   (aJ (bC (gx (gp (K:=K) rfl hu) (pv 0) (pv 1) (bE _)))))),
   g6 (n:=2) (k:=0) (a7 (iK (fG (fe (fw (kF af))) (fG (bh (ay mK (bU dG (ai af aD)) az)) (fe (fw (kF (ay bV af az))))))
   (cV iX)
   eK)
   (a7 (iK (fG (fw (kF (ay bV af az))) (fe (fw (kF (ay bV af az)))))
   (cV iX)
   eK)
   (cV (ay nS af af)))) rfl h⟩
theorem rg(Z:g9 mg)(T:Top K mg "_law_is_pile" ji)(iU:Def P w K mg base CX0 1 "_law_is_entry" ["_law_found","_law_due"] (spM fU)):Def P w K mg base CX0 2 "_law_is_pile" ["_law_found","_law_tops","_law_held"] (spM cY):=by
 have bQ:mg "len"=none:=Z _ (by decide+kernel)
 have j6:mg "dict"=none:=Z _ (by decide+kernel)
 have bG:mg "isinstance"=none:=Z _ (by decide+kernel)
 have j4:mg "list"=none:=Z _ (by decide+kernel)
 have eP:mg "tuple"=none:=Z _ (by decide+kernel)
 refine T.def iT (λvs H Q E h=>e8 h) (λ_ _ _ _ _ _ us hl=>match us,hl with| [_,_,_],_=>rfl) λf cdv A outer s H vs Q E hr h=>?_
 have hu:=hr.units;exact⟨_,(ar (dP (PW.pt (fu (eR (dq (aM oq rfl bG zaB (aa (pv 0) (aa (kz eP za2) au))))) (fu (bD (fK (K:=K) rfl hu) (aM (bc (K:=K) rfl) rfl bQ zaE (aa (pv 0) au)) aw (bE _)) (fu (eR (dq (aM oq rfl bG zaB (aa (aP (aC (K:=K) rfl) (pv 0) aw (λ_ _=>rfl)) (aa (kz j4 PyProof.Rows.boot_list) au))))) (gX (bD (fK (K:=K) rfl hu) (aP (aC (K:=K) rfl) (pv 0) aw (λ_ _=>rfl)) (pv 1) (bE _)))))))
   (aJ (bC fq))
   cz)
   (ar (dP (PW.pt (fu (eR (dq (aM oq rfl bG zaB (aa (aP (aC (K:=K) rfl) (pv 0) aw (λ_ _=>rfl)) (aa (kz j6 PyProof.Rows.boot_dict) au))))) (gX (bD (fK (K:=K) rfl hu) (aM eM rfl bQ zaE (aa (aP (aC (K:=K) rfl) (pv 0) aw (λ_ _=>rfl)) au)) (aM eM rfl bQ zaE (aa (pv 2) au)) (bE _)))))
   (aJ (bC fq))
   cz)
   (ar (zE (jC PassesOwn.never rfl (C4 (pv 2)) (ib rfl (bA (a9 (i:=3) iT.nd rfl (by walk_at "l")) (bA (a9 (i:=4) iT.nd rfl (by walk_at "l")) h8)))
   (aJ (dP (PW.pt (fu (Bl (AJ (hv1 hu) (pv 3) (aP (aC (K:=K) rfl) (pv 0) aw (λ_ _=>rfl)))) (gX (eR (dq (bW iU (hr.mono (by omega)) (aa (ck (hv1 hu) (aP (aC (K:=K) rfl) (pv 0) aw (λ_ _=>rfl)) (pv 3) (λ_ _=>rfl)) (aa (pv 4) au))))))))
   (aJ (bC fq))
   cz))))
   (aJ (bC fq))))),
   g6 (n:=3) (k:=2) (a7 (iK (fG (fe (fw (uG af))) (fG (bh (ay mK (bU dG (ai af aD)) az)) (fG (fe (fw (uG (ay bV af az)))) (bh (ay mK (ay bV af az) af)))))
   (cV iX)
   eK)
   (a7 (iK (fG (fe (fw (uG (ay bV af az)))) (bh (ay mK (bU jO (ai (ay bV af az) aD)) (bU jO (ai af aD)))))
   (cV iX)
   eK)
   (a7 (Fg qB (lH (cj cA (cj cA lD)))
   (iK (fG (bh (ay CV af (ay bV af az))) (fe (fw (cJ (ai (ay d4 (ay bV af az) af) (ai af aD))))))
   (cV iX)
   eK))
   (cV iX)))) rfl h⟩
theorem vo(Z:g9 mg)(T:Top K mg "_law_taken" lz)(gE:Def P w K mg base CX0 1 "pile_credit" ["pile"] (spM eX))(du:Def P w K mg base CX0 2 "_law_is_pile" ["_law_found","_law_tops","_law_held"] (spM cY))(j9:Def P w K mg base CX0 3 "_law_walked" ["_law_tops","_law_held","_law_name","_law_steps"] (spQ ix))(kc:Def P w K mg base CX0 5 "take_least" ["pile"] (spQ iu))(ke:Def P w K mg base CX0 1 "most_below" ["n"] (spM iw)):Def P w K mg base CX0 6 "_law_taken" ["_law_pile","_law_tops","_law_held"] (spQ i5):=by
 have bQ:mg "len"=none:=Z _ (by decide+kernel)
 have rf:mg "bool"=none:=Z _ (by decide+kernel)
 have bG:mg "isinstance"=none:=Z _ (by decide+kernel)
 have z6:mg "min"=none:=Z _ (by decide+kernel)
 have j4:mg "list"=none:=Z _ (by decide+kernel)
 have eP:mg "tuple"=none:=Z _ (by decide+kernel)
 refine T.def eO (λvs H Q E h=>lJ h) (λ_ _ _ _ _ _ us hl=>match us,hl with| [_,_,_],_=>rfl) λf cdv A outer s H vs Q E hr h=>?_
 have hu:=hr.units;exact⟨_,(ar (a6 (i:=3) eO.nd rfl (by walk_at "l") (bM tZ aw (bW ke (hr.mono (by omega)) (aa (aM eM rfl bQ zaE (aa (pv 2) au)) au))))
   (ar (a6 (i:=4) eO.nd rfl (by walk_at "l") (bW gE (hr.mono (by omega)) (aa (pv 0) au)))
   (ar (a6 (i:=5) eO.nd rfl (by walk_at "l") (bW kc (hr.mono (by omega)) (aa (pv 0) au)))
   (ar (dP (PW.pt (fu (eR (dq (aM fF rfl bG zaB (aa (pv 5) (aa (kz eP za2) au))))) (fu (bD (fK (K:=K) rfl hu) (aM (bc (K:=K) rfl) rfl bQ zaE (aa (pv 5) au)) aw (bE _)) (gX (eR (dq (aM fF rfl bG zaB (aa (aP (aC (K:=K) rfl) (pv 5) aw (λ_ _=>rfl)) (aa (kz j4 PyProof.Rows.boot_list) au)))))))))
   (aJ (bC fC))
   cz)
   (ar (mi (aM (AY (K:=K) rfl rfl (hv1 hu)) rfl z6 PyProof.Rows.boot_min (aa (Fc (vQ (fr:=[("_law_held",2)]) rfl ⟨rfl,rfl,rfl,rfl,rfl,rfl,by decide+kernel⟩ (zC (pv 2)) (λ_ _ _ _=>ph) (λ_ _ _ _=>(bY (aa (aP (aC (K:=K) rfl) (ck (hv1 hu) (pv 1) (pv 0) (λ_ _=>rfl)) aw (λ_ _=>rfl)) (aa (pv 0) au)))))) au)) (ib rfl (bA (a9 (i:=6) eO.nd rfl (by walk_at "l")) (bA (a9 (i:=7) eO.nd rfl (by walk_at "l")) h8))))
   (ar (dP (PW.pt (fu (bD (fK (K:=K) rfl hu) (aP (aC (K:=K) rfl) (pv 5) aw (λ_ _=>rfl)) (pv 7) (bE _)) (fu (bD (fK (K:=K) rfl hu) (aP (aC (K:=K) rfl) (pv 5) aw (λ_ _=>rfl)) (pv 6) (bE _)) (gX (dq (aM fF rfl bG zaB (aa (aP (aC (K:=K) rfl) (pv 5) aw (λ_ _=>rfl)) (aa (kz rf PyProof.Rows.boot_bool) au))))))))
   (aJ (bC fC))
   cz)
   (ar (dP (PW.pt (fu (eR (dq (bW j9 (hr.mono (by omega)) (aa (pv 1) (aa (pv 2) (aa (pv 7) (aa (aP (aC (K:=K) rfl) (pv 5) aw (λ_ _=>rfl)) au))))))) (gX (eR (dq (bW du (hr.mono (by omega)) (aa (aP (aC (K:=K) rfl) (pv 5) aw (λ_ _=>rfl)) (aa (pv 1) (aa (pv 2) au)))))))))
   (aJ (bC fC))
   cz)
   (ar (dP (bD rW (bM (e9 (K:=K) rfl) (aM (bc (K:=K) rfl) rfl bQ zaE (aa (aP (aC (K:=K) rfl) (pv 5) aw (λ_ _=>rfl)) au)) (bW gE (hr.mono (by omega)) (aa (aP (aC (K:=K) rfl) (pv 5) aw (λ_ _=>rfl)) au))) (bM (e9 (K:=K) rfl) (pv 4) (pv 3)) (bE _))
   (aJ (bC fC))
   cz)
   (aJ (bC (pv 5))))))))))),
   lI (n:=3) (k:=5) (a8 (cB (gL (ay Cg az (cJ (ai (bU jO (ai af aD)) aD)))) bL)
   (a8 (cB (gL (cJ (ai af aD))) bL)
   (a8 (cB (jq (aL aO cf)) bL)
   (a8 (mS (qo (fG (fe (fw (kF af))) (fG (bh (ay mK (bU dG (ai af aD)) az)) (fe (fw (kF (ay bV af az)))))))
   (fP (b9 λ_=>.non))
   ik)
   (a8 (cB (gL (bU ID (ai (C3 qB xQ (dA (ai (ay bV (ay d4 af af) az) (ai af aD)))) aD))) (uo (gM (gM um))))
   (a8 (mS (qo (fG (bh (ay mK (ay bV af az) af)) (fG (bh (ay mK (ay bV af az) af)) (fw (kF (ay bV af az))))))
   (fP (b9 λ_=>.non))
   ik)
   (a8 (mS (JI (Ij (JH (jq (aL aO (aL aO (aL aO (aL (fO aO (b9 λ_=>.int _)) cf))))))) (qo (fe (fw (cJ (ai (ay bV af az) (ai af (ai af aD))))))))
   (fP (b9 λ_=>.non))
   ik)
   (a8 (mS (qo (bh (ay xS (ay jl (bU dG (ai (ay bV af az) aD)) (cJ (ai (ay bV af az) aD))) (ay jl af af))))
   (fP (b9 λ_=>.non))
   ik)
   (fP aO))))))))) rfl h⟩
theorem I0{f:Addr}{fd:FuncData}(NL:pA K=true)(Z:g9 mg)(F:Fun K "law" "law" z4 f fd)(du:Def P w K mg base CX0 2 "_law_is_pile" ["_law_found","_law_tops","_law_held"] (spM cY))(lB:Def P w K mg base CX0 6 "_law_taken" ["_law_pile","_law_tops","_law_held"] (spQ i5))(kf:Def P w K mg base CX0 15 "_law_begun" ["_law_cells"] (spD gP)):lT P w K mg base CX0 16 f fd ["_law_script"] (BO K):=by
 have bQ:mg "len"=none:=Z _ (by decide+kernel)
 have j6:mg "dict"=none:=Z _ (by decide+kernel)
 have j4:mg "list"=none:=Z _ (by decide+kernel)
 have G3:mg "int"=none:=Z _ (by decide+kernel)
 have z5:mg "max"=none:=Z _ (by decide+kernel)
 refine lT.imp (sp:=spM GW) ?_ (HS NL DW);refine F.ok lA (λvs H Q E h=>EY h) λcdv A outer s H vs Q E hr h=>?_
 have hu:=hr.units;exact⟨_,(ar (mi (bW kf (hr.mono (by omega)) (aa (mD (mN (K:=K) rfl) (pv 0) tE (mB aw)) au)) (ib rfl (bA (a9 (i:=1) lA.nd rfl (by walk_at "l")) (bA (a9 (i:=2) lA.nd rfl (by walk_at "l")) h8))))
   (ar (a6 (i:=3) lA.nd rfl (by walk_at "l") (bY (aa (dz (qc (K:=K) rfl) rfl j4 PyProof.Rows.boot_list (aa (pv 1) au)) (aa (dz jN rfl j6 PyProof.Rows.boot_dict (aa (pv 2) au)) au))))
   (ar (a6 (i:=4) lA.nd rfl (by walk_at "l") (aM (rX rfl) rfl z5 PyProof.Rows.boot_max (aa aw (aa (bM pR (aM eM rfl bQ zaE (aa (pv 2) au)) (aP (aC (K:=K) rfl) (iF (aa aw (aa aw au))) (dz Ae rfl G3 PyProof.Rows.boot_int (aa (gx rW (aM eM rfl bQ zaE (aa (pv 2) au)) aw (bE _)) au)) (λ_ _=>rfl))) au))))
   (ar (mz PassesOwn.never (bD rW (aM eM rfl bQ zaE (aa (pv 2) au)) (pv 4) (bE _))
   (ar (a6 (i:=5) lA.nd rfl (by walk_at "l") (bY (aa (dz (qc (K:=K) rfl) rfl j4 PyProof.Rows.boot_list (aa (pv 1) au)) (aa (dz jN rfl j6 PyProof.Rows.boot_dict (aa (pv 2) au)) au))))
   (ar (a6 (i:=6) lA.nd rfl (by walk_at "l") (bW lB (hr.mono (by omega)) (aa (pv 3) (aa (pv 1) (aa (pv 2) au)))))
   (ar (dP (PW.pt (fu (bD BA (pv 6) fC (bE _)) (gX (eR (dq (bW du (hr.mono (by omega)) (aa (pv 3) (aa (aP (aC (K:=K) rfl) (pv 5) aw (λ_ _=>rfl)) (aa (aP (aC (K:=K) rfl) (pv 5) aw (λ_ _=>rfl)) au)))))))))
   (aJ (bC fq))
   cz)
   (ar (de (ud (K:=K) rfl zaJ PySem.F.slot_list_clear PySem.F.type_list_clear BL (aP (aC (K:=K) rfl) (pv 3) aw (λ_ _=>rfl))))
   (ar (de (ud (K:=K) rfl PySem.F.plainAttrs_dict PySem.F.slot_dict_clear PySem.F.type_dict_clear AU (aP (aC (K:=K) rfl) (pv 3) aw (λ_ _=>rfl))))
   (ar (de (fL (K:=K) rfl zaJ zaV zaU eJ (aP (aC (K:=K) rfl) (pv 6) aw (λ_ _=>rfl)) (aa gh au)))
   (ar (dP (eR (dq (bW du (hr.mono (by omega)) (aa (aP (aC (K:=K) rfl) (pv 6) aw (λ_ _=>rfl)) (aa (pv 1) (aa (pv 2) au))))))
   (aJ (bC fq))
   cz)
   (aJ (a6 (i:=3) lA.nd rfl (by walk_at "l") (aP (aC (K:=K) rfl) (pv 6) aw (λ_ _=>rfl))))))))))))
   (aJ (bC (Hc (gx (gp (K:=K) rfl hu) (aM (bc (K:=K) rfl) rfl bQ zaE (aa (aP (aC (K:=K) rfl) (pv 3) aw (λ_ _=>rfl)) au)) (aM (bc (K:=K) rfl) rfl bQ zaE (aa (pv 1) au)) (bE _)) (Hb (gx (gp (K:=K) rfl hu) (aM eM rfl bQ zaE (aa (aP (aC (K:=K) rfl) (pv 3) aw (λ_ _=>rfl)) au)) (pv 4) (bE _)))))))))),
   EX (n:=1) (k:=6) (a8 (cB (C8 (aL (gL (yZ Ex af tR (mH az))) cf)) (uo (gM (gM um))))
   (a8 (cB (g7 (aL (gL (bU Ci (ai af aD))) (aL (gL (bU pE (ai af aD))) cf))) bL)
   (a8 (cB (gL (bU Gq (ai az (ai (ay Ce (bU jO (ai af aD)) (ay bV (jG (ai az (ai az aD))) (bU Jv (ai (ay xS (bU jO (ai af aD)) az) aD)))) aD)))) bL)
   (a8 (wy (qo (bh (ay xS (bU jO (ai af aD)) af)))
   (a8 (cB (g7 (aL (gL (bU Ci (ai af aD))) (aL (gL (bU pE (ai af aD))) cf))) bL)
   (a8 (cB (jq (aL aO (aL aO (aL aO cf)))) bL)
   (a8 (mS (qo (fG (bh (ay Ju af jF)) (fe (fw (cJ (ai af (ai (ay bV af az) (ai (ay bV af az) aD))))))))
   (fP (b9 λ_=>.bl _))
   ik)
   (a8 (gA (Iu Ey (fO aO (b9 λ_=>.int _))))
   (a8 (gA (Fi (fO aO (b9 λ_=>.int _))))
   (a8 (gA (qq (fO aO (b9 λ_=>.int _)) (aL (b9 λ_=>.str _) cf)))
   (a8 (mS (qo (fe (fw (cJ (ai (ay bV af az) (ai af (ai af aD)))))))
   (fP (b9 λ_=>.bl _))
   ik)
   (cB (fO aO (b9 λ_=>.int _)) bL)))))))))
   (fP (gL (Eo (ay nS (bU dG (ai (ay bV af az) aD)) (bU dG (ai af aD))) (ay nS (bU jO (ai (ay bV af az) aD)) af)))))))) rfl h⟩
end
end K74
open PySem PySem.W PyProof.Rows
set_option maxRecDepth 100000 in
set_option maxHeartbeats 0 in
theorem PySem.Challenge.cw_creditworks_k74_least_taken_holds : PySem.Challenge.rw_creditworks_k74_least_taken.Holds := by
 w_on;o_law;k_head;(case hw=>w_witness2)
 k_fill
 refine L2.BP (l:=PySem.Challenge.rw_creditworks_k74_least_taken) (k:=16) (x:="_law_script") (st:=K74.z4) rfl rfl ⟨rfl,by decide,by decide⟩ (λw h Y=>⟨PySem.W.km_in_of Y,L2.Fw (by kernel_rfl) (PySem.W.km_tabs_of Y)⟩) (λ_ _ _ _ _ _ _=>rfl) ?F
 case F=>
  intro w mg h KX G;have hK:(L2.gF (L2.KOf KX)).isSome=true:=by
   dsimp only[L2.KOf]
   kernel_rfl
  have yL:L2.Top (L2.KOf KX) mg "_law_like" K74.mm:=by
   dsimp only[L2.KOf];refine' L2.Top.mk' KX G ?a ?l ?c ?k
   (case a=>k_is);(case l=>k_is);(case c=>k_is);(case k=>k_is)
  have Bg:L2.Top (L2.KOf KX) mg "_law_cut" K74.oD:=by
   dsimp only[L2.KOf];refine' L2.Top.mk' KX G ?a ?l ?c ?k
   (case a=>k_is);(case l=>k_is);(case c=>k_is);(case k=>k_is)
  have vp:L2.Top (L2.KOf KX) mg "_law_before" K74.jU:=by
   dsimp only[L2.KOf];refine' L2.Top.mk' KX G ?a ?l ?c ?k
   (case a=>k_is);(case l=>k_is);(case c=>k_is);(case k=>k_is)
  have yM:L2.Top (L2.KOf KX) mg "_law_hung" K74.mn:=by
   dsimp only[L2.KOf];refine' L2.Top.mk' KX G ?a ?l ?c ?k
   (case a=>k_is);(case l=>k_is);(case c=>k_is);(case k=>k_is)
  have rT:L2.Top (L2.KOf KX) mg "_law_name_by" K74.jf:=by
   dsimp only[L2.KOf];refine' L2.Top.mk' KX G ?a ?l ?c ?k
   (case a=>k_is);(case l=>k_is);(case c=>k_is);(case k=>k_is)
  have vq:L2.Top (L2.KOf KX) mg "_law_key_by" K74.jV:=by
   dsimp only[L2.KOf];refine' L2.Top.mk' KX G ?a ?l ?c ?k
   (case a=>k_is);(case l=>k_is);(case c=>k_is);(case k=>k_is)
  have xw:L2.Top (L2.KOf KX) mg "_law_built" K74.lr:=by
   dsimp only[L2.KOf];refine' L2.Top.mk' KX G ?a ?l ?c ?k
   (case a=>k_is);(case l=>k_is);(case c=>k_is);(case k=>k_is)
  have xx:L2.Top (L2.KOf KX) mg "_law_grown" K74.lu:=by
   dsimp only[L2.KOf];refine' L2.Top.mk' KX G ?a ?l ?c ?k
   (case a=>k_is);(case l=>k_is);(case c=>k_is);(case k=>k_is)
  have xA:L2.Top (L2.KOf KX) mg "_law_begun" K74.lx:=by
   dsimp only[L2.KOf];refine' L2.Top.mk' KX G ?a ?l ?c ?k
   (case a=>k_is);(case l=>k_is);(case c=>k_is);(case k=>k_is)
  have rU:L2.Top (L2.KOf KX) mg "pile_credit" K74.jg:=by
   dsimp only[L2.KOf];refine' L2.Top.mk' KX G ?a ?l ?c ?k
   (case a=>k_is);(case l=>k_is);(case c=>k_is);(case k=>k_is)
  have yN:L2.Top (L2.KOf KX) mg "standing" K74.mq:=by
   dsimp only[L2.KOf];refine' L2.Top.mk' KX G ?a ?l ?c ?k
   (case a=>k_is);(case l=>k_is);(case c=>k_is);(case k=>k_is)
  have vt:L2.Top (L2.KOf KX) mg "least_name" K74.jW:=by
   dsimp only[L2.KOf];refine' L2.Top.mk' KX G ?a ?l ?c ?k
   (case a=>k_is);(case l=>k_is);(case c=>k_is);(case k=>k_is)
  have Ja:L2.Top (L2.KOf KX) mg "hang" K74.yI:=by
   dsimp only[L2.KOf];refine' L2.Top.mk' KX G ?a ?l ?c ?k
   (case a=>k_is);(case l=>k_is);(case c=>k_is);(case k=>k_is)
  have vx:L2.Top (L2.KOf KX) mg "hang_alike" K74.jX:=by
   dsimp only[L2.KOf];refine' L2.Top.mk' KX G ?a ?l ?c ?k
   (case a=>k_is);(case l=>k_is);(case c=>k_is);(case k=>k_is)
  have DX:L2.Top (L2.KOf KX) mg "as_top" K74.qY:=by
   dsimp only[L2.KOf];refine' L2.Top.mk' KX G ?a ?l ?c ?k
   (case a=>k_is);(case l=>k_is);(case c=>k_is);(case k=>k_is)
  have yO:L2.Top (L2.KOf KX) mg "take_top" K74.mr:=by
   dsimp only[L2.KOf];refine' L2.Top.mk' KX G ?a ?l ?c ?k
   (case a=>k_is);(case l=>k_is);(case c=>k_is);(case k=>k_is)
  have vy:L2.Top (L2.KOf KX) mg "take_least" K74.jY:=by
   dsimp only[L2.KOf];refine' L2.Top.mk' KX G ?a ?l ?c ?k
   (case a=>k_is);(case l=>k_is);(case c=>k_is);(case k=>k_is)
  have vz:L2.Top (L2.KOf KX) mg "most_below" K74.jZ:=by
   dsimp only[L2.KOf];refine' L2.Top.mk' KX G ?a ?l ?c ?k
   (case a=>k_is);(case l=>k_is);(case c=>k_is);(case k=>k_is)
  have oF:L2.Top (L2.KOf KX) mg "_law_hang_right" K74.gu:=by
   dsimp only[L2.KOf];refine' L2.Top.mk' KX G ?a ?l ?c ?k
   (case a=>k_is);(case l=>k_is);(case c=>k_is);(case k=>k_is)
  have vA:L2.Top (L2.KOf KX) mg "_law_walked" K74.j0:=by
   dsimp only[L2.KOf];refine' L2.Top.mk' KX G ?a ?l ?c ?k
   (case a=>k_is);(case l=>k_is);(case c=>k_is);(case k=>k_is)
  have ri:L2.Top (L2.KOf KX) mg "_law_is_entry" K74.iS:=by
   dsimp only[L2.KOf];refine' L2.Top.mk' KX G ?a ?l ?c ?k
   (case a=>k_is);(case l=>k_is);(case c=>k_is);(case k=>k_is)
  have rV:L2.Top (L2.KOf KX) mg "_law_is_pile" K74.ji:=by
   dsimp only[L2.KOf];refine' L2.Top.mk' KX G ?a ?l ?c ?k
   (case a=>k_is);(case l=>k_is);(case c=>k_is);(case k=>k_is)
  have xB:L2.Top (L2.KOf KX) mg "_law_taken" K74.lz:=by
   dsimp only[L2.KOf];refine' L2.Top.mk' KX G ?a ?l ?c ?k
   (case a=>k_is);(case l=>k_is);(case c=>k_is);(case k=>k_is)
  have Kn:L2.Top (L2.KOf KX) mg "law" K74.z4:=by
   dsimp only[L2.KOf];refine' L2.Top.mk' KX G ?a ?l ?c ?k
   (case a=>k_is);(case l=>k_is);(case c=>k_is);(case k=>k_is)
  have rf:mg "bool"=none:=by
   refine' za0 KX G ?z
   (case z=>k_is)
  have j6:mg "dict"=none:=by
   refine' za0 KX G ?z
   (case z=>k_is)
  have o4:mg "enumerate"=none:=by
   refine' za0 KX G ?z
   (case z=>k_is)
  have G3:mg "int"=none:=by
   refine' za0 KX G ?z
   (case z=>k_is)
  have bG:mg "isinstance"=none:=by
   refine' za0 KX G ?z
   (case z=>k_is)
  have bQ:mg "len"=none:=by
   refine' za0 KX G ?z
   (case z=>k_is)
  have j4:mg "list"=none:=by
   refine' za0 KX G ?z
   (case z=>k_is)
  have z5:mg "max"=none:=by
   refine' za0 KX G ?z
   (case z=>k_is)
  have z6:mg "min"=none:=by
   refine' za0 KX G ?z
   (case z=>k_is)
  have nJ:mg "range"=none:=by
   refine' za0 KX G ?z
   (case z=>k_is)
  have G2:mg "set"=none:=by
   refine' za0 KX G ?z
   (case z=>k_is)
  have eP:mg "tuple"=none:=by
   refine' za0 KX G ?z
   (case z=>k_is)
  have Z:K74.g9 mg:=by
   intro x hx;simp only[List.mem_cons,List.not_mem_nil,or_false]at hx;rcases hx with rfl|rfl|rfl|rfl|rfl|rfl|rfl|rfl|rfl|rfl|rfl|rfl<;>assumption
  have NL:Mir.pA (L2.KOf KX)=true:=by
   dsimp only[L2.KOf]
   first|rfl|kernel_rfl|k_is
  refine⟨Kn,λf fd Ff base kb gb=>?_⟩
  have mv:=K74.xq (P:=zah) (w:=w) (base:=base) Z yL;have oE:=K74.yJ (P:=zah) (w:=w) (base:=base) Z Bg;have eQ:=K74.rK (P:=zah) (w:=w) (base:=base) Z vp;have gv:=K74.xr (P:=zah) (w:=w) (base:=base) Z yM;have cw:=K74.qZ (P:=zah) (w:=w) (base:=base) Z rT;have dO:=K74.rL (P:=zah) (w:=w) (base:=base) Z vq;have j5:=K74.rM (P:=zah) (w:=w) (base:=base) Z xw oE gv eQ dO cw mv;have gW:=K74.nK (P:=zah) (w:=w) (base:=base) Z xx cw 12;have kf:=K74.rN (P:=zah) (w:=w) (base:=base) Z xA dO cw gW j5;have gE:=K74.q8 (P:=zah) (w:=w) (base:=base) Z rU;have fk:=K74.xt (P:=zah) (w:=w) (base:=base) Z yN;have j8:=K74.rO (P:=zah) (w:=w) (base:=base) Z hK vt fk;have yK:=K74.Gg (P:=zah) (w:=w) (base:=base) Z Ja;have j7:=K74.rP (P:=zah) (w:=w) (base:=base) Z vx yK fk;have q9:=K74.Bf (P:=zah) (w:=w) (base:=base) Z DX;have mw:=K74.xu (P:=zah) (w:=w) (base:=base) Z yO j7 q9;have kc:=K74.rQ (P:=zah) (w:=w) (base:=base) Z vy mw j8;have ke:=K74.rR (P:=zah) (w:=w) (base:=base) Z vz;have gw:=K74.nL (P:=zah) (w:=w) (base:=base) Z oF eQ;have j9:=K74.rS (P:=zah) (w:=w) (base:=base) Z vA gv gw
  have iU:=K74.pd (P:=zah) (w:=w) (base:=base) Z ri;have du:=K74.rg (P:=zah) (w:=w) (base:=base) Z rV iU;have lB:=K74.vo (P:=zah) (w:=w) (base:=base) Z xB gE du j9 kc ke;exact K74.I0 NL Z Ff du lB kf

