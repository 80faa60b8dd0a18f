import PyProof.Rows.All
import Wide.All
import OpenK.AllK
import Wide.FinOn
import Lean
import PyProof.EqAt
import PyProof.EqKinds
import PyProof.TupleCall
import KE.KTryMore
import PyProof.ZipIter
import KE.KDictLaws
import KE.KDictList
import PyProof.Rows.SetFrom
import PyProof.DictWalks
import PyProof.Rows.StrInSeq3
import PyProof.EnumMake
import PyProof.Rows.EnumRows
import PyProof.DictItems
import PyProof.FString5
import PyProof.MeetsDictList
import PySem.Challenge.RW_creditworks_k76_names_put_out

set_option Elab.async false
set_option linter.all false
set_option maxRecDepth 100000
noncomputable section
theorem zaa(h:o.bind f=some b):∃a,o=some a/\f a=some b:=Option.bind_eq_some_iff.mp h
theorem zab(h:o.map f=some b):∃a,o=some a/\f a=b:=Option.map_eq_some_iff.mp h
theorem zac{l:List α}(h:l[i]?=some a):∃h:i<l.length,l[i]=a:=List.getElem?_eq_some_iff.mp h
theorem zad(h:a∈[b]):a=b:=List.mem_singleton.mp h
theorem zae{s t:List α}(h:a∈s++t):a∈s\/a∈t:=List.mem_append.mp h
theorem zaf(h:a∈b::l):a=b\/a∈l:=List.mem_cons.mp h
abbrev zag:=PySem.W.Frag
abbrev zah:=PySem.Challenge.rw_creditworks_k76_names_put_out.prog
section
open PySem PySem.Spec PyProof.Rows
def zai:=@Option.bind_some
def zaj:=@List.mem_of_getElem?
def zak:=@List.mem_cons_of_mem
def zal:=@List.length_map
def zam:=@Bool.false_ne_true
def zan:=@List.mem_append_right
def zao:=@List.getElem?_map
def zap:=@Nat.le_refl
def zaq:=@Heap.lt_size
def zar:=@Heap.get?_push_of_some
def zas:=@List.mem_cons_self
def zat:=@List.getElem?_cons_succ
def zau:=@List.length_append
def zav:=@List.getElem?_set_self
def zaw:=@List.length_cons
def zax:=@List.getElem?_append_left
def zay:=@List.cons_append
def zaz:=@List.map_cons
def zaA:=@List.getElem?_set_ne
def zaB:=@PyProof.Rows.boot_isinstance
def zaC:=@List.getElem?_eq_getElem
def zaD:=@List.append_assoc
def zaE:=@PySem.boot_len
def zaF:=@Nat.lt_of_lt_of_le
def zaG:=@List.eq_of_mem_replicate
def zaH:=@decide_eq_true
def zaI:=@wpAny_bind
def zaJ:=@PySem.F.plainAttrs_list
def zaK:=@List.size_toArray
def zaL:=@Heap.get?_push_size
def zaM:=@List.length_set
def zaN:=@List.getElem?_append_right
def zaO:=@decide_eq_false
def zaP:=@List.getElem?_cons_zero
def zaQ:=@Option.some.inj
def zaR:=@List.append_nil
def zaS:=@Nat.ne_of_lt
def zaT:=@Option.map_some
def zaU:=@PySem.F.type_list_append
def zaV:=@PySem.F.slot_list_append
def zaW:=@List.mem_append_left
def zaX:=@Nat.le_trans
def zaY:=@List.length_filter_le
def zaZ:=@wpAny_pure
def za0:=@PySem.W.mg_none_of
def za1:=@List.map_append
def za2:=@PyProof.Rows.boot_tuple
def za3:=@Nat.lt_irrefl
def za4:=@PySem.W.kia_one
def za5:=@PySem.mem_of_lookup
def za6:=@wpAny_mono
def za7:=@List.length_singleton
def za8:=@List.lookup_cons
def za9:=@List.Nodup.mem_erase_iff
def zba:=@Nat.le_of_not_lt
def zbb:=@List.drop_eq_getElem_cons
def zbc:=@List.replicate_succ
end
namespace L2
open PySem PySem.Spec PyProof.Rows
abbrev Key:=Sum Int Str
def rC:Key->Value->Bool
 | .inl k,v=>Value.isInt k v
 | .inr x,v=>Value.isStrOf x v
def MQ(w:World):Key->Int
 | .inl k=>hashInt k
 | .inr x=>hashStr w x
theorem dj:∀{k:Key} {v:Value},rC k v=true->(∃i t,k=Sum.inl i/\v=Value.int i t)\/(∃x t,k=Sum.inr x/\v=Value.str x t)
 | .inl i,v,h=>by
  obtain⟨t,e⟩:=Value.isInt_shape (k:=i) (v:=v) h;exact .inl ⟨i,t,rfl,e⟩
 | .inr x,v,h=>by
  obtain⟨t,e⟩:=Value.isStrOf_shape (x:=x) (v:=v) h;exact .inr ⟨x,t,rfl,e⟩
theorem B6(i:Int)(t:Tok):rC (.inl i) (.int i t)=true:=by simp[rC,Value.isInt]
theorem B7(x:Str)(t:Tok):rC (.inr x) (.str x t)=true:=by simp[rC,Value.isStrOf]
theorem Jq(a b:Int):decide ((Sum.inl a:Key)=Sum.inl b)=(a==b):=by
 by_cases e:a=b
 ·subst e;simp
 ·have h : ¬(Sum.inl a:Key)=Sum.inl b:=λq=>e (Sum.inl.inj q)
  rw[zaO h];exact(beq_eq_false_iff_ne.mpr e).symm
theorem Jr(a b:Str):decide ((Sum.inr a:Key)=Sum.inr b)=decide (a=b):=by
 by_cases e:a=b
 ·subst e;simp
 ·have h : ¬(Sum.inr a:Key)=Sum.inr b:=λq=>e (Sum.inr.inj q)
  rw[zaO h,zaO e]
theorem Js(a:Int)(b:Str):decide ((Sum.inl a:Key)=Sum.inr b)=false:=zaO (λq=>nomatch q)
theorem Jt(a:Str)(b:Int):decide ((Sum.inr a:Key)=Sum.inl b)=false:=zaO (λq=>nomatch q)
def b6(prog:Program)(w:World):PySem.KeyKind prog w Key where
 is:=rC
 hash:=MQ w
 inj:=λv a b ha hb=>by
  rcases dj ha with⟨i,t,rfl,rfl⟩|⟨x,t,rfl,rfl⟩
  ·rcases dj hb with⟨j,u,rfl,e⟩|⟨y,u,rfl,e⟩
   ·injection e with e1 _;rw[e1]
   ·exact nomatch e
  ·rcases dj hb with⟨j,u,rfl,e⟩|⟨y,u,rfl,e⟩
   ·exact nomatch e
   ·injection e with e1 _;rw[e1]
 byValue:=λk v h=>by
  rcases dj h with⟨i,t,rfl,rfl⟩|⟨x,t,rfl,rfl⟩<;>rfl
 pyHash:=λhv h=>by
  rcases dj hv with⟨i,t,rfl,rfl⟩|⟨x,t,rfl,rfl⟩
  ·exact wpAny_pyHash_int h
  ·exact wpAny_pyHash_str h
 eqBool:=λhu hv h=>by
  rcases dj hu with⟨i,t,rfl,rfl⟩|⟨x,t,rfl,rfl⟩
  ·rcases dj hv with⟨j,u,rfl,rfl⟩|⟨y,u,rfl,rfl⟩
   ·rw[Jq]at h;exact wpAny_eqBool_int h
   ·rw[Js]at h;exact SeqAt.EqAt.int_str i t y u _ _ _ _ h
  ·rcases dj hv with⟨j,u,rfl,rfl⟩|⟨y,u,rfl,rfl⟩
   ·rw[Jt]at h;exact SeqAt.EqAt.str_int x t j u _ _ _ _ h
   ·rw[Jr]at h;exact wpAny_eqBool_str h
 «strs»:=λk x t v h=>by
  rcases dj h with⟨i,u,rfl,e⟩|⟨y,u,rfl,e⟩
  ·exact nomatch e
  ·injection e with e1 _
   subst e1;cases v<;>rfl
theorem zo(prog:Program)(w:World)(k:Key)(v:Value):(b6 prog w).is k v=rC k v:=rfl
theorem xm(prog:Program)(w:World)(i:Int)(t:Tok):(b6 prog w).is (.inl i) (.int i t)=true:=B6 i t
theorem xn(prog:Program)(w:World)(x:Str)(t:Tok):(b6 prog w).is (.inr x) (.str x t)=true:=B7 x t
inductive V where
 |non|bl (b:Bool)|int (i:Int)|str (x:Str)|byt (b:Array UInt8)|flt (b:UInt64)|ref (a:Addr)|ty (n:String)
 deriving DecidableEq
def RelV:V->Value->Prop
 | .non,u=>u=Value.none
 | .bl b,u=>u=Value.bool b
 | .int i,u=>∃t,u=Value.int i t
 | .str x,u=>∃t,u=Value.str x t
 | .byt b,u=>∃t,u=Value.bytes b t
 | .flt b,u=>∃t,u=Value.float b t
 | .ref a,u=>u=Value.ref a
 | .ty n,u=>u=Value.type n
abbrev Vals:List V->List Value->Prop:=Paired RelV
theorem Vals.length(r:Vals xs us):xs.length=us.length:=Paired.length r
theorem Vals.get:∀{xs:List V} {us:List Value} {i:Nat} {x:V},Vals xs us->xs[i]?=some x->∃u,us[i]?=some u/\RelV x u
 |_,_,_,_,.nil,e=>by simp at e
 |_,_,0,_,.cons r _,e=>by simp at e;subst e;exact⟨_,rfl,r⟩
 |_,_,i+1,x,.cons _ t,e=>by
  obtain⟨u,h1,h2⟩:=Vals.get (i:=i) (x:=x) t (by simpa using e)
  exact⟨u,by simpa using h1,h2⟩
theorem Vals.set(r:RelV x u):∀{xs:List V} {us:List Value} (i:Nat),Vals xs us->Vals (xs.set i x) (us.set i u)
 |_,_,_,.nil=>.nil
 |_,_,0,.cons _ t=>.cons r t
 |_,_,i+1,.cons q t=>.cons q (Vals.set r i t)
theorem Vals.append:∀{xs ys:List V} {us ws:List Value},Vals xs us->Vals ys ws->Vals (xs++ys) (us++ws)
 |_,_,_,_,.nil,s=>s
 |_,_,_,_,.cons r t,s=>.cons r (Vals.append t s)
theorem Vals.take:∀{xs:List V} {us:List Value} (n:Nat),Vals xs us->Vals (xs.take n) (us.take n)
 |_,_,0,_=>.nil
 |_,_,_+1,.nil=>.nil
 |_,_,n+1,.cons r t=>.cons r (Vals.take n t)
theorem Vals.drop:∀{xs:List V} {us:List Value} (n:Nat),Vals xs us->Vals (xs.drop n) (us.drop n)
 |_,_,0,r=>r
 |_,_,_+1,.nil=>.nil
 |_,_,n+1,.cons _ t=>Vals.drop n t
theorem Vals.none_of:∀{xs:List V} {us:List Value} {i:Nat},Vals xs us->xs[i]?=none->us[i]?=none:=fun{xs us i} r e=>by
 have h1:=r.length;have h2:xs.length<=i:=List.getElem?_eq_none_iff.mp e;exact List.getElem?_eq_none_iff.mpr (by omega)
def nM:Option V->Option Value->Prop
 |some v,some u=>RelV v u
 |none,none=>True
 |_,_=>False
def KV{κ:Type}:List (κ×V)->List (κ×Value)->Prop:=Paired λ(p : κ×V) (q : κ×Value)=>p.1=q.1/\RelV p.2 q.2
def kV:Key->V
 | .inl i=>.int i
 | .inr x=>.str x
inductive HO where
 |lst (xs:List V)
 |tup (xs:List V)
 |dK (kvs:List (Key×V))|dT (kvs:List (List Key×V))
 |set (S:Int->Bool) (n:Nat)
 |ins (C dx:Addr) (fs:List (Str×V))
 |own (x:Addr)
 |xd (fs:List (Str×V))
 |met (f x:Addr)
 |rng (lo hi:Int)
 |frz (o:Obj) (u:HO)
 |tbl (ps:Array Value)
 |ext (φ:Heap->Prop)
abbrev Hp:=Addr->Option HO
def upd(H:Hp)(a:Addr)(o:HO):Hp:=λb=>if b=a then some o else H b
theorem aB:upd H a o a=some o:=by unfold upd;rw[if_pos rfl]
theorem ax(h:b≠a):upd H a o b=H b:=by unfold upd;rw[if_neg h]
theorem Lc{H:Hp}(h:H a=some o)(h':H b=some u)(d:o≠u):a≠b:=by
 intro e;subst e;rw[h]at h';exact d (zaQ h')
theorem fY{H:Hp}(h:H a=some o)(h':H b=none):a≠b:=by
 intro e;subst e;rw[h]at h';cases h'
section
variable(P:Program)(w:World)
def cG(H:Hp)(h:Heap)(a:Addr):HO->Prop
 | .lst xs=>xs.length<=sizeLine/\∃(its:List Value) (n:Nat),Vals xs its/\h.get? a=some {cls:=.type "list",data:=.seq its.toArray n}
 | .tup xs=>xs.length<=sizeLine/\∃its:List Value,Vals xs its/\IsTup h a its.toArray
 | .dK kvs=>kvs.length<=sizeLine/\(a==sysModules)=false/\∃vs,KV kvs vs/\h.DictOf (b6 P w) a vs
 | .dT kvs=>kvs.length<=sizeLine/\(a==sysModules)=false/\∃xs:List (List Key×Addr×Value),
   Paired (λ(p:List Key×V) (q:List Key×Addr×Value)=>p.1=q.1/\H q.2.1=some (.tup (p.1.map kV))/\RelV p.2 q.2.2) kvs xs/\
   ∃o es ep,h.get? a=some o/\o.ExactDict/\o.data=.dict es ep/\es.toList=xs.map (entryOfKey (tupleKind (b6 P w)))/\(xs.map (·.1)).Nodup
 | .set S n=>h.SetOf (intKind P w) a S n
 | .ins C dx fs=>H dx=some (.own a)/\fs.length<=1000/\dx≠a/\h.get? a=some (PySem.W.instObj C dx)/\
   ∃mA,h.Ns1 dx mA/\(∀f,nM (fs.lookup f) (mA f))/\PySem.Within mA (fs.map (·.1))
 | .own _=>∃o,h.get? a=some o
 | .xd fs=>∃mA,h.Ns1 a mA/\∀f,nM (fs.lookup f) (mA f)
 | .rng lo hi=>∃t u v,h.get? a=some {cls:=.type "range",data:=.fields #[.int lo t,.int hi u,.int 1 v]}
 | .frz o u=>h.get? a=some o/\cG H h a u
 | .tbl ps=>h.get? a=some {cls:=.none,data:=.fields ps}
 | .met f x=>h.get? a=some (PySem.W.methodObj (.ref f) (.ref x))
 | .ext φ=>φ h/\(∃o,h.get? a=some o)/\∀h1 h2:Heap,φ h1->(∀o,h1.get? a=some o->h2.get? a=some o)->φ h2
def HOk(H:Hp)(h:Heap):Prop:=∀a o,H a=some o->cG P w H h a o
end
section
variable{P:Program}{w:World}{H H':Hp}{h h':Heap}{a:Addr}{o:HO}
theorem cG.lt(x:cG P w H h a o):a<h.objs.size:=by
 cases o with
 |lst xs=>obtain⟨_,_,_,_,e⟩:=x;exact zaq e
 |tup xs=>obtain⟨_,_,_,p⟩:=x;exact p.lt
 |dK kvs=>obtain⟨_,_,_,_,o,_,_,e,_⟩:=x;exact zaq e
 |dT kvs=>obtain⟨_,_,_,_,o,_,_,e,_⟩:=x;exact zaq e
 |set S n=>obtain⟨o,_,_,_,e,_⟩:=x;exact zaq e
 |ins C dx fs=>obtain⟨_,_,_,e,_⟩:=x;exact zaq e
 |own y=>obtain⟨_,e⟩:=x;exact zaq e
 |xd fs=>obtain⟨_,⟨_,_,_,e,_⟩,_⟩:=x;exact zaq e
 |rng lo hi=>obtain⟨_,_,_,e⟩:=x;exact zaq e
 |frz ob u=>obtain⟨e,_⟩:=x;exact zaq e
 |tbl ps=>exact zaq (show h.get? a=some _ from x)
 |met f y=>exact zaq (show h.get? a=some _ from x)
 |ext φ=>obtain⟨_,⟨_,e⟩,_⟩:=x;exact zaq e
theorem Paired.Ju:∀{l₁:List α} {l₂:List β},Paired F l₁ l₂->(∀a b,F a b->G a b)->Paired G l₁ l₂
 |_,_,.nil,_=>.nil
 |_,_,.cons r t,f=>.cons (f _ _ r) (Paired.Ju t f)
theorem cG.stay(x:cG P w H h a o)(k:∀b u,(b=a\/H b=some (.own a))->h.get? b=some u->h'.get? b=some u)
  (ho:∀b,H b=some (.own a)->H' b=some (.own a)) (ht:∀b xs,H b=some (.tup xs)->H' b=some (.tup xs)):cG P w H' h' a o:=by
 induction o with
 |lst xs=>obtain⟨z,its,n,r,e⟩:=x;exact⟨z,its,n,r,k _ _ (.inl rfl) e⟩
 |tup xs=>obtain⟨z,its,r,ob,e,c⟩:=x;exact⟨z,its,r,ob,k _ _ (.inl rfl) e,c⟩
 |dK kvs=>obtain⟨z,y,vs,r,ob,es,ep,e,c⟩:=x;exact⟨z,y,vs,r,ob,es,ep,k _ _ (.inl rfl) e,c⟩
 |dT kvs=>
  obtain⟨z,y,xs,r,ob,es,ep,e,c⟩:=x;exact⟨z,y,xs,Paired.Ju r λp q z=>⟨z.1,ht _ _ z.2.1,z.2.2⟩,ob,es,ep,k _ _ (.inl rfl) e,c⟩
 |set S n=>obtain⟨ob,es,ep,t,e,c⟩:=x;exact⟨ob,es,ep,t,k _ _ (.inl rfl) e,c⟩
 |ins C dx fs=>
  obtain⟨d,z,ne,e,mA,⟨od,es,ep,e2,c⟩,r⟩:=x;exact⟨ho _ d,z,ne,k _ _ (.inl rfl) e,mA,⟨od,es,ep,k _ _ (.inr d) e2,c⟩,r⟩
 |own y=>obtain⟨ob,e⟩:=x;exact⟨ob,k _ _ (.inl rfl) e⟩
 |xd fs=>obtain⟨mA,⟨od,es,ep,e,c⟩,r⟩:=x;exact⟨mA,⟨od,es,ep,k _ _ (.inl rfl) e,c⟩,r⟩
 |rng lo hi=>obtain⟨t,u,v,e⟩:=x;exact⟨t,u,v,k _ _ (.inl rfl) e⟩
 |frz ob u ih=>obtain⟨e,q⟩:=x;exact⟨k _ _ (.inl rfl) e,ih q⟩
 |tbl ps=>
  have e:h.get? a=some {cls:=.none,data:=.fields ps}:=x;show h'.get? a=some {cls:=.none,data:=.fields ps};exact k a _ (.inl rfl) e
 |met f y=>
  have e:h.get? a=some (PySem.W.methodObj (.ref f) (.ref y)):=x;show h'.get? a=some (PySem.W.methodObj (.ref f) (.ref y));exact k a _ (.inl rfl) e
 |ext φ=>obtain⟨p,⟨o,e⟩,st⟩:=x;exact⟨st _ _ p λo q=>k _ _ (.inl rfl) q,⟨o,k _ _ (.inl rfl) e⟩,st⟩
theorem HOk.lt(x:HOk P w H h)(e:H a=some o):a<h.objs.size:=(x a o e).lt
theorem HOk.fresh(x:HOk P w H h)(e:h.objs.size<=a):H a=none:=by
 cases q:H a with
 |none=>rfl
 |some u=>exact absurd (zaF (x.lt q) e) (za3 _)
theorem HOk.kept(x:HOk P w H h)(k:∀b u,h.get? b=some u->h'.get? b=some u):HOk P w H h':=λa o e=>
 (x a o e).stay (λb u _ q=>k b u q) (λ_ q=>q) λ_ _ q=>q
theorem HOk.laid(x:HOk P w H h)(k:∀b u,h.get? b=some u->h'.get? b=some u)(hp:h.objs.size<=a)(new:cG P w (upd H a o) h' a o):HOk P w (upd H a o) h':=λb u e=>by
 have hn:=x.fresh hp
 by_cases hb:b=a
 ·subst hb;rw[aB]at e;cases e;exact new
 ·rw[ax hb]at e
  exact(x b u e).stay (λc v _ q=>k c v q) (λc q=>by rw[ax (fY q hn)];exact q) λc xs q=>by rw[ax (fY q hn)];exact q
end
def Rd(H:Hp)(a:Addr)(u:HO):Prop:=H a=some u\/∃o,H a=some (.frz o u)
theorem Rd.of(h:H a=some u):Rd H a u:=.inl h
theorem Rd.ok(r:Rd H a u)(x:HOk P w H h):cG P w H h a u:=by
 rcases r with r|⟨o,r⟩
 ·exact x a u r
 ·obtain⟨_,q⟩:=x a _ r
  exact q
def Mut:Option HO->Prop
 |some (.lst _)=>True
 |some (.dK _)=>True
 |some (.dT _)=>True
 |some (.set _ _)=>True
 |some (.ins _ _ _)=>True
 |some (.ext _)=>True
 |_=>False
section
variable{P:Program}{w:World}{H:Hp}{h h':Heap}{x e:Addr}{o':HO}
theorem HOk.write(ok:HOk P w H h)(mu:Mut (H x))(he:e=x\/H e=some (.own x))(k:∀b u,b≠e->h.get? b=some u->h'.get? b=some u)(heo:∃u,h'.get? e=some u)
  (new:cG P w (upd H x o') h' x o'):HOk P w (upd H x o') h':=λb u q=>by
 have xo:∀c y,H c=some (.own y)->c≠x:=λc y r z=>by subst z;rw[r]at mu;exact mu
 have MR:∀c xs,H c=some (.tup xs)->c≠x:=λc xs r z=>by subst z;rw[r]at mu;exact mu
 by_cases hb:b=x
 ·subst hb;rw[aB]at q;cases q;exact new
 ·rw[ax hb]at q
  by_cases hbe:b=e
  ·have q':H b=some (.own x):=by
    rcases he with z|z
    ·exact absurd (hbe.trans z) hb
    ·rw[hbe];exact z
   rw[q]at q';cases q'
   obtain⟨v,hv⟩:=heo;exact⟨v,by rw[hbe];exact hv⟩
  ·refine(ok b u q).stay (λc v hc r=>k c v ?_ r) (λc r=>by rw[ax (xo c b r)];exact r) λc xs r=>by rw[ax (MR c xs r)];exact r
   rcases hc with rfl|hc
   ·exact hbe
   ·rintro rfl
    rcases he with z|z
    ·exact xo c b hc z
    ·rw[hc]at z;cases z;exact hb rfl
end
structure Un(fs ex:List Addr)(H H':Hp)(h h':Heap):Prop where
 keep:∀b o,h.get? b=some o->H b=none->b∉fs->b∉ex->h'.get? b=some o
 slot:∀b o,h.get? b=some o->H b=none->b∈fs->b∉ex->∃sl,h'.get? b=some {o with slots:=sl}
 free:∀b o,h.get? b=some o->H b=none->b∉ex->H' b=none
 there:∀b o,h.get? b=some o->b∉ex->∃o',h'.get? b=some o'
 tups:∀b xs,H b=some (.tup xs)->H' b=some (.tup xs)
 ja:∀b o u,H b=some (.frz o u)->H' b=some (.frz o u)
 jP:∀b ps,H b=some (.tbl ps)->∃more,H' b=some (.tbl (ps++more))
section
variable{fs fs' ex ex':List Addr}{H H1 H2:Hp}{h h1 h2 h':Heap}{a x e:Addr}{o:HO}
theorem Un.any(u:Un fs ex H H1 h h1)(q:h.get? b=some ob)(n:H b=none)(hx:b∉ex):∃sl,h1.get? b=some {ob with slots:=sl}:=by
 by_cases hb:b∈fs
 ·exact u.slot b ob q n hb hx
 ·exact⟨ob.slots,u.keep b ob q n hb hx⟩
theorem Un.trans(a:Un fs ex H H1 h h1)(b:Un fs ex H1 H2 h1 h2):Un fs ex H H2 h h2 where
 keep:=λc ob q n hc hx=>b.keep c ob (a.keep c ob q n hc hx) (a.free c ob q n hx) hc hx
 slot:=λc ob q n hc hx=>by
  obtain⟨sl,e1⟩:=a.slot c ob q n hc hx;obtain⟨sl',e2⟩:=b.slot c _ e1 (a.free c ob q n hx) hc hx;exact⟨sl',e2⟩
 free:=λc ob q n hx=>by
  obtain⟨o',e1⟩:=a.there c ob q hx;exact b.free c o' e1 (a.free c ob q n hx) hx
 there:=λc ob q hx=>by
  obtain⟨o',e1⟩:=a.there c ob q hx;exact b.there c o' e1 hx
 tups:=λc xs q=>b.tups c xs (a.tups c xs q)
 ja:=λc ob xs q=>b.ja c ob xs (a.ja c ob xs q)
 jP:=λc ps q=>by
  obtain⟨m1,e1⟩:=a.jP c ps q;obtain⟨m2,e2⟩:=b.jP c _ e1;exact⟨m1++m2,by rw[e2,Array.append_assoc]⟩
theorem Un.kept(k:∀b u,h.get? b=some u->h'.get? b=some u):Un fs ex H H h h' :=
 ⟨λb ob q _ _ _=>k b ob q,λb ob q _ _ _=>⟨ob.slots,k b ob q⟩,λ_ _ _ n _=>n,λb ob q _=>⟨ob,k b ob q⟩,λ_ _ q=>q,λ_ _ _ q=>q,λ_ ps q=>⟨#[],by rw[q];simp⟩⟩
theorem Un.refl:Un fs ex H H h h:=Un.kept λ_ _ q=>q
theorem Un.laid(k:∀b u,h.get? b=some u->h'.get? b=some u)(hp:h.objs.size<=a)(hn:H a=none):Un fs ex H (upd H a o) h h' where
 keep:=λb u q _ _ _=>k b u q
 slot:=λb u q _ _ _=>⟨u.slots,k b u q⟩
 free:=λb u q n _=>by rw[ax (zaS (zaF (zaq q) hp))];exact n
 there:=λb u q _=>⟨u,k b u q⟩
 tups:=λb xs q=>by rw[ax (fY q hn)];exact q
 ja:=λb u xs q=>by rw[ax (fY q hn)];exact q
 jP:=λb ps q=>⟨#[],by rw[ax (fY q hn),q];simp⟩
theorem Un.write(mu:Mut (H x))(he:e=x\/H e=some (.own x))(k:∀b u,b≠e->h.get? b=some u->h'.get? b=some u)(heo:∃u,h'.get? e=some u):Un fs ex H (upd H x o) h h':=by
 have hx:∀b,H b=none->b≠x:=λb n z=>by subst z;rw[n]at mu;exact mu
 have hb:∀b,H b=none->b≠e:=λb n z=>by
  subst z;rcases he with r|r
  ·exact hx b n r
  ·rw[n]at r;cases r
 have hm:∀b u,H b=some u->¬Mut (some u)->b≠x:=λb u q nm z=>by subst z;rw[q]at mu;exact nm mu
 refine⟨λb u q n _ _=>k b u (hb b n) q,λb u q n _ _=>⟨u.slots,k b u (hb b n) q⟩,λb u q n _=>by rw[ax (hx b n)];exact n,λb u q _=>?_,
  λb xs q=>by rw[ax (hm b _ q λz=>z)];exact q,λb u xs q=>by rw[ax (hm b _ q λz=>z)];exact q,λb ps q=>⟨#[],by rw[ax (hm b _ q λz=>z),q];simp⟩⟩
 by_cases hbe:b=e
 ·subst hbe;exact heo
 ·exact⟨u,k b u hbe q⟩
theorem Un.mono(u:Un fs ex H H1 h h1)(hs:∀b∈fs,b∈fs')(hx:∀b∈ex,b∈ex'):Un fs' ex' H H1 h h1 :=
 ⟨λb ob q n hb he=>u.keep b ob q n (λz=>hb (hs b z)) λz=>he (hx b z),λ_ _ q n _ he=>u.any q n λz=>he (hx _ z),λb ob q n he=>u.free b ob q n λz=>he (hx b z),λb ob q he=>u.there b ob q λz=>he (hx b z),u.tups,u.ja,u.jP⟩
end
def trk(h:Heap)(H:Hp):List Addr:=(List.range h.objs.size).filter λa=>(H a).isSome
def vo(h:Heap)(H:Hp):Heap:=PySem.W.hideAll h (trk h H)
theorem B8(h:Heap)(H:Hp):(vo h H).objs.size=h.objs.size:=PySem.W.hideAll_size _ _
theorem Dt(e:h.get? b=some o)(n:H b=none):(vo h H).get? b=some o :=
 PySem.W.hideAll_get _ e λhm=>by
  have q:(H b).isSome=true:=(List.mem_filter.mp hm).2;rw[n]at q;simp at q
theorem Ge(e:(vo h H).get? b=some o):h.get? b=some o/\H b=none:=by
 have e':h.get? b=some o:=PySem.W.of_hideAll (trk h H) e;refine⟨e',?_⟩;cases q:H b with
 |none=>rfl
 |some x=>
  have hm:b∈trk h H:=List.mem_filter.mpr ⟨List.mem_range.mpr (zaq e'),by simp[q]⟩
  have z:(vo h H).get? b=none:=PySem.W.hideAll_none (trk h H) hm;rw[z]at e;cases e
def Gf(g h:Heap)(L:Addr):List (Addr×Obj):=(List.range h.objs.size).filterMap λa=>if a=L\/(g.get? a).isSome=true then none else(h.get? a).map λo=>(a,o)
def rest(g h:Heap)(L d:Addr):List (Addr×Obj):=(Gf g h L).filter λp=>decide (p.1≠d)
structure Mod(K:zag)(mg:Str->Option Value)(base:Heap):Prop where
 kin:K.In base
 glob:base.Ns mainGlobals mg
 blt:∃mb,base.Ns builtinsNs mb/\∀x:Str,x≠"__name__"->mb x=bootBuiltins x
 nolimit:base.NoLimit
structure Cx where
 prog:Program
 w:World
 K:zag
 mg:Str->Option Value
 base:Heap
 A:Around
 N:List Str
 s₀:Shared
 H₀:Hp
 env:Env
 outer:List Env
 stack:List Env
 ex:List Addr
 fn:Str->Bool
 calm:Bool
 pn:List (Addr×Obj)
 xe:Value->Shared->Prop
def frs(l:List Env):List Addr:=l.filterMap (·.frame)
abbrev Cx.fs(X:Cx):List Addr:=frs X.outer
def Vis(sc:Scope)(x:Str):Prop:=sc.names.lookup x=some .local\/sc.names.lookup x=some .cell\/sc.names.lookup x=some .free
def Loc(sc:Scope)(x:Str):Prop:=sc.names.lookup x=some .local\/sc.names.lookup x=some .cell
def Look(env:Env)(h:Heap)(m:Str->Option Value)(x:Str)(u:Value):Prop :=
 (env.kindOf x=some .local/\m x=some u)\/((env.kindOf x=some .cell\/env.kindOf x=some .free)/\∃c,env.cells.lookup x=some c/\h.IsCell c (some u))
structure Cx.Ok(X:Cx):Prop where
 mod:Mod X.K X.mg X.base
 kind:X.env.scope.kind=.function
 glob:X.env.globals=mainGlobals
 blt:X.env.builtins=builtinsNs
 above:X.s₀.heap.objs.size<=X.env.locals
 inj:∀x y c,X.env.cells.lookup x=some c->X.env.cells.lookup y=some c->x=y
 has:∀x,(X.env.kindOf x=some .cell\/X.env.kindOf x=some .free)->∃c,X.env.cells.lookup x=some c
 cab:∀x c,X.fn x=true->X.env.cells.lookup x=some c->X.s₀.heap.objs.size<=c
 hd:X.calm=true->X.A.handled=none
 frames:X.A.frames=some X.stack
 stk:X.stack=X.outer\/(X.stack=X.env::X.outer/\X.env.frame=some X.env.locals)
 exf:∀b∈X.ex,b≠X.env.locals/\∀x c,X.env.cells.lookup x=some c->c≠b
 bs:∀b o,X.base.get? b=some o->X.s₀.heap.get? b=some o/\X.H₀ b=none
 bsz:X.base.objs.size<=X.s₀.heap.objs.size
 zp:∀b o,X.base.get? b=some o->b∉X.ex
 xp:∀b∈X.ex,b∉X.fs
 nV:X.s₀.heap.FunFrames X.base X.outer
 frf:∀b∈X.fs,X.H₀ b=none
structure Inv(X:Cx)(pins:List (Addr×Obj))(σ:List (Option V))(H:Hp)(s:Shared):Prop where
 ok:X.Ok
 os:s.os=X.s₀.os
 bare:AllBare s.gens
 base:Un X.fs X.ex X.H₀ H X.s₀.heap s.heap
 loc:∃m,s.heap.Ns X.env.locals m/\∀(i:Nat) (x:Str) (v:V),X.N[i]?=some x->σ[i]?=some (some v)->Vis X.env.scope x->∃u,RelV v u/\Look X.env s.heap m x u
 cell:∀x c,X.env.cells.lookup x=some c->∃v,s.heap.IsCell c v
 free:H X.env.locals=none
 ic:∀x c,X.env.cells.lookup x=some c->H c=none
 pin:∀p∈X.pn++pins,s.heap.get? p.1=some p.2/\H p.1=none/\p.1≠X.env.locals/\p.1∉X.fs/\∀v,p.2.data≠.cell v
 hok:HOk X.prog X.w H s.heap
 len : σ.length=X.N.length
section
variable{X:Cx}{pins:List (Addr×Obj)}{σ:List (Option V)}{H H':Hp}{s:Shared}{h':Heap}
theorem Cx.Ok.MU(ok:X.Ok)(e:X.base.get? b=some o):b∉X.fs:=λhb=>by
 have:=(ok.nV.mem hb).1;rw[e]at this;cases this
theorem Inv.bs(I:Inv X pins σ H s):∀b o,X.base.get? b=some o->s.heap.get? b=some o/\H b=none:=λb o e=>
 ⟨I.base.keep b o (I.ok.bs b o e).1 (I.ok.bs b o e).2 (I.ok.MU e) (I.ok.zp b o e),I.base.free b o (I.ok.bs b o e).1 (I.ok.bs b o e).2 (I.ok.zp b o e)⟩
theorem Inv.bk(I:Inv X pins σ H s):∀b o,X.base.get? b=some o->s.heap.get? b=some o:=λb o e=>(I.bs b o e).1
theorem Inv.mod(I:Inv X pins σ H s):Mod X.K X.mg X.base:=I.ok.mod
theorem Inv.kIn(I:Inv X pins σ H s):X.K.In s.heap:=I.ok.mod.kin.keeps I.bk
theorem Inv.nolimit(I:Inv X pins σ H s):s.heap.NoLimit:=I.ok.mod.nolimit.keeps I.bk
theorem Inv.fr(I:Inv X pins σ H s):∃m,Fr X.base X.env.locals s.heap m :=
 let⟨m,hn,_⟩:=I.loc
 ⟨m,hn,I.bk,zaX I.ok.bsz I.ok.above⟩
theorem Inv.lt(I:Inv X pins σ H s):X.env.locals<s.heap.objs.size:=let⟨_,hn,_⟩:=I.loc;hn.lt
theorem Inv.sz(I:Inv X pins σ H s):X.s₀.heap.objs.size<=s.heap.objs.size:=zaX I.ok.above (Nat.le_of_lt I.lt)
theorem Inv.MV(I:Inv X pins σ H s){a:Addr}(h:s.heap.objs.size<=a):a∉X.fs:=λhb=>by
 obtain⟨_,o,ho,_⟩:=I.ok.nV.mem hb;exact absurd (zaF (zaq ho) (zaX I.sz h)) (za3 _)
theorem Inv.cne(I:Inv X pins σ H s):∀x c,X.env.cells.lookup x=some c->c≠X.env.locals:=λx c e z=>by
 obtain⟨v,o,ho,hd⟩:=I.cell x c e;obtain⟨m,⟨o',es,ep,ho',hd',_⟩,_⟩:=I.loc;rw[z,ho']at ho;cases ho;rw[hd']at hd;cases hd
theorem Inv.nV(I:Inv X pins σ H s):s.heap.FunFrames X.base X.outer:=by
 have all:∀(l:List Env),(∀b∈frs l,b∈X.fs)->X.s₀.heap.FunFrames X.base l->s.heap.FunFrames X.base l:=by
  intro l
  induction l with
  |nil=>intro _ _;trivial
  |cons env r ih=>
   intro hs hl;obtain⟨hk,⟨L,o,hf,hn,ho,hd⟩,hr⟩:=hl;have hL:L∈X.fs:=hs L (by unfold frs;rw[List.filterMap_cons,hf];exact zas)
   obtain⟨sl,e⟩:=I.base.slot L o ho (I.ok.frf L hL) hL λz=>I.ok.xp L z hL
   exact⟨hk,⟨L,_,hf,hn,e,hd⟩,ih (λb hb=>hs b (by unfold frs;rw[List.filterMap_cons,hf];exact zak _ hb)) hr⟩
 exact all X.outer (λ_ hb=>hb) I.ok.nV
theorem Inv.stack(I:Inv X pins σ H s):s.heap.FunFrames X.base X.stack:=by
 rcases I.ok.stk with e|⟨e,hf⟩
 ·rw[e];exact I.nV
 ·rw[e]
  obtain⟨m,hn,_⟩:=I.loc;refine .cons (by rw[I.ok.kind];decide) hf hn ?_ I.nV
  exact Heap.get?_none_of_le (zaX I.ok.bsz I.ok.above)
theorem Inv.zq(I:Inv X pins σ H s):∀b∈frs X.stack,b∈X.env.locals::X.fs:=λb hb=>by
 rcases I.ok.stk with e|⟨e,hf⟩
 ·rw[e]at hb;exact zak _ hb
 ·rw[e]at hb
  unfold frs at hb;rw[List.filterMap_cons,hf]at hb;exact hb
theorem Inv.qT(I:Inv X pins σ H s):∀b∈frs X.stack,H b=none:=λb hb=>by
 rcases zaf (I.zq b hb)with e|hb
 ·rw[e];exact I.free
 ·obtain⟨_,o,ho,_⟩:=I.ok.nV.mem hb
  exact I.base.free b o ho (I.ok.frf b hb) λz=>I.ok.xp b z hb
theorem Inv.step{ch:List Addr}(I:Inv X pins σ H s)
  (hch:∀b∈ch,(b∈X.ex\/X.s₀.heap.objs.size<=b)/\b≠X.env.locals/\(∀x c,X.env.cells.lookup x=some c->c≠b)/\∀p∈X.pn++pins,p.1≠b)
  (keep:∀b o,b≠X.env.locals->b∉X.fs->b∉ch->s.heap.get? b=some o->H b=none->h'.get? b=some o)
  (slot:∀b o,b≠X.env.locals->b∈X.fs->b∉ch->s.heap.get? b=some o->H b=none->∃sl,h'.get? b=some {o with slots:=sl}) (free:∀b o,b∉ch->s.heap.get? b=some o->H b=none->H' b=none)
  (there:∀b o,b∉ch->s.heap.get? b=some o->∃o',h'.get? b=some o')
  (tups:∀b xs,H b=some (.tup xs)->H' b=some (.tup xs)) (ja:∀b o u,H b=some (.frz o u)->H' b=some (.frz o u)) (jP:∀b ps,H b=some (.tbl ps)->∃more,H' b=some (.tbl (ps++more)))
  (ns:∀m,s.heap.Ns X.env.locals m->h'.Ns X.env.locals m) (hok:HOk X.prog X.w H' h') (hg:AllBare g') :
  Inv X pins σ H' {s with heap:=h',gens:=g',drawn:=d',toks:=t'}:=by
 have neL:∀b o,X.s₀.heap.get? b=some o->b≠X.env.locals:=λb o e=>zaS (zaF (zaq e) I.ok.above)
 have neC:∀b o,X.s₀.heap.get? b=some o->b∉X.ex->b∉ch:=λb o e hx hb=>by
  rcases(hch b hb).1 with z|z
  ·exact hx z
  ·exact absurd (zaF (zaq e) z) (za3 _)
 have cellK:∀x c,X.env.cells.lookup x=some c->∀v,s.heap.IsCell c v->h'.IsCell c v:=λx c e v ⟨o,ho,hd⟩=>by
  have nch:c∉ch:=λz=>(hch c z).2.2.1 x c e rfl
  by_cases hc:c∈X.fs
  ·obtain⟨sl,q⟩:=slot c o (I.cne x c e) hc nch ho (I.ic x c e)
   exact⟨_,q,hd⟩
  ·exact⟨o,keep c o (I.cne x c e) hc nch ho (I.ic x c e),hd⟩
 refine⟨I.ok,I.os,hg,⟨λb o e n hb hx=>?_,λb o e n hb hx=>?_,λb o e n hx=>?_,λb o e hx=>?_,λb xs e=>tups b xs (I.base.tups b xs e),λb o xs e=>ja b o xs (I.base.ja b o xs e),λb ps e=>?_⟩,?_,λx c e=>?_,?_,λx c e=>?_,λp hp=>?_,hok,I.len⟩
 ·exact keep b o (neL b o e) hb (neC b o e hx) (I.base.keep b o e n hb hx) (I.base.free b o e n hx)
 ·obtain⟨sl,e1⟩:=I.base.slot b o e n hb hx
  obtain⟨sl',e2⟩:=slot b _ (neL b o e) hb (neC b o e hx) e1 (I.base.free b o e n hx);exact⟨sl',e2⟩
 ·obtain⟨o',e1⟩:=I.base.there b o e hx
  exact free b o' (neC b o e hx) e1 (I.base.free b o e n hx)
 ·obtain⟨o',e1⟩:=I.base.there b o e hx
  exact there b o' (neC b o e hx) e1
 ·obtain⟨m1,e1⟩:=I.base.jP b ps e
  obtain⟨m2,e2⟩:=jP b _ e1;exact⟨m1++m2,by rw[e2,Array.append_assoc]⟩
 ·obtain⟨m,hn,hl⟩:=I.loc
  refine⟨m,ns m hn,λi x v e1 e2 e3=>?_⟩
  obtain⟨u,r,l⟩:=hl i x v e1 e2 e3;refine⟨u,r,?_⟩;rcases l with l|⟨k,c,e,z⟩
  ·exact .inl l
  ·exact .inr ⟨k,c,e,cellK x c e _ z⟩
 ·obtain⟨v,z⟩:=I.cell x c e
  exact⟨v,cellK x c e v z⟩
 ·obtain⟨m,⟨o,_,_,ho,_⟩,_⟩:=I.loc
  exact free _ o (λz=>(hch _ z).2.1 rfl) ho I.free
 ·obtain⟨v,o,ho,hd⟩:=I.cell x c e
  exact free c o (λz=>(hch c z).2.2.1 x c e rfl) ho (I.ic x c e)
 ·obtain⟨e,n,ne,nf,d⟩:=I.pin p hp
  have nch:p.1∉ch:=λz=>(hch p.1 z).2.2.2 p hp rfl
  exact⟨keep p.1 p.2 ne nf nch e n,free p.1 p.2 nch e n,ne,nf,d⟩
theorem Inv.un(I:Inv X pins σ H s)(u:Un X.fs [] H H' s.heap h')(hok:HOk X.prog X.w H' h'):Inv X pins σ H' {s with heap:=h',toks:=t'}:=by
 obtain⟨m,⟨o,es,ep,ho,r⟩,_⟩:=id I.loc;obtain⟨sl,hL⟩:=u.any ho I.free (by simp)
 exact I.step (g':=s.gens) (d':=s.drawn) (ch:=[]) (λ_ z=>nomatch z) (λb o _ hb _ e n=>u.keep b o e n hb (by simp)) (λb o _ hb _ e n=>u.slot b o e n hb (by simp)) (λb o _ e n=>u.free b o e n (by simp)) (λb o _ e=>u.there b o e (by simp)) u.tups u.ja u.jP (λm' hm=>by
  obtain⟨o',es',ep',ho',r'⟩:=hm;rw[ho]at ho';cases ho'
  exact⟨_,es',ep',hL,r'⟩) hok I.bare
theorem Inv.call(I:Inv X pins σ H s)(u:Un (frs X.stack) ch H H' s.heap h')(hok:HOk X.prog X.w H' h')(hg:AllBare g')
  (hch:∀b∈ch,(b∈X.ex\/X.s₀.heap.objs.size<=b)/\b≠X.env.locals/\(∀x c,X.env.cells.lookup x=some c->c≠b)/\∀p∈X.pn++pins,p.1≠b) :
  Inv X pins σ H' {s with heap:=h',gens:=g',drawn:=d',toks:=t'}:=by
 obtain⟨m,⟨o,es,ep,ho,r⟩,_⟩:=id I.loc;obtain⟨sl,hL⟩:=u.any ho I.free λz=>(hch _ z).2.1 rfl
 exact I.step (ch:=ch) hch (λb o hL hb hc e n=>u.keep b o e n (λz=>(zaf (I.zq b z)).elim hL hb) hc) (λb o _ _ hc e n=>u.any e n hc) (λb o hc e n=>u.free b o e n hc) (λb o hc e=>u.there b o e hc) u.tups u.ja u.jP (λm' hm=>by
  obtain⟨o',es',ep',ho',r'⟩:=hm;rw[ho]at ho';cases ho'
  exact⟨_,es',ep',hL,r'⟩) hok hg
theorem Inv.turned(I:Inv X pins σ H s)(k:∀b o,b≠it->s.heap.get? b=some o->h'.get? b=some o)(hn:H it=none)(hL:it≠X.env.locals)
  (h1:it∈X.ex\/X.s₀.heap.objs.size<=it) (h2:∀x c,X.env.cells.lookup x=some c->c≠it) (h3:∀p∈X.pn++pins,p.1≠it):Inv X pins σ H {s with heap:=h',toks:=t'}:=by
 have nit:∀b u,H b=some u->b≠it:=λb u e z=>by rw[z,hn]at e;cases e
 refine I.step (g':=s.gens) (d':=s.drawn) (ch:=[it]) (λb hb=>?_) (λb o _ _ hc e _=>k b o (λz=>hc (by simp[z])) e) (λb o _ _ hc e _=>⟨o.slots,k b o (λz=>hc (by simp[z])) e⟩) (λ_ _ _ _ n=>n)
  (λb o hc e=>⟨o,k b o (λz=>hc (by simp[z])) e⟩) (λ_ _ e=>e) (λ_ _ _ e=>e) (λb ps e=>⟨#[],by rw[e];simp⟩) (λm hm=>?_) (λb u e=>?_) I.bare
 ·have e:b=it:=by simpa using hb
  subst e;exact⟨h1,hL,h2,h3⟩
 ·obtain⟨o,es,ep,ho,r⟩:=hm
  exact⟨o,es,ep,k _ o (Ne.symm hL) ho,r⟩
 ·refine(I.hok b u e).stay (λc v hc q=>k c v ?_ q) (λ_ q=>q) λ_ _ q=>q
  rcases hc with z|z
  ·rw[z];exact nit b u e
  ·exact nit c _ z
theorem Inv.tok(I:Inv X pins σ H s)(t:Nat):Inv X pins σ H {s with toks:=t}:=I.un (h':=s.heap) (t':=t) Un.refl I.hok
theorem Inv.kept(I:Inv X pins σ H s)(k:∀b u,s.heap.get? b=some u->h'.get? b=some u):Inv X pins σ H {s with heap:=h',toks:=t'}:=I.un (Un.kept k) (I.hok.kept k)
theorem Inv.laid{a:Addr}(I:Inv X pins σ H s)(k:∀b u,s.heap.get? b=some u->h'.get? b=some u)(hp:s.heap.objs.size<=a)(new:cG X.prog X.w (upd H a o) h' a o) :
  Inv X pins σ (upd H a o) {s with heap:=h',toks:=t'}:=I.un (Un.laid k hp (I.hok.fresh hp)) (I.hok.laid k hp new)
theorem Inv.write(I:Inv X pins σ H s)(mu:Mut (H x))(he:e=x\/H e=some (.own x))(k:∀b u,b≠e->s.heap.get? b=some u->h'.get? b=some u)(heo:∃u,h'.get? e=some u)
  (new:cG X.prog X.w (upd H x o) h' x o):Inv X pins σ (upd H x o) {s with heap:=h',toks:=t'}:=I.un (Un.write mu he k heo) (I.hok.write mu he k heo new)
theorem Inv.weak(I:Inv X pins σ H s)(hl : σ'.length=σ.length)(w:∀(i:Nat) v,σ'[i]?=some (some v)->σ[i]?=some (some v)):Inv X pins σ' H s :=
 ⟨I.ok,I.os,I.bare,I.base,let⟨m,hn,hl'⟩:=I.loc;⟨m,hn,λi x v e1 e2 e3=>hl' i x v e1 (w i v e2) e3⟩,I.cell,I.free,I.ic,I.pin,I.hok,hl.trans I.len⟩
theorem Inv.AE(I:Inv X pins σ H s)(h:∀p∈Iu,s.heap.get? p.1=some p.2/\H p.1=none/\p.1≠X.env.locals/\p.1∉X.fs/\∀v,p.2.data≠.cell v):Inv X Iu σ H s :=
 ⟨I.ok,I.os,I.bare,I.base,I.loc,I.cell,I.free,I.ic,λp hp=>(zae hp).elim (λz=>I.pin p (zaW _ z)) (h p),I.hok,I.len⟩
theorem rD{N:List Str}(hN:N.Nodup){i j:Nat}(a:N[i]?=some x)(b:N[j]?=some x):i=j:=by
 obtain⟨h1,e1⟩:=zac a;obtain⟨h2,e2⟩:=zac b;exact(List.getElem_inj hN).mp (e1.trans e2.symm)
theorem B9(I:Inv X pins σ H s)(hN:X.N.Nodup)(hi:X.N[i]?=some x)(hx:Loc X.env.scope x)(r:RelV v u)
  (h:∀s',Inv X pins (σ.set i (some v)) H s'->(∃a,Heap.SameBut a s.heap s'.heap/\(a=X.env.locals\/X.env.cells.lookup x=some a))->Q () s') (hf:X.fn x=true\/X.env.scope.names.lookup x=some .local:=by first|exact .inl rfl|exact .inr rfl|assumption):wpAny M A (storeName X.env x u) Q E s:=by
 obtain⟨m,hn,hl⟩:=id I.loc;have hcls:(X.env.scope.kind== .class||(X.env.scope.kind== .module&&X.env.locals !=X.env.globals))=false:=by rw[I.ok.kind];rfl
 have hiσ:i<σ.length:=by rw[I.len];exact(zac hi).1
 have cne:=I.cne;have tracked:∀{a:Addr} {h':Heap},(∃o,s.heap.get? a=some o/\H a=none)->Heap.SameBut a s.heap h'->HOk X.prog X.w H h':=fun{a h'} ha hs b ob e=>by
  obtain⟨_,_,hfree⟩:=ha;refine(I.hok b ob e).stay (λc w' hc q=>(hs.2 c ?_).trans q) (λ_ q=>q) λ_ _ q=>q
  rintro rfl
  rcases hc with rfl|hc
  ·rw[hfree]at e;cases e
  ·rw[hfree]at hc;cases hc
 rcases hx with hk|hk
 ·refine wpAny_storeName_local hk hn (λh' hn' hs=>?_) hcls
  obtain⟨oL,_,_,hoL,_⟩:=id hn;refine h _ ⟨I.ok,I.os,I.bare,⟨λb o e n hb hx=>?_,λb o e n hb hx=>?_,I.base.free,λb o e hx=>?_,I.base.tups,I.base.ja,I.base.jP⟩,⟨_,hn',λj y v' e1 e2 e3=>?_⟩,λy c e=>?_,I.free,I.ic,λp hp=>?_,tracked ⟨oL,hoL,I.free⟩ hs,by simpa using I.len⟩ ⟨_,hs,.inl rfl⟩
  ·exact(hs.2 b (zaS (zaF (zaq e) I.ok.above))).trans (I.base.keep b o e n hb hx)
  ·obtain⟨sl,e1⟩:=I.base.slot b o e n hb hx
   exact⟨sl,(hs.2 b (zaS (zaF (zaq e) I.ok.above))).trans e1⟩
  ·obtain⟨o',e1⟩:=I.base.there b o e hx
   exact⟨o',(hs.2 b (zaS (zaF (zaq e) I.ok.above))).trans e1⟩
  ·by_cases hj:j=i
   ·subst hj
    rw[hi]at e1;cases e1
    rw[zav hiσ]at e2;cases e2;exact⟨u,r,.inl ⟨hk,by simp⟩⟩
   ·rw[zaA (Ne.symm hj)]at e2
    obtain⟨u',r',q⟩:=hl j y v' e1 e2 e3;refine⟨u',r',?_⟩;rcases q with⟨k,e⟩|⟨k,c,e,z⟩
    ·refine .inl ⟨k,?_⟩
     have:y≠x:=λe=>hj (rD hN e1 (e▸hi))
     simp[this,e]
    ·exact .inr ⟨k,c,e,z.sameBut hs (cne y c e)⟩
  ·obtain⟨w',z⟩:=I.cell y c e
   exact⟨w',z.sameBut hs (cne y c e)⟩
  ·obtain⟨e,n,ne,nf,d⟩:=I.pin p hp
   exact⟨(hs.2 p.1 ne).trans e,n,ne,nf,d⟩
 ·have hfn:X.fn x=true:=by
   rcases hf with z|z
   ·exact z
   ·rw[z]at hk;cases hk
  obtain⟨c,hc⟩:=I.ok.has x (.inl hk);obtain⟨w',z⟩:=I.cell x c hc;refine wpAny_storeName_cell I.ok.kind hk hc z (λh' hc' hs=>?_)
  obtain⟨oc,hoc,MW⟩:=id z;refine h {s with heap:=h'} ⟨I.ok,I.os,I.bare,⟨λb o e n hb hx=>?_,λb o e n hb hx=>?_,I.base.free,λb o e hx=>?_,I.base.tups,I.base.ja,I.base.jP⟩,⟨m,hn.sameBut hs (Ne.symm (cne x c hc)),λj y v' e1 e2 e3=>?_⟩,λy c' e=>?_,I.free,I.ic,λp hp=>?_,tracked ⟨oc,hoc,I.ic x c hc⟩ hs,by simpa using I.len⟩ ⟨c,hs,.inr hc⟩
  ·exact(hs.2 b (zaS (zaF (zaq e) (I.ok.cab x c hfn hc)))).trans (I.base.keep b o e n hb hx)
  ·obtain⟨sl,e1⟩:=I.base.slot b o e n hb hx
   exact⟨sl,(hs.2 b (zaS (zaF (zaq e) (I.ok.cab x c hfn hc)))).trans e1⟩
  ·obtain⟨o',e1⟩:=I.base.there b o e hx
   exact⟨o',(hs.2 b (zaS (zaF (zaq e) (I.ok.cab x c hfn hc)))).trans e1⟩
  ·by_cases hj:j=i
   ·subst hj
    rw[hi]at e1;cases e1
    rw[zav hiσ]at e2;cases e2;exact⟨u,r,.inr ⟨.inl hk,c,hc,hc'⟩⟩
   ·rw[zaA (Ne.symm hj)]at e2
    obtain⟨u',r',q⟩:=hl j y v' e1 e2 e3;refine⟨u',r',?_⟩;rcases q with q|⟨k,c',e,z'⟩
    ·exact .inl q
    ·refine .inr ⟨k,c',e,z'.sameBut hs ?_⟩
     rintro rfl
     exact hj (rD hN e1 (I.ok.inj _ _ _ e hc▸hi))
  ·by_cases hcc:c'=c
   ·subst hcc;exact⟨_,hc'⟩
   ·obtain⟨w2,z2⟩:=I.cell y c' e
    exact⟨w2,z2.sameBut hs hcc⟩
  ·obtain⟨e,n,ne,nf,d⟩:=I.pin p hp
   refine⟨(hs.2 p.1 ?_).trans e,n,ne,nf,d⟩;intro q;rw[q,hoc]at e;have q':oc=p.2:=zaQ e;exact d w' (by rw[<-q'];exact MW)
theorem ox(I:Inv X pins σ H s)(hN:X.N.Nodup)(hi:X.N[i]?=some x)(hx:Loc X.env.scope x)(r:RelV v u)
  (h:∀s',Inv X pins (σ.set i (some v)) H s'->Q () s') (hf:X.fn x=true\/X.env.scope.names.lookup x=some .local:=by first|exact .inl rfl|exact .inr rfl|assumption):wpAny M A (storeName X.env x u) Q E s :=
 B9 I hN hi hx r (λs' I' _=>h s' I') hf
theorem Inv.call'(I:Inv X pins σ H s)(ho:s'.os=s.os)(u:Un (frs X.stack) ch H H' s.heap s'.heap)(hok:HOk X.prog X.w H' s'.heap)(hg:AllBare s'.gens)
  (hch:∀b∈ch,(b∈X.ex\/X.s₀.heap.objs.size<=b)/\b≠X.env.locals/\(∀x c,X.env.cells.lookup x=some c->c≠b)/\∀p∈X.pn++pins,p.1≠b):Inv X pins σ H' s':=by
 obtain⟨h',g',d',t',o'⟩:=s';have e:o'=s.os:=ho;subst e;exact I.call (g':=g') (t':=t') (d':=d') u hok hg hch
end
abbrev XK:=Value->Option Addr->Hp->Prop
abbrev St:=List (Option V)
abbrev VK:=V->Hp->Prop
abbrev TE:=St->Hp->VK->Prop
abbrev TT:=St->Hp->(Bool->Hp->Prop)->Prop
abbrev TA:=St->Hp->(List V->Hp->Prop)->Prop
structure Ends where
 nx:St->Hp->Prop
 rt:VK
 bk:St->Hp->Prop:=λ_ _=>False
 ct:St->Hp->Prop:=λ_ _=>False
abbrev TS:=Ends->St->Hp->Prop
def EP(X:Cx)(pins:List (Addr×Obj))(σ:St)(Q:VK)(u:Value)(s':Shared):Prop:=∃v H',Inv X pins σ H' s'/\RelV v u/\Q v H'
def TP(X:Cx)(pins:List (Addr×Obj))(σ:St)(Q:Bool->Hp->Prop)(b:Bool)(s':Shared):Prop:=∃H',Inv X pins σ H' s'/\Q b H'
def AP(X:Cx)(pins:List (Addr×Obj))(σ:St)(Q:List V->Hp->Prop)(us:List Value)(s':Shared):Prop:=∃vs H',Inv X pins σ H' s'/\Vals vs us/\Q vs H'
def SP(X:Cx)(pins:List (Addr×Obj))(D:Ends)(f:Flow)(s':Shared):Prop :=
 match f with
 | .next=>∃σ' H',Inv X pins σ' H' s'/\D.nx σ' H'
 | .brk=>∃σ' H',Inv X pins σ' H' s'/\D.bk σ' H'
 | .cont=>∃σ' H',Inv X pins σ' H' s'/\D.ct σ' H'
 | .ret u=>∃v σ' H',Inv X pins σ' H' s'/\RelV v u/\D.rt v H'
def PE(X:Cx)(e:Expr)(t:TE):Prop :=
 ∀(pins:List (Addr×Obj)) (s:Shared) (σ:St) (H:Hp) (Q:VK),Inv X pins σ H s->t σ H Q->wpAny (model X.prog X.w) X.A (eval e X.env) (EP X pins σ Q) X.xe s
def PT(X:Cx)(e:Expr)(t:TT):Prop :=
 ∀(pins:List (Addr×Obj)) (s:Shared) (σ:St) (H:Hp) (Q:Bool->Hp->Prop),Inv X pins σ H s->t σ H Q->wpAny (model X.prog X.w) X.A (isTrue e X.env (eval e X.env)) (TP X pins σ Q) X.xe s
def PW(X:Cx)(e:Expr)(t:TT):Prop :=
 ∀(whole:Sem Value) (pins:List (Addr×Obj)) (s:Shared) (σ:St) (H:Hp) (Q:Bool->Hp->Prop),Inv X pins σ H s->t σ H Q->wpAny (model X.prog X.w) X.A (isTrue e X.env whole) (TP X pins σ Q) X.xe s
theorem PW.pt(h:PW X e t):PT X e t:=h _
def PA(X:Cx)(es:List Expr)(t:TA):Prop :=
 ∀(pos:Pos) (pins:List (Addr×Obj)) (s:Shared) (σ:St) (H:Hp) (Q:List V->Hp->Prop),Inv X pins σ H s->t σ H Q->wpAny (model X.prog X.w) X.A (spliced (backTo pos (starEach es X.env))) (AP X pins σ Q) X.xe s
def PS(X:Cx)(st:Stmt)(t:TS):Prop :=
 ∀(pins:List (Addr×Obj)) (s:Shared) (σ:St) (H:Hp) (D:Ends),Inv X pins σ H s->t D σ H->wpAny (model X.prog X.w) X.A (exec st X.env) (SP X pins D) X.xe s
def PSs(X:Cx)(st:List Stmt)(t:TS):Prop :=
 ∀(pins:List (Addr×Obj)) (s:Shared) (σ:St) (H:Hp) (D:Ends),Inv X pins σ H s->t D σ H->wpAny (model X.prog X.w) X.A (execs st X.env) (SP X pins D) X.xe s
theorem thn(h:wpAny M A t Q E s)(hQ:∀a s,Q a s->Q' a s):wpAny M A t Q' E s:=za6 h hQ λ_ _ x=>x
section
variable{X:Cx}
def nW(i:Nat):TE:=fun σ H Q=>∃v,σ[i]?=some (some v)/\Q v H
def tC(v:V):TE:=λ_ H Q=>Q v H
theorem Jv{pos:Pos}(hN:X.N[i]?=some x)(hv:Vis X.env.scope x)(hd:(x==("__debug__":Str))=false:=by decide)(hcd:(x==("__classdict__":Str))=false:=by decide):PE X (.Name x pos) (nW i):=by
 intro pins s σ H Q I h;obtain⟨v,e,h⟩:=h;obtain⟨m,hn,hl⟩:=I.loc;obtain⟨u,r,l⟩:=hl i x v hN e hv;have fin:EP X pins σ Q u s:=⟨v,H,I,r,h⟩;rcases l with⟨hk,hm⟩|⟨hk,c,hc,hcell⟩
 ·exact wpAny_Name (wpAny_loadName_local I.ok.kind hk hn hm fin) hd
 ·rcases hk with hk|hk
  ·exact wpAny_Name (wpAny_loadName_cell I.ok.kind hk hc hcell fin) hd
  ·exact wpAny_Name (wpAny_loadName_free I.ok.kind hk hc hcell fin hcd) hd
theorem aw:PE X (.Constant (.int i) j pos) (tC (.int i)):=λ_ _ _ H _ I h=>wpAny_Constant_int ⟨.int i,H,I.tok _,⟨_,rfl⟩,h⟩
theorem dD:PE X (.Constant (.bool b) j pos) (tC (.bl b)):=λ_ _ _ H _ I h=>Constant_bool ⟨.bl b,H,I,rfl,h⟩
theorem eM:PE X (.Constant .none j pos) (tC .non):=λ_ _ _ H _ I h=>Constant_none ⟨.non,H,I,rfl,h⟩
theorem dX:PE X (.Constant (.str x) j pos) (tC (.str x)):=λ_ _ _ H _ I h=>Calls.Constant_str ⟨.str x,H,I.tok _,⟨_,rfl⟩,h⟩
def Gl(X:Cx)(x:Str):Prop:=X.env.kindOf x=some .globalImplicit
theorem oy{σ:St}{H:Hp}{x:Str}{u:Value}{pos:Pos}{Q:Value->Shared->Prop}(I:Inv X pins σ H s)(hg:Gl X x)(hm:X.mg x=some u)(h:Q u s)
  (hd:(x==("__debug__":Str))=false:=by decide):wpAny (model X.prog X.w) X.A (eval (.Name x pos) X.env) Q E s :=
 Calls.Name_function_global I.ok.kind hg (Calls.loadGlobal_global (by rw[I.ok.glob];exact I.mod.glob.keeps I.bk) hm h) hd
theorem rE{E:Value->Shared->Prop}{σ:St}{H:Hp}{x:Str}{u:Value}{pos:Pos}{Q:Value->Shared->Prop}(I:Inv X pins σ H s)(hg:Gl X x)(hm:X.mg x=none)(hv:bootBuiltins x=some u)(h:Q u s)
  (hn:x≠"__name__":=by decide) (hd:(x==("__debug__":Str))=false:=by decide):wpAny (model X.prog X.w) X.A (eval (.Name x pos) X.env) Q E s:=by
 obtain⟨mb,h1,h2⟩:=I.mod.blt;exact Calls.Name_function_global I.ok.kind hg (Calls.loadGlobal_builtin (by rw[I.ok.glob];exact I.mod.glob.keeps I.bk) hm (by rw[I.ok.blt];exact h1.keeps I.bk) ((h2 x hn).trans hv) h) hd
theorem vp(hg:Gl X x)(hm:X.mg x=some u)(r:RelV v u)(hd:(x==("__debug__":Str))=false:=by decide):PE X (.Name x pos) (tC v) :=
 λ_ _ _ H _ I h=>oy I hg hm ⟨v,H,I,r,h⟩ hd
theorem Gg{pos:Pos}(hg:Gl X x)(hm:X.mg x=none)(hv:bootBuiltins x=some u)(r:RelV v u)(hn:x≠"__name__":=by decide)(hd:(x==("__debug__":Str))=false:=by decide):PE X (.Name x pos) (tC v) :=
 λ_ _ _ H _ I h=>rE I hg hm hv ⟨v,H,I,r,h⟩ hn hd
variable{a b:Expr}{ta tb:TE}{pos:Pos}
def PC(X:Cx)(op:CmpOp)(a b:Expr)(t:TE):Prop :=
 ∀(pins:List (Addr×Obj)) (s:Shared) (σ:St) (H:Hp) (Q:VK),Inv X pins σ H s->t σ H Q->
  wpAny (model X.prog X.w) X.A (eval a X.env) (λv s₁=>wpAny (model X.prog X.w) X.A (eval b X.env) (λu s₂=>wpAny (model X.prog X.w) X.A (compareOp op v u) (EP X pins σ Q) X.xe s₂) X.xe s₁) X.xe s
theorem Du(b:Expr)(h:op≠.In)(h2:op≠.NotIn):behindInMarks op b=false:=by
 have e1:(op==CmpOp.In)=false:=by cases op<;>first|rfl|exact absurd rfl h
 have e2:(op==CmpOp.NotIn)=false:=by cases op<;>first|rfl|exact absurd rfl h2
 cases b<;>simp[behindInMarks,e1,e2]
def tB(t:TE):TT:=fun σ H Q=>t σ H λx H1=>∃c,x=.bl c/\Q c H1
theorem vq(h:PC X op a b t)(h1:behindInMarks op b=false:=by first|exact Du _ (by decide) (by decide)|rfl):PT X (.Compare a [op] [b] pos) (tB t):=by
 intro pins s σ H Q I hw;refine wpAny_isTrue_Compare1 (thn (h pins s σ H _ I hw) λv s1 h1=>thn h1 λu s2 h2=>thn h2 λc s3 ⟨x,H1,I1,r1,q1⟩=>?_) h1
 obtain⟨d,rfl,q⟩:=q1;cases r1;exact wpAny_truthy_bool ⟨H1,I1,q⟩
theorem dA(h:PE X e t)(he:∀whole,isTrue e X.env whole=(do let v<-whole;standAt e.pos;holding [v] (truthy v)):=by intro _;rfl):PT X e (tB t):=by
 intro pins s σ H Q I hw;refine isTrue_plain (thn (h pins s σ H _ I hw) λv s1 ⟨x,H1,I1,r1,q1⟩=>?_) (he _)
 obtain⟨d,rfl,q⟩:=q1;cases r1;exact wpAny_truthy_bool ⟨H1,I1,q⟩
variable{tA tB':TT}{rest:List Expr}
def Ld(t u:TT):TT:=fun σ H Q=>t σ H λc H1=>if c=true then u σ H1 Q else Q false H1
def tOr(t u:TT):TT:=fun σ H Q=>t σ H λc H1=>if c=true then Q true H1 else u σ H1 Q
def Jw(t:TT):TT:=fun σ H Q=>t σ H λc H1=>Q (!c) H1
theorem AF(ha:PT X a tA):PW X (.BoolOp .And [a] pos) tA:=by
 intro wh pins s σ H Q I h;refine isTrue_and (thn (ha pins s σ H Q I h) λc s1 e=>?_)
 cases c with
 |true=>exact isTrue_and_nil e
 |false=>exact e
theorem gU(ha:PT X a tA):PW X (.BoolOp .Or [a] pos) tA:=by
 intro wh pins s σ H Q I h;refine isTrue_or (thn (ha pins s σ H Q I h) λc s1 e=>?_)
 cases c with
 |false=>exact isTrue_or_nil e
 |true=>exact e
theorem Dv(ha:PT X a tA)(hb:PW X (.BoolOp .And (b::rest) pos) tB'):PW X (.BoolOp .And (a::b::rest) pos) (Ld tA tB'):=by
 intro wh pins s σ H Q I h;refine isTrue_and (thn (ha pins s σ H _ I h) λc s1 ⟨H1,I1,q1⟩=>?_)
 cases c with
 |true=>exact hb wh pins s1 σ H1 Q I1 q1
 |false=>exact⟨H1,I1,q1⟩
theorem gh(ha:PT X a tA)(hb:PW X (.BoolOp .Or (b::rest) pos) tB'):PW X (.BoolOp .Or (a::b::rest) pos) (tOr tA tB'):=by
 intro wh pins s σ H Q I h;refine isTrue_or (thn (ha pins s σ H _ I h) λc s1 ⟨H1,I1,q1⟩=>?_)
 cases c with
 |true=>exact⟨H1,I1,q1⟩
 |false=>exact hb wh pins s1 σ H1 Q I1 q1
theorem fF(ha:PT X a tA):PT X (.UnaryOp .Not a pos) (Jw tA):=by
 intro pins s σ H Q I h;exact isTrue_not (ha pins s σ H (λc H1=>Q (!c) H1) I h)
end
def SqL(K:zag)(H:Hp)(a:Addr)(xs:List V):Prop :=
 Rd H a (.lst xs)\/
  ∃(o:Obj) (its:Array Value) (n:Nat),K.lookup a=some o/\o.cls=.type "list"/\o.dict=none/\o.data=.seq its n/\its.size<=sizeLine/\Vals xs its.toList
def SqT(K:zag)(H:Hp)(a:Addr)(xs:List V):Prop :=
 Rd H a (.tup xs)\/
  ∃(o:Obj) (its:Array Value) (n:Nat),K.lookup a=some o/\o.cls=.type "tuple"/\o.data=.seq its n/\its.size<=sizeLine/\Vals xs its.toList
def MX:Value->Option V
 | .none=>some .non
 | .bool b=>some (.bl b)
 | .int i _=>some (.int i)
 | .str x _=>some (.str x)
 | .bytes b _=>some (.byt b)
 | .float b _=>some (.flt b)
 | .ref a=>some (.ref a)
 | .type n=>some (.ty n)
 |_=>none
theorem RelV.abs(r:RelV x u):MX u=some x:=by
 cases x with
 |non=>cases r;rfl
 |bl _=>cases r;rfl
 |int _=>obtain⟨t,rfl⟩:=r;rfl
 |str _=>obtain⟨t,rfl⟩:=r;rfl
 |byt _=>obtain⟨t,rfl⟩:=r;rfl
 |flt _=>obtain⟨t,rfl⟩:=r;rfl
 |ref _=>cases r;rfl
 |ty _=>cases r;rfl
theorem RelV.inj(r:RelV x u)(q:RelV y u):x=y:=zaQ (r.abs.symm.trans q.abs)
theorem Vals.inj:∀{xs ys:List V} {us:List Value},Vals xs us->Vals ys us->xs=ys
 |_,_,_,.nil,.nil=>rfl
 |_,_,_,.cons r t,.cons r' t'=>by rw[r.inj r',Vals.inj t t']
section
variable{X:Cx}{pins:List (Addr×Obj)}{σ:St}{H:Hp}{s:Shared}{a:Addr}{xs ys:List V}
theorem SqL.of{K:zag}(h:H a=some (.lst xs)):SqL K H a xs:=.inl (.inl h)
theorem SqT.of{K:zag}(h:H a=some (.tup xs)):SqT K H a xs:=.inl (.inl h)
theorem Inv.list(I:Inv X pins σ H s)(h:SqL X.K H a xs):∃its:List Value,Vals xs its/\PlainL s.heap a its.toArray/\xs.length<=sizeLine:=by
 rcases h with h|⟨o,its,n,hk,hc,hd,hs,hz,r⟩
 ·obtain⟨z,its,n,r,e⟩:=h.ok I.hok
  exact⟨its,r,⟨_,n,e,rfl,rfl,rfl⟩,z⟩
 ·refine⟨its.toList,r,⟨o,n,I.kIn a o hk,hc,hd,by simpa using hs⟩,?_⟩
  have e:=r.length;simp only[Array.length_toList]at e;omega
theorem Inv.tuple(I:Inv X pins σ H s)(h:SqT X.K H a xs):∃its:List Value,Vals xs its/\IsTup s.heap a its.toArray/\xs.length<=sizeLine:=by
 rcases h with h|⟨o,its,n,hk,hc,hs,hz,r⟩
 ·obtain⟨z,its,r,p⟩:=h.ok I.hok
  exact⟨its,r,p,z⟩
 ·refine⟨its.toList,r,⟨o,I.kIn a o hk,hc,n,by simpa using hs⟩,?_⟩
  have e:=r.length;simp only[Array.length_toList]at e;omega
theorem Inv.xq(I:Inv X pins σ H s)(h:SqL X.K H a xs)(h':SqL X.K H a ys):xs=ys:=by
 obtain⟨its,r,⟨o,n,e,_,_,d⟩,_⟩:=I.list h;obtain⟨its',r',⟨o',n',e',_,_,d'⟩,_⟩:=I.list h';rw[e]at e';cases e'
 rw[d]at d';injection d' with d1 _
 have:its=its':=by simpa using congrArg Array.toList d1
 subst this;exact r.inj r'
theorem Inv.Ca(I:Inv X pins σ H s)(h:SqT X.K H a xs)(h':SqT X.K H a ys):xs=ys:=by
 obtain⟨its,r,⟨o,e,_,n,d⟩,_⟩:=I.tuple h;obtain⟨its',r',⟨o',e',_,n',d'⟩,_⟩:=I.tuple h';rw[e]at e';cases e'
 rw[d]at d';injection d' with d1 _
 have:its=its':=by simpa using congrArg Array.toList d1
 subst this;exact r.inj r'
end
abbrev Cx.wish(X:Cx)(E:Value->Shared->Prop):Cx:={X with xe:=E}
abbrev Cx.nox(X:Cx):Cx:=X.wish λ_ _=>False
theorem Cx.Ok.wish{X:Cx}(ok:X.Ok)(E:Value->Shared->Prop):(X.wish E).Ok :=
 ⟨ok.mod,ok.kind,ok.glob,ok.blt,ok.above,ok.inj,ok.has,ok.cab,ok.hd,ok.frames,ok.stk,ok.exf,ok.bs,ok.bsz,ok.zp,ok.xp,ok.nV,ok.frf⟩
theorem Cx.Ok.jQ{X:Cx}(ok:(X.wish E).Ok):X.Ok :=
 ⟨ok.mod,ok.kind,ok.glob,ok.blt,ok.above,ok.inj,ok.has,ok.cab,ok.hd,ok.frames,ok.stk,ok.exf,ok.bs,ok.bsz,ok.zp,ok.xp,ok.nV,ok.frf⟩
section
variable{X:Cx}{pins:List (Addr×Obj)}{σ:St}{H:Hp}{s:Shared}{E:Value->Shared->Prop}
theorem Inv.wish(I:Inv X pins σ H s)(E:Value->Shared->Prop):Inv (X.wish E) pins σ H s:=⟨I.ok.wish E,I.os,I.bare,I.base,I.loc,I.cell,I.free,I.ic,I.pin,I.hok,I.len⟩
theorem Inv.jQ(I:Inv (X.wish E) pins σ H s):Inv X pins σ H s:=⟨I.ok.jQ,I.os,I.bare,I.base,I.loc,I.cell,I.free,I.ic,I.pin,I.hok,I.len⟩
theorem SP.jQ(h:SP (X.wish E) pins D f s'):SP X pins D f s':=by
 cases f with
 |next=>obtain⟨σ',H',I,q⟩:=h;exact⟨σ',H',I.jQ,q⟩
 |brk=>obtain⟨σ',H',I,q⟩:=h;exact⟨σ',H',I.jQ,q⟩
 |cont=>obtain⟨σ',H',I,q⟩:=h;exact⟨σ',H',I.jQ,q⟩
 |ret u=>obtain⟨v,σ',H',I,r,q⟩:=h;exact⟨v,σ',H',I.jQ,r,q⟩
theorem PE.nox(h:PE X.nox e t):PE X e t:=λpins s σ H Q I hw=>
 za6 (h pins s σ H Q (I.wish _) hw) (λ_ _ ⟨v,H',I',r,q⟩=>⟨v,H',I'.jQ,r,q⟩) λ_ _ z=>False.elim z
theorem PT.nox(h:PT X.nox e t):PT X e t:=λpins s σ H Q I hw=>
 za6 (h pins s σ H Q (I.wish _) hw) (λ_ _ ⟨H',I',q⟩=>⟨H',I'.jQ,q⟩) λ_ _ z=>False.elim z
theorem PSs.nox{st:List Stmt}(h:PSs X.nox st t):PSs X st t:=λpins s σ H D I hw=>
 za6 (h pins s σ H D (I.wish _) hw) (λ_ _ q=>q.jQ) λ_ _ z=>False.elim z
end
section
variable{X:Cx}{st:Stmt}{rest:List Stmt}{t u:TS}{e:Expr}{te:TE}{pos:Pos}
def AG:TS:=λD σ H=>D.nx σ H
def Cb(t u:TS):TS:=λD σ H=>t {D with nx:=u D} σ H
theorem bY:PSs X [] AG:=λ_ _ σ H _ I h=>wpAny_execs_nil ⟨σ,H,I,h⟩
theorem aq(h1:PS X st t)(h2:PSs X rest u):PSs X (st::rest) (Cb t u):=by
 intro pins s σ H D I h;refine wpAny_execs_cons (thn (h1 pins s σ H {D with nx:=u D} I h) λf s1 q=>?_)
 cases f with
 |next=>
  obtain⟨σ',H',I',q⟩:=q;exact h2 pins s1 σ' H' D I' q
 |ret v=>exact q
 |brk=>exact q
 |cont=>exact q
theorem aH(h1:PS X st t):PSs X [st] t:=by
 intro pins s σ H D I h;refine wpAny_execs_cons (thn (h1 pins s σ H D I h) λf s1 q=>?_)
 cases f with
 |next=>exact wpAny_execs_nil q
 |ret v=>exact q
 |brk=>exact q
 |cont=>exact q
theorem Inv.quiet{σ:St}(I:Inv X pins σ H s):interactive X.env=false:=by simp[interactive,I.ok.kind]
def xr(te:TE):TS:=λD σ H=>te σ H λ_ H1=>D.nx σ H1
theorem cN(he:PE X e te)(hs:swapsWith e none pos.line X.env=pure false:=by rfl):PS X (.Expr e pos) (xr te):=by
 intro pins s σ H D I h;exact wpAny_Expr_any (thn (he pins s σ H _ I h) λv s1 ⟨x,H1,I1,r1,q1⟩=>⟨σ,H1,I1,q1⟩) I.quiet hs
def Dw(te:TE):TS:=λD σ H=>te σ H D.rt
theorem bq(he:PE X e te):PS X (.Return (some e) pos) (Dw te):=by
 intro pins s σ H D I h;exact wpAny_Return_some (thn (he pins s σ H _ I h) λv s1 ⟨x,H1,I1,r1,q1⟩=>⟨x,σ,H1,I1,r1,q1⟩)
def Dx(c:TT)(t u:TS):TS:=λD σ H=>c σ H λb H1=>if b=true then t D σ H1 else u D σ H1
theorem dz(hc:PT X c tc)(ha:PSs X a t)(hb:PSs X b u):PS X (.If c a b pos) (Dx tc t u):=by
 intro pins s σ H D I h;refine wpAny_If (thn (hc pins s σ H _ I h) λd s1 ⟨H1,I1,q1⟩=>?_)
 cases d with
 |true=>exact ha pins s1 σ H1 D I1 q1
 |false=>exact hb pins s1 σ H1 D I1 q1
def Dy:TS:=λ_ _ _=>False
theorem l6:PS X st Dy:=λ_ _ _ _ _ _ h=>h.elim
end
abbrev TG:=V->St->Hp->(St->Hp->Prop)->Prop
abbrev TGs:=List V->St->Hp->(St->Hp->Prop)->Prop
def PG(X:Cx)(target:Expr)(t:TG):Prop :=
 ∀(pins:List (Addr×Obj)) (s:Shared) (σ:St) (H:Hp) (v:V) (u:Value) (Q:St->Hp->Prop),Inv X pins σ H s->RelV v u->t v σ H Q->
  wpAny (model X.prog X.w) X.A (assign target X.env u) (λ_ s'=>∃σ' H',Inv X pins σ' H' s'/\Q σ' H') X.xe s
def PGs(X:Cx)(ts:List Expr)(t:TGs):Prop :=
 ∀(pins:List (Addr×Obj)) (s:Shared) (σ:St) (H:Hp) (vs:List V) (us:List Value) (Q:St->Hp->Prop),Inv X pins σ H s->Vals vs us->t vs σ H Q->
  wpAny (model X.prog X.w) X.A (assignInOrder ((assignEach ts X.env).map (·.2)) us) (λ_ s'=>∃σ' H',Inv X pins σ' H' s'/\Q σ' H') X.xe s
abbrev MY:=V->V->V->Hp->(Hp->Prop)->Prop
abbrev TIp:=V->V->Hp->VK->Prop
def PIp(X:Cx)(op:Operator)(t:TIp):Prop :=
 ∀(pins:List (Addr×Obj)) (s:Shared) (σ:St) (H:Hp) (x y:V) (v u:Value) (Q:VK),Inv X pins σ H s->RelV x v->RelV y u->t x y H Q->
  wpAny (model X.prog X.w) X.A (inplaceOp op v u) (EP X pins σ Q) X.xe s
section
variable{X:Cx}{pos:Pos}
def rF(i:Nat):TG:=λv σ H Q=>Q (σ.set i (some v)) H
theorem bh(hN:X.N.Nodup)(hi:X.N[i]?=some x)(hx:Loc X.env.scope x)(hf:X.fn x=true\/X.env.scope.names.lookup x=some .local:=by first|exact .inl rfl|exact .inr rfl|assumption):PG X (.Name x pos) (rF i):=by
 intro pins s σ H v u Q I r h;exact wpAny_assign_Name (ox I hN hi hx r (λs' I'=>⟨_,H,I',h⟩) hf)
def Jx:TGs:=λvs σ H Q=>vs=[]/\Q σ H
def Dz(t:TG)(u:TGs):TGs:=λvs σ H Q=>∃v r,vs=v::r/\t v σ H fun σ' H'=>u r σ' H' Q
theorem jA:PGs X [] Jx:=by
 intro pins s σ H vs us Q I r h;obtain⟨e,h⟩:=h;subst e;cases r;exact assignInOrder_nil ⟨σ,H,I,h⟩
theorem bP(h1:PG X e t)(h2:PGs X es u)
  (hs:(assignEach (e::es) X.env).map (·.2)=assign e X.env::(assignEach es X.env).map (·.2):=by rfl):PGs X (e::es) (Dz t u):=by
 intro pins s σ H vs us Q I r h;obtain⟨v,vr,e1,h⟩:=h;subst e1;cases r with
 |cons r rr=>
  rw[hs];refine assignInOrder_cons (thn (h1 pins s σ H _ _ _ I r h) λ_ s1 ⟨σ1,H1,I1,q1⟩=>?_)
  exact h2 pins s1 σ1 H1 _ _ Q I1 rr q1
def xt(to ti:TE)(t:MY):TG:=λv σ H Q=>to σ H λo H1=>ti σ H1 λi H2=>t o i v H2 λH3=>Q σ H3
def Cc(te:TE)(g:TG):TS:=λD σ H=>te σ H λx H1=>g x σ H1 D.nx
theorem pf(he:PE X e te)(hg:PG X tg g)(hs:swapsWithSole [tg] e pos.line X.env=pure false:=by rfl)(hw:swappedStores [tg] e X.env=pure none:=by rfl)
  (h1:(assignEach [tg] X.env).map (·.2)=[assign tg X.env]:=by rfl):PS X (.Assign [tg] e pos) (Cc te g):=by
 intro pins s σ H D I h;refine wpAny_Assign_stores (thn (he pins s σ H _ I h) λv s1 ⟨x,H1,I1,r1,q1⟩=>?_) hs hw
 rw[h1];exact thn (hg pins s1 σ H1 x v _ I1 r1 q1) λ_ s2 q=>q
theorem a0(hN:X.N.Nodup)(hi:X.N[i]?=some x)(hx:Loc X.env.scope x)(he:PE X e te)(hs:swapsWith e (some (.Name x pos')) pos.line X.env=pure false:=by rfl)(hf:X.fn x=true\/X.env.scope.names.lookup x=some .local:=by first|exact .inl rfl|exact .inr rfl|assumption) :
  PS X (.Assign [.Name x pos'] e pos) (Cc te (rF i)):=by
 intro pins s σ H D I h;refine wpAny_Assign_Name (thn (he pins s σ H _ I h) λv s1 ⟨y,H1,I1,r1,q1⟩=>?_) hs
 exact ox I1 hN hi hx r1 (λs2 I2=>⟨_,H1,I2,q1⟩) hf
def Le(i:Nat)(te:TE)(ti:TIp):TS:=λD σ H=>∃x,σ[i]?=some (some x)/\te σ H λy H1=>ti x y H1 λz H2=>D.nx (σ.set i (some z)) H2
theorem Jy(hN:X.N.Nodup)(hi:X.N[i]?=some x)(hx:Loc X.env.scope x)(he:PE X e te)(ho:PIp X op ti)(hf:X.fn x=true\/X.env.scope.names.lookup x=some .local:=by first|exact .inl rfl|exact .inr rfl|assumption) :
  PS X (.AugAssign (.Name x pos') op e pos) (Le i te ti):=by
 intro pins s σ H D I h;obtain⟨v,e1,h⟩:=h;obtain⟨m,hn,hl⟩:=I.loc;have vis:Vis X.env.scope x:=by rcases hx with k|k;exact .inl k;exact .inr (.inl k)
 obtain⟨u,r,l⟩:=hl i x v hi e1 vis;refine wpAny_AugAssign_Name ?_;have go:wpAny (model X.prog X.w) X.A (eval e X.env) (λw s₂=>wpAny (model X.prog X.w) X.A (inplaceOp op u w) (λr s₃=>wpAny (model X.prog X.w) X.A (storeName X.env x r) (λ_=>SP X pins D .next) X.xe s₃) X.xe s₂) X.xe s:=by
  refine thn (he pins s σ H _ I h) λw s1 ⟨y,H1,I1,r1,q1⟩=>?_
  refine thn (ho pins s1 σ H1 v y u w _ I1 r r1 q1) λz s2 ⟨zv,H2,I2,r2,q2⟩=>?_
  exact ox I2 hN hi hx r2 (λs3 I3=>⟨_,H2,I3,q2⟩) hf
 rcases l with⟨hk,hm⟩|⟨hk,c,hc,hcell⟩
 ·exact wpAny_loadName_local I.ok.kind hk hn hm go
 ·rcases hk with hk|hk
  ·exact wpAny_loadName_cell I.ok.kind hk hc hcell go
  ·rcases hx with k|k
   ·have:X.env.scope.names.lookup x=some .free:=hk
    rw[k]at this;cases this
   ·have:X.env.scope.names.lookup x=some .free:=hk
    rw[k]at this;cases this
def ipI(f:Int->Int->Int):TIp:=λx y H Q=>∃i j,x=.int i/\y=.int j/\Q (.int (f i j)) H
theorem Jz:PIp X .Add (ipI λi j=>i+j):=by
 intro pins s σ H x y v u Q I r1 r2 h;obtain⟨i,j,e1,e2,q⟩:=h;subst e1;subst e2
 obtain⟨t,rfl⟩:=r1;obtain⟨t',rfl⟩:=r2;exact iadd_int ⟨.int _,H,I.tok _,⟨_,rfl⟩,q⟩
def zr(c:TT)(tb:TS):TS:=λD σ H=>∃W:Nat->St->Hp->Prop,(∃m,W m σ H)/\∀m σ H,W m σ H->
 c σ H λb H1=>if b=true then∃N:St->Hp->Prop,(∀σ' H',N σ' H'->∃m',m'<m/\W m' σ' H')/\tb {D with nx:=N,ct:=N,bk:=D.nx} σ H1 else D.nx σ H1
theorem oz(hp:PassesOwn (model X.prog X.w) X.A X.env X.xe)(hc:PT X c tc)(hb:PSs X body tb):PS X (.While c body [] pos) (zr tc tb):=by
 intro pins s σ H D I h;obtain⟨W,⟨m0,w0⟩,turn⟩:=h;refine wpAny_While (codeAny_whileLoop (λn s'=>∃σ' H',Inv X pins σ' H' s'/\W n σ' H') ?_ m0 ⟨σ,H,I,w0⟩)
 rintro n s1 ⟨σ1,H1,I1,w1⟩
 refine wpAny_passesOwn hp (thn (hc pins s1 σ1 H1 _ I1 (turn n σ1 H1 w1)) λb s2 ⟨H2,I2,q2⟩=>?_)
 cases b with
 |true=>
  obtain⟨N,hN,q2⟩:=q2;rw[if_pos rfl];refine wpAny_passesOwn hp (thn (hb pins s2 σ1 H2 _ I2 q2) λf s3 q3=>?_)
  cases f with
  |next=>
   obtain⟨σ3,H3,I3,n3⟩:=q3;obtain⟨m',hm,w3⟩:=hN σ3 H3 n3;exact⟨m',hm,σ3,H3,I3,w3⟩
  |cont=>
   obtain⟨σ3,H3,I3,n3⟩:=q3;obtain⟨m',hm,w3⟩:=hN σ3 H3 n3;exact⟨m',hm,σ3,H3,I3,w3⟩
  |brk=>exact q3
  |ret v=>exact q3
 |false=>
  rw[if_neg zam];exact wpAny_execs_nil ⟨σ1,H2,I2,q2⟩
end
structure It where
 go:Nat->Hp->Prop
 yld:Nat->Hp->V->Hp->Prop
 stop:Nat->Hp->Prop
def qK(X:Cx)(pins:List (Addr×Obj))(H:Hp)(b:Addr):Prop :=
 H b=none/\b≠X.env.locals/\b∉X.fs/\(b∈X.ex\/X.s₀.heap.objs.size<=b)/\(∀x c,X.env.cells.lookup x=some c->c≠b)/\∀p∈X.pn++pins,p.1≠b
theorem Inv.zt{σ:St}{s:Shared}{b:Addr}(I:Inv X pins σ H s)(hb:s.heap.objs.size<=b)(hn:H' b=none):qK X pins H' b:=by
 refine⟨hn,Nat.ne_of_gt (zaF I.lt hb),I.MV hb,.inr (zaX I.sz hb),λx c e z=>?_,λp hp z=>?_⟩
 ·obtain⟨v,q⟩:=I.cell x c e
  exact absurd (zaF q.lt (by rw[z];exact hb)) (za3 _)
 ·exact absurd (zaF (zaq (I.pin p hp).1) (by rw[z];exact hb)) (za3 _)
structure Turn(P:Program)(w:World)(K:zag)(tg:Expr)(J:It)(fp:List Addr)(it:Addr)(tn:Nat->Heap->Prop):Prop where
 mem:it∈fp
 obj:∀i h,tn i h->∀b∈fp,∃o,h.get? b=some o/\∀v,o.data≠.cell v
 keep:∀i h h',tn i h->(∀b∈fp,∀o,h.get? b=some o->h'.get? b=some o)->tn i h'
 item:∀(X:Cx),X.prog=P->X.w=w->X.K=K->X.calm=true->∀(i:Nat) (pins:List (Addr×Obj)) (s:Shared) (σ:St) (H:Hp) (E:Value->Shared->Prop),Inv X pins σ H s->(∀b∈fp,qK X pins H b)->tn i s.heap->J.go i H->
  wpAny (model P w) X.A (pyNext (.ref it)) (λr s1=>∃u,r=some u/\
   wpAny (model P w) X.A (letOwnedTupleGo tg (.ref it) u) (λ_ s2=>∃x H',Inv X pins σ H' s2/\RelV x u/\J.yld i H x H'/\tn (i+1) s2.heap/\∀b∈fp,H' b=none) E s1) E s
 done:∀(X:Cx),X.prog=P->X.w=w->X.K=K->X.calm=true->∀(i:Nat) (pins:List (Addr×Obj)) (s:Shared) (σ:St) (H:Hp) (E:Value->Shared->Prop),Inv X pins σ H s->(∀b∈fp,qK X pins H b)->tn i s.heap->J.stop i H->
  wpAny (model P w) X.A (pyNext (.ref it)) (λr s1=>r=none/\Inv X pins σ H s1) E s
 self:∀(A:Around) (i:Nat) (s:Shared) (Q:Value->Shared->Prop) (E:Value->Shared->Prop),tn i s.heap->Q (.ref it) s->wpAny (model P w) A (pyIter (.ref it)) Q E s
abbrev TI:=St->Hp->(It->Hp->Prop)->Prop
def PIE(X:Cx)(pins:List (Addr×Obj))(σ:St)(tg:Expr)(R:It->Hp->Prop)(itv:Value)(s2:Shared):Prop :=
 ∃(it:Addr) (fp:List Addr) (tn:Nat->Heap->Prop) (J:It) (H':Hp),itv=.ref it/\Inv X pins σ H' s2/\Turn X.prog X.w X.K tg J fp it tn/\tn 0 s2.heap/\(∀b∈fp,qK X pins H' b)/\R J H'
def PI(X:Cx)(tg iter:Expr)(wi:TI):Prop :=
 ∀(pins:List (Addr×Obj)) (s:Shared) (σ:St) (H:Hp) (R:It->Hp->Prop),Inv X pins σ H s->wi σ H R->
  wpAny (model X.prog X.w) X.A (eval iter X.env) (λv s1=>wpAny (model X.prog X.w) X.A (pyIter v) (PIE X pins σ tg R) X.xe s1) X.xe s
theorem AH(ho:s.heap.get? it=some o)(hc:o.cls=.type n)(hd:o.data=.fields vs)
  (hn : ["enumerate","zip","dict_itemiterator","dict_reverseitemiterator","odict_iterator","itertools.zip_longest","itertools.pairwise"].contains n=false) (hQ:Q () s):wpAny M A (letOwnedTupleGo tg (.ref it) u) Q E s:=by
 unfold letOwnedTupleGo;cases tg<;>first
  |exact zaZ hQ
  |(cases u<;>first
    |exact zaZ hQ
    | (refine zaI (wpAny_load ho ?_)
       rw[hc,hd];show wpAny M A (if(["enumerate","zip","dict_itemiterator","dict_reverseitemiterator","odict_iterator","itertools.zip_longest","itertools.pairwise"].contains n&&vs[0]? ==some (rawInt _))=true then _ else _) Q E s
       rw[if_neg (by intro h;rw[hn,Bool.false_and]at h;cases h)]
       exact zaZ hQ))
def Itl(K:zag)(a:Addr):It :=
 ⟨λi H=>∃xs x,SqL K H a xs/\xs[i]?=some x,λi H x H'=>H'=H/\∀xs,SqL K H a xs->xs[i]?=some x,λi H=>∃xs,SqL K H a xs/\xs.length<=i⟩
def Itt(K:zag)(a:Addr):It :=
 ⟨λi H=>∃xs x,SqT K H a xs/\xs[i]?=some x,λi H x H'=>H'=H/\∀xs,SqT K H a xs->xs[i]?=some x,λi H=>∃xs,SqT K H a xs/\xs.length<=i⟩
def Itr(lo:Int)(n:Nat):It:=⟨λi _=>i<n,λi H x H'=>H'=H/\x=.int (lo+i),λi _=>n<=i⟩
theorem Cd{K:zag}(a it:Addr):Turn P w K tg (Itl K a) [it] it (λi h=>h.IsListIter it a i) where
 mem:=by simp
 obj:=λi h st b hb=>by
  have e:b=it:=by simpa using hb
  subst e;obtain⟨o,e,c,d⟩:=st;exact⟨o,e,λv z=>by rw[d]at z;cases z⟩
 keep:=λi h h' st k=>st.at λo e=>k it (by simp) o e
 item:=by
  intro X hP hw hK hc i pins s σ H E I hf st hg;subst hP hw hK;obtain⟨xs,x,hq,hx⟩:=hg;obtain⟨its,rv,p,hz⟩:=I.list hq;obtain⟨u,hu,ru⟩:=rv.get hx;obtain⟨f0,f1,f2,f3,f4,f5⟩:=hf it (by simp)
  refine wpAny_pyNext_list_item st p.isList (x:=u) (by simpa using hu) λh' st' sb=>?_
  have I1:Inv X pins σ H {s with heap:=h'}:=I.turned (t':=s.toks) (λb o hb e=>(sb.2 b hb).trans e) f0 f1 f3 f4 f5
  obtain⟨o,e,c,d⟩:=id st';exact⟨u,rfl,AH (s:={s with heap:=h'}) e c d (by decide) ⟨x,H,I1,ru,⟨rfl,λys hy=>by rw[I.xq hy hq];exact hx⟩,st',λb hb=>(hf b hb).1⟩⟩
 done:=by
  intro X hP hw hK hc i pins s σ H E I hf st hg;subst hP hw hK;obtain⟨xs,hq,hx⟩:=hg;obtain⟨its,rv,p,hz⟩:=I.list hq;obtain⟨f0,f1,f2,f3,f4,f5⟩:=hf it (by simp)
  have hl:=rv.length;exact wpAny_pyNext_list_end (I.ok.hd hc) st p.isList (by simp;omega) λh' eb=>⟨rfl,I.turned (t':=s.toks) (λb o hb e=>eb b o hb e) f0 f1 f3 f4 f5⟩
 self:=λ_ _ _ _ _ st h=>wpAny_pyIter_listiter st h
theorem zu{K:zag}(a it:Addr):Turn P w K tg (Itt K a) [it] it (λi h=>h.IsTupleIter it a i) where
 mem:=by simp
 obj:=λi h st b hb=>by
  have e:b=it:=by simpa using hb
  subst e;obtain⟨o,e,c,d⟩:=st;exact⟨o,e,λv z=>by rw[d]at z;cases z⟩
 keep:=λi h h' st k=>st.at λo e=>k it (by simp) o e
 item:=by
  intro X hP hw hK hc i pins s σ H E I hf st hg;subst hP hw hK;obtain⟨xs,x,hq,hx⟩:=hg;obtain⟨its,rv,p,hz⟩:=I.tuple hq;obtain⟨u,hu,ru⟩:=rv.get hx;obtain⟨f0,f1,f2,f3,f4,f5⟩:=hf it (by simp)
  refine wpAny_pyNext_tuple_item st (show s.heap.IsTuple a its.toArray from p) (x:=u) (by simpa using hu) λh' st' sb=>?_
  have I1:Inv X pins σ H {s with heap:=h'}:=I.turned (t':=s.toks) (λb o hb e=>(sb.2 b hb).trans e) f0 f1 f3 f4 f5
  obtain⟨o,e,c,d⟩:=id st';exact⟨u,rfl,AH (s:={s with heap:=h'}) e c d (by decide) ⟨x,H,I1,ru,⟨rfl,λys hy=>by rw[I.Ca hy hq];exact hx⟩,st',λb hb=>(hf b hb).1⟩⟩
 done:=by
  intro X hP hw hK hc i pins s σ H E I hf st hg;subst hP hw hK;obtain⟨xs,hq,hx⟩:=hg;obtain⟨its,rv,p,hz⟩:=I.tuple hq;obtain⟨f0,f1,f2,f3,f4,f5⟩:=hf it (by simp)
  have hl:=rv.length;exact wpAny_pyNext_tuple_end (I.ok.hd hc) st (show s.heap.IsTuple a its.toArray from p) (by simp;omega) λh' eb=>⟨rfl,I.turned (t':=s.toks) (λb o hb e=>eb b o hb e) f0 f1 f3 f4 f5⟩
 self:=λ_ _ _ _ _ st h=>wpAny_pyIter_tupleiter st h
theorem zw{K:zag}(it:Addr)(lo:Int)(n:Nat):Turn P w K tg (Itr lo n) [it] it (λi h=>IsRangeIter h it (lo+(i:Nat)*1) ((n:Int)-(i:Nat)) 1) where
 mem:=by simp
 obj:=λi h st b hb=>by
  have e:b=it:=by simpa using hb
  subst e;exact⟨_,st,λv z=>by
   have z':Data.fields _=Data.cell v:=z;cases z'⟩
 keep:=λi h h' st k=>k it (by simp) _ st
 item:=by
  intro X hP hw hK hc i pins s σ H E I hf st hg;subst hP hw hK;obtain⟨f0,f1,f2,f3,f4,f5⟩:=hf it (by simp)
  have W:=Walks.range (prog:=X.prog) (w:=X.w) (I.ok.hd hc) it lo 1 n;refine W.item i s _ _ hg st λv h' tk hv st' kk=>?_
  obtain⟨t,rfl⟩:=hv;have I1:Inv X pins σ H {s with heap:=h',toks:=tk}:=I.turned (λb o hb e=>kk b o (by simpa using hb) e) f0 f1 f3 f4 f5
  refine⟨_,rfl,AH (s:={s with heap:=h',toks:=tk}) (n:="range_iterator") st' rfl rfl (by decide) ⟨.int (lo+i),H,I1,⟨t,?_⟩,⟨rfl,rfl⟩,st',λb hb=>(hf b hb).1⟩⟩
  rw[Int.mul_one]
 done:=by
  intro X hP hw hK hc i pins s σ H E I hf st hg;subst hP hw hK;obtain⟨f0,f1,f2,f3,f4,f5⟩:=hf it (by simp)
  exact wpAny_pyNext_range_end (I.ok.hd hc) st (by have:n<=i:=hg;omega) λh' eb=>⟨rfl,I.turned (t':=s.toks) (λb o hb e=>eb b o hb e) f0 f1 f3 f4 f5⟩
 self:=λ_ _ _ _ _ st h=>wpAny_pyIter_rangeiter st h
section
variable{X:Cx}{tg:Expr}
def xu(K:zag)(tl:TE):TI:=fun σ H R=>tl σ H λx H1=>∃a,x=.ref a/\(∃xs,SqL K H1 a xs)/\R (Itl K a) H1
def Gh(K:zag)(tl:TE):TI:=fun σ H R=>tl σ H λx H1=>∃a,x=.ref a/\(∃xs,SqT K H1 a xs)/\R (Itt K a) H1
theorem Gi(hl:PE X l tl):PI X tg l (xu X.K tl):=by
 intro pins s σ H R I h;refine thn (hl pins s σ H _ I h) λv s1 ⟨x,H1,I1,r1,q1⟩=>?_
 obtain⟨a,e,⟨xs,hq⟩,q⟩:=q1;subst e;cases r1;obtain⟨its,rv,p,hz⟩:=I1.list hq;refine wpAny_pyIter_list p.isList ?_;refine⟨s1.heap.objs.size,[s1.heap.objs.size],_,_,H1,rfl,I1.kept (t':=s1.toks) λb o e=>zar _ e,Cd a _,⟨_,zaL _ rfl,rfl,rfl⟩,λb hb=>?_,q⟩
 have e:b=s1.heap.objs.size:=by simpa using hb
 subst e;exact I1.zt (zap _) (I1.hok.fresh (zap _))
theorem JA(hl:PE X l tl):PI X tg l (Gh X.K tl):=by
 intro pins s σ H R I h;refine thn (hl pins s σ H _ I h) λv s1 ⟨x,H1,I1,r1,q1⟩=>?_
 obtain⟨a,e,⟨xs,hq⟩,q⟩:=q1;subst e;cases r1;obtain⟨its,rv,p,hz⟩:=I1.tuple hq;refine wpAny_pyIter_tuple (show s1.heap.IsTuple a its.toArray from p) ?_;refine⟨s1.heap.objs.size,[s1.heap.objs.size],_,_,H1,rfl,I1.kept (t':=s1.toks) λb o e=>zar _ e,zu a _,⟨_,zaL _ rfl,rfl,rfl⟩,λb hb=>?_,q⟩
 have e:b=s1.heap.objs.size:=by simpa using hb
 subst e;exact I1.zt (zap _) (I1.hok.fresh (zap _))
theorem DA{σ:St}{R:It->Hp->Prop}{E:Value->Shared->Prop}{lo hi:Int}{t u v:Tok}{tk:Nat}(I:Inv X pins σ H s)(h1 : -(2^62)<=lo)(h2:lo<2^62)(h3 : -(2^62)<=hi)(h4:hi<2^62)
  (q:R (Itr lo (hi-lo).toNat) H):wpAny (model X.prog X.w) X.A (pyIter (.ref s.heap.objs.size)) (PIE X pins σ tg R) E {s with heap:=s.heap.push {cls:=.type "range",data:=.fields #[.int lo t,.int hi u,.int 1 v]},toks:=tk}:=by
 refine wpAny_pyIter_range (IsRange.new ..) (small_one h1 h2 h3 h4) ?_;have I1:Inv X pins σ H {s with heap:=s.heap.push {cls:=.type "range",data:=.fields #[.int lo t,.int hi u,.int 1 v]},toks:=tk}:=I.kept λb o e=>zar _ e
 refine⟨(s.heap.push {cls:=.type "range",data:=.fields #[.int lo t,.int hi u,.int 1 v]}).objs.size,[(s.heap.push {cls:=.type "range",data:=.fields #[.int lo t,.int hi u,.int 1 v]}).objs.size],_,_,H,rfl,
  I1.kept (t':=tk) λb o e=>zar _ e,zw _ lo (hi-lo).toNat,?_,λb hb=>?_,q⟩
 ·have e1:lo+((0:Nat):Int)*1=lo:=by simp
  have e2:(((hi-lo).toNat:Nat):Int)-((0:Nat):Int)=Builtin.Range.rangeSize lo hi 1:=by rw[rangeSize_one];split<;>omega
  show IsRangeIter _ _ (lo+((0:Nat):Int)*1) ((((hi-lo).toNat:Nat):Int)-((0:Nat):Int)) 1;rw[e1,e2];exact zaL _ rfl
 ·have e:b=(s.heap.push {cls:=.type "range",data:=.fields #[.int lo t,.int hi u,.int 1 v]}).objs.size:=by simpa using hb
  subst e;exact I1.zt (zap _) (I1.hok.fresh (zap _))
def DB(ta:TA):TI:=fun σ H R=>ta σ H λvs H1=>∃j:Int,vs=[.int j]/\-(2^62)<=j/\j<2^62/\R (Itr 0 j.toNat) H1
theorem ph(hg:Gl X "range")(hm:X.mg "range"=none)(ha:PA X [a] ta)(hs:starEach [a] X.env=[(false,eval a X.env)]:=by rfl):PI X tg (.Call (.Name "range" p) [a] [] pos) (DB ta):=by
 intro pins s σ H R I h;refine Call_ (rE I hg hm boot_range (PyProof.Rows.callWith_type1 (thn (ha pos pins s σ H _ I h) λus s1 ⟨vs,H1,I1,r1,q1⟩=>?_) hs rfl))
 obtain⟨j,e,q1,q2,q⟩:=q1;subst e;cases r1 with
 |cons r rr=>
  cases rr;obtain⟨t,rfl⟩:=r;exact call_range_1 (DA I1 (by omega) (by omega) q1 q2 (by simpa using q))
def DC(wi:TI)(g:TG)(tb:TS):TS:=λD σ H=>wi σ H λJ H1=>∃W:Nat->Nat->St->Hp->Prop,(∃m,W 0 m σ H1)/\∀i m σ H,W i m σ H->
 (J.stop i H/\D.nx σ H)\/(J.go i H/\∃N:St->Hp->Prop,(∀σ' H',N σ' H'->∃m',m'<m/\W (i+1) m' σ' H')/\∀x H',J.yld i H x H'->g x σ H' fun σ2 H2=>tb {D with nx:=N,ct:=N,bk:=D.nx} σ2 H2)
def gv(fp:List Addr)(h:Heap):List (Addr×Obj):=fp.filterMap λb=>(h.get? b).map λo=>(b,o)
theorem cO(hb:b∈fp)(e:h.get? b=some o):(b,o)∈gv fp h:=List.mem_filterMap.mpr ⟨b,hb,by rw[e];rfl⟩
theorem j9(hp:p∈gv fp h):p.1∈fp/\h.get? p.1=some p.2:=by
 obtain⟨b,hb,e⟩:=List.mem_filterMap.mp hp;cases q:h.get? b with
 |none=>rw[q]at e;cases e
 |some o=>
  rw[q]at e;have e':(b,o)=p:=zaQ e;subst e';exact⟨hb,q⟩
theorem Inv.pinned{σ:St}{fp:List Addr}(I:Inv X pins σ H s)(hf:∀b∈fp,qK X pins H b)(ho:∀b∈fp,∃o,s.heap.get? b=some o/\∀v,o.data≠.cell v):Inv X (pins++gv fp s.heap) σ H s :=
 I.AE λp hp=>(zae hp).elim (λz=>I.pin p (zan _ z)) λz=>by
  obtain⟨hb,e⟩:=j9 z;obtain⟨f0,f1,f2,_⟩:=hf p.1 hb;obtain⟨o,e',d⟩:=ho p.1 hb;rw[e]at e';cases e'
  exact⟨e,f0,f1,f2,d⟩
theorem Inv.fN{σ:St}(I:Inv X (pins++pl) σ H s):Inv X pins σ H s:=I.AE λp hp=>I.pin p (zan _ (zaW _ hp))
theorem jb(hp:PassesOwn (model X.prog X.w) X.A X.env X.xe)(hc:X.calm=true)(hi:PI X tg iter wi)(hg:PG X tg g)(hb:PSs X body tb)
  (hs:∀x,foldedSetIterable iter X.env x=pure x:=by intro _;rfl):PS X (.For tg iter body [] pos) (DC wi g tb):=by
 intro pins s σ H D I h;refine wpAny_For (thn (hi pins s σ H _ I h) λv s1 h1=>thn h1 λitv s2 h2=>?_) hs
 obtain⟨it,fp,tn,J,H2,e,I2,T,st2,f2,W,⟨m0,w0⟩,turn⟩:=h2;subst e;have stat:∀{H':Hp},(∀b∈fp,H' b=none)->∀b∈fp,qK X pins H' b:=λhn b hb=>⟨hn b hb,(f2 b hb).2⟩
 refine codeAny_forLoop_any (λn s'=>∃i σ' H',Inv X pins σ' H' s'/\tn i s'.heap/\(∀b∈fp,H' b=none)/\W i n σ' H') ?_ m0 ⟨0,σ,H2,I2,st2,λb hb=>(f2 b hb).1,w0⟩
 rintro n s3 ⟨i,σ3,H3,I3,st3,fr3,w3⟩
 rcases turn i n σ3 H3 w3 with⟨stop,qn⟩|⟨go,N,hN,step⟩
 ·refine wpAny_passesOwn hp (thn (T.done X rfl rfl rfl hc i pins s3 σ3 H3 X.xe I3 (stat fr3) st3 stop) λr s4 ⟨hr,I4⟩=>?_)
  subst hr;exact wpAny_execs_nil ⟨σ3,H3,I4,qn⟩
 ·refine wpAny_passesOwn hp (thn (T.item X rfl rfl rfl hc i pins s3 σ3 H3 X.xe I3 (stat fr3) st3 go) λr s4 ⟨u,hr,h4⟩=>?_)
  subst hr;refine wpAny_passesOwn hp (thn h4 λ_ s5 ⟨x,H5,I5,r5,y5,st5,fr5⟩=>?_)
  have I5':=I5.pinned (stat fr5) (T.obj _ _ st5);refine wpAny_passesOwn hp (thn (hg _ s5 σ3 H5 x u _ I5' r5 (step x H5 y5)) λ_ s6 ⟨σ6,H6,I6,q6⟩=>?_)
  refine wpAny_passesOwn hp (thn (hb _ s6 σ6 H6 _ I6 q6) λf s7 q7=>?_)
  have again:∀{σ7:St} {H7:Hp},Inv X (pins++gv fp s5.heap) σ7 H7 s7->N σ7 H7->∃m,m<n/\∃i σ' H',Inv X pins σ' H' s7/\tn i s7.heap/\(∀b∈fp,H' b=none)/\W i m σ' H':=fun{σ7 H7} I7 n7=>by
   obtain⟨m',hm,w7⟩:=hN σ7 H7 n7;refine⟨m',hm,i+1,σ7,H7,I7.fN,T.keep _ _ _ st5 λb hb o e=>(I7.pin (b,o) (zan _ (zan _ (cO hb e)))).1,λb hb=>?_,w7⟩
   obtain⟨o,e,d⟩:=T.obj _ _ st5 b hb;exact(I7.pin (b,o) (zan _ (zan _ (cO hb e)))).2.1
  cases f with
  |next=>obtain⟨σ7,H7,I7,n7⟩:=q7;exact again I7 n7
  |cont=>obtain⟨σ7,H7,I7,n7⟩:=q7;exact again I7 n7
  |brk=>obtain⟨σ7,H7,I7,q7⟩:=q7;exact⟨σ7,H7,I7.fN,q7⟩
  |ret v=>obtain⟨x7,σ7,H7,I7,r7,q7⟩:=q7;exact⟨x7,σ7,H7,I7.fN,r7,q7⟩
end
abbrev R2:=V->V->Hp->VK->Prop
def OpR(X:Cx)(f:Value->Value->Sem Value)(r:R2):Prop :=
 ∀(pins:List (Addr×Obj)) (s:Shared) (σ:St) (H:Hp) (x y:V) (v u:Value) (Q:VK),Inv X pins σ H s->RelV x v->RelV y u->r x y H Q->
  wpAny (model X.prog X.w) X.A (f v u) (EP X pins σ Q) X.xe s
def UnR(X:Cx)(f:Value->Sem Value)(r:V->Hp->VK->Prop):Prop :=
 ∀(pins:List (Addr×Obj)) (s:Shared) (σ:St) (H:Hp) (x:V) (v:Value) (Q:VK),Inv X pins σ H s->RelV x v->r x H Q->
  wpAny (model X.prog X.w) X.A (f v) (EP X pins σ Q) X.xe s
def eG(X:Cx)(f:Value)(r:List V->Hp->VK->Prop):Prop :=
 ∀(pins:List (Addr×Obj)) (s:Shared) (σ:St) (H:Hp) (xs:List V) (us:List Value) (Q:VK),Inv X pins σ H s->Vals xs us->r xs H Q->
  wpAny (model X.prog X.w) X.A (call f us) (EP X pins σ Q) X.xe s
def tOp(r:R2)(ta tb:TE):TE:=fun σ H Q=>ta σ H λx H1=>tb σ H1 λy H2=>r x y H2 Q
def tUn(r:V->Hp->VK->Prop)(ta:TE):TE:=fun σ H Q=>ta σ H λx H1=>r x H1 Q
def rI(C:Int->Int->Prop)(g:Int->Int->V):R2:=λx y H Q=>∃i j,x=.int i/\y=.int j/\C i j/\Q (g i j) H
def rI0(g:Int->Int->V):R2:=λx y H Q=>∃i j,x=.int i/\y=.int j/\Q (g i j) H
def rU(g:Int->V):V->Hp->VK->Prop:=λx H Q=>∃i,x=.int i/\Q (g i) H
section
variable{X:Cx}{a b c:Expr}{ta tb tc:TE}{pos:Pos}
theorem JB(ha:PE X a ta)(hb:PE X b tb){σ:St}{R:V->V->Hp->Prop}(I:Inv X pins σ H s)
  (h:ta σ H λx H1=>tb σ H1 λy H2=>R x y H2) {Q:Value->Shared->Prop} {f:Value->Value->Sem Value}
  (hf:∀v u s2 x y H2,Inv X pins σ H2 s2->RelV x v->RelV y u->R x y H2->wpAny (model X.prog X.w) X.A (f v u) Q X.xe s2) :
  wpAny (model X.prog X.w) X.A (eval a X.env) (λv s₁=>wpAny (model X.prog X.w) X.A (eval b X.env) (λu s₂=>wpAny (model X.prog X.w) X.A (f v u) Q X.xe s₂) X.xe s₁) X.xe s:=by
 refine thn (ha pins s σ H _ I h) λv s1 ⟨x,H1,I1,r1,q1⟩=>?_
 refine thn (hb pins s1 σ H1 _ I1 q1) λu s2 ⟨y,H2,I2,r2,q2⟩=>?_
 exact hf v u s2 x y H2 I2 r1 r2 q2
theorem bL(ho:OpR X (binaryOp op) r)(ha:PE X a ta)(hb:PE X b tb):PE X (.BinOp a op b pos) (tOp r ta tb):=by
 intro pins s σ H Q I h;exact wpAny_BinOp (JB ha hb I h λv u s2 x y H2 I2 rx ry q=>ho pins s2 σ H2 x y v u Q I2 rx ry q)
theorem Lf(ho:UnR X (unaryOp op) r)(ha:PE X a ta):PE X (.UnaryOp op a pos) (tUn r ta):=by
 intro pins s σ H Q I h;exact UnaryOp_ (thn (ha pins s σ H _ I h) λv s1 ⟨x,H1,I1,r1,q1⟩=>ho pins s1 σ H1 x v Q I1 r1 q1)
theorem opI{g:Int->Int->Int}
  (rule:∀(i j:Int) (t u:Tok) (s:Shared) (Q:Value->Shared->Prop) (E:Value->Shared->Prop),C i j->Q (.int (g i j) s.toks) {s with toks:=s.toks+1}->wpAny (model X.prog X.w) X.A (f (.int i t) (.int j u)) Q E s) :
  OpR X f (rI C λi j=>.int (g i j)):=by
 intro pins s σ H x y v u Q I rx ry h;obtain⟨i,j,rfl,rfl,hc,q⟩:=h;obtain⟨t,rfl⟩:=rx;obtain⟨t',rfl⟩:=ry;exact rule i j t t' s _ _ hc ⟨.int (g i j),H,I.tok _,⟨_,rfl⟩,q⟩
theorem Lg{g:Int->Int->Int}
  (rule:∀(i j:Int) (t u:Tok) (s:Shared) (Q:Value->Shared->Prop) (E:Value->Shared->Prop),Q (.int (g i j) s.toks) {s with toks:=s.toks+1}->wpAny (model X.prog X.w) X.A (f (.int i t) (.int j u)) Q E s) :
  OpR X f (rI0 λi j=>.int (g i j)):=by
 intro pins s σ H x y v u Q I rx ry h;obtain⟨i,j,rfl,rfl,q⟩:=h;obtain⟨t,rfl⟩:=rx;obtain⟨t',rfl⟩:=ry;exact rule i j t t' s _ _ ⟨.int (g i j),H,I.tok _,⟨_,rfl⟩,q⟩
theorem Lh{g:Int->Int->Bool}
  (rule:∀(i j:Int) (t u:Tok) (s:Shared) (Q:Value->Shared->Prop) (E:Value->Shared->Prop),Q (.bool (g i j)) s->wpAny (model X.prog X.w) X.A (f (.int i t) (.int j u)) Q E s) :
  OpR X f (rI0 λi j=>.bl (g i j)):=by
 intro pins s σ H x y v u Q I rx ry h;obtain⟨i,j,rfl,rfl,q⟩:=h;obtain⟨t,rfl⟩:=rx;obtain⟨t',rfl⟩:=ry;exact rule i j t t' s _ _ ⟨.bl (g i j),H,I,rfl,q⟩
def JC(i j:Int):Prop:=0<j/\j<1073741824
def JD(i j:Int):Prop:=0<=j/\j<=1000000/\i.natAbs<2^64
def JE(i j:Int):Prop:=(-(2^64)<i/\i<2^64)\/(-(2^64)<j/\j<2^64)
theorem JE.ok(h:JE i j):IntMulOk i j:=by
 rcases h with⟨h1,h2⟩|⟨h1,h2⟩
 ·exact .of_left (intBits_le_64 h1 h2)
 ·exact .of_right (intBits_le_64 h1 h2)
theorem JF:OpR X (binaryOp .Add) (rI0 λi j=>.int (i+j)):=Lg λ_ _ _ _ _ _ _ q=>add_int q
theorem vt:OpR X (binaryOp .Sub) (rI0 λi j=>.int (i-j)):=Lg λ_ _ _ _ _ _ _ q=>sub_int q
theorem iQ:OpR X (binaryOp .FloorDiv) (rI JC λi j=>.int (i/j)):=opI λi j _ _ _ _ _ hc q=>by
 have h1:(0:Int)<j:=hc.1;have h2:j<1073741824:=hc.2;exact floordiv_int (by omega) (by rw[Int.fdiv_eq_ediv_of_nonneg i (by omega)];exact q) (.inl (PyProof.noPylong_small (by omega)))
theorem d3:OpR X (binaryOp .Mod) (rI (λ_ j=>0<j) λi j=>.int (i%j)):=opI λi j _ _ _ _ _ hc q=>by
 have h1:(0:Int)<j:=hc;exact mod_int' (by omega) (by rw[Int.fmod_eq_emod_of_nonneg i (by omega)];exact q)
theorem DD:OpR X (binaryOp .Pow) (rI JD λi j=>.int (i^j.toNat)):=opI λ_ _ _ _ _ _ _ hc q=>pow_int_small hc.1 hc.2.1 hc.2.2 q
theorem unI{g:Int->Int}
  (rule:∀(i:Int) (t:Tok) (s:Shared) (Q:Value->Shared->Prop) (E:Value->Shared->Prop),Q (.int (g i) s.toks) {s with toks:=s.toks+1}->wpAny (model X.prog X.w) X.A (f (.int i t)) Q E s) :
  UnR X f (rU λi=>.int (g i)):=by
 intro pins s σ H x v Q I rx h;obtain⟨i,rfl,q⟩:=h;obtain⟨t,rfl⟩:=rx;exact rule i t s _ _ ⟨.int (g i),H,I.tok _,⟨_,rfl⟩,q⟩
theorem JG:UnR X (unaryOp .USub) (rU λi=>.int (-i)):=unI λ_ _ _ _ _ q=>neg_int q
theorem DE{σ:St}{Q:VK}{k k':Bool}(I:Inv X pins σ H s)(q:Q (.bl k) H)(e:k=k'):EP X pins σ Q (.bool k') s:=by
 subst e;exact⟨.bl k,H,I,rfl,q⟩
theorem Li:OpR X (compareOp .LtE) (rI0 λi j=>.bl (decide (i<=j))):=Lh λ_ _ _ _ _ _ _ q=>le_int q
theorem AI:OpR X (compareOp .Gt) (rI0 λi j=>.bl (decide (j<i))):=Lh λ_ _ _ _ _ _ _ q=>gt_int q
theorem zx:OpR X (compareOp .Is) (λx y H Q=>y=.non/\Q (.bl (decide (x=.non))) H):=by
 intro pins s σ H x y v u Q I rx ry h;obtain⟨rfl,q⟩:=h;cases ry;refine is_none_gen (DE I q ?_);cases x<;>first
  |(cases rx;rfl)
  |(obtain⟨t,rfl⟩:=rx;rfl)
theorem vx:OpR X (compareOp .IsNot) (λx y H Q=>y=.non/\Q (.bl (!decide (x=.non))) H):=by
 intro pins s σ H x y v u Q I rx ry h;obtain⟨rfl,q⟩:=h;cases ry;refine isnot_none_gen (DE I q ?_);cases x<;>first
  |(cases rx;rfl)
  |(obtain⟨t,rfl⟩:=rx;rfl)
theorem OpR.or(h:OpR X f r)(h':OpR X f r'):OpR X f (λx y H Q=>r x y H Q\/r' x y H Q):=by
 intro pins s σ H x y v u Q I rx ry q;rcases q with q|q
 ·exact h pins s σ H x y v u Q I rx ry q
 ·exact h' pins s σ H x y v u Q I rx ry q
theorem bO(b:Expr)(h:op≠.In:=by decide)(h2:op≠.NotIn:=by decide):behindInMarks op b=false:=by
 have e1:(op==CmpOp.In)=false:=by cases op<;>first|rfl|exact absurd rfl h
 have e2:(op==CmpOp.NotIn)=false:=by cases op<;>first|rfl|exact absurd rfl h2
 cases b<;>simp[behindInMarks,e1,e2]
theorem kQ(ho:OpR X (compareOp op) r)(ha:PE X a ta)(hb:PE X b tb)(hm:behindInMarks op b=false):PE X (.Compare a [op] [b] pos) (tOp r ta tb):=by
 intro pins s σ H Q I h;exact wpAny_Compare1 (JB ha hb I h λv u s2 x y H2 I2 rx ry q=>ho pins s2 σ H2 x y v u Q I2 rx ry q) hm
def DF(t:TE):TT:=fun σ H Q=>t σ H λx H'=>∃k,x=.bl k/\Q k H'
theorem bA(ho:OpR X (compareOp op) r)(ha:PE X a ta)(hb:PE X b tb)(hm:behindInMarks op b=false):PT X (.Compare a [op] [b] pos) (DF (tOp r ta tb)):=by
 intro pins s σ H Q I h;refine wpAny_isTrue_Compare1 (thn (ha pins s σ H _ I h) λv s1 ⟨x,H1,I1,r1,q1⟩=>thn (hb pins s1 σ H1 _ I1 q1) λu s2 ⟨y,H2,I2,r2,q2⟩=>
  thn (ho pins s2 σ H2 x y v u _ I2 r1 r2 q2) λc s3 ⟨z,H3,I3,r3,k,e,q3⟩=>?_) hm
 subst e;cases r3;exact wpAny_truthy_bool ⟨H3,I3,q3⟩
theorem rG:(sizeLine:Nat)<2^63:=by rw[sizeLine_eq];decide
theorem zy:OpR X (binaryOp .Add) (λx y H Q=>∃i j,x=.str i/\y=.str j/\i.length+j.length<=sizeLine/\Q (.str (i++j)) H):=by
 intro pins s σ H x y v u Q I rx ry h;obtain⟨i,j,rfl,rfl,hz,q⟩:=h;obtain⟨t,rfl⟩:=rx;obtain⟨t',rfl⟩:=ry;exact add_str (λt' tk=>⟨.str (i++j),H,I.tok _,⟨_,rfl⟩,q⟩) hz
theorem vals1(r:Vals [x] us):∃u,us=[u]/\RelV x u:=by
 cases r with
 |cons r1 r2=>cases r2;exact⟨_,rfl,r1⟩
theorem vals2(r:Vals [x,y] us):∃u w',us=[u,w']/\RelV x u/\RelV y w':=by
 cases r with
 |cons r1 r2=>
  cases r2 with
  |cons r3 r4=>cases r4;exact⟨_,_,rfl,r1,r3⟩
theorem Ce(hc:X.calm=true):eG X (.builtin "max") (λxs H Q=>∃i j,xs=[.int i,.int j]/\Q (.int (if j>i then j else i)) H):=by
 intro pins s σ H xs us Q I r h;obtain⟨i,j,rfl,q⟩:=h;obtain⟨u,w',rfl,⟨t,rfl⟩,⟨t',rfl⟩⟩:=vals2 r;refine max_two_ints (I.ok.hd hc) λh' tk k=>⟨_,H,I.kept k,?_,q⟩
 by_cases hj:j>i
 ·rw[if_pos hj,if_pos hj];exact⟨_,rfl⟩
 ·rw[if_neg hj,if_neg hj];exact⟨_,rfl⟩
end
structure JH(h:Heap)(x dx C:Addr)(mA:Str->Option Value):Prop where
 obj:h.get? x=some (PySem.W.instObj C dx)
 ns:h.Ns1 dx mA
 ne:dx≠x
theorem Cf{h:Heap}(n:h.Ns1 dx mA):∃od,h.get? dx=some od/\∀name,PySem.W.lookIn name od=some (mA name):=by
 obtain⟨o,es,ep,ho,hd,hk,_,hm⟩:=n;refine⟨o,ho,λname=>?_⟩
 have e:=hm name;unfold nsFind findBy at e;rw[<-Array.find?_toList]at e;unfold PySem.W.lookIn;rw[hd];dsimp only;split
 ·rename_i y q
  rw[q]at e;exact congrArg some e
 ·rename_i q
  rw[q]at e;have a:es.toList.any (·.refKey)=false:=by
   rw[List.any_eq_false];intro y hy;obtain⟨z,t,hkey⟩:=hk y (Array.mem_toList_iff.mp hy);simp[DictEntry.refKey,hkey]
  have a' : ¬es.toList.any (·.refKey)=true:=by rw[a];exact zam
  rw[if_neg a'];exact congrArg some e
theorem JH.look(I:JH h x dx C mA):∃od,PySem.W.InstAt h x (PySem.W.instObj C dx) C (some od)/\∀name,PySem.W.lookIn name od=some (mA name) :=
 let⟨od,ho,hl⟩:=Cf I.ns
 ⟨od,⟨I.obj,rfl,rfl,ho⟩,hl⟩
def JI(f:Str)(v:V):List (Str×V)->List (Str×V)
 | []=>[(f,v)]
 |(g,x)::r=>if g=f then(g,v)::r else(g,x)::JI f v r
theorem nM.some_of(r:nM (some v) o):∃u,o=some u/\RelV v u:=by
 cases o with
 |none=>exact(show False from r).elim
 |some u=>exact⟨u,rfl,r⟩
theorem nM.none_of(r:nM none o):o=none:=by
 cases o with
 |none=>rfl
 |some u=>exact(show False from r).elim
section
variable{P:Program}{w:World}{H H':Hp}{h h':Heap}{a C dx:Addr}{fs fs':List (Str×V)}
theorem Gj(hok:HOk P w H h)(e:H a=some (.ins C dx fs)):∃mA,JH h a dx C mA/\(∀f,nM (fs.lookup f) (mA f))/\PySem.Within mA (fs.map (·.1))/\fs.length<=1000/\H dx=some (.own a):=by
 obtain⟨d,z,ne,ob,mA,n,r,q⟩:=(show cG P w H h a (.ins C dx fs)from hok a _ e);exact⟨mA,⟨ob,n,ne⟩,r,q,z,d⟩
end
structure Cls(K:zag)(C:Addr):Prop where
 pg:PySem.W.plainGet K C Str.empty=true
 hd:PySem.W.hasDictIn K C=true
 po:PySem.W.plainOver K C=true
 sa:PySem.W.findIn K (.ref C) "__setattr__"=some (some (.builtin "object.__setattr__"))
theorem Cls.get{K:zag}(c:Cls K C)(f:Str):PySem.W.plainGet K C f=true:=c.pg
structure Con(K:zag)(C:Addr)(f:Str)(v:V)(u:Value):Prop where
 at_:PySem.W.findIn K (.ref C) f=some (some u)
 rel:RelV v u
 get:PySem.W.specialIn K u "__get__"=some none
 cp:PySem.W.copiedNames.contains f=false
structure Meth(K:zag)(C:Addr)(m:Str)(f:Addr):Prop where
 at_:PySem.W.findIn K (.ref C) m=some (some (.ref f))
 fn:PySem.W.isFn K (.ref f)=true
 kp:PySem.W.keepIn K (.ref f)=true
section
variable{X:Cx}{pins:List (Addr×Obj)}{σ:St}{H:Hp}{s:Shared}{A:Around}{E:Value->Shared->Prop}{Q:Value->Shared->Prop}{c:Value}{b:Bool}
inductive pj(K:zag)(H:Hp):V->Value->Prop where
 |non:pj K H .non (.type "NoneType")
 |bl (x:Bool):pj K H (.bl x) (.type "bool")
 |int (i:Int):pj K H (.int i) (.type "int")
 |str (x:Str):pj K H (.str x) (.type "str")
 |flt (x:UInt64):pj K H (.flt x) (.type "float")
 |lst {a:Addr} {xs:List V} (e:H a=some (.lst xs)):pj K H (.ref a) (.type "list")
 |frz {a:Addr} {o:Obj} {xs:List V} (e:H a=some (.frz o (.lst xs))):pj K H (.ref a) (.type "list")
 |tup {a:Addr} {xs:List V} (e:H a=some (.tup xs)):pj K H (.ref a) (.type "tuple")
 |dK {a:Addr} {kvs:List (Key×V)} (e:H a=some (.dK kvs)):pj K H (.ref a) (.type "dict")
 |dT {a:Addr} {kvs:List (List Key×V)} (e:H a=some (.dT kvs)):pj K H (.ref a) (.type "dict")
 |ins {a C dx:Addr} {fs:List (Str×V)} (e:H a=some (.ins C dx fs)) (cl:Cls K C) (ha:PySem.W.findIn K (.ref C) "__class__"=some (some (.builtin "object.__class__")))
   (hn:PySem.W.specialIn K (.builtin "object.__class__") "__get__"=some (some (.builtin "getset_descriptor.__get__"))) (htk:PySem.W.takesIn K (.builtin "object.__class__")=some true)
   (hm:PySem.W.mroIn K C (.type "object")=some true):pj K H (.ref a) (.ref C)
theorem Cg(I:Inv X pins σ H s)(rx:RelV x u)(ty:pj X.K H x t)(e:PySem.W.kitOne X.K t c=some b)(h:∀tk,Q (.bool b) {s with toks:=tk}) :
  wpAny (model X.prog X.w) A (call (.builtin "isinstance") [u,c]) Q E s:=by
 cases ty with
 |non=>cases(show u=Value.none from rx);exact za4 PySem.W.kitx_none I.kIn True.intro e (λz=>nomatch z) h
 |bl y=>cases(show u=Value.bool y from rx);exact za4 PySem.W.kitx_bool I.kIn True.intro e (λz=>nomatch z) h
 |int i=>obtain⟨t,q⟩:=(show∃t,u=Value.int i t from rx);cases q;exact za4 PySem.W.kitx_int I.kIn True.intro e (λz=>nomatch z) h
 |str y=>obtain⟨t,q⟩:=(show∃t,u=Value.str y t from rx);cases q;exact za4 PySem.W.kitx_str I.kIn True.intro e (λz=>nomatch z) h
 |flt y=>obtain⟨t,q⟩:=(show∃t,u=Value.float y t from rx);cases q;exact za4 PySem.W.kitx_float I.kIn True.intro e (λz=>nomatch z) h
 | @lst a xs ea=>
  cases(show u=Value.ref a from rx);obtain⟨_,_,n,_,h1⟩:=(show cG X.prog X.w H s.heap a (.lst xs)from I.hok a _ ea);exact za4 PySem.W.kitx_list I.kIn ⟨_,h1,rfl⟩ e (λz=>nomatch z) h
 | @frz a ob xs ea=>
  cases(show u=Value.ref a from rx);obtain⟨_,_,_,n,_,h1⟩:=(show cG X.prog X.w H s.heap a (.frz ob (.lst xs))from I.hok a _ ea);exact za4 PySem.W.kitx_list I.kIn ⟨_,h1,rfl⟩ e (λz=>nomatch z) h
 | @tup a xs ea=>
  cases(show u=Value.ref a from rx);obtain⟨_,_,_,p⟩:=(show cG X.prog X.w H s.heap a (.tup xs)from I.hok a _ ea);obtain⟨o,h1,h2,_⟩:=p;exact za4 PySem.W.kitx_tuple I.kIn ⟨o,h1,h2⟩ e (λz=>nomatch z) h
 | @dK a kvs ea=>
  cases(show u=Value.ref a from rx);obtain⟨_,_,vs,_,p⟩:=(show cG X.prog X.w H s.heap a (.dK kvs)from I.hok a _ ea);obtain⟨o,es,ep,h1,h2,_⟩:=p;exact za4 PySem.W.kitx_dict I.kIn ⟨o,h1,h2.1⟩ e (λz=>nomatch z) h
 | @dT a kvs ea=>
  cases(show u=Value.ref a from rx);obtain⟨_,_,xs,_,o,es,ep,h1,h2,_⟩:=(show cG X.prog X.w H s.heap a (.dT kvs)from I.hok a _ ea);exact za4 PySem.W.kitx_dict I.kIn ⟨o,h1,h2.1⟩ e (λz=>nomatch z) h
 | @ins a C dx fs ea cl ha hn htk hm=>
  cases(show u=Value.ref a from rx);obtain⟨mA,O,_⟩:=Gj I.hok ea;obtain⟨od,J,_⟩:=O.look;exact za4 (PySem.W.kitx_own (cl.get _) cl.hd ha hn htk hm) I.kIn J e (λz=>nomatch z) h
end
structure gw(k:Nat)(A:Around):Prop where
 hd:A.handled=none
 dp:A.depth+3*k+5<recursionLimit
 un:A.units+16*k+200<cLine
theorem gw.mono(r:gw k A)(h:j<=k):gw j A:=⟨r.hd,by have:=r.dp;omega,by have:=r.un;omega⟩
theorem gw.deeper(r:gw (k+1) A)(env:Env):gw k (A.deeper env) :=
 ⟨r.hd,by have:=r.dp;show A.depth+1+3*k+5<_;omega,by have:=r.un;show A.units+3+16*k+200<_;omega⟩
theorem gw.in1(r:gw (k+1) A):gw k A.in1 :=
 ⟨r.hd,by have:=r.dp;show A.depth+3*k+5<_;omega,by have:=r.un;show A.units+1+16*k+200<_;omega⟩
theorem zz{A:Around}:(A.under (.builtin "type.__call__" ⟨.ref C::us,kw⟩)).depth=A.depth+1:=by
 first|rfl|simp[Around.under,Code.weight,Code.isCreation,Code.isGuard,Code.isCaller,Code.frames,Code.isFrame,guardIds]
theorem zA{A:Around}:(A.under (.builtin "type.__call__" ⟨.ref C::us,kw⟩)).units=A.units+1:=by
 first|rfl|simp[Around.under,Code.cUnits,Code.frames,Code.isFrame]
theorem gw.make(r:gw (k+1) A)(C:Addr)(us:List Value)(kw:List (Str×Value)):gw k (A.under (.builtin "type.__call__" ⟨.ref C::us,kw⟩)) :=
 ⟨r.hd,by have:=r.dp;rw[zz];omega,by have:=r.un;rw[zA];omega⟩
theorem gw.depth(r:gw k A):A.depth<recursionLimit:=by have:=r.dp;omega
theorem gw.units(r:gw k A):A.units+64<cLine:=by have:=r.un;omega
def vy:TA:=λ_ H Q=>Q [] H
def ie(ta:TE)(tr:TA):TA:=fun σ H Q=>ta σ H λx H1=>tr σ H1 λxs H2=>Q (x::xs) H2
section
variable{X:Cx}{e:Expr}{es:List Expr}{te:TE}{t:TA}{pos:Pos}
theorem au:PA X [] vy:=λ_ _ _ _ H Q I h=>Calls.spliced_nil ⟨[],H,I,.nil,h⟩
theorem aa(ha:PE X e te)(hr:PA X es t)(hs:starEach (e::es) X.env=(false,eval e X.env)::starEach es X.env:=by rfl):PA X (e::es) (ie te t):=by
 intro pos pins s σ H Q I h;rw[hs];show wpAny _ _ (spliced ((false,eval e X.env)::backTo pos (starEach es X.env))) _ _ s;refine Calls.spliced_cons (thn (ha pins s σ H _ I h) λu s1 ⟨x,H1,I1,r1,q1⟩=>?_)
 exact thn (hr pos pins s1 σ H1 _ I1 q1) λus s2 ⟨xs,H2,I2,r2,q2⟩=>⟨x::xs,H2,I2,.cons r1 r2,q2⟩
def Gk(t:TA):TE:=fun σ H Q=>t σ H λxs H1=>xs.length<=sizeLine/\∀p,H1 p=none->Q (.ref p) (upd H1 p (.tup xs))
def JJ(t:TA):TE:=fun σ H Q=>t σ H λxs H1=>xs.length<=sizeLine/\∀p,H1 p=none->Q (.ref p) (upd H1 p (.lst xs))
theorem bR(h:PA X es t):PE X (.Tuple es x1 pos) (Gk t):=by
 intro pins s σ H Q I hq;refine wpAny_Tuple_spliced (thn (h pos pins s σ H _ I hq) λus s1 ⟨xs,H1,I1,r,z,q⟩=>⟨by rw[<-r.length];exact z,?_⟩)
 have hf:H1 s1.heap.objs.size=none:=I1.hok.fresh (zap _);refine⟨.ref s1.heap.objs.size,upd H1 s1.heap.objs.size (.tup xs),I1.laid (t':=s1.toks) (λb u e=>zar _ e) (zap _) ?_,rfl,q _ hf⟩
 exact⟨z,us,r,⟨_,zaL _ rfl,rfl,_,rfl⟩⟩
theorem eN(h:PA X es t):PE X (.List es pos) (JJ t):=by
 intro pins s σ H Q I hq;refine wpAny_List_spliced (thn (h pos pins s σ H _ I hq) λus s1 ⟨xs,H1,I1,r,z,q⟩=>⟨by rw[<-r.length];exact z,?_⟩)
 have hf:H1 s1.heap.objs.size=none:=I1.hok.fresh (zap _);refine⟨.ref s1.heap.objs.size,upd H1 s1.heap.objs.size (.lst xs),I1.laid (t':=s1.toks) (λb u e=>zar _ e) (zap _) ?_,rfl,q _ hf⟩
 exact⟨z,us,0,r,zaL _ rfl⟩
end
abbrev Sp:=List V->Hp->VK->XK->Prop
abbrev CXT:=List Env->Hp->Shared->XK->Value->Shared->Prop
structure tK(P:Program)(w:World)(K:zag)(mg:Str->Option Value)(base:Heap)(A:Around)(outer:List Env)(s:Shared)(H:Hp):Prop where
 frames:A.frames=some outer
 mod:Mod K mg base
 bs:∀b o,base.get? b=some o->s.heap.get? b=some o/\H b=none
 bsz:base.objs.size<=s.heap.objs.size
 nV:s.heap.FunFrames base outer
 frf:∀b∈frs outer,H b=none
 hok:HOk P w H s.heap
 bare:AllBare s.gens
def CE(outer:List Env)(P:Program)(w:World)(H:Hp)(s:Shared)(Q:VK)(u:Value)(s':Shared):Prop :=
 ∃v H',s'.os=s.os/\AllBare s'.gens/\Un (frs outer) [] H H' s.heap s'.heap/\HOk P w H' s'.heap/\RelV v u/\Q v H'
def CR(CX:CXT)(outer:List Env)(P:Program)(w:World)(H:Hp)(s:Shared)(Q:VK)(E:XK)(r:Result)(s':Shared):Prop :=
 match r with
 | .ok (.ret u)=>CE outer P w H s Q u s'
 | .ok _=>False
 | .error e=>CX outer H s E e s'
structure l7(P:Program)(w:World)(K:zag)(mg:Str->Option Value)(base:Heap)(CX:CXT)(k:Nat)(f:Addr)(fd:FuncData)(ps:List Str)(sp:Sp):Prop where
 len:∀vs H Q E,sp vs H Q E->vs.length=ps.length
 run:∀(A:Around) (outer:List Env) (s:Shared) (H:Hp) (args:Args) (us:List Value) (vs:List V) (Q:VK) (E:XK),gw k A->tK P w K mg base A outer s H->BindsTo s fd args (ps.zip us)->Vals vs us->sp vs H Q E->
  codeAny (model P w) A (.call (.ref f) args) (CR CX outer P w H s Q E) s
theorem l7.mono{K:zag}{base:Heap}{CX:CXT}{j k:Nat}{f:Addr}{fd:FuncData}{ps:List Str}{sp:Sp}(F:l7 P w K mg base CX j f fd ps sp)(h:j<=k) :
  l7 P w K mg base CX k f fd ps sp:=⟨F.len,λA outer s H args us vs Q E hr=>F.run A outer s H args us vs Q E (hr.mono h)⟩
theorem l7.imp{K:zag}{base:Heap}{CX:CXT}{k:Nat}{f:Addr}{fd:FuncData}{ps:List Str}{sp sp':Sp}(F:l7 P w K mg base CX k f fd ps sp)
  (h:∀vs H Q E,sp' vs H Q E->sp vs H Q E):l7 P w K mg base CX k f fd ps sp' :=
 ⟨λvs H Q E q=>F.len vs H Q E (h _ _ _ _ q),λA outer s H args us vs Q E hr he hb hv hs=>F.run A outer s H args us vs Q E hr he hb hv (h _ _ _ _ hs)⟩
theorem tK.make{K:zag}{base:Heap}{A:Around}{outer:List Env}{s:Shared}{H:Hp}(e:tK P w K mg base A outer s H)(C:Addr)(us:List Value)(kw:List (Str×Value)) :
  tK P w K mg base (A.under (.builtin "type.__call__" ⟨.ref C::us,kw⟩)) outer s H:=⟨by first|exact e.frames|(simpa[Around.under,Code.envs,Code.isFrame,pushEnvs]using e.frames),e.mod,e.bs,e.bsz,e.nV,e.frf,e.hok,e.bare⟩
theorem tK.in1{K:zag}{base:Heap}{A:Around}{outer:List Env}{s:Shared}{H:Hp}(e:tK P w K mg base A outer s H) :
  tK P w K mg base A.in1 outer s H:=⟨e.frames,e.mod,e.bs,e.bsz,e.nV,e.frf,e.hok,e.bare⟩
section
variable{X:Cx}{pins:List (Addr×Obj)}{σ:St}{H:Hp}{s s':Shared}
theorem Inv.env0(I:Inv X pins σ H s):tK X.prog X.w X.K X.mg X.base X.A X.stack s H :=
 ⟨I.ok.frames,I.ok.mod,I.bs,zaX I.ok.bsz I.sz,I.stack,I.qT,I.hok,I.bare⟩
theorem Inv.after(I:Inv X pins σ H s)(h:CE X.stack X.prog X.w H s Q u s'):EP X pins σ Q u s':=by
 obtain⟨v,H',os,bare,un,hok,r,q⟩:=h;obtain⟨hh,g,d,t,os'⟩:=s';obtain rfl:os'=s.os:=os;exact⟨v,H',I.call (h':=hh) (g':=g) (d':=d) (t':=t) (ch:=[]) un hok bare (λb z=>absurd z (by simp)),r,q⟩
end
def jc(sp:Sp)(dvs:List V)(E:XK)(t:TA):TE:=fun σ H Q=>t σ H λvs H1=>sp (vs++dvs) H1 Q E
def Binds(K:zag)(fd:FuncData)(ps:List Str)(ds:List Value):Prop :=
 ∀(s:Shared) (us:List Value),K.In s.heap->(us++ds).length=ps.length->BindsTo s fd ⟨us,[]⟩ (ps.zip (us++ds))
theorem Binds.all{K:zag}(h:∀us:List Value,us.length=ps.length->bindArgs fd ⟨us,[]⟩=pure (ps.zip us)):Binds K fd ps []:=λs us _ hl=>by
 rw[zaR]at hl⊢;exact .of_eq (h us hl)
def Passes(CX:CXT)(X:Cx)(E:XK):Prop:=∀(pins:List (Addr×Obj)) (σ:St) (H:Hp) (s:Shared) (e:Value) (s':Shared),Inv X pins σ H s->CX X.stack H s E e s'->X.xe e s'
section
variable{X:Cx}{CX:CXT}{k:Nat}{f C:Addr}{fd:FuncData}{ps:List Str}{sp:Sp}{dvs:List V}{ds:List Value}{E:XK}{x m:Str}{p pos apos:Pos}{e o:Expr}{es:List Expr}{ta:TE}{t:TA}
theorem JK{σ:St}{Q:VK}{us:List Value}{vs:List V}(F:l7 X.prog X.w X.K X.mg X.base CX k f fd ps sp)(hr:gw k X.A)(hb:Binds X.K fd ps ds)(hd:Vals dvs ds)(hx:Passes CX X E)
  (I:Inv X pins σ H s) (r:Vals vs us) (h:sp (vs++dvs) H Q E):wpAny (model X.prog X.w) X.A (call (.ref f) us) (EP X pins σ Q) X.xe s:=by
 have r2:Vals (vs++dvs) (us++ds):=r.append hd;have hl:(us++ds).length=ps.length:=by rw[<-r2.length];exact F.len _ _ _ _ h
 refine wpAny_call (codeAny_mono (F.run X.A X.stack s H ⟨us,[]⟩ (us++ds) (vs++dvs) Q E hr I.env0 (hb s us I.kIn hl) r2 h) λr s' hq=>?_)
 cases r with
 |error e=>exact hx pins σ H s e s' I hq
 |ok fl=>
  cases fl with
  |ret u=>exact I.after hq
  |next=>exact False.elim hq
  |brk=>exact False.elim hq
  |cont=>exact False.elim hq
theorem AJ(F:l7 X.prog X.w X.K X.mg X.base CX k f fd ps sp)(hr:gw k X.A)(hg:Gl X x)(hm:X.mg x=some (.ref f))(hk:PySem.W.keepIn X.K (.ref f)=true)(hb:Binds X.K fd ps ds)(hd:Vals dvs ds)(hx:Passes CX X E)
  (ha:PA X (e::es) t) (hdb:(x==("__debug__":Str))=false:=by decide) (he:starEach (e::es) X.env=(false,eval e X.env)::starEach es X.env:=by rfl) (hpl:(backTo pos (starEach es X.env)).any (·.1)=false:=by rfl) :
  PE X (.Call (.Name x p) (e::es) [] pos) (jc sp dvs E t):=by
 intro pins s σ H Q I h;refine wpAny_Call_Name_kw (oy I hg hm ?_ hdb);refine PySem.W.callWith_K (h₀:=X.base) I.ok.mod.kin hk (thn (ha pos pins s σ H _ I h) λus s1 ⟨vs,H1,I1,r,q⟩=>⟨I1.kIn,?_⟩) he hpl
 exact JK F hr hb hd hx I1 r q
structure Mk(K:zag)(C f:Addr):Prop where
 makes:PySem.W.makesIn K C=true
 init:PySem.W.findIn K (.ref C) "__init__"=some (some (.ref f))
 fn:PySem.W.isFn K (.ref f)=true
 kp:PySem.W.keepIn K (.ref C)=true
end
section
variable{X:Cx}{CX:CXT}{k:Nat}{f C:Addr}{fd:FuncData}{ps ks:List Str}{sp:Sp}{E:XK}{x m:Str}{p pos apos kpos:Pos}{e o:Expr}{es:List Expr}{kws:List Keyword}{te ta:TE}{t tk:TA}{nm:Option Str}
structure MZ(K:zag)(fd:FuncData)(ps ks:List Str)(g:List Value->List Value->List Value)(gV:List V->List V->List V):Prop where
 to:∀(s:Shared) (us ws:List Value),K.In s.heap->(g us ws).length=ps.length->BindsTo s fd ⟨us,ks.zip ws⟩ (ps.zip (g us ws))
 rel:∀{vs:List V} {us:List Value} {zs:List V} {ws:List Value},Vals vs us->Vals zs ws->Vals (gV vs zs) (g us ws)
variable{g:List Value->List Value->List Value}{gV:List V->List V->List V}
end
structure bF(N P:List Str)(sc:Scope):Prop where
 kind:sc.kind=.function
 co:sc.isCoroutine=false
 gen:sc.isGenerator=false
 nd:N.Nodup
 pre:N.take P.length=P
 par:∀x∈P,sc.names.lookup x=some .local\/sc.names.lookup x=some .cell
 JL:∀y∈sc.names,y.2≠.free
theorem uq{kindOf:Str->Option NameKind}:∀{binds:List (Str×Value)} {m:Str->Option Value},(∀v,(x,v)∉binds)->bindL kindOf binds m x=m x
 | [],_,_=>rfl
 |(n,v)::r,m,h=>by
  unfold bindL;rw[uq λw hw=>h w (zak _ hw)]
  split
  ·have:x≠n:=by rintro rfl;exact h v zas
   simp[this]
  ·rfl
theorem ur{kindOf:Str->Option NameKind}:∀{binds:List (Str×Value)} {m:Str->Option Value},(∀v,(x,v)∉binds)->bindC kindOf binds m x=m x
 | [],_,_=>rfl
 |(n,v)::r,m,h=>by
  unfold bindC;rw[ur λw hw=>h w (zak _ hw)]
  split
  ·rfl
  ·have:x≠n:=by rintro rfl;exact h v zas
   simp[this]
theorem uu{kindOf:Str->Option NameKind}:∀{P:List Str} {vs:List Value} {i:Nat} {m:Str->Option Value},P.Nodup->P[i]?=some x->vs[i]?=some v->kindOf x=some .local->
  bindL kindOf (P.zip vs) m x=some v
 | [],_,_,_,_,h,_,_=>by simp at h
 |_::_,[],_,_,_,_,h,_=>by simp at h
 |p::P,w::vs,0,m,nd,h1,h2,hk=>by
  simp at h1 h2;subst h1;subst h2
  show bindL kindOf ((p,w)::P.zip vs) m p=_;unfold bindL;rw[uq λv hv=>(List.nodup_cons.mp nd).1 (List.of_mem_zip hv).1,if_pos hk]
  simp
 |p::P,w::vs,i+1,m,nd,h1,h2,hk=>by
  show bindL kindOf ((p,w)::P.zip vs) m x=_;unfold bindL;exact uu (i:=i) (List.nodup_cons.mp nd).2 (by simpa using h1) (by simpa using h2) hk
theorem uv{kindOf:Str->Option NameKind}:∀{P:List Str} {vs:List Value} {i:Nat} {m:Str->Option Value},P.Nodup->P[i]?=some x->vs[i]?=some v->kindOf x≠some .local->
  bindC kindOf (P.zip vs) m x=some v
 | [],_,_,_,_,h,_,_=>by simp at h
 |_::_,[],_,_,_,_,h,_=>by simp at h
 |p::P,w::vs,0,m,nd,h1,h2,hk=>by
  simp at h1 h2;subst h1;subst h2
  show bindC kindOf ((p,w)::P.zip vs) m p=_;unfold bindC;rw[ur λv hv=>(List.nodup_cons.mp nd).1 (List.of_mem_zip hv).1,if_neg hk]
  simp
 |p::P,w::vs,i+1,m,nd,h1,h2,hk=>by
  show bindC kindOf ((p,w)::P.zip vs) m x=_;unfold bindC;exact uv (i:=i) (List.nodup_cons.mp nd).2 (by simpa using h1) (by simpa using h2) hk
def start(N:List Str)(vs:List V):St:=vs.map some++List.replicate (N.length-vs.length) none
def pq(CX:CXT)(P:Program)(w:World)(K:zag)(mg:Str->Option Value)(base:Heap)(N:List Str)(qual:Str)(scope:Scope)(f:Addr)(cd:Value)(A:Around)(outer:List Env)(s:Shared)(H:Hp)(E:XK):Cx where
 prog:=P
 w:=w
 K:=K
 mg:=mg
 base:=base
 A:=A.deeper (envOfC qual scope s.heap.objs.size f cd)
 N:=N
 s₀:=s
 H₀:=H
 env:=envOfC qual scope s.heap.objs.size f cd
 outer:=outer
 stack:=envOfC qual scope s.heap.objs.size f cd::outer
 ex:=[]
 calm:=true
 fn:=λ_=>true
 pn:=[]
 xe:=λe s'=>wpAny (model P w) (A.deeper (envOfC qual scope s.heap.objs.size f cd)) (leaving (envOfC qual scope s.heap.objs.size f cd) e) (λ_ s''=>CX outer H s E e s'') (λe' s''=>CX outer H s E e' s'') s'
theorem xw{sc:Scope}(h:sc.names.lookup x=some .cell):∃c,(cellsFrom n sc.names []).lookup x=some c:=by
 have q:=PySem.W.cellsFrom_some sc.names n [] (.inl h);exact Option.isSome_iff_exists.mp q
theorem Ci{K:zag}{mg:Str->Option Value}{base:Heap}{N ps:List Str}{qual:Str}{scope:Scope}{f:Addr}{cd:Value}{A:Around}{outer:List Env}{s s1:Shared}{H:Hp}{E:XK}{us:List Value}{vs:List V}
  (S:bF N ps scope) (hd:A.handled=none) (e0:tK P w K mg base A outer s H) (hl:vs.length=ps.length) (r:Vals vs us)
  (x:InCallC s s.heap.objs.size (bindL (envOfC qual scope s.heap.objs.size f cd).kindOf (ps.zip us) λ_=>none) (cellsFrom (s.heap.objs.size+1) scope.names []) (bindC (envOfC qual scope s.heap.objs.size f cd).kindOf (ps.zip us) λ_=>none) s1) :
  Inv (pq CX P w K mg base N qual scope f cd A outer s H E) [] (start N vs) H s1:=by
 have hpl:ps.length<=N.length:=by have:=congrArg List.length S.pre;rw[List.length_take]at this;omega
 obtain⟨h1,tk,rfl,hk⟩:=x.done;have noA:∀b:Addr,b∉(pq CX P w K mg base N qual scope f cd A outer s H E).ex:=λb z=>absurd (show b∈([]:List Addr)from z) (by simp)
 refine⟨⟨e0.mod,S.kind,rfl,rfl,zap _,λy z c h1 h2=>?_,λy hy=>?_,λy c _ h=>?_,λ_=>hd,Around.frames_deeper e0.frames,.inr ⟨rfl,rfl⟩,λb z=>absurd z (noA b),e0.bs,e0.bsz,λb _ _=>noA b,λb z=>absurd z (noA b),e0.nV,e0.frf⟩,
  rfl,e0.bare,Un.kept hk,⟨_,x.toInCall.ns,λi y v h1 h2 h3=>?_⟩,λy c h=>⟨_,x.cell y c h⟩,e0.hok.fresh (zap _),λy c h=>?_,λp hp=>absurd (show p∈([]:List (Addr×Obj))from hp) (by simp),e0.hok.kept hk,?_⟩
 ·exact name_of_addr x.apart (za5 h1) (za5 h2)
 ·have hy:scope.names.lookup y=some .cell\/scope.names.lookup y=some .free:=hy
  rcases hy with hy|hy
  ·exact xw hy
  ·exact absurd rfl (S.JL _ (za5 hy))
 ·exact Nat.le_of_lt (x.above y c (za5 h))
 ·have hi:i<vs.length:=by
   unfold start at h2
   by_cases hi:i<vs.length
   ·exact hi
   ·rw[zaN (by simpa using hi)]at h2
    rw[List.getElem?_replicate]at h2;split at h2<;>cases h2
  have ha:vs[i]?=some v:=by
   unfold start at h2;rw[zax (by simpa using hi),zao]at h2
   cases e:vs[i]? with
   |none=>rw[e]at h2;cases h2
   |some a=>rw[e]at h2;cases h2;rfl
  obtain⟨u,hu,rv⟩:=r.get ha;have hp:ps[i]?=some y:=by
   rw[<-S.pre,List.getElem?_take_of_lt (by omega)];exact h1
  have ndP:ps.Nodup:=by rw[<-S.pre];exact S.nd.sublist (List.take_sublist _ _)
  refine⟨u,rv,?_⟩;rcases S.par y (zaj hp)with k|k
  ·exact .inl ⟨k,uu ndP hp hu k⟩
  ·obtain⟨c,e⟩:=xw (n:=s.heap.objs.size+1) k
   refine .inr ⟨.inl k,c,e,?_⟩;have q:=x.cell y c e;rw[uv ndP hp hu (by show scope.names.lookup y≠_;rw[k];decide)]at q
   exact q
 ·exact e0.hok.fresh (Nat.le_of_lt (x.above y c (za5 h)))
 ·unfold start
  show _=N.length;rw[zau,zal,List.length_replicate];omega
theorem eO{K:zag}{mg:Str->Option Value}{base:Heap}{k:Nat}{f:Addr}{name qual:Str}{params:Arguments}{body:List Stmt}{scope:Scope}{dV kV doc pm cdv ct oc:Value}{an od:Option Addr}
  {osl:Array (Option Value)} {N ps:List Str} {sp:Sp} (lk:K.lookup f=some ⟨oc,od,.func (PySem.W.fnOf name qual params body scope dV kV doc pm an cdv ct),osl⟩) (hcd:PySem.W.codeIn K cdv qual=true) (S:bF N ps scope)
  (len:∀vs H Q E,sp vs H Q E->vs.length=ps.length)
  (hbody:∀(A:Around) (outer:List Env) (s:Shared) (H:Hp) (vs:List V) (Q:VK) (E:XK),gw k (A.deeper (envOfC qual scope s.heap.objs.size f cdv))->sp vs H Q E->
   ∃t,PSs (pq CX P w K mg base N qual scope f cdv A outer s H E) body t/\t {nx:=λ_ H'=>Q .non H',rt:=Q} (start N vs) H) :
  l7 P w K mg base CX (k+1) f (PySem.W.fnOf name qual params body scope dV kV doc pm an cdv ct) ps sp:=by
 refine⟨len,λA outer s H args us vs Q E hr e0 hb r hsp=>?_⟩
 have hl:=len _ _ _ _ hsp;have KX:K.In s.heap:=e0.mod.kin.keeps λb o e=>(e0.bs b o e).1
 have lim:s.heap.NoLimit:=e0.mod.nolimit.keeps λb o e=>(e0.bs b o e).1
 have hkind:∀y∈ps.zip us,scope.names.lookup y.1=some .local\/(scope.names.lookup y.1=some .cell/\((cellsFrom (s.heap.objs.size+1) scope.names []).lookup y.1).isSome=true):=λ⟨n,v⟩ hy=>by
  rcases S.par n (List.of_mem_zip hy).1 with q|q
  ·exact .inl q
  ·exact .inr ⟨q,PySem.W.cellsFrom_some _ _ _ (.inl q)⟩
 refine codeAny_call_function hr.depth (KX _ _ lk) rfl S.co S.gen rfl (PySem.W.codeRec_of KX hcd) (hb _ _ _ _ ?_)
 refine wpAny_newFunctionEnv_cells S.kind hkind λenv he s1 x=>?_
 subst he;refine⟨lim.keeps x.toInCall.keep,codeAny_func ?_⟩
 obtain⟨t,ht,hq⟩:=hbody A outer s H vs Q E (hr.deeper _) hsp;have I:Inv (pq CX P w K mg base N qual scope f cdv A outer s H E) [] (start N vs) H s1:=Ci S hr.hd e0 hl r x;refine za6 (ht [] s1 (start N vs) H _ I hq) (λfl s' hs=>?_) λe s' hs=>hs
 have fin:∀{σ':St} {H':Hp} {v:V} {u:Value},Inv (pq CX P w K mg base N qual scope f cdv A outer s H E) [] σ' H' s'->RelV v u->Q v H'->CE outer P w H s Q u s' :=
  fun{σ' H' v u} J rv q=>⟨v,H',J.os,J.bare,J.base,J.hok,rv,q⟩
 cases fl with
 |ret u=>
  obtain⟨v,σ',H',J,rv,q⟩:=hs;exact fin J rv q
 |next=>
  obtain⟨σ',H',J,q⟩:=hs;exact fin (v:=V.non) (u:=Value.none) J rfl q
 |brk=>
  obtain⟨_,_,_,q⟩:=hs;exact False.elim q
 |cont=>
  obtain⟨_,_,_,q⟩:=hs;exact False.elim q
section
variable{X:Cx}{x:Str}{p pos:Pos}{e:Expr}{es:List Expr}{t:TA}{id T:String}{r:List V->Hp->VK->Prop}
def tCB(r:List V->Hp->VK->Prop)(t:TA):TE:=fun σ H Q=>t σ H λvs H1=>r vs H1 Q
theorem aU(hc:eG X (.builtin id) r)(hg:Gl X x)(hm:X.mg x=none)(hv:bootBuiltins x=some (.builtin id))(ha:PA X (e::es) t)(hn:x≠"__name__":=by decide)(hdb:(x==("__debug__":Str))=false:=by decide)
  (he:starEach (e::es) X.env=(false,eval e X.env)::starEach es X.env:=by rfl) (hpl:(backTo pos (starEach es X.env)).any (·.1)=false:=by rfl):PE X (.Call (.Name x p) (e::es) [] pos) (tCB r t):=by
 intro pins s σ H Q I h;refine wpAny_Call_Name_kw (rE I hg hm hv ?_ hn hdb);exact PyProof.Rows.callWith_builtin1 (thn (ha pos pins s σ H _ I h) λus s1 ⟨vs,H1,I1,r1,q1⟩=>hc pins s1 σ H1 vs us Q I1 r1 q1) he hpl
theorem dr(hc:eG X (.type T) r)(hg:Gl X x)(hm:X.mg x=none)(hv:bootBuiltins x=some (.type T))(ha:PA X (e::es) t)(hn:x≠"__name__":=by decide)(hdb:(x==("__debug__":Str))=false:=by decide)
  (he:starEach (e::es) X.env=(false,eval e X.env)::starEach es X.env:=by rfl) (hpl:(backTo pos (starEach es X.env)).any (·.1)=false:=by rfl):PE X (.Call (.Name x p) (e::es) [] pos) (tCB r t):=by
 intro pins s σ H Q I h;refine wpAny_Call_Name_kw (rE I hg hm hv ?_ hn hdb);exact PyProof.Rows.callWith_type1 (thn (ha pos pins s σ H _ I h) λus s1 ⟨vs,H1,I1,r1,q1⟩=>hc pins s1 σ H1 vs us Q I1 r1 q1) he hpl
end
end L2
namespace HT
open PySem PyProof.Rows
theorem DG(A:Around)(s:Shared)(a:Int)(t:Tok)(c:Int)(u:Tok)(prog:Program)(w:World)(E:Value->Shared->Prop)(Q:Value->Shared->Prop)(h:Q (.bool (decide (a<c))) s) :
  wpAny (model prog w) A (richCompare .Lt (.int a t) (.int c u)) Q E s :=
 (PyProof.Rows.lt_int h:wpAny (model prog w) A (compareOp .Lt (.int a t) (.int c u)) Q E s)
section
open PySem.SeqAt
open PySem.AutoSeq1 (wpAny_loadPart')
open PySem.MeetsSeq PySem.MeetsSeq2 PySem.MeetsSeq3
end
section
variable{prog:Program}{w:World}{A:Around}{E:Value->Shared->Prop}{s:Shared}
theorem Gm(ht:IsTup s.heap t vs.toArray)(hb:IsTup s.heap b ws.toArray)(hv:vs≠[])
  (h1:ws=[]->Q (.ref t) s) (h2:ws≠[]->Q (.ref s.heap.objs.size) {s with heap:=s.heap.push {cls:=.type "tuple",data:=.seq (vs++ws).toArray}})
  (hsz:vs.length+ws.length<=sizeLine):wpAny (model prog w) A (binaryOp .Add (.ref t) (.ref b)) Q E s:=by
 obtain⟨⟨cls,dd,data,sl⟩,ho,hc,n,hd⟩:=id ht;obtain⟨⟨cls2,dd2,data2,sl2⟩,ho2,hc2,n2,hd2⟩:=id hb;simp only at hc hd hc2 hd2;subst hc hd hc2 hd2;have e:vs.toArray++ws.toArray=(vs++ws).toArray:=by simp
 by_cases hw:ws=[]
 ·exact concat_meets ⟨_,ho,rfl⟩ ⟨_,ho2,rfl⟩ noFill_tuple_add seq_tuple_add PySem.F.slot_tuple_add PySem.F.entry_tuple_add (PySem.F.args_tuple_add_2 _ _)
   (tuple_addW1 t b vs.toArray ws.toArray n n2 dd dd2 sl sl2 (by simpa using hv) (by simp[hw])) ⟨ho,ho2,h1 hw⟩
 ·refine concat_meets ⟨_,ho,rfl⟩ ⟨_,ho2,rfl⟩ noFill_tuple_add seq_tuple_add PySem.F.slot_tuple_add PySem.F.entry_tuple_add (PySem.F.args_tuple_add_2 _ _)
   (tuple_addW2 t b vs.toArray ws.toArray n n2 dd dd2 sl sl2 (by simpa using hv) (by simpa using hw) (by rw[zaK,zaK];exact hsz)) ⟨ho,ho2,?_⟩
  rw[e];exact h2 hw
def sIx(n d:Nat):Option Int->Nat
 |none=>d
 |some v=>if v<0 then(v+(n:Int)).toNat else min v.toNat n
theorem xx(n d:Nat):sIx n d none=d:=rfl
theorem AK(n d k:Nat):sIx n d (some (k:Int))=min k n:=by
 show(if(k:Int)<0 then((k:Int)+(n:Int)).toNat else min (k:Int).toNat n)=min k n
 rw[if_neg (by omega),Int.toNat_natCast]
end
end HT
namespace L2
open PySem PySem.Spec PyProof.Rows
abbrev TO:=St->Hp->(Option Int->Hp->Prop)->Prop
def PO(X:Cx)(e:Option Expr)(t:TO):Prop :=
 ∀(pins:List (Addr×Obj)) (s:Shared) (σ:St) (H:Hp) (Q:Option Int->Hp->Prop),Inv X pins σ H s->t σ H Q->
  wpAny (model X.prog X.w) X.A (evalPart e X.env) (λu s'=>∃o H',Inv X pins σ H' s'/\IsPart u o/\Q o H') X.xe s
def AM:TO:=λ_ H Q=>Q none H
def Iw(t:TE):TO:=fun σ H Q=>t σ H λx H1=>∃i,x=.int i/\Q (some i) H1
section
variable{X:Cx}{e:Expr}{te:TE}{lo hi:Option Expr}{tl th:TO}{pos p2:Pos}
theorem vz:PO X none AM:=by
 intro pins s σ H Q I h;rw[evalPart_none];exact zaZ ⟨none,H,I,.none,h⟩
theorem kR(h:PE X e te):PO X (some e) (Iw te):=by
 intro pins s σ H Q I hw;rw[evalPart_some];refine thn (h pins s σ H _ I hw) λu s1 ⟨x,H1,I1,r1,q1⟩=>?_
 obtain⟨i,rfl,q⟩:=q1;obtain⟨t,rfl⟩:=r1;exact⟨some i,H1,I1,.int i t,q⟩
def SlR(X:Cx)(r:V->Option Int->Option Int->Hp->VK->Prop):Prop :=
 ∀(pins:List (Addr×Obj)) (s:Shared) (σ:St) (H:Hp) (x:V) (v vl vu:Value) (lo hi:Option Int) (sl:Addr) (Q:VK),Inv X pins σ H s->RelV x v->s.heap.IsSliceOf sl vl vu .none->IsPart vl lo->IsPart vu hi->r x lo hi H Q->
  ∃T id,typeLookup (.type T) "__getitem__"=pure (some (.builtin id))/\s.TypeIs v T/\wpAny (model X.prog X.w) X.A (getItem v (.ref sl)) (EP X pins σ Q) X.xe s
theorem SlR.or(h:SlR X r)(h':SlR X r'):SlR X (λx lo hi H Q=>r x lo hi H Q\/r' x lo hi H Q):=by
 intro pins s σ H x v vl vu lo hi sl Q I rx hs pl pu q;rcases q with q|q
 ·exact h pins s σ H x v vl vu lo hi sl Q I rx hs pl pu q
 ·exact h' pins s σ H x v vl vu lo hi sl Q I rx hs pl pu q
def tSl(r:V->Option Int->Option Int->Hp->VK->Prop)(te:TE)(tl th:TO):TE:=fun σ H Q=>te σ H λx H1=>tl σ H1 λl H2=>th σ H2 λu H3=>r x l u H3 Q
theorem l8(hr:SlR X r)(he:PE X e te)(hl:PO X lo tl)(hu:PO X hi th):PE X (.Subscript e (.Slice lo hi none p2) pos) (tSl r te tl th):=by
 intro pins s σ H Q I h;refine Subscript_ (thn (he pins s σ H _ I h) λv s1 ⟨x,H1,I1,r1,q1⟩=>?_)
 refine wpAny_Slice (thn (hl pins s1 σ H1 _ I1 q1) λvl s2 ⟨l,H2,I2,pl,q2⟩=>thn (hu pins s2 σ H2 _ I2 q2) λvu s3 ⟨u,H3,I3,pu,q3⟩=>?_)
 rw[evalPart_none];refine zaZ ?_;have I4:Inv X pins σ H3 {s3 with heap:=s3.heap.push {cls:=.type "slice",data:=.fields #[vl,vu,.none]}}:=I3.kept (t':=s3.toks) λb ob q=>zar _ q
 obtain⟨T,id,hT,ht,hg⟩:=hr pins {s3 with heap:=s3.heap.push {cls:=.type "slice",data:=.fields #[vl,vu,.none]}} σ H3 x v vl vu l u s3.heap.objs.size Q I4 r1 (Heap.IsSliceOf.new ..) pl pu q3
 show wpAny (model X.prog X.w) X.A (subscriptTail e (.Slice lo hi none p2) v (.ref s3.heap.objs.size)) (EP X pins σ Q) X.xe {s3 with heap:=s3.heap.push {cls:=.type "slice",data:=.fields #[vl,vu,.none]}}
 exact tail_any (ops:=[.ref s3.heap.objs.size,v]) ht hT hg (by with_unfolding_all rfl)
def Cj(xs:List V)(lo hi:Option Int):List V:=(xs.drop (HT.sIx xs.length 0 lo)).take (HT.sIx xs.length xs.length hi-HT.sIx xs.length 0 lo)
theorem xA(xs:List V)(lo hi:Option Int):(Cj xs lo hi).length<=xs.length:=by
 unfold Cj;rw[List.length_take,List.length_drop];omega
def Iy(K:zag):R2:=λx y H Q=>∃a b xs ys,x=.ref a/\y=.ref b/\SqT K H a xs/\SqT K H b ys/\xs≠[]/\xs.length+ys.length<=sizeLine/\
 (ys=[]->Q (.ref a) H)/\(ys≠[]->∀p,H p=none->Q (.ref p) (upd H p (.tup (xs++ys))))
theorem Vals.vA(r:Vals xs us):us=[]↔xs=[]:=by
 cases r with
 |nil=>simp
 |cons _ _=>simp
theorem Gn:OpR X (binaryOp .Add) (Iy X.K):=by
 intro pins s σ H x y v u Q I rx ry h;obtain⟨a,b,xs,ys,rfl,rfl,ha,hb,hx,hz,q1,q2⟩:=h;cases rx;cases ry;obtain⟨its,r1,p1,_⟩:=I.tuple ha;obtain⟨its2,r2,p2,_⟩:=I.tuple hb;refine HT.Gm p1 p2 (λz=>hx (r1.vA.mp z)) (λz=>⟨.ref a,H,I,rfl,q1 (r2.vA.mp z)⟩) (λz=>?_) (by rw[<-r1.length,<-r2.length];exact hz)
 refine⟨.ref s.heap.objs.size,_,I.laid (t':=s.toks) (o:=.tup (xs++ys)) (λb ob q=>zar _ q) (zap _) ?_,rfl,q2 (λw=>z (r2.vA.mpr w)) _ (I.hok.fresh (zap _))⟩
 exact⟨by rw[zau];exact hz,_,r1.append r2,IsTup.new _ _⟩
end
def ixN(n:Nat)(i:Int):Option Nat:=if 0<=i then(if i<n then some i.toNat else none)else if-(n:Int)<=i then some (i+n).toNat else none
def atI{α:Type}(xs:List α)(i:Int):Option α:=(ixN xs.length i).bind λj=>xs[j]?
theorem Gq(h:ixN n i=some j):seqIndex? i n=some j/\j<n/\-(n:Int)<=i/\i<n:=by
 unfold ixN at h
 by_cases h0 : 0<=i
 ·rw[if_pos h0]at h
  by_cases h1:i<n
  ·rw[if_pos h1]at h
   have e:i.toNat=j:=zaQ h;exact⟨by rw[seqIndex_of h0 h1,e],by omega,by omega,h1⟩
  ·rw[if_neg h1]at h;cases h
 ·rw[if_neg h0]at h
  by_cases h1 : -(n:Int)<=i
  ·rw[if_pos h1]at h
   have e:(i+n).toNat=j:=zaQ h;exact⟨by rw[seqIndex_neg (by omega) h1,e],by omega,h1,by omega⟩
  ·rw[if_neg h1]at h;cases h
theorem vB(h:atI xs i=some v):∃j,seqIndex? i xs.length=some j/\xs[j]?=some v/\j<xs.length/\-(xs.length:Int)<=i/\i<xs.length:=by
 unfold atI at h;cases e:ixN xs.length i with
 |none=>rw[e]at h;cases h
 |some j=>
  rw[e]at h;obtain⟨h1,h2,h3,h4⟩:=Gq e;exact⟨j,h1,h,h2,h3,h4⟩
theorem qU{j:Nat}(h:xs[j]?=some v):atI xs (j:Int)=some v:=by
 have hj:j<xs.length:=(zac h).1;have e:ixN xs.length (j:Int)=some j:=by
  unfold ixN;rw[if_pos (by omega),if_pos (by omega)];simp
 unfold atI;rw[e];exact h
theorem xB(xs:List α)(v : α):atI (xs++[v]) (-1)=some v:=by
 have hl:(xs++[v]).length=xs.length+1:=by simp
 have e:ixN (xs++[v]).length (-1)=some xs.length:=by
  unfold ixN;rw[hl,if_neg (by decide),if_pos (by omega)]
  congr 1
  omega
 unfold atI;rw[e];show(xs++[v])[xs.length]?=some v;simp
def Gr(b:Expr):Prop:=∀o i,subscripted b false o i=operate [o,i] (getItem o i)
def IxR(X:Cx)(r:R2):Prop :=
 ∀(value slice:Expr) (pins:List (Addr×Obj)) (s:Shared) (σ:St) (H:Hp) (x y:V) (v u:Value) (Q:VK),Inv X pins σ H s->RelV x v->RelV y u->r x y H Q->
  subscripted slice false v u=operate [v,u] (getItem v u)->wpAny (model X.prog X.w) X.A (subscriptTail value slice v u) (EP X pins σ Q) X.xe s
def MtR(X:Cx)(id:String)(r:V->List V->Hp->VK->Prop):Prop :=
 ∀(pins:List (Addr×Obj)) (s:Shared) (σ:St) (H:Hp) (x:V) (xs:List V) (v:Value) (us:List Value) (Q:VK),Inv X pins σ H s->RelV x v->Vals xs us->r x xs H Q->
  wpAny (model X.prog X.w) X.A (call (.builtin id) (v::us)) (EP X pins σ Q) X.xe s
section
variable{X:Cx}{a b:Expr}{ta tb:TE}{pos:Pos}
theorem IxR.or(h:IxR X r)(h':IxR X r'):IxR X (λx y H Q=>r x y H Q\/r' x y H Q):=by
 intro value slice pins s σ H x y v u Q I rx ry q hs;rcases q with q|q
 ·exact h value slice pins s σ H x y v u Q I rx ry q hs
 ·exact h' value slice pins s σ H x y v u Q I rx ry q hs
theorem MtR.or{id:String}(h:MtR X id r)(h':MtR X id r'):MtR X id (λx xs H Q=>r x xs H Q\/r' x xs H Q):=by
 intro pins s σ H x xs v us Q I rx rs q;rcases q with q|q
 ·exact h pins s σ H x xs v us Q I rx rs q
 ·exact h' pins s σ H x xs v us Q I rx rs q
theorem aN(hr:IxR X r)(ha:PE X a ta)(hb:PE X b tb)(hs:Gr b):PE X (.Subscript a b pos) (tOp r ta tb):=by
 intro pins s σ H Q I h;exact Subscript_ (JB ha hb I h λv u s2 x y H2 I2 rx ry q=>hr a b pins s2 σ H2 x y v u Q I2 rx ry q (hs _ _))
def Lj(K:zag):R2:=λx y H Q=>∃p xs i v,x=.ref p/\y=.int i/\SqL K H p xs/\atI xs i=some v/\Q v H
def Lk(K:zag):R2:=λx y H Q=>∃p xs i v,x=.ref p/\y=.int i/\SqT K H p xs/\atI xs i=some v/\Q v H
def Ll:R2:=λx y H Q=>∃z i c,x=.str z/\y=.int i/\z.length<=sizeLine/\atI z.cps.toList i=some c/\Q (.str ⟨#[c]⟩) H
theorem Gs:IxR X (Lj X.K):=by
 intro value slice pins s σ H x y v u Q I rx ry h hs;obtain⟨p,xs,i,z,rfl,rfl,hq,he,q⟩:=h;cases rx;obtain⟨t,rfl⟩:=ry;obtain⟨its,r,pl,hz⟩:=I.list hq;obtain⟨j,h1,h2,h3,h4,h5⟩:=vB he;obtain⟨w,ew,rw'⟩:=r.get h2;have hl:=r.length;have hn:=rG;have fin:EP X pins σ Q w s:=⟨z,H,I,rw',q⟩
 by_cases h0 : 0<=i
 ·have hj:i.toNat=j:=by
   rw[seqIndex_of h0 h5]at h1;exact zaQ h1
  exact item_listR pl.isList h0 (by omega) (by rw[hj];simpa using ew) fin hs
 ·have hj:(i+(its.toArray.size:Int)).toNat=j:=by
   rw[seqIndex_neg (by omega) h4]at h1
   rw[zaK,<-hl];exact zaQ h1
  exact subscriptTail_builtinR (x:=w) pl.isList.typeIs slot_list_getitem.lookup
   (wpAny_getItem_list_neg (Q:=λr s'=>r=w/\EP X pins σ Q r s') pl.isList (by omega) (by rw[zaK]<;>omega) (by omega) (by rw[hj];simpa using ew) ⟨rfl,fin⟩) hs
theorem JM:IxR X (Lk X.K):=by
 intro value slice pins s σ H x y v u Q I rx ry h hs;obtain⟨p,xs,i,z,rfl,rfl,hq,he,q⟩:=h;cases rx;obtain⟨t,rfl⟩:=ry;obtain⟨its,r,pl,hz⟩:=I.tuple hq;obtain⟨j,h1,h2,h3,h4,h5⟩:=vB he;obtain⟨w,ew,rw'⟩:=r.get h2;have hl:=r.length;have hn:=rG;have fin:EP X pins σ Q w s:=⟨z,H,I,rw',q⟩;exact subscriptTail_builtinR (x:=w) pl.typeIs slot_tuple_getitem.lookup
  (getItem_tuple (j:=j) (Q:=λr s'=>r=w/\EP X pins σ Q r s') pl (by omega) (by omega) (by rw[zaK,<-hl];exact h1) (by simpa using ew) ⟨rfl,fin⟩) hs
theorem JN:IxR X Ll:=by
 intro value slice pins s σ H x y v u Q I rx ry h hs;obtain⟨z,i,c,rfl,rfl,hz,he,q⟩:=h;obtain⟨t,rfl⟩:=rx;obtain⟨t',rfl⟩:=ry;obtain⟨j,h1,h2,h3,h4,h5⟩:=vB he;have hl:z.cps.toList.length=z.length:=by simp[Str.length]
 rw[hl]at h1 h4 h5;have hn:=rG;exact tail_any (typeIs_str s z t) slot_str_getitem.lookup (getItem_str (c:=c) (by
  have e1:decide (i< -(2^63:Int))=false:=zaO (by omega)
  have e2:decide (i>=2^63)=false:=zaO (by omega)
  rw[e1,e2,Bool.or_false]) (by rw[h1];simpa using h2) ⟨.str ⟨#[c]⟩,H,I.tok _,⟨_,rfl⟩,q⟩) hs
def rIx(K:zag):R2:=λx y H Q=>Lj K x y H Q\/Lk K x y H Q\/Ll x y H Q
theorem JO:IxR X (rIx X.K):=Gs.or (JM.or JN)
theorem Inv.lst{σ:St}{p:Addr}{xs:List V}(I:Inv X pins σ H s)(h:H p=some (.lst xs)) :
  ∃(its:List Value) (n:Nat),Vals xs its/\s.heap.get? p=some {cls:=.type "list",data:=.seq its.toArray n}/\xs.length<=sizeLine:=by
 obtain⟨z,its,n,r,e⟩:=I.hok p _ h;exact⟨its,n,r,e,z⟩
theorem vC(lo hi:Option Int)(n:Nat):(sliceBounds lo hi none n).1=((HT.sIx n 0 lo:Nat):Int)/\(sliceBounds lo hi none n).2.1=((HT.sIx n n hi:Nat):Int)/\(sliceBounds lo hi none n).2.2=1:=by
 refine⟨?_,?_,rfl⟩
 ·cases lo with
  |none=>simp[sliceBounds,HT.sIx]
  |some i=>
   simp only[sliceBounds,HT.sIx,Option.getD_none,show(1:Int)>0 by decide,if_true]
   by_cases h:i<0
   ·simp only[h,if_true]<;>omega
   ·simp only[h,if_false]<;>omega
 ·cases hi with
  |none=>simp[sliceBounds,HT.sIx]
  |some i=>
   simp only[sliceBounds,HT.sIx,Option.getD_none,show(1:Int)>0 by decide,if_true]
   by_cases h:i<0
   ·simp only[h,if_true]<;>omega
   ·simp only[h,if_false]<;>omega
theorem tL(its:List Value)(lo hi:Option Int):slicePick its.toArray lo hi none=((its.drop (HT.sIx its.length 0 lo)).take (HT.sIx its.length its.length hi-HT.sIx its.length 0 lo)).toArray:=by
 obtain⟨h1,h2,h3⟩:=vC lo hi its.toArray.size;unfold slicePick;rw[h1,h2,h3];simp only[sliceRange_one,pick_run,List.size_toArray]<;>rfl
def JP(K:zag):V->Option Int->Option Int->Hp->VK->Prop:=λx lo hi H Q=>∃a xs,x=.ref a/\SqL K H a xs/\∀p,H p=none->Q (.ref p) (upd H p (.lst (Cj xs lo hi)))
theorem Gu:SlR X (JP X.K):=by
 intro pins s σ H x v vl vu lo hi sl Q I rx hs pl pu h;obtain⟨a,xs,rfl,hx,q⟩:=h;cases rx;obtain⟨its,r,ht,hz⟩:=I.list hx;have hlen:=r.length;refine⟨"list",_,slot_list_getitem.lookup,ht.isList.typeIs,?_⟩;refine wpAny_getItem_list_slice ht.isList hs pl pu .none (by simp) ?_ (by rw[zaK]<;>omega)
 rw[tL,<-hlen];refine⟨.ref s.heap.objs.size,_,I.laid (t':=s.toks) (o:=.lst (Cj xs lo hi)) (λb ob q=>zar _ q) (zap _) ?_,rfl,q _ (I.hok.fresh (zap _))⟩
 exact⟨zaX (xA xs lo hi) hz,_,0,(r.drop (HT.sIx xs.length 0 lo)).take (HT.sIx xs.length xs.length hi-HT.sIx xs.length 0 lo),zaL _ rfl⟩
def nQ:V->Bool
 | .non=>true
 | .bl _=>true
 | .int _=>true
 | .str _=>true
 |_=>false
def eqV:V->V->Bool
 | .non,.non=>true
 | .bl a,.bl b=>a==b
 | .bl a,.int b=>(if a then 1 else 0)==b
 | .int a,.bl b=>a==(if b then 1 else 0)
 | .int a,.int b=>a==b
 | .str a,.str b=>a==b
 |_,_=>false
theorem JQ(ry:RelV y u)(rx:RelV x v)(fy:nQ y=true)(fx:nQ x=true):SeqAt.EqAt A s u v (eqV y x):=by
 cases y with
 |non=>
  cases ry;cases x with
  |non=>cases rx;exact SeqAt.EqAt.same _
  |bl b=>cases rx;exact SeqAt.EqAt.none_bool b
  |int b=>obtain⟨t,rfl⟩:=rx;exact SeqAt.EqAt.none_int b t
  |str b=>obtain⟨t,rfl⟩:=rx;exact SeqAt.EqAt.none_str b t
  |_=>exact absurd (show false=true from fx) zam
 |bl a=>
  cases ry;cases x with
  |non=>cases rx;exact SeqAt.EqAt.bool_none a
  |bl b=>cases rx;exact SeqAt.EqAt.bool_bool a b
  |int b=>obtain⟨t,rfl⟩:=rx;exact SeqAt.EqAt.bool_int a b t
  |str b=>obtain⟨t,rfl⟩:=rx;exact SeqAt.EqAt.bool_str a b t
  |_=>exact absurd (show false=true from fx) zam
 |int a=>
  obtain⟨t',rfl⟩:=ry;cases x with
  |non=>cases rx;exact SeqAt.EqAt.int_none a t'
  |bl b=>cases rx;exact SeqAt.EqAt.int_bool a t' b
  |int b=>obtain⟨t,rfl⟩:=rx;exact SeqAt.EqAt.int_int a t' b t
  |str b=>obtain⟨t,rfl⟩:=rx;exact SeqAt.EqAt.int_str a t' b t
  |_=>exact absurd (show false=true from fx) zam
 |str a=>
  obtain⟨t',rfl⟩:=ry;cases x with
  |non=>cases rx;exact SeqAt.EqAt.str_none a t'
  |bl b=>cases rx;exact SeqAt.EqAt.str_bool a t' b
  |int b=>obtain⟨t,rfl⟩:=rx;exact SeqAt.EqAt.str_int a t' b t
  |str b=>obtain⟨t,rfl⟩:=rx;exact SeqAt.EqAt.str_str a t' b t
  |_=>exact absurd (show false=true from fx) zam
 |_=>exact absurd (show false=true from fy) zam
def eqU(x:V)(u:Value):Bool:=match u with
 | .none=>eqV .non x
 | .bool b=>eqV (.bl b) x
 | .int i _=>eqV (.int i) x
 | .str z _=>eqV (.str z) x
 |_=>false
theorem DH(r:RelV y u)(f:nQ y=true):eqU x u=eqV y x:=by
 cases y with
 |non=>cases r;rfl
 |bl b=>cases r;rfl
 |int i=>obtain⟨t,rfl⟩:=r;rfl
 |str z=>obtain⟨t,rfl⟩:=r;rfl
 |_=>exact absurd (show false=true from f) zam
theorem vD:∀{xs:List V} {us:List Value},Vals xs us->xs.all nQ=true->us.any (eqU x)=xs.any λy=>eqV y x
 |_,_,.nil,_=>rfl
 |y::xs,u::us,.cons r t,f=>by
  rw[List.all_cons,Bool.and_eq_true]at f;rw[List.any_cons,List.any_cons,DH r f.1,vD t f.2]
theorem rH(rx:RelV x v)(fx:nQ x=true):∀{xs:List V} {us:List Value},Vals xs us->xs.all nQ=true->∀u∈us,SeqAt.EqAt A s u v (eqU x u)
 |_,_,.nil,_=>λu hu=>by cases hu
 |y::xs,u::us,.cons r t,f=>λu' hu=>by
  rw[List.all_cons,Bool.and_eq_true]at f;rcases zaf hu with rfl|hu
  ·rw[DH r f.1];exact JQ r rx f.1 fx
  ·exact rH rx fx t f.2 u' hu
def inV(x:V)(xs:List V):Bool:=xs.any λy=>eqV y x
def rIn(K:zag)(neg:Bool):R2:=λx y H Q=>∃p xs,y=.ref p/\(SqL K H p xs\/SqT K H p xs)/\nQ x=true/\xs.all nQ=true/\Q (.bl (if neg then !inV x xs else inV x xs)) H
theorem vE:OpR X (compareOp .NotIn) (rIn X.K true):=by
 intro pins s σ H x y v u Q I rx ry h;obtain⟨p,xs,rfl,hq,fx,fs,q⟩:=h;cases ry;rcases hq with hq|hq
 ·obtain⟨its,r,pl,hz⟩:=I.list hq
  refine SeqAt.notIn_listAt (eqU x) pl.isList (λw hw=>rH rx fx r fs w (by simpa using hw)) ⟨.bl _,H,I,rfl,?_⟩
  rw[show its.toArray.any (eqU x)=its.any (eqU x) by simp,vD r fs]
  exact q
 ·obtain⟨its,r,pl,hz⟩:=I.tuple hq
  refine SeqAt.notIn_tupleAt (eqU x) pl (λw hw=>rH rx fx r fs w (by simpa using hw)) ⟨.bl _,H,I,rfl,?_⟩
  rw[show its.toArray.any (eqU x)=its.any (eqU x) by simp,vD r fs]
  exact q
theorem vF:eG X (.builtin "len") (λxs H Q=>∃p ys,xs=[.ref p]/\(SqL X.K H p ys\/SqT X.K H p ys)/\Q (.int ys.length) H):=by
 intro pins s σ H xs us Q I r h;obtain⟨p,ys,rfl,hq,q⟩:=h;obtain⟨u,rfl,rx⟩:=vals1 r;cases rx;have hn:=rG;rcases hq with hq|hq
 ·obtain⟨its,r',pl,hz⟩:=I.list hq
  have hlen:=r'.length;exact Calls.call_len_list pl.isList (by simp only[List.size_toArray]<;>omega) ⟨.int ys.length,H,I.tok _,⟨s.toks+1,by rw[zaK,hlen]⟩,q⟩
 ·obtain⟨its,r',pl,hz⟩:=I.tuple hq
  have hlen:=r'.length;exact len_tuple pl (by simp only[List.size_toArray]<;>omega) ⟨.int ys.length,H,I.tok _,⟨s.toks+1,by rw[zaK,hlen]⟩,q⟩
theorem vG:eG X (.builtin "len") (λxs H Q=>∃z,xs=[.str z]/\z.length<=sizeLine/\Q (.int z.length) H):=by
 intro pins s σ H xs us Q I r h;obtain⟨z,rfl,hz,q⟩:=h;obtain⟨u,rfl,t,rfl⟩:=vals1 r;have hn:=rG;exact len_str (by omega) ⟨.int z.length,H,I.tok _,⟨_,rfl⟩,q⟩
theorem eG.or(h:eG X f r)(h':eG X f r'):eG X f (λxs H Q=>r xs H Q\/r' xs H Q):=by
 intro pins s σ H xs us Q I rs q;rcases q with q|q
 ·exact h pins s σ H xs us Q I rs q
 ·exact h' pins s σ H xs us Q I rs q
theorem vH:eG X (.type "list") (λxs H Q=>∃p ys,xs=[.ref p]/\(SqL X.K H p ys\/SqT X.K H p ys)/\∀l,H l=none->Q (.ref l) (upd H l (.lst ys))):=by
 intro pins s σ H xs us Q I r h;obtain⟨p,ys,rfl,hq,q⟩:=h;obtain⟨u,rfl,rx⟩:=vals1 r;cases rx;have fin:∀(its:List Value),Vals ys its->ys.length<=sizeLine->∀(h':Heap) (c':Nat),(∀b o',s.heap.get? b=some o'->h'.get? b=some o')->
   h'.get? s.heap.objs.size=some {cls:=.type "list",dict:=none,data:=.seq its.toArray c',slots:=#[]}->EP X pins σ Q (.ref s.heap.objs.size) {s with heap:=h'}:=λits r' hz h' c' kp e=>
  ⟨.ref s.heap.objs.size,_,I.laid (t':=s.toks) kp (zap _) (show cG X.prog X.w _ h' _ (.lst ys)from⟨hz,its,c',r',e⟩),rfl,q _ (I.hok.fresh (zap _))⟩
 rcases hq with hq|hq
 ·obtain⟨its,r',pl,hz⟩:=I.list hq
  have hlen:=r'.length;obtain⟨o,ho,hc,n,hd⟩:=pl.isList;exact call_list_seq p (.inl rfl) ho hc hd (λh' c' kp e=>fin its r' hz h' c' kp e) (by simp only[List.size_toArray]<;>omega)
 ·obtain⟨its,r',pl,hz⟩:=I.tuple hq
  have hlen:=r'.length;obtain⟨o,ho,hc,n,hd⟩:=pl;exact call_list_seq p (.inr rfl) ho hc hd (λh' c' kp e=>fin its r' hz h' c' kp e) (by simp only[List.size_toArray]<;>omega)
theorem tM:eG X (.type "tuple") (λxs H Q=>∃p ys,xs=[.ref p]/\((SqL X.K H p ys/\∀l,H l=none->Q (.ref l) (upd H l (.tup ys)))\/(SqT X.K H p ys/\Q (.ref p) H))):=by
 intro pins s σ H xs us Q I r h;obtain⟨p,ys,rfl,h⟩:=h;obtain⟨u,rfl,rx⟩:=vals1 r;cases rx;rcases h with⟨hq,q⟩|⟨hq,q⟩
 ·obtain⟨its,r',pl,hz⟩:=I.list hq
  have hlen:=r'.length;refine call_tuple_list pl.isList (λh' kp=>?_) (by simp only[List.size_toArray]<;>omega)
  have I1:Inv X pins σ H {s with heap:=h'}:=I.kept (t':=s.toks) kp
  have I2:Inv X pins σ (upd H h'.objs.size (.tup ys)) {s with heap:=h'.push {cls:=.type "tuple",data:=.seq its.toArray}} :=
   I1.laid (t':=s.toks) (λb o e=>zar _ e) (zap _) (show cG X.prog X.w _ _ _ (.tup ys)from⟨hz,its,r',IsTup.new _ _⟩)
  exact⟨.ref h'.objs.size,_,I2,rfl,q _ (I1.hok.fresh (zap _))⟩
 ·obtain⟨its,r',pl,hz⟩:=I.tuple hq
  exact call_tuple_same pl ⟨.ref p,H,I,rfl,q⟩
def tyV(K:zag)(T:String)(x:V)(H:Hp):Prop:=match x with
 | .str _=>T="str"
 | .int _=>T="int"
 | .ref p=>(T="list"/\∃xs,SqL K H p xs)\/(T="tuple"/\∃o,K.lookup p=some o/\o.cls=.type "tuple"/\o.dict=none)\/
   (T="dict"/\((∃kvs,H p=some (.dK kvs))\/∃kvs,H p=some (.dT kvs)))\/(T="set"/\∃S n,H p=some (.set S n))
 |_=>False
theorem DI{σ:St}{T:String}{x:V}{v:Value}(I:Inv X pins σ H s)(r:RelV x v)(ty:tyV X.K T x H) :
  s.TypeIs v T/\∀a,v=.ref a->∃ob,s.heap.get? a=some ob/\ob.dict=none:=by
 cases x with
 |str z=>
  obtain⟨t,rfl⟩:=r;cases(show T="str"from ty);exact⟨typeIs_str s z t,λ_ e=>nomatch e⟩
 |int i=>
  obtain⟨t,rfl⟩:=r;cases(show T="int"from ty);exact⟨typeIs_int s i t,λ_ e=>nomatch e⟩
 |ref p=>
  cases r;rcases ty with⟨rfl,xs,hq⟩|⟨rfl,o,hk,hc,hd⟩|⟨rfl,hk⟩|⟨rfl,S,n,hk⟩
  ·obtain⟨its,_,pl,_⟩:=I.list hq
   refine⟨pl.isList.typeIs,λa e=>?_⟩
   cases e;obtain⟨o,n,e,c,hd,_⟩:=pl;exact⟨o,e,hd⟩
  ·refine⟨⟨o,I.kIn p o hk,hc⟩,λa e=>?_⟩
   cases e;exact⟨o,I.kIn _ o hk,hd⟩
  ·have z:∃o,s.heap.get? p=some o/\o.ExactDict:=by
    rcases hk with⟨kvs,hk⟩|⟨kvs,hk⟩
    ·obtain⟨_,_,_,_,o,_,_,e,ex,_⟩:=I.hok p _ hk
     exact⟨o,e,ex⟩
    ·obtain⟨_,_,_,_,o,_,_,e,ex,_⟩:=I.hok p _ hk
     exact⟨o,e,ex⟩
   obtain⟨o,e,ex⟩:=z;refine⟨⟨o,e,ex.1⟩,λa e2=>?_⟩
   cases e2;exact⟨o,e,ex.2.1⟩
  ·obtain⟨o,_,_,_,e,ex,_⟩:=I.hok p _ hk
   refine⟨⟨o,e,ex.1⟩,λa e2=>?_⟩
   cases e2;exact⟨o,e,ex.2.1⟩
 |_=>exact False.elim ty
def DJ(K:zag)(T:String)(r:V->List V->Hp->VK->Prop)(to:TE):TE:=fun σ H Q=>to σ H λx H1=>tyV K T x H1/\r x [] H1 Q
def tBM(K:zag)(T:String)(r:V->List V->Hp->VK->Prop)(to:TE)(t:TA):TE:=fun σ H Q=>to σ H λx H1=>tyV K T x H1/\t σ H1 λxs H2=>r x xs H2 Q
variable{o e:Expr}{es:List Expr}{to:TE}{t:TA}{name:Str}{apos cpos:Pos}{T id:String}{r:V->List V->Hp->VK->Prop}
theorem JR(pa:PlainAttrs T)(slot:Slot T name id)(hty:typeOf (.builtin id)=pure (.type "method_descriptor"))(hm:MtR X id r)(ho:PE X o to)
  (hbase:attributeBase o name X.env (eval o X.env)=eval o X.env:=by rfl) (hline:(apos.endLine==cpos.line)=true:=by rfl):PE X (.Call (.Attribute o name apos) [] [] cpos) (DJ X.K T r to):=by
 intro pins s σ H Q I h;refine wpAny_Call_method0_late hbase hline (thn (ho pins s σ H _ I h) λv s1 ⟨x,H1,I1,r1,ty,q1⟩=>?_)
 obtain⟨h1,h2⟩:=DI I1 r1 ty;exact⟨T,id,pa,slot,hty,h1,h2,Calls.callWith_builtin rfl (PySem.evalArgs_none (hm pins s1 σ H1 x [] v [] Q I1 r1 .nil q1))⟩
theorem Lm(pa:PlainAttrs T)(slot:Slot T name id)(hty:typeOf (.builtin id)=pure (.type "method_descriptor"))(hm:MtR X id r)(ho:PE X o to)(ha:PA X (e::es) t)
  (hbase:attributeBase o name X.env (eval o X.env)=eval o X.env:=by rfl)
  (hfew:((backTo cpos (starEach (e::es) X.env)).all (λx=>!x.1)&&(backToKw cpos (keywordEach [] X.env)).all (λx=>x.1.isSome)
   &&decide ((e::es).length+([]:List Keyword).length+(if([]:List Keyword).isEmpty then 0 else 1)<30))=true:=by rfl)
  (hline:(apos.endLine==cpos.line)=true:=by rfl) (hs:starEach (e::es) X.env=(false,eval e X.env)::starEach es X.env:=by rfl) (hplain:(backTo cpos (starEach es X.env)).any (·.1)=false:=by rfl) :
  PE X (.Call (.Attribute o name apos) (e::es) [] cpos) (tBM X.K T r to t):=by
 intro pins s σ H Q I h;refine wpAny_Call_method_late hbase hfew hline rfl (thn (ho pins s σ H _ I h) λv s1 ⟨x,H1,I1,r1,ty,q1⟩=>?_)
 obtain⟨h1,h2⟩:=DI I1 r1 ty;refine⟨T,id,pa,slot,hty,h1,h2,?_⟩;have hA:=ha cpos pins s1 σ H1 _ I1 q1;rw[hs]at hA⊢;refine Calls.callWith_builtin (by show(false||(backTo cpos (starEach es X.env)).any (·.1))=false;rw[hplain]<;>rfl) (Calls.evalArgs_plain ?_)
 exact thn hA λus s2 ⟨vs,H2,I2,r2,q2⟩=>hm pins s2 σ H2 x vs v us Q I2 r1 r2 q2
end
def MtM(X:Cx)(id:String)(r:V->List V->Hp->VK->Prop):Prop :=
 ∀(pins:List (Addr×Obj)) (s:Shared) (σ:St) (H:Hp) (x:V) (xs:List V) (v:Value) (us:List Value) (Q:VK),Inv X pins σ H s->RelV x v->Vals xs us->r x xs H Q->
  wpAny (model X.prog X.w) X.A (call (.builtin id) (v::us)) (EP X pins σ Q) X.xe s
theorem Vals.one:∀{x:V} {us:List Value},Vals [x] us->∃u,us=[u]/\RelV x u
 |_,_,.cons r .nil=>⟨_,rfl,r⟩
theorem Vals.two:∀{x y:V} {us:List Value},Vals [x,y] us->∃u v,us=[u,v]/\RelV x u/\RelV y v
 |_,_,_,.cons r (.cons q .nil)=>⟨_,_,rfl,r,q⟩
theorem Vals.zero:∀{us:List Value},Vals [] us->us=[]
 |_,.nil=>rfl
theorem Vals.dropLast(h:Vals xs us):Vals xs.dropLast us.dropLast:=by
 induction h with
 |nil=>exact .nil
 |cons r t ih=>
  cases t with
  |nil=>exact .nil
  |cons q t'=>exact .cons r ih
theorem Vals.eraseIdx:∀{xs:List V} {us:List Value} (i:Nat),Vals xs us->Vals (xs.eraseIdx i) (us.eraseIdx i)
 |_,_,_,.nil=>.nil
 |_,_,0,.cons _ t=>t
 |_,_,i+1,.cons r t=>.cons r (Vals.eraseIdx i t)
theorem Vals.reverse(h:Vals xs us):Vals xs.reverse us.reverse:=by
 induction h with
 |nil=>exact .nil
 |cons r t ih=>rw[List.reverse_cons,List.reverse_cons];exact Vals.append ih (.cons r .nil)
theorem Vals.rep(h:Vals xs us):∀k:Nat,Vals (List.replicate k xs).flatten (List.replicate k us).flatten
 |0=>.nil
 |k+1=>by
  rw[zbc,zbc,List.flatten_cons,List.flatten_cons];exact Vals.append h (Vals.rep h k)
theorem foldl_rep(its:List Value):∀(k:Nat) (acc:List Value),
  List.foldl (λx1 x2=>x1++x2) acc.toArray (List.replicate k its.toArray)=(acc++(List.replicate k its).flatten).toArray
 |0,acc=>by simp
 |k+1,acc=>by
  have e:acc.toArray++its.toArray=(acc++its).toArray:=by simp
  have e2:(acc++its)++(List.replicate k its).flatten=acc++(List.replicate (k+1) its).flatten:=by
   rw[zbc,List.flatten_cons,zaD]
  rw[<-e2,<-foldl_rep its k (acc++its),<-e,zbc,List.foldl_cons]
section
variable{X:Cx}{pins:List (Addr×Obj)}{σ:St}{H:Hp}{s:Shared}{l b:Addr}{xs ys zs:List V}
theorem Inv.Gv{its its':List Value}(I:Inv X pins σ H s)(hH:H l=some (.lst xs))
  (e:s.heap.get? l=some {cls:=.type "list",data:=.seq its.toArray n}) (hf:f its.toArray=its'.toArray) (hv:Vals ys its') (hz:ys.length<=sizeLine) :
  Inv X pins σ (upd H l (.lst ys)) {s with heap:=s.heap.update l (Obj.mapSeq f),toks:=t'}:=by
 have q:=PySem.IsL.update e f;rw[hf]at q;refine I.write (x:=l) (e:=l) (by rw[hH];exact trivial) (.inl rfl) (λb' u hb hu=>(Heap.get?_update_other s.heap (Obj.mapSeq f) (Ne.symm hb)).trans hu) ⟨_,q⟩ ?_
 exact⟨hz,its',_,hv,q⟩
theorem Inv.Ln(I:Inv X pins σ H s)(hv:Vals ys its)(hz:ys.length<=sizeLine) :
  Inv X pins σ (upd H s.heap.objs.size (.lst ys)) {s with heap:=s.heap.push {cls:=.type "list",data:=.seq its.toArray},toks:=t'} :=
 I.laid (λ_ _ q=>zar _ q) (zap _) ⟨hz,its,0,hv,zaL _ rfl⟩
theorem Inv.fresh(I:Inv X pins σ H s):H s.heap.objs.size=none:=I.hok.fresh (zap _)
theorem Inv.DK(I:Inv X pins σ H s)(hH:H l=some (.lst xs)):xs.length<=sizeLine/\∃(its:List Value) (n:Nat),Vals xs its/\xs.length=its.length/\s.heap.get? l=some {cls:=.type "list",data:=.seq its.toArray n}:=by
 obtain⟨z,its,n,r,e⟩:=I.hok l _ hH;exact⟨z,its,n,r,r.length,e⟩
theorem DM(h:n<=sizeLine):Builtin.List.listTooLong n=false:=by
 unfold Builtin.List.listTooLong;exact zaO (by omega)
end
section
variable{X:Cx}
def oA:V->List V->Hp->VK->Prop:=λx vs H Q=>∃l xs y,x=.ref l/\vs=[y]/\H l=some (.lst xs)/\xs.length<sizeLine/\Q .non (upd H l (.lst (xs++[y])))
theorem dY:MtM X "list.append" oA:=by
 intro pins s σ H x vs v us Q I rx rv h;obtain⟨l,xs,y,rfl,rfl,hH,hz,q⟩:=h;cases rx;obtain⟨u,rfl,ru⟩:=rv.one;obtain⟨z,its,n,r,hl,e⟩:=I.DK hH;refine call_meets F.slot_list_append ⟨_,e,rfl⟩ F.entry_list_append (F.args_list_append_2 _ _) (PySem.list_append l its.toArray n u (by rw[zaK];omega)) ⟨e,?_⟩
 refine⟨.non,_,I.Gv (its':=its++[u]) hH e (by simp) (r.append (.cons ru .nil)) ?_,rfl,q⟩
 rw[zau,za7];omega
def xD:V->List V->Hp->VK->Prop:=λx vs H Q=>∃l xs,x=.ref l/\vs=[]/\H l=some (.lst xs)/\Q .non (upd H l (.lst xs.reverse))
theorem zB:MtM X "list.reverse" xD:=by
 intro pins s σ H x vs v us Q I rx rv h;obtain⟨l,xs,rfl,rfl,hH,q⟩:=h;cases rx;have hus:=rv.zero;subst hus;obtain⟨z,its,n,r,hl,e⟩:=I.DK hH;refine call_meets F.slot_list_reverse ⟨_,e,rfl⟩ F.entry_list_reverse (F.args_list_reverse_1 _) (AutoSeq1.list_reverse_list_0 l its.toArray n (by rw[zaK];omega)) ⟨e,?_⟩
 refine⟨.non,_,I.Gv (its':=its.reverse) hH e (by simp) r.reverse ?_,rfl,q⟩
 rw[List.length_reverse];omega
def DN:V->List V->Hp->VK->Prop:=λx vs H Q=>∃l xs,x=.ref l/\vs=[]/\H l=some (.lst xs)/\Q .non (upd H l (.lst []))
theorem DO:MtM X "list.clear" DN:=by
 intro pins s σ H x vs v us Q I rx rv h;obtain⟨l,xs,rfl,rfl,hH,q⟩:=h;cases rx;have hus:=rv.zero;subst hus;obtain⟨z,its,n,r,hl,e⟩:=I.DK hH;refine call_meets F.slot_list_clear ⟨_,e,rfl⟩ F.entry_list_clear (F.args_list_clear_1 _) (AutoSeq1.list_clear_list_0 l its.toArray n (by rw[zaK];omega)) ⟨e,?_⟩
 exact⟨.non,_,I.Gv (its':=[]) (ys:=[]) hH e rfl .nil (Nat.zero_le _),rfl,q⟩
def Lo:R2:=λx y H Q=>∃l k xs,x=.ref l/\y=.int k/\H l=some (.lst xs)/\-(2^63)<=k/\k<2^63/\xs.length*k.toNat<=sizeLine/\
 ∀p,H p=none->Q (.ref p) (upd H p (.lst (List.replicate k.toNat xs).flatten))
theorem len_rep{α:Type}(xs:List α)(k:Nat):(List.replicate k xs).flatten.length=k*xs.length:=by
 induction k with
 |zero=>simp
 |succ k ih=>rw[zbc,List.flatten_cons,zau,ih,Nat.succ_mul,Nat.add_comm]
theorem JS:OpR X (binaryOp .Mult) Lo:=by
 intro pins s σ H x y v u Q I rx ry h;obtain⟨l,k,xs,rfl,rfl,hH,h1,h2,hz,q⟩:=h;cases rx;obtain⟨t,rfl⟩:=ry;obtain⟨z,its,n,r,hl,e⟩:=I.DK hH;have hlen:its.toArray.size*k.toNat<=sizeLine:=by rw[zaK,<-hl];exact hz
 have hcap : ¬its.toArray.size*k.toNat>(2^63-1)/8:=by
  have:(sizeLine:Nat)<=(2^63-1)/8:=by decide
  omega
 have hfit : ¬(!Builtin.List.listFitsIndex k)=true:=by
  rw[fitsIndex_both h1 h2];exact zam
 have Lp : ¬Builtin.List.listTooLong (its.toArray.size*k.toNat)=true:=by
  rw[DM hlen];exact zam
 have hnew:List.foldl (λx1 x2=>x1++x2) #[] (List.replicate (if its.toArray.isEmpty=true then 0 else k.toNat) its.toArray)=(List.replicate k.toNat its).flatten.toArray:=by
  have f0:∀m:Nat,List.foldl (λx1 x2=>x1++x2) #[] (List.replicate m its.toArray)=(List.replicate m its).flatten.toArray:=λm=>by
   have:=foldl_rep its m [];rw[List.nil_append]at this;exact this
  rw[f0];cases its with
  |nil=>simp
  |cons a r'=>rw[if_neg (by simp)]
 refine wpAny_binaryOp_repeat_ref (T:="list") (U:="int") (by decide) ⟨_,e,rfl⟩ (λs'=>typeIs_int s' k t) noFill_list_mul F.fills_int_mul F.slot_int_rmul repeat_list F.slot_int_index.lookup
  (call_meets F.slot_int_rmul (typeIs_int s k t) F.entry_int_rmul (F.args_int_rmul_2 _ _) (int___rmul___int_list k t l its.toArray n)
   ⟨e,rfl,⟨_,e,rfl⟩,call_meets F.slot_list_mul ⟨_,e,rfl⟩ F.entry_list_mul (F.args_list_mul_2 _ _) (AutoListH.list___mul___list_int_3 l its.toArray n k t hfit hcap Lp) ⟨e,?_⟩⟩)
 rw[hnew];exact⟨.ref _,_,I.Ln (t':=s.toks) (r.rep k.toNat) (by rw[len_rep,Nat.mul_comm];exact hz),rfl,q _ I.fresh⟩
end
section
variable{prog:Program}{w:World}{A:Around}{E:Value->Shared->Prop}{s:Shared}
set_option maxRecDepth 100000 in
end
end L2
namespace Att
open PySem PySem.W PySem.Calls PyProof.Rows
theorem qL:∀(ns:List Int) (vs:List Value),WellAll P h vs (ns.map WData.int)->IntsAre vs ns:=by
 intro ns
 induction ns with
 |nil=>
  intro vs w;rw[List.map_nil]at w;cases w;exact .nil
 |cons n ns ih=>
  intro vs w;rw[zaz]at w;cases w with
  |cons a b=>
   cases a;exact .cons _ _ (ih _ b)
theorem Ck{l:OpenLaw}(hn:l.most=some n){args:List WData}{vals:List Value}
  (hpre:l.row.toRowW.claim.pre args=true) (hwl:WellAll P h vals args) :
  ∃a vs ns,vals=[Value.ref a]/\args=[WData.list (ns.map WData.int)]/\h.get? a=some {cls:=.type "list",data:=.seq vs.toArray}/\IntsAre vs ns/\ns.length<=n:=by
 have hsh:WShape.hasAll [] args [.list .int]=true:=(pre_splitW hpre).1;have hc:l.pre.holds [] {args:=args}=true:=(pre_splitW hpre).2;obtain⟨d,r,rfl,h1,h2⟩:=hasAllW_cons hsh;obtain rfl:=hasAllW_nil h2;obtain⟨xs,rfl,h3⟩:=hasW_list h1;obtain⟨ns,rfl⟩:=items_int h3;have hlen:ns.length<=n:=by
  unfold OpenLaw.pre at hc;have h4:(WTm.not (.lt (.lit (.int (n:Int))) (.len (.arg 0)))).holds [] {args:=[.list (ns.map .int)]}=true:=by
   have h4:=(holds_andW hc).1;rw[hn]at h4;exact h4
  have h5:=condW_of h4 (w_not (w_lt w_lit (w_len_list (w_arg rfl))));rw[zal]at h5;refine zba λq=>?_
  have q':(n:Int)<((ns.length:Nat):Int):=by omega
  first
   |(rw[zaH q']at h5;exact absurd h5 (by decide))
   |(simp at h5;omega)
 cases hwl with
 |cons w1 w2=>
  cases w2;cases w1 with
  |list ho hall=>exact⟨_,_,ns,rfl,rfl,ho,qL ns _ hall,hlen⟩
theorem Cm(l:OpenLaw)(args:List WData):l.row.toRowW.claim.post args (.bool true) args=true :=
 postW_of (r:=l.row.toRowW) (X:=(true==true))
  (show WShape.has [] (.bool true) .bool=true by first|rfl|decide|simp[WShape.has,WShape.arms,WShape.armsAll])
  (show(WTm.eq .res (.lit (.bool true))).value [] {args:=args,res:=some (.bool true),after:=args}=some (.bool (true==true))from w_eq_bool (w_res rfl) w_lit) rfl
end Att
namespace L2
open PySem PySem.Spec PyProof.Rows
theorem uw:∀{vs:List Value} {ns:List Int},IntsAre vs ns->Vals (ns.map V.int) vs
 |_,_,.nil=>.nil
 |_,_,.cons n t h=>.cons ⟨t,rfl⟩ (uw h)
def Only(H:Hp):Prop:=∀b,H b=none\/∃o xs,H b=some (.frz o (.lst xs))
theorem DP{K:zag}{CX:CXT}{k:Nat}{fa a:Addr}{fd:FuncData}{x:Str}{sp:Sp}{s₁:Shared}{vs:List Value}{ns:List Int}
  (KX:K.In s₁.heap) (hns:s₁.heap.Ns mainGlobals mg) (hb:s₁.heap.Ns builtinsNs mb) (hbb:∀x:Str,x≠"__name__"->mb x=bootBuiltins x) (hlim:s₁.heap.NoLimit) (hg:s₁.gens=#[])
  (ha:s₁.heap.get? a=some {cls:=.type "list",data:=.seq vs.toArray}) (hi:IntsAre vs ns) (hl:ns.length<=sizeLine) (hr:gw k callerA)
  (F:∀base:Heap,K.In base->base.Ns mainGlobals mg->l7 P w K mg base CX k fa fd [x] sp) (hbind:∀(s:Shared) (u:Value),BindsTo s fd ⟨[u],[]⟩ [(x,u)])
  (hsp:∀H:Hp,Only H->SqL K H a (ns.map V.int)->sp [.ref a] H (λv _=>v=.bl true) λ_ _ _=>False)
  (hCX:∀H e s',CX [] H s₁ (λ_ _ _=>False) e s'->False) :
  codeAny (model P w) callerA (.call (.ref fa) ⟨[.ref a],[]⟩) (λr s'=>r=.ok (.ret (.bool true))/\OldK s₁.heap s'.heap/\s'.os=s₁.os/\AllBare s'.gens) s₁:=by
 have rv:=uw hi;have lenV:=hi.length;have core:∀H:Hp,Only H->SqL K H a (ns.map V.int)->HOk P w H s₁.heap->(∀b,H b≠none->b=a)->(H a≠none->K.lookup a=none)->
   codeAny (model P w) callerA (.call (.ref fa) ⟨[.ref a],[]⟩) (λr s'=>r=.ok (.ret (.bool true))/\OldK s₁.heap s'.heap/\s'.os=s₁.os/\AllBare s'.gens) s₁:=by
  intro H hO hS hok hA hK;have AN:∀{b:Addr} {o:Obj},s₁.heap.get? b=some o->H b=none->(vo s₁.heap H).get? b=some o:=λe n=>Dt e n
  have noA:∀{b:Addr} {o:Obj} {es:Array DictEntry} {ep:Nat},s₁.heap.get? b=some o->o.data=.dict es ep->H b=none:=fun{b o es ep} e d=>by
   cases q:H b with
   |none=>rfl
   |some u=>
    have e':b=a:=hA b (by rw[q];simp)
    subst e';rw[ha]at e;cases e
    have d':Data.seq vs.toArray _=Data.dict es ep:=d;cases d'
  have nsK:∀{b:Addr} {m:Str->Option Value},s₁.heap.Ns b m->(vo s₁.heap H).Ns b m:=fun{b m} ⟨o,es,ep,e,d,r⟩=>⟨o,es,ep,AN e (noA e d),d,r⟩
  have hKb:K.In (vo s₁.heap H):=λb o e=>AN (KX b o e) (by
   cases q:H b with
   |none=>rfl
   |some u=>
    have e':b=a:=hA b (by rw[q];simp)
    subst e';rw[hK (by rw[q];simp)]at e;cases e)
  have hM:Mod K mg (vo s₁.heap H):=⟨hKb,nsK hns,⟨mb,nsK hb,hbb⟩,let⟨mc,h1,h2⟩:=hlim;⟨mc,nsK h1,h2⟩⟩
  have e0:tK P w K mg (vo s₁.heap H) callerA [] s₁ H:=⟨rfl,hM,λb o e=>Ge e,Nat.le_of_eq (B8 _ _),trivial,λb hb=>absurd (show b∈([]:List Addr)from hb) (by simp),hok,.of_eq hg⟩
  refine codeAny_mono ((F _ hKb (nsK hns)).run callerA [] s₁ H ⟨[.ref a],[]⟩ [.ref a] [.ref a] _ _ hr e0 (hbind s₁ (.ref a)) (.cons rfl .nil) (hsp H hO hS)) λr s' h=>?_
  cases r with
  |error e=>exact(hCX H e s' h).elim
  |ok fl=>
   cases fl with
   |next=>exact False.elim h
   |brk=>exact False.elim h
   |cont=>exact False.elim h
   |ret u=>
    obtain⟨v,H',os,bare,un,hok',r',q⟩:=h;have q':v=.bl true:=q;subst q';obtain rfl:u=Value.bool true:=r';refine⟨rfl,OldK.of_keep λb o e=>?_,os,bare⟩
    cases q:H b with
    |none=>exact un.keep b o e q (by intro z;exact absurd (show b∈([]:List Addr)from z) (by simp)) (by simp)
    |some u=>
     rcases hO b with z|⟨ob,xs,z⟩
     ·rw[q]at z;cases z
     ·have z2:=un.ja b ob _ z
      obtain⟨e1,_⟩:=hok b _ z;obtain⟨e2,_⟩:=hok' b _ z2;rw[e]at e1;cases e1
      exact e2
 cases hk:K.lookup a with
 |some o=>
  have e:=KX a o hk;rw[ha]at e;cases e;refine core (λ_=>none) (λ_=>.inl rfl) (.inr ⟨_,vs.toArray,_,hk,rfl,rfl,rfl,by rw[zaK,lenV];exact hl,by simpa using rv⟩) (λb u z=>by have z':(none:Option HO)=some u:=z;cases z') (λb z=>absurd rfl z) λz=>absurd rfl z
 |none=>
  refine core (λb=>if b=a then some (.frz {cls:=.type "list",data:=.seq vs.toArray} (.lst (ns.map V.int)))else none) (λb=>?_) (.inl (.inr ⟨{cls:=.type "list",data:=.seq vs.toArray},if_pos rfl⟩)) (λb u z=>?_) (λb z=>?_) λ_=>hk
  ·by_cases hb:b=a
   ·exact .inr ⟨_,_,if_pos hb⟩
   ·exact .inl (if_neg hb)
  ·by_cases hb:b=a
   ·have z':=(if_pos hb).symm.trans z
    cases z';subst hb;exact⟨ha,by rw[zal];exact hl,vs,_,rv,ha⟩
   ·have z':=(if_neg hb).symm.trans z
    cases z'
  ·by_cases hb:b=a
   ·exact hb
   ·exact absurd (if_neg hb) z
abbrev KOf{K:zag}{h:Heap}(_:K.In h):zag:=K
def jB(s:Stmt):Arguments:=match s with
 | .FunctionDef _ a _ _ _ _ _ _ _ _=>a
 |_=>{posonlyargs:=[],args:=[],vararg:=none,kwonlyargs:=[],kw_defaults:=[],kwarg:=none,defaults:=[]}
def gx(s:Stmt):List Stmt:=match s with
 | .FunctionDef _ _ b _ _ _ _ _ _ _=>b
 |_=>[]
def aV(s:Stmt):Scope:=match s with
 | .FunctionDef _ _ _ _ _ _ sc _ _ _=>sc
 |_=>{kind:=.function,names:=[],isGenerator:=false,isCoroutine:=false}
abbrev CX0:CXT:=λ_ _ _ _ _ _=>False
abbrev E0:XK:=λ_ _ _=>False
theorem Lq:Passes CX0 X E0:=λ_ _ _ _ _ _ _ h=>h.elim
structure Fun(K:zag)(x qual:Str)(st:Stmt)(f:Addr)(fd:FuncData):Prop where
 ex:∃(oc:Value) (od:Option Addr) (kV doc pm:Value) (an:Option Addr) (cdv ct:Value) (osl:Array (Option Value)),
  fd=PySem.W.fnOf x qual (jB st) (gx st) (aV st) .none kV doc pm an cdv ct/\K.lookup f=some ⟨oc,od,.func fd,osl⟩/\PySem.W.codeIn K cdv qual=true
 kp:PySem.W.keepIn K (.ref f)=true
section
variable{P:Program}{w:World}{K:zag}{mg:Str->Option Value}{base:Heap}
theorem Fun.ok{st:Stmt}{N ps:List Str}{k:Nat}{sp:Sp}(F:Fun K x qual st f fd)(S:bF N ps (aV st))(len:∀vs H Q E,sp vs H Q E->vs.length=ps.length)
  (hbody:∀(cdv:Value) (A:Around) (outer:List Env) (s:Shared) (H:Hp) (vs:List V) (Q:VK) (E:XK),gw k (A.deeper (envOfC qual (aV st) s.heap.objs.size f cdv))->sp vs H Q E->
   ∃t,PSs (pq CX0 P w K mg base N qual (aV st) f cdv A outer s H E).nox (gx st) t/\t {nx:=λ_ H'=>Q .non H',rt:=Q} (start N vs) H):l7 P w K mg base CX0 (k+1) f fd ps sp:=by
 obtain⟨oc,od,kV,doc,pm,an,cdv,ct,osl,rfl,lk,hcd⟩:=F.ex;refine eO lk hcd S len λA outer s H vs Q E hr hsp=>?_
 obtain⟨t,h,q⟩:=hbody cdv A outer s H vs Q E hr hsp;exact⟨t,h.nox,q⟩
theorem Fun.binds{st:Stmt}{ps:List Str}(F:Fun K x qual st f fd)
  (h:∀(kV doc pm:Value) (an:Option Addr) (cdv ct:Value) (us:List Value),us.length=ps.length->bindArgs (PySem.W.fnOf x qual (jB st) (gx st) (aV st) .none kV doc pm an cdv ct) ⟨us,[]⟩=pure (ps.zip us)):Binds K fd ps []:=by
 obtain⟨oc,od,kV,doc,pm,an,cdv,ct,osl,rfl,lk,hcd⟩:=F.ex;exact .all (h kV doc pm an cdv ct)
theorem JT{st:Stmt}{od an:Option Addr}{osl:Array (Option Value)}{kV doc pm cdv ct:Value}(l:K.lookup f=some ⟨oc,od,.func (PySem.W.fnOf x qual (jB st) (gx st) (aV st) .none kV doc pm an cdv ct),osl⟩)
  (c:PySem.W.codeIn K cdv qual=true) (k:PySem.W.keepIn K (.ref f)=true):Fun K x qual st f (PySem.W.fnOf x qual (jB st) (gx st) (aV st) .none kV doc pm an cdv ct):=⟨⟨oc,od,kV,doc,pm,an,cdv,ct,osl,rfl,l,c⟩,k⟩
end
section
variable{X:Cx}
theorem pv(i:Nat){pos:Pos}(hN:X.N[i]?=some x:=by rfl)(hv:Vis X.env.scope x:=by first|exact Or.inl rfl|exact Or.inr (Or.inl rfl)|exact Or.inr (Or.inr rfl))(hd:(x==("__debug__":Str))=false:=by decide)
  (hcd:(x==("__classdict__":Str))=false:=by decide):PE X (.Name x pos) (nW i):=Jv hN hv hd hcd
end
def aG(H H':Hp):Prop:=∀b o,H b=some o->H' b=some o
theorem aG.refl(H:Hp):aG H H:=λ_ _ h=>h
theorem aG.trans(a:aG H H1)(b:aG H1 H2):aG H H2:=λc o h=>b c o (a c o h)
theorem aG.free(e:aG H H')(h:H' l=Option.none):H l=Option.none:=by
 cases q:H l with
 |none=>rfl
 |some o=>
  rw[e l o q]at h;cases h
theorem aG.seq{K:zag}(e:aG H H')(h:SqL K H a xs):SqL K H' a xs:=by
 rcases h with(h|⟨o,h⟩)|h
 ·exact .inl (.inl (e _ _ h))
 ·exact .inl (.inr ⟨o,e _ _ h⟩)
 ·exact .inr h
theorem Inv.track{σ:St}{s:Shared}{D:Addr}{o:HO}(I:Inv X pins σ H s)(hn:H D=none)(hD:X.s₀.heap.objs.size<=D)(hL:D≠X.env.locals)
  (hc:∀x c,X.env.cells.lookup x=some c->c≠D) (hp:∀p∈X.pn++pins,p.1≠D) (new:cG X.prog X.w (upd H D o) s.heap D o):Inv X pins σ (upd H D o) s:=by
 have ne:∀b u,H b=some u->b≠D:=λb u e=>fY e hn
 refine⟨I.ok,I.os,I.bare,⟨I.base.keep,I.base.slot,λb ob e n hx=>?_,I.base.there,λb xs e=>?_,λb ob u e=>?_,λb ps e=>?_⟩,I.loc,I.cell,?_,λx c e=>?_,λp q=>?_,λb u e=>?_,I.len⟩
 ·have:b≠D:=zaS (zaF (zaq e) hD)
  rw[ax this];exact I.base.free b ob e n hx
 ·have z:=I.base.tups b xs e
  rw[ax (ne _ _ z)];exact z
 ·have z:=I.base.ja b ob u e
  rw[ax (ne _ _ z)];exact z
 ·obtain⟨more,z⟩:=I.base.jP b ps e
  exact⟨more,by rw[ax (ne _ _ z)];exact z⟩
 ·rw[ax (Ne.symm hL)];exact I.free
 ·rw[ax (hc x c e)];exact I.ic x c e
 ·obtain⟨h1,h2,h3⟩:=I.pin p q
  exact⟨h1,by rw[ax (hp p q)];exact h2,h3⟩
 ·by_cases hb:b=D
  ·subst hb;rw[aB]at e;cases e;exact new
  ·rw[ax hb]at e
   exact(I.hok b u e).stay (λ_ _ _ q=>q) (λc q=>by rw[ax (ne _ _ q)];exact q) λc xs q=>by rw[ax (ne _ _ q)];exact q
def l9(cells:List (Str×Addr)):List (Str×NameKind)->List (Str×Addr)->List (Str×Addr)
 | [],acc=>acc
 |(n,k)::r,acc=>l9 cells r (if(k==NameKind.free)=true then(n,(cells.lookup n).getD 0)::acc else acc)
theorem AO:∀(names:List (Str×NameKind)) (acc:List (Str×Addr)),(∀y∈names,y.2=.free->∃c,env.cells.lookup y.1=some c)->
  (forIn names acc λ(x:Str×NameKind) (r:List (Str×Addr))=>(if(x.2==NameKind.free)=true then do
    let c<-cellOf env x.1
    pure (ForInStep.yield ((x.1,c)::r))else pure (ForInStep.yield r):Sem (ForInStep (List (Str×Addr)))))=pure (l9 env.cells names acc)
 | [],acc,_=>rfl
 |(n,k)::r,acc,h=>by
  have ih:=λacc'=>AO (env:=env) r acc' λy hy=>h y (zak _ hy)
  rw[List.forIn_cons]
  by_cases hk:k=.free
  ·subst hk
   obtain⟨c,hc⟩:=h (n,.free) zas rfl;have hc':env.cells.lookup n=some c:=hc;have e:cellOf env n=pure c:=by
    unfold cellOf;rw[hc']
   show(if(NameKind.free==NameKind.free)=true then _ else _)>>=_=_
   rw[if_pos (by decide),e]
   simp only[pure_bind];rw[ih];simp only[l9,hc',Option.getD_some];rfl
  ·have hb:(k==NameKind.free)=false:=by simpa using hk
   show(if(k==NameKind.free)=true then _ else _)>>=_=_
   rw[hb,if_neg zam];simp only[pure_bind];rw[ih];simp only[l9,hb,Bool.false_eq_true,if_false]
theorem DQ(h:∀y∈scope.names,y.2=.free->∃c,env.cells.lookup y.1=some c):closureFor scope env=pure (l9 env.cells scope.names []):=by
 unfold closureFor;have e:=AO (env:=env) scope.names [] h;simp only[bind_pure];exact e
theorem AQ:∀(names:List (Str×NameKind)) (acc:List (Str×Addr)),(∀y∈names,y.2=.free->∃c,cells.lookup y.1=some c)->(∀y c,acc.lookup y=some c->cells.lookup y=some c)->
  ∀y c,(l9 cells names acc).lookup y=some c->cells.lookup y=some c
 | [],_,_,ha=>ha
 |(n,k)::r,acc,h,ha=>by
  refine AQ r _ (λy hy=>h y (zak _ hy)) λy c e=>?_
  by_cases hk:(k==NameKind.free)=true
  ·rw[if_pos hk]at e
   obtain⟨c',hc⟩:=h (n,k) zas (by simpa using hk)
   have hc':cells.lookup n=some c':=hc;rw[hc',Option.getD_some]at e;rw[za8]at e
   by_cases hy:(y==n)=true
   ·rw[hy]at e
    have:y=n:=by simpa using hy
    subst this;rw[hc'];exact e
   ·have hy':(y==n)=false:=by simpa using hy
    rw[hy']at e;exact ha y c e
  ·rw[if_neg hk]at e
   exact ha y c e
theorem vI:∀(names:List (Str×NameKind)) (acc:List (Str×Addr)) (y:Str),((y,NameKind.free)∈names\/∃c,acc.lookup y=some c)->∃c,(l9 cells names acc).lookup y=some c
 | [],acc,y,h=>by
  rcases h with h|h
  ·cases h
  ·exact h
 |(n,k)::r,acc,y,h=>by
  refine vI r _ y ?_;rcases h with h|⟨c,h⟩
  ·rcases zaf h with e|h
   ·cases e
    refine .inr ⟨(cells.lookup n).getD 0,?_⟩;rw[if_pos (by decide),za8]
    simp
   ·exact .inl h
  ·refine .inr ?_
   split
   ·rw[za8]
    cases y==n with
    |true=>exact⟨_,rfl⟩
    |false=>exact⟨c,h⟩
   ·exact⟨c,h⟩
theorem je(env : Env) : ∀(names : List (Str×NameKind)) (y : Str),
  (names.map λ(n,k)=>if(k==NameKind.free&&env.scope.kind== .function&&env.kindOf n==some .cell)then(n,NameKind.cell)else(n,k)).lookup y
   =(names.lookup y).map λk=>if(k==NameKind.free&&env.scope.kind== .function&&env.kindOf y==some .cell)=true then NameKind.cell else k
 | [],_=>rfl
 |(n,k)::r,y=>by
  have ih :=je env r y;show List.lookup y ((if(k==NameKind.free&&env.scope.kind== .function&&env.kindOf n==some .cell)=true then(n,NameKind.cell)else(n,k))::_)=_
  by_cases hy:(y==n)=true
  ·have:y=n:=by simpa using hy
   subst this
   by_cases hc:(k==NameKind.free&&env.scope.kind== .function&&env.kindOf y==some .cell)=true
   ·rw[if_pos hc];simp only[List.lookup_cons,hy,Option.map_some,hc,if_true]
   ·rw[if_neg hc];simp only[List.lookup_cons,hy,Option.map_some,hc];simp
  ·have hy':(y==n)=false:=by simpa using hy
   by_cases hc:(k==NameKind.free&&env.scope.kind== .function&&env.kindOf n==some .cell)=true
   ·rw[if_pos hc];simp only[List.lookup_cons,hy'];exact ih
   ·rw[if_neg hc];simp only[List.lookup_cons,hy'];exact ih
def cZ(X:Cx)(scope:Scope)(N':List Str)(s₂:Shared)(H₂:Hp)(C:Addr)(fp:List Addr):Cx :=
 {X with N:=N',s₀:=s₂,H₀:=H₂,env:=compEnvC scope (l9 X.env.cells scope.names []) C X.env,outer:=X.stack,ex:=fp,fn:=λ_=>false,pn:=[],xe:=λ_ _=>False}
def cM(x:Str)(fr:List (Str×Nat)):List Str:=x::fr.map (·.1)
def bQ(σ:St)(fr:List (Str×Nat)):St:=fr.map λp=>σ.getD p.2 none
structure Blk(X:Cx)(scope:Scope)(x:Str)(fr:List (Str×Nat)):Prop where
 JU:(scope.names.all λy=>y.2 != .cell)=true
 kind:scope.kind=.function
 names:(scope.names.all λy=>y.2 != .local||scope.names.lookup y.1==some .local)=true
 here:scope.names.lookup x=some .local
 free:(scope.names.all λy=>y.2 != .free||X.env.scope.names.lookup y.1==some .cell)=true
 seen:(fr.all λp=>scope.names.lookup p.1==some .free&&X.N[p.2]? ==some p.1)=true
 nd:(cM x fr).Nodup
section
variable{X:Cx}{scope:Scope}{x:Str}{fr:List (Str×Nat)}{pins:List (Addr×Obj)}{σ:St}{H:Hp}{s:Shared}
theorem Blk.cell(B:Blk X scope x fr):∀y∈scope.names,y.2≠.cell:=λy hy=>by
 have:=List.all_eq_true.mp B.JU y hy;simpa using this
theorem Blk.loc(B:Blk X scope x fr):∀y∈scope.names,y.2=.local->scope.names.lookup y.1=some .local:=λy hy e=>by
 have:=List.all_eq_true.mp B.names y hy;rw[e]at this;simpa using this
theorem Blk.frees(B:Blk X scope x fr):∀y∈scope.names,y.2=.free->X.env.kindOf y.1=some .cell:=λy hy e=>by
 have:=List.all_eq_true.mp B.free y hy;rw[e]at this;have h:X.env.scope.names.lookup y.1=some .cell:=by simpa using this
 exact h
theorem Blk.clos(B:Blk X scope x fr)(ok:X.Ok):∀y∈scope.names,y.2=.free->∃c,X.env.cells.lookup y.1=some c:=λy hy e=>ok.has y.1 (.inl (B.frees y hy e))
theorem Blk.sub(B:Blk X scope x fr)(ok:X.Ok):∀y c,(l9 X.env.cells scope.names []).lookup y=some c->X.env.cells.lookup y=some c :=
 AQ scope.names [] (B.clos ok) λy c e=>by simp at e
theorem Blk.kinds(B : Blk X scope x fr)(h : (relabel scope X.env).names.lookup y=some .cell\/(relabel scope X.env).names.lookup y=some .free) : (y,NameKind.free)∈scope.names :=by
 have e : (relabel scope X.env).names.lookup y=_ :=je X.env scope.names y;rw[e]at h;cases q:scope.names.lookup y with
 |none=>rw[q]at h;simp at h
 |some k=>
  have hm:=za5 q;rw[q]at h;have hk:k=.free:=by
   by_cases hk:k=.free
   ·exact hk
   ·have hb:(k==NameKind.free)=false:=by simpa using hk
    have hc:k≠.cell:=B.cell _ hm;rw[zaT,hb,Bool.false_and,Bool.false_and,if_neg zam]at h;rcases h with h|h
    ·exact absurd (zaQ h) hc
    ·exact zaQ h
  subst hk;exact hm
theorem Blk.sees(B : Blk X scope x fr)(hk : X.env.scope.kind= .function)(h : scope.names.lookup y=some .free) : (relabel scope X.env).names.lookup y=some .cell :=by
 have e : (relabel scope X.env).names.lookup y=_ :=je X.env scope.names y;rw[e,h];have h2:X.env.kindOf y=some .cell:=B.frees _ (za5 h) rfl;simp[hk,h2]
theorem xE(I:Inv X pins σ H s)(B:Blk X scope x fr){C:Addr}{fp:List Addr}{o:Option V}(hC:s.heap.objs.size<=C)(hfp:∀b∈fp,qK X pins H b)(hlt:∀b∈fp,b<s.heap.objs.size)
  (old:∀b ob,s.heap.get? b=some ob->h₁.get? b=some ob) (hns:h₁.Ns C λ_=>none):Inv (cZ X scope (cM x fr) s H C fp) [] (none::bQ σ fr) H {s with heap:=h₁,toks:=tk}:=by
 have neC:∀b,b<s.heap.objs.size->b≠C:=λb hb=>zaS (zaF hb hC)
 have cl:∀y c,X.env.cells.lookup y=some c->c<s.heap.objs.size:=λy c e=>by
  obtain⟨v,o,ho,_⟩:=I.cell y c e;exact zaq ho
 refine⟨⟨I.ok.mod,B.kind,I.ok.glob,I.ok.blt,hC,λy z c h1 h2=>I.ok.inj y z c (B.sub I.ok _ _ h1) (B.sub I.ok _ _ h2),λy hy=>vI _ _ _ (.inl (B.kinds hy)),λy c h _=>(zam h).elim,I.ok.hd,I.ok.frames,.inl rfl,
  λb hb=>⟨neC b (hlt b hb),λy c e=>(hfp b hb).2.2.2.2.1 y c (B.sub I.ok _ _ e)⟩,I.bs,zaX I.ok.bsz I.sz,λb ob e hb=>?_,λb hb hs=>?_,I.stack,I.qT⟩,
  rfl,I.bare,Un.kept old,⟨_,hns,λi y v h1 h2 h3=>?_⟩,λy c e=>?_,I.hok.fresh hC,λy c e=>I.ic y c (B.sub I.ok _ _ e),λp hp=>?_,I.hok.kept old,?_⟩
 ·rcases(hfp b hb).2.2.2.1 with z|z
  ·exact I.ok.zp b ob e z
  ·have h1:b<X.base.objs.size:=zaq e
   have h2:=I.ok.bsz;exact absurd (zaF h1 h2) (Nat.not_lt.mpr z)
 ·have z:=I.zq b hs
  rcases zaf z with z|z
  ·exact(hfp b hb).2.1 z
  ·exact(hfp b hb).2.2.1 z
 ·cases i with
  |zero=>simp at h2
  |succ i=>
   have h1':(fr.map (·.1))[i]?=some y:=by
    have z:(x::fr.map (·.1))[i+1]?=some y:=h1
    rw[zat]at z;exact z
   have h2':(bQ σ fr)[i]?=some (some v):=by simpa using h2
   rw[zao]at h1';unfold bQ at h2';rw[zao]at h2';cases e:fr[i]? with
   |none=>rw[e]at h1';cases h1'
   |some p=>
    rw[e]at h1' h2';have e1:p.1=y:=by simpa using h1'
    have e2 : σ.getD p.2 none=some v:=by simpa using h2'
    have hs:=List.all_eq_true.mp B.seen p (zaj e);rw[Bool.and_eq_true]at hs;have hs1:scope.names.lookup p.1=some .free:=by simpa using hs.1
    have hs2:X.N[p.2]?=some p.1:=by simpa using hs.2
    rw[e1]at hs1 hs2;have hk:X.env.kindOf y=some .cell:=B.frees _ (za5 hs1) rfl;have e3 : σ[p.2]?=some (some v):=by
     rw[List.getD_eq_getElem?_getD]at e2;cases q : σ[p.2]? with
     |none=>rw[q]at e2;simp at e2
     |some z=>rw[q]at e2;simp at e2;rw[e2]
    obtain⟨m,hn,hl⟩:=I.loc;obtain⟨u,r,l⟩:=hl p.2 y v hs2 e3 (.inr (.inl hk));refine⟨u,r,.inr ⟨.inl (B.sees I.ok.kind hs1),?_⟩⟩;rcases l with⟨z,_⟩|⟨_,c,ec,z⟩
    ·rw[hk]at z;cases z
    ·obtain⟨c',hc'⟩:=vI (cells:=X.env.cells) scope.names [] y (.inl (za5 hs1))
     have:=B.sub I.ok _ _ hc';rw[ec]at this;cases this;obtain⟨ob,ho,hd⟩:=z;exact⟨c,hc',ob,old _ _ ho,hd⟩
 ·obtain⟨v,ob,ho,hd⟩:=I.cell y c (B.sub I.ok _ _ e)
  exact⟨v,ob,old _ _ ho,hd⟩
 ·exact absurd (show p∈([]:List (Addr×Obj))from hp) (by simp)
 ·show _=(cM x fr).length
  simp[cM,bQ]
end
def PIf(X:Cx)(ifs:List Expr)(t:TT):Prop :=
 ∀(pins:List (Addr×Obj)) (s:Shared) (σ:St) (H:Hp) (Q:Bool->Hp->Prop),Inv X pins σ H s->t σ H Q->
  wpAny (model X.prog X.w) X.A (forIn ifs true λc r=>if r=true then do let ok<-isTrue c X.env (eval c X.env);pure (ForInStep.yield ok)else pure (ForInStep.yield r)) (TP X pins σ Q) X.xe s
def Gw:TT:=λ_ H Q=>Q true H
theorem vJ:PIf X [] Gw:=λ_ _ _ H _ I h=>wpAny_tests_nil ⟨H,I,h⟩
theorem oB(h:PT X c t):PIf X [c] t:=λpins s σ H Q I hw=>wpAny_tests_one (h pins s σ H Q I hw)
def tLC(fr:List (Str×Nat))(wi:TI)(tc:TT)(te:TE):TE:=fun σ H Q=>wi σ H λJ H1=>∃W:Nat->Nat->List V->Hp->Prop,(∃m,W 0 m [] H1)/\∀i m ys H2,W i m ys H2->ys.length<sizeLine/\
 ((J.stop i H2/\∀D,H2 D=none->Q (.ref D) (upd H2 D (.lst ys)))\/
  (J.go i H2/\∀v H3,J.yld i H2 v H3->tc (some v::bQ σ fr) H3 λb H4=>
   if b=true then te (some v::bQ σ fr) H4 λy H5=>∃m',m'<m/\W (i+1) m' (ys++[y]) H5 else∃m',m'<m/\W (i+1) m' ys H4))
section
variable{X:Cx}
theorem xF(h:wpAny M A t Q (λ_ _=>False) s):wpAny M A t Q E s:=za6 h (λ_ _ x=>x) λ_ _ x=>x.elim
theorem ux(J:Nat->Shared->Prop)
  (turn:∀n s,J n s->wpAny (model prog w) A (pyNext it) (λr s₁=>match r with
   |none=>R (.ok .next) s₁
   |some v=>wpAny (model prog w) A (letOwnedTupleGo target it v) (λ_ s₂=>wpAny (model prog w) A (assign target env v) (λ_ s₃=>
     wpAny (model prog w) A (forIn ifs true λc r=>if r=true then do let ok<-isTrue c env (eval c env);pure (ForInStep.yield ok)else pure (ForInStep.yield r)) (λok s₄=>
      if ok=true then wpAny (model prog w) A (eval elt env) (λy s₅=>
       wpAny (model prog w) A (call (.builtin "list.append") [acc,y]) (λ_ s₆=>∃m,m<n/\J m s₆) (λ_ _=>False) s₅) (λ_ _=>False) s₄
      else∃m,m<n/\J m s₄) (λ_ _=>False) s₃) (λ_ _=>False) s₂) (λ_ _=>False) s₁) (λ_ _=>False) s)
  (n:Nat) (h:J n s):codeAny (model prog w) A (.compLoop (.ListComp elt [⟨target,iter,ifs,0⟩] scope pos) 0 it acc env) R s:=by
 refine codeAny_loop rfl J (λk s' hJ=>?_) n h
 show wpAny (model prog w) A ((compTurn (.ListComp elt [⟨target,iter,ifs,0⟩] scope pos) 0 it acc env).onRaise (λx=>do noteFrame x env;theTreesLotGoes x)) _ _ s'
 refine wpAny_noted ?_;rw[compTurn_list];refine zaI (wpAny_standAt (zaI (za6 (turn k s' hJ) (λr s₁ h₁=>?_) λ_ _ z=>z.elim)))
 cases r with
 |none=>exact zaZ h₁
 |some v=>
  refine zaI (za6 h₁ (λ_ s₂ h₂=>zaI (za6 h₂ (λ_ s₃ h₃=>zaI (za6 h₃ (λok s₄ h₄=>?_) λ_ _ z=>z.elim)) λ_ _ z=>z.elim)) λ_ _ z=>z.elim)
  cases ok with
  |false=>exact zaZ ⟨rfl,h₄⟩
  |true=>
   exact zaI (zaI (za6 h₄ (λy s₅ h₅=>zaI (za6 h₅ (λ_ s₆ h₆=>zaZ (zaZ ⟨rfl,h₆⟩)) λ_ _ z=>z.elim)) λ_ _ z=>z.elim))
theorem xG(hc:X.calm=true)(B:Blk X scope x fr)
  (hi:PI X (.Name x px) iter wi) (ht:∀s₂ H₂ C fp,PIf (cZ X scope (cM x fr) s₂ H₂ C fp) ifs tc) (he:∀s₂ H₂ C fp,PE (cZ X scope (cM x fr) s₂ H₂ C fp) elt te)
  (hs:∀v,foldedSetIterable iter X.env v=pure v:=by intro _;rfl):PE X (.ListComp elt [⟨.Name x px,iter,ifs,0⟩] scope pos) (tLC fr wi tc te):=by
 intro pins s σ H Q I h;rw[eval_ListComp];have hclos:=DQ (scope:=scope) (env:=X.env) (B.clos I.ok);refine wpAny_comprehension_free (use:=none) rfl hs hclos B.kind B.loc (thn (hi pins s σ H _ I h) λv s1 h1=>thn h1 λitv s2 h2=>?_)
 obtain⟨it,fp,tn,J,H2,rfl,I2,T,st2,f2,W,⟨m0,w0⟩,turn⟩:=h2;refine wpAny_newObj_type (wpAny_newFunctionEnv B.cell (by intro y hy;simp at hy) (λh₁ hns hsb=>?_) B.kind)
 dsimp only at hns hsb⊢;generalize hG:s2.heap.push {cls:=.type "list",dict:=none,data:=.seq ([]:List Value).toArray}=G at hns hsb⊢;have hC:G.objs.size=s2.heap.objs.size+1:=by rw[<-hG,Heap.size_push]
 have hDC:s2.heap.objs.size≠G.objs.size:=by omega
 have old:∀b ob,s2.heap.get? b=some ob->h₁.get? b=some ob:=λb ob e=>by
  have hb:=zaq e;refine hsb.extBut b ob (zaS (by rw[hC];exact Nat.lt_succ_of_lt hb)) (zar _ ?_)
  rw[<-hG];exact zar _ e
 have hacc:h₁.get? s2.heap.objs.size=some {cls:=.type "list",data:=.seq ([]:List Value).toArray 0}:=by
  refine hsb.extBut _ _ hDC (zar _ ?_);rw[<-hG];exact zaL _ rfl
 have hlt:∀b∈fp,b<s2.heap.objs.size:=λb hb=>by
  obtain⟨o,e,_⟩:=T.obj 0 _ st2 b hb;exact zaq e
 have I4:=xE (tk:=s2.toks+([]:List (Str×Value)).length) (o:=none) I2 B (show s2.heap.objs.size<=G.objs.size by omega) f2 hlt old hns
 have tn4:tn 0 h₁:=T.keep 0 _ _ st2 λb _ o e=>old b o e
 have Dfs:s2.heap.objs.size∉frs X.stack:=λz=>by
  obtain⟨_,o,ho,_⟩:=I2.stack.mem z;exact absurd (zaq ho) (za3 _)
 have Dcl:∀y c,X.env.cells.lookup y=some c->c≠s2.heap.objs.size:=λy c e=>by
  obtain⟨v,o,ho,_⟩:=I2.cell y c e;exact zaS (zaq ho)
 have DL:s2.heap.objs.size≠X.env.locals:=Nat.ne_of_gt I2.lt;have Dfp:s2.heap.objs.size∉fp:=λz=>absurd (hlt _ z) (za3 _)
 have loop:∀s₃:Shared,s₃={s2 with heap:=h₁,toks:=s2.toks+([]:List (Str×Value)).length}->
   codeAny (model X.prog X.w) X.A (.compLoop (.ListComp elt [⟨.Name x px,iter,ifs,0⟩] scope pos) 0 (.ref it) (.ref s2.heap.objs.size) (compEnvC scope (l9 X.env.cells scope.names []) G.objs.size X.env))
    (compPost (model X.prog X.w) X.A X.xe none (EP X pins σ Q) (.ref s2.heap.objs.size) G.objs.size) s₃:=by
  rintro s₃ rfl
  refine ux
   (λn s'=>∃i o H' ys its k,Inv (cZ X scope (cM x fr) s2 H2 G.objs.size fp) [] (o::bQ σ fr) H' s'/\tn i s'.heap/\(∀b∈fp,H' b=none)/\H' s2.heap.objs.size=none/\
    s'.heap.get? s2.heap.objs.size=some {cls:=.type "list",data:=.seq (its:List Value).toArray k}/\Vals ys its/\W i n ys H') ?_ m0
   ⟨0,none,H2,[],[],0,I4,tn4,λb hb=>(f2 b hb).1,I2.hok.fresh (zap _),hacc,.nil,w0⟩
  rintro n s5 ⟨i,o,H5,ys,its,k,I5,st5,fr5,D5,hD5,r5,w5⟩
  have fok:∀{H':Hp},(∀b∈fp,H' b=none)->∀b∈fp,qK (cZ X scope (cM x fr) s2 H2 G.objs.size fp) [] H' b:=λhn b hb=>
   ⟨hn b hb,(I5.ok.exf b hb).1,I5.ok.xp b hb,.inl hb,(I5.ok.exf b hb).2,λp hp=>absurd (show p∈([]:List (Addr×Obj))from hp) (by simp)⟩
  have dok:∀{H':Hp},H' s2.heap.objs.size=none->qK (cZ X scope (cM x fr) s2 H2 G.objs.size fp) [] H' s2.heap.objs.size:=λhn=>
   ⟨hn,hDC,Dfs,.inr (zap _),λy c e=>Dcl y c (B.sub I2.ok _ _ e),λp hp=>absurd (show p∈([]:List (Addr×Obj))from hp) (by simp)⟩
  obtain⟨hz,alt⟩:=turn i n ys H5 w5;have hzl:its.length<=sizeLine:=by rw[<-r5.length];exact Nat.le_of_lt hz
  rcases alt with⟨stop,fin⟩|⟨go,step⟩
  ·refine thn (T.done (cZ X scope (cM x fr) s2 H2 G.objs.size fp) rfl rfl rfl hc i (gv [s2.heap.objs.size] s5.heap) s5 (o::bQ σ fr) H5 _ ?_ (λb hb=>?_) st5 stop) λr s6 ⟨hr,I6⟩=>?_
   ·exact(Inv.pinned I5 (fp:=[s2.heap.objs.size]) (λb hb=>by rw[zad hb];exact dok D5) λb hb=>by
     rw[zad hb];exact⟨_,hD5,λv z=>by cases z⟩)
   ·obtain⟨f0,f1,f2',f3,f4,f5⟩:=fok fr5 b hb
    refine⟨f0,f1,f2',f3,f4,λp hp=>?_⟩
    have hp':p∈gv [s2.heap.objs.size] s5.heap:=(zae hp).elim (λz=>absurd (show p∈([]:List (Addr×Obj))from z) (by simp)) id
    have:=(j9 hp').1;rw[zad this];exact λe=>Dfp (by rw[e];exact hb)
   ·subst hr
    have hD6:=(I6.pin (s2.heap.objs.size,{cls:=.type "list",data:=.seq its.toArray k}) (zan _ (cO (by simp) hD5))).1
    obtain⟨m6,hn6,_⟩:=I6.loc;refine⟨m6,hn6,λh' hs'=>?_⟩
    have hCn:s2.heap.get? G.objs.size=none:=by
     cases e:s2.heap.get? G.objs.size with
     |none=>rfl
     |some ob=>exact absurd (zaq e) (by rw[hC];exact Nat.not_lt.mpr (Nat.le_succ _))
    have neC:∀b ob,s2.heap.get? b=some ob->b≠G.objs.size:=λb ob e z=>by rw[z,hCn]at e;cases e
    have u6:Un (frs X.stack) fp H2 H5 s2.heap s6.heap:=I6.base;have u7:Un (frs X.stack) fp H2 H5 s2.heap h':=⟨λb ob e n hb hx=>hs'.extBut b ob (neC b ob e) (u6.keep b ob e n hb hx),λb ob e n hb hx=>by
      obtain⟨sl,q⟩:=u6.slot b ob e n hb hx;exact⟨sl,hs'.extBut b _ (neC b ob e) q⟩,u6.free,λb ob e hx=>by
      obtain⟨o',q⟩:=u6.there b ob e hx;exact⟨o',hs'.extBut b _ (neC b ob e) q⟩,u6.tups,u6.ja,u6.jP⟩
    have hC5:H5 G.objs.size=none:=I6.free;have M0:HOk X.prog X.w H5 h':=λb ob e=>(I6.hok b ob e).stay (λc u hc q=>hs'.extBut c u (by
      rintro rfl
      rcases hc with rfl|hc
      ·rw[hC5]at e;cases e
      ·rw[hC5]at hc;cases hc) q) (λ_ q=>q) λ_ _ q=>q
    have I7:Inv X pins σ H5 {s6 with heap:=h'}:=I2.call' (s':={s6 with heap:=h'}) (I6.os) u7 M0 I6.bare λb hb=>⟨(f2 b hb).2.2.2.1,(f2 b hb).2.1,(f2 b hb).2.2.2.2.1,(f2 b hb).2.2.2.2.2⟩
    refine⟨.ref s2.heap.objs.size,upd H5 s2.heap.objs.size (.lst ys),I7.track D5 I2.sz DL Dcl (λp hp z=>?_) ?_,rfl,fin _ D5⟩
    ·obtain⟨e,_⟩:=I2.pin p hp
     rw[z]at e;exact absurd (zaq e) (za3 _)
    ·exact⟨Nat.le_of_lt hz,its,k,r5,hs'.extBut _ _ hDC hD6⟩
  ·refine xF (thn (T.item (cZ X scope (cM x fr) s2 H2 G.objs.size fp) rfl rfl rfl hc i (gv [s2.heap.objs.size] s5.heap) s5 (o::bQ σ fr) H5 _ ?_ (λb hb=>?_) st5 go) λr s6 ⟨u,hr,h6⟩=>?_)
   ·exact(Inv.pinned I5 (fp:=[s2.heap.objs.size]) (λb hb=>by rw[zad hb];exact dok D5) λb hb=>by
     rw[zad hb];exact⟨_,hD5,λv z=>by cases z⟩)
   ·obtain⟨f0,f1,f2',f3,f4,f5⟩:=fok fr5 b hb
    refine⟨f0,f1,f2',f3,f4,λp hp=>?_⟩
    have hp':p∈gv [s2.heap.objs.size] s5.heap:=(zae hp).elim (λz=>absurd (show p∈([]:List (Addr×Obj))from z) (by simp)) id
    have:=(j9 hp').1;rw[zad this];exact λe=>Dfp (by rw[e];exact hb)
   ·subst hr
    refine thn h6 λ_ s7 ⟨v,H7,I7,rv,y7,st7,fr7⟩=>?_
    have p7:=I7.pin (s2.heap.objs.size,{cls:=.type "list",data:=.seq its.toArray k}) (zan _ (cO (by simp) hD5))
    have hD7:s7.heap.get? s2.heap.objs.size=some {cls:=.type "list",data:=.seq its.toArray k}:=p7.1;have D7:H7 s2.heap.objs.size=none:=p7.2.1;have I7u:Inv (cZ X scope (cM x fr) s2 H2 G.objs.size fp) [] (o::bQ σ fr) H7 s7:=Inv.fN (pins:=[]) I7;have I8:=Inv.pinned I7u (fp:=s2.heap.objs.size::fp) (λb hb=>by
      rcases zaf hb with e|hb
      ·rw[e];exact dok D7
      ·exact fok fr7 b hb) λb hb=>by
      rcases zaf hb with e|hb
      ·rw[e];exact⟨_,hD7,λv z=>by cases z⟩
      ·exact T.obj _ _ st7 b hb
    have hl : Loc (cZ X scope (cM x fr) s2 H2 G.objs.size fp).env.scope x := .inl (lookup_relabel_local B.here);have pk:∀{σ':St} {H':Hp} {s':Shared},Inv (cZ X scope (cM x fr) s2 H2 G.objs.size fp) ([]++gv (s2.heap.objs.size::fp) s7.heap) σ' H' s'->
      tn (i+1) s'.heap/\(∀b∈fp,H' b=none)/\H' s2.heap.objs.size=none/\s'.heap.get? s2.heap.objs.size=some {cls:=.type "list",data:=.seq its.toArray k}:=fun{σ' H' s'} I'=>by
     have pD:=I'.pin (s2.heap.objs.size,{cls:=.type "list",data:=.seq its.toArray k}) (zan _ (zan _ (cO (by simp) hD7)))
     refine⟨T.keep _ _ _ st7 λb hb ob e=>(I'.pin (b,ob) (zan _ (zan _ (cO (zak _ hb) e)))).1,λb hb=>?_,pD.2.1,pD.1⟩
     obtain⟨ob,e,_⟩:=T.obj _ _ st7 b hb;exact(I'.pin (b,ob) (zan _ (zan _ (cO (zak _ hb) e)))).2.1
    refine xF (thn (bh (X :=cZ X scope (cM x fr) s2 H2 G.objs.size fp) (i :=0) B.nd rfl hl (.inr (lookup_relabel_local B.here)) _ s7 _ H7 v u (fun σ' H'=>σ'=some v :: bQ σ fr/\H'=H7) I8 rv ⟨rfl,rfl⟩) λ_ s8 ⟨σ8,H8,I9,e1,e2⟩=> ?_)
    subst e1 e2;refine xF (thn (ht s2 H2 G.objs.size fp _ s8 _ H8 _ I9 (step v H8 y7)) λok s9 ⟨H9,I10,q10⟩=>?_)
    cases ok with
    |false=>
     rw[if_neg zam]at q10;rw[if_neg zam];obtain⟨m',hm,w'⟩:=q10;obtain⟨k1,k2,k3,k4⟩:=pk I10;exact⟨m',hm,i+1,some v,H9,ys,its,k,Inv.fN (pins:=[]) I10,k1,k2,k3,k4,r5,w'⟩
    |true=>
     rw[if_pos rfl]at q10;rw[if_pos rfl];refine xF (thn (he s2 H2 G.objs.size fp _ s9 _ H9 _ I10 q10) λy' s10 ⟨y,H10,I11,ry,m',hm,w'⟩=>?_)
     obtain⟨k1,k2,k3,k4⟩:=pk I11;refine append_at k4 (λh' hs' hD'=>?_) (by rw[zaK];exact hzl)
     have I12:Inv (cZ X scope (cM x fr) s2 H2 G.objs.size fp) [] (some v::bQ σ fr) H10 {s10 with heap:=h'} :=
      (Inv.fN (pins:=[]) I11).turned (t':=s10.toks) (it:=s2.heap.objs.size) (λb ob hb e=>(hs'.2 b hb).trans e) k3 hDC (.inr (zap _)) (λz c e=>Dcl z c (B.sub I2.ok _ _ e)) λp hp=>absurd (show p∈([]:List (Addr×Obj))from hp) (by simp)
     refine⟨m',hm,i+1,some v,H10,ys++[y],its++[y'],k+1,I12,T.keep _ _ _ k1 λb hb ob e=>(hs'.2 b λz=>Dfp (by rw[<-z];exact hb)).trans e,k2,k3,?_,r5.append (.cons ry .nil),w'⟩
     rw[hD'];simp
 exact codeAny_compStart_list (loop _ rfl) (T.self _ 0 _ _ _ tn4 (loop _ rfl))
end
def tyN(H:Hp):V->String
 | .non=>"NoneType"
 | .bl _=>"bool"
 | .int _=>"int"
 | .str _=>"str"
 | .ref a=>match H a with
  |some (.lst _)=>"list"
  |some (.tup _)=>"tuple"
  |some (.dK _)=>"dict"
  |some (.frz _ (.lst _))=>"list"
  |_=>"?"
 |_=>"?"
def oD(T n:String):Bool:=T==n||(T=="bool"&&n=="int")
def de:List String:=["NoneType","bool","int","str","list","tuple","dict"]
def dR:List String:=["bool","int","str","list","tuple","dict"]
theorem uy(K:zag):∀T∈de,∀n∈dR,PySem.W.kitOne K (.type T) (.type n)=some (oD T n):=by
 intro T hT n hn;simp only[de,dR,List.mem_cons,List.not_mem_nil,or_false]at hT hn;rcases hT with rfl|rfl|rfl|rfl|rfl|rfl|rfl<;>rcases hn with rfl|rfl|rfl|rfl|rfl|rfl<;>kernel_rfl
theorem JV{K:zag}(h:tyN H x∈de):pj K H x (.type (tyN H x)):=by
 have no : ¬("?"∈de):=by decide
 cases x with
 |non=>exact .non
 |bl b=>exact .bl b
 |int i=>exact .int i
 |str z=>exact .str z
 |ref a=>
  unfold tyN at h⊢;dsimp only at h⊢;cases e:H a with
  |none=>rw[e]at h;exact absurd h no
  |some o=>
   rw[e]at h;cases o with
   |lst xs=>exact .lst e
   |tup xs=>exact .tup e
   |dK kvs=>exact .dK e
   |frz ob u=>
    cases u with
    |lst xs=>exact .frz e
    |_=>exact absurd h no
   |_=>exact absurd h no
 |_=>exact absurd h no
def JW(xs:List V)(H:Hp)(Q:VK):Prop:=∃x n,xs=[x,.ty n]/\tyN H x∈de/\n∈dR/\Q (.bl (oD (tyN H x) n)) H
section
variable{X:Cx}
theorem gy:eG X (.builtin "isinstance") JW:=by
 intro pins s σ H xs us Q I r h;obtain⟨x,n,rfl,h1,h2,q⟩:=h;obtain⟨u,v,rfl,ru,rv⟩:=vals2 r;cases rv;exact Cg I ru (JV h1) (uy X.K _ h1 _ h2) λtk=>⟨.bl _,H,I.tok tk,rfl,q⟩
mutual
inductive jf(K:zag)(H:Hp):V->PyData->Prop
 |non:jf K H .non .none
 |bl (b:Bool):jf K H (.bl b) (.bool b)
 |int (i:Int):jf K H (.int i) (.int i)
 |str (x:Str):jf K H (.str x) (.str x)
 |lst {a:Addr} {xs:List V} {ds:List PyData}:SqL K H a xs->jg K H xs ds->jf K H (.ref a) (.list ds)
 |tup {a:Addr} {xs:List V} {ds:List PyData}:SqT K H a xs->jg K H xs ds->jf K H (.ref a) (.tuple ds)
inductive jg(K:zag)(H:Hp):List V->List PyData->Prop
 |nil:jg K H [] []
 |cons {x:V} {xs:List V} {d:PyData} {ds:List PyData}:jf K H x d->jg K H xs ds->jg K H (x::xs) (d::ds)
end
mutual
theorem jf.reads{σ:St}(I:Inv X pins σ H s):∀{x:V} {d:PyData},jf X.K H x d->∀{u:Value},RelV x u->∃as,Reads s.heap u d as
 |_,_,.non,_,r=>by cases r;exact⟨_,.none⟩
 |_,_,.bl b,_,r=>by cases r;exact⟨_,.bool b⟩
 |_,_,.int i,_,r=>by obtain⟨t,rfl⟩:=r;exact⟨_,.int i t⟩
 |_,_,.str z,_,r=>by obtain⟨t,rfl⟩:=r;exact⟨_,.str z t⟩
 |_,_,.lst hq hd,_,r=>by
  cases r;obtain⟨its,rv,pl,_⟩:=I.list hq;obtain⟨as,ha⟩:=jg.reads I hd rv;obtain⟨o,n,e,c,_,d⟩:=pl;exact⟨_,.list e c d ha⟩
 |_,_,.tup hq hd,_,r=>by
  cases r;obtain⟨its,rv,pl,_⟩:=I.tuple hq;obtain⟨as,ha⟩:=jg.reads I hd rv;obtain⟨o,e,c,n,d⟩:=pl;exact⟨_,.tuple e c d ha⟩
theorem jg.reads{σ:St}(I:Inv X pins σ H s):∀{xs:List V} {ds:List PyData},jg X.K H xs ds->∀{us:List Value},Vals xs us->∃as,ReadsAll s.heap us ds as
 |_,_,.nil,_,r=>by cases r;exact⟨_,.nil⟩
 |_,_,.cons h t,_,r=>by
  cases r with
  |cons r1 r2=>
   obtain⟨as,ha⟩:=jf.reads I h r1;obtain⟨bs,hb⟩:=jg.reads I t r2;exact⟨_,.cons ha hb⟩
end
def JX(K:zag):R2:=λx y H Q=>∃da db,jf K H x da/\jf K H y db/\SeqAt.shaped da=true/\SeqAt.shaped db=true/\Q (.bl (PyData.eqv da db)) H
def JY(K:zag):R2:=λx y H Q=>∃da db,jf K H x da/\jf K H y db/\SeqAt.shaped da=true/\SeqAt.shaped db=true/\Q (.bl (!PyData.eqv da db)) H
theorem JZ(hu:X.A.units+64<cLine):OpR X (compareOp .Eq) (JX X.K):=by
 intro pins s σ H x y v u Q I rx ry h;obtain⟨da,db,ha,hb,sa,sb,q⟩:=h;obtain⟨as,ra⟩:=ha.reads I rx;obtain⟨bs,rb⟩:=hb.reads I ry;exact eq_dataH ra rb sa sb hu ⟨.bl _,H,I,rfl,q⟩
theorem J0(hu:X.A.units+64<cLine):OpR X (compareOp .NotEq) (JY X.K):=by
 intro pins s σ H x y v u Q I rx ry h;obtain⟨da,db,ha,hb,sa,sb,q⟩:=h;obtain⟨as,ra⟩:=ha.reads I rx;obtain⟨bs,rb⟩:=hb.reads I ry;exact ne_dataH ra rb sa sb hu ⟨.bl _,H,I,rfl,q⟩
theorem Gx:OpR X (binaryOp .Mult) (rI IntMulOk λi j=>.int (i*j)):=opI λ_ _ _ _ _ _ _ hc q=>mul_int q hc
def J1(K:zag)(xs:List V)(H:Hp)(Q:VK):Prop:=(∃p ys,xs=[.ref p]/\(SqL K H p ys\/SqT K H p ys)/\Q (.int ys.length) H)\/(∃z,xs=[.str z]/\z.length<=sizeLine/\Q (.int z.length) H)
theorem Cn:eG X (.builtin "len") (J1 X.K):=vF.or vG
end
structure Top(K:zag)(mg:Str->Option Value)(x:Str)(st:Stmt):Prop where
 ex:∃(f:Addr) (fd:FuncData),Fun K x x st f fd/\mg x=some (.ref f)
structure Def(P:Program)(w:World)(K:zag)(mg:Str->Option Value)(base:Heap)(CX:CXT)(k:Nat)(x:Str)(ps:List Str)(sp:Sp):Prop where
 ex:∃(f:Addr) (fd:FuncData),l7 P w K mg base CX k f fd ps sp/\mg x=some (.ref f)/\PySem.W.keepIn K (.ref f)=true/\Binds K fd ps []
section
variable{P:Program}{w:World}{K:zag}{mg:Str->Option Value}{base:Heap}
theorem Top.mk'{st:Stmt}{oc:Value}{od an:Option Addr}{osl:Array (Option Value)}{kV doc pm cdv ct:Value}(X:K.In h)(G:h.Ns mainGlobals mg)(a:PySem.W.nsIn K mainGlobals x=some (some (.ref f)))
  (l:K.lookup f=some ⟨oc,od,.func (PySem.W.fnOf x x (jB st) (gx st) (aV st) .none kV doc pm an cdv ct),osl⟩) (c:PySem.W.codeIn K cdv x=true) (k:PySem.W.keepIn K (.ref f)=true):Top K mg x st :=
 ⟨⟨f,_,JT l c k,PySem.W.mg_of X G a⟩⟩
theorem Top.def{st:Stmt}{sp:Sp}(T:Top K mg x st)(S:bF N ps (aV st))(len:∀vs H Q E,sp vs H Q E->vs.length=ps.length)
  (hb:∀(kV doc pm:Value) (an:Option Addr) (cdv ct:Value) (us:List Value),us.length=ps.length->bindArgs (PySem.W.fnOf x x (jB st) (gx st) (aV st) .none kV doc pm an cdv ct) ⟨us,[]⟩=pure (ps.zip us))
  (hbody:∀(f:Addr) (cdv:Value) (A:Around) (outer:List Env) (s:Shared) (H:Hp) (vs:List V) (Q:VK) (E:XK),gw k (A.deeper (envOfC x (aV st) s.heap.objs.size f cdv))->sp vs H Q E->
   ∃t,PSs (pq CX0 P w K mg base N x (aV st) f cdv A outer s H E).nox (gx st) t/\t {nx:=λ_ H'=>Q .non H',rt:=Q} (start N vs) H):Def P w K mg base CX0 (k+1) x ps sp:=by
 obtain⟨f,fd,F,m⟩:=T.ex;exact⟨⟨f,fd,F.ok S len (hbody f),m,F.kp,F.binds hb⟩⟩
theorem bB{sp:Sp}{p pos:Pos}{e:Expr}{es:List Expr}{t:TA}(D:Def X.prog X.w X.K X.mg X.base CX0 k x ps sp)(hr:gw k X.A)(ha:PA X (e::es) t)(hg:Gl X x:=by rfl)
  (hdb:(x==("__debug__":Str))=false:=by decide) (he:starEach (e::es) X.env=(false,eval e X.env)::starEach es X.env:=by rfl) (hpl:(backTo pos (starEach es X.env)).any (·.1)=false:=by rfl) :
  PE X (.Call (.Name x p) (e::es) [] pos) (jc sp [] E0 t):=by
 obtain⟨f,fd,F,m,kp,b⟩:=D.ex;exact AJ F hr hg m kp b .nil Lq ha hdb he hpl
end
open PySem.W in
theorem qo:∀(ns:List Int) (n:Int),n∈ns->Builtin.Int.intBits n<=WData.weightAll (ns.map WData.int)
 |m::r,n,h=>by
  rw[zaz];have e:WData.weightAll (WData.int m::r.map WData.int)=WData.weight (.int m)+1+WData.weightAll (r.map WData.int):=by simp only[WData.weightAll]
  rw[e];rcases zaf h with rfl|h
  ·have:Builtin.Int.intBits n=WData.weight (.int n):=by simp only[WData.weight,Builtin.Int.intBits]
   omega
  ·have:=qo r n h
   omega
open PySem.W in
theorem xH{ns:List Int}(h:WData.layableAll [WData.list (ns.map WData.int)]=true):∀n∈ns,Builtin.Int.intBits n<=1048576:=λn hn=>by
 have h1:(WData.list (ns.map WData.int)).layable=true:=PySem.W.layableW_arg h _ (by simp)
 have h2:=(PySem.W.layableW_iff.mp h1).2.2;have h3:WData.weight (.list (ns.map WData.int))=WData.weightAll (ns.map WData.int):=by simp only[WData.weight]
 have h4:=qo ns n hn;have h5:(2:Nat)^20=1048576:=by decide
 omega
open PySem.W PySem.Calls in
theorem Gy{l:OpenLaw}{XP:(Str->Option Value)->Heap->Prop}{YP:World->Heap->Prop}{d:DefRec}
  (hn:l.most=some n) (hdf:d.params.defaults=[])
  (call:∀(w:World) (s₀ s₁:Shared) (mg mb:Str->Option Value) (fa a:Addr) (vs:List Value) (ns:List Int),
   Ground q loose [] XP w s₀ mg mb s₁.heap->YP w s₁.heap->mg d.name=some (.ref fa)->
   s₁.heap.get? a=some {cls:=.type "list",data:=.seq vs.toArray}->IntsAre vs ns->ns.length<=n->(∀k∈ns,Builtin.Int.intBits k<=1048576)->s₁.gens=#[]->
   codeAny (model l.prog w) callerA (.call (.ref fa) ⟨[.ref a],[]⟩) (λr s'=>r=.ok (.ret (.bool true))/\OldK s₁.heap s'.heap/\s'.os=s₁.os/\AllBare s'.gens) s₁) :
  WalkO q loose XP YP l.row.toRowW d [] (λf vs=>PySem.call f vs):=by
 intro w s₀ s₁ mg mb G Y fa o pm cd doc dV kV ho hd hcd hD hmg hg args vals as' hpre hlay hrd hwl hlo;obtain rfl:dV=.none:=Dflts.none hD hdf;obtain⟨a,vs,ns,rfl,rfl,hobj,hints,hlen⟩:=Att.Ck hn hpre hwl;refine enter_call (codeAny_mono (call w s₀ s₁ mg mb fa a vs ns G Y hmg hobj hints hlen (xH hlay) hg) λr s' hq=>?_)
 obtain⟨rfl,h2,h3,h4⟩:=hq;exact⟨.inl ⟨.bool true,.bool true,[],rfl,λ_=>rfl,.bool true,Att.Cm l _,λ_=>⟨List.Pairwise.nil,λ_ hm=>(nomatch hm)⟩⟩,h2,h3,h4⟩
def DR(K:zag):Sp:=λvs H Q _=>∃(a:Addr) (ns:List Int),vs=[.ref a]/\SqL K H a (ns.map V.int)/\ns.length<=63/\(∀k∈ns,Builtin.Int.intBits k<=1048576)/\∀H',Q (.bl true) H'
theorem DS{l:PySem.W.OpenLaw}{XP:(Str->Option Value)->Heap->Prop}{YP:World->Heap->Prop}{d:DefRec}{K:Params->zag}{x:Str}{st:Stmt}
  (hn:l.most=some 63) (hdf:d.params.defaults=[]) (hr:gw k callerA) (hY:∀(w:World) (h:Heap),YP w h->(K w.params).In h)
  (hb:∀(kV doc pm:Value) (an:Option Addr) (cdv ct u:Value),bindArgs (PySem.W.fnOf d.name d.name (jB st) (gx st) (aV st) .none kV doc pm an cdv ct) ⟨[u],[]⟩=pure [(x,u)])
  (F:∀(w:World) (mg:Str->Option Value) (h:Heap),(K w.params).In h->h.Ns mainGlobals mg->Top (K w.params) mg d.name st/\
   ∀(f:Addr) (fd:FuncData),Fun (K w.params) d.name d.name st f fd->∀base:Heap,(K w.params).In base->base.Ns mainGlobals mg->l7 l.prog w (K w.params) mg base CX0 k f fd [x] (DR (K w.params))) :
  PySem.W.WalkO q loose XP YP l.row.toRowW d [] (λf vs=>PySem.call f vs):=by
 refine Gy hn hdf λw s₀ s₁ mg mb fa a vs ns G Y hmg hobj hints hlen Lr hg=>?_
 have KX:=hY w _ Y;obtain⟨T,FF⟩:=F w mg _ KX G.T.g;obtain⟨f,fd,Ff,m⟩:=T.ex;have e:=m.symm.trans hmg;cases e;have hbd:∀(s:Shared) (u:Value),BindsTo s fd ⟨[u],[]⟩ [(x,u)]:=by
  obtain⟨oc,od,kV,doc,pm,an,cdv,ct,osl,rfl,lk,hcd⟩:=Ff.ex;exact λs u=>.of_eq (hb kV doc pm an cdv ct u)
 exact DP KX G.T.g G.T.b G.T.builtins G.T.nolimit hg hobj hints (zaX hlen (by decide)) hr (FF _ fd Ff) hbd (λH hO hS=>⟨a,ns,rfl,hS,hlen,Lr,λ_=>rfl⟩) λH e s' h=>h
section
variable{σ:St}{H:Hp}{Q:VK}{K:zag}{fr:List (Str×Nat)}
instance:Inhabited V:=⟨.non⟩
end
theorem fO(h:H p=none):aG H (upd H p o):=λb u e=>by rw[ax (fY e h)];exact e
theorem lR{pos:Pos}(hm:X.mg x=none)(hv:bootBuiltins x=some (.type n))(hg:Gl X x:=by rfl)(hn:x≠"__name__":=by decide)(hd:(x==("__debug__":Str))=false:=by decide):PE X (.Name x pos) (tC (.ty n)) :=
 Gg hg hm hv (show RelV (.ty n) (.type n)from rfl) hn hd
section
variable{X:Cx}
theorem rJ{scope:Scope}{pos spos:Pos}{fr:List (Str×Nat)}{wi:TI}{tc:TT}{te:TE}{i0:Nat}(hc:X.calm=true)(hN:X.N.Nodup)(hi0:X.N[i0]?=some y)(hx0:Loc X.env.scope y)(B:Blk X scope x fr)
  (hi:PI X (.Name x px) iter wi) (ht:∀s₂ H₂ C fp,PIf (cZ X scope (cM x fr) s₂ H₂ C fp) ifs tc) (he:∀s₂ H₂ C fp,PE (cZ X scope (cM x fr) s₂ H₂ C fp) elt te)
  (hsw:swapsWith (.ListComp elt [⟨.Name x px,iter,ifs,0⟩] scope pos) (some (.Name y py)) spos.line X.env=pure true:=by rfl)
  (hf0:X.fn y=true\/X.env.scope.names.lookup y=some .local:=by first|exact .inl rfl|exact .inr rfl|assumption)
  (hs:∀v,foldedSetIterable iter X.env v=pure v:=by intro _;rfl):PS X (.Assign [.Name y py] (.ListComp elt [⟨.Name x px,iter,ifs,0⟩] scope pos) spos) (Cc (tLC fr wi tc te) (rF i0)):=by
 intro pins s σ H D0 I h;rw[exec_Assign_Name_used _ _ _ _ hsw];refine zaI (wpAny_standAt (zaI ?_));have hclos:=DQ (scope:=scope) (env:=X.env) (B.clos I.ok);show wpAny _ X.A (do let _<-comprehension (.ListComp elt [⟨.Name x px,iter,ifs,0⟩] scope pos) scope X.env _ (newList []) false (eval iter X.env) (some (assign (.Name y py) X.env))) _ _ s
 refine zaI (za6 (wpAny_comprehension_free (use:=some (assign (.Name y py) X.env)) (Q:=λ_ s'=>SP X pins D0 .next s') rfl hs hclos B.kind B.loc
  (thn (hi pins s σ H _ I h) λv s1 h1=>thn h1 λitv s2 h2=>?_)) (λ_ s' hq=>zaZ (zaZ hq)) λ_ _ e=>e)
 obtain⟨it,fp,tn,J,H2,rfl,I2,T,st2,f2,W,⟨m0,w0⟩,turn⟩:=h2;refine wpAny_newObj_type (wpAny_newFunctionEnv B.cell (by intro y hy;simp at hy) (λh₁ hns hsb=>?_) B.kind)
 dsimp only at hns hsb⊢;generalize hG:s2.heap.push {cls:=.type "list",dict:=none,data:=.seq ([]:List Value).toArray}=G at hns hsb⊢;have hC:G.objs.size=s2.heap.objs.size+1:=by rw[<-hG,Heap.size_push]
 have hDC:s2.heap.objs.size≠G.objs.size:=by omega
 have old:∀b ob,s2.heap.get? b=some ob->h₁.get? b=some ob:=λb ob e=>by
  have hb:=zaq e;refine hsb.extBut b ob (zaS (by rw[hC];exact Nat.lt_succ_of_lt hb)) (zar _ ?_)
  rw[<-hG];exact zar _ e
 have hacc:h₁.get? s2.heap.objs.size=some {cls:=.type "list",data:=.seq ([]:List Value).toArray 0}:=by
  refine hsb.extBut _ _ hDC (zar _ ?_);rw[<-hG];exact zaL _ rfl
 have hlt:∀b∈fp,b<s2.heap.objs.size:=λb hb=>by
  obtain⟨o,e,_⟩:=T.obj 0 _ st2 b hb;exact zaq e
 have I4:=xE (tk:=s2.toks+([]:List (Str×Value)).length) (o:=none) I2 B (show s2.heap.objs.size<=G.objs.size by omega) f2 hlt old hns
 have tn4:tn 0 h₁:=T.keep 0 _ _ st2 λb _ o e=>old b o e
 have Dfs:s2.heap.objs.size∉frs X.stack:=λz=>by
  obtain⟨_,o,ho,_⟩:=I2.stack.mem z;exact absurd (zaq ho) (za3 _)
 have Dcl:∀y c,X.env.cells.lookup y=some c->c≠s2.heap.objs.size:=λy c e=>by
  obtain⟨v,o,ho,_⟩:=I2.cell y c e;exact zaS (zaq ho)
 have DL:s2.heap.objs.size≠X.env.locals:=Nat.ne_of_gt I2.lt;have Dfp:s2.heap.objs.size∉fp:=λz=>absurd (hlt _ z) (za3 _)
 have loop:∀s₃:Shared,s₃={s2 with heap:=h₁,toks:=s2.toks+([]:List (Str×Value)).length}->
   codeAny (model X.prog X.w) X.A (.compLoop (.ListComp elt [⟨.Name x px,iter,ifs,0⟩] scope pos) 0 (.ref it) (.ref s2.heap.objs.size) (compEnvC scope (l9 X.env.cells scope.names []) G.objs.size X.env))
    (compPost (model X.prog X.w) X.A X.xe (some (assign (.Name y py) X.env)) (λ_ s'=>SP X pins D0 .next s') (.ref s2.heap.objs.size) G.objs.size) s₃:=by
  rintro s₃ rfl
  refine ux
   (λn s'=>∃i o H' ys its k,Inv (cZ X scope (cM x fr) s2 H2 G.objs.size fp) [] (o::bQ σ fr) H' s'/\tn i s'.heap/\(∀b∈fp,H' b=none)/\H' s2.heap.objs.size=none/\
    s'.heap.get? s2.heap.objs.size=some {cls:=.type "list",data:=.seq (its:List Value).toArray k}/\Vals ys its/\W i n ys H') ?_ m0
   ⟨0,none,H2,[],[],0,I4,tn4,λb hb=>(f2 b hb).1,I2.hok.fresh (zap _),hacc,.nil,w0⟩
  rintro n s5 ⟨i,o,H5,ys,its,k,I5,st5,fr5,D5,hD5,r5,w5⟩
  have fok:∀{H':Hp},(∀b∈fp,H' b=none)->∀b∈fp,qK (cZ X scope (cM x fr) s2 H2 G.objs.size fp) [] H' b:=λhn b hb=>
   ⟨hn b hb,(I5.ok.exf b hb).1,I5.ok.xp b hb,.inl hb,(I5.ok.exf b hb).2,λp hp=>absurd (show p∈([]:List (Addr×Obj))from hp) (by simp)⟩
  have dok:∀{H':Hp},H' s2.heap.objs.size=none->qK (cZ X scope (cM x fr) s2 H2 G.objs.size fp) [] H' s2.heap.objs.size:=λhn=>
   ⟨hn,hDC,Dfs,.inr (zap _),λy c e=>Dcl y c (B.sub I2.ok _ _ e),λp hp=>absurd (show p∈([]:List (Addr×Obj))from hp) (by simp)⟩
  obtain⟨hz,alt⟩:=turn i n ys H5 w5;have hzl:its.length<=sizeLine:=by rw[<-r5.length];exact Nat.le_of_lt hz
  rcases alt with⟨stop,fin⟩|⟨go,step⟩
  ·refine thn (T.done (cZ X scope (cM x fr) s2 H2 G.objs.size fp) rfl rfl rfl hc i (gv [s2.heap.objs.size] s5.heap) s5 (o::bQ σ fr) H5 _ ?_ (λb hb=>?_) st5 stop) λr s6 ⟨hr,I6⟩=>?_
   ·exact(Inv.pinned I5 (fp:=[s2.heap.objs.size]) (λb hb=>by rw[zad hb];exact dok D5) λb hb=>by
     rw[zad hb];exact⟨_,hD5,λv z=>by cases z⟩)
   ·obtain⟨f0,f1,f2',f3,f4,f5⟩:=fok fr5 b hb
    refine⟨f0,f1,f2',f3,f4,λp hp=>?_⟩
    have hp':p∈gv [s2.heap.objs.size] s5.heap:=(zae hp).elim (λz=>absurd (show p∈([]:List (Addr×Obj))from z) (by simp)) id
    have:=(j9 hp').1;rw[zad this];exact λe=>Dfp (by rw[e];exact hb)
   ·subst hr
    have hD6:=(I6.pin (s2.heap.objs.size,{cls:=.type "list",data:=.seq its.toArray k}) (zan _ (cO (by simp) hD5))).1
    obtain⟨m6,hn6,_⟩:=I6.loc;have u6:Un (frs X.stack) fp H2 H5 s2.heap s6.heap:=I6.base;have hC5:H5 G.objs.size=none:=I6.free;have hCD:G.objs.size≠s2.heap.objs.size:=λz=>hDC z.symm
    have I7:Inv X pins σ H5 s6:=I2.call' (s':=s6) (I6.os) u6 I6.hok I6.bare λb hb=>⟨(f2 b hb).2.2.2.1,(f2 b hb).2.1,(f2 b hb).2.2.2.2.1,(f2 b hb).2.2.2.2.2⟩
    have pD:∀p∈X.pn++pins,p.1≠s2.heap.objs.size:=λp hp z=>by
     obtain⟨e,_⟩:=I2.pin p hp;rw[z]at e;exact absurd (zaq e) (za3 _)
    have I8:Inv X pins σ (upd H5 s2.heap.objs.size (.lst ys)) s6:=I7.track D5 I2.sz DL Dcl pD ⟨Nat.le_of_lt hz,its,k,r5,hD6⟩;have hlt:s2.heap.objs.size<G.objs.size:=by rw[hC];exact Nat.lt_succ_self _
    have hCu:upd H5 s2.heap.objs.size (.lst ys) G.objs.size=none:=by rw[ax hCD];exact hC5
    obtain⟨g0,g1,g2,g3,g4,g5⟩:=I2.zt (H':=upd H5 s2.heap.objs.size (.lst ys)) (Nat.le_of_lt hlt) hCu;obtain⟨oC,esC,epC,hoC,Iz⟩:=id hn6;have I9:=Inv.pinned I8 (fp:=[G.objs.size]) (λb hb=>by
     rw[zad hb];exact⟨g0,g1,g2,g3,g4,g5⟩) λb hb=>by
     rw[zad hb];refine⟨oC,hoC,λv z=>?_⟩
     have dd:=Iz;simp[z]at dd
    refine thn (bh (X:=X) (i:=i0) hN hi0 hx0 hf0 _ s6 σ _ (.ref s2.heap.objs.size) (.ref s2.heap.objs.size) (fun σ' H'=>σ'=σ.set i0 (some (.ref s2.heap.objs.size))/\H'=upd H5 s2.heap.objs.size (.lst ys)) I9 rfl ⟨rfl,rfl⟩) λ_ s8 ⟨σ8,H8,I10,e1,e2⟩=>?_
    subst e1 e2;have hC8:=(I10.pin (G.objs.size,oC) (zan _ (zan _ (cO (by simp) hoC)))).1
    refine⟨m6,⟨oC,esC,epC,hC8,Iz⟩,λh' hs'=>?_⟩
    exact⟨_,_,(Inv.fN (pins:=pins) I10).turned (t':=s8.toks) (it:=G.objs.size) (λb ob hb e=>hs'.extBut b ob hb e) g0 g1 g3 g4 g5,fin _ D5⟩
  ·refine xF (thn (T.item (cZ X scope (cM x fr) s2 H2 G.objs.size fp) rfl rfl rfl hc i (gv [s2.heap.objs.size] s5.heap) s5 (o::bQ σ fr) H5 _ ?_ (λb hb=>?_) st5 go) λr s6 ⟨u,hr,h6⟩=>?_)
   ·exact(Inv.pinned I5 (fp:=[s2.heap.objs.size]) (λb hb=>by rw[zad hb];exact dok D5) λb hb=>by
     rw[zad hb];exact⟨_,hD5,λv z=>by cases z⟩)
   ·obtain⟨f0,f1,f2',f3,f4,f5⟩:=fok fr5 b hb
    refine⟨f0,f1,f2',f3,f4,λp hp=>?_⟩
    have hp':p∈gv [s2.heap.objs.size] s5.heap:=(zae hp).elim (λz=>absurd (show p∈([]:List (Addr×Obj))from z) (by simp)) id
    have:=(j9 hp').1;rw[zad this];exact λe=>Dfp (by rw[e];exact hb)
   ·subst hr
    refine thn h6 λ_ s7 ⟨v,H7,I7,rv,y7,st7,fr7⟩=>?_
    have p7:=I7.pin (s2.heap.objs.size,{cls:=.type "list",data:=.seq its.toArray k}) (zan _ (cO (by simp) hD5))
    have hD7:s7.heap.get? s2.heap.objs.size=some {cls:=.type "list",data:=.seq its.toArray k}:=p7.1;have D7:H7 s2.heap.objs.size=none:=p7.2.1;have I7u:Inv (cZ X scope (cM x fr) s2 H2 G.objs.size fp) [] (o::bQ σ fr) H7 s7:=Inv.fN (pins:=[]) I7;have I8:=Inv.pinned I7u (fp:=s2.heap.objs.size::fp) (λb hb=>by
      rcases zaf hb with e|hb
      ·rw[e];exact dok D7
      ·exact fok fr7 b hb) λb hb=>by
      rcases zaf hb with e|hb
      ·rw[e];exact⟨_,hD7,λv z=>by cases z⟩
      ·exact T.obj _ _ st7 b hb
    have hl : Loc (cZ X scope (cM x fr) s2 H2 G.objs.size fp).env.scope x := .inl (lookup_relabel_local B.here);have pk:∀{σ':St} {H':Hp} {s':Shared},Inv (cZ X scope (cM x fr) s2 H2 G.objs.size fp) ([]++gv (s2.heap.objs.size::fp) s7.heap) σ' H' s'->
      tn (i+1) s'.heap/\(∀b∈fp,H' b=none)/\H' s2.heap.objs.size=none/\s'.heap.get? s2.heap.objs.size=some {cls:=.type "list",data:=.seq its.toArray k}:=fun{σ' H' s'} I'=>by
     have pD:=I'.pin (s2.heap.objs.size,{cls:=.type "list",data:=.seq its.toArray k}) (zan _ (zan _ (cO (by simp) hD7)))
     refine⟨T.keep _ _ _ st7 λb hb ob e=>(I'.pin (b,ob) (zan _ (zan _ (cO (zak _ hb) e)))).1,λb hb=>?_,pD.2.1,pD.1⟩
     obtain⟨ob,e,_⟩:=T.obj _ _ st7 b hb;exact(I'.pin (b,ob) (zan _ (zan _ (cO (zak _ hb) e)))).2.1
    refine xF (thn (bh (X :=cZ X scope (cM x fr) s2 H2 G.objs.size fp) (i :=0) B.nd rfl hl (.inr (lookup_relabel_local B.here)) _ s7 _ H7 v u (fun σ' H'=>σ'=some v :: bQ σ fr/\H'=H7) I8 rv ⟨rfl,rfl⟩) λ_ s8 ⟨σ8,H8,I9,e1,e2⟩=> ?_)
    subst e1 e2;refine xF (thn (ht s2 H2 G.objs.size fp _ s8 _ H8 _ I9 (step v H8 y7)) λok s9 ⟨H9,I10,q10⟩=>?_)
    cases ok with
    |false=>
     rw[if_neg zam]at q10;rw[if_neg zam];obtain⟨m',hm,w'⟩:=q10;obtain⟨k1,k2,k3,k4⟩:=pk I10;exact⟨m',hm,i+1,some v,H9,ys,its,k,Inv.fN (pins:=[]) I10,k1,k2,k3,k4,r5,w'⟩
    |true=>
     rw[if_pos rfl]at q10;rw[if_pos rfl];refine xF (thn (he s2 H2 G.objs.size fp _ s9 _ H9 _ I10 q10) λy' s10 ⟨y,H10,I11,ry,m',hm,w'⟩=>?_)
     obtain⟨k1,k2,k3,k4⟩:=pk I11;refine append_at k4 (λh' hs' hD'=>?_) (by rw[zaK];exact hzl)
     have I12:Inv (cZ X scope (cM x fr) s2 H2 G.objs.size fp) [] (some v::bQ σ fr) H10 {s10 with heap:=h'} :=
      (Inv.fN (pins:=[]) I11).turned (t':=s10.toks) (it:=s2.heap.objs.size) (λb ob hb e=>(hs'.2 b hb).trans e) k3 hDC (.inr (zap _)) (λz c e=>Dcl z c (B.sub I2.ok _ _ e)) λp hp=>absurd (show p∈([]:List (Addr×Obj))from hp) (by simp)
     refine⟨m',hm,i+1,some v,H10,ys++[y],its++[y'],k+1,I12,T.keep _ _ _ k1 λb hb ob e=>(hs'.2 b λz=>Dfp (by rw[<-z];exact hb)).trans e,k2,k3,?_,r5.append (.cons ry .nil),w'⟩
     rw[hD'];simp
 exact codeAny_compStart_list (loop _ rfl) (T.self _ 0 _ _ _ tn4 (loop _ rfl))
end
section
variable{prog:Program}{w:World}{A:Around}{E:Value->Shared->Prop}{s:Shared}
theorem uz(hne:t≠it):∀(n i:Nat) (s:Shared) (Q:List Value->Shared->Prop),s.heap.IsListIter it t i->s.heap.IsList t items->i+n<=items.size->
  (∀h':Heap,h'.IsListIter it t (i+n)->Heap.SameBut it s.heap h'->Q ((items.toList.drop i).take n) {s with heap:=h'})->wpAny (model prog w) A (draw (.ref it) n) Q E s
 |0,i,s,Q,hit,_,_,hQ=>by
  show wpAny _ _ (pure []) Q E s;exact zaZ (by simpa using hQ s.heap hit (Heap.SameBut.refl ..))
 |n+1,i,s,Q,hit,ht,hle,hQ=>by
  have hlt:i<items.size:=by omega
  show wpAny _ _ (pyNext (.ref it)>>=_) Q E s;refine zaI (wpAny_pyNext_list_item hit ht (x:=items[i]) (by simp[hlt]) λh1 hit1 hs1=>?_)
  refine zaI (wpAny_holding (uz hne n (i+1) _ _ hit1 (ht.extBut hs1.extBut hne) (by omega) λh2 hit2 hs2=>zaZ ?_))
  have hd:items.toList.drop i=items[i]::items.toList.drop (i+1):=by simp[List.drop_eq_getElem_cons,hlt]
  have:=hQ h2 (by rw[show i+(n+1)=i+1+n by omega];exact hit2) (hs1.trans hs2)
  rw[hd,List.take_succ_cons]at this;exact this
theorem qM(hh:A.handled=none)(ht:s.heap.IsList t items)
  (hQ:∀h',Heap.ExtBut s.heap.objs.size s.heap h'->Q items.toList {s with heap:=h'}):wpAny (model prog w) A (unpackItems (.ref t) items.size none) Q E s:=by
 have hlt:t≠s.heap.objs.size:=by obtain⟨o,ho,_⟩:=ht;exact zaS (zaq ho)
 unfold unpackItems;refine zaI ?_
 ·unfold notIterableAtAll
  refine zaI (wpAny_specialOf ht.typeIs slot_list_iter.lookup ?_);refine zaZ ?_;simp only[Bool.false_eq_true,if_false];refine zaI (wpAny_holding (wpAny_pyIter_list ht ?_));refine zaI (wpAny_holding (uz hlt items.size 0 _ _ ⟨_,zaL _ rfl,rfl,rfl⟩ (ht.push _) (by omega) λh1 hit1 hs1=>?_))
  have hall:List.take items.size (List.drop 0 items.toList)=items.toList:=by
   rw[List.drop_zero];exact List.take_of_length_le (by simp)
  rw[hall];rw[if_neg (by simp)]
  have ht1:h1.IsList t items:=(ht.push _).extBut hs1.extBut hlt;refine zaI (wpAny_holding (wpAny_pyNext_list_end hh hit1 ht1 (by simp) λh2 he2=>?_))
  simp only[Option.isSome_none,Bool.false_eq_true,if_false];refine zaZ (hQ h2 λb o hb e=>he2 b o hb (hs1.extBut b o hb (zar _ e)))
theorem pz(hh:A.handled=none)(ht:s.heap.IsList t items)
  (hn:(assignEach elts env).length=items.size) (hstar:(assignEach elts env).findIdx? (·.1)=none)
  (h:∀h',Heap.ExtBut s.heap.objs.size s.heap h'->wpAny (model prog w) A (assignInOrder ((assignEach elts env).map (·.2)) items.toList) Q E {s with heap:=h'}) :
  wpAny (model prog w) A (assign (.Tuple elts x1 pos) env (.ref t)) Q E s:=by
 rw[assign_Tuple];refine zaI (wpAny_standAt ?_);unfold unpack;rw[hn,hstar];exact zaI (wpAny_holding (qM hh ht h))
end
variable{X:Cx}
def DT(K:zag)(n:Nat)(t:TGs):TG:=λv σ H Q=>∃a xs,v=.ref a/\(SqT K H a xs\/SqL K H a xs)/\xs.length=n/\t xs σ H Q
theorem jC{k:Nat}{pos:Pos}{n:Nat}(hc:X.calm=true)(h:PGs X es t)
  (hn:(assignEach es X.env).length=n:=by rfl) (hst:(assignEach es X.env).findIdx? (·.1)=none:=by rfl):PG X (.Tuple es k pos) (DT X.K n t):=by
 intro pins s σ H v u Q I r hw;obtain⟨a,xs,e1,hq,hl,hw⟩:=hw;subst e1;cases r;rcases hq with hq|hq
 ·obtain⟨its,rv,ht,hz⟩:=I.tuple hq
  refine assign_Tuple_tuple (I.ok.hd hc) ht (by simp[hn,<-hl,rv.length]) hst λh' hx=>?_
  have I1:Inv X pins σ H {s with heap:=h'}:=I.kept (t':=s.toks) λb o e=>hx b o (zaS (zaq e)) e
  exact h pins _ σ H xs _ Q I1 (by simpa using rv) hw
 ·obtain⟨its,rv,ht,hz⟩:=I.list hq
  refine pz (I.ok.hd hc) ht.isList (by simp[hn,<-hl,rv.length]) hst λh' hx=>?_
  have I1:Inv X pins σ H {s with heap:=h'}:=I.kept (t':=s.toks) λb o e=>hx b o (zaS (zaq e)) e
  exact h pins _ σ H xs _ Q I1 (by simpa using rv) hw
end L2
namespace L2
open PySem PySem.Spec PyProof.Rows
structure AR(P:Program)(w:World)(outer:List Env)(H:Hp)(s:Shared)(E:XK)(ea t:Addr)(cls:Value)(B:Heap)(H':Hp)(s':Shared):Prop where
 os:s'.os=s.os
 bare:AllBare s'.gens
 fly:Heap.FlyingW B outer ea cls (.ref t) s'.heap
 keep:∀b o,s.heap.get? b=some o->H b=none->b∉frs outer->B.get? b=some o
 there:∀b o,s.heap.get? b=some o->b∉frs outer->∃o',B.get? b=some o'
 slot:∀b o,s.heap.get? b=some o->b∈frs outer->H b=none->∃sl,s'.heap.get? b=some {o with slots:=sl}
 free:∀b o,s.heap.get? b=some o->H b=none->H' b=none
 tups:∀b xs,H b=some (.tup xs)->H' b=some (.tup xs)
 ja:∀b o u,H b=some (.frz o u)->H' b=some (.frz o u)
 jP:∀b ps,H b=some (.tbl ps)->∃more,H' b=some (.tbl (ps++more))
 hok:HOk P w H' B
 wish:E cls none H'
def CXW(P:Program)(w:World):CXT:=λouter H s E e s'=>∃ea t cls B H',e=.ref ea/\AR P w outer H s E ea t cls B H' s'
def AS(X:Cx)(cls:Value)(W:Hp->Prop):Prop:=∀(pins:List (Addr×Obj)) (σ:St) (H:Hp) (s:Shared) (e:Addr) (h':Heap) (vs:List Value),Inv X pins σ H s->Heap.MadeExcOf s.heap h' e cls vs->W H->X.xe (.ref e) {s with heap:=h'}
def DU(W:Hp->Prop)(t:TA):TS:=λ_ σ H=>t σ H λvs H1=>vs.length<=100/\W H1
theorem Gz{K:zag}{newId:String}(X:K.In h₀)(q:PySem.W.excIn K C bmB newId=true) :
  ∃bm N nm q bs hdct sn sub ab col dd k0 k1 k2 k3 k5 mN,h₀.get? C=some (excClassObj nm q C N bs bm hdct sn sub ab col dd k0 k1 k2 k3 k5 newId)/\h₀.Ns N mN/\mN "__init__"=none/\OwnTail h₀ bmB bm:=by
 unfold PySem.W.excIn at q;split at q
 ·rename_i dd cd sl ho
  split at q
  ·rename_i C' bm k0 k1 k2 k3 n k5 hm hs
   simp only[Bool.and_eq_true,beq_iff_eq,Bool.not_eq_true']at q;obtain⟨⟨⟨⟨⟨rfl,rfl⟩,hdel⟩,ht⟩,hok⟩,hni⟩:=q;obtain⟨nm,bs,mro,ns,qn,hd,sn,sub,ab,col,del⟩:=cd;dsimp only at hm hdel hok hni;subst hm hdel;have hsl:sl=#[k0,k1,k2,k3,some (.builtin n),k5]:=by
    obtain⟨l⟩:=sl;simp only at hs;rw[hs]
   subst hsl;exact⟨bm,ns,nm,qn,bs,hd,sn,sub,ab,col,dd,k0,k1,k2,k3,k5,_,X _ _ ho,.of_isNs (PySem.W.isNs_of_in X hok),PySem.W.nsMap_none_of_in X hok hni,PySem.W.tail_of_in X ht⟩
  ·cases q
 ·cases q
section
variable{X:Cx}
theorem DV{np cpos pos:Pos}{e:Expr}{es:List Expr}{t:TA}{W:Hp->Prop}(hc:X.calm=true)(hg:Gl X x)(hm:X.mg x=some (.ref C))(hq:PySem.W.excIn X.K C bm newId=true)
  (FB:ExcBaseFacts Bn newId initId bm) (hx:AS X (.ref C) W) (ha:PA X (e::es) t) (hdb:(x==("__debug__":Str))=false:=by decide)
  (he:starEach (e::es) X.env=(false,eval e X.env)::starEach es X.env:=by rfl) (hpl:(backTo cpos (starEach es X.env)).any (·.1)=false:=by rfl) :
  PS X (.Raise (some (.Call (.Name x np) (e::es) [] cpos)) none pos) (DU W t):=by
 intro pins s σ H D I h;obtain⟨tl,N,nm,q,bs,hdct,sn,sub,ab,col,dd,k0,k1,k2,k3,k5,mN,hC,hN,hni,T⟩:=Gz I.mod.kin hq;refine wpAny_Raise_call_subT (C:=C) (nm:=nm) (q:=q) (N:=N) (bs:=bs) (bm:=tl) (hdct:=hdct) (sn:=sn) (sub:=sub) (ab:=ab) (col:=col) (dd:=dd) (k0:=k0) (k1:=k1) (k2:=k2) (k3:=k3) (k5:=k5)
  FB (mN:=mN) (T.hasType FB.hasBase) (I.ok.hd hc) (by rw[he];show(false||(backTo cpos (starEach es X.env)).any (·.1))=false;rw[hpl];rfl) hni (oy I hg hm ⟨rfl,?_⟩ hdb)
 have hp:=ha cpos pins s σ H _ I h;rw[he]at hp⊢;refine Calls.evalArgs_plain (za6 hp (λvs s₂ h₂=>?_) λ_ _ y=>y)
 obtain⟨us,H1,I1,r1,hl,w1⟩:=h₂;exact⟨rfl,by rw[<-r1.length];exact zaX hl (by simp only[sizeLine];omega),I1.bk _ _ hC,hN.keeps I1.bk,T.keeps I1.bk,λh' e' hm'=>hx pins σ H1 s₂ e' h' vs I1 hm' w1⟩
theorem tN{K:zag}{base:Heap}{N:List Str}{qual:Str}{scope:Scope}{f:Addr}{cd:Value}{A:Around}{outer:List Env}{s₀:Shared}{H₀:Hp}{E:XK}{cls:Value}
  (hk:scope.kind=.function) (hex:(envOfC qual scope s₀.heap.objs.size f cd).frame=some s₀.heap.objs.size):AS (pq (CXW P w) P w K mg base N qual scope f cd A outer s₀ H₀ E) cls (λH'=>E cls none H'):=by
 intro pins σ H s e h' vs I hx hw;have noA:∀b:Addr,b∉(pq (CXW P w) P w K mg base N qual scope f cd A outer s₀ H₀ E).ex:=λb z=>absurd (show b∈([]:List Addr)from z) (by simp)
 have hst:=I.stack;have frL:(pq (CXW P w) P w K mg base N qual scope f cd A outer s₀ H₀ E).stack=envOfC qual scope s₀.heap.objs.size f cd::outer:=rfl;rw[frL]at hst;have hfr:=I.ok.frames;have hin:∀env∈(envOfC qual scope s₀.heap.objs.size f cd::outer),∀b,env.frame=some b->b∈frs (envOfC qual scope s₀.heap.objs.size f cd::outer):=λenv he b hb=>List.mem_filterMap.mpr ⟨env,he,hb⟩
 have noH:∀b∈frs (envOfC qual scope s₀.heap.objs.size f cd::outer),H b=none:=λb hb=>I.qT b hb
 show wpAny _ _ (leaving _ (.ref e)) _ _ _;refine wpAny_leaves_madeW (base:=PySem.W.hideAll s.heap (frs (envOfC qual scope s₀.heap.objs.size f cd::outer))) hfr hex (λb o q=>PySem.W.of_hideAll _ q) (PySem.W.funFrames_hide hst hin) hx λh2 t x1 x2 x3 x4=>?_
 have sub:∀b∈frs outer,b∈frs (envOfC qual scope s₀.heap.objs.size f cd::outer):=λb hb=>by
  obtain⟨env,he,hf⟩:=List.mem_filterMap.mp hb;exact hin env (zak _ he) b hf
 have out:∀b o,s₀.heap.get? b=some o->b∉frs outer->b∉frs (envOfC qual scope s₀.heap.objs.size f cd::outer):=λb o q hb hm=>by
  obtain⟨env,he,hf⟩:=List.mem_filterMap.mp hm;rcases zaf he with rfl|he
  ·rw[hex]at hf
   cases hf;exact absurd (zaq q) (za3 _)
  ·exact hb (List.mem_filterMap.mpr ⟨env,he,hf⟩)
 refine⟨e,t,cls,_,H,rfl,⟨I.os,I.bare,x1,λb o q n hb=>?_,λb o q hb=>?_,λb o q hb n=>?_,λb o q n=>?_,I.base.tups,I.base.ja,I.base.jP,λb u q=>?_,hw⟩⟩
 ·exact PySem.W.hideAll_get _ (I.base.keep b o q n hb (noA b)) (out b o q hb)
 ·obtain⟨o',q'⟩:=I.base.there b o q (noA b)
  exact⟨o',PySem.W.hideAll_get _ q' (out b o q hb)⟩
 ·obtain⟨sl,q'⟩:=I.base.slot b o q n hb (noA b)
  obtain⟨_,o2,q2,hd⟩:=hst.mem (sub b hb);rw[q']at q2;cases q2;obtain⟨sl',q3⟩:=x4 b _ (hx.keeps b _ q') hd;exact⟨sl',q3⟩
 ·exact I.base.free b o q n (noA b)
 ·refine(I.hok b u q).stay (λc v hc q'=>PySem.W.hideAll_get _ q' λhm=>?_) (λ_ q'=>q') λ_ _ q'=>q'
  have hn:=noH c hm;rcases hc with z|z
  ·rw[z,q]at hn;cases hn
  ·rw[z]at hn;cases hn
theorem qV{σ:St}{H:Hp}{s:Shared}{i:Nat}{x:Str}{pos:Pos}{Q:Unit->Shared->Prop}(I:Inv X pins σ H s)(hN:X.N.Nodup)(hi:X.N[i]?=some x)(hk:X.env.scope.names.lookup x=some .local)
  (h:∀s',Inv X pins (σ.set i none) H s'->Q () s'):wpAny M A (do bindName X.env x .none;unbindBehindTheSuite X.env x pos) Q E s:=by
 obtain⟨m,hn,hl⟩:=id I.loc;have hk':X.env.kindOf x=some .local:=hk;have hcls:(X.env.scope.kind== .class||(X.env.scope.kind== .module&&X.env.locals !=X.env.globals))=false:=by rw[I.ok.kind];rfl
 have hiσ:i<σ.length:=by rw[I.len];exact(zac hi).1
 have cne:=I.cne;refine zaI (wpAny_bindName (wpAny_storeName_local hk' hn (λh₁ hn₁ hs₁=>?_) hcls))
 unfold unbindBehindTheSuite;refine wpAny_onRaise ?_;unfold unbindName;refine zaI (wpAny_point (zaI ?_));unfold deleteName;simp only[hk',hcls];rw[if_neg (by decide)]
 refine zaI (wpAny_nsDel_keeps hn₁ λh₂ v hn₂ hs₂=>?_)
 simp only[if_true,Option.isSome_some,Bool.not_true,Bool.false_eq_true,if_false];have hs:Heap.SameBut X.env.locals s.heap h₂:=hs₁.trans hs₂;obtain⟨oL,_,_,hoL,_⟩:=id hn;refine zaZ (wpAny_point (h _ ⟨I.ok,I.os,I.bare,⟨λb o e n hb hx=>?_,λb o e n hb hx=>?_,I.base.free,λb o e hx=>?_,I.base.tups,I.base.ja,I.base.jP⟩,⟨_,hn₂,λj y v' e1 e2 e3=>?_⟩,λy c e=>?_,I.free,I.ic,λp hp=>?_,λb ob e=>?_,by simpa using I.len⟩))
 ·exact(hs.2 b (zaS (zaF (zaq e) I.ok.above))).trans (I.base.keep b o e n hb hx)
 ·obtain⟨sl,e1⟩:=I.base.slot b o e n hb hx
  exact⟨sl,(hs.2 b (zaS (zaF (zaq e) I.ok.above))).trans e1⟩
 ·obtain⟨o',e1⟩:=I.base.there b o e hx
  exact⟨o',(hs.2 b (zaS (zaF (zaq e) I.ok.above))).trans e1⟩
 ·by_cases hj:j=i
  ·subst hj
   rw[zav hiσ]at e2;cases e2
  ·rw[zaA (Ne.symm hj)]at e2
   obtain⟨u',r',q⟩:=hl j y v' e1 e2 e3;refine⟨u',r',?_⟩;rcases q with⟨k,e⟩|⟨k,c,e,z⟩
   ·refine .inl ⟨k,?_⟩
    have:y≠x:=λe=>hj (rD hN e1 (e▸hi))
    simp[this,e]
   ·exact .inr ⟨k,c,e,z.sameBut hs (cne y c e)⟩
 ·obtain⟨w',z⟩:=I.cell y c e
  exact⟨w',z.sameBut hs (cne y c e)⟩
 ·obtain⟨e,n,ne,nf,d⟩:=I.pin p hp
  exact⟨(hs.2 p.1 ne).trans e,n,ne,nf,d⟩
 ·refine(I.hok b ob e).stay (λc w' hc q=>(hs.2 c ?_).trans q) (λ_ q=>q) λ_ _ q=>q
  rintro rfl
  rcases hc with rfl|hc
  ·rw[I.free]at e;cases e
  ·rw[I.free]at hc;cases hc
theorem cG.is(x:cG P w H h a o):∃u,h.get? a=some u:=by
 induction o with
 |lst xs=>obtain⟨z,its,n,r,e⟩:=x;exact⟨_,e⟩
 |tup xs=>first|(obtain⟨z,its,r,ob,e,c⟩:=x;exact⟨_,e⟩)|(obtain⟨z,its,r,⟨ob,e,c⟩,_⟩:=x;exact⟨_,e⟩)
 |dK kvs=>obtain⟨z,y,vs,r,ob,es,ep,e,c⟩:=x;exact⟨_,e⟩
 |dT kvs=>obtain⟨z,y,xs,r,ob,es,ep,e,c⟩:=x;exact⟨_,e⟩
 |set S n=>obtain⟨ob,es,ep,t,e,c⟩:=x;exact⟨_,e⟩
 |ins C dx fs=>obtain⟨_,_,_,e,_⟩:=x;exact⟨_,e⟩
 |own _=>exact x
 |xd fs=>obtain⟨_,⟨_,_,_,e,_⟩,_⟩:=x;exact⟨_,e⟩
 |rng lo hi=>obtain⟨_,_,_,e⟩:=x;exact⟨_,e⟩
 |frz ob u=>obtain⟨e,_⟩:=x;exact⟨_,e⟩
 |tbl ps=>exact⟨_,x⟩
 |met f y=>exact⟨_,x⟩
 |ext φ=>obtain⟨_,e,_⟩:=x;exact e
theorem cG.IC(x:cG P w H h a (.tup xs)):xs.length<=sizeLine/\∃its:List Value,Vals xs its/\IsTup h a its.toArray:=by
 first|exact x|(obtain⟨z,its,r,p,_⟩:=x;exact⟨z,its,r,p⟩)
theorem cG.DW{h:Heap}{xs:List V}{its:List Value}(hz:xs.length<=sizeLine)(r:Vals xs its):cG P w H (h.push {cls:=.type "tuple",data:=.seq its.toArray}) h.objs.size (.tup xs):=by
 first|exact⟨hz,its,r,⟨_,zaL _ rfl,rfl,_,rfl⟩⟩|exact⟨hz,its,r,⟨_,zaL _ rfl,rfl,_,rfl⟩,_,zaL _ rfl,rfl⟩
theorem AR.inv{σ:St}{E:XK}{ea t:Addr}{cls:Value}{B h2:Heap}(fl:AR X.prog X.w X.stack H s E ea t cls B H' s')(I:Inv X pins σ H s)(f2:Heap.FlyingW B X.stack ea cls (.ref t) h2)(sm:s'.heap.UpToSlots h2) :
  Inv X pins σ H' {s' with heap:=h2}:=by
 refine I.call' (ch:=[]) fl.os ⟨λb o q n hb _=>f2.1 b o (fl.keep b o q n hb),λb o q n hb _=>?_,λb o q n _=>fl.free b o q n,λb o q _=>?_,fl.tups,fl.ja,fl.jP⟩ (fl.hok.kept f2.1) fl.bare (λb z=>absurd z (by simp))
 ·obtain⟨sl,q1⟩:=fl.slot b o q hb n
  obtain⟨_,o2,q2,hd⟩:=fl.fly.2.2.1.mem hb;rw[q1]at q2;cases q2;obtain⟨sl',q3⟩:=sm b _ q1 hd;exact⟨sl',q3⟩
 ·by_cases hb:b∈frs X.stack
  ·obtain⟨sl,q1⟩:=fl.slot b o q hb (I.qT b hb)
   obtain⟨_,o2,q2,hd⟩:=fl.fly.2.2.1.mem hb;rw[q1]at q2;cases q2;obtain⟨sl',q3⟩:=sm b _ q1 hd;exact⟨_,q3⟩
  ·obtain⟨o',q1⟩:=fl.there b o q hb
   exact⟨o',f2.1 b o' q1⟩
end
def Cx.mkd(X:Cx)(e:Addr):Cx:={X with A:=X.A.mark (some (.ref e)),calm:=false,xe:=λ_ _=>False}
def Cx.inX(X:Cx)(e:Addr)(oe:Obj):Cx:={X with A:=X.A.mark (some (.ref e)),calm:=false,pn:=(e,oe)::X.pn,xe:=λ_ _=>False}
section
variable{X:Cx}{pins:List (Addr×Obj)}{σ:St}{H:Hp}{s:Shared}{e:Addr}{oe:Obj}
theorem Cx.Ok.mkd(ok:X.Ok):(X.mkd e).Ok:=⟨ok.mod,ok.kind,ok.glob,ok.blt,ok.above,ok.inj,ok.has,ok.cab,λh=>absurd (show false=true from h) zam,ok.frames,ok.stk,ok.exf,ok.bs,ok.bsz,ok.zp,ok.xp,ok.nV,ok.frf⟩
theorem Inv.mkd(I:Inv X pins σ H s):Inv (X.mkd e) pins σ H s:=⟨I.ok.mkd,I.os,I.bare,I.base,I.loc,I.cell,I.free,I.ic,I.pin,I.hok,I.len⟩
theorem Cx.Ok.inX(ok:X.Ok):(X.inX e oe).Ok:=⟨ok.mod,ok.kind,ok.glob,ok.blt,ok.above,ok.inj,ok.has,ok.cab,λh=>absurd (show false=true from h) zam,ok.frames,ok.stk,ok.exf,ok.bs,ok.bsz,ok.zp,ok.xp,ok.nV,ok.frf⟩
theorem Inv.inX(I:Inv X pins σ H s)(h1:s.heap.get? e=some oe)(h2:H e=none)(h3:e≠X.env.locals)(h4:e∉X.fs)(h5:∀v,oe.data≠.cell v):Inv (X.inX e oe) pins σ H s :=
 ⟨I.ok.inX,I.os,I.bare,I.base,I.loc,I.cell,I.free,I.ic,λp hp=>by
  rcases zaf (show p∈(e,oe)::(X.pn++pins)from hp)with rfl|hp
  ·exact⟨h1,h2,h3,h4,h5⟩
  ·exact I.pin p hp,I.hok,I.len⟩
theorem Inv.GA(ok:X.Ok)(I:Inv (X.inX e oe) pins σ H s):Inv X pins σ H s :=
 ⟨ok,I.os,I.bare,I.base,I.loc,I.cell,I.free,I.ic,λp hp=>I.pin p (show p∈(e,oe)::(X.pn++pins)from zak _ hp),I.hok,I.len⟩
def Ends.drop(D:Ends)(i:Nat):Ends:={nx:=fun σ H=>D.nx (σ.set i none) H,rt:=D.rt,bk:=fun σ H=>D.bk (σ.set i none) H,ct:=fun σ H=>D.ct (σ.set i none) H}
def DX(sp:Sp)(t:TA)(i:Nat)(ok:Value->Prop)(th:Value->Addr->TS):TS:=λD σ H=>t σ H λvs H1=>sp vs H1 (λ_ H2=>D.nx σ H2) (λcls _ H2=>ok cls/\∀e:Addr,H2 e=none->th cls e (D.drop i) (σ.set i (some (.ref e))) H2)
theorem GB{sp:Sp}{x xC n:Str}{p np pos pos' epos hpos:Pos}{a:Expr}{es:List Expr}{t:TA}{i:Nat}{ok:Value->Prop}{th:Value->Addr->TS}{b₀:Stmt}{suite:List Stmt}
  (hxe:X.xe=λ_ _=>False) (F:l7 X.prog X.w X.K X.mg X.base (CXW X.prog X.w) k f fd ps sp) (hr:gw k X.A) (hg:Gl X x) (hm:X.mg x=some (.ref f)) (hk:PySem.W.keepIn X.K (.ref f)=true) (hb:Binds X.K fd ps []) (ha:PA X (a::es) t)
  (hst:X.stack=X.env::X.outer) (hfr:X.env.frame=some X.env.locals) (hgC:Gl X xC) (hmC:X.mg xC=some (.ref C)) (hex:∀cls,ok cls->PySem.W.exmOne X.K cls (.ref C)=some true)
  (hN:X.N.Nodup) (hi:X.N[i]?=some n) (hln:X.env.scope.names.lookup n=some .local) (hS:∀(cls:Value) (e:Addr) (oe:Obj),oe.cls=cls->ok cls->PSs (X.inX e oe) (b₀::suite) (th cls e))
  (hdb:(x==("__debug__":Str))=false:=by decide) (hdC:(xC==("__debug__":Str))=false:=by decide) (he:starEach (a::es) X.env=(false,eval a X.env)::starEach es X.env:=by rfl) (hpl:(backTo pos' (starEach es X.env)).any (·.1)=false:=by rfl)
  (hs:swapsWith (.Call (.Name x p) (a::es) [] pos') none epos.line X.env=pure false:=by rfl) :
  PS X (.Try [.Expr (.Call (.Name x p) (a::es) [] pos') epos] [.ExceptHandler (some (.Name xC np)) (some n) (b₀::suite) hpos] [] [] pos) (DX sp t i ok th):=by
 intro pins s σ H D I h;refine wpAny_Try_except ?_;refine wpAny_execs_cons (wpAny_Expr_any ?_ I.quiet hs);refine wpAny_Call_Name_kw (oy I hg hm ?_ hdb);refine PySem.W.callWith_K (h₀:=X.base) I.ok.mod.kin hk (za6 (ha pos' pins s σ H _ I h) (λus s1 ⟨vs,H1,I1,r,q⟩=>⟨I1.kIn,?_⟩) (λ_ _ z=>by rw[hxe]at z;exact z.elim)) he hpl
 have hl:us.length=ps.length:=by rw[<-r.length];exact F.len _ _ _ _ q
 have hbt:=hb s1 us I1.kIn (by rw[zaR];exact hl)
 rw[zaR]at hbt;refine wpAny_call (codeAny_mono (F.run X.A X.stack s1 H1 ⟨us,[]⟩ us vs _ _ hr I1.env0 hbt r q) λr s' hq=>?_)
 cases r with
 |ok fl=>
  cases fl with
  |ret u=>
   obtain⟨v,H2,I2,rv,q2⟩:=I1.after hq;exact wpAny_execs_nil (wpAny_execs_nil ⟨σ,H2,I2,q2⟩)
  |next=>exact False.elim hq
  |brk=>exact False.elim hq
  |cont=>exact False.elim hq
 |error ev=>
  obtain⟨ea,t',cls,B,H2,rfl,fl⟩:=hq;obtain⟨okc,hth⟩:=fl.wish;have fly:=fl.fly;rw[hst]at fly;refine wpAny_looks_onW (by rw[I.ok.frames,hst]) hfr fly λh4 Ls sm4=>?_
  refine wpAny_landsW Ls λh5 J2 sm5=>?_
  have sm:s'.heap.UpToSlots h5:=sm4.trans sm5;have I5:Inv X pins σ H2 {s' with heap:=h5}:=fl.inv I1 (by rw[hst];exact J2) sm
  have I5m:=I5.mkd (e:=ea);refine wpAny_handleBy_cons (codeAny_handlers_test (oy I5m hgC hmC ?_ hdC)) (by intro q;cases q)
  have LT:PySem.W.Looks (model X.prog X.w) h5 (typeOf (.ref ea)) cls:=by
   obtain⟨ob,hob,hobc⟩:=J2.there;exact hobc▸(PySem.W.Looks.ld hob).andThen .now
  refine(PySem.W.exm_one I5.kIn LT (hex cls okc)) _ _ _ _ (λ_ _ z=>z) ?_
  refine codeAny_handlers_suite_as ?_;refine lands_againW J2 λh6 GC sm6=>?_
  have I6:Inv X pins σ H2 {s' with heap:=h6}:=fl.inv I1 (by rw[hst];exact GC) (sm.trans sm6)
  obtain⟨oe,ws,hoe,hoec,hoed,_⟩:=GC.first;have hHe:H2 ea=none:=by
   cases z:H2 ea with
   |none=>rfl
   |some u=>
    obtain⟨o',q'⟩:=(fl.hok ea u z).is;rw[GC.2.1]at q';cases q'
  have nfr:ea∉frs (X.env::X.outer):=λhm'=>by
   obtain⟨_,o',q',hd⟩:=GC.2.2.1.mem hm';rw[hoe]at q';cases q';exact hd ws hoed
  have I6x:Inv (X.inX ea oe) pins σ H2 {s' with heap:=h6}:=I6.inX hoe hHe (λz=>nfr (List.mem_filterMap.mpr ⟨X.env,zas,by rw[hfr,z]⟩)) (λz=>nfr (by
   obtain⟨env,he',hf'⟩:=List.mem_filterMap.mp z;exact List.mem_filterMap.mpr ⟨env,zak _ he',hf'⟩)) (λv z=>by rw[hoed]at z;cases z)
  refine ox (X:=X.inX ea oe) I6x hN hi (.inl hln) (v:=.ref ea) rfl (λs7 I7=>?_) (.inr hln)
  refine za6 (hS cls ea oe hoec okc pins s7 _ H2 (D.drop i) I7 (hth ea hHe)) (λfl' s8 q8=>?_) (λ_ _ z=>z.elim)
  cases fl' with
  |next=>
   obtain⟨σ8,H8,I8,q8⟩:=q8;exact qV (I8.GA I.ok) hN hi hln λs9 I9=>⟨_,H8,I9,q8⟩
  |brk=>
   obtain⟨σ8,H8,I8,q8⟩:=q8;exact qV (I8.GA I.ok) hN hi hln λs9 I9=>⟨_,H8,I9,q8⟩
  |cont=>
   obtain⟨σ8,H8,I8,q8⟩:=q8;exact qV (I8.GA I.ok) hN hi hln λs9 I9=>⟨_,H8,I9,q8⟩
  |ret u=>
   obtain⟨v8,σ8,H8,I8,r8,q8⟩:=q8;exact qV (I8.GA I.ok) hN hi hln λs9 I9=>⟨v8,_,H8,I9,r8,q8⟩
end
end L2
namespace L2
open PySem PySem.Spec PyProof.Rows PySem.W Builtin Builtin.ObjectAttr Builtin.Getset_descriptor
section
variable{prog:Program}{w:World}{A:Around}{E:Value->Shared->Prop}{K:zag}{a D:Addr}{o:Obj}{h:Heap}{g:Array GenState}{d:Drawn}{t:Nat}{os:OsState}
structure zC(K:zag)(D:Addr):Prop where
 ga:findIn K (.ref D) "__getattribute__"=some (some (.builtin "BaseException.__getattribute__"))
 gn:findIn K (.ref D) "__getattr__"=some none
 ca:findIn K (.ref D) "__class__"=some (some (.builtin "object.__class__"))
 sub:subIn K (.ref D) (.type "BaseException")=some true
 mro:mroIn K D (.type "object")=some true
 gs:specialIn K (.builtin "object.__class__") "__get__"=some (some (.builtin "getset_descriptor.__get__"))
 tk:takesIn K (.builtin "object.__class__")=some true
 cls:(clsIn K D).isSome=true
theorem exc_type(hx:h.get? a=some o)(hc:o.cls=.ref D)(M:Model):Looks M h (typeOf (.ref a)) (.ref D):=hc▸(Looks.ld hx).andThen .now
theorem tO(X:K.In h)(hx:h.get? a=some o)(hc:o.cls=.ref D)(Z:zC K D)(hq:R (.ok (.ret (.ref D))) ⟨h,g,d,t,os⟩) :
  codeAny (model prog w) A (.call (.builtin "getset_descriptor.__get__") ⟨[.builtin "object.__class__",.ref a,tp],[]⟩) R ⟨h,g,d,t,os⟩:=by
 have L0:=exc_type hx hc (model prog w);have L1:=looks_mroIn (M:=model prog w) X Z.mro;refine codeAny_call_builtin KF.slot_gs.plain KF.entry_gs (KF.slot_gs.check _ _ _ _ _ _ _ _ KF.type_class (KF.args_gs _ _ _) ?_);unfold Builtin.«getset_descriptor.__get__» descrGet;rw[dga_obj];refine zaI (zaZ ?_);unfold descrGetter descrCheckInstance descrNameAndClass isInstance;simp only[KF.owner_class]
 repeat lk
 refine⟨Code.quiet_builtin _ (by decide+kernel),codeAny_builtin KF.entry_class ?_⟩
 unfold Builtin.«object.__class__» shownTypeOf
 repeat lk
 exact hq
theorem qN(X:K.In h)(hx:h.get? a=some o)(hc:o.cls=.ref D)(Z:zC K D)(hq:Q (.done (.ret (.ref D))) ⟨h,g,d,t,os⟩) :
  wpAny (model prog w) A (Builtin.«object.__getattribute__» ⟨[.ref a,.str "__class__" tk],[]⟩) Q E ⟨h,g,d,t,os⟩:=by
 have L0:=exc_type hx hc (model prog w);have L2:=looks_findIn (M:=model prog w) X Z.ca;have L3:=looks_specialIn (M:=model prog w) X Z.gs;have L4:=looks_takesIn (M:=model prog w) X Z.tk;unfold Builtin.«object.__getattribute__» find
 repeat (first|with_reducible refine wpAny_call (tO X hx hc Z ?_)|lk)
 exact hq
theorem rK(X:K.In h)(hx:h.get? a=some o)(hc:o.cls=.ref D)(Z:zC K D)(hq:Q (some (.ref D)) ⟨h,g,d,t+1,os⟩) :
  wpAny (model prog w) A (getAttr? (.ref a) "__class__") Q E ⟨h,g,d,t,os⟩:=by
 have L0:=exc_type hx hc (model prog w);have L1:=looks_findIn (M:=model prog w) X Z.ga;have L2:=looks_findIn (M:=model prog w) X Z.gn;unfold getAttr? getAttrBy? getAttrBy;refine zaI (wpAny_mkText (zaI (wpAny_attempt (wpAny_holding (zaI (L0.at (zaI (L1.at ?_))))))));show wpAny _ _ (getAttrByItsOwn _ _ _ _ _ _) _ _ _;unfold getAttrByItsOwn hookBefore;rw[if_pos (show onTheHeap (Value.ref D)=true from rfl)];refine zaI (L2.at ?_);have hck:∀{Q':Unit->Shared->Prop} {E':Value->Shared->Prop} {A':Around} {nv:Value} {t':Nat},Q' () ⟨h,g,d,t',os⟩->wpAny (model prog w) A' (checkBuiltinCall "BaseException.__getattribute__" ⟨[.ref a,nv],[]⟩) Q' E' ⟨h,g,d,t',os⟩:=fun{Q' E' A' nv t'} q'=>by
  have L5:=looks_subIn (M:=model prog w) X Z.sub;have hk:builtinKind "BaseException.__getattribute__"=some .slot:=by decide+kernel
  have hsplit:splitId "BaseException.__getattribute__"=some ("BaseException","__getattribute__"):=by decide+kernel
  have ha:=F.args_bexc_ga (.ref a) nv;have LI:Looks (model prog w) h (isInstance (.ref a) (.type "BaseException")) true:=L0.andThen L5;simp only[checkBuiltinCall,hk,hsplit];refine zaI ?_
  repeat (first|with_reducible refine Looks.at (by assumption) ?_|wp_step)
  exact q'
 have f3:=F.attr_ValueError.ga.bind (.ref a);refine zaI (wpAny_attempt (wpAny_holding ?_));show wpAny _ _ (boundAndCalled _ _ _) _ _ _;unfold boundAndCalled;rw[f3];refine zaI (zaZ ?_);refine wpAny_call (codeAny_call_builtin F.attr_ValueError.ga.plain F.entry_bexc_ga (hck (qN X hx hc Z ?_)));exact handed_on rfl (zaZ hq)
theorem xI(Z:zC K D)(hc:o.cls=.ref D):KitX K (.ref a) (.ref D) (λh=>h.get? a=some o) where
 ty:=λM _ _ hx=>exc_type hx hc M
 it:=λ_ _ X _=>by
  obtain⟨cd,hcd⟩:=Option.isSome_iff_exists.mp Z.cls;unfold clsIn at hcd;split at hcd
  ·rename_i c' d' cd' sl' ho
   intro A' Q' E' s' k q;unfold isType loadHead;exact zaI (wpAny_loadPart (k _ _ (X _ _ ho)) (zaZ q))
  ·cases hcd
 ne:=λh tp dd its n sl X htp=>by
  obtain⟨cd,hcd⟩:=Option.isSome_iff_exists.mp Z.cls;refine Bool.eq_false_iff.mpr λq=>?_
  have e:D=tp:=Value.ref.inj (beq_iff_eq.mp q);subst e;unfold clsIn at hcd;split at hcd
  ·rename_i c' d' cd' sl' ho
   have z:=(X _ _ ho).symm.trans htp;cases z
  ·cases hcd
 ca:=fun{_ _ _ _ _ s} X hx k=>by
  obtain⟨h,g,d,t,os⟩:=s;exact rK X hx hc Z k
end
section
variable{X:Cx}{e:Addr}{oe:Obj}{D:Addr}
def DY(K:zag)(e D:Addr):List V->Hp->VK->Prop:=λvs H Q=>
 (∃c cv b,vs=[.ref e,c]/\(∀u,RelV c u->u=cv)/\kitOne K (.ref D) cv=some b/\Q (.bl b) H)\/
 (∃tp cs cvs b,vs=[.ref e,.ref tp]/\H tp=some (.tup cs)/\(∀us,Vals cs us->us=cvs)/\kitAny K (.ref D) cvs=some b/\Q (.bl b) H)
theorem Co(hp:(e,oe)∈X.pn)(hc:oe.cls=.ref D)(Z:zC X.K D):eG X (.builtin "isinstance") (DY X.K e D):=by
 intro pins s σ H vs us Q I r h;have hx:=(I.pin (e,oe) (zaW _ hp)).1;rcases h with⟨c,cv,b,rfl,hcv,hk,q⟩|⟨tp,cs,cvs,b,rfl,ht,hcv,hk,q⟩
 ·cases r with
  |cons r1 r=>
   cases r with
   |cons r2 r=>
    cases r;obtain rfl:=r1;obtain rfl:=hcv _ r2;exact kia_one (xI (a:=e) Z hc) I.kIn hx hk (by intro z;cases z) λtk=>⟨.bl b,H,I.tok tk,rfl,q⟩
 ·cases r with
  |cons r1 r=>
   cases r with
   |cons r2 r=>
    cases r;obtain rfl:=r1;obtain rfl:=r2;obtain⟨z,its,rv,ob,eo,ec,n,ed⟩:=(I.hok tp _ ht).IC;obtain rfl:=hcv _ rv;obtain⟨oc,od,odt,osl⟩:=ob;dsimp only at ec ed;subst ec ed;exact kia_tup (xI (a:=e) Z hc) I.kIn hx eo hk (by intro z;cases z) λtk=>⟨.bl b,H,I.tok tk,rfl,q⟩
end
end L2
namespace Mir
open PySem L2
class Zc where
 e:Addr
instance (priority:=10) zc0:Zc:=⟨0⟩
variable [Zc]
def cIf{α:Type}(c:Prop)(a b : α) : α:=@ite α c (Classical.propDecidable c) a b
theorem b7(h:c):cIf c a b=a:=by unfold cIf;rw[if_pos h]
theorem GD(h : ¬c):cIf c a b=b:=by unfold cIf;rw[if_neg h]
theorem DZ:cIf True a b=a:=b7 trivial
theorem df(h:cIf c a none=some x):c/\a=some x:=by
 by_cases hc:c
 ·rw[b7 hc]at h;exact⟨hc,h⟩
 ·rw[GD hc]at h;cases h
abbrev D:=PyData
def vK:Key->D->Prop
 | .inl i,c=>c=.int i
 | .inr x,c=>c=.str x
mutual
inductive Rep(H:Hp):V->D->Prop
 |non:Rep H .non .none
 |bl (b:Bool):Rep H (.bl b) (.bool b)
 |int (i:Int):Rep H (.int i) (.int i)
 |str (x:Str):Rep H (.str x) (.str x)
 |lst {a:Addr} {xs:List V} {ds:List D}:Rd H a (.lst xs)->aY H xs ds->Rep H (.ref a) (.list ds)
 |tup {a:Addr} {xs:List V} {ds:List D}:H a=some (.tup xs)->aY H xs ds->Rep H (.ref a) (.tuple ds)
 |dct {a:Addr} {kvs:List (Key×V)} {es:List (D×D)}:Rd H a (.dK kvs)->bD H kvs es->Rep H (.ref a) (.dict es)
inductive aY(H:Hp):List V->List D->Prop
 |nil:aY H [] []
 |cons {x:V} {xs:List V} {d:D} {ds:List D}:Rep H x d->aY H xs ds->aY H (x::xs) (d::ds)
inductive bD(H:Hp):List (Key×V)->List (D×D)->Prop
 |nil:bD H [] []
 |cons {k:Key} {x:V} {kvs:List (Key×V)} {c d:D} {es:List (D×D)}:vK k c->Rep H x d->bD H kvs es->bD H ((k,x)::kvs) ((c,d)::es)
end
theorem fg(e:aG H H')(h:Rd H a u):Rd H' a u:=by
 rcases h with h|⟨o,h⟩
 ·exact .inl (e _ _ h)
 ·exact .inr ⟨o,e _ _ h⟩
mutual
theorem Rep.mono(e:aG H H'):∀{v:V} {d:D},Rep H v d->Rep H' v d
 |_,_,.non=>.non
 |_,_,.bl b=>.bl b
 |_,_,.int i=>.int i
 |_,_,.str x=>.str x
 |_,_,.lst h r=>.lst (fg e h) (aY.mono e r)
 |_,_,.tup h r=>.tup (e _ _ h) (aY.mono e r)
 |_,_,.dct h r=>.dct (fg e h) (bD.mono e r)
theorem aY.mono(e:aG H H'):∀{v:List V} {d:List D},aY H v d->aY H' v d
 |_,_,.nil=>.nil
 |_,_,.cons a b=>.cons (Rep.mono e a) (aY.mono e b)
theorem bD.mono(e:aG H H'):∀{v:List (Key×V)} {d:List (D×D)},bD H v d->bD H' v d
 |_,_,.nil=>.nil
 |_,_,.cons k a b=>.cons k (Rep.mono e a) (bD.mono e b)
end
theorem aY.length:∀{v:List V} {d:List D},aY H v d->v.length=d.length
 |_,_,.nil=>rfl
 |_,_,.cons _ b=>by simp[aY.length b]
theorem aY.get:∀{v:List V} {d:List D} (i:Nat),aY H v d->∀c,d[i]?=some c->∃x,v[i]?=some x/\Rep H x c
 |_,_,_,.nil,c,e=>by simp at e
 |_,_,0,.cons a _,c,e=>by simp at e;subst e;exact⟨_,rfl,a⟩
 |_,_,i+1,.cons _ b,c,e=>by
  obtain⟨x,h1,h2⟩:=aY.get i b c (by simpa using e)
  exact⟨x,by simpa using h1,h2⟩
theorem aY.append:∀{v w:List V} {d c:List D},aY H v d->aY H w c->aY H (v++w) (d++c)
 |_,_,_,_,.nil,r=>r
 |_,_,_,_,.cons a b,r=>.cons a (aY.append b r)
theorem aY.take:∀{v:List V} {d:List D} (n:Nat),aY H v d->aY H (v.take n) (d.take n)
 |_,_,0,_=>.nil
 |_,_,_+1,.nil=>.nil
 |_,_,n+1,.cons a b=>.cons a (aY.take n b)
theorem aY.drop:∀{v:List V} {d:List D} (n:Nat),aY H v d->aY H (v.drop n) (d.drop n)
 |_,_,0,r=>r
 |_,_,_+1,.nil=>.nil
 |_,_,n+1,.cons _ b=>aY.drop n b
theorem aY.set(r:Rep H x c):∀{v:List V} {d:List D} (i:Nat),aY H v d->aY H (v.set i x) (d.set i c)
 |_,_,_,.nil=>.nil
 |_,_,0,.cons _ b=>.cons r b
 |_,_,i+1,.cons a b=>.cons a (aY.set r i b)
theorem aY.eraseIdx:∀{v:List V} {d:List D} (i:Nat),aY H v d->aY H (v.eraseIdx i) (d.eraseIdx i)
 |_,_,_,.nil=>.nil
 |_,_,0,.cons _ b=>b
 |_,_,i+1,.cons a b=>.cons a (aY.eraseIdx i b)
theorem aY.dropLast(r:aY H v d):aY H v.dropLast d.dropLast:=by
 rw[List.dropLast_eq_take,List.dropLast_eq_take,r.length];exact r.take _
theorem aY.reverse:∀{v:List V} {d:List D},aY H v d->aY H v.reverse d.reverse
 |_,_,.nil=>.nil
 |_,_,.cons a b=>by rw[List.reverse_cons,List.reverse_cons];exact(aY.reverse b).append (.cons a .nil)
theorem aY.flat(r:aY H v d):∀k,aY H (List.replicate k v).flatten (List.replicate k d).flatten
 |0=>.nil
 |k+1=>by
  rw[zbc,zbc,List.flatten_cons,List.flatten_cons];exact r.append (aY.flat r k)
inductive Sl where
 |no|fz (d:D)|own (d:D)|io (d:D)|ro (d:D)|ex
def Sl.et:Sl->Bool
 | .own _=>true
 | .io _=>true
 |_=>false
def Sl.isRef:Sl->Bool
 | .own _=>true
 | .io _=>true
 | .ro _=>true
 |_=>false
theorem Sl.kS{s:Sl}(h:s.et=true):s.isRef=true:=by cases s<;>first|rfl|cases h
abbrev Rho:=List Sl
inductive Kd where
 |fz|new|at(i:Nat)|ro
abbrev RV:=D×Kd
inductive Own(B H:Hp)(p:Addr):D->Prop
 |lst {xs:List V} {ds:List D}:H p=some (.lst xs)->aY B xs ds->Own B H p (.list ds)
 |dct {kvs:List (Key×V)} {es:List (D×D)}:H p=some (.dK kvs)->bD B kvs es->Own B H p (.dict es)
theorem Own.there(h:Own B H p d):∃o,H p=some o:=by cases h with
 |lst h _=>exact⟨_,h⟩
 |dct h _=>exact⟨_,h⟩
theorem Own.kT(h:Own B H p d):H p≠none:=by
 obtain⟨o,e⟩:=h.there;rw[e];simp
theorem Own.mono(h:Own B H p d)(e:aG B B')(k:∀o,H p=some o->H' p=some o):Own B' H' p d:=by cases h with
 |lst h r=>exact .lst (k _ h) (r.mono e)
 |dct h r=>exact .dct (k _ h) (r.mono e)
theorem Own.md(h:Own B H p d)(xs:List V):H p≠some (.tup xs):=by cases h with
 |lst h _=>rw[h];simp
 |dct h _=>rw[h];simp
theorem Own.rep(h:Own B H p d)(e:aG B H):Rep H (.ref p) d:=by cases h with
 |lst h r=>exact .lst (.inl h) (r.mono e)
 |dct h r=>exact .dct (.inl h) (r.mono e)
theorem Own.frozen(h:Own B H p d)(e:aG B B')(k:∀o,H p=some o->B' p=some o):Rep B' (.ref p) d:=by cases h with
 |lst h r=>exact .lst (.inl (k _ h)) (r.mono e)
 |dct h r=>exact .dct (.inl (k _ h)) (r.mono e)
structure Fr where
 B:Hp
 H:Hp
 io:List (Nat×Addr)
 Z:Addr->Prop
def rM(B H:Hp)(σ:St)(i:Nat):Sl->Prop
 | .no=>True
 | .ex=>True
 | .fz d=>∃v,σ[i]?=some (some v)/\Rep B v d
 | .own d=>∃p,σ[i]?=some (some (.ref p))/\B p=none/\Own B H p d
 | .io d=>∃p,σ[i]?=some (some (.ref p))/\B p=none/\Own B H p d
 | .ro d=>∃p,σ[i]?=some (some (.ref p))/\Own B H p d
structure Rel(F:Fr)(B H:Hp)(σ:St)(ρ:Rho):Prop where
 sub:aG B H
 sB:aG F.B B
 sH:∀q o,F.H q=some o->(∀x∈F.io,x.2≠q)->H q=some o
 nB:∀q,F.H q≠none->F.B q=none->B q=none
 len : ρ.length=σ.length
 slot:∀(i:Nat) (s:Sl),ρ[i]?=some s->rM B H σ i s
 dist:∀(i j:Nat) (s t:Sl) (p:Addr),ρ[i]?=some s->s.et=true->ρ[j]?=some t->t.isRef=true->σ[i]?=some (some (.ref p))->σ[j]?=some (some (.ref p))->i=j
 kc:∀(i:Nat) (d:D) (p:Addr),ρ[i]?=some (.own d)->σ[i]?=some (some (.ref p))->F.H p=none
 fx:∀x∈F.io,σ[x.1]?=some (some (.ref x.2))/\∃d,ρ[x.1]?=some (.io d)
 ioN:∀(i:Nat) (d:D),ρ[i]?=some (.io d)->∃p,(i,p)∈F.io
 cW:∀q xs,H q=some (.tup xs)->B q=some (.tup xs)
 exv:∀i:Nat,ρ[i]?=some .ex->σ[i]?=some (some (.ref Zc.e))
 nz:∀q o u,H q=some (.frz o u)->F.Z q
structure Ext(σ:St)(ρ:Rho)(B H:Hp)(ρ':Rho)(B' H':Hp):Prop where
 sB:aG B B'
 keep:∀q o,H q=some o->(∀(i:Nat) (s:Sl),ρ[i]?=some s->s.et=true->σ[i]?≠some (some (.ref q)))->H' q=some o/\(B q=none->B' q=none)
 own:∀(i:Nat) (s':Sl),ρ'[i]?=some s'->s'.et=true->∃s,ρ[i]?=some s/\s.et=true
 ref:∀(i:Nat) (s':Sl),ρ'[i]?=some s'->s'.isRef=true->∃s,ρ[i]?=some s/\s.isRef=true
 live:∀q,H' q=none->H q=none
theorem Ext.refl(σ:St)(ρ:Rho)(B H:Hp):Ext σ ρ B H ρ B H:=⟨aG.refl _,λ_ _ h _=>⟨h,id⟩,λ_ s h e=>⟨s,h,e⟩,λ_ s h e=>⟨s,h,e⟩,λ_ h=>h⟩
theorem Ext.trans(a:Ext σ ρ B H ρ1 B1 H1)(b:Ext σ ρ1 B1 H1 ρ2 B2 H2):Ext σ ρ B H ρ2 B2 H2:=by
 refine⟨a.sB.trans b.sB,λq o h n=>?_,λi s h e=>?_,λi s h e=>?_,λq h=>a.live q (b.live q h)⟩
 ·obtain⟨h1,h2⟩:=a.keep q o h n
  obtain⟨h3,h4⟩:=b.keep q o h1 λi s e1 e2=>by
   obtain⟨s',e3,e4⟩:=a.own i s e1 e2;exact n i s' e3 e4
  exact⟨h3,λz=>h4 (h2 z)⟩
 ·obtain⟨s1,h1,e1⟩:=b.own i s h e
  exact a.own i s1 h1 e1
 ·obtain⟨s1,h1,e1⟩:=b.ref i s h e
  exact a.ref i s1 h1 e1
def slD:Sl->D
 | .own d=>d
 | .io d=>d
 | .ro d=>d
 | .fz d=>d
 | .no=>.none
 | .ex=>.none
def Val(F:Fr)(B H:Hp)(σ:St)(ρ:Rho)(v:V)(r:RV):Prop:=match r.2 with
 | .fz=>Rep B v r.1
 | .new=>∃p,v=.ref p/\B p=none/\F.H p=none/\Own B H p r.1/\∀(i:Nat) (s:Sl),ρ[i]?=some s->s.isRef=true->σ[i]?≠some (some (.ref p))
 | .at i=>∃s,ρ[i]?=some s/\s.et=true/\slD s=r.1/\σ[i]?=some (some v)
 | .ro=>∃p,v=.ref p/\Own B H p r.1/\∀(i:Nat) (s:Sl),ρ[i]?=some s->s.et=true->σ[i]?≠some (some (.ref p))
def View(B H:Hp)(v:V)(d:D):Prop:=Rep B v d\/∃p,v=.ref p/\Own B H p d
theorem View.rep(h:View B H v d)(e:aG B H):Rep H v d:=by
 rcases h with h|⟨p,rfl,h⟩
 ·exact h.mono e
 ·exact h.rep e
theorem View.list{ds:List D}(h:View B H v (.list ds))(e:aG B H):∃p xs,v=.ref p/\Rd H p (.lst xs)/\aY B xs ds:=by
 rcases h with h|⟨p,rfl,h⟩
 ·cases h with
  |lst h r=>exact⟨_,_,rfl,fg e h,r⟩
 ·cases h with
  |lst h r=>exact⟨_,_,rfl,.inl h,r⟩
theorem View.tuple{ds:List D}(h:View B H v (.tuple ds))(e:aG B H):∃p xs,v=.ref p/\H p=some (.tup xs)/\aY B xs ds:=by
 rcases h with h|⟨p,rfl,h⟩
 ·cases h with
  |tup h r=>exact⟨_,_,rfl,e _ _ h,r⟩
 ·cases h
theorem View.dict{es:List (D×D)}(h:View B H v (.dict es))(e:aG B H):∃p kvs,v=.ref p/\Rd H p (.dK kvs)/\bD B kvs es:=by
 rcases h with h|⟨p,rfl,h⟩
 ·cases h with
  |dct h r=>exact⟨_,_,rfl,fg e h,r⟩
 ·cases h with
  |dct h r=>exact⟨_,_,rfl,.inl h,r⟩
theorem View.int(h:View B H v (.int i)):v=.int i:=by
 rcases h with h|⟨p,rfl,h⟩
 ·cases h;rfl
 ·cases h
theorem View.bool(h:View B H v (.bool b)):v=.bl b:=by
 rcases h with h|⟨p,rfl,h⟩
 ·cases h;rfl
 ·cases h
theorem View.str(h:View B H v (.str x)):v=.str x:=by
 rcases h with h|⟨p,rfl,h⟩
 ·cases h;rfl
 ·cases h
theorem View.none(h:View B H v .none):v=.non:=by
 rcases h with h|⟨p,rfl,h⟩
 ·cases h;rfl
 ·cases h
section
variable{F:Fr}{B H B' H':Hp}{σ:St}{ρ ρ':Rho}{v:V}{r:RV}
theorem Rel.ownAt(R:Rel F B H σ ρ){i:Nat}(h : ρ[i]?=some s)(e:s.et=true):∃p,σ[i]?=some (some (.ref p))/\B p=Option.none/\Own B H p (slD s):=by
 have:=R.slot i s h;cases s with
 |own d=>exact this
 |io d=>exact this
 |_=>cases e
theorem Val.view(R:Rel F B H σ ρ)(h:Val F B H σ ρ v r):View B H v r.1:=by
 obtain⟨d,k⟩:=r;cases k with
 |fz=>exact .inl h
 |new=>obtain⟨p,rfl,_,_,o,_⟩:=h;exact .inr ⟨p,rfl,o⟩
 | «at» i=>
  obtain⟨s,h1,h2,h3,h4⟩:=h;obtain⟨p,e1,e2,e3⟩:=R.ownAt h1 h2;rw[h4]at e1;cases e1;exact .inr ⟨p,rfl,h3▸e3⟩
 |ro=>obtain⟨p,rfl,o,_⟩:=h;exact .inr ⟨p,rfl,o⟩
theorem Rel.uA(R:Rel F B H σ ρ)(h:Val F B H σ ρ v (d,.new)):∃B',Rel F B' H σ ρ/\Rep B' v d/\aG B B'/\∀q,v≠.ref q->B' q=B q:=by
 obtain⟨p,rfl,hB,hF,o,nn⟩:=h;obtain⟨ob,hp⟩:=o.there;have e:aG B (upd B p ob):=fO hB;have ne:∀(i:Nat) (s:Sl) (q:Addr),ρ[i]?=some s->s.isRef=true->σ[i]?=some (some (.ref q))->q≠p:=λi s q h1 h2 h3 z=>nn i s h1 h2 (z▸h3)
 refine⟨upd B p ob,⟨?_,R.sB.trans e,R.sH,?_,R.len,?_,R.dist,R.kc,R.fx,R.ioN,(λq xs h=>e _ _ (R.cW q xs h)),R.exv,R.nz⟩,?_,e,λq hq=>ax λz=>hq (z▸rfl)⟩
 ·intro q u hq
  by_cases z:q=p
  ·subst z;rw[aB]at hq;cases hq;exact hp
  ·rw[ax z]at hq;exact R.sub q u hq
 ·intro q h1 h2
  have z:q≠p:=λz=>h1 (z▸hF)
  rw[ax z];exact R.nB q h1 h2
 ·intro i s hs
  have q:=R.slot i s hs;cases s with
  |no=>trivial
  |ex=>trivial
  |fz d=>obtain⟨x,h1,h2⟩:=q;exact⟨x,h1,h2.mono e⟩
  |own d=>obtain⟨q,h1,h2,h3⟩:=q;exact⟨q,h1,by rw[ax (ne i _ q hs rfl h1)];exact h2,h3.mono e λ_ z=>z⟩
  |io d=>obtain⟨q,h1,h2,h3⟩:=q;exact⟨q,h1,by rw[ax (ne i _ q hs rfl h1)];exact h2,h3.mono e λ_ z=>z⟩
  |ro d=>obtain⟨q,h1,h3⟩:=q;exact⟨q,h1,h3.mono e λ_ z=>z⟩
 ·exact o.frozen e λu h=>by rw[aB,<-h,hp]
theorem get_set(h:(ρ.set i s)[j]?=some t):(j=i/\t=s/\i<ρ.length)\/(j≠i/\ρ[j]?=some t):=by
 by_cases z:j=i
 ·subst z
  have hl:j<ρ.length:=by
   have:=zac h;obtain⟨hh,_⟩:=this;simpa using hh
  rw[zav hl]at h;exact .inl ⟨rfl,(zaQ h).symm,hl⟩
 ·rw[zaA (λe=>z e.symm)]at h
  exact .inr ⟨z,h⟩
theorem vL(hs:s≠.ex)(h:(ρ.set i s)[j]?=some .ex) : ρ[j]?=some .ex/\j≠i:=by
 rcases get_set h with⟨_,z,_⟩|⟨hj,h⟩
 ·exact absurd z.symm hs
 ·exact⟨h,hj⟩
theorem Rel.D1(R:Rel F B H σ ρ)(hi : ρ[i]?=some (.own d))(hv : σ[i]?=some (some v)):∃B',Rel F B' H σ (ρ.set i (.fz d))/\Rep B' v d/\Ext σ ρ B H (ρ.set i (.fz d)) B' H:=by
 obtain⟨p,h1,hB,o⟩:=R.slot i _ hi;rw[hv]at h1;cases h1;have hF:=R.kc i d p hi hv;obtain⟨ob,hp⟩:=o.there;have e:aG B (upd B p ob):=fO hB;have rp:Rep (upd B p ob) (.ref p) d:=o.frozen e λu h=>by rw[aB,<-h,hp]
 have ne:∀(j:Nat) (s:Sl) (q:Addr),j≠i->ρ[j]?=some s->s.isRef=true->σ[j]?=some (some (.ref q))->q≠p:=λj s q hj h1 h2 h3 z=>hj (R.dist i j _ s p hi rfl h1 h2 hv (z▸h3)).symm
 refine⟨upd B p ob,⟨?_,R.sB.trans e,R.sH,?_,by rw[zaM];exact R.len,?_,?_,?_,?_,?_,(λq xs h=>e _ _ (R.cW q xs h)),(λj h=>R.exv j (vL (by simp) h).1),R.nz⟩,rp,⟨e,?_,?_,?_,λ_ h=>h⟩⟩
 ·intro q u hq
  by_cases z:q=p
  ·subst z;rw[aB]at hq;cases hq;exact hp
  ·rw[ax z]at hq;exact R.sub q u hq
 ·intro q h1 h2
  have z:q≠p:=λz=>h1 (z▸hF)
  rw[ax z];exact R.nB q h1 h2
 ·intro j s hs
  rcases get_set hs with⟨rfl,rfl,_⟩|⟨hj,hs⟩
  ·exact⟨_,hv,rp⟩
  ·have q:=R.slot j s hs
   cases s with
   |no=>trivial
   |ex=>trivial
   |fz d=>obtain⟨x,h1,h2⟩:=q;exact⟨x,h1,h2.mono e⟩
   |own d=>obtain⟨q,h1,h2,h3⟩:=q;exact⟨q,h1,by rw[ax (ne j _ q hj hs rfl h1)];exact h2,h3.mono e λ_ z=>z⟩
   |io d=>obtain⟨q,h1,h2,h3⟩:=q;exact⟨q,h1,by rw[ax (ne j _ q hj hs rfl h1)];exact h2,h3.mono e λ_ z=>z⟩
   |ro d=>obtain⟨q,h1,h3⟩:=q;exact⟨q,h1,h3.mono e λ_ z=>z⟩
 ·intro a b s t q h1 h2 h3 h4 h5 h6
  rcases get_set h1 with⟨rfl,rfl,_⟩|⟨ha,h1⟩
  ·cases h2
  ·rcases get_set h3 with⟨rfl,rfl,_⟩|⟨hb,h3⟩
   ·cases h4
   ·exact R.dist a b s t q h1 h2 h3 h4 h5 h6
 ·intro j c q h1 h2
  rcases get_set h1 with⟨rfl,h,_⟩|⟨_,h1⟩
  ·cases h
  ·exact R.kc j c q h1 h2
 ·intro x hx
  obtain⟨h1,c,h2⟩:=R.fx x hx;refine⟨h1,c,?_⟩
  by_cases z:i=x.1
  ·subst z;rw[hi]at h2;cases h2
  ·rw[zaA z];exact h2
 ·intro j c h1
  rcases get_set h1 with⟨rfl,h,_⟩|⟨_,h1⟩
  ·cases h
  ·exact R.ioN j c h1
 ·intro q u hq hn
  refine⟨hq,λz=>?_⟩
  rw[ax (show q≠p from λy=>hn i _ hi rfl (by rw[y];exact hv))];exact z
 ·intro j s h1 h2
  rcases get_set h1 with⟨rfl,rfl,_⟩|⟨_,h1⟩
  ·cases h2
  ·exact⟨s,h1,h2⟩
 ·intro j s h1 h2
  rcases get_set h1 with⟨rfl,rfl,_⟩|⟨_,h1⟩
  ·cases h2
  ·exact⟨s,h1,h2⟩
theorem Rel.free(R:Rel F B H σ ρ)(hp:H p=none):B p=none/\F.H p=none/\∀(i:Nat) (s:Sl),ρ[i]?=some s->s.isRef=true->σ[i]?≠some (some (.ref p)):=by
 have hB:B p=none:=R.sub.free hp;have nn:∀(i:Nat) (s:Sl),ρ[i]?=some s->s.isRef=true->σ[i]?≠some (some (.ref p)):=λi s h1 h2 h3=>by
  have q:=R.slot i s h1;cases s with
  |own d=>obtain⟨q,e1,_,e3⟩:=q;rw[h3]at e1;cases e1;exact e3.kT hp
  |io d=>obtain⟨q,e1,_,e3⟩:=q;rw[h3]at e1;cases e1;exact e3.kT hp
  |ro d=>obtain⟨q,e1,e3⟩:=q;rw[h3]at e1;cases e1;exact e3.kT hp
  |no=>cases h2
  |ex=>cases h2
  |fz d=>cases h2
 refine⟨hB,?_,nn⟩;cases q:F.H p with
 |none=>rfl
 |some u=>
  by_cases z:∃x∈F.io,x.2=p
  ·obtain⟨x,hx,rfl⟩:=z
   obtain⟨h1,d,h2⟩:=R.fx x hx;exact absurd h1 (nn _ _ h2 rfl)
  ·have:=R.sH p u q λx hx y=>z ⟨x,hx,y⟩
   rw[hp]at this;cases this
theorem Rel.grow(R:Rel F B H σ ρ)(eB:aG B B')(eH:aG H H')(sub:aG B' H')(nb:∀q,H q≠none->B q=none->B' q=none)(tB:∀q xs,H' q=some (.tup xs)->B' q=some (.tup xs))(nf:∀q o u,H' q=some (.frz o u)->H q≠none):Rel F B' H' σ ρ:=by
 have lv:∀q,F.H q≠none->H q≠none:=λq h z=>h (R.free z).2.1
 refine⟨sub,R.sB.trans eB,λq u h1 h2=>eH _ _ (R.sH q u h1 h2),λq h1 h2=>nb q (lv q h1) (R.nB q h1 h2),R.len,λi s hs=>?_,R.dist,R.kc,R.fx,R.ioN,tB,R.exv,λq o u h=>by
  cases y:H q with
  |none=>exact absurd y (nf q o u h)
  |some x=>
   have:=eH q x y;rw[h]at this;cases this;exact R.nz q o u y⟩
 have q:=R.slot i s hs;cases s with
 |no=>trivial
 |ex=>trivial
 |fz d=>obtain⟨x,h1,h2⟩:=q;exact⟨x,h1,h2.mono eB⟩
 |own d=>obtain⟨q,h1,h2,h3⟩:=q;exact⟨q,h1,nb q h3.kT h2,h3.mono eB λ_ z=>eH _ _ z⟩
 |io d=>obtain⟨q,h1,h2,h3⟩:=q;exact⟨q,h1,nb q h3.kT h2,h3.mono eB λ_ z=>eH _ _ z⟩
 |ro d=>obtain⟨q,h1,h3⟩:=q;exact⟨q,h1,h3.mono eB λ_ z=>eH _ _ z⟩
theorem Ext.grow(eB:aG B B')(eH:aG H H')(nb:∀q,H q≠none->B q=none->B' q=none):Ext σ ρ B H ρ B' H' :=
 ⟨eB,λq u h _=>⟨eH _ _ h,λz=>nb q (by rw[h];simp) z⟩,λ_ s h z=>⟨s,h,z⟩,λ_ s h z=>⟨s,h,z⟩,λq h=>eH.free h⟩
theorem Rel.lay(R:Rel F B H σ ρ)(hp:H p=none)(no:(∀xs,o≠.tup xs)/\∀a u,o≠.frz a u):Rel F B (upd H p o) σ ρ/\Ext σ ρ B H ρ B (upd H p o):=by
 have e:aG H (upd H p o):=fO hp;refine⟨R.grow (aG.refl _) e (R.sub.trans e) (λ_ _ z=>z) (λq xs h=>?_) (λq a u h y=>?_),Ext.grow (aG.refl _) e λ_ _ z=>z⟩
 ·by_cases z:q=p
  ·subst z;rw[aB]at h;cases h;exact absurd rfl (no.1 xs)
  ·rw[ax z]at h;exact R.cW q xs h
 ·by_cases z:q=p
  ·subst z;rw[aB]at h;cases h;exact no.2 _ _ rfl
  ·rw[ax z,y]at h;cases h
theorem Rel.tP(R:Rel F B H σ ρ)(hp:H p=none):Rel F (upd B p (.tup xs)) (upd H p (.tup xs)) σ ρ/\Ext σ ρ B H ρ (upd B p (.tup xs)) (upd H p (.tup xs))/\aG B (upd B p (.tup xs)):=by
 have hB:=(R.free hp).1;have eH:aG H (upd H p (.tup xs)):=fO hp;have eB:aG B (upd B p (.tup xs)):=fO hB;have nb:∀q,H q≠none->B q=none->upd B p (.tup xs) q=none:=λq h z=>by rw[ax (show q≠p from λy=>h (by rw[y];exact hp))];exact z
 refine⟨R.grow eB eH (λq u h=>?_) nb (λq ys h=>?_) (λq a u h y=>?_),Ext.grow eB eH nb,eB⟩
 ·by_cases z:q=p
  ·subst z;rw[aB]at h⊢;exact h
  ·rw[ax z]at h⊢;exact R.sub q u h
 ·by_cases z:q=p
  ·subst z;rw[aB]at h⊢;exact h
  ·rw[ax z]at h⊢;exact R.cW q ys h
 ·by_cases z:q=p
  ·subst z;rw[aB]at h;cases h
  ·rw[ax z,y]at h;cases h
end
end Mir
namespace Mir
open PySem L2
variable [Zc]
abbrev PM:=Rho->Option (RV×Rho)
def ME(t:TE)(m:PM):Prop :=
 ∀(F:Fr) (B H:Hp) (σ:St) (ρ:Rho) (r:RV) (ρ':Rho) (Q:VK),Rel F B H σ ρ->m ρ=some (r,ρ')->
  (∀v B' H',Ext σ ρ B H ρ' B' H'->Rel F B' H' σ ρ'->Val F B' H' σ ρ' v r->(∀p,r.2=.new->v=.ref p->H p=none)->Q v H')->t σ H Q
def MT(t:TT)(m:Rho->Option (Bool×Rho)):Prop :=
 ∀(F:Fr) (B H:Hp) (σ:St) (ρ:Rho) (b:Bool) (ρ':Rho) (Q:Bool->Hp->Prop),Rel F B H σ ρ->m ρ=some (b,ρ')->
  (∀B' H',Ext σ ρ B H ρ' B' H'->Rel F B' H' σ ρ'->Q b H')->t σ H Q
def Vl(F:Fr)(B H:Hp)(σ:St)(ρ:Rho):List V->List RV->Prop
 | [],[]=>True
 |v::vs,r::rs=>(Val F B H σ ρ v r/\r.2≠.new)/\Vl F B H σ ρ vs rs
 |_,_=>False
def MA(t:TA)(m:Rho->Option (List RV×Rho)):Prop :=
 ∀(F:Fr) (B H:Hp) (σ:St) (ρ:Rho) (rs:List RV) (ρ':Rho) (Q:List V->Hp->Prop),Rel F B H σ ρ->m ρ=some (rs,ρ')->
  (∀vs B' H',Ext σ ρ B H ρ' B' H'->Rel F B' H' σ ρ'->Vl F B' H' σ ρ' vs rs->Q vs H')->t σ H Q
def sv(m:PM):PM:=fun ρ=>match m ρ with
 |some ((d,.new),ρ')=>some ((d,.fz),ρ')
 |x=>x
theorem mZ(h:sv m ρ=some (r,ρ')):r.2≠.new:=by
 unfold sv at h;split at h
 ·cases h;simp
 ·rename_i hx
  intro e;obtain⟨d,k⟩:=r;cases(show k=.new from e);exact hx d ρ' h
theorem ME.sv(h:ME t m):ME t (sv m):=by
 intro F B H σ ρ r ρ' Q R e q;unfold Mir.sv at e;split at e
 ·rename_i d ρ1 e1
  cases e;refine h F B H σ ρ _ _ Q R e1 λv B' H' E R' V' N=>?_
  obtain⟨B2,R2,rp,s2,k2⟩:=R'.uA V';refine q v B2 H' ⟨E.sB.trans s2,λq o h1 h2=>?_,E.own,E.ref,E.live⟩ R2 rp (λ_ z=>by cases z)
  obtain⟨h3,h4⟩:=E.keep q o h1 h2;refine⟨h3,λz=>?_⟩
  rw[k2 q λy=>by
   have:=N q rfl y;rw[h1]at this;cases this]
  exact h4 z
 ·exact h F B H σ ρ r ρ' Q R e q
def nX(ρ:Rho)(r:RV):Option RV:=match r.2 with
 | .at i=>match ρ[i]? with
  |some (.own d)=>some (d,.at i)
  |some (.io d)=>some (d,.at i)
  |some (.fz d)=>some (d,.fz)
  |_=>none
 |_=>some r
section
variable{F:Fr}{B H B' H':Hp}{σ:St}{ρ ρ':Rho}{v:V}{r r':RV}
theorem Val.next(E:Ext σ ρ B H ρ' B' H')(R':Rel F B' H' σ ρ')(h:Val F B H σ ρ v r)(nn:r.2≠.new)(e:nX ρ' r=some r'):Val F B' H' σ ρ' v r'/\r'.2≠.new:=by
 obtain⟨d,k⟩:=r;cases k with
 |fz=>cases e;exact⟨Rep.mono E.sB h,nn⟩
 |new=>exact absurd rfl nn
 | «at» i=>
  obtain⟨s,h1,h2,h3,h4⟩:=h;have e':(match ρ'[i]? with
   |some (.own d)=>some (d,Kd.at i)
   |some (.io d)=>some (d,Kd.at i)
   |some (.fz d)=>some (d,Kd.fz)
   |_=>none)=some r':=e
  cases q : ρ'[i]? with
  |none=>rw[q]at e';cases e'
  |some s'=>
   rw[q]at e';cases s' with
   |own c=>cases e';exact⟨⟨_,q,rfl,rfl,h4⟩,by simp⟩
   |io c=>cases e';exact⟨⟨_,q,rfl,rfl,h4⟩,by simp⟩
   |fz c=>
    cases e';obtain⟨x,y1,y2⟩:=R'.slot i _ q;rw[h4]at y1;cases y1
    exact⟨y2,by simp⟩
   |no=>cases e'
   |ex=>cases e'
   |ro c=>cases e'
 |ro=>
  cases e;obtain⟨p,rfl,o,n⟩:=h;obtain⟨ob,hp⟩:=o.there;refine⟨⟨p,rfl,o.mono E.sB λu hu=>(E.keep p u hu n).1,λi s h1 h2=>?_⟩,nn⟩
  obtain⟨s0,h3,h4⟩:=E.own i s h1 h2;exact n i s0 h3 h4
end
def qp(B H:Hp)(res:D×Bool)(k:VK->Prop):Prop:=match res with
 |(d,false)=>∃v,Rep B v d/\∀Q:VK,Q v H->k Q
 |(.list ds,true)=>∃vs,aY B vs ds/\∀Q:VK,(∀p,H p=none->Q (.ref p) (upd H p (.lst vs)))->k Q
 |(.tuple ds,true)=>∃vs,aY B vs ds/\∀Q:VK,(∀p,H p=none->Q (.ref p) (upd H p (.tup vs)))->k Q
 |(.dict es,true)=>∃kvs,bD B kvs es/\∀Q:VK,(∀p,H p=none->Q (.ref p) (upd H p (.dK kvs)))->k Q
 |_=>False
def lZ:D×Bool->RV
 |(d,false)=>(d,.fz)
 |(.tuple ds,true)=>(.tuple ds,.fz)
 |(d,true)=>(d,.new)
theorem g7(R:Rel F B H σ ρ)(h:qp B H res k)
  (q:∀v B' H',Ext σ ρ B H ρ B' H'->Rel F B' H' σ ρ->Val F B' H' σ ρ v (lZ res)->(∀p,(lZ res).2=.new->v=.ref p->H p=none)->Q v H'):k Q:=by
 obtain⟨d,b⟩:=res;cases b with
 |false=>
  obtain⟨v,rp,hk⟩:=h;exact hk Q (q v B H (Ext.refl _ _ _ _) R rp λp z=>by cases z)
 |true=>
  cases d with
  |list ds=>
   obtain⟨vs,rp,hk⟩:=h;refine hk Q λp hp=>?_
   obtain⟨R',E⟩:=R.lay (o:=.lst vs) hp ⟨(λ_ z=>by cases z),λ_ _ z=>by cases z⟩
   obtain⟨hB,hF,nn⟩:=R.free hp;exact q _ B _ E R' ⟨p,rfl,hB,hF,.lst aB rp,nn⟩ λq _ z=>by cases z;exact hp
  |dict es=>
   obtain⟨kvs,rp,hk⟩:=h;refine hk Q λp hp=>?_
   obtain⟨R',E⟩:=R.lay (o:=.dK kvs) hp ⟨(λ_ z=>by cases z),λ_ _ z=>by cases z⟩
   obtain⟨hB,hF,nn⟩:=R.free hp;exact q _ B _ E R' ⟨p,rfl,hB,hF,.dct aB rp,nn⟩ λq _ z=>by cases z;exact hp
  |tuple ds=>
   obtain⟨vs,rp,hk⟩:=h;refine hk Q λp hp=>?_
   obtain⟨R',E,e⟩:=R.tP (xs:=vs) hp;exact q _ _ _ E R' (show Rep _ _ _ from .tup aB (rp.mono e)) λq z=>by cases z
  |none=>exact h.elim
  |bool _=>exact h.elim
  |int _=>exact h.elim
  |str _=>exact h.elim
def mC(d:D):PM:=fun ρ=>some ((d,.fz),ρ)
theorem GF(h:∀B,Rep B v d):ME (tC v) (mC d):=by
 intro F B H σ ρ r ρ' Q R e q;cases e;exact q v B H (Ext.refl _ _ _ _) R (h B) λp z=>by cases z
theorem az:ME (tC (.int i)) (mC (.int i)):=GF λ_=>.int i
theorem eP:ME (tC (.bl b)) (mC (.bool b)):=GF λ_=>.bl b
theorem jh:ME (tC .non) (mC .none):=GF λ_=>.non
theorem fG:ME (tC (.str x)) (mC (.str x)):=GF λ_=>.str x
def ai(i:Nat):PM:=fun ρ=>match ρ[i]? with
 |some (.fz d)=>some ((d,.fz),ρ)
 |some (.own d)=>some ((d,.at i),ρ)
 |some (.io d)=>some ((d,.at i),ρ)
 |some (.ro d)=>some ((d,.ro),ρ)
 |_=>none
theorem af:ME (nW i) (ai i):=by
 intro F B H σ ρ r ρ' Q R e q;unfold ai at e;cases hs : ρ[i]? with
 |none=>rw[hs]at e;cases e
 |some s=>
  rw[hs]at e;have sl:=R.slot i s hs;cases s with
  |no=>cases e
  |ex=>cases e
  |fz d=>
   cases e;obtain⟨v,h1,h2⟩:=sl;exact⟨v,h1,q v B H (Ext.refl _ _ _ _) R h2 λp z=>by cases z⟩
  |own d=>
   cases e;obtain⟨p,h1,h2,h3⟩:=sl;exact⟨_,h1,q _ B H (Ext.refl _ _ _ _) R ⟨_,hs,rfl,rfl,h1⟩ λp z=>by cases z⟩
  |io d=>
   cases e;obtain⟨p,h1,h2,h3⟩:=sl;exact⟨_,h1,q _ B H (Ext.refl _ _ _ _) R ⟨_,hs,rfl,rfl,h1⟩ λp z=>by cases z⟩
  |ro d=>
   cases e;obtain⟨p,h1,h3⟩:=sl;refine⟨_,h1,q _ B H (Ext.refl _ _ _ _) R ⟨p,rfl,h3,λj s h4 h5 h6=>?_⟩ λp z=>by cases z⟩
   have:=R.dist j i s _ p h4 h5 hs rfl h6 h1;subst this;rw[hs]at h4;cases h4;cases h5
def OpJ(r:R2)(g:D->D->Option (D×Bool)):Prop :=
 ∀(B H:Hp) (x y:V) (c d:D) (res:D×Bool),aG B H->View B H x c->View B H y d->g c d=some res->qp B H res λQ=>r x y H Q
def mOp(g:D->D->Option (D×Bool))(a b:PM):PM:=fun ρ=>(sv a ρ).bind λx=>(sv b x.2).bind λy=>(nX y.2 x.1).bind λr=>(g r.1 y.1.1).map λres=>(lZ res,y.2)
theorem av(J:OpJ r g)(ha:ME ta a)(hb:ME tb b):ME (tOp r ta tb) (mOp g a b):=by
 intro F B H σ ρ r0 ρ' Q R e q;obtain⟨x,e1,e⟩:=zaa e;obtain⟨y,e2,e⟩:=zaa e;obtain⟨r',e3,e⟩:=zaa e;obtain⟨res,e4,e⟩:=zab e;cases e;refine ha.sv F B H σ ρ x.1 x.2 _ R e1 λv B1 H1 E1 R1 V1 N1=>?_
 refine hb.sv F B1 H1 σ x.2 y.1 y.2 _ R1 e2 λu B2 H2 E2 R2 V2 N2=>?_
 obtain⟨V3,n3⟩:=V1.next E2 R2 (mZ e1) e3;refine g7 R2 (J B2 H2 v u r'.1 y.1.1 res R2.sub (V3.view R2) (V2.view R2) e4) λw B3 H3 E3 R3 V4 N4=>?_
 refine q w B3 H3 (E1.trans (E2.trans E3)) R3 V4 λp z1 z2=>?_
 exact E1.live p (E2.live p (N4 p z1 z2))
end Mir
namespace Mir
open PySem L2
variable [Zc]
theorem Ext.fresh(E:Ext σ ρ B H ρ' B' H')(h:H' p=none):H p=none:=E.live p h
def UnJ(r:V->Hp->VK->Prop)(g:D->Option (D×Bool)):Prop:=∀(B H:Hp) (x:V) (c:D) (res:D×Bool),aG B H->View B H x c->g c=some res->qp B H res λQ=>r x H Q
def mUn(g:D->Option (D×Bool))(a:PM):PM:=fun ρ=>(sv a ρ).bind λx=>(g x.1.1).map λres=>(lZ res,x.2)
theorem Lu(J:UnJ r g)(ha:ME ta a):ME (tUn r ta) (mUn g a):=by
 intro F B H σ ρ r0 ρ' Q R e q;obtain⟨x,e1,e⟩:=zaa e;obtain⟨res,e4,e⟩:=zab e;cases e;refine ha.sv F B H σ ρ x.1 x.2 _ R e1 λv B1 H1 E1 R1 V1 N1=>?_
 exact g7 R1 (J B1 H1 v x.1.1 res R1.sub (V1.view R1) e4) λw B3 H3 E3 R3 V4 N4=>q w B3 H3 (E1.trans E3) R3 V4 λp z1 z2=>E1.live p (N4 p z1 z2)
def asB:RV×Rho->Option (Bool×Rho)
 |((.bool b,_),ρ)=>some (b,ρ)
 |_=>none
theorem J3(h:asB x=some (b,ρ)):x.1.1=.bool b/\x.2=ρ:=by
 obtain⟨⟨d,k⟩,ρ0⟩:=x;cases d with
 |bool c=>cases h;exact⟨rfl,rfl⟩
 |_=>cases h
def aO(a:PM):Rho->Option (Bool×Rho):=fun ρ=>(sv a ρ).bind asB
theorem a9(ha:ME ta a):MT (DF ta) (aO a):=by
 intro F B H σ ρ b ρ' Q R e q;obtain⟨x,e1,e⟩:=zaa e;obtain⟨h1,h2⟩:=J3 e;refine ha.sv F B H σ ρ x.1 x.2 _ R e1 λv B1 H1 E1 R1 V1 N1=>?_
 have:=V1.view R1;rw[h1]at this;rw[h2]at E1 R1;exact⟨b,this.bool,q B1 H1 E1 R1⟩
theorem fP(ha:ME ta a):MT (tB ta) (aO a):=a9 ha
def pA(a b:Rho->Option (Bool×Rho)):Rho->Option (Bool×Rho):=fun ρ=>(a ρ).bind λx=>if x.1=true then b x.2 else some (false,x.2)
def mOr(a b:Rho->Option (Bool×Rho)):Rho->Option (Bool×Rho):=fun ρ=>(a ρ).bind λx=>if x.1=true then some (true,x.2)else b x.2
def ig(a:Rho->Option (Bool×Rho)):Rho->Option (Bool×Rho):=fun ρ=>(a ρ).map λx=>(!x.1,x.2)
section
variable{ta tb:TT}{a b:Rho->Option (Bool×Rho)}
theorem D2(ha:MT ta a)(hb:MT tb b):MT (Ld ta tb) (pA a b):=by
 intro F B H σ ρ c ρ' Q R e q;obtain⟨x,e1,e⟩:=zaa e;refine ha F B H σ ρ x.1 x.2 _ R e1 λB1 H1 E1 R1=>?_
 by_cases h:x.1=true
 ·rw[if_pos h]at e⊢
  exact hb F B1 H1 σ x.2 c ρ' Q R1 e λB2 H2 E2 R2=>q B2 H2 (E1.trans E2) R2
 ·rw[if_neg h]at e⊢
  cases e;exact q B1 H1 E1 R1
theorem gz(ha:MT ta a)(hb:MT tb b):MT (tOr ta tb) (mOr a b):=by
 intro F B H σ ρ c ρ' Q R e q;obtain⟨x,e1,e⟩:=zaa e;refine ha F B H σ ρ x.1 x.2 _ R e1 λB1 H1 E1 R1=>?_
 by_cases h:x.1=true
 ·rw[if_pos h]at e⊢
  cases e;exact q B1 H1 E1 R1
 ·rw[if_neg h]at e⊢
  exact hb F B1 H1 σ x.2 c ρ' Q R1 e λB2 H2 E2 R2=>q B2 H2 (E1.trans E2) R2
theorem fZ(ha:MT ta a):MT (Jw ta) (ig a):=by
 intro F B H σ ρ c ρ' Q R e q;obtain⟨x,e1,e⟩:=zab e;cases e;exact ha F B H σ ρ x.1 x.2 _ R e1 λB1 H1 E1 R1=>q B1 H1 E1 R1
end
section
variable{ta tb:TE}{a b:PM}
def Lv(a b:PM):PM:=fun ρ=>(aO a ρ).bind λx=>if x.1=true then b x.2 else some ((.bool false,.fz),x.2)
def M3(a b:PM):PM:=fun ρ=>(aO a ρ).bind λx=>if x.1=true then some ((.bool true,.fz),x.2)else b x.2
def Lw(a:PM):PM:=fun ρ=>(aO a ρ).map λx=>((.bool !x.1,.fz),x.2)
def M4(c:Rho->Option (Bool×Rho))(a b:PM):PM:=fun ρ=>(c ρ).bind λx=>if x.1=true then a x.2 else b x.2
end
def aI:Rho->Option (List RV×Rho):=fun ρ=>some ([],ρ)
def aj(a:PM)(m:Rho->Option (List RV×Rho)):Rho->Option (List RV×Rho):=fun ρ=>(sv a ρ).bind λx=>(m x.2).bind λy=>(nX y.2 x.1).map λr=>(r::y.1,y.2)
theorem aD:MA vy aI:=by
 intro F B H σ ρ rs ρ' Q R e q;cases e;exact q [] B H (Ext.refl _ _ _ _) R trivial
theorem ah(ha:ME ta a)(hr:MA tr m):MA (ie ta tr) (aj a m):=by
 intro F B H σ ρ rs ρ' Q R e q;obtain⟨x,e1,e⟩:=zaa e;obtain⟨y,e2,e⟩:=zaa e;obtain⟨r,e3,e⟩:=zab e;cases e;refine ha.sv F B H σ ρ x.1 x.2 _ R e1 λv B1 H1 E1 R1 V1 N1=>?_
 refine hr F B1 H1 σ x.2 y.1 y.2 _ R1 e2 λvs B2 H2 E2 R2 V2=>?_
 exact q (v::vs) B2 H2 (E1.trans E2) R2 ⟨V1.next E2 R2 (mZ e1) e3,V2⟩
def Cp(B:Hp)(σ:St)(v:V)(r:RV):Prop:=match r.2 with
 | .fz=>Rep B v r.1
 | .at i=>σ[i]?=some (some v)
 |_=>True
def WVl(B:Hp)(σ:St):List V->List RV->Prop
 | [],[]=>True
 |v::vs,r::rs=>Cp B σ v r/\WVl B σ vs rs
 |_,_=>False
theorem Vl.weak:∀{vs:List V} {rs:List RV},Vl F B H σ ρ vs rs->WVl B σ vs rs
 | [],[],_=>trivial
 |v::vs,r::rs,⟨⟨h,n⟩,t⟩=>by
  refine⟨?_,Vl.weak t⟩;obtain⟨d,k⟩:=r;cases k with
  |fz=>exact h
  | «at» i=>obtain⟨_,_,_,_,e⟩:=h;exact e
  |new=>trivial
  |ro=>trivial
theorem WVl.mono(e:aG B B'):∀{vs:List V} {rs:List RV},WVl B σ vs rs->WVl B' σ vs rs
 | [],[],_=>trivial
 |v::vs,r::rs,⟨h,t⟩=>by
  refine⟨?_,WVl.mono e t⟩;obtain⟨d,k⟩:=r;cases k with
  |fz=>exact Rep.mono e h
  | «at» i=>exact h
  |new=>trivial
  |ro=>trivial
def me(r:RV)(ρ:Rho):Option (D×Rho):=match r.2 with
 | .fz=>some (r.1,ρ)
 | .at i=>match ρ[i]? with
  |some (.own d)=>some (d,ρ.set i (.fz d))
  |some (.fz d)=>some (d,ρ)
  |_=>none
 |_=>none
def gA:List RV->Rho->Option (List D×Rho)
 | [],ρ=>some ([],ρ)
 |r::rs,ρ=>(me r ρ).bind λx=>(gA rs x.2).map λy=>(x.1::y.1,y.2)
section
variable{F:Fr}{B H:Hp}{σ:St}{ρ ρ':Rho}
theorem Rel.frz(R:Rel F B H σ ρ)(w:Cp B σ v r)(e:me r ρ=some (d,ρ')):∃B',Rel F B' H σ ρ'/\Rep B' v d/\Ext σ ρ B H ρ' B' H:=by
 obtain⟨c,k⟩:=r;cases k with
 |fz=>cases e;exact⟨B,R,w,Ext.refl _ _ _ _⟩
 |new=>cases e
 |ro=>cases e
 | «at» i=>
  have e':(match ρ[i]? with
   |some (.own d)=>some (d,ρ.set i (.fz d))
   |some (.fz d)=>some (d,ρ)
   |_=>none)=some (d,ρ'):=e
  cases q : ρ[i]? with
  |none=>rw[q]at e';cases e'
  |some s=>
   rw[q]at e';cases s with
   |own c=>cases e';exact R.D1 q w
   |fz c=>
    cases e';obtain⟨x,h1,h2⟩:=R.slot i _ q;have w' : σ[i]?=some (some v):=w;rw[w']at h1;cases h1
    exact⟨B,R,h2,Ext.refl _ _ _ _⟩
   |no=>cases e'
   |ex=>cases e'
   |io c=>cases e'
   |ro c=>cases e'
theorem Rel.tQ:∀{rs:List RV} {vs:List V} {ds:List D} {B:Hp} {ρ ρ':Rho},Rel F B H σ ρ->WVl B σ vs rs->gA rs ρ=some (ds,ρ')->∃B',Rel F B' H σ ρ'/\aY B' vs ds/\Ext σ ρ B H ρ' B' H
 | [],[],ds,B,ρ,ρ',R,_,e=>by cases e;exact⟨B,R,.nil,Ext.refl _ _ _ _⟩
 |r::rs,v::vs,ds,B,ρ,ρ',R,⟨w,ws⟩,e=>by
  obtain⟨x,e1,e⟩:=zaa e;obtain⟨y,e2,e⟩:=zab e;cases e;obtain⟨B1,R1,rp,E1⟩:=R.frz w e1;obtain⟨B2,R2,rps,E2⟩:=Rel.tQ R1 (ws.mono E1.sB) e2;exact⟨B2,R2,.cons (rp.mono E2.sB) rps,E1.trans E2⟩
 | [],_::_,_,_,_,_,_,h,_=>h.elim
 |_::_,[],_,_,_,_,_,h,_=>h.elim
end
def gB(m:Rho->Option (List RV×Rho)):PM:=fun ρ=>(m ρ).bind λx=>(gA x.1 x.2).bind λy=>cIf (y.1.length<=sizeLine) (some ((.tuple y.1,.fz),y.2)) none
def f6(m:Rho->Option (List RV×Rho)):PM:=fun ρ=>(m ρ).bind λx=>(gA x.1 x.2).bind λy=>cIf (y.1.length<=sizeLine) (some ((.list y.1,.new),y.2)) none
theorem dJ(h:MA t m):ME (Gk t) (gB m):=by
 intro F B H σ ρ r ρ' Q R e q;obtain⟨x,e1,e⟩:=zaa e;obtain⟨y,e2,e⟩:=zaa e;obtain⟨hz,e⟩:=df e
 ·cases e
  refine h F B H σ ρ x.1 x.2 _ R e1 λvs B1 H1 E1 R1 V1=>?_
  obtain⟨B2,R2,rp,E2⟩:=Rel.tQ R1 V1.weak e2;refine⟨by rw[rp.length];exact hz,λp hp=>?_⟩
  have:=g7 (res:=(.tuple y.1,true)) (k:=λQ=>∀p,H1 p=none->Q (.ref p) (upd H1 p (.tup vs))) (Q:=Q) R2 ⟨vs,rp,λQ h=>h⟩ λv B' H' E R' V' N=>q v B' H' (E1.trans (E2.trans E)) R' V' λp z=>by cases z
  exact this p hp
theorem f7(h:MA t m):ME (JJ t) (f6 m):=by
 intro F B H σ ρ r ρ' Q R e q;obtain⟨x,e1,e⟩:=zaa e;obtain⟨y,e2,e⟩:=zaa e;obtain⟨hz,e⟩:=df e
 ·cases e
  refine h F B H σ ρ x.1 x.2 _ R e1 λvs B1 H1 E1 R1 V1=>?_
  obtain⟨B2,R2,rp,E2⟩:=Rel.tQ R1 V1.weak e2;refine⟨by rw[rp.length];exact hz,λp hp=>?_⟩
  have:=g7 (res:=(.list y.1,true)) (k:=λQ=>∀p,H1 p=none->Q (.ref p) (upd H1 p (.lst vs))) (Q:=Q) R2 ⟨vs,rp,λQ h=>h⟩ λv B' H' E R' V' N=>q v B' H' (E1.trans (E2.trans E)) R' V' λp z1 z2=>E1.live p (N p z1 z2)
  exact this p hp
def Views(B H:Hp):List V->List D->Prop
 | [],[]=>True
 |v::vs,d::ds=>View B H v d/\Views B H vs ds
 |_,_=>False
theorem Vl.views(R:Rel F B H σ ρ):∀{vs:List V} {rs:List RV},Vl F B H σ ρ vs rs->Views B H vs (rs.map (·.1))
 | [],[],_=>trivial
 |v::vs,r::rs,⟨⟨h,n⟩,t⟩=>⟨h.view R,Vl.views R t⟩
def qq(r:List V->Hp->VK->Prop)(g:List D->Option (D×Bool)):Prop:=∀(B H:Hp) (vs:List V) (ds:List D) (res:D×Bool),aG B H->Views B H vs ds->g ds=some res->qp B H res λQ=>r vs H Q
def mCB(g:List D->Option (D×Bool))(m:Rho->Option (List RV×Rho)):PM:=fun ρ=>(m ρ).bind λx=>(g (x.1.map (·.1))).map λres=>(lZ res,x.2)
theorem cq(J:qq r g)(h:MA t m):ME (tCB r t) (mCB g m):=by
 intro F B H σ ρ r0 ρ' Q R e q;obtain⟨x,e1,e⟩:=zaa e;obtain⟨res,e4,e⟩:=zab e;cases e;refine h F B H σ ρ x.1 x.2 _ R e1 λvs B1 H1 E1 R1 V1=>?_
 exact g7 R1 (J B1 H1 vs _ res R1.sub (V1.views R1) e4) λw B3 H3 E3 R3 V4 N4=>q w B3 H3 (E1.trans E3) R3 V4 λp z1 z2=>E1.live p (N4 p z1 z2)
def iR:Rho->Option (Option Int×Rho):=fun ρ=>some (none,ρ)
def asI:RV×Rho->Option (Int×Rho)
 |((.int i,_),ρ)=>some (i,ρ)
 |_=>none
theorem D3(h:asI x=some (b,ρ)):x.1.1=.int b/\x.2=ρ:=by
 obtain⟨⟨d,k⟩,ρ0⟩:=x;cases d with
 |int c=>cases h;exact⟨rfl,rfl⟩
 |_=>cases h
def gC(a:PM):Rho->Option (Option Int×Rho):=fun ρ=>((sv a ρ).bind asI).map λx=>(some x.1,x.2)
def MO(t:TO)(m:Rho->Option (Option Int×Rho)):Prop :=
 ∀(F:Fr) (B H:Hp) (σ:St) (ρ:Rho) (b:Option Int) (ρ':Rho) (Q:Option Int->Hp->Prop),Rel F B H σ ρ->m ρ=some (b,ρ')->
  (∀B' H',Ext σ ρ B H ρ' B' H'->Rel F B' H' σ ρ'->Q b H')->t σ H Q
theorem vM:MO AM iR:=by
 intro F B H σ ρ b ρ' Q R e q;cases e;exact q B H (Ext.refl _ _ _ _) R
theorem kU(ha:ME ta a):MO (Iw ta) (gC a):=by
 intro F B H σ ρ b ρ' Q R e q;obtain⟨y,e1,e⟩:=zab e;obtain⟨x,e2,e3⟩:=zaa e1;cases e;obtain⟨h1,h2⟩:=D3 (b:=y.1) (ρ:=y.2) e3;refine ha.sv F B H σ ρ x.1 x.2 _ R e2 λv B1 H1 E1 R1 V1 N1=>?_
 have:=V1.view R1;rw[h1]at this;rw[h2]at E1 R1;exact⟨y.1,this.int,q B1 H1 E1 R1⟩
def SlJ(r:V->Option Int->Option Int->Hp->VK->Prop)(g:D->Option Int->Option Int->Option (D×Bool)):Prop :=
 ∀(B H:Hp) (x:V) (c:D) (l u:Option Int) (res:D×Bool),aG B H->View B H x c->g c l u=some res->qp B H res λQ=>r x l u H Q
def mSl(g:D->Option Int->Option Int->Option (D×Bool))(a:PM)(l u:Rho->Option (Option Int×Rho)):PM:=fun ρ=>(sv a ρ).bind λx=>(l x.2).bind λy=>(u y.2).bind λz=>(nX z.2 x.1).bind λr=>(g r.1 y.1 z.1).map λres=>(lZ res,z.2)
theorem xJ(J:SlJ r g)(ha:ME ta a)(hl:MO tl l)(hu:MO tu u):ME (tSl r ta tl tu) (mSl g a l u):=by
 intro F B H σ ρ r0 ρ' Q R e q;obtain⟨x,e1,e⟩:=zaa e;obtain⟨y,e2,e⟩:=zaa e;obtain⟨z,e3,e⟩:=zaa e;obtain⟨r',e4,e⟩:=zaa e;obtain⟨res,e5,e⟩:=zab e;cases e;refine ha.sv F B H σ ρ x.1 x.2 _ R e1 λv B1 H1 E1 R1 V1 N1=>?_
 refine hl F B1 H1 σ x.2 y.1 y.2 _ R1 e2 λB2 H2 E2 R2=>?_
 refine hu F B2 H2 σ y.2 z.1 z.2 _ R2 e3 λB3 H3 E3 R3=>?_
 obtain⟨V3,n3⟩:=V1.next (E2.trans E3) R3 (mZ e1) e4;exact g7 R3 (J B3 H3 v r'.1 y.1 z.1 res R3.sub (V3.view R3) e5) λw B4 H4 E4 R4 V4 N4=>q w B4 H4 ((E1.trans (E2.trans E3)).trans E4) R4 V4 λp z1 z2=>(E1.trans (E2.trans E3)).live p (N4 p z1 z2)
end Mir
namespace Mir
open PySem L2
variable [Zc]
mutual
def eQ:D->Bool
 | .none=>true
 | .bool _=>true
 | .int _=>true
 | .str _=>true
 | .list _=>false
 | .tuple ds=>bc ds
 | .dict _=>false
def bc:List D->Bool
 | []=>true
 |d::ds=>eQ d&&bc ds
end
mutual
theorem Rep.d4(k:∀q xs,B q=some (.tup xs)->B' q=some (.tup xs)):∀{v:V} {d:D},Rep B v d->eQ d=true->Rep B' v d
 |_,_,.non,_=>.non
 |_,_,.bl b,_=>.bl b
 |_,_,.int i,_=>.int i
 |_,_,.str x,_=>.str x
 |_,_,.lst _ _,h=>by simp[eQ]at h
 |_,_,.dct _ _,h=>by simp[eQ]at h
 |_,_,.tup h r,e=>.tup (k _ _ h) (aY.d4 k r (by simpa[eQ]using e))
theorem aY.d4(k:∀q xs,B q=some (.tup xs)->B' q=some (.tup xs)):∀{v:List V} {d:List D},aY B v d->bc d=true->aY B' v d
 |_,_,.nil,_=>.nil
 |_,_,.cons a b,e=>by
  simp only[bc,Bool.and_eq_true]at e;exact .cons (Rep.d4 k a e.1) (aY.d4 k b e.2)
end
theorem bD.d4(k:∀q xs,B q=some (.tup xs)->B' q=some (.tup xs)):∀{v:List (Key×V)} {d:List (D×D)},bD B v d->bc (d.map (·.2))=true->bD B' v d
 |_,_,.nil,_=>.nil
 |_,_,.cons c a b,e=>by
  simp only[List.map_cons,bc,Bool.and_eq_true]at e;exact .cons c (Rep.d4 k a e.1) (bD.d4 k b e.2)
def fB(d:D)(o:Bool):Bool:=match o,d with
 |true,.list ds=>bc ds
 |true,.dict es=>bc (es.map (·.2))
 |true,_=>false
 |false,d=>eQ d
structure Post(B H:Hp)(v:V)(B' H':Hp)(d:D)(o:Bool):Prop where
 eH:aG H H'
 eB:aG B B'
 sub:aG B' H'
 nb:∀q,H q≠none->B q=none->B' q=none
 tB:∀q xs,H' q=some (.tup xs)->B' q=some (.tup xs)
 nz:∀q o u,H' q=some (.frz o u)->H q≠none
 val:if o=true then∃p,v=.ref p/\H p=none/\B' p=none/\Own B' H' p d else Rep B' v d
def spM(f:List D->Option (D×Bool)):Sp:=λvs H Q _=>∃B ds d o,aG B H/\(∀q xs,H q=some (.tup xs)->B q=some (.tup xs))/\aY B vs ds/\f ds=some (d,o)/\∀v B' H',Post B H v B' H' d o->Q v H'
def kO(d:D)(o:Bool):RV:=(d,if o=true then .new else .fz)
def b4(f:List D->Option (D×Bool))(m:Rho->Option (List RV×Rho)):PM:=fun ρ=>(m ρ).bind λx=>(f (x.1.map (·.1))).bind λw=>
 if fB w.1 w.2=true then some (kO w.1 w.2,x.2)else(gA x.1 x.2).map λy=>(kO w.1 w.2,y.2)
theorem Views.reps(e:aG B H):∀{vs:List V} {ds:List D},Views B H vs ds->aY H vs ds
 | [],[],_=>.nil
 |v::vs,d::ds,⟨h,t⟩=>.cons (h.rep e) (Views.reps e t)
theorem xK:∀{rs:List RV} {ρ ρ':Rho} {ds:List D},(∀r∈rs,∀i,r.2=.at i->∃s,ρ[i]?=some s/\slD s=r.1)->gA rs ρ=some (ds,ρ')->ds=rs.map (·.1)
 | [],_,_,_,_,e=>by cases e;rfl
 |r::rs,ρ,ρ',ds,h,e=>by
  obtain⟨x,e1,e⟩:=zaa e;obtain⟨y,e2,e⟩:=zab e;cases e;have hx:x.1=r.1/\∀(i:Nat) (s:Sl),ρ[i]?=some s->∃s',x.2[i]?=some s'/\slD s'=slD s:=by
   obtain⟨d,k⟩:=r;cases k with
   |fz=>cases e1;exact⟨rfl,λi s h=>⟨s,h,rfl⟩⟩
   |new=>cases e1
   |ro=>cases e1
   | «at» i=>
    obtain⟨s,h1,h2⟩:=h (d,.at i) (by simp) i rfl
    have e':(match ρ[i]? with
     |some (.own d)=>some (d,ρ.set i (.fz d))
     |some (.fz d)=>some (d,ρ)
     |_=>none)=some x:=e1
    rw[h1]at e';cases s with
    |own c=>
     cases e';refine⟨h2,λj t hj=>?_⟩
     by_cases z:j=i
     ·subst z
      rw[h1]at hj;cases hj
      obtain⟨hl,_⟩:=zac h1;exact⟨.fz c,by rw[zav hl],rfl⟩
     ·exact⟨t,by rw[zaA (λe=>z e.symm)];exact hj,rfl⟩
    |fz c=>cases e';exact⟨h2,λi s h=>⟨s,h,rfl⟩⟩
    |no=>cases e'
    |ex=>cases e'
    |io c=>cases e'
    |ro c=>cases e'
  rw[zaz,hx.1,xK (ρ:=x.2) (λr hr i hi=>?_) e2]
  obtain⟨s,h1,h2⟩:=h r (zak _ hr) i hi;obtain⟨s',h3,h4⟩:=hx.2 i s h1;exact⟨s',h3,h4.trans h2⟩
theorem Vl.at:∀{vs:List V} {rs:List RV},Vl F B H σ ρ vs rs->∀r∈rs,∀i,r.2=.at i->∃s,ρ[i]?=some s/\slD s=r.1
 | [],[],_,r',hr,i,hi=>by cases hr
 |v::vs,r::rs,⟨⟨h,_⟩,t⟩,r',hr,i,hi=>by
  rcases zaf hr with rfl|hr
  ·obtain⟨d,k⟩:=r'
   cases(show k=.at i from hi);obtain⟨s,h1,_,h2,_⟩:=h;exact⟨s,h1,h2⟩
  ·exact Vl.at t r' hr i hi
theorem bZ(h:MA t m):ME (jc (spM f) [] E t) (b4 f m):=by
 intro F B H σ ρ r0 ρ' Q R e q;obtain⟨x,e1,e⟩:=zaa e;obtain⟨w,e2,e⟩:=zaa e;refine h F B H σ ρ x.1 x.2 _ R e1 λvs B1 H1 E1 R1 V1=>?_
 rw[zaR]
 by_cases hp:fB w.1 w.2=true
 ·rw[if_pos hp]at e
  cases e;refine⟨H1,_,w.1,w.2,aG.refl _,λ_ _ z=>z,(V1.views R1).reps R1.sub,e2,λv B' H' P=>?_⟩
  let B2:Hp:=λq=>if H1 q=none then B' q else B1 q
  have old:∀q,H1 q≠none->B2 q=B1 q:=λq z=>if_neg z
  have new:∀q,H1 q=none->B2 q=B' q:=λq z=>if_pos z
  have eB:aG B1 B2:=λq o z=>by rw[old q (by rw[R1.sub q o z];simp)];exact z
  have sub:aG B2 H':=λq o z=>by
   by_cases y:H1 q=none
   ·rw[new q y]at z;exact P.sub q o z
   ·rw[old q y]at z;exact P.eH q o (R1.sub q o z)
  have nb:∀q,H1 q≠none->B1 q=none->B2 q=none:=λq y z=>by rw[old q y];exact z
  have tB:∀q xs,H' q=some (.tup xs)->B2 q=some (.tup xs):=λq xs z=>by
   cases y:H1 q with
   |none=>rw[new q y];exact P.tB q xs z
   |some o=>
    have:=P.eH q o y;rw[z]at this;cases this;rw[old q (by rw[y];simp)];exact R1.cW q xs y
  have kt:∀q xs,B' q=some (.tup xs)->B2 q=some (.tup xs):=λq xs z=>tB q xs (P.sub q _ z)
  have R2:=R1.grow eB P.eH sub nb tB P.nz;have E2:Ext σ x.2 B1 H1 x.2 B2 H':=Ext.grow eB P.eH nb;obtain⟨d,o⟩:=w;cases o with
  |false=>
   have pv:Rep B' v d:=P.val;exact q v B2 H' (E1.trans E2) R2 (show Rep B2 v d from pv.d4 kt hp) λp z=>by cases z
  |true=>
   obtain⟨p,rfl,h1,h2,h3⟩:∃p,v=.ref p/\H1 p=none/\B' p=none/\Own B' H' p d:=P.val;have fr:=R1.free h1;refine q _ B2 H' (E1.trans E2) R2 ⟨p,rfl,by rw[new p h1];exact h2,fr.2.1,?_,fr.2.2⟩ λp' _ z=>by cases z;exact E1.live p h1
   cases h3 with
   |lst h r=>exact .lst h (r.d4 kt hp)
   |dct h r=>exact .dct h (r.d4 kt hp)
 ·rw[if_neg hp]at e
  obtain⟨y,e3,e⟩:=zab e;cases e;obtain⟨B2,R2,rp,E2⟩:=Rel.tQ R1 V1.weak e3;have hd:=xK V1.at e3;rw[hd]at rp;refine⟨B2,_,w.1,w.2,R2.sub,R2.cW,rp,e2,λv B' H' P=>?_⟩
  have R3:=R2.grow P.eB P.eH P.sub P.nb P.tB P.nz;have E3:Ext σ y.2 B2 H1 y.2 B' H':=Ext.grow P.eB P.eH P.nb;obtain⟨d,o⟩:=w;cases o with
  |false=>
   have pv:Rep B' v d:=P.val;exact q v B' H' (E1.trans (E2.trans E3)) R3 pv λp z=>by cases z
  |true=>
   obtain⟨p,rfl,h1,h2,h3⟩:∃p,v=.ref p/\H1 p=none/\B' p=none/\Own B' H' p d:=P.val;have fr:=R2.free h1;exact q _ B' H' (E1.trans (E2.trans E3)) R3 ⟨p,rfl,h2,fr.2.1,h3,fr.2.2⟩ λp' _ z=>by cases z;exact E1.live p h1
def xM(B H:Hp)(x:V)(H':Hp)(d:D):Prop:=(H'=H/\Rep B x d)\/∃p xs cs,d=.tuple cs/\x=.ref p/\H p=none/\H'=upd H p (.tup xs)/\aY B xs cs
def oE(G B:Hp)(J:It)(ds:List D):Prop:=∀H,aG G H->J.stop ds.length H/\∀(i:Nat) (d:D),ds[i]?=some d->J.go i H/\∀x H',J.yld i H x H'->xM B H x H' d
theorem oE.mono(h:oE G B J ds)(e:aG B B'):oE G B' J ds:=λH s=>⟨(h H s).1,λi d hd=>⟨((h H s).2 i d hd).1,λx H' y=>by
 rcases((h H s).2 i d hd).2 x H' y with⟨h1,h2⟩|⟨p,xs,cs,h1,h2,h3,h4,h5⟩
 ·exact .inl ⟨h1,h2.mono e⟩
 ·exact .inr ⟨p,xs,cs,h1,h2,h3,h4,h5.mono e⟩⟩⟩
def MI(t:TI)(m:Rho->Option (List D×Rho)):Prop :=
 ∀(F:Fr) (B H:Hp) (σ:St) (ρ:Rho) (ds:List D) (ρ':Rho) (Q:It->Hp->Prop),Rel F B H σ ρ->m ρ=some (ds,ρ')->
  (∀J B' H',Ext σ ρ B H ρ' B' H'->Rel F B' H' σ ρ'->oE H' B' J ds->Q J H')->t σ H Q
def MF(t:TI)(m:Rho->Option (List D×Rho)):Prop :=
 ∀(F:Fr) (B H:Hp) (σ:St) (ρ:Rho) (ds:List D) (ρ':Rho) (Q:It->Hp->Prop),Rel F B H σ ρ->m ρ=some (ds,ρ')->
  (∀J B' H',Ext σ ρ B H ρ' B' H'->Rel F B' H' σ ρ'->oE B' B' J ds->Q J H')->t σ H Q
theorem ke(h:Rd H p (.lst xs)):SqL K H p xs:=.inl h
theorem D4(h:Rd G p (.lst xs))(r:aY B xs ds):oE G B (Itl K p) ds:=λH s=>by
 have h':SqL K H p xs:=ke (fg s h);refine⟨⟨xs,h',by rw[r.length];exact zap _⟩,λi d hd=>?_⟩
 obtain⟨x,h1,h2⟩:=r.get i d hd;refine⟨⟨xs,x,h',h1⟩,λy H' hy=>.inl ⟨hy.1,?_⟩⟩
 have:=hy.2 xs h';rw[h1]at this;cases this;exact h2
theorem D6(h:G p=some (.tup xs))(r:aY B xs ds):oE G B (Itt K p) ds:=λH s=>by
 have h':SqT K H p xs:=.inl (.inl (s _ _ h));refine⟨⟨xs,h',by rw[r.length];exact zap _⟩,λi d hd=>?_⟩
 obtain⟨x,h1,h2⟩:=r.get i d hd;refine⟨⟨xs,x,h',h1⟩,λy H' hy=>.inl ⟨hy.1,?_⟩⟩
 have:=hy.2 xs h';rw[h1]at this;cases this;exact h2
def asL:D->Option (List D)
 | .list ds=>some ds
 |_=>none
def asT:D->Option (List D)
 | .tuple ds=>some ds
 |_=>none
theorem zD(h:asL d=some ds):d=.list ds:=by cases d<;>first|cases h;rfl|cases h
theorem D8(h:asT d=some ds):d=.tuple ds:=by cases d<;>first|cases h;rfl|cases h
def pB(a:PM):Rho->Option (List D×Rho):=fun ρ=>(sv a ρ).bind λx=>(asL x.1.1).map λds=>(ds,x.2)
def xN(a:PM):Rho->Option (List D×Rho):=fun ρ=>(sv a ρ).bind λx=>(asT x.1.1).map λds=>(ds,x.2)
def D9(a:PM):Rho->Option (List D×Rho):=fun ρ=>(sv a ρ).bind λx=>(me x.1 x.2).bind λy=>(asL y.1).map λds=>(ds,y.2)
section
variable{K:zag}{ta:TE}{a:PM}
theorem qW(ha:ME ta a):MI (xu K ta) (pB a):=by
 intro F B H σ ρ ds ρ' Q R e q;obtain⟨x,e1,e⟩:=zaa e;obtain⟨ds',e2,e⟩:=zab e;cases e;refine ha.sv F B H σ ρ x.1 x.2 _ R e1 λv B1 H1 E1 R1 V1 N1=>?_
 have w:=V1.view R1;rw[zD e2]at w;obtain⟨p,xs,rfl,h1,h2⟩:=w.list R1.sub;exact⟨p,rfl,⟨xs,ke h1⟩,q _ B1 H1 E1 R1 (D4 h1 h2)⟩
theorem Ea(ha:ME ta a):MI (Gh K ta) (xN a):=by
 intro F B H σ ρ ds ρ' Q R e q;obtain⟨x,e1,e⟩:=zaa e;obtain⟨ds',e2,e⟩:=zab e;cases e;refine ha.sv F B H σ ρ x.1 x.2 _ R e1 λv B1 H1 E1 R1 V1 N1=>?_
 have w:=V1.view R1;rw[D8 e2]at w;obtain⟨p,xs,rfl,h1,h2⟩:=w.tuple R1.sub;exact⟨p,rfl,⟨xs,.inl (.inl h1)⟩,q _ B1 H1 E1 R1 (D6 h1 h2)⟩
theorem Eb(ha:ME ta a):MF (Gh K ta) (xN a):=by
 intro F B H σ ρ ds ρ' Q R e q;obtain⟨x,e1,e⟩:=zaa e;obtain⟨ds',e2,e⟩:=zab e;cases e;refine ha.sv F B H σ ρ x.1 x.2 _ R e1 λv B1 H1 E1 R1 V1 N1=>?_
 have w:=V1.view R1;rw[D8 e2]at w;obtain⟨p,xs,rfl,h1,h2⟩:=w.tuple R1.sub;exact⟨p,rfl,⟨xs,.inl (.inl h1)⟩,q _ B1 H1 E1 R1 (D6 (R1.cW _ _ h1) h2)⟩
theorem GG(ha:ME ta a):MF (xu K ta) (D9 a):=by
 intro F B H σ ρ ds ρ' Q R e q;obtain⟨x,e1,e⟩:=zaa e;obtain⟨y,e3,e⟩:=zaa e;obtain⟨ds',e2,e⟩:=zab e;cases e;refine ha.sv F B H σ ρ x.1 x.2 _ R e1 λv B1 H1 E1 R1 V1 N1=>?_
 have w:Cp B1 σ v x.1:=(Vl.weak (F:=F) (H:=H1) (ρ:=x.2) (vs:=[v]) (rs:=[x.1]) ⟨⟨V1,mZ e1⟩,trivial⟩).1;obtain⟨B2,R2,rp,E2⟩:=R1.frz w e3;rw[zD e2]at rp;cases rp with
 |lst h r=>exact⟨_,rfl,⟨_,ke (fg R2.sub h)⟩,q _ B2 H1 (E1.trans E2) R2 (D4 h r)⟩
end
def xO(lo:Int)(n:Nat):List D:=(List.range n).map λ(k:Nat)=>PyData.int (lo+(k:Int))
theorem J4:oE G B (Itr lo n) (xO lo n):=λH _=>by
 refine⟨by simp[xO,Itr],λi d hd=>?_⟩
 rw[xO,zao]at hd;obtain⟨k,h1,h2⟩:=zab hd;have hk:=zac h1;obtain⟨hl,hk⟩:=hk;rw[List.getElem_range]at hk;rw[List.length_range]at hl;subst hk;refine⟨hl,λx H' hy=>.inl ⟨hy.1,?_⟩⟩
 rw[hy.2,<-h2];exact .int _
def rg1:List RV×Rho->Option (List D×Rho)
 |([(.int j,_)],ρ)=>cIf (-(2^62)<=j/\j<2^62) (some (xO 0 j.toNat,ρ)) none
 |_=>none
def rg2:List RV×Rho->Option (List D×Rho)
 |([(.int i,_),(.int j,_)],ρ)=>cIf (-(2^62)<=i/\i<2^62/\-(2^62)<=j/\j<2^62) (some (xO i (j-i).toNat,ρ)) none
 |_=>none
def vN(m:Rho->Option (List RV×Rho)):Rho->Option (List D×Rho):=fun ρ=>(m ρ).bind rg1
def M5(m:Rho->Option (List RV×Rho)):Rho->Option (List D×Rho):=fun ρ=>(m ρ).bind rg2
section
variable{ta:TA}{m:Rho->Option (List RV×Rho)}
theorem Ec(h:MA ta m)(F:Fr)(B H:Hp)(σ:St)(ρ:Rho)(ds:List D)(ρ':Rho)(Q:It->Hp->Prop)(R:Rel F B H σ ρ)(e:vN m ρ=some (ds,ρ'))
  (q:∀J B' H',Ext σ ρ B H ρ' B' H'->Rel F B' H' σ ρ'->(∀G,oE G B' J ds)->Q J H'):DB ta σ H Q:=by
 obtain⟨x,e1,e⟩:=zaa e;refine h F B H σ ρ x.1 x.2 _ R e1 λvs B1 H1 E1 R1 V1=>?_
 obtain⟨rs,ρ2⟩:=x;unfold rg1 at e;split at e
 ·rename_i j k ρ3 heq
  cases heq;obtain⟨hj,e⟩:=df e
  ·cases e
   match vs,V1 with
   | [v],⟨⟨h1,_⟩,_⟩=>
    have:v=.int j:=(h1.view R1).int;subst this;exact⟨j,rfl,hj.1,hj.2,q _ B1 H1 E1 R1 λG=>J4⟩
 ·cases e
theorem vO(h:MA ta m):MF (DB ta) (vN m):=λF B H σ ρ ds ρ' Q R e q=>Ec h F B H σ ρ ds ρ' Q R e λJ B' H' E R' I=>q J B' H' E R' (I _)
end
end Mir
namespace Mir
open PySem L2
variable [Zc]
def J5:List RV×Rho->Option (RV×Rho)
 |([r],ρ)=>some (r,ρ)
 |_=>none
theorem GH(h:J5 x=some y):x=([y.1],y.2):=by
 obtain⟨rs,ρ⟩:=x;unfold J5 at h;split at h
 ·rename_i heq;cases heq;cases h;rfl
 ·cases h
def cb(ρ:Rho)(i:Nat):Sl:=match ρ[i]? with
 |some (.own d)=>.ro d
 |some (.io d)=>.ro d
 |some .ex=>.no
 |some s=>s
 |none=>.no
def asF:RV->Option D
 |(d,.fz)=>some d
 |_=>none
theorem Ed(h:asF r=some d):r=(d,.fz):=by
 obtain⟨c,k⟩:=r;cases k with
 |fz=>cases h;rfl
 |_=>cases h
def kf(c:Rho->Option (Bool×Rho))(e:PM)(ρn:Rho):List D->Option (List D)
 | []=>some []
 |d::ds=>(c (.fz d::ρn)).bind λb=>if b.1=true then(sv e (.fz d::ρn)).bind λy=>(asF y.1).bind λz=>(kf c e ρn ds).map (z::·)else kf c e ρn ds
def mLC(fr:List (Str×Nat))(it:Rho->Option (List D×Rho))(c:Rho->Option (Bool×Rho))(e:PM):PM:=fun ρ=>(it ρ).bind λx=>(kf c e (fr.map λp=>cb x.2 p.2) x.1).bind λys=>cIf (ys.length<sizeLine) (some ((.list ys,.new),x.2)) none
def vP:Rho->Option (Bool×Rho):=fun ρ=>some (true,ρ)
theorem Ee:MT Gw vP:=by
 intro F B H σ ρ b ρ' Q R e q;cases e;exact q B H (Ext.refl _ _ _ _) R
def F0(H:Hp):Fr:=⟨λ_=>none,λ_=>none,[],λq=>H q≠none⟩
theorem Cq:cb ρ i≠.ex:=by
 unfold cb;cases h : ρ[i]? with
 |none=>simp
 |some s=>cases s<;>simp
theorem rN:(cb ρ i).et=false:=by
 unfold cb;cases h : ρ[i]? with
 |none=>rfl
 |some s=>cases s<;>rfl
theorem Rel.inner(R:Rel F B H σ ρ)(fr:List (Str×Nat))(h:Rep B v d):Rel (F0 H) B H (some v::bQ σ fr) (.fz d::fr.map λp=>cb ρ p.2):=by
 have xo:∀(i:Nat) (s:Sl),(Sl.fz d::fr.map λp=>cb ρ p.2)[i]?=some s->s.et=true->False:=λi s h1 h2=>by
  cases i with
  |zero=>cases h1;cases h2
  |succ i=>
   have h1':(fr.map λp=>cb ρ p.2)[i]?=some s:=by simpa using h1
   rw[zao]at h1';obtain⟨p,_,e⟩:=zab h1';rw[<-e,rN]at h2;cases h2
 have nex:∀i:Nat,(Sl.fz d::fr.map λp=>cb ρ p.2)[i]?=some Sl.ex->False:=λi h1=>by
  cases i with
  |zero=>cases h1
  |succ i=>
   have h1':(fr.map λp=>cb ρ p.2)[i]?=some Sl.ex:=by simpa using h1
   rw[zao]at h1';obtain⟨p,_,e⟩:=zab h1';exact absurd e Cq
 refine⟨R.sub,(λ_ _ z=>by cases z),(λ_ _ z=>by cases z),λ_ z _=>absurd rfl z,by simp[bQ],λi s hs=>?_,λi j s t p h1 h2=>(xo i s h1 h2).elim,λi d p h1=>(xo i _ h1 rfl).elim,(λx hx=>by cases hx),λi d h1=>(xo i _ h1 rfl).elim,R.cW,(λi h1=>(nex i h1).elim),λq o u h z=>by rw[z]at h;cases h⟩
 cases i with
 |zero=>cases hs;exact⟨v,rfl,h⟩
 |succ i=>
  have hs':(fr.map λp=>cb ρ p.2)[i]?=some s:=by simpa using hs
  rw[zao]at hs';obtain⟨p,hp,e⟩:=zab hs';have hσ:∀x,σ[p.2]?=some (some x)->(some v::bQ σ fr)[i+1]?=some (some x):=λx hx=>by
   rw[zat];unfold bQ;rw[zao,hp,zaT,List.getD_eq_getElem?_getD,hx];rfl
  unfold cb at e;cases q : ρ[p.2]? with
  |none=>rw[q]at e;subst e;trivial
  |some s0=>
   rw[q]at e;have sl:=R.slot p.2 s0 q;cases s0 with
   |no=>subst e;trivial
   |ex=>subst e;trivial
   |fz c=>subst e;obtain⟨x,h1,h2⟩:=sl;exact⟨x,hσ _ h1,h2⟩
   |own c=>subst e;obtain⟨x,h1,_,h2⟩:=sl;exact⟨x,hσ _ h1,h2⟩
   |io c=>subst e;obtain⟨x,h1,_,h2⟩:=sl;exact⟨x,hσ _ h1,h2⟩
   |ro c=>subst e;obtain⟨x,h1,h2⟩:=sl;exact⟨x,hσ _ h1,h2⟩
theorem kg(xo:∀(i:Nat) (s:Sl),ρ[i]?=some s->s.et=true->False)(E:Ext σ ρ B H ρ' B' H'):aG H H'/\∀q,H q≠none->B q=none->B' q=none:=by
 have k:∀q o,H q=some o->H' q=some o/\(B q=none->B' q=none):=λq o h=>E.keep q o h λi s h1 h2=>(xo i s h1 h2).elim
 refine⟨λq o h=>(k q o h).1,λq h z=>?_⟩
 cases e:H q with
 |none=>exact absurd e h
 |some o=>exact(k q o e).2 z
theorem ji{fr:List (Str×Nat)}(i:Nat)(s:Sl)(h1:(Sl.fz d::fr.map λp=>cb ρ p.2)[i]?=some s)(h2:s.et=true):False:=by
 cases i with
 |zero=>cases h1;cases h2
 |succ i=>
  have h1':(fr.map λp=>cb ρ p.2)[i]?=some s:=by simpa using h1
  rw[zao]at h1';obtain⟨p,_,e⟩:=zab h1';rw[<-e,rN]at h2;cases h2
theorem uB(hi:MI wi it)(hc:MT tc c)(he:ME te e):ME (tLC fr wi tc te) (mLC fr it c e):=by
 intro F B H σ ρ r0 ρ' Q R e0 q;obtain⟨x,e1,e0⟩:=zaa e0;obtain⟨out,e2,e0⟩:=zaa e0;obtain⟨hz,e0⟩:=df e0;cases e0;refine hi F B H σ ρ x.1 x.2 _ R e1 λJ B1 H1 E1 R1 I1=>?_
 obtain⟨ds,ρ1⟩:=x;refine⟨λi m ys H2=>m=ds.length-i/\i<=ds.length/\∃B2 done rest,aG B1 B2/\aG H1 H2/\(∀q,H1 q≠none->B1 q=none->B2 q=none)/\Rel F B2 H2 σ ρ1/\aY B2 ys done/\kf c e (fr.map λp=>cb ρ1 p.2) (ds.drop i)=some rest/\done++rest=out,
  ⟨ds.length,rfl,Nat.zero_le _,B1,[],out,aG.refl _,aG.refl _,λ_ _ z=>z,R1,.nil,e2,rfl⟩,?_⟩
 rintro i m ys H2 ⟨rfl,hil,B2,done,rest,eB,eH,nb,R2,rp,hcl,hdr⟩
 have hlen:ys.length<=out.length:=by rw[<-hdr,zau,rp.length];omega
 refine⟨by omega,?_⟩
 by_cases hlt:i<ds.length
 ·refine .inr ?_
  obtain⟨go,yl⟩:=(I1 H2 eH).2 i ds[i] (zaC hlt);refine⟨go,λv H3 hy=>?_⟩
  rw[zbb hlt]at hcl;obtain⟨b,c1,c2⟩:=zaa (show(c (.fz ds[i]::fr.map λp=>cb ρ1 p.2)).bind _=some rest from hcl)
  have had:∃B3,aG B2 B3/\aG H2 H3/\(∀q,H2 q≠none->B2 q=none->B3 q=none)/\Rel F B3 H3 σ ρ1/\Rep B3 v ds[i]:=by
   rcases yl v H3 hy with⟨rfl,h2⟩|⟨p,xs,cs,h1,rfl,h3,rfl,h5⟩
   ·exact⟨B2,aG.refl _,aG.refl _,λ_ _ z=>z,R2,h2.mono eB⟩
   ·obtain⟨R3,E3,e3⟩:=R2.tP (xs:=xs) h3
    refine⟨_,e3,fO h3,λq h z=>?_,R3,?_⟩
    ·rw[ax (show q≠p from λy=>h (by rw[y];exact h3))];exact z
    ·rw[h1];exact .tup aB (h5.mono (eB.trans e3))
  obtain⟨B3,eB3,eH3,nb3,R3,rv⟩:=had;have Ri:=R3.inner fr rv;refine hc (F0 H3) B3 H3 _ _ b.1 b.2 _ Ri c1 λB4 H4 E4 R4=>?_
  obtain⟨eH4,nb4⟩:=kg ji E4;have R4o:Rel F B4 H4 σ ρ1:=R3.grow E4.sB eH4 R4.sub nb4 R4.cW R4.nz;have nbA:∀q,H1 q≠none->B1 q=none->B4 q=none:=λq h z=>by
   have h2:H2 q≠none:=λy=>h (eH.free y)
   have h3:H3 q≠none:=λy=>h2 (eH3.free y)
   exact nb4 q h3 (nb3 q h2 (nb q h z))
  cases hb:b.1 with
  |false=>
   rw[hb,if_neg zam]at c2;rw[if_neg zam];exact⟨ds.length-(i+1),by omega,rfl,hlt,B4,done,rest,eB.trans (eB3.trans E4.sB),eH.trans (eH3.trans eH4),nbA,R4o,rp.mono (eB3.trans E4.sB),c2,hdr⟩
  |true=>
   rw[hb,if_pos rfl]at c2;rw[if_pos rfl];obtain⟨y,c3,c2⟩:=zaa c2;obtain⟨z,c4,c2⟩:=zaa c2;obtain⟨rest',c5,c6⟩:=zab c2;subst c6;have Ri4:=R4o.inner fr (rv.mono E4.sB);refine he.sv (F0 H4) B4 H4 _ _ y.1 y.2 _ Ri4 c3 λu B5 H5 E5 R5 V5 N5=>?_
   obtain⟨eH5,nb5⟩:=kg ji E5;have R5o:Rel F B5 H5 σ ρ1:=R4o.grow E5.sB eH5 R5.sub nb5 R5.cW R5.nz;rw[Ed c4]at V5;refine⟨ds.length-(i+1),by omega,rfl,hlt,B5,done++[z],rest',eB.trans (eB3.trans (E4.sB.trans E5.sB)),eH.trans (eH3.trans (eH4.trans eH5)),λq h w=>?_,R5o,(rp.mono (eB3.trans (E4.sB.trans E5.sB))).append (.cons V5 .nil),c5,by rw[zaD];exact hdr⟩
   have h2:H2 q≠none:=λy=>h (eH.free y)
   have h3:H3 q≠none:=λy=>h2 (eH3.free y)
   have h4:H4 q≠none:=λy=>h3 (eH4.free y)
   exact nb5 q h4 (nbA q h w)
 ·have hi':i=ds.length:=by omega
  subst hi';refine .inl ⟨(I1 H2 eH).1,λp hp=>?_⟩
  rw[List.drop_length]at hcl;cases hcl;rw[zaR]at hdr;subst hdr;have E2:Ext σ ρ1 B1 H1 ρ1 B2 H2:=Ext.grow eB eH nb;have:=g7 (res:=(.list done,true)) (k:=λQ=>∀p,H2 p=none->Q (.ref p) (upd H2 p (.lst ys))) (Q:=Q) R2 ⟨ys,rp,λQ h=>h⟩ λv B' H' E R' V' N=>q v B' H' ((E1.trans E2).trans E) R' V' λp z1 z2=>(E1.trans E2).live p (N p z1 z2)
  exact this p hp
end Mir
namespace Mir
open PySem L2
variable [Zc]
def Sl.put:Sl->D->Sl
 | .own _,d=>.own d
 | .io _,d=>.io d
 |s,_=>s
section
variable{F:Fr}{B H:Hp}{σ:St}{ρ ρ':Rho}{v:V}
theorem rM.at(e : σ'[i]?=σ[i]?)(h:rM B H σ i s):rM B H σ' i s:=by
 unfold rM at h⊢;rw[e];exact h
theorem Rel.write(R:Rel F B H σ ρ)(hi : ρ[i]?=some s)(hs:s.et=true)(hv : σ[i]?=some (some (.ref p)))(no:(∀xs,o≠.tup xs)/\∀a u,o≠.frz a u)(ow:Own B (upd H p o) p d) :
  Rel F B (upd H p o) σ (ρ.set i (s.put d))/\Ext σ ρ B H (ρ.set i (s.put d)) B (upd H p o):=by
 obtain⟨p',e1,hB,o0⟩:=R.ownAt hi hs;rw[hv]at e1;cases e1;have hl:i<ρ.length:=(zac hi).1;have pO:(s.put d).et=true/\slD (s.put d)=d:=by cases s<;>first|exact⟨rfl,rfl⟩|cases hs
 have ne:∀(j:Nat) (t:Sl) (q:Addr),j≠i->ρ[j]?=some t->t.isRef=true->σ[j]?=some (some (.ref q))->q≠p:=λj t q hj h1 h2 h3 z=>hj (R.dist i j s t p hi hs h1 h2 hv (z▸h3)).symm
 have nio:∀(j:Nat) (t:Sl),(ρ.set i (s.put d))[j]?=some t->∃t0,ρ[j]?=some t0/\t.et=t0.et/\t.isRef=t0.isRef/\(∀c,t=.own c->∃c0,t0=.own c0)/\∀c,t=.io c->∃c0,t0=.io c0:=λj t h=>by
  rcases get_set h with⟨rfl,rfl,_⟩|⟨_,h⟩
  ·refine⟨s,hi,?_⟩
   cases s with
   |own c=>exact⟨rfl,rfl,λ_ _=>⟨_,rfl⟩,λ_ z=>by cases z⟩
   |io c=>exact⟨rfl,rfl,(λ_ z=>by cases z),λ_ _=>⟨_,rfl⟩⟩
   |_=>cases hs
  ·exact⟨t,h,rfl,rfl,λc z=>⟨c,z⟩,λc z=>⟨c,z⟩⟩
 have hF:F.H p=none\/∃x∈F.io,x.2=p:=by
  cases s with
  |own c=>exact .inl (R.kc i c p hi hv)
  |io c=>
   obtain⟨p',hp⟩:=R.ioN i c hi;obtain⟨h1,_⟩:=R.fx _ hp;have h1' : σ[i]?=some (some (.ref p')):=h1;rw[hv]at h1';cases h1';exact .inr ⟨_,hp,rfl⟩
  |_=>cases hs
 have M6:s.put d≠.ex:=by
  cases s with
  |own c=>simp[Sl.put]
  |io c=>simp[Sl.put]
  |_=>cases hs
 refine⟨⟨?_,R.sB,?_,R.nB,by rw[zaM];exact R.len,?_,?_,?_,?_,?_,?_,(λj h=>R.exv j (vL M6 h).1),λq a u h=>by
  by_cases z:q=p
  ·subst z;rw[aB]at h;cases h;exact absurd rfl (no.2 _ _)
  ·rw[ax z]at h;exact R.nz q a u h⟩,⟨aG.refl _,?_,?_,?_,?_⟩⟩
 ·intro q u hq
  rw[ax (show q≠p from λz=>by rw[z,hB]at hq;cases hq)];exact R.sub q u hq
 ·intro q u h1 h2
  have z:q≠p:=λz=>by
   rcases hF with h|⟨x,hx,h⟩
   ·rw[z,h]at h1;cases h1
   ·exact h2 x hx (h.trans z.symm)
  rw[ax z];exact R.sH q u h1 h2
 ·intro j t ht
  rcases get_set ht with⟨rfl,rfl,_⟩|⟨hj,ht⟩
  ·cases s with
   |own c=>exact⟨p,hv,hB,ow⟩
   |io c=>exact⟨p,hv,hB,ow⟩
   |_=>cases hs
  ·have q:=R.slot j t ht
   have k:∀q,q≠p->∀u,H q=some u->upd H p o q=some u:=λq z u h=>by rw[ax z];exact h
   cases t with
   |no=>trivial
   |ex=>trivial
   |fz c=>exact q
   |own c=>obtain⟨q,h1,h2,h3⟩:=q;exact⟨q,h1,h2,h3.mono (aG.refl _) (k q (ne j _ q hj ht rfl h1))⟩
   |io c=>obtain⟨q,h1,h2,h3⟩:=q;exact⟨q,h1,h2,h3.mono (aG.refl _) (k q (ne j _ q hj ht rfl h1))⟩
   |ro c=>obtain⟨q,h1,h3⟩:=q;exact⟨q,h1,h3.mono (aG.refl _) (k q (ne j _ q hj ht rfl h1))⟩
 ·intro a b t u q h1 h2 h3 h4 h5 h6
  obtain⟨t0,h1',e1,_,_,_⟩:=nio a t h1;obtain⟨u0,h3',_,e3,_,_⟩:=nio b u h3;exact R.dist a b t0 u0 q h1' (e1▸h2) h3' (e3▸h4) h5 h6
 ·intro j c q h1 h2
  obtain⟨t0,h1',_,_,e1,_⟩:=nio j _ h1;obtain⟨c0,rfl⟩:=e1 c rfl;exact R.kc j c0 q h1' h2
 ·intro x hx
  obtain⟨h1,c,h2⟩:=R.fx x hx;refine⟨h1,?_⟩
  by_cases z:i=x.1
  ·subst z
   rw[hi]at h2;cases h2;exact⟨d,by rw[zav hl];rfl⟩
  ·exact⟨c,by rw[zaA z];exact h2⟩
 ·intro j c h1
  obtain⟨t0,h1',_,_,_,e1⟩:=nio j _ h1;obtain⟨c0,rfl⟩:=e1 c rfl;exact R.ioN j c0 h1'
 ·intro q xs h
  by_cases z:q=p
  ·subst z;rw[aB]at h;cases h;exact absurd rfl (no.1 xs)
  ·rw[ax z]at h;exact R.cW q xs h
 ·intro q u h n
  refine⟨?_,id⟩;rw[ax (show q≠p from λz=>n i s hi hs (by rw[z];exact hv))];exact h
 ·intro j t h1 h2
  obtain⟨t0,h1',e1,_,_,_⟩:=nio j t h1;exact⟨t0,h1',e1▸h2⟩
 ·intro j t h1 h2
  obtain⟨t0,h1',_,e1,_,_⟩:=nio j t h1;exact⟨t0,h1',e1▸h2⟩
 ·intro q h
  by_cases z:q=p
  ·subst z;rw[aB]at h;cases h
  ·rw[ax z]at h;exact h
end
def rO:Option Sl->Option (List D)
 |some (.own (.list ds))=>some ds
 |some (.io (.list ds))=>some ds
 |_=>none
theorem vQ(h:rO s=some ds):∃t,s=some t/\t.et=true/\slD t=.list ds:=by
 unfold rO at h;split at h
 ·cases h;exact⟨_,rfl,rfl,rfl⟩
 ·cases h;exact⟨_,rfl,rfl,rfl⟩
 ·cases h
def putAt(ρ:Rho)(i:Nat)(d:D):Rho:=match ρ[i]? with
 |some s=>ρ.set i (s.put d)
 |none=>ρ
def vR(r:V->List V->Hp->VK->Prop)(f:List D->List D->Option (List D×D)):Prop :=
 ∀(B H:Hp) (p:Addr) (xs:List V) (ds:List D) (vs:List V) (as:List D) (w:List D×D),H p=some (.lst xs)->aY B xs ds->aG B H->aY B vs as->f ds as=some w->
  ∃xs' v,aY B xs' w.1/\Rep B v w.2/\∀Q:VK,Q v (upd H p (.lst xs'))->r (.ref p) vs H Q
def rP(i:Nat)(f:List D->List D->Option (List D×D))(m:Rho->Option (List RV×Rho)):PM:=fun ρ=>(rO ρ[i]?).bind λ_=>(m ρ).bind λx=>(gA x.1 x.2).bind λy=>(rO y.2[i]?).bind λds=>(f ds y.1).map λw=>((w.2,.fz),putAt y.2 i (.list w.1))
theorem Own.list{ds:List D}(h:Own B H p (.list ds)):∃xs,H p=some (.lst xs)/\aY B xs ds:=by
 cases h with
 |lst h r=>exact⟨_,h,r⟩
theorem pC(J:vR r f)(h:MA t m):ME (tBM K "list" r (nW i) t) (rP i f m):=by
 intro F B H σ ρ r0 ρ' Q R e q;obtain⟨ds0,e0,e⟩:=zaa e;obtain⟨x,e1,e⟩:=zaa e;obtain⟨y,e2,e⟩:=zaa e;obtain⟨ds,e3,e⟩:=zaa e;obtain⟨w,e4,e⟩:=zab e;cases e;obtain⟨s0,hs0,ho0,hd0⟩:=vQ e0;obtain⟨p,hv,hB,ow⟩:=R.ownAt hs0 ho0;rw[hd0]at ow;obtain⟨xs0,hp0,_⟩:=ow.list;refine⟨_,hv,.inl ⟨rfl,xs0,SqL.of hp0⟩,?_⟩;refine h F B H σ ρ x.1 x.2 _ R e1 λvs B1 H1 E1 R1 V1=>?_
 obtain⟨B2,R2,rp,E2⟩:=Rel.tQ R1 V1.weak e2;obtain⟨s,hs,ho,hd⟩:=vQ e3;obtain⟨p',hv',hB',ow'⟩:=R2.ownAt hs ho;rw[hv]at hv';cases hv';rw[hd]at ow';obtain⟨xs,hp,rx⟩:=ow'.list;obtain⟨xs',u,rx',ru,hr⟩:=J B2 H1 p xs ds vs y.1 w hp rx R2.sub rp e4;obtain⟨R3,E3⟩:=R2.write (o:=.lst xs') (d:=.list w.1) hs ho hv ⟨(λ_ z=>by cases z),λ_ _ z=>by cases z⟩ (.lst aB rx')
 have ep:putAt y.2 i (.list w.1)=y.2.set i (s.put (.list w.1)):=by unfold putAt;rw[hs]
 rw[ep]at q;exact hr Q (q u B2 _ (E1.trans (E2.trans E3)) R3 ru λp z=>by cases z)
def uC(i:Nat)(f:List D->List D->Option (List D×D)):PM:=fun ρ=>(rO ρ[i]?).bind λds=>(f ds []).map λw=>((w.2,.fz),putAt ρ i (.list w.1))
theorem GI(J:vR r f):ME (DJ K "list" r (nW i)) (uC i f):=by
 intro F B H σ ρ r0 ρ' Q R e q;obtain⟨ds,e0,e⟩:=zaa e;obtain⟨w,e4,e⟩:=zab e;cases e;obtain⟨s,hs,ho,hd⟩:=vQ e0;obtain⟨p,hv,hB,ow⟩:=R.ownAt hs ho;rw[hd]at ow;obtain⟨xs,hp,rx⟩:=ow.list;refine⟨_,hv,.inl ⟨rfl,xs,SqL.of hp⟩,?_⟩;obtain⟨xs',u,rx',ru,hr⟩:=J B H p xs ds [] [] w hp rx R.sub .nil e4;obtain⟨R3,E3⟩:=R.write (o:=.lst xs') (d:=.list w.1) hs ho hv ⟨(λ_ z=>by cases z),λ_ _ z=>by cases z⟩ (.lst aB rx')
 have ep:putAt ρ i (.list w.1)=ρ.set i (s.put (.list w.1)):=by unfold putAt;rw[hs]
 rw[ep]at q;exact hr Q (q u B _ E3 R3 ru λp z=>by cases z)
end Mir
namespace Mir
open PySem L2
variable [Zc]
inductive Out where
 |nx (ρ:Rho)|rt (r:RV) (ρ:Rho)|bk (ρ:Rho)|ct (ρ:Rho)
abbrev SM:=Rho->Option Out
def nR(F:Fr)(D:Ends):Out->Prop
 | .nx ρ=>∀B H σ,Rel F B H σ ρ->D.nx σ H
 | .rt r ρ=>∀v B H σ,Rel F B H σ ρ->Val F B H σ ρ v r->D.rt v H
 | .bk ρ=>∀B H σ,Rel F B H σ ρ->D.bk σ H
 | .ct ρ=>∀B H σ,Rel F B H σ ρ->D.ct σ H
def MS(t:TS)(m:SM):Prop:=∀(F:Fr) (B H:Hp) (σ:St) (ρ:Rho) (o:Out) (D:Ends),Rel F B H σ ρ->m ρ=some o->nR F D o->t D σ H
def cg(a b:SM):SM:=fun ρ=>(a ρ).bind λo=>match o with
 | .nx ρ'=>b ρ'
 |o=>some o
theorem a6(ha:MS t a)(hb:MS u b):MS (Cb t u) (cg a b):=by
 intro F B H σ ρ o D R e q;obtain⟨x,e1,e⟩:=zaa e;refine ha F B H σ ρ x _ R e1 ?_;cases x with
 |nx ρ'=>exact λB' H' σ' R'=>hb F B' H' σ' ρ' o D R' e q
 |rt r ρ'=>cases e;exact q
 |bk ρ'=>cases e;exact q
 |ct ρ'=>cases e;exact q
def gT:SM:=fun ρ=>some (.nx ρ)
theorem eI:MS AG gT:=by
 intro F B H σ ρ o D R e q;cases e;exact q B H σ R
def pE:SM:=λ_=>none
theorem mf:MS Dy pE:=by
 intro F B H σ ρ o D R e q;cases e
def fQ(a:PM):SM:=fun ρ=>(a ρ).map λx=>.rt x.1 x.2
theorem cP(ha:ME t a):MS (Dw t) (fQ a):=by
 intro F B H σ ρ o D R e q;obtain⟨x,e1,e⟩:=zab e;cases e;exact ha F B H σ ρ x.1 x.2 _ R e1 λv B' H' E R' V' N=>q v B' H' σ R' V'
def Lx:SM:=fun ρ=>some (.rt (.none,.fz) ρ)
def gk(a:PM):SM:=fun ρ=>(a ρ).map λx=>.nx x.2
theorem g8(ha:ME t a):MS (xr t) (gk a):=by
 intro F B H σ ρ o D R e q;obtain⟨x,e1,e⟩:=zab e;cases e;exact ha F B H σ ρ x.1 x.2 _ R e1 λv B' H' E R' V' N=>q B' H' σ R'
def iD(c:Rho->Option (Bool×Rho))(a b:SM):SM:=fun ρ=>(c ρ).bind λx=>if x.1=true then a x.2 else b x.2
theorem jj(hc:MT tc c)(ha:MS t a)(hb:MS u b):MS (Dx tc t u) (iD c a b):=by
 intro F B H σ ρ o D R e q;obtain⟨x,e1,e⟩:=zaa e;refine hc F B H σ ρ x.1 x.2 _ R e1 λB' H' E R'=>?_
 by_cases h:x.1=true
 ·rw[if_pos h]at e⊢;exact ha F B' H' σ x.2 o D R' e q
 ·rw[if_neg h]at e⊢;exact hb F B' H' σ x.2 o D R' e q
def fC(ρ:Rho)(i:Nat)(s:Sl):Option Rho:=match ρ[i]? with
 |none=>none
 |some (.io _)=>none
 |some _=>some (ρ.set i s)
theorem oF(h:fC ρ i s=some ρ') : ρ'=ρ.set i s/\∃s0,ρ[i]?=some s0/\∀d,s0≠.io d:=by
 unfold fC at h;cases q : ρ[i]? with
 |none=>rw[q]at h;cases h
 |some s0=>
  rw[q]at h;cases s0 with
  |io d=>cases h
  |no=>cases h;exact⟨rfl,_,rfl,λ_ z=>by cases z⟩
  |ex=>cases h;exact⟨rfl,_,rfl,λ_ z=>by cases z⟩
  |fz _=>cases h;exact⟨rfl,_,rfl,λ_ z=>by cases z⟩
  |own _=>cases h;exact⟨rfl,_,rfl,λ_ z=>by cases z⟩
  |ro _=>cases h;exact⟨rfl,_,rfl,λ_ z=>by cases z⟩
section
variable{F:Fr}{B H:Hp}{σ:St}{ρ ρ':Rho}{v:V}
theorem Rel.oG(R:Rel F B H σ ρ)(rp:Rep B v d)(h:fC ρ i (.fz d)=some ρ'):Rel F B H (σ.set i (some v)) ρ':=by
 obtain⟨rfl,s0,h0,nio⟩:=oF h;have hl:i<ρ.length:=(zac h0).1;have hls:i<σ.length:=R.len▸hl;have so:∀j,j≠i->(σ.set i (some v))[j]?=σ[j]?:=λj hj=>zaA λe=>hj e.symm
 refine⟨R.sub,R.sB,R.sH,R.nB,by rw[zaM,zaM];exact R.len,?_,?_,?_,?_,?_,R.cW,(λj h=>by obtain⟨h1,h2⟩:=vL (by simp) h;rw[so j h2];exact R.exv j h1),R.nz⟩
 ·intro j s hs
  rcases get_set hs with⟨rfl,rfl,_⟩|⟨hj,hs⟩
  ·exact⟨v,zav hls,rp⟩
  ·exact(R.slot j s hs).at (so j hj)
 ·intro a b s t p h1 h2 h3 h4 h5 h6
  rcases get_set h1 with⟨rfl,rfl,_⟩|⟨ha,h1⟩
  ·cases h2
  ·rcases get_set h3 with⟨rfl,rfl,_⟩|⟨hb,h3⟩
   ·cases h4
   ·rw[so a ha]at h5;rw[so b hb]at h6;exact R.dist a b s t p h1 h2 h3 h4 h5 h6
 ·intro j c p h1 h2
  rcases get_set h1 with⟨rfl,e,_⟩|⟨hj,h1⟩
  ·cases e
  ·rw[so j hj]at h2;exact R.kc j c p h1 h2
 ·intro x hx
  obtain⟨h1,c,h2⟩:=R.fx x hx;have z:x.1≠i:=λz=>by rw[z,h0]at h2;cases h2;exact nio _ rfl
  exact⟨by rw[so _ z];exact h1,c,by rw[zaA λe=>z e.symm];exact h2⟩
 ·intro j c h1
  rcases get_set h1 with⟨rfl,e,_⟩|⟨hj,h1⟩
  ·cases e
  ·exact R.ioN j c h1
theorem Rel.Cr(R:Rel F B H σ ρ)(vl:Val F B H σ ρ v (d,.new))(h:fC ρ i (.own d)=some ρ'):Rel F B H (σ.set i (some v)) ρ':=by
 obtain⟨rfl,s0,h0,nio⟩:=oF h;obtain⟨p,rfl,hB,hF,ow,nn⟩:=vl;have hl:i<ρ.length:=(zac h0).1;have hls:i<σ.length:=R.len▸hl;have so:∀j,j≠i->(σ.set i (some (.ref p)))[j]?=σ[j]?:=λj hj=>zaA λe=>hj e.symm
 have si:(σ.set i (some (.ref p)))[i]?=some (some (.ref p)):=zav hls;refine⟨R.sub,R.sB,R.sH,R.nB,by rw[zaM,zaM];exact R.len,?_,?_,?_,?_,?_,R.cW,(λj h=>by obtain⟨h1,h2⟩:=vL (by simp) h;rw[so j h2];exact R.exv j h1),R.nz⟩
 ·intro j s hs
  rcases get_set hs with⟨rfl,rfl,_⟩|⟨hj,hs⟩
  ·exact⟨p,si,hB,ow⟩
  ·exact(R.slot j s hs).at (so j hj)
 ·intro a b s t q h1 h2 h3 h4 h5 h6
  rcases get_set h1 with⟨rfl,rfl,_⟩|⟨ha,h1'⟩
  ·rcases get_set h3 with⟨rfl,rfl,_⟩|⟨hb,h3⟩
   ·rfl
   ·rw[si]at h5
    cases h5;rw[so b hb]at h6;exact absurd h6 (nn b t h3 h4)
  ·rcases get_set h3 with⟨rfl,rfl,_⟩|⟨hb,h3⟩
   ·rw[si]at h6
    cases h6;rw[so a ha]at h5;exact absurd h5 (nn a s h1' (Sl.kS h2))
   ·rw[so a ha]at h5;rw[so b hb]at h6;exact R.dist a b s t q h1' h2 h3 h4 h5 h6
 ·intro j c q h1 h2
  rcases get_set h1 with⟨rfl,e,_⟩|⟨hj,h1⟩
  ·rw[si]at h2;cases h2;exact hF
  ·rw[so j hj]at h2;exact R.kc j c q h1 h2
 ·intro x hx
  obtain⟨h1,c,h2⟩:=R.fx x hx;have z:x.1≠i:=λz=>by rw[z,h0]at h2;cases h2;exact nio _ rfl
  exact⟨by rw[so _ z];exact h1,c,by rw[zaA λe=>z e.symm];exact h2⟩
 ·intro j c h1
  rcases get_set h1 with⟨rfl,e,_⟩|⟨hj,h1⟩
  ·cases e
  ·exact R.ioN j c h1
end
def sto(i:Nat)(x:RV×Rho):Option Rho:=match x.1.2 with
 | .fz=>fC x.2 i (.fz x.1.1)
 | .new=>fC x.2 i (.own x.1.1)
 | .at j=>if j=i then some x.2 else(me x.1 x.2).bind λy=>fC y.2 i (.fz y.1)
 | .ro=>none
def dM(i:Nat)(a:PM):SM:=fun ρ=>(a ρ).bind λx=>(sto i x).map .nx
theorem cj(ha:ME t a):MS (Cc t (rF i)) (dM i a):=by
 intro F B H σ ρ o D R e q;obtain⟨x,e1,e⟩:=zaa e;obtain⟨ρ2,e2,e⟩:=zab e;cases e;refine ha F B H σ ρ x.1 x.2 _ R e1 λv B1 H1 E1 R1 V1 N1=>?_
 show D.nx (σ.set i (some v)) H1;obtain⟨⟨d,k⟩,ρ1⟩:=x;cases k with
 |fz=>exact q B1 H1 _ (R1.oG V1 e2)
 |new=>exact q B1 H1 _ (R1.Cr V1 e2)
 |ro=>cases e2
 | «at» j=>
  have e2':(if j=i then some ρ1 else(me (d,.at j) ρ1).bind λy=>fC y.2 i (.fz y.1))=some ρ2:=e2
  obtain⟨s,h1,h2,h3,h4⟩:=V1;have h4' : σ[j]?=some (some v):=h4
  by_cases z:j=i
  ·rw[if_pos z]at e2'
   cases e2';subst z;have : σ.set j (some v)=σ:=by
    apply List.ext_getElem?;intro k
    by_cases hk:k=j
    ·subst hk
     obtain⟨hl,_⟩:=zac h4';rw[zav hl,h4']
    ·rw[zaA λe=>hk e.symm]
   rw[this];exact q B1 H1 _ R1
  ·rw[if_neg z]at e2'
   obtain⟨y,e3,e4⟩:=zaa e2';obtain⟨B2,R2,rp,E2⟩:=R1.frz (v:=v) (r:=(d,.at j)) (show Cp B1 σ v (d,.at j)from h4') e3;exact q B2 H1 _ (R2.oG rp e4)
def GJ(i:Nat)(f:Int->Int->Int)(a:PM):SM:=fun ρ=>match ρ[i]? with
 |some (.fz (.int x))=>((sv a ρ).bind asI).bind λy=>(fC y.2 i (.fz (.int (f x y.1)))).map .nx
 |_=>none
theorem J6(ha:ME t a):MS (Le i t (ipI f)) (GJ i f a):=by
 intro F B H σ ρ o D R e q;unfold GJ at e;split at e
 ·rename_i x hx
  obtain⟨y,e0,e⟩:=zaa e;obtain⟨z,e1,e2⟩:=zaa e0;obtain⟨ρ2,e3,e⟩:=zab e;cases e;obtain⟨w,h1,h2⟩:=R.slot i _ hx;cases h2;refine⟨_,h1,?_⟩;refine ha.sv F B H σ ρ z.1 z.2 _ R e1 λv B1 H1 E1 R1 V1 N1=>?_
  obtain⟨g1,g2⟩:=D3 (b:=y.1) (ρ:=y.2) e2;have vv:=V1.view R1;rw[g1]at vv;rw[g2]at R1;exact⟨x,y.1,rfl,vv.int,q B1 H1 _ (R1.oG (.int _) e3)⟩
 ·cases e
def MG(g:TG)(mg:D->Rho->Option Rho):Prop:=∀(F:Fr) (B H:Hp) (σ:St) (ρ:Rho) (v:V) (d:D) (ρ':Rho) (Q:St->Hp->Prop),Rel F B H σ ρ->Rep B v d->mg d ρ=some ρ'->(∀B' H' σ',Rel F B' H' σ' ρ'->aG B B'->Q σ' H')->g v σ H Q
def MGs(g:TGs)(mg:List D->Rho->Option Rho):Prop:=∀(F:Fr) (B H:Hp) (σ:St) (ρ:Rho) (vs:List V) (ds:List D) (ρ':Rho) (Q:St->Hp->Prop),Rel F B H σ ρ->aY B vs ds->mg ds ρ=some ρ'->(∀B' H' σ',Rel F B' H' σ' ρ'->aG B B'->Q σ' H')->g vs σ H Q
def mgN(i:Nat):D->Rho->Option Rho:=λd ρ=>fC ρ i (.fz d)
theorem cH:MG (rF i) (mgN i):=λF B H σ ρ v d ρ' Q R rp e q=>q B H _ (R.oG rp e) (aG.refl _)
def iE:List D->Rho->Option Rho:=λds ρ=>match ds with
 | []=>some ρ
 |_=>none
def bV(g:D->Rho->Option Rho)(gs:List D->Rho->Option Rho):List D->Rho->Option Rho:=λds ρ=>match ds with
 |d::ds=>(g d ρ).bind fun ρ1=>gs ds ρ1
 |_=>none
theorem m3:MGs Jx iE:=λF B H σ ρ vs ds ρ' Q R rp e q=>by
 cases rp with
 |nil=>cases e;exact⟨rfl,q B H σ R (aG.refl _)⟩
 |cons _ _=>cases e
theorem cA(h:MG g m)(hs:MGs gs ms):MGs (Dz g gs) (bV m ms):=λF B H σ ρ vs ds ρ' Q R rp e q=>by
 cases rp with
 |nil=>cases e
 |cons r rs=>
  obtain⟨ρ1,e1,e2⟩:=zaa e;exact⟨_,_,rfl,h F B H σ ρ _ _ ρ1 _ R r e1 λB1 H1 σ1 R1 s1=>hs F B1 H1 σ1 ρ1 _ _ ρ' Q R1 (rs.mono s1) e2 λB2 H2 σ2 R2 s2=>q B2 H2 σ2 R2 (s1.trans s2)⟩
def mgT(n:Nat)(ms:List D->Rho->Option Rho):D->Rho->Option Rho:=λd ρ=>(asT d).bind λds=>if ds.length=n then ms ds ρ else none
def qr(a:PM)(g:D->Rho->Option Rho):SM:=fun ρ=>(sv a ρ).bind λx=>(me x.1 x.2).bind λy=>(g y.1 y.2).map .nx
theorem qX(ha:ME t a)(hg:MG tg g):MS (Cc t tg) (qr a g):=by
 intro F B H σ ρ o D R e q;obtain⟨x,e1,e⟩:=zaa e;obtain⟨y,e2,e⟩:=zaa e;obtain⟨ρ2,e3,e⟩:=zab e;cases e;refine ha.sv F B H σ ρ x.1 x.2 _ R e1 λv B1 H1 E1 R1 V1 N1=>?_
 have w:Cp B1 σ v x.1:=(Vl.weak (F:=F) (H:=H1) (ρ:=x.2) (vs:=[v]) (rs:=[x.1]) ⟨⟨V1,mZ e1⟩,trivial⟩).1;obtain⟨B2,R2,rp,E2⟩:=R1.frz w e2;exact hg F B2 H1 σ y.2 v y.1 ρ2 _ R2 rp e3 λB' H' σ' R' _=>q B' H' σ' R'
def Ly(i:Nat)(a:PM):D->Rho->Option Rho:=λd ρ=>(rO ρ[i]?).bind λ_=>((sv a ρ).bind asI).bind λy=>(rO y.2[i]?).bind λds=>(ixN ds.length y.1).map λj=>putAt y.2 i (.list (ds.set j d))
def fH(c:Rho->Option (Bool×Rho))(b:SM):Nat->SM
 |0=>λ_=>none
 |n+1=>fun ρ=>(c ρ).bind λx=>if x.1=true then(b x.2).bind λo=>match o with
   | .nx ρ'=>fH c b n ρ'
   | .ct ρ'=>fH c b n ρ'
   | .bk ρ'=>some (.nx ρ')
   | .rt r ρ'=>some (.rt r ρ')
  else some (.nx x.2)
theorem rQ(hc:MT tc c)(hb:MS tb b):MS (zr tc tb) (fH c b n):=by
 intro F B H σ ρ o D R e q;refine⟨λm σ H=>∃B ρ,Rel F B H σ ρ/\fH c b m ρ=some o,⟨n,B,ρ,R,e⟩,?_⟩
 rintro m σ1 H1 ⟨B1,ρ1,R1,e1⟩
 cases m with
 |zero=>cases e1
 |succ m=>
  obtain⟨x,e2,e3⟩:=zaa (show(c ρ1).bind _=some o from e1);refine hc F B1 H1 σ1 ρ1 x.1 x.2 _ R1 e2 λB2 H2 E2 R2=>?_
  by_cases h:x.1=true
  ·rw[if_pos h]at e3⊢
   obtain⟨w,e4,e5⟩:=zaa e3;refine⟨fun σ' H'=>∃B' ρ',Rel F B' H' σ' ρ'/\fH c b m ρ'=some o,fun σ' H' h'=>⟨m,Nat.lt_succ_self _,h'⟩,?_⟩
   refine hb F B2 H2 σ1 x.2 w _ R2 e4 ?_;cases w with
   |nx ρ'=>exact λB' H' σ' R'=>⟨B',ρ',R',e5⟩
   |ct ρ'=>exact λB' H' σ' R'=>⟨B',ρ',R',e5⟩
   |bk ρ'=>cases e5;exact q
   |rt r ρ'=>cases e5;exact q
  ·rw[if_neg h]at e3⊢
   cases e3;exact q B2 H2 σ1 R2
def forL(g:D->Rho->Option Rho)(b:SM):List D->SM
 | []=>fun ρ=>some (.nx ρ)
 |d::ds=>fun ρ=>(g d ρ).bind fun ρ1=>(b ρ1).bind λo=>match o with
   | .nx ρ'=>forL g b ds ρ'
   | .ct ρ'=>forL g b ds ρ'
   | .bk ρ'=>some (.nx ρ')
   | .rt r ρ'=>some (.rt r ρ')
def xP(it:Rho->Option (List D×Rho))(g:D->Rho->Option Rho)(b:SM):SM:=fun ρ=>(it ρ).bind λx=>forL g b x.1 x.2
section
variable{F:Fr}{B B1 H H1:Hp}{σ σ1:St}{ρ ρ1:Rho}
theorem Rel.up(R1:Rel F B1 H1 σ1 ρ1)(R:Rel ⟨B1,F.H,F.io,F.Z⟩ B H σ ρ):Rel F B H σ ρ :=
 ⟨R.sub,R1.sB.trans R.sB,R.sH,λq h z=>R.nB q h (R1.nB q h z),R.len,R.slot,R.dist,R.kc,R.fx,R.ioN,R.cW,R.exv,R.nz⟩
theorem Rel.down(R1:Rel F B1 H1 σ1 ρ1):Rel ⟨B1,F.H,F.io,F.Z⟩ B1 H1 σ1 ρ1 :=
 ⟨R1.sub,aG.refl _,R1.sH,λq h z=>z,R1.len,R1.slot,R1.dist,R1.kc,R1.fx,R1.ioN,R1.cW,R1.exv,R1.nz⟩
end
theorem nR.down(R1:Rel F B1 H1 σ1 ρ1){D:Ends}{o:Out}(h:nR F D o):nR ⟨B1,F.H,F.io,F.Z⟩ D o:=by
 cases o with
 |nx ρ=>exact λB H σ R=>h B H σ (R1.up R)
 |bk ρ=>exact λB H σ R=>h B H σ (R1.up R)
 |ct ρ=>exact λB H σ R=>h B H σ (R1.up R)
 |rt r ρ=>exact λv B H σ R V=>h v B H σ (R1.up R) V
theorem vS(hi:MF ti it)(hg:MG tg g)(hb:MS tb b):MS (DC ti tg tb) (xP it g b):=by
 intro F B H σ ρ o D R e q;obtain⟨x,e1,e⟩:=zaa e;refine hi F B H σ ρ x.1 x.2 _ R e1 λJ B1 H1 E1 R1 I1=>?_
 obtain⟨ds,ρ1⟩:=x;have q':=q.down R1;refine⟨λi m σ H=>m=ds.length-i/\i<=ds.length/\∃B ρ,Rel ⟨B1,F.H,F.io,F.Z⟩ B H σ ρ/\forL g b (ds.drop i) ρ=some o,⟨ds.length,rfl,Nat.zero_le _,B1,ρ1,R1.down,e⟩,?_⟩
 rintro i m σ2 H2 ⟨rfl,hil,B2,ρ2,R2,e2⟩
 have sH:aG B1 H2:=R2.sB.trans R2.sub
 by_cases hlt:i<ds.length
 ·refine .inr ?_
  obtain⟨go,yl⟩:=(I1 H2 sH).2 i ds[i] (zaC hlt);rw[zbb hlt]at e2;obtain⟨ρ3,e3,e4⟩:=zaa (show(g ds[i] ρ2).bind _=some o from e2);obtain⟨w,e5,e6⟩:=zaa e4;refine⟨go,fun σ' H'=>∃B' ρ',Rel ⟨B1,F.H,F.io,F.Z⟩ B' H' σ' ρ'/\forL g b (ds.drop (i+1)) ρ'=some o,fun σ' H' h'=>⟨ds.length-(i+1),by omega,rfl,hlt,h'⟩,λy H3 hy=>?_⟩
  have had:∃B3,Rel ⟨B1,F.H,F.io,F.Z⟩ B3 H3 σ2 ρ2/\Rep B3 y ds[i]:=by
   rcases yl y H3 hy with⟨rfl,h2⟩|⟨p,xs,cs,h1,rfl,h3,rfl,h5⟩
   ·exact⟨B2,R2,h2.mono R2.sB⟩
   ·obtain⟨R3,E3,e3⟩:=R2.tP (xs:=xs) h3
    exact⟨_,R3,by rw[h1];exact .tup aB (h5.mono (R2.sB.trans e3))⟩
  obtain⟨B3,R3,rp⟩:=had;refine hg _ B3 H3 σ2 ρ2 y ds[i] ρ3 _ R3 rp e3 λB4 H4 σ4 R4 _=>?_
  refine hb _ B4 H4 σ4 ρ3 w _ R4 e5 ?_;cases w with
  |nx ρ'=>exact λB' H' σ' R'=>⟨B',ρ',R',e6⟩
  |ct ρ'=>exact λB' H' σ' R'=>⟨B',ρ',R',e6⟩
  |bk ρ'=>cases e6;exact q'
  |rt r ρ'=>cases e6;exact q'
 ·have hi':i=ds.length:=by omega
  subst hi';rw[List.drop_length]at e2;cases e2;exact .inl ⟨(I1 H2 sH).1,q' B2 H2 σ2 R2⟩
def xQ:Out->Option (D×Bool)
 | .rt (d,.fz) _=>some (d,false)
 | .rt (d,.new) _=>some (d,true)
 | .rt (_,.at i) ρ=>match ρ[i]? with
  |some (.own d)=>some (d,true)
  |_=>none
 | .nx _=>some (.none,false)
 |_=>none
def fnM(n k:Nat)(b:SM)(ds:List D):Option (D×Bool):=if ds.length=n then(b (ds.map .fz++List.replicate k .no)).bind xQ else none
theorem fI(hb:MS t b)(hN:N.length=n+k)(h:spM (fnM n k b) vs H Q E):t {nx:=λ_ H'=>Q .non H',rt:=Q} (L2.start N vs) H:=by
 obtain⟨B,ds,d,o,sub,tB,rp,e,q⟩:=h;unfold fnM at e;split at e
 case isFalse=>cases e
 rename_i hl
 obtain⟨w,e1,e2⟩:=zaa e;have hvl:vs.length=n:=rp.length.trans hl;have jR:∀(i:Nat) (s:Sl),(ds.map Sl.fz++List.replicate k .no)[i]?=some s->s.isRef=true->False:=λi s h1 h2=>by
  have:=zaj h1;rcases zae this with h|h
  ·obtain⟨c,_,rfl⟩:=List.mem_map.mp h;cases h2
  ·rw[zaG h]at h2;cases h2
 have ex0:∀i:Nat,(ds.map Sl.fz++List.replicate k .no)[i]?=some Sl.ex->False:=λi h1=>by
  have:=zaj h1;rcases zae this with h|h
  ·obtain⟨c,_,z⟩:=List.mem_map.mp h;cases z
  ·have:=zaG h;cases this
 have R:Rel ⟨B,H,[],λq=>H q≠none⟩ B H (L2.start N vs) (ds.map .fz++List.replicate k .no):=by
  refine⟨sub,aG.refl _,λ_ _ z _=>z,λ_ _ z=>z,?_,λi s hs=>?_,λi j s t p h1 h2=>(jR i s h1 (Sl.kS h2)).elim,λi c p h1=>(jR i _ h1 rfl).elim,(λx hx=>by cases hx),λi c h1=>(jR i _ h1 rfl).elim,tB,(λi h1=>(ex0 i h1).elim),λq o u h z=>by rw[z]at h;cases h⟩
  ·simp[L2.start,hl,hvl,hN]
  ·by_cases hi:i<n
   ·rw[zax (by simpa[hl]using hi),zao]at hs
    obtain⟨c,h1,rfl⟩:=zab hs;obtain⟨x,h2,h3⟩:=rp.get i c h1;refine⟨x,?_,h3⟩;unfold L2.start;rw[zax (by simpa[hvl]using hi),zao,h2]
    rfl
   ·rw[zaN (by simpa[hl]using zba hi)]at hs
    have:=zaG (zaj hs);subst this;trivial
 refine hb _ B H _ _ w _ R e1 ?_;have post:∀{B' H':Hp} {σ':St} {ρ':Rho},Rel ⟨B,H,[],λq=>H q≠none⟩ B' H' σ' ρ'->aG H H'/\aG B B'/\aG B' H'/\(∀q,H q≠none->B q=none->B' q=none)/\(∀q xs,H' q=some (.tup xs)->B' q=some (.tup xs))/\∀q o u,H' q=some (.frz o u)->H q≠none:=λR'=>
  ⟨λq u z=>R'.sH q u z (λx hx=>by cases hx),R'.sB,R'.sub,R'.nB,R'.cW,R'.nz⟩
 cases w with
 |nx ρ'=>
  cases e2;intro B' H' σ' R';obtain⟨p1,p2,p3,p4,p5,p6⟩:=post R';exact q _ B' H' ⟨p1,p2,p3,p4,p5,p6,.non⟩
 |bk ρ'=>cases e2
 |ct ρ'=>cases e2
 |rt r ρ'=>
  intro v B' H' σ' R' V';obtain⟨p1,p2,p3,p4,p5,p6⟩:=post R';obtain⟨c,kd⟩:=r;cases kd with
  |fz=>cases e2;exact q v B' H' ⟨p1,p2,p3,p4,p5,p6,V'⟩
  |new=>
   cases e2;obtain⟨p,rfl,h1,h2,h3,_⟩:=V';exact q _ B' H' ⟨p1,p2,p3,p4,p5,p6,⟨p,rfl,h2,h1,h3⟩⟩
  |ro=>cases e2
  | «at» i=>
   obtain⟨s,h1,h2,h3,h4⟩:=V';have e2':(match ρ'[i]? with
    |some (.own d)=>some (d,true)
    |_=>none)=some (d,o):=e2
   rw[h1]at e2';cases s with
   |own c'=>
    cases e2';obtain⟨p,g1,g2,g3⟩:=R'.slot i _ h1;have h4' : σ'[i]?=some (some v):=h4;rw[h4']at g1;cases g1;exact q _ B' H' ⟨p1,p2,p3,p4,p5,p6,⟨p,rfl,R'.kc i _ p h1 h4',g2,g3⟩⟩
   |_=>cases e2'
theorem dU(h:spM (fnM n k b) vs H Q E):vs.length=n:=by
 obtain⟨B,ds,d,o,sub,tB,rp,e,q⟩:=h;unfold fnM at e;split at e
 ·rename_i hl;exact rp.length.trans hl
 ·cases e
end Mir
namespace Mir
open PySem L2 PySem.Spec PyProof.Rows
variable [Zc]
section
variable{X:Cx}
def ID:R2:=λx y H Q=>∃l b xs zs,x=.ref l/\y=.ref b/\Rd H l (.lst xs)/\Rd H b (.lst zs)/\xs.length+zs.length<=sizeLine/\∀p,H p=none->Q (.ref p) (upd H p (.lst (xs++zs)))
theorem GK:OpR X (binaryOp .Add) ID:=by
 intro pins s σ H x y v u Q I rx ry h;obtain⟨l,b,xs,zs,rfl,rfl,hH,hB,hz,q⟩:=h;cases rx;cases ry;obtain⟨z,its,n,r,e⟩:=hH.ok I.hok;obtain⟨z2,its2,n2,r2,e2⟩:=hB.ok I.hok;have hl:=r.length;have hl2:=r2.length;refine PySem.P.add_list e e2 ?_ (by rw[zaK,zaK];omega)
 have ea:its.toArray++its2.toArray=(its++its2).toArray:=by simp
 rw[ea];exact⟨.ref _,_,I.Ln (t':=s.toks) (r.append r2) (by rw[zau];omega),rfl,q _ I.fresh⟩
def vT(K:zag):R2:=λx y H Q=>rI0 (λi j=>.int (i+j)) x y H Q\/ID x y H Q\/(∃i j,x=.str i/\y=.str j/\i.length+j.length<=sizeLine/\Q (.str (i++j)) H)\/Iy K x y H Q
theorem AU:OpR X (binaryOp .Add) (vT X.K):=JF.or (GK.or (zy.or Gn))
end
theorem g9(h:∀Q:VK,Q (.int i) H->k Q):qp B H (.int i,false) k:=⟨_,.int i,h⟩
theorem jk(h:∀Q:VK,Q (.bl i) H->k Q):qp B H (.bool i,false) k:=⟨_,.bl i,h⟩
theorem GL(h:∀Q:VK,Q (.str i) H->k Q):qp B H (.str i,false) k:=⟨_,.str i,h⟩
def gr:D->D->Option (D×Bool)
 | .int i,.int j=>some (.int (i+j),false)
 | .list a,.list b=>cIf (a.length+b.length<=sizeLine) (some (.list (a++b),true)) none
 | .str a,.str b=>cIf (a.length+b.length<=sizeLine) (some (.str (a++b),false)) none
 | .tuple (c::a),.tuple b=>cIf ((c::a).length+b.length<=sizeLine/\b≠[]) (some (.tuple ((c::a)++b),true)) none
 |_,_=>none
theorem iL{K:zag}:OpJ (vT K) gr:=by
 intro B H x y c d res s hx hy e;unfold gr at e;split at e
 ·cases e
  have h1:=hx.int;have h2:=hy.int;subst h1 h2
  exact g9 λQ q=>.inl ⟨_,_,rfl,rfl,q⟩
 ·obtain⟨hz,e⟩:=df e
  ·cases e
   obtain⟨p,xs,rfl,r1,rp1⟩:=hx.list s;obtain⟨p2,ys,rfl,r2,rp2⟩:=hy.list s;exact⟨xs++ys,rp1.append rp2,λQ q=>.inr (.inl ⟨_,_,_,_,rfl,rfl,r1,r2,by rw[rp1.length,rp2.length];exact hz,q⟩)⟩
 ·obtain⟨hz,e⟩:=df e
  ·cases e
   have h1:=hx.str;have h2:=hy.str;subst h1 h2
   exact GL λQ q=>.inr (.inr (.inl ⟨_,_,rfl,rfl,hz,q⟩))
 ·obtain⟨hz,e⟩:=df e
  ·cases e
   obtain⟨p,xs,rfl,r1,rp1⟩:=hx.tuple s;obtain⟨p2,ys,rfl,r2,rp2⟩:=hy.tuple s;have hne:xs≠[]:=by intro z;subst z;cases rp1
   have M7:ys≠[]:=by intro z;subst z;cases rp2;exact hz.2 rfl
   refine⟨xs++ys,rp1.append rp2,λQ q=>.inr (.inr (.inr ⟨_,_,xs,ys,rfl,rfl,.inl (.inl r1),.inl (.inl r2),?_⟩))⟩
   exact⟨hne,by rw[rp1.length,rp2.length];exact hz.1,λz=>absurd z M7,λ_=>q⟩
 ·cases e
def gI(C:Int->Int->Prop)(f:Int->Int->Int):D->D->Option (D×Bool)
 | .int i,.int j=>cIf (C i j) (some (.int (f i j),false)) none
 |_,_=>none
theorem J_I:OpJ (rI C λi j=>.int (f i j)) (gI C f):=by
 intro B H x y c d res s hx hy e;unfold gI at e;split at e
 ·obtain⟨hc,e⟩:=df e
  ·cases e
   have h1:=hx.int;have h2:=hy.int;subst h1 h2
   exact g9 λQ q=>⟨_,_,rfl,rfl,hc,q⟩
 ·cases e
def gI0(f:Int->Int->Int):D->D->Option (D×Bool)
 | .int i,.int j=>some (.int (f i j),false)
 |_,_=>none
theorem GN:OpJ (rI0 λi j=>.int (f i j)) (gI0 f):=by
 intro B H x y c d res s hx hy e;unfold gI0 at e;split at e
 ·cases e
  have h1:=hx.int;have h2:=hy.int;subst h1 h2
  exact g9 λQ q=>⟨_,_,rfl,rfl,q⟩
 ·cases e
def gB0(f:Int->Int->Bool):D->D->Option (D×Bool)
 | .int i,.int j=>some (.bool (f i j),false)
 |_,_=>none
theorem Ef:OpJ (rI0 λi j=>.bl (f i j)) (gB0 f):=by
 intro B H x y c d res s hx hy e;unfold gB0 at e;split at e
 ·cases e
  have h1:=hx.int;have h2:=hy.int;subst h1 h2
  exact jk λQ q=>⟨_,_,rfl,rfl,q⟩
 ·cases e
abbrev xt:=gI0 λi j=>i-j
abbrev gLe:=gB0 λi j=>decide (i<=j)
abbrev gGt:=gB0 λi j=>decide (j<i)
abbrev nN:=gI JC λi j=>i/j
abbrev d5:=gI (λ_ j=>0<j) λi j=>i%j
abbrev Eg:=gI JD λi j=>i^j.toNat
section
variable{X:Cx}
def AV:R2:=λx y H Q=>rI IntMulOk (λi j=>.int (i*j)) x y H Q\/Lo x y H Q
theorem vU:OpR X (binaryOp .Mult) AV:=Gx.or JS
end
def xR:D->D->Option (D×Bool)
 | .int i,.int j=>cIf (IntMulOk i j) (some (.int (i*j),false)) none
 |_,_=>none
theorem Eh:OpJ AV xR:=by
 intro B H x y c d res s hx hy e;unfold xR at e;split at e
 ·obtain⟨hc,e⟩:=df e
  ·cases e
   have h1:=hx.int;have h2:=hy.int;subst h1 h2
   exact g9 λQ q=>.inl ⟨_,_,rfl,rfl,hc,q⟩
 ·cases e
mutual
theorem Rep.data{K:zag}:∀{v:V} {d:D},Rep H v d->d.canLay0=true->jf K H v d
 |_,_,.non,_=>.non
 |_,_,.bl b,_=>.bl b
 |_,_,.int i,_=>.int i
 |_,_,.str x,_=>.str x
 |_,_,.lst h r,e=>.lst (ke h) (aY.data r (by simpa[PyData.canLay0]using e))
 |_,_,.tup h r,e=>.tup (.inl (.inl h)) (aY.data r (by simpa[PyData.canLay0]using e))
 |_,_,.dct _ _,e=>by simp[PyData.canLay0]at e
theorem aY.data{K:zag}:∀{v:List V} {d:List D},aY H v d->PyData.canLayAll0 d=true->jg K H v d
 |_,_,.nil,_=>.nil
 |_,_,.cons a b,e=>by
  simp only[PyData.canLayAll0,Bool.and_eq_true]at e;exact .cons (Rep.data a e.1) (aY.data b e.2)
end
def gEq:D->D->Option (D×Bool):=λc d=>if SeqAt.shaped c=true/\SeqAt.shaped d=true then some (.bool (PyData.eqv c d),false)else none
def gNe:D->D->Option (D×Bool):=λc d=>if SeqAt.shaped c=true/\SeqAt.shaped d=true then some (.bool (!PyData.eqv c d),false)else none
theorem tR{K:zag}:OpJ (JX K) gEq:=by
 intro B H x y c d res s hx hy e;unfold gEq at e;split at e
 ·rename_i h
  cases e;exact jk λQ q=>⟨_,_,(hx.rep s).data (SeqAt.canLay_of_shaped h.1),(hy.rep s).data (SeqAt.canLay_of_shaped h.2),h.1,h.2,q⟩
 ·cases e
theorem mh{K:zag}:OpJ (JY K) gNe:=by
 intro B H x y c d res s hx hy e;unfold gNe at e;split at e
 ·rename_i h
  cases e;exact jk λQ q=>⟨_,_,(hx.rep s).data (SeqAt.canLay_of_shaped h.1),(hy.rep s).data (SeqAt.canLay_of_shaped h.2),h.1,h.2,q⟩
 ·cases e
def isNone:D->Bool
 | .none=>true
 |_=>false
theorem Rep.isNone(h:Rep H v d):decide (v=.non)=Mir.isNone d:=by cases h<;>rfl
def gIs:D->D->Option (D×Bool)
 |c,.none=>some (.bool (isNone c),false)
 |_,_=>none
def mi:D->D->Option (D×Bool)
 |c,.none=>some (.bool (!isNone c),false)
 |_,_=>none
theorem J7:OpJ (λx y H Q=>y=.non/\Q (.bl (decide (x=.non))) H) gIs:=by
 intro B H x y c d res s hx hy e;unfold gIs at e;split at e
 ·cases e
  exact jk λQ q=>⟨hy.none,by rw[(hx.rep s).isNone];exact q⟩
 ·cases e
theorem vV:OpJ (λx y H Q=>y=.non/\Q (.bl (!decide (x=.non))) H) mi:=by
 intro B H x y c d res s hx hy e;unfold mi at e;split at e
 ·cases e
  exact jk λQ q=>⟨hy.none,by rw[(hx.rep s).isNone];exact q⟩
 ·cases e
def Cs:D->Option (D×Bool)
 | .int i=>some (.int (-i),false)
 |_=>none
theorem Lz:UnJ (rU λi=>.int (-i)) Cs:=by
 intro B H x c res s hx e;unfold Cs at e;split at e
 ·cases e
  have h1:=hx.int;subst h1
  exact g9 λQ q=>⟨_,rfl,q⟩
 ·cases e
def gIx:D->D->Option (D×Bool)
 | .list ds,.int i=>(atI ds i).map λd=>(d,false)
 | .tuple ds,.int i=>(atI ds i).map λd=>(d,false)
 |_,_=>none
theorem aY.atI(r:aY H vs ds)(h:L2.atI ds i=some d):∃v,L2.atI vs i=some v/\Rep H v d:=by
 unfold L2.atI at h⊢;rw[r.length];obtain⟨j,h1,h2⟩:=zaa h;obtain⟨v,h3,h4⟩:=r.get j d h2;exact⟨v,by rw[h1];exact h3,h4⟩
theorem bJ{K:zag}:OpJ (rIx K) gIx:=by
 intro B H x y c d res s hx hy e;unfold gIx at e;split at e
 ·obtain⟨w,h1,h2⟩:=zab e
  cases h2;obtain⟨p,xs,rfl,r1,rp1⟩:=hx.list s;have h2:=hy.int;subst h2
  obtain⟨v,h3,h4⟩:=rp1.atI h1;exact⟨v,h4,λQ q=>.inl ⟨_,_,_,_,rfl,rfl,ke r1,h3,q⟩⟩
 ·obtain⟨w,h1,h2⟩:=zab e
  cases h2;obtain⟨p,xs,rfl,r1,rp1⟩:=hx.tuple s;have h2:=hy.int;subst h2
  obtain⟨v,h3,h4⟩:=rp1.atI h1;exact⟨v,h4,λQ q=>.inr (.inl ⟨_,_,_,_,rfl,rfl,.inl (.inl r1),h3,q⟩)⟩
 ·cases e
def cutD(ds:List D)(lo hi:Option Int):List D:=(ds.drop (HT.sIx ds.length 0 lo)).take (HT.sIx ds.length ds.length hi-HT.sIx ds.length 0 lo)
theorem aY.cut(r:aY H vs ds)(lo hi:Option Int):aY H (Cj vs lo hi) (cutD ds lo hi):=by
 unfold Cj cutD;rw[r.length];exact(r.drop _).take _
def gSl:D->Option Int->Option Int->Option (D×Bool)
 | .list ds,lo,hi=>some (.list (cutD ds lo hi),true)
 |_,_,_=>none
theorem Ei{K:zag}:SlJ (JP K) gSl:=by
 intro B H x c l u res s hx e;unfold gSl at e;split at e
 ·cases e
  obtain⟨p,xs,rfl,r1,rp1⟩:=hx.list s;exact⟨_,rp1.cut _ _,λQ q=>⟨_,_,rfl,ke r1,q⟩⟩
 ·cases e
def cX:List D->Option (D×Bool)
 | [.list ds]=>some (.int ds.length,false)
 | [.tuple ds]=>some (.int ds.length,false)
 | [.str x]=>cIf (x.length<=sizeLine) (some (.int x.length,false)) none
 |_=>none
theorem jS(h:Views B H vs [d]):∃v,vs=[v]/\View B H v d:=by
 match vs,h with
 | [v],⟨h,_⟩=>exact⟨v,rfl,h⟩
theorem J8(h:Views B H vs [c,d]):∃v w,vs=[v,w]/\View B H v c/\View B H w d:=by
 match vs,h with
 | [v,w],⟨h,g,_⟩=>exact⟨v,w,rfl,h,g⟩
theorem eJ{K:zag}:qq (J1 K) cX:=by
 intro B H vs ds res s h e;unfold cX at e;split at e
 ·cases e
  obtain⟨v,rfl,hh⟩:=jS h;obtain⟨p,xs,rfl,r1,rp1⟩:=hh.list s;exact g9 λQ q=>.inl ⟨_,_,rfl,.inl (ke r1),by rw[rp1.length];exact q⟩
 ·cases e
  obtain⟨v,rfl,hh⟩:=jS h;obtain⟨p,xs,rfl,r1,rp1⟩:=hh.tuple s;exact g9 λQ q=>.inl ⟨_,_,rfl,.inr (.inl (.inl r1)),by rw[rp1.length];exact q⟩
 ·obtain⟨hz,e⟩:=df e
  ·cases e
   obtain⟨v,rfl,hh⟩:=jS h;have:=hh.str;subst this
   exact g9 λQ q=>.inr ⟨_,rfl,hz,q⟩
 ·cases e
def Ct:List D->Option (D×Bool)
 | [.int i,.int j]=>some (.int (if j>i then j else i),false)
 |_=>none
def M8:List D->Option (D×Bool)
 | [.int i,.int j]=>some (.int (if j<i then j else i),false)
 |_=>none
def M9:List D->Option (D×Bool)
 | [.int i]=>some (.int (if i<0 then-i else i),false)
 |_=>none
def Na:List D->Option (D×Bool)
 | [.int i]=>some (.int i,false)
 | [.bool b]=>some (.int (if b then 1 else 0),false)
 |_=>none
theorem LA:qq (λxs H Q=>∃i j,xs=[.int i,.int j]/\Q (.int (if j>i then j else i)) H) Ct:=by
 intro B H vs ds res s h e;unfold Ct at e;split at e
 ·cases e
  obtain⟨v,w,rfl,h1,h2⟩:=J8 h;have:=h1.int;subst this
  have:=h2.int;subst this
  exact g9 λQ q=>⟨_,_,rfl,q⟩
 ·cases e
def AW:List D->Option (D×Bool)
 | [.list ds]=>some (.list ds,true)
 | [.tuple ds]=>some (.list ds,true)
 |_=>none
theorem Ej{K:zag}:qq (λxs H Q=>∃p ys,xs=[.ref p]/\(SqL K H p ys\/SqT K H p ys)/\∀l,H l=none->Q (.ref l) (upd H l (.lst ys))) AW:=by
 intro B H vs ds res s h e;unfold AW at e;split at e
 ·cases e
  obtain⟨v,rfl,hh⟩:=jS h;obtain⟨p,xs,rfl,r1,rp1⟩:=hh.list s;exact⟨xs,rp1,λQ q=>⟨_,_,rfl,.inl (ke r1),q⟩⟩
 ·cases e
  obtain⟨v,rfl,hh⟩:=jS h;obtain⟨p,xs,rfl,r1,rp1⟩:=hh.tuple s;exact⟨xs,rp1,λQ q=>⟨_,_,rfl,.inr (.inl (.inl r1)),q⟩⟩
 ·cases e
def tyD:D->String
 | .none=>"NoneType"
 | .bool _=>"bool"
 | .int _=>"int"
 | .str _=>"str"
 | .list _=>"list"
 | .tuple _=>"tuple"
 | .dict _=>"?"
theorem Rep.ty(h:Rep H v d)(hd:tyD d≠"?"):tyN H v=tyD d:=by
 cases h with
 |non=>rfl
 |bl _=>rfl
 |int _=>rfl
 |str _=>rfl
 |lst h _=>
  rcases h with h|⟨o,h⟩
  ·unfold tyN;simp only[h];rfl
  ·unfold tyN;simp only[h];rfl
 |tup h _=>unfold tyN;simp only[h];rfl
 |dct _ _=>exact absurd rfl hd
def mj(n:String):D->Option (D×Bool):=λd=>if tyD d≠"?"/\n∈dR then some (.bool (oD (tyD d) n),false)else none
def nP(n:String)(a:PM):PM:=mUn (mj n) a
theorem ml(ha:ME ta a):ME (tCB JW (ie ta (ie (tC (.ty n)) vy))) (nP n a):=by
 intro F B H σ ρ r0 ρ' Q R e q;obtain⟨x,e1,e⟩:=zaa e;obtain⟨res,e4,e⟩:=zab e;cases e;refine ha.sv F B H σ ρ x.1 x.2 _ R e1 λv B1 H1 E1 R1 V1 N1=>?_
 unfold mj at e4;split at e4
 ·rename_i hd
  cases e4;have rp:=(V1.view R1).rep R1.sub;have ht:=rp.ty hd.1;have hk:tyD x.1.1∈de:=by
   have h2:=hd.1
   revert h2
   cases x.1.1 with
   |none=>intro _;show "NoneType"∈de;decide
   |bool _=>intro _;show "bool"∈de;decide
   |int _=>intro _;show "int"∈de;decide
   |str _=>intro _;show "str"∈de;decide
   |list _=>intro _;show "list"∈de;decide
   |tuple _=>intro _;show "tuple"∈de;decide
   |dict _=>intro h2;exact absurd rfl h2
  exact⟨v,n,rfl,by rw[ht];exact hk,hd.2,by rw[ht];exact q _ B1 H1 E1 R1 (.bl _) λp z=>by cases z⟩
 ·cases e4
def jl:D->Bool
 | .none=>true
 | .bool _=>true
 | .int _=>true
 | .str _=>true
 |_=>false
theorem Rep.flat(h:Rep H v d)(e:jl d=true):nQ v=true:=by cases h<;>first|rfl|cases e
theorem aY.vW:∀{v:List V} {d:List D},aY H v d->d.all jl=true->v.all nQ=true
 |_,_,.nil,_=>rfl
 |_,_,.cons a b,e=>by
  simp only[List.all_cons,Bool.and_eq_true]at e⊢;exact⟨a.flat e.1,aY.vW b e.2⟩
theorem Rep.eqv(h:Rep H v c)(g:Rep H w d)(e:jl c=true)(e':jl d=true):eqV v w=PyData.eqv c d:=by
 cases h<;>first|(cases e;done)|(cases g<;>first|(cases e';done)|(simp[eqV,PyData.eqv]))
theorem aY.countP(g:Rep H w d)(e':jl d=true):∀{vs:List V} {ds:List D},aY H vs ds->ds.all jl=true->vs.countP (λz=>eqV z w)=ds.countP λc=>PyData.eqv c d
 |_,_,.nil,_=>rfl
 |_,_,.cons a b,e=>by
  simp only[List.all_cons,Bool.and_eq_true]at e;rw[List.countP_cons,List.countP_cons,aY.countP g e' b e.2,a.eqv g e.1 e']
def hI:List D->List D->Option (List D×D):=λds as=>match as with
 | [d]=>cIf (ds.length<sizeLine) (some (ds++[d],.none)) none
 |_=>none
theorem mm:vR oA hI:=by
 intro B H p xs ds vs as w hp rx s rv e;unfold hI at e;split at e
 ·obtain⟨hz,e⟩:=df e
  ·cases e
   cases rv with
   |cons a b=>
    cases b;exact⟨_,_,rx.append (.cons a .nil),.non,λQ q=>⟨_,_,_,rfl,rfl,hp,by rw[rx.length];exact hz,q⟩⟩
 ·cases e
def Nb:List D->List D->Option (List D×D):=λds as=>match as with
 | []=>(ds[ds.length-1]?).map λd=>(ds.dropLast,d)
 |_=>none
def pF:List D->List D->Option (List D×D):=λds as=>match as with
 | []=>some ([],.none)
 |_=>none
theorem GO:vR DN pF:=by
 intro B H p xs ds vs as w hp rx s rv e;unfold pF at e;split at e
 ·cases e
  cases rv;exact⟨_,_,.nil,.non,λQ q=>⟨_,_,rfl,rfl,hp,q⟩⟩
 ·cases e
def oH:List D->List D->Option (List D×D):=λds as=>match as with
 | []=>some (ds.reverse,.none)
 |_=>none
theorem Cu:vR xD oH:=by
 intro B H p xs ds vs as w hp rx s rv e;unfold oH at e;split at e
 ·cases e
  cases rv;exact⟨_,_,rx.reverse,.non,λQ q=>⟨_,_,rfl,rfl,hp,q⟩⟩
 ·cases e
end Mir
namespace Mir
open PySem L2 PySem.Spec PyProof.Rows
variable [Zc]
section
variable{X:Cx}{K:zag}
theorem d6(h:X.K=K):OpR X (binaryOp .Add) (vT K):=h▸AU
theorem jT(h:X.K=K)(hu:X.A.units+64<cLine):OpR X (compareOp .Eq) (JX K):=h▸JZ hu
theorem eR(h:X.K=K)(hu:X.A.units+64<cLine):OpR X (compareOp .NotEq) (JY K):=h▸J0 hu
theorem aA(h:X.K=K):IxR X (rIx K):=h▸JO
theorem mn(h:X.K=K):SlR X (JP K):=h▸Gu
theorem bG(h:X.K=K):eG X (.builtin "len") (J1 K):=h▸Cn
theorem rR(h:X.K=K):eG X (.type "list") (λxs H Q=>∃p ys,xs=[.ref p]/\(SqL K H p ys\/SqT K H p ys)/\∀l,H l=none->Q (.ref l) (upd H l (.lst ys))):=h▸vH
variable{tg l o e:Expr}{es:List Expr}{tl to:TE}{t:TA}{name:Str}{apos cpos:Pos}{T id:String}{r:V->List V->Hp->VK->Prop}
theorem gD(h:X.K=K)(hl:PE X l tl):PI X tg l (xu K tl):=h▸Gi hl
theorem qY(h:X.K=K)(hl:PE X l tl):PI X tg l (Gh K tl):=h▸JA hl
theorem vX(h:X.K=K)(pa:PlainAttrs T)(slot:Slot T name id)(hty:typeOf (.builtin id)=pure (.type "method_descriptor"))(hm:MtR X id r)(ho:PE X o to)
  (hbase:attributeBase o name X.env (eval o X.env)=eval o X.env:=by rfl) (hline:(apos.endLine==cpos.line)=true:=by rfl):PE X (.Call (.Attribute o name apos) [] [] cpos) (DJ K T r to):=h▸JR pa slot hty hm ho hbase hline
theorem fJ(h:X.K=K)(pa:PlainAttrs T)(slot:Slot T name id)(hty:typeOf (.builtin id)=pure (.type "method_descriptor"))(hm:MtR X id r)(ho:PE X o to)(ha:PA X (e::es) t)
  (hbase:attributeBase o name X.env (eval o X.env)=eval o X.env:=by rfl)
  (hfew:((backTo cpos (starEach (e::es) X.env)).all (λx=>!x.1)&&(backToKw cpos (keywordEach [] X.env)).all (λx=>x.1.isSome)
   &&decide ((e::es).length+([]:List Keyword).length+(if([]:List Keyword).isEmpty then 0 else 1)<30))=true:=by rfl)
  (hline:(apos.endLine==cpos.line)=true:=by rfl) (hs:starEach (e::es) X.env=(false,eval e X.env)::starEach es X.env:=by rfl) (hplain:(backTo cpos (starEach es X.env)).any (·.1)=false:=by rfl) :
  PE X (.Call (.Attribute o name apos) (e::es) [] cpos) (tBM K T r to t):=h▸Lm pa slot hty hm ho ha hbase hfew hline hs hplain
end
def qZ(K:zag):Bool:=K.all λp=>match p.2.cls with
 | .type n=>n !="list"
 |_=>true
theorem xS{α:Type}:∀{l:List (Addr×α)} {a:Addr} {o : α},l.lookup a=some o->(a,o)∈l
 |(b,c)::l,a,o,h=>by
  rw[za8]at h
  by_cases z:a=b
  ·subst z
   rw[beq_self_eq_true]at h;cases h;exact zas
  ·rw[beq_eq_false_iff_ne.mpr z]at h
   exact zak _ (xS h)
theorem LB{K:zag}(h:qZ K=true)(s:SqL K H a xs):Rd H a (.lst xs):=by
 rcases s with s|⟨o,its,n,hk,hc,_⟩
 ·exact s
 ·have:=List.all_eq_true.mp h _ (xS hk)
  dsimp only at this;rw[hc]at this;simp at this
theorem uD:∀ns:List Int,aY H (ns.map V.int) (ns.map PyData.int)
 | []=>.nil
 |n::ns=>.cons (.int n) (uD ns)
theorem J9{K:zag}(h:qZ K=true)(T:∀ns:List Int,ns.length<=63->(∀k∈ns,Builtin.Int.intBits k<=1048576)->f [.list (ns.map .int)]=some (.bool true,false))
  (vs:List V) (H:Hp) (Q:VK) (E:XK) (s:DR K vs H Q E):spM f vs H Q E:=by
 obtain⟨a,ns,rfl,hS,hl,hb,q⟩:=s;refine⟨H,_,_,_,aG.refl _,λ_ _ z=>z,.cons (.lst (LB h hS) (uD ns)) .nil,T ns hl hb,λv B' H' P=>?_⟩
 have pv:Rep B' v (.bool true):=P.val;cases pv;exact q _
end Mir
namespace Mir
open PySem L2
variable [Zc]
abbrev dI(l:List Int):D:=.list (l.map .int)
theorem LC(i j:Int):(i==j)=decide (i=j):=by by_cases h:i=j<;>simp[h]
theorem AX(i j:Int):gEq (.int i) (.int j)=some (.bool (decide (i=j)),false):=by
 unfold gEq;rw[if_pos ⟨rfl,rfl⟩];simp only[PyData.eqv,LC]
theorem AY(i j:Int):gNe (.int i) (.int j)=some (.bool (!decide (i=j)),false):=by
 unfold gNe;rw[if_pos ⟨rfl,rfl⟩];simp only[PyData.eqv,LC]
theorem Ek(i j:Bool):gEq (.bool i) (.bool j)=some (.bool (i==j),false):=by
 unfold gEq;rw[if_pos ⟨rfl,rfl⟩];simp only[PyData.eqv]
theorem El(i j:Bool):gNe (.bool i) (.bool j)=some (.bool (!(i==j)),false):=by
 unfold gNe;rw[if_pos ⟨rfl,rfl⟩];simp only[PyData.eqv]
theorem qt:∀l:List Int,PyData.canLayAll0 (l.map .int)=true
 | []=>rfl
 |_::l=>by simp only[List.map_cons,PyData.canLayAll0,PyData.canLay0,qt l,Bool.and_self]
theorem zE(l:List Int):(dI l).depth<=2:=by
 have h:∀l:List Int,PyData.depthAll (l.map .int)<=1:=by
  intro l
  induction l with
  |nil=>simp[PyData.depthAll]
  |cons a l ih=>simp only[List.map_cons,PyData.depthAll,PyData.depth];omega
 have:=h l;simp only[dI,PyData.depth];omega
theorem shaped_ints(l:List Int):SeqAt.shaped (dI l)=true:=by
 unfold SeqAt.shaped;have h:=zE l;rw[zaH (by omega),Bool.and_true]
 simp only[dI,PyData.canLay0,qt]
theorem qu:∀a b:List Int,PyData.eqvAll (a.map .int) (b.map .int)=decide (a=b)
 | [],[]=>by simp[PyData.eqvAll]
 | [],_::_=>by simp[PyData.eqvAll]
 |_::_,[]=>by simp[PyData.eqvAll]
 |x::a,y::b=>by
  simp only[List.map_cons,PyData.eqvAll,PyData.eqv,qu a b]
  by_cases h:x=y<;>by_cases g:a=b<;>simp[h,g]
theorem xT(a b:List Int):PyData.eqv (dI a) (dI b)=decide (a=b):=by simp only[dI,PyData.eqv,qu]
theorem xU(a b:List Int):gEq (dI a) (dI b)=some (.bool (decide (a=b)),false):=by
 unfold gEq;rw[if_pos ⟨shaped_ints a,shaped_ints b⟩,xT]
theorem Em(a b:List Int):gNe (dI a) (dI b)=some (.bool (!decide (a=b)),false):=by
 unfold gNe;rw[if_pos ⟨shaped_ints a,shaped_ints b⟩,xT]
theorem xV(i:Int):mj "int" (.int i)=some (.bool true,false):=by simp[mj,tyD,dR,oD]
theorem kW(i:Int):mj "bool" (.int i)=some (.bool false,false):=by simp[mj,tyD,dR,oD]
theorem nS(i:List D):mj "list" (.list i)=some (.bool true,false):=by simp[mj,tyD,dR,oD]
theorem eu(i:List D):mj "tuple" (.tuple i)=some (.bool true,false):=by simp[mj,tyD,dR,oD]
theorem qU(xs:List α)(i:Nat):atI xs (i:Int)=xs[i]?:=by
 unfold atI ixN;rw[if_pos (by omega)]
 split
 ·simp
 ·rename_i h
  rw[Option.bind_none,List.getElem?_eq_none (by omega)]
theorem xB(xs:List α):atI xs (-1)=xs.getLast?:=by
 unfold atI ixN;rw[if_neg (by omega)]
 cases xs with
 |nil=>simp
 |cons a l=>
  rw[if_pos (by simp only[List.length_cons];omega),zai,List.getLast?_eq_getElem?]
  congr 1
  simp only[List.length_cons];omega
theorem GP(f : α->β)(xs:List α)(i:Int):atI (xs.map f) i=(atI xs i).map f:=by
 simp only[atI,List.length_map,List.getElem?_map];cases ixN xs.length i with
 |none=>rfl
 |some j=>simp only[Option.bind_some]
theorem oI(h1:c ρ=some (true,ρ1))(h2:b ρ1=some (.nx ρ2))(h3:fH c b n ρ2=o):fH c b (n+1) ρ=o:=by
 unfold fH;simp only[h1,h2,Option.bind_some,if_true,h3]
theorem i6(h1:c ρ=some (false,ρ1)):fH c b (n+1) ρ=some (.nx ρ1):=by
 unfold fH;simp only[h1,Option.bind_some,Bool.false_eq_true,if_false]
theorem Cv(i:Int):fB (.int i) false=true:=rfl
theorem zF(i:Bool):fB (.bool i) false=true:=rfl
theorem Cw(i:Str):fB (.str i) false=true:=rfl
theorem zG:fB .none false=true:=rfl
theorem zH(l:List D):fB (.list l) false=false:=rfl
theorem Cy(l:List D):fB (.tuple l) false=bc l:=by simp only[fB,eQ]
theorem Cz(l:List D):fB (.list l) true=bc l:=rfl
theorem rS:bc []=true:=by simp only[bc]
theorem rT(i:Int)(l:List D):bc (.int i::l)=bc l:=by simp only[bc,eQ,Bool.true_and]
theorem xW(i:Bool)(l:List D):bc (.bool i::l)=bc l:=by simp only[bc,eQ,Bool.true_and]
theorem xX(i l:List D):bc (.list i::l)=false:=by simp only[bc,eQ,Bool.false_and]
theorem qv:∀l:List Int,bc (l.map .int)=true
 | []=>rS
 |i::l=>by rw[zaz,rT,qv l]
theorem Ka(d:D):lZ (d,false)=(d,.fz):=rfl
theorem Kb(l:List D):lZ (.list l,true)=(.list l,.new):=rfl
theorem Kc(l:List D):lZ (.tuple l,true)=(.tuple l,.fz):=rfl
theorem Nc(d:D):kO d false=(d,.fz):=rfl
theorem Nd(d:D):kO d true=(d,.new):=rfl
theorem aX(h1:a ρ=some (.nx ρ1))(h2:b ρ1=o):cg a b ρ=o:=by
 unfold cg;simp only[h1,Option.bind_some,h2]
theorem zI(h1:a ρ=some (.rt r ρ1)):cg a b ρ=some (.rt r ρ1):=by
 unfold cg;simp only[h1,Option.bind_some]
theorem eO(h0:ds.length=n)(h1:b (ds.map .fz++List.replicate k .no)=some o)(h2:xQ o=some w):fnM n k b ds=some w:=by
 unfold fnM;rw[if_pos h0,h1,zai,h2]
theorem cQ(h1:m ρ=some (rs,ρ1))(h2:f (rs.map (·.1))=some (d,o))(h3:fB d o=true):b4 f m ρ=some (kO d o,ρ1):=by
 unfold b4;rw[h1,zai];dsimp only;rw[h2,zai,if_pos h3]
theorem du(h:a ρ=some (r,ρ1)):fQ a ρ=some (.rt r ρ1):=by
 unfold fQ;rw[h,zaT]
theorem rV(h1:it ρ=some (ds,ρ1))(h2:forL g b ds ρ1=o):xP it g b ρ=o:=by
 unfold xP;rw[h1,zai];exact h2
theorem Ke{m:Rho->Option (List RV×Rho)}(h1:m ρ=some ([(.int j,k)],ρ1))(h2 : -(2^62)<=j/\j<2^62):vN m ρ=some (xO 0 j.toNat,ρ1):=by
 unfold vN;rw[h1,zai];show cIf _ _ _=_;rw[b7 h2]
end Mir
namespace Mir
open PySem L2
variable [Zc]
def SF(s:Sl):Prop:=s=.no\/∃d,s=.fz d
theorem SF.fz(d:D):SF (.fz d):=.inr ⟨d,rfl⟩
theorem SF.no:SF .no:=.inl rfl
theorem GQ(h:k<n):ixN n (k:Int)=some k:=by
 unfold ixN;rw[if_pos (by omega),if_pos (by omega),Int.toNat_natCast]
theorem uE(h:n<=100000):n<=sizeLine:=zaX h (by decide)
theorem xY(h:n<=100000):n<sizeLine:=Nat.lt_of_le_of_lt h (by decide)
end Mir
namespace Mir
open PySem L2 PySem.Spec PyProof.Rows
variable [Zc]
end Mir
namespace Mir
open PySem L2
variable [Zc]
def inD(x:D)(ds:List D):Bool:=ds.any λd=>PyData.eqv d x
theorem aY.inV(g:Rep H v c)(e:jl c=true):∀{vs:List V} {ds:List D},aY H vs ds->ds.all jl=true->inV v vs=inD c ds
 |_,_,.nil,_=>rfl
 |_,_,.cons a b,h=>by
  simp only[List.all_cons,Bool.and_eq_true]at h;have:=aY.inV g e b h.2;unfold L2.inV inD at this⊢;rw[List.any_cons,List.any_cons,this,a.eqv g h.1 e]
def zJ:D->D->Option (D×Bool)
 |x,.list ds=>if jl x=true/\ds.all jl=true then some (.bool (!inD x ds),false)else none
 |_,_=>none
theorem GR:OpJ (rIn K true) zJ:=by
 intro B H x y c d res s hx hy e;unfold zJ at e;split at e
 ·split at e
  ·rename_i hf
   cases e;obtain⟨p,xs,rfl,r1,rp1⟩:=hy.list s;have rx:=hx.rep s;have rp:=rp1.mono s;refine jk λQ q=>⟨_,_,rfl,.inl (ke r1),rx.flat hf.1,rp.vW hf.2,?_⟩
   rw[aY.inV rx hf.1 rp hf.2];exact q
  ·cases e
 ·cases e
section
variable{X:Cx}{K:zag}
theorem uF(h:X.K=K):OpR X (compareOp .NotIn) (rIn K true):=h▸vE
end
end Mir
namespace Mir
open PySem L2
variable [Zc]
section
variable{a b:PM}{ρ ρ1 ρ2 ρ3:Rho}{x y d:D}{r:RV}{res:D×Bool}
theorem jm(h:a ρ=some ((d,.new),ρ1)):sv a ρ=some ((d,.fz),ρ1):=by unfold sv;rw[h]
theorem ao(h:a ρ=some ((d,.fz),ρ1)):sv a ρ=some ((d,.fz),ρ1):=by unfold sv;rw[h]
theorem rW(h:a ρ=some ((d,.at i),ρ1)):sv a ρ=some ((d,.at i),ρ1):=by unfold sv;rw[h]
theorem bC(h1:sv a ρ=some ((x,.fz),ρ1))(h2:sv b ρ1=some (r,ρ2))(h3:g x r.1=some res):mOp g a b ρ=some (lZ res,ρ2):=by
 unfold mOp;rw[h1,zai];dsimp only;rw[h2,zai];dsimp only[nX,Option.bind_some];rw[h3,zaT]
theorem LD(h1:sv a ρ=some ((x,.at i),ρ1))(h2:sv b ρ1=some (r,ρ2))(h4 : ρ2[i]?=some (.own y))(h3:g y r.1=some res):mOp g a b ρ=some (lZ res,ρ2):=by
 unfold mOp;rw[h1,zai];dsimp only;rw[h2,zai];dsimp only[nX];rw[h4];dsimp only[Option.bind_some];rw[h3,zaT]
theorem ay{rs:List RV}(h1:sv a ρ=some ((x,.fz),ρ1))(h2:m ρ1=some (rs,ρ2)):aj a m ρ=some ((x,.fz)::rs,ρ2):=by
 unfold aj;rw[h1,zai];dsimp only;rw[h2,zai];rfl
theorem q0{rs:List RV}(h1:sv a ρ=some ((x,.at i),ρ1))(h2:m ρ1=some (rs,ρ2))(h4 : ρ2[i]?=some (.own y)):aj a m ρ=some ((y,.at i)::rs,ρ2):=by
 unfold aj;rw[h1,zai];dsimp only;rw[h2,zai];dsimp only[nX];rw[h4];rfl
theorem aT:aI ρ=some ([],ρ):=rfl
theorem ar(h : ρ[i]?=some (.fz d)):ai i ρ=some ((d,.fz),ρ):=by unfold ai;rw[h]
theorem hU(h : ρ[i]?=some (.own d)):ai i ρ=some ((d,.at i),ρ):=by unfold ai;rw[h]
theorem eS(h1:m ρ=some (rs,ρ1))(h2:g (rs.map (·.1))=some res):mCB g m ρ=some (lZ res,ρ1):=by
 unfold mCB;rw[h1,zai];dsimp only;rw[h2,zaT]
theorem dw(h1:a ρ=some ((d,.fz),ρ1))(h2:fC ρ1 i (.fz d)=some ρ2):dM i a ρ=some (.nx ρ2):=by
 unfold dM;rw[h1,zai];dsimp only[sto];rw[h2,zaT]
theorem eK(h1:a ρ=some ((d,.new),ρ1))(h2:fC ρ1 i (.own d)=some ρ2):dM i a ρ=some (.nx ρ2):=by
 unfold dM;rw[h1,zai];dsimp only[sto];rw[h2,zaT]
theorem xZ(h1:c ρ=some (true,ρ1))(h2:s ρ1=o):iD c s t ρ=o:=by
 unfold iD;rw[h1,zai];dsimp only;rw[if_pos rfl,h2]
theorem kX(h1:c ρ=some (false,ρ1))(h2:t ρ1=o):iD c s t ρ=o:=by
 unfold iD;rw[h1,zai];dsimp only;rw[if_neg zam,h2]
theorem test_ev{k:Kd}(h:a ρ=some ((.bool v,.fz),ρ1)):aO a ρ=some (v,ρ1):=by
 unfold aO;rw[ao h];rfl
theorem gE(h:c ρ=some (v,ρ1)):ig c ρ=some (!v,ρ1):=by unfold ig;rw[h];rfl
theorem AZ(h:c ρ=some (true,ρ1))(h2:e ρ1=o):pA c e ρ=o:=by unfold pA;rw[h];simpa using h2
theorem IF(h:c ρ=some (false,ρ1)):pA c e ρ=some (false,ρ1):=by unfold pA;rw[h];rfl
theorem Nf(h:c ρ=some (true,ρ1)):mOr c e ρ=some (true,ρ1):=by unfold mOr;rw[h];rfl
theorem jU(h:c ρ=some (false,ρ1))(h2:e ρ1=o):mOr c e ρ=o:=by unfold mOr;rw[h];simpa using h2
theorem pG(a b:List D)(h:a.length+b.length<=100000):gr (.list a) (.list b)=some (.list (a++b),true):=by
 show cIf _ _ _=_;rw[b7 (uE h)]
theorem fK(h1:m ρ=some (rs,ρ1))(h2:gA rs ρ1=some (ds,ρ2))(h3:ds.length<=100000):f6 m ρ=some ((.list ds,.new),ρ2):=by
 unfold f6;rw[h1,zai];dsimp only;rw[h2,zai];dsimp only;rw[b7 (uE h3)]
theorem dN(h1:m ρ=some (rs,ρ1))(h2:gA rs ρ1=some (ds,ρ2))(h3:ds.length<=100000):gB m ρ=some ((.tuple ds,.fz),ρ2):=by
 unfold gB;rw[h1,zai];dsimp only;rw[h2,zai];dsimp only;rw[b7 (uE h3)]
theorem uG(h1:it ρ=some (ds,ρ1))(h2:kf c e (fr.map λp=>cb ρ1 p.2) ds=some ys)(h3:ys.length<=100000) :
  mLC fr it c e ρ=some ((.list ys,.new),ρ1):=by
 unfold mLC;rw[h1,zai];dsimp only;rw[h2,zai,b7 (xY h3)]
theorem vY{d:List D}(h1:sv a ρ=some ((.list d,k),ρ1)):pB a ρ=some (d,ρ1):=by
 unfold pB;rw[h1];rfl
theorem Kf{d:List D}(h1:sv a ρ=some ((.list d,.fz),ρ1)):D9 a ρ=some (d,ρ1):=by
 unfold D9;rw[h1];rfl
theorem iS(h:a ρ=some (r,ρ1)):gk a ρ=some (.nx ρ1):=by unfold gk;rw[h];rfl
end
theorem kh{ρn:Rho}{α:Type}{f : α->D}{g : α->D}:∀l:List α,(∀x∈l,∃ρ,sv e (.fz (f x)::ρn)=some ((g x,.fz),ρ))->kf vP e ρn (l.map f)=some (l.map g)
 | [],_=>rfl
 |x::l,h=>by
  obtain⟨ρ,h1⟩:=h x zas;have h2:=kh l λy hy=>h y (zak _ hy)
  rw[zaz,zaz];unfold kf;simp only[vP,h1,h2,asF,Option.bind_some,Option.map_some,if_true]
theorem En(n:Nat):xO 0 n=(List.range n).map λk:Nat=>PyData.int (k:Int):=by
 unfold xO
 congr 1
 funext k
 rw[Int.zero_add]
theorem IG(h:(-(2^64)<i/\i<2^64)\/(-(2^64)<j/\j<2^64)):IntMulOk i j:=JE.ok h
def IE(m:PM)(ρ:Rho)(v:Int):Prop:=m ρ=some ((.int v,.fz),ρ)
def BE(m:PM)(ρ:Rho)(v:Bool):Prop:=m ρ=some ((.bool v,.fz),ρ)
section
variable{a b:PM}{ρ:Rho}{i j:Int}{u v:Bool}
theorem CA(h1:IE a ρ i)(h2:IE b ρ j)(h3:g (.int i) (.int j)=some (.int k,false)):IE (mOp g a b) ρ k:=bC (ao h1) (ao h2) h3
theorem GS(h1:IE a ρ i)(h2:IE b ρ j)(h3:g (.int i) (.int j)=some (.bool k,false)):BE (mOp g a b) ρ k:=bC (ao h1) (ao h2) h3
theorem c7:IE (mC (.int i)) ρ i:=rfl
theorem cD(h : ρ[k]?=some (.fz (.int i))):IE (ai k) ρ i:=ar h
theorem jV(h1:IE a ρ i)(h2:IE b ρ j):IE (mOp gr a b) ρ (i+j):=CA h1 h2 rfl
theorem vZ(h1:IE a ρ i)(h2:IE b ρ j):IE (mOp xt a b) ρ (i-j):=CA h1 h2 rfl
theorem Eo(h:C i j):gI C f (.int i) (.int j)=some (.int (f i j),false):=by show cIf _ _ _=_;rw[b7 h]
theorem zK(h1:IE a ρ i)(h2:IE b ρ j)(h:IntMulOk i j):IE (mOp xR a b) ρ (i*j):=CA h1 h2 (by show cIf _ _ _=_;rw[b7 h])
theorem rX(h1:IE a ρ i)(h2:IE b ρ j)(h:JC i j):IE (mOp nN a b) ρ (i/j):=CA h1 h2 (Eo h)
theorem fL(h1:IE a ρ i)(h2:IE b ρ j)(h : 0<j):IE (mOp d5 a b) ρ (i%j):=CA h1 h2 (Eo (C:=λ_ j=>0<j) h)
theorem Kg(h1:IE a ρ i)(h2:IE b ρ j)(h:JD i j):IE (mOp Eg a b) ρ (i^j.toNat):=CA h1 h2 (Eo h)
theorem Kh(h1:IE a ρ i):IE (mUn Cs a) ρ (-i):=by unfold IE mUn;rw[ao h1];rfl
theorem A0(h1:IE a ρ i)(h2:IE b ρ j):BE (mOp gEq a b) ρ (decide (i=j)):=GS h1 h2 (AX i j)
theorem qw(h1:IE a ρ i)(h2:IE b ρ j):BE (mOp gNe a b) ρ (!decide (i=j)):=GS h1 h2 (AY i j)
theorem Ep(h1:IE a ρ i)(h2:IE b ρ j):BE (mOp gLe a b) ρ (decide (i<=j)):=GS h1 h2 rfl
theorem rY(h1:IE a ρ i)(h2:IE b ρ j):BE (mOp gGt a b) ρ (decide (j<i)):=GS h1 h2 rfl
theorem BE.t(h:BE a ρ v):aO a ρ=some (v,ρ):=test_ev (k:=.fz) h
theorem BE.is(h:BE a ρ u)(e:u=v):BE a ρ v:=e▸h
theorem IE.is(h:IE a ρ i)(e:i=j):IE a ρ j:=e▸h
theorem m4(h1:m ρ=some (rs,ρ))(h2:f (rs.map (·.1))=some (.int i,false)):IE (b4 f m) ρ i:=cQ h1 h2 rfl
theorem kY(h1:m ρ=some (rs,ρ))(h2:f (rs.map (·.1))=some (.bool v,false)):BE (b4 f m) ρ v:=cQ h1 h2 rfl
theorem IE.cons{rs:List RV}(h:IE a ρ i)(h2:m ρ=some (rs,ρ)):aj a m ρ=some ((.int i,.fz)::rs,ρ):=ay (ao h) h2
theorem Ng(h:IE a ρ i)(h2:fC ρ k (.fz (.int i))=some ρ'):dM k a ρ=some (.nx ρ'):=dw h h2
theorem jn(h:BE a ρ u)(e:u=v):aO a ρ=some (v,ρ):=e▸h.t
theorem ik{rs:List RV}(h:IE a ρ i)(h2:m ρ=some (rs,ρ)):aj a m ρ=some ((.int i,.fz)::rs,ρ):=ay (ao h) h2
theorem tEq(h1:IE a ρ i)(h2:IE b ρ j)(h:i=j):aO (mOp gEq a b) ρ=some (true,ρ):=jn (A0 h1 h2) (zaH h)
theorem tNe(h1:IE a ρ i)(h2:IE b ρ j)(h:i≠j):aO (mOp gEq a b) ρ=some (false,ρ):=jn (A0 h1 h2) (zaO h)
end
theorem mq(h1:sv a ρ=some ((d,k),ρ1))(h2:mj n d=some (.bool v,false)):nP n a ρ=some ((.bool v,.fz),ρ1):=by
 unfold nP mUn;rw[h1,zai];dsimp only;rw[h2];rfl
theorem ya(x : α)(l:List α):atI (x::l) 0=some x:=qU (x::l) 0
theorem ki(h1:g d ρ=some ρ1)(h2:b ρ1=some (.nx ρ2))(h3:forL g b ds ρ2=o):forL g b (d::ds) ρ=o:=by
 show((g d ρ).bind _)=_;rw[h1,zai,h2];exact h3
theorem GU(h1:g d ρ=some ρ1)(h2:b ρ1=some (.rt r ρ2)):forL g b (d::ds) ρ=some (.rt r ρ2):=by
 show((g d ρ).bind _)=_;rw[h1,zai,h2];rfl
end Mir
namespace Mir
open PySem L2
variable [Zc]
def asS:D->Option (List D)
 | .list ds=>some ds
 | .tuple ds=>some ds
 |_=>none
def mgU(n:Nat)(ms:List D->Rho->Option Rho):D->Rho->Option Rho:=λd ρ=>(asS d).bind λds=>if ds.length=n then ms ds ρ else none
theorem m5(h:MGs gs ms):MG (DT K n gs) (mgU n ms):=λF B H σ ρ v d ρ' Q R rp e q=>by
 obtain⟨ds,e1,e2⟩:=zaa e;cases rp with
 |tup hp rs=>
  cases e1;split at e2
  ·rename_i hn
   exact⟨_,_,rfl,.inl (.inl (.inl (R.sub _ _ hp))),by rw[rs.length];exact hn,h F B H σ ρ _ _ ρ' Q R rs e2 q⟩
  ·cases e2
 |lst hp rs=>
  cases e1;split at e2
  ·rename_i hn
   exact⟨_,_,rfl,.inr (ke (fg R.sub hp)),by rw[rs.length];exact hn,h F B H σ ρ _ _ ρ' Q R rs e2 q⟩
  ·cases e2
 |_=>cases e1
end Mir
namespace L2
open PySem PySem.Spec PyProof.Rows
variable{X:Cx}
end L2
namespace Mir
open PySem L2
variable [Zc]
end Mir
namespace Mir
open PySem L2
inductive CB where
 |ok (o:Out)|er (c:Str) (ρ:Rho)
abbrev EM:=Rho->Option CB
section
variable [Zc]
def Ki(F:Fr)(D:Ends)(W:Str->Hp->Prop):CB->Prop
 | .ok o=>nR F D o
 | .er c ρ=>∀B H σ,Rel F B H σ ρ->W c H
def MSE(W:Str->Hp->Prop)(t:TS)(m:EM):Prop:=∀(F:Fr) (B H:Hp) (σ:St) (ρ:Rho) (o:CB) (D:Ends),Rel F B H σ ρ->m ρ=some o->Ki F D W o->t D σ H
def uH(m:SM):EM:=fun ρ=>(m ρ).map .ok
theorem mr(h:MS t m):MSE W t (uH m):=by
 intro F B H σ ρ o D R e q;obtain⟨x,e1,e⟩:=zab e;cases e;exact h F B H σ ρ x D R e1 q
def zL(a b:EM):EM:=fun ρ=>(a ρ).bind λo=>match o with
 | .ok (.nx ρ')=>b ρ'
 |o=>some o
theorem q9(ha:MSE W t a)(hb:MSE W u b):MSE W (Cb t u) (zL a b):=by
 intro F B H σ ρ o D R e q;obtain⟨x,e1,e⟩:=zaa e;refine ha F B H σ ρ x _ R e1 ?_;cases x with
 |er c ρ1=>cases e;exact q
 |ok x=>
  cases x with
  |nx ρ1=>exact λB1 H1 σ1 R1=>hb F B1 H1 σ1 ρ1 o D R1 e q
  |rt r ρ1=>cases e;exact q
  |bk ρ1=>cases e;exact q
  |ct ρ1=>cases e;exact q
def eIf(c:Rho->Option (Bool×Rho))(a b:EM):EM:=fun ρ=>(c ρ).bind λx=>if x.1=true then a x.2 else b x.2
theorem Kj(hc:MT tc c)(ha:MSE W t a)(hb:MSE W u b):MSE W (Dx tc t u) (eIf c a b):=by
 intro F B H σ ρ o D R e q;obtain⟨x,e1,e⟩:=zaa e;refine hc F B H σ ρ x.1 x.2 _ R e1 λB' H' E R'=>?_
 by_cases h:x.1=true
 ·rw[if_pos h]at e⊢;exact ha F B' H' σ x.2 o D R' e q
 ·rw[if_neg h]at e⊢;exact hb F B' H' σ x.2 o D R' e q
def Er(c:Str)(m:Rho->Option (List RV×Rho)):EM:=fun ρ=>(m ρ).bind λx=>if x.1.length<=100 then some (.er c x.2)else none
theorem Es:∀{vs:List V} {rs:List RV},Vl F B H σ ρ vs rs->vs.length=rs.length
 | [],[],_=>rfl
 |_::_,_::_,⟨_,t⟩=>by rw[zaw,zaw,Es t]
theorem CC(h:MA t m)(hw:∀H,W c H->W' H):MSE W (DU W' t) (Er c m):=by
 intro F B H σ ρ o D R e q;obtain⟨x,e1,e⟩:=zaa e;split at e
 ·rename_i hz
  cases e;refine h F B H σ ρ x.1 x.2 _ R e1 λvs B1 H1 E1 R1 V1=>⟨by rw[Es V1];exact hz,hw _ (q B1 H1 σ R1)⟩
 ·cases e
def fnX(n k:Nat)(b:EM)(ds:List D):Option ((D×Bool) ⊕ Str):=if ds.length=n then(b (ds.map .fz++List.replicate k .no)).bind λo=>match o with
 | .ok o=>(xQ o).map .inl
 | .er c _=>some (.inr c)
 else none
def spX(cl:Str->Value)(f:List D->Option ((D×Bool) ⊕ Str)):Sp:=λvs H Q E=>∃B ds w,aG B H/\(∀q xs,H q=some (.tup xs)->B q=some (.tup xs))/\aY B vs ds/\f ds=some w/\
 match w with
 | .inl (d,o)=>∀v B' H',Post B H v B' H' d o->Q v H'
 | .inr c=>∀B' H',Post B H .non B' H' .none false->E (cl c) none H'
theorem A5(hb:MSE (λc H=>E (cl c) none H) t b)(hN:N.length=n+k)(h:spX cl (fnX n k b) vs H Q E):t {nx:=λ_ H'=>Q .non H',rt:=Q} (L2.start N vs) H:=by
 obtain⟨B,ds,w0,sub,tB,rp,e,q⟩:=h;unfold fnX at e;split at e
 case isFalse=>cases e
 rename_i hl
 obtain⟨w,e1,e2⟩:=zaa e;have hvl:vs.length=n:=rp.length.trans hl;have jR:∀(i:Nat) (s:Sl),(ds.map Sl.fz++List.replicate k .no)[i]?=some s->s.isRef=true->False:=λi s h1 h2=>by
  have:=zaj h1;rcases zae this with h|h
  ·obtain⟨c,_,rfl⟩:=List.mem_map.mp h;cases h2
  ·rw[zaG h]at h2;cases h2
 have ex0:∀i:Nat,(ds.map Sl.fz++List.replicate k .no)[i]?=some Sl.ex->False:=λi h1=>by
  have:=zaj h1;rcases zae this with h|h
  ·obtain⟨c,_,z⟩:=List.mem_map.mp h;cases z
  ·have:=zaG h;cases this
 have R:Rel ⟨B,H,[],λq=>H q≠none⟩ B H (L2.start N vs) (ds.map .fz++List.replicate k .no):=by
  refine⟨sub,aG.refl _,λ_ _ z _=>z,λ_ _ z=>z,?_,λi s hs=>?_,λi j s t p h1 h2=>(jR i s h1 (Sl.kS h2)).elim,λi c p h1=>(jR i _ h1 rfl).elim,(λx hx=>by cases hx),λi c h1=>(jR i _ h1 rfl).elim,tB,(λi h1=>(ex0 i h1).elim),λq o u h z=>by rw[z]at h;cases h⟩
  ·simp[L2.start,hl,hvl,hN]
  ·by_cases hi:i<n
   ·rw[zax (by simpa[hl]using hi),zao]at hs
    obtain⟨c,h1,rfl⟩:=zab hs;obtain⟨x,h2,h3⟩:=rp.get i c h1;refine⟨x,?_,h3⟩;unfold L2.start;rw[zax (by simpa[hvl]using hi),zao,h2]
    rfl
   ·rw[zaN (by simpa[hl]using zba hi)]at hs
    have:=zaG (zaj hs);subst this;trivial
 refine hb _ B H _ _ w _ R e1 ?_;have post:∀{B' H':Hp} {σ':St} {ρ':Rho},Rel ⟨B,H,[],λq=>H q≠none⟩ B' H' σ' ρ'->aG H H'/\aG B B'/\aG B' H'/\(∀q,H q≠none->B q=none->B' q=none)/\(∀q xs,H' q=some (.tup xs)->B' q=some (.tup xs))/\∀q o u,H' q=some (.frz o u)->H q≠none:=λR'=>
  ⟨λq u z=>R'.sH q u z (λx hx=>by cases hx),R'.sB,R'.sub,R'.nB,R'.cW,R'.nz⟩
 cases w with
 |er c ρ'=>
  cases e2;intro B' H' σ' R';obtain⟨p1,p2,p3,p4,p5,p6⟩:=post R';exact q B' H' ⟨p1,p2,p3,p4,p5,p6,.non⟩
 |ok w=>
 replace e2:=zab e2
 obtain⟨⟨d,o⟩,e2,e3⟩:=e2;subst e3;cases w with
 |nx ρ'=>
  cases e2;intro B' H' σ' R';obtain⟨p1,p2,p3,p4,p5,p6⟩:=post R';exact q _ B' H' ⟨p1,p2,p3,p4,p5,p6,.non⟩
 |bk ρ'=>cases e2
 |ct ρ'=>cases e2
 |rt r ρ'=>
  intro v B' H' σ' R' V';obtain⟨p1,p2,p3,p4,p5,p6⟩:=post R';obtain⟨c,kd⟩:=r;cases kd with
  |fz=>cases e2;exact q v B' H' ⟨p1,p2,p3,p4,p5,p6,V'⟩
  |new=>
   cases e2;obtain⟨p,rfl,h1,h2,h3,_⟩:=V';exact q _ B' H' ⟨p1,p2,p3,p4,p5,p6,⟨p,rfl,h2,h1,h3⟩⟩
  |ro=>cases e2
  | «at» i=>
   obtain⟨s,h1,h2,h3,h4⟩:=V';have e2':(match ρ'[i]? with
    |some (.own d)=>some (d,true)
    |_=>none)=some (d,o):=e2
   rw[h1]at e2';cases s with
   |own c'=>
    cases e2';obtain⟨p,g1,g2,g3⟩:=R'.slot i _ h1;have h4' : σ'[i]?=some (some v):=h4;rw[h4']at g1;cases g1;exact q _ B' H' ⟨p1,p2,p3,p4,p5,p6,⟨p,rfl,R'.kc i _ p h1 h4',g2,g3⟩⟩
   |_=>cases e2'
theorem A6(h:spX cl (fnX n k b) vs H Q E):vs.length=n:=by
 obtain⟨B,ds,w,sub,tB,rp,e,q⟩:=h;unfold fnX at e;split at e
 ·rename_i hl;exact rp.length.trans hl
 ·cases e
end
def Et(ρ:Rho):Bool:=ρ.all λs=>match s with
 | .ex=>false
 |_=>true
theorem A7(h:Et ρ=true)(j:Nat)(z : ρ[j]?=some .ex):False:=by
 have:=(List.all_eq_true.mp h) _ (zaj z);cases this
theorem Rel.LG(v:Option V)(R : @Rel z F B H σ ρ)(h:fC ρ i s=some ρ')(hs:s=.no\/s=.ex)(hex:∀j:Nat,ρ'[j]?=some .ex->(σ.set i v)[j]?=some (some (.ref z'.e))) : @Rel z' F B H (σ.set i v) ρ':=by
 obtain⟨rfl,s0,h0,nio⟩:=oF h;obtain⟨r1,r2,r3,r4,r5,r6,r7,r8,r9,r10,r11,r12,r13⟩:=R;have nr:s.isRef=false:=by rcases hs with rfl|rfl<;>rfl
 have no:s.et=false:=by rcases hs with rfl|rfl<;>rfl
 have so:∀j,j≠i->(σ.set i v)[j]?=σ[j]?:=λj hj=>zaA λe=>hj e.symm
 refine @Rel.mk z' _ _ _ _ _ r1 r2 r3 r4 (by rw[zaM,zaM];exact r5) ?_ ?_ ?_ ?_ ?_ r11 hex r13
 ·intro j s' hs'
  rcases get_set hs' with⟨rfl,rfl,_⟩|⟨hj,hs'⟩
  ·rcases hs with rfl|rfl<;>trivial
  ·exact(r6 j s' hs').at (so j hj)
 ·intro a b s' t p h1 h2 h3 h4 h5 h6
  rcases get_set h1 with⟨rfl,rfl,_⟩|⟨ha,h1⟩
  ·rw[no]at h2;cases h2
  ·rcases get_set h3 with⟨rfl,rfl,_⟩|⟨hb,h3⟩
   ·rw[nr]at h4;cases h4
   ·rw[so a ha]at h5;rw[so b hb]at h6;exact r7 a b s' t p h1 h2 h3 h4 h5 h6
 ·intro j c p h1 h2
  rcases get_set h1 with⟨rfl,e,_⟩|⟨hj,h1⟩
  ·rw[<-e]at no;cases no
  ·rw[so j hj]at h2;exact r8 j c p h1 h2
 ·intro x hx
  obtain⟨h1,c,h2⟩:=r9 x hx;have z:x.1≠i:=λz=>by rw[z,h0]at h2;cases h2;exact nio _ rfl
  exact⟨by rw[so _ z];exact h1,c,by rw[zaA λe=>z e.symm];exact h2⟩
 ·intro j c h1
  rcases get_set h1 with⟨rfl,e,_⟩|⟨hj,h1⟩
  ·rw[<-e]at no;cases no
  ·exact r10 j c h1
def IH(i:Nat):Out->Option Out
 | .nx ρ=>(fC ρ i .no).bind fun ρ'=>if Et ρ'=true then some (.nx ρ')else none
 |_=>none
def A8(f:List D->Option ((D×Bool) ⊕ Str))(m:Rho->Option (List RV×Rho))(i:Nat)(su:Str->Option SM):SM:=fun ρ=>(m ρ).bind λx=>(f (x.1.map (·.1))).bind λw=>match w with
 | .inl _=>some (.nx x.2)
 | .inr c=>(su c).bind λs=>if Et x.2=true then(fC x.2 i .ex).bind fun ρ1=>(s ρ1).bind (IH i)else none
theorem GV [z:Zc](h:MA t m)(hok:∀c s,su c=some s->ok (cl c))
  (hs:∀c s,su c=some s->∀e:Addr,@MS ⟨e⟩ (th (cl c) e) s):MS (DX (spX cl f) t i ok th) (A8 f m i su):=by
 intro F B H σ ρ o D R e q;obtain⟨x,e1,e⟩:=zaa e;obtain⟨w,e2,e⟩:=zaa e;refine h F B H σ ρ x.1 x.2 _ R e1 λvs B1 H1 E1 R1 V1=>?_
 have grow:∀{v:V} {B' H':Hp} {d:PyData} {o:Bool},Post H1 H1 v B' H' d o->∃B2,Rel F B2 H' σ x.2:=fun{v B' H' d o} P=>by
  let B2:Hp:=λq=>if H1 q=none then B' q else B1 q
  have old:∀q,H1 q≠none->B2 q=B1 q:=λq z=>if_neg z
  have new:∀q,H1 q=none->B2 q=B' q:=λq z=>if_pos z
  have eB:aG B1 B2:=λq o z=>by rw[old q (by rw[R1.sub q o z];simp)];exact z
  have sub:aG B2 H':=λq o z=>by
   by_cases y:H1 q=none
   ·rw[new q y]at z;exact P.sub q o z
   ·rw[old q y]at z;exact P.eH q o (R1.sub q o z)
  have nb:∀q,H1 q≠none->B1 q=none->B2 q=none:=λq y z=>by rw[old q y];exact z
  have tB:∀q xs,H' q=some (.tup xs)->B2 q=some (.tup xs):=λq xs z=>by
   cases y:H1 q with
   |none=>rw[new q y];exact P.tB q xs z
   |some o=>
    have:=P.eH q o y;rw[z]at this;cases this;rw[old q (by rw[y];simp)];exact R1.cW q xs y
  exact⟨B2,R1.grow eB P.eH sub nb tB P.nz⟩
 refine⟨H1,_,w,aG.refl _,λ_ _ z=>z,(V1.views R1).reps R1.sub,e2,?_⟩
 cases w with
 |inl w=>
  cases e;obtain⟨d,o'⟩:=w;intro v B' H' P;obtain⟨B2,R2⟩:=grow P;exact q B2 H' σ R2
 |inr c=>
  obtain⟨s,e3,e⟩:=zaa e;split at e
  ·rename_i hn
   obtain⟨ρ1,e4,e⟩:=zaa e;obtain⟨o1,e5,e6⟩:=zaa e;intro B' H' P;obtain⟨B2,R2⟩:=grow P;refine⟨hok c s e3,λea hea=>?_⟩
   have LH:=oF e4;have hl:i<σ.length:=by
    obtain⟨_,s0,h0,_⟩:=LH;have:=(zac h0).1;rw[R2.len]at this;exact this
   have R3 : @Rel ⟨ea⟩ F B2 H' (σ.set i (some (.ref ea))) ρ1:=Rel.LG (z:=z) (z':=⟨ea⟩) (some (.ref ea)) R2 e4 (.inr rfl) λj hj=>by
    obtain⟨rfl,_⟩:=LH;rcases get_set hj with⟨rfl,_,_⟩|⟨_,hj⟩
    ·exact zav hl
    ·exact(A7 hn j hj).elim
   refine hs c s e3 ea F B2 H' _ ρ1 o1 _ R3 e5 ?_;cases o1 with
   |nx ρ2=>
    obtain⟨ρ3,e7,e8⟩:=zaa (show(fC ρ2 i .no).bind _=some o from e6);split at e8
    ·rename_i hn2
     cases e8;intro B4 H4 σ4 R4;exact q B4 H4 _ (Rel.LG (z:=⟨ea⟩) (z':=z) none R4 e7 (.inl rfl) λj hj=>(A7 hn2 j hj).elim)
    ·cases e8
   |rt r ρ2=>cases e6
   |bk ρ2=>cases e6
   |ct ρ2=>cases e6
  ·cases e
def rZ(i:Nat)(b:Bool):PM:=fun ρ=>match ρ[i]? with
 |some .ex=>some ((.bool b,.fz),ρ)
 |_=>none
theorem GW(e:rZ i b ρ=some (r,ρ')) : ρ[i]?=some .ex/\r=(.bool b,.fz)/\ρ'=ρ:=by
 unfold rZ at e;split at e
 ·rename_i h;cases e;exact⟨h,rfl,rfl⟩
 ·cases e
theorem rf [Zc]{K:zag}{c:V}{cv:Value}(hcv:∀u,RelV c u->u=cv)(hk:PySem.W.kitOne K (.ref Dc) cv=some b):ME (tCB (DY K Zc.e Dc) (ie (nW i) (ie (tC c) vy))) (rZ i b):=by
 intro F B H σ ρ r0 ρ' Q R e q;obtain⟨h,rfl,rfl⟩:=GW e;exact⟨_,R.exv i h,.inl ⟨c,cv,b,rfl,hcv,hk,q _ B H (Ext.refl _ _ _ _) R (.bl b) λp z=>by cases z⟩⟩
end Mir
namespace L2
open PySem PySem.Spec PyProof.Rows
theorem Top.LJ{K:zag}{base:Heap}{x:Str}{st:Stmt}{N ps:List Str}{k:Nat}{sp:Sp}(T:Top K mg x st)(S:bF N ps (aV st))(len:∀vs H Q E,sp vs H Q E->vs.length=ps.length)
  (hb:∀(kV doc pm:Value) (an:Option Addr) (cdv ct:Value) (us:List Value),us.length=ps.length->bindArgs (PySem.W.fnOf x x (jB st) (gx st) (aV st) .none kV doc pm an cdv ct) ⟨us,[]⟩=pure (ps.zip us))
  (hbody:∀(f:Addr) (cdv:Value) (A:Around) (outer:List Env) (s:Shared) (H:Hp) (vs:List V) (Q:VK) (E:XK),gw k (A.deeper (envOfC x (aV st) s.heap.objs.size f cdv))->sp vs H Q E->
   ∃t,PSs (pq (CXW P w) P w K mg base N x (aV st) f cdv A outer s H E) (gx st) t/\t {nx:=λ_ H'=>Q .non H',rt:=Q} (start N vs) H):Def P w K mg base (CXW P w) (k+1) x ps sp:=by
 obtain⟨f,fd,F,m⟩:=T.ex;refine⟨⟨f,fd,?_,m,F.kp,F.binds hb⟩⟩;obtain⟨oc,od,kV,doc,pm,an,cdv,ct,osl,rfl,lk,hcd⟩:=F.ex;exact eO lk hcd S len λA outer s H vs Q E hr hsp=>hbody f cdv A outer s H vs Q E hr hsp
def clM(mg:Str->Option Value)(c:Str):Value:=(mg c).getD .none
theorem zM(h:mg c=some v):clM mg c=v:=by unfold clM;rw[h];rfl
def addrOf:Value->Addr
 | .ref a=>a
 |_=>0
def okX(K:zag)(C:Addr)(cls:Value):Prop:=∃D,cls=.ref D/\zC K D/\PySem.W.exmOne K cls (.ref C)=some true
theorem nc{X:Cx}{K:zag}{oe:Obj}(h:X.K=K)(hok:okX K C cls)(hoc:oe.cls=cls):eG (X.inX e oe) (.builtin "isinstance") (DY K e (addrOf cls)):=by
 subst h;obtain⟨D,rfl,Z,_⟩:=hok;exact Co (X:=X.inX e oe) (zas) hoc Z
theorem GX{K:zag}{ps:List Str}{sp:Sp}{x xC n:Str}{p np pos pos' epos hpos:Pos}{a:Expr}{es:List Expr}{t:TA}{i:Nat}{th:Value->Addr->TS}{b₀:Stmt}{suite:List Stmt}
  (hK:X.K=K) (hxe:X.xe=λ_ _=>False) (Df:Def X.prog X.w X.K X.mg X.base (CXW X.prog X.w) k x ps sp) (hr:gw k X.A) (ha:PA X (a::es) t) (hst:X.stack=X.env::X.outer) (hfr:X.env.frame=some X.env.locals) (hg:Gl X x) (hgC:Gl X xC)
  (hmC:X.mg xC=some (.ref C)) (hN:X.N.Nodup) (hi:X.N[i]?=some n) (hln:X.env.scope.names.lookup n=some .local) (hS:∀(cls:Value) (e:Addr) (oe:Obj),oe.cls=cls->okX K C cls->PSs (X.inX e oe) (b₀::suite) (th cls e))
  (hdb:(x==("__debug__":Str))=false:=by decide) (hdC:(xC==("__debug__":Str))=false:=by decide) (he:starEach (a::es) X.env=(false,eval a X.env)::starEach es X.env:=by rfl) (hpl:(backTo pos' (starEach es X.env)).any (·.1)=false:=by rfl)
  (hs:swapsWith (.Call (.Name x p) (a::es) [] pos') none epos.line X.env=pure false:=by rfl) :
  PS X (.Try [.Expr (.Call (.Name x p) (a::es) [] pos') epos] [.ExceptHandler (some (.Name xC np)) (some n) (b₀::suite) hpos] [] [] pos) (DX sp t i (okX K C) th):=by
 subst hK;obtain⟨f,fd,F,m,kp,b⟩:=Df.ex;exact GB hxe F hr hg m kp b ha hst hfr hgC hmC (λcls h=>by obtain⟨_,_,_,z⟩:=h;exact z) hN hi hln hS hdb hdC he hpl hs
theorem Vals.picks(r:Vals xs us):∀is:List Nat,Vals (is.filterMap (xs[·]?)) (is.filterMap (us[·]?))
 | []=>.nil
 |i::is=>by
  cases h:xs[i]? with
  |none=>rw[List.filterMap_cons_none h,List.filterMap_cons_none (r.none_of h)];exact r.picks is
  |some x=>
   obtain⟨u,h1,h2⟩:=r.get h;rw[List.filterMap_cons_some h,List.filterMap_cons_some h1];exact .cons h2 (r.picks is)
end L2
namespace Mir
open PySem L2
variable [Zc]
theorem aY.picks(r:aY H vs ds):∀is:List Nat,aY H (is.filterMap (vs[·]?)) (is.filterMap (ds[·]?))
 | []=>.nil
 |i::is=>by
  cases h:ds[i]? with
  |none=>
   have h':vs[i]?=none:=by
    rw[List.getElem?_eq_none_iff]at h⊢;rw[r.length];exact h
   rw[List.filterMap_cons_none h,List.filterMap_cons_none h'];exact r.picks is
  |some x=>
   obtain⟨u,h1,h2⟩:=r.get i x h;rw[List.filterMap_cons_some h,List.filterMap_cons_some h1];exact .cons h2 (r.picks is)
end Mir
namespace Mir
open PySem L2
section
variable [Zc]
def LF(B:Hp):Prop:=∀q o,B q=some o->∃xs,o=.tup xs
structure FrP(F:Fr):Prop where
 lf:LF F.B
 io:F.io=[]
 zh:∀q,F.Z q->F.H q≠none
def MSP(t:TS)(m:SM):Prop:=∀(F:Fr) (B H:Hp) (σ:St) (ρ:Rho) (o:Out) (D:Ends),FrP F->Rel F B H σ ρ->m ρ=some o->nR F D o->t D σ H
theorem MS.p(h:MS t m):MSP t m:=λF B H σ ρ o D _ R e q=>h F B H σ ρ o D R e q
def tups(H:Hp):Hp:=λq=>match H q with
 |some (.tup xs)=>some (.tup xs)
 |_=>none
theorem aY.put(k:∀q xs,B q=some (.tup xs)->B' q=some (.tup xs))(hr:Rep B' x c'):∀{vs:List V} {ds:List D} (j:Nat),aY B vs ds->vs[j]?=some x->ds[j]?=some c->bc (ds.set j .none)=true->aY B' vs (ds.set j c')
 |_,_,_,.nil,h,_,_=>by simp at h
 |_,_,0,.cons a b,h1,h2,e=>by
  simp only[List.getElem?_cons_zero,Option.some.injEq]at h1;subst h1;simp only[List.set_cons_zero,bc,Bool.and_eq_true]at e;exact .cons hr (b.d4 k e.2)
 |_,_,j+1,.cons a b,h1,h2,e=>by
  simp only[List.set_cons_succ,bc,Bool.and_eq_true]at e;exact .cons (a.d4 k e.1) (aY.put k hr j b (by simpa using h1) (by simpa using h2) e.2)
structure LK(B H:Hp)(p:Addr)(v:V)(B' H':Hp)(d:D)(o:Bool)(d1:D):Prop where
 eH:∀q u,q≠p->H q=some u->H' q=some u
 eB:aG B B'
 sub:aG B' H'
 nb:∀q,H q≠none->B q=none->B' q=none
 tB:∀q xs,H' q=some (.tup xs)->B' q=some (.tup xs)
 nz:∀q o u,H' q=some (.frz o u)->H q≠none
 own:Own B' H' p d1
 val:if o=true then∃p,v=.ref p/\H p=none/\B' p=none/\Own B' H' p d else Rep B' v d
def spI(f:List D->Option ((D×Bool)×D)):Sp:=λvs H Q _=>∃B p us d0 ds r d1,vs=.ref p::us/\aG B H/\(∀q xs,H q=some (.tup xs)->B q=some (.tup xs))/\B p=none/\Own B H p d0/\aY B us ds/\f (d0::ds)=some (r,d1)/\∀v B' H',LK B H p v B' H' r.1 r.2 d1->Q v H'
def pH:Out->Rho
 | .nx ρ=>ρ
 | .rt _ ρ=>ρ
 | .bk ρ=>ρ
 | .ct ρ=>ρ
def io0:Rho->Option D
 | .io d::_=>some d
 |_=>none
theorem Kk(h:io0 ρ=some d) : ρ[0]?=some (Sl.io d):=by
 unfold io0 at h;split at h
 ·cases h;rfl
 ·cases h
def fnI(n k:Nat)(b:SM):List D->Option ((D×Bool)×D)
 | []=>none
 |d0::ds=>if ds.length+1=n then(b (.io d0::ds.map .fz++List.replicate k .no)).bind λo=>(xQ o).bind λr=>(io0 (pH o)).map λd=>(r,d)else none
theorem GY(hb:MS t b)(hN:N.length=n+k)(h:spI (fnI n k b) vs H Q E):t {nx:=λ_ H'=>Q .non H',rt:=Q} (L2.start N vs) H:=by
 obtain⟨B,p,us,d0,ds,r0,d1,rfl,sub,tB,hB,ow,rp,e,q⟩:=h;simp only[fnI]at e;split at e
 case isFalse=>cases e
 rename_i hl
 obtain⟨w,e1,e2⟩:=zaa e;obtain⟨r,e2,e3⟩:=zaa e2;obtain⟨d,e3,e4⟩:=zab e3;cases e4;have hvl:us.length+1=n:=by rw[rp.length];exact hl
 have jR:∀(i:Nat) (s:Sl),(Sl.io d0::ds.map Sl.fz++List.replicate k .no)[i]?=some s->s.isRef=true->i=0/\s=.io d0:=λi s h1 h2=>by
  cases i with
  |zero=>rw[zay,zaP]at h1;cases h1;exact⟨rfl,rfl⟩
  |succ i=>
   rw[zay,zat]at h1;have:=zaj h1;rcases zae this with h|h
   ·obtain⟨c,_,rfl⟩:=List.mem_map.mp h;cases h2
   ·rw[zaG h]at h2;cases h2
 have ex0:∀i:Nat,(Sl.io d0::ds.map Sl.fz++List.replicate k .no)[i]?=some Sl.ex->False:=λi h1=>by
  cases i with
  |zero=>rw[zay,zaP]at h1;cases h1
  |succ i=>
   rw[zay,zat]at h1;have:=zaj h1;rcases zae this with h|h
   ·obtain⟨c,_,z⟩:=List.mem_map.mp h;cases z
   ·have:=zaG h;cases this
 have st0:(L2.start N (.ref p::us))[0]?=some (some (.ref p)):=by
  unfold L2.start;rw[zaz,zay,zaP]
 have R:Rel ⟨B,H,[(0,p)],λq=>H q≠none⟩ B H (L2.start N (.ref p::us)) (.io d0::ds.map .fz++List.replicate k .no):=by
  refine⟨sub,aG.refl _,λ_ _ z _=>z,λ_ _ z=>z,?_,λi s hs=>?_,λi j s t p h1 h2 h3 h4 _ _=>(jR i s h1 (Sl.kS h2)).1.trans (jR j t h3 h4).1.symm,(λi c p h1=>by have:=(jR i _ h1 rfl).2;cases this),(λx hx=>?_),(λi c h1=>?_),tB,(λi h1=>(ex0 i h1).elim),λq o u h z=>by rw[z]at h;cases h⟩
  ·simp[L2.start,hl,hvl,hN];omega
  ·cases i with
   |zero=>
    rw[zay,zaP]at hs;cases hs;exact⟨p,st0,hB,ow⟩
   |succ i=>
    rw[zay,zat]at hs
    by_cases hi:i<ds.length
    ·rw[zax (by simpa using hi),zao]at hs
     obtain⟨c,h1,rfl⟩:=zab hs;obtain⟨x,h2,h3⟩:=rp.get i c h1;refine⟨x,?_,h3⟩;unfold L2.start;rw[zaz,zay,zat,zax (by rw[zal,rp.length];exact hi),zao,h2]
     rfl
    ·rw[zaN (by simpa using zba hi)]at hs
     have:=zaG (zaj hs);subst this;trivial
  ·simp only[List.mem_cons,List.not_mem_nil,or_false]at hx
   subst hx;exact⟨st0,d0,rfl⟩
  ·obtain⟨rfl,_⟩:=jR i _ h1 rfl
   exact⟨p,by simp⟩
 refine hb _ B H _ _ w _ R e1 ?_;have post:∀{B' H':Hp} {σ':St} {ρ':Rho},pH w=ρ'->Rel ⟨B,H,[(0,p)],λq=>H q≠none⟩ B' H' σ' ρ'->(∀q u,q≠p->H q=some u->H' q=some u)/\aG B B'/\aG B' H'/\(∀q,H q≠none->B q=none->B' q=none)/\(∀q xs,H' q=some (.tup xs)->B' q=some (.tup xs))/\(∀q o u,H' q=some (.frz o u)->H q≠none)/\Own B' H' p d1:=fun{B' H' σ' ρ'} hw R'=>by
  refine⟨λq u n z=>R'.sH q u z (λx hx=>?_),R'.sB,R'.sub,R'.nB,R'.cW,R'.nz,?_⟩
  ·simp only[List.mem_cons,List.not_mem_nil,or_false]at hx
   subst hx;exact λz=>n z.symm
  ·rw[hw]at e3
   have h0:=Kk e3;obtain⟨p',g1,g2,g3⟩:=R'.slot 0 _ h0;obtain⟨g4,_⟩:=R'.fx (0,p) (by simp)
   rw[g4]at g1;cases g1;exact g3
 cases w with
 |nx ρ'=>
  cases e2;intro B' H' σ' R';obtain⟨p1,p2,p3,p4,p5,p6,p7⟩:=post rfl R';exact q _ B' H' ⟨p1,p2,p3,p4,p5,p6,p7,.non⟩
 |bk ρ'=>cases e2
 |ct ρ'=>cases e2
 |rt r' ρ'=>
  intro v B' H' σ' R' V';obtain⟨p1,p2,p3,p4,p5,p6,p7⟩:=post rfl R';obtain⟨c,kd⟩:=r';cases kd with
  |fz=>cases e2;exact q v B' H' ⟨p1,p2,p3,p4,p5,p6,p7,V'⟩
  |new=>
   cases e2;obtain⟨p,rfl,h1,h2,h3,_⟩:=V';exact q _ B' H' ⟨p1,p2,p3,p4,p5,p6,p7,⟨p,rfl,h2,h1,h3⟩⟩
  |ro=>cases e2
  | «at» i=>
   obtain⟨s,h1,h2,h3,h4⟩:=V';have e2':(match ρ'[i]? with
    |some (.own d)=>some (d,true)
    |_=>none)=some r0:=e2
   rw[h1]at e2';cases s with
   |own c'=>
    cases e2';obtain⟨p,g1,g2,g3⟩:=R'.slot i _ h1;have h4' : σ'[i]?=some (some v):=h4;rw[h4']at g1;cases g1;exact q _ B' H' ⟨p1,p2,p3,p4,p5,p6,p7,⟨p,rfl,R'.kc i _ p h1 h4',g2,g3⟩⟩
   |_=>cases e2'
theorem GZ(h:spI (fnI n k b) vs H Q E):vs.length=n:=by
 obtain⟨B,p,us,d0,ds,r0,d1,rfl,sub,tB,hB,ow,rp,e,q⟩:=h;simp only[fnI]at e;split at e
 ·rename_i hl;rw[zaw,rp.length];exact hl
 ·cases e
def ownAt(ρ:Rho)(i:Nat):Option Sl:=match ρ[i]? with
 |some s=>if s.et=true then some s else none
 |none=>none
theorem jo(h:ownAt ρ i=some s) : ρ[i]?=some s/\s.et=true:=by
 unfold ownAt at h;split at h
 ·rename_i s' h0
  split at h
  ·rename_i h1;cases h;exact⟨h0,h1⟩
  ·cases h
 ·cases h
def v3(i:Nat)(f:List D->Option ((D×Bool)×D))(m:Rho->Option (List RV×Rho)):PM:=fun ρ=>(ownAt ρ i).bind λ_=>(m ρ).bind λx=>(gA x.1 x.2).bind λy=>(ownAt y.2 i).bind λs=>(f (slD s::y.1)).map λw=>(kO w.1.1 w.1.2,y.2.set i (s.put w.2))
theorem Own.v5(h:Own B H p d)(a:Obj)(u:HO):H p≠some (.frz a u):=by cases h with
 |lst h _=>rw[h];simp
 |dct h _=>rw[h];simp
theorem Eu(h:MA t m):ME (jc (spI f) [] E (ie (nW i) t)) (v3 i f m):=by
 intro F B H σ ρ r0 ρ' Q R e q;obtain⟨s0,e0,e⟩:=zaa e;obtain⟨x,e1,e⟩:=zaa e;obtain⟨y,e2,e⟩:=zaa e;obtain⟨s,e4,e⟩:=zaa e;obtain⟨w,e3,e⟩:=zab e;cases e;obtain⟨hs0,ho0⟩:=jo e0;obtain⟨hs,ho⟩:=jo e4;obtain⟨p,hv,_,_⟩:=R.ownAt hs0 ho0;refine⟨_,hv,?_⟩;refine h F B H σ ρ x.1 x.2 _ R e1 λvs B1 H1 E1 R1 V1=>?_
 show spI f (V.ref p::vs++[]) H1 Q E;rw[zaR];obtain⟨B2,R2,rp,E2⟩:=Rel.tQ R1 V1.weak e2;obtain⟨p',hv',hB,ow⟩:=R2.ownAt hs ho;rw[hv]at hv';cases hv';obtain⟨oo,hoo⟩:=ow.there;obtain⟨r,d1⟩:=w;refine⟨B2,p,vs,slD s,y.1,r,d1,rfl,R2.sub,R2.cW,hB,ow,rp,e3,λv B' H' P=>?_⟩
 obtain⟨o1,ho1⟩:=P.own.there;have hB':B' p=none:=P.nb p (by rw[hoo];simp) hB
 have eH:aG H1 (upd H' p oo):=λc u hc=>by
  by_cases z:c=p
  ·subst z;rw[hoo]at hc;cases hc;exact aB
  ·rw[ax z];exact P.eH c u z hc
 have sub:aG B' (upd H' p oo):=λc u hc=>by
  rw[ax (λz=>by rw[z,hB']at hc;cases hc)];exact P.sub c u hc
 have tB:∀c xs,upd H' p oo c=some (.tup xs)->B' c=some (.tup xs):=λc xs hc=>by
  by_cases z:c=p
  ·subst z;rw[aB]at hc;cases hc;exact absurd hoo (ow.md xs)
  ·rw[ax z]at hc;exact P.tB c xs hc
 have nz:∀c a u,upd H' p oo c=some (.frz a u)->H1 c≠none:=λc a u hc=>by
  by_cases z:c=p
  ·subst z;rw[hoo];simp
  ·rw[ax z]at hc;exact P.nz c a u hc
 have R3:=R2.grow P.eB eH sub P.nb tB nz;have E3:Ext σ y.2 B2 H1 y.2 B' (upd H' p oo):=Ext.grow P.eB eH P.nb;have back:upd (upd H' p oo) p o1=H':=by
  funext c
  by_cases z:c=p
  ·subst z;rw[aB,ho1]
  ·rw[ax z,ax z]
 obtain⟨R4,E4⟩:=R3.write (o:=o1) (d:=d1) hs ho hv ⟨(λxs z=>by rw[z]at ho1;exact P.own.md xs ho1),λa u z=>by rw[z]at ho1;exact P.own.v5 a u ho1⟩ (by rw[back];exact P.own)
 rw[back]at R4 E4;have EE:=E1.trans (E2.trans (E3.trans E4));obtain⟨d,o⟩:=r;cases o with
 |false=>
  have pv:Rep B' v d:=P.val;exact q v B' H' EE R4 pv λp z=>by cases z
 |true=>
  obtain⟨p2,rfl,h1,h2,h3⟩:∃p,v=.ref p/\H1 p=none/\B' p=none/\Own B' H' p d:=P.val;have fr:=R2.free h1;refine q _ B' H' EE R4 ⟨p2,rfl,h2,fr.2.1,h3,λj t h4 h5 h6=>?_⟩ λp' _ z=>by cases z;exact E1.live p2 h1
  rcases get_set h4 with⟨rfl,_,_⟩|⟨_,h4⟩
  ·rw[hv]at h6
   cases h6;rw[h1]at hoo;cases hoo
  ·exact fr.2.2 j t h4 h5 h6
theorem Ew{rs:List RV}{ds:List D}{d d0 d1:D}{o:Bool}{ρ ρ1 ρ2:Rho}(h0:ownAt ρ i=some s')(h1:m ρ=some (rs,ρ1))(h2:gA rs ρ1=some (ds,ρ2))(h3:ownAt ρ2 i=some s)(h4:f (slD s::ds)=some ((d,o),d1)):v3 i f m ρ=some (kO d o,ρ2.set i (s.put d1)):=by
 unfold v3;rw[h0,zai,h1,zai];dsimp only
 rw[h2,zai];dsimp only
 rw[h3,zai,h4];rfl
theorem II(h1:sv a ρ=some ((x,.at i),ρ1))(h2:sv b ρ1=some (r,ρ2))(h4 : ρ2[i]?=some (.io y))(h3:g y r.1=some res):mOp g a b ρ=some (lZ res,ρ2):=by
 unfold mOp;rw[h1,zai];dsimp only;rw[h2,zai];dsimp only[nX];rw[h4];dsimp only[Option.bind_some];rw[h3,zaT]
theorem zN(h : ρ[i]?=some (.io d)):ai i ρ=some ((d,.at i),ρ):=by unfold ai;rw[h]
theorem Kl(hl:ds.length+1=n)(h:b (.io d0::ds.map .fz++List.replicate k .no)=some o)(hr:xQ o=some r)(h0:io0 (pH o)=some d1):fnI n k b (d0::ds)=some (r,d1):=by
 simp only[fnI];rw[if_pos hl,h,zai,hr,zai,h0];rfl
theorem LL(h1:sv a ρ=some ((x,.ro),ρ1))(h2:sv b ρ1=some (r,ρ2))(h3:g x r.1=some res):mOp g a b ρ=some (lZ res,ρ2):=by
 unfold mOp;rw[h1,zai];dsimp only;rw[h2,zai];dsimp only[nX,Option.bind_some];rw[h3,zaT]
def Two(H0 B' H':Hp)(v:V)(c:D×D):Prop:=∃a p q,v=.ref a/\H' a=some (.tup [.ref p,.ref q])/\p≠q/\H0 p=none/\H0 q=none/\B' p=none/\B' q=none/\Own B' H' p c.1/\Own B' H' q c.2
structure LM(B H:Hp)(v:V)(B' H':Hp)(c:D×D):Prop where
 eH:aG H H'
 eB:aG B B'
 sub:aG B' H'
 nb:∀q,H q≠none->B q=none->B' q=none
 tB:∀q xs,H' q=some (.tup xs)->B' q=some (.tup xs)
 nz:∀q o u,H' q=some (.frz o u)->H q≠none
 val:Two H B' H' v c
def spD(f:List D->Option (D×D)):Sp:=λvs H Q _=>∃B ds c,aG B H/\(∀q xs,H q=some (.tup xs)->B q=some (.tup xs))/\aY B vs ds/\f ds=some c/\∀v B' H',LM B H v B' H' c->Q v H'
def OkD(F:Fr)(E:Ends)(c:D×D):Prop:=∀v B' H' σ' ρ',Rel F B' H' σ' ρ'->Two F.H B' H' v c->E.rt v H'
def MD(t:TS)(m:Rho->Option (D×D)):Prop:=∀(F:Fr) (B H:Hp) (σ:St) (ρ:Rho) (c:D×D) (E:Ends),Rel F B H σ ρ->m ρ=some c->OkD F E c->t E σ H
def oJ(a:SM)(b:Rho->Option (D×D)):Rho->Option (D×D):=fun ρ=>(a ρ).bind λo=>match o with
 | .nx ρ'=>b ρ'
 |_=>none
theorem pI(ha:MS t a)(hb:MD u b):MD (Cb t u) (oJ a b):=by
 intro F B H σ ρ c E R e q;obtain⟨x,e1,e⟩:=zaa e;cases x with
 |nx ρ'=>exact ha F B H σ ρ _ {E with nx:=u E} R e1 λB' H' σ' R'=>hb F B' H' σ' ρ' c E R' e q
 |rt r ρ'=>cases e
 |bk ρ'=>cases e
 |ct ρ'=>cases e
def A9(i j:Nat):Rho->Option (D×D):=fun ρ=>match ρ[i]?,ρ[j]? with
 |some (.own c1),some (.own c2)=>if i=j then none else some (c1,c2)
 |_,_=>none
theorem Ex:MD (Dw (Gk (ie (nW i) (ie (nW j) vy)))) (A9 i j):=by
 intro F B H σ ρ c E R e q;unfold A9 at e;split at e
 case h_2=>cases e
 rename_i c1 c2 hi hj
 split at e
 ·cases e
 rename_i hij
 cases e;obtain⟨p,vi,bi,oi⟩:=R.slot i _ hi;obtain⟨r,vj,bj,oj⟩:=R.slot j _ hj;have hne:p≠r:=λz=>hij (R.dist i j _ _ p hi rfl hj rfl vi (z▸vj))
 refine⟨_,vi,_,vj,(by simp only[List.length_cons,List.length_nil,sizeLine];omega),λa ha=>?_⟩
 obtain⟨R',_,eB⟩:=R.tP (xs:=[.ref p,.ref r]) ha;have pa:p≠a:=λz=>oi.kT (z▸ha)
 have ra:r≠a:=λz=>oj.kT (z▸ha)
 refine q _ _ _ σ ρ R' ⟨a,p,r,rfl,aB,hne,R.kc i _ p hi vi,R.kc j _ r hj vj,by rw[ax pa];exact bi,by rw[ax ra];exact bj,oi.mono eB λo h=>by rw[ax pa];exact h,oj.mono eB λo h=>by rw[ax ra];exact h⟩
def Ey(f:List D->Option (D×D))(m:Rho->Option (List RV×Rho)):Rho->Option (D×D):=fun ρ=>(m ρ).bind λx=>(gA x.1 x.2).bind λy=>f y.1
theorem G0(h:MA t m):MD (Dw (jc (spD f) [] X t)) (Ey f m):=by
 intro F B H σ ρ c E R e q;obtain⟨x,e1,e⟩:=zaa e;obtain⟨y,e2,e3⟩:=zaa e;refine h F B H σ ρ x.1 x.2 _ R e1 λvs B1 H1 E1 R1 V1=>?_
 show spD f (vs++[]) H1 E.rt X;rw[zaR];obtain⟨B2,R2,rp,E2⟩:=Rel.tQ R1 V1.weak e2;refine⟨B2,y.1,c,R2.sub,R2.cW,rp,e3,λv B' H' P=>?_⟩
 have R3:=R2.grow P.eB P.eH P.sub P.nb P.tB P.nz;obtain⟨a,p,r,rfl,ha,hne,hp,hr,bp,br,op,or⟩:=P.val;exact q _ B' H' σ _ R3 ⟨a,p,r,rfl,ha,hne,(R2.free hp).2.1,(R2.free hr).2.1,bp,br,op,or⟩
def CD(c:Rho->Option (Bool×Rho))(a b:Rho->Option (D×D)):Rho->Option (D×D):=fun ρ=>(c ρ).bind λx=>if x.1=true then a x.2 else b x.2
theorem LN(hc:MT tc c)(ha:MD t a)(hb:MD u b):MD (Cb (Dx tc t AG) u) (CD c a b):=by
 intro F B H σ ρ w E R e q;obtain⟨x,e1,e⟩:=zaa e;refine hc F B H σ ρ x.1 x.2 _ R e1 λB' H' _ R'=>?_
 cases hb':x.1 with
 |true=>
  rw[hb',if_pos rfl]at e;rw[if_pos rfl];exact ha F B' H' σ x.2 w {E with nx:=u E} R' e q
 |false=>
  rw[hb',if_neg zam]at e;rw[if_neg zam];exact hb F B' H' σ x.2 w E R' e q
def fnD(n k:Nat)(b:Rho->Option (D×D))(ds:List D):Option (D×D):=if ds.length=n then b (ds.map .fz++List.replicate k .no)else none
theorem Ba(hb:MD t b)(hN:N.length=n+k)(h:spD (fnD n k b) vs H Q E):t {nx:=λ_ H'=>Q .non H',rt:=Q} (L2.start N vs) H:=by
 obtain⟨B,ds,c,sub,tB,rp,e,q⟩:=h;unfold fnD at e;split at e
 case isFalse=>cases e
 rename_i hl
 have hvl:vs.length=n:=rp.length.trans hl;have jR:∀(i:Nat) (s:Sl),(ds.map Sl.fz++List.replicate k .no)[i]?=some s->s.isRef=true->False:=λi s h1 h2=>by
  have:=zaj h1;rcases zae this with h|h
  ·obtain⟨c,_,rfl⟩:=List.mem_map.mp h;cases h2
  ·rw[zaG h]at h2;cases h2
 have ex0:∀i:Nat,(ds.map Sl.fz++List.replicate k .no)[i]?=some Sl.ex->False:=λi h1=>by
  have:=zaj h1;rcases zae this with h|h
  ·obtain⟨c,_,z⟩:=List.mem_map.mp h;cases z
  ·have:=zaG h;cases this
 have R:Rel ⟨B,H,[],λq=>H q≠none⟩ B H (L2.start N vs) (ds.map .fz++List.replicate k .no):=by
  refine⟨sub,aG.refl _,λ_ _ z _=>z,λ_ _ z=>z,?_,λi s hs=>?_,λi j s t p h1 h2=>(jR i s h1 (Sl.kS h2)).elim,λi c p h1=>(jR i _ h1 rfl).elim,(λx hx=>by cases hx),λi c h1=>(jR i _ h1 rfl).elim,tB,(λi h1=>(ex0 i h1).elim),λq o u h z=>by rw[z]at h;cases h⟩
  ·simp[L2.start,hl,hvl,hN]
  ·by_cases hi:i<n
   ·rw[zax (by simpa[hl]using hi),zao]at hs
    obtain⟨c,h1,rfl⟩:=zab hs;obtain⟨x,h2,h3⟩:=rp.get i c h1;refine⟨x,?_,h3⟩;unfold L2.start;rw[zax (by simpa[hvl]using hi),zao,h2]
    rfl
   ·rw[zaN (by simpa[hl]using zba hi)]at hs
    have:=zaG (zaj hs);subst this;trivial
 refine hb _ B H _ _ c _ R e λv B' H' σ' ρ' R' T=>?_
 exact q v B' H' ⟨λq u z=>R'.sH q u z (λx hx=>by cases hx),R'.sB,R'.sub,R'.nB,R'.cW,R'.nz,T⟩
theorem Bb(h:spD (fnD n k b) vs H Q E):vs.length=n:=by
 obtain⟨B,ds,c,sub,tB,rp,e,q⟩:=h;unfold fnD at e;split at e
 ·rename_i hl;exact rp.length.trans hl
 ·cases e
end
end Mir
namespace L2
open PySem PySem.Spec PyProof.Rows
section
variable{X:Cx}{pins:List (Addr×Obj)}{σ:St}{H:Hp}{s:Shared}{h':Heap}
theorem Inv.v7{fp:List Addr}(I:Inv X pins σ H s)(k:∀b o,b∉fp->s.heap.get? b=some o->h'.get? b=some o)(f:∀b∈fp,qK X pins H b):Inv X pins σ H {s with heap:=h',toks:=t'}:=by
 have nit:∀b u,H b=some u->b∉fp:=λb u e z=>by rw[(f b z).1]at e;cases e
 have hL:X.env.locals∉fp:=λz=>(f _ z).2.1 rfl
 refine I.step (g':=s.gens) (d':=s.drawn) (ch:=fp) (λb hb=>?_) (λb o _ _ hc e _=>k b o hc e) (λb o _ _ hc e _=>⟨o.slots,k b o hc e⟩) (λ_ _ _ _ n=>n)
  (λb o hc e=>⟨o,k b o hc e⟩) (λ_ _ e=>e) (λ_ _ _ e=>e) (λb ps e=>⟨#[],by rw[e];simp⟩) (λm hm=>?_) (λb u e=>?_) I.bare
 ·obtain⟨_,f1,_,f3,f4,f5⟩:=f b hb
  exact⟨f3,f1,f4,f5⟩
 ·obtain⟨o,es,ep,ho,r⟩:=hm
  exact⟨o,es,ep,k _ o hL ho,r⟩
 ·refine(I.hok b u e).stay (λc v hc q=>k c v ?_ q) (λ_ q=>q) λ_ _ q=>q
  rcases hc with z|z
  ·rw[z];exact nit b u e
  ·exact nit c _ z
end
section
variable{prog:Program}{w:World}{A:Around}{E:Value->Shared->Prop}{s:Shared}
def Ez(l:Addr)(it:Addr)(items:Array Value)(n:Nat)(h:Heap):Prop:=h.IsTupleIter it l n/\h.IsTuple l items
theorem Ez.keep(n:Nat)(h h':Heap)(x:Ez l it items n h)(a:∀o,h.get? it=some o->h'.get? it=some o)(b:∀o,h.get? l=some o->h'.get? l=some o):Ez l it items n h' :=
 ⟨x.1.at a,by obtain⟨o,e,r⟩:=x.2;exact⟨o,b _ e,r⟩⟩
end
def G1(x y:Str)(fr:List (Str×Nat)):List Str:=x::y::fr.map (·.1)
structure Nv(X:Cx)(scope:Scope)(x y:Str)(fr:List (Str×Nat)):Prop where
 b:Blk X scope x fr
 Nr:scope.names.lookup y=some .local
 nd2:(G1 x y fr).Nodup
abbrev XE:=St->Value->Hp->Prop
abbrev TX:=XE->TS
abbrev TEX:=XE->TE
def XP(X:Cx)(pins:List (Addr×Obj))(E:XE)(ev:Value)(s':Shared):Prop :=
 ∃(ea t:Addr) (cls:Value) (B:Heap) (H':Hp) (s1:Shared) (H1:Hp) (σ1:St),ev=.ref ea/\Inv X pins σ1 H1 s1/\AR X.prog X.w X.stack H1 s1 (λcls _ H'=>E σ1 cls H') ea t cls B H' s'
def zO(sp:Sp)(t:TA):TEX:=λE σ H Q=>t σ H λvs H1=>sp vs H1 Q (λcls _ H2=>E σ cls H2)
end L2
namespace Mir
open PySem L2
section
variable [Zc]
abbrev XM:=Rho->Option ((RV×Rho) ⊕ (Str×Rho))
def Km(cl:Str->Value)(F:Fr)(D:Ends)(E:XE):CB->Prop
 | .ok o=>nR F D o
 | .er c ρ=>∀B H σ,Rel F B H σ ρ->E σ (cl c) H
def MSX(cl:Str->Value)(t:TX)(m:EM):Prop:=∀(F:Fr) (B H:Hp) (σ:St) (ρ:Rho) (o:CB) (D:Ends) (E:XE),Rel F B H σ ρ->m ρ=some o->Km cl F D E o->t E D σ H
variable{cl:Str->Value}
def mOk(m:XM):PM:=fun ρ=>match m ρ with
 |some (.inl x)=>some x
 |_=>none
theorem Kn(h:mOk m ρ=some x):m ρ=some (.inl x):=by
 unfold mOk at h;split at h
 ·rename_i y e;cases h;exact e
 ·cases h
structure MEX(cl:Str->Value)(t:TEX)(m:XM):Prop where
 ok:∀E,ME (t E) (mOk m)
 er:∀(F:Fr) (B H:Hp) (σ:St) (ρ:Rho) (c:Str) (ρ':Rho) (Q:VK) (E:XE),Rel F B H σ ρ->m ρ=some (.inr (c,ρ'))->(∀B' H',Rel F B' H' σ ρ'->E σ (cl c) H')->t E σ H Q
def nY(f:List D->Option ((D×Bool) ⊕ Str))(m:Rho->Option (List RV×Rho)):XM:=fun ρ=>(m ρ).bind λx=>(gA x.1 x.2).bind λy=>(f y.1).map λw=>match w with
 | .inl (d,o)=>.inl (kO d o,y.2)
 | .inr c=>.inr (c,y.2)
theorem uI(h:nY f m ρ=some z):∃x y w,m ρ=some x/\gA x.1 x.2=some y/\f y.1=some w/\z=(match w with
 | .inl (d,o)=>.inl (kO d o,y.2)
 | .inr c=>.inr (c,y.2)):=by
 obtain⟨x,e1,h⟩:=zaa h;obtain⟨y,e2,h⟩:=zaa h;obtain⟨w,e3,h⟩:=zab h;exact⟨x,y,w,e1,e2,e3,h.symm⟩
theorem EB(h:MA t m):MEX cl (zO (spX cl f) t) (nY f m):=by
 refine⟨λE=>?_,?_⟩
 ·intro F B H σ ρ r ρ' Q R e q
  obtain⟨x,y,w,e1,e2,e3,e4⟩:=uI (Kn e);cases w with
  |inr c=>cases e4
  |inl w=>
   obtain⟨d,o⟩:=w;cases e4;refine h F B H σ ρ x.1 x.2 _ R e1 λvs B1 H1 E1 R1 V1=>?_
   obtain⟨B2,R2,rp,E2⟩:=Rel.tQ R1 V1.weak e2;refine⟨B2,y.1,_,R2.sub,R2.cW,rp,e3,λv B' H' P=>?_⟩
   have R3:=R2.grow P.eB P.eH P.sub P.nb P.tB P.nz;have E3:Ext σ y.2 B2 H1 y.2 B' H':=Ext.grow P.eB P.eH P.nb;cases o with
   |false=>
    have pv:Rep B' v d:=P.val;exact q v B' H' (E1.trans (E2.trans E3)) R3 pv λp z=>by cases z
   |true=>
    obtain⟨p,rfl,h1,h2,h3⟩:∃p,v=.ref p/\H1 p=none/\B' p=none/\Own B' H' p d:=P.val;have fr:=R2.free h1;exact q _ B' H' (E1.trans (E2.trans E3)) R3 ⟨p,rfl,h2,fr.2.1,h3,fr.2.2⟩ λp' _ z=>by cases z;exact E1.live p h1
 ·intro F B H σ ρ c ρ' Q E R e q
  obtain⟨x,y,w,e1,e2,e3,e4⟩:=uI e;cases w with
  |inl w=>obtain⟨d,o⟩:=w;cases e4
  |inr c'=>
   cases e4;refine h F B H σ ρ x.1 x.2 _ R e1 λvs B1 H1 E1 R1 V1=>?_
   obtain⟨B2,R2,rp,E2⟩:=Rel.tQ R1 V1.weak e2;refine⟨B2,y.1,_,R2.sub,R2.cW,rp,e3,λB' H' P=>?_⟩
   exact q B' H' (R2.grow P.eB P.eH P.sub P.nb P.tB P.nz)
def eX(k:PM->SM)(m:XM):EM:=fun ρ=>(m ρ).bind λo=>match o with
 | .inl _=>(k (mOk m) ρ).map .ok
 | .inr x=>some (.er x.1 x.2)
theorem LO{T:TE->TS}(hT:∀(te:TE) D σ H,(∀Q,te σ H Q)->T te D σ H)(hk:∀t m,ME t m->MS (T t) (k m))(h:MEX cl te m):MSX cl (λE=>T (te E)) (eX k m):=by
 intro F B H σ ρ o D E R e q;obtain⟨x,e1,e⟩:=zaa e;cases x with
 |inl x=>
  obtain⟨y,e2,e⟩:=zab e;cases e;exact hk _ _ (h.ok E) F B H σ ρ y D R e2 q
 |inr x=>
  cases e;exact hT _ D σ H λQ=>h.er F B H σ ρ x.1 x.2 Q E R e1 λB' H' R'=>q B' H' σ R'
end
section
variable [Zc]
structure IJ(B H:Hp)(p p2:Addr)(v:V)(B' H':Hp)(d:D)(o:Bool)(d1 d2:D):Prop where
 eH:∀q u,q≠p->q≠p2->H q=some u->H' q=some u
 eB:aG B B'
 sub:aG B' H'
 nb:∀q,H q≠none->B q=none->B' q=none
 tB:∀q xs,H' q=some (.tup xs)->B' q=some (.tup xs)
 nz:∀q o u,H' q=some (.frz o u)->H q≠none
 own:Own B' H' p d1
 zP:Own B' H' p2 d2
 val:if o=true then∃p,v=.ref p/\H p=none/\B' p=none/\Own B' H' p d else Rep B' v d
def spJ(f:List D->Option ((D×Bool)×D×D)):Sp:=λvs H Q _=>∃B p p2 us d0 e0 ds r d1 d2,vs=.ref p::.ref p2::us/\p≠p2/\aG B H/\(∀q xs,H q=some (.tup xs)->B q=some (.tup xs))/\B p=none/\B p2=none/\Own B H p d0/\Own B H p2 e0/\aY B us ds/\f (d0::e0::ds)=some (r,d1,d2)/\∀v B' H',IJ B H p p2 v B' H' r.1 r.2 d1 d2->Q v H'
def io2:Rho->Option (D×D)
 | .io d::.io e::_=>some (d,e)
 |_=>none
theorem Ko(h:io2 ρ=some d) : ρ[0]?=some (Sl.io d.1)/\ρ[1]?=some (Sl.io d.2):=by
 unfold io2 at h;split at h
 ·cases h;exact⟨rfl,rfl⟩
 ·cases h
def fnJ(n k:Nat)(b:SM):List D->Option ((D×Bool)×D×D)
 |d0::e0::ds=>if ds.length+2=n then(b (.io d0::.io e0::ds.map .fz++List.replicate k .no)).bind λo=>(xQ o).bind λr=>(io2 (pH o)).map λd=>(r,d)else none
 |_=>none
theorem Bc(hb:MS t b)(hN:N.length=n+k)(h:spJ (fnJ n k b) vs H Q E):t {nx:=λ_ H'=>Q .non H',rt:=Q} (L2.start N vs) H:=by
 obtain⟨B,p,p2,us,d0,e0,ds,r0,d1,d2,rfl,hpp,sub,tB,hB,hB2,ow,ow2,rp,e,q⟩:=h;simp only[fnJ]at e;split at e
 case isFalse=>cases e
 rename_i hl
 obtain⟨w,e1,e2⟩:=zaa e;obtain⟨r,e2,e3⟩:=zaa e2;obtain⟨d,e3,e4⟩:=zab e3;cases e4;have hvl:us.length+2=n:=by rw[rp.length];exact hl
 have jR:∀(i:Nat) (s:Sl),(Sl.io d0::Sl.io e0::ds.map Sl.fz++List.replicate k .no)[i]?=some s->s.isRef=true->(i=0/\s=.io d0)\/(i=1/\s=.io e0):=λi s h1 h2=>by
  cases i with
  |zero=>rw[zay,zaP]at h1;cases h1;exact .inl ⟨rfl,rfl⟩
  |succ i=>
   cases i with
   |zero=>rw[zay,zat,zay,zaP]at h1;cases h1;exact .inr ⟨rfl,rfl⟩
   |succ i=>
    rw[zay,zat,zay,zat]at h1;have:=zaj h1;rcases zae this with h|h
    ·obtain⟨c,_,rfl⟩:=List.mem_map.mp h;cases h2
    ·rw[zaG h]at h2;cases h2
 have ex0:∀i:Nat,(Sl.io d0::Sl.io e0::ds.map Sl.fz++List.replicate k .no)[i]?=some Sl.ex->False:=λi h1=>by
  cases i with
  |zero=>rw[zay,zaP]at h1;cases h1
  |succ i=>
   cases i with
   |zero=>rw[zay,zat,zay,zaP]at h1;cases h1
   |succ i=>
    rw[zay,zat,zay,zat]at h1;have:=zaj h1;rcases zae this with h|h
    ·obtain⟨c,_,z⟩:=List.mem_map.mp h;cases z
    ·have:=zaG h;cases this
 have st0:(L2.start N (.ref p::.ref p2::us))[0]?=some (some (.ref p)):=by
  unfold L2.start;rw[zaz,zay,zaP]
 have st1:(L2.start N (.ref p::.ref p2::us))[1]?=some (some (.ref p2)):=by
  unfold L2.start;rw[zaz,zay,zat,zaz,zay,zaP]
 have R:Rel ⟨B,H,[(0,p),(1,p2)],λq=>H q≠none⟩ B H (L2.start N (.ref p::.ref p2::us)) (.io d0::.io e0::ds.map .fz++List.replicate k .no):=by
  refine⟨sub,aG.refl _,λ_ _ z _=>z,λ_ _ z=>z,?_,λi s hs=>?_,λi j s t p' h1 h2 h3 h4 h5 h6=>?_,(λi c p h1=>by rcases jR i _ h1 rfl with⟨_,z⟩|⟨_,z⟩<;>cases z),(λx hx=>?_),(λi c h1=>?_),tB,(λi h1=>(ex0 i h1).elim),λq o u h z=>by rw[z]at h;cases h⟩
  ·simp[L2.start,hl,hvl,hN];omega
  ·cases i with
   |zero=>
    rw[zay,zaP]at hs;cases hs;exact⟨p,st0,hB,ow⟩
   |succ i=>
    cases i with
    |zero=>
     rw[zay,zat,zay,zaP]at hs;cases hs;exact⟨p2,st1,hB2,ow2⟩
    |succ i=>
     rw[zay,zat,zay,zat]at hs
     by_cases hi:i<ds.length
     ·rw[zax (by simpa using hi),zao]at hs
      obtain⟨c,h1,rfl⟩:=zab hs;obtain⟨x,h2,h3⟩:=rp.get i c h1;refine⟨x,?_,h3⟩;unfold L2.start;rw[zaz,zay,zat,zaz,zay,zat,zax (by rw[zal,rp.length];exact hi),zao,h2]
      rfl
     ·rw[zaN (by simpa using zba hi)]at hs
      have:=zaG (zaj hs);subst this;trivial
  ·rcases jR i s h1 (Sl.kS h2)with⟨rfl,_⟩|⟨rfl,_⟩<;>rcases jR j t h3 h4 with⟨rfl,_⟩|⟨rfl,_⟩
   ·rfl
   ·rw[st0]at h5;rw[st1]at h6;cases h5;cases h6;exact absurd rfl hpp
   ·rw[st1]at h5;rw[st0]at h6;cases h5;cases h6;exact absurd rfl hpp
   ·rfl
  ·simp only[List.mem_cons,List.not_mem_nil,or_false]at hx
   rcases hx with rfl|rfl
   ·exact⟨st0,d0,rfl⟩
   ·exact⟨st1,e0,rfl⟩
  ·rcases jR i _ h1 rfl with⟨rfl,_⟩|⟨rfl,_⟩
   ·exact⟨p,by simp⟩
   ·exact⟨p2,by simp⟩
 refine hb _ B H _ _ w _ R e1 ?_;have post:∀{B' H':Hp} {σ':St} {ρ':Rho},pH w=ρ'->Rel ⟨B,H,[(0,p),(1,p2)],λq=>H q≠none⟩ B' H' σ' ρ'->(∀q u,q≠p->q≠p2->H q=some u->H' q=some u)/\aG B B'/\aG B' H'/\(∀q,H q≠none->B q=none->B' q=none)/\(∀q xs,H' q=some (.tup xs)->B' q=some (.tup xs))/\(∀q o u,H' q=some (.frz o u)->H q≠none)/\Own B' H' p d1/\Own B' H' p2 d2:=fun{B' H' σ' ρ'} hw R'=>by
  rw[hw]at e3;have h0:=Ko e3;refine⟨λq u n n2 z=>R'.sH q u z (λx hx=>?_),R'.sB,R'.sub,R'.nB,R'.cW,R'.nz,?_,?_⟩
  ·simp only[List.mem_cons,List.not_mem_nil,or_false]at hx
   rcases hx with rfl|rfl
   ·exact λz=>n z.symm
   ·exact λz=>n2 z.symm
  ·obtain⟨p',g1,g2,g3⟩:=R'.slot 0 _ h0.1
   obtain⟨g4,_⟩:=R'.fx (0,p) (by simp)
   rw[g4]at g1;cases g1;exact g3
  ·obtain⟨p',g1,g2,g3⟩:=R'.slot 1 _ h0.2
   obtain⟨g4,_⟩:=R'.fx (1,p2) (by simp)
   rw[g4]at g1;cases g1;exact g3
 cases w with
 |nx ρ'=>
  cases e2;intro B' H' σ' R';obtain⟨p1,p2,p3,p4,p5,p6,p7,p8⟩:=post rfl R';exact q _ B' H' ⟨p1,p2,p3,p4,p5,p6,p7,p8,.non⟩
 |bk ρ'=>cases e2
 |ct ρ'=>cases e2
 |rt r' ρ'=>
  intro v B' H' σ' R' V';obtain⟨p1,p2,p3,p4,p5,p6,p7,p8⟩:=post rfl R';obtain⟨c,kd⟩:=r';cases kd with
  |fz=>cases e2;exact q v B' H' ⟨p1,p2,p3,p4,p5,p6,p7,p8,V'⟩
  |new=>
   cases e2;obtain⟨p,rfl,h1,h2,h3,_⟩:=V';exact q _ B' H' ⟨p1,p2,p3,p4,p5,p6,p7,p8,⟨p,rfl,h2,h1,h3⟩⟩
  |ro=>cases e2
  | «at» i=>
   obtain⟨s,h1,h2,h3,h4⟩:=V';have e2':(match ρ'[i]? with
    |some (.own d)=>some (d,true)
    |_=>none)=some r0:=e2
   rw[h1]at e2';cases s with
   |own c'=>
    cases e2';obtain⟨p,g1,g2,g3⟩:=R'.slot i _ h1;have h4' : σ'[i]?=some (some v):=h4;rw[h4']at g1;cases g1;exact q _ B' H' ⟨p1,p2,p3,p4,p5,p6,p7,p8,⟨p,rfl,R'.kc i _ p h1 h4',g2,g3⟩⟩
   |_=>cases e2'
theorem Bd(h:spJ (fnJ n k b) vs H Q E):vs.length=n:=by
 obtain⟨B,p,p2,us,d0,e0,ds,r0,d1,d2,rfl,hpp,sub,tB,hB,hB2,ow,ow2,rp,e,q⟩:=h;simp only[fnJ]at e;split at e
 ·rename_i hl;rw[zaw,zaw,rp.length];exact hl
 ·cases e
def kZ(i j:Nat)(f:List D->Option ((D×Bool)×D×D))(m:Rho->Option (List RV×Rho)):PM:=fun ρ=>if i=j then none else(ownAt ρ i).bind λ_=>(ownAt ρ j).bind λ_=>(m ρ).bind λx=>(gA x.1 x.2).bind λy=>(ownAt y.2 i).bind λs=>(ownAt y.2 j).bind λs2=>(f (slD s::slD s2::y.1)).map λw=>(kO w.1.1 w.1.2,(y.2.set i (s.put w.2.1)).set j (s2.put w.2.2))
theorem yb(h:MA t m):ME (jc (spJ f) [] E (ie (nW i) (ie (nW j) t))) (kZ i j f m):=by
 intro F B H σ ρ r0 ρ' Q R e q;unfold kZ at e;split at e
 case isTrue=>cases e
 rename_i hij
 obtain⟨s0,e0,e⟩:=zaa e;obtain⟨t0,e0',e⟩:=zaa e;obtain⟨x,e1,e⟩:=zaa e;obtain⟨y,e2,e⟩:=zaa e;obtain⟨s,e4,e⟩:=zaa e;obtain⟨s2,e5,e⟩:=zaa e;obtain⟨w,e3,e⟩:=zab e;cases e;obtain⟨hs0,ho0⟩:=jo e0;obtain⟨ht0,hp0⟩:=jo e0';obtain⟨hs,ho⟩:=jo e4;obtain⟨hs2,ho2⟩:=jo e5;obtain⟨p,hv,_,_⟩:=R.ownAt hs0 ho0;obtain⟨p2,hv2,_,_⟩:=R.ownAt ht0 hp0;have hpp:p≠p2:=λz=>hij (R.dist i j s0 t0 p hs0 ho0 ht0 (Sl.kS hp0) hv (z▸hv2))
 refine⟨_,hv,_,hv2,?_⟩;refine h F B H σ ρ x.1 x.2 _ R e1 λvs B1 H1 E1 R1 V1=>?_
 show spJ f (V.ref p::V.ref p2::vs++[]) H1 Q E;rw[zaR];obtain⟨B2,R2,rp,E2⟩:=Rel.tQ R1 V1.weak e2;obtain⟨p',hv',hB,ow⟩:=R2.ownAt hs ho;rw[hv]at hv';cases hv';obtain⟨p2',LP,hB2,ow2⟩:=R2.ownAt hs2 ho2;rw[hv2]at LP;cases LP;obtain⟨oo,hoo⟩:=ow.there;obtain⟨oo2,CG⟩:=ow2.there;obtain⟨r,d1,d2⟩:=w;refine⟨B2,p,p2,vs,slD s,slD s2,y.1,r,d1,d2,rfl,hpp,R2.sub,R2.cW,hB,hB2,ow,ow2,rp,e3,λv B' H' P=>?_⟩
 obtain⟨o1,ho1⟩:=P.own.there;obtain⟨o2,CH⟩:=P.zP.there;have hB':B' p=none:=P.nb p (by rw[hoo];simp) hB
 have hB2':B' p2=none:=P.nb p2 (by rw[CG];simp) hB2
 let G:Hp:=upd (upd H' p oo) p2 oo2
 have Gp:G p=some oo:=by show upd (upd H' p oo) p2 oo2 p=_;rw[ax hpp];exact aB
 have Gp2:G p2=some oo2:=aB;have Go:∀c,c≠p->c≠p2->G c=H' c:=λc z z2=>by show upd (upd H' p oo) p2 oo2 c=_;rw[ax z2,ax z]
 have eH:aG H1 G:=λc u hc=>by
  by_cases z:c=p
  ·subst z;rw[hoo]at hc;cases hc;exact Gp
  ·by_cases z2:c=p2
   ·subst z2;rw[CG]at hc;cases hc;exact Gp2
   ·rw[Go c z z2];exact P.eH c u z z2 hc
 have sub:aG B' G:=λc u hc=>by
  rw[Go c (λz=>by rw[z,hB']at hc;cases hc) (λz=>by rw[z,hB2']at hc;cases hc)];exact P.sub c u hc
 have tB:∀c xs,G c=some (.tup xs)->B' c=some (.tup xs):=λc xs hc=>by
  by_cases z:c=p
  ·subst z;rw[Gp]at hc;cases hc;exact absurd hoo (ow.md xs)
  ·by_cases z2:c=p2
   ·subst z2;rw[Gp2]at hc;cases hc;exact absurd CG (ow2.md xs)
   ·rw[Go c z z2]at hc;exact P.tB c xs hc
 have nz:∀c a u,G c=some (.frz a u)->H1 c≠none:=λc a u hc=>by
  by_cases z:c=p
  ·subst z;rw[hoo];simp
  ·by_cases z2:c=p2
   ·subst z2;rw[CG];simp
   ·rw[Go c z z2]at hc;exact P.nz c a u hc
 have R3:=R2.grow P.eB eH sub P.nb tB nz;have E3:Ext σ y.2 B2 H1 y.2 B' G:=Ext.grow P.eB eH P.nb;have G1p:upd G p o1 p=some o1:=aB;obtain⟨R4,E4⟩:=R3.write (o:=o1) (d:=d1) hs ho hv ⟨(λxs z=>by rw[z]at ho1;exact P.own.md xs ho1),λa u z=>by rw[z]at ho1;exact P.own.v5 a u ho1⟩ (P.own.mono (aG.refl _) λu hu=>by rw[ho1]at hu;cases hu;exact aB)
 have Nh:(y.2.set i (s.put d1))[j]?=some s2:=by rw[zaA hij];exact hs2
 have back:upd (upd G p o1) p2 o2=H':=by
  funext c
  by_cases z2:c=p2
  ·subst z2;rw[aB,CH]
  ·rw[ax z2]
   by_cases z:c=p
   ·subst z;rw[aB,ho1]
   ·rw[ax z,Go c z z2]
 obtain⟨R5,E5⟩:=R4.write (o:=o2) (d:=d2) Nh ho2 hv2 ⟨(λxs z=>by rw[z]at CH;exact P.zP.md xs CH),λa u z=>by rw[z]at CH;exact P.zP.v5 a u CH⟩ (P.zP.mono (aG.refl _) λu hu=>by rw[CH]at hu;cases hu;exact aB)
 rw[back]at R5 E5;have EE:=E1.trans (E2.trans (E3.trans (E4.trans E5)));obtain⟨d,o⟩:=r;cases o with
 |false=>
  have pv:Rep B' v d:=P.val;exact q v B' H' EE R5 pv λp z=>by cases z
 |true=>
  obtain⟨p3,rfl,h1,h2,h3⟩:∃p,v=.ref p/\H1 p=none/\B' p=none/\Own B' H' p d:=P.val;have fr:=R2.free h1;refine q _ B' H' EE R5 ⟨p3,rfl,h2,fr.2.1,h3,λj' t h4 h5 h6=>?_⟩ λp' _ z=>by cases z;exact E1.live p3 h1
  rcases get_set h4 with⟨rfl,_,_⟩|⟨_,h4⟩
  ·rw[hv2]at h6
   cases h6;rw[h1]at CG;cases CG
  ·rcases get_set h4 with⟨rfl,_,_⟩|⟨_,h4⟩
   ·rw[hv]at h6
    cases h6;rw[h1]at hoo;cases hoo
   ·exact fr.2.2 j' t h4 h5 h6
end
end Mir
namespace L2
open PySem PySem.Spec PyProof.Rows
theorem LQ{K:zag}{base:Heap}{N:List Str}{qual:Str}{scope:Scope}{f:Addr}{cd:Value}{A:Around}{outer:List Env}{s₀:Shared}{H₀:Hp}{E:XK}
  (hex:(envOfC qual scope s₀.heap.objs.size f cd).frame=some s₀.heap.objs.size):Passes (CXW P w) (pq (CXW P w) P w K mg base N qual scope f cd A outer s₀ H₀ E) E:=by
 intro pins σ H s e s' I h;obtain⟨ea,t,cls,B,H',rfl,fl⟩:=h;have noA:∀b:Addr,b∉(pq (CXW P w) P w K mg base N qual scope f cd A outer s₀ H₀ E).ex:=λb z=>absurd (show b∈([]:List Addr)from z) (by simp)
 have fly:Heap.FlyingW B (envOfC qual scope s₀.heap.objs.size f cd::outer) ea cls (.ref t) s'.heap:=fl.fly;have hin:∀env∈(envOfC qual scope s₀.heap.objs.size f cd::outer),∀b,env.frame=some b->b∈frs (envOfC qual scope s₀.heap.objs.size f cd::outer):=λenv he b hb=>List.mem_filterMap.mpr ⟨env,he,hb⟩
 have sub:∀b∈frs outer,b∈frs (envOfC qual scope s₀.heap.objs.size f cd::outer):=λb hb=>by
  obtain⟨env,he,hf⟩:=List.mem_filterMap.mp hb;exact hin env (zak _ he) b hf
 have out:∀b o,s₀.heap.get? b=some o->b∉frs outer->b∉frs (envOfC qual scope s₀.heap.objs.size f cd::outer):=λb o q hb hm=>by
  obtain⟨env,he,hf⟩:=List.mem_filterMap.mp hm;rcases zaf he with rfl|he
  ·rw[hex]at hf
   cases hf;exact absurd (zaq q) (za3 _)
  ·exact hb (List.mem_filterMap.mpr ⟨env,he,hf⟩)
 show wpAny _ _ (leaving _ (.ref ea)) _ _ _;refine wpAny_leaves_onW I.ok.frames hex fly λh2 fl2 sm=>?_
 refine⟨ea,t,cls,B,H',rfl,⟨fl.os.trans I.os,fl.bare,fl2,λb o q n hb=>?_,λb o q hb=>?_,λb o q hb n=>?_,λb o q n=>?_,λb xs q=>fl.tups b xs (I.base.tups b xs q),λb o u q=>fl.ja b o u (I.base.ja b o u q),λb ps q=>?_,fl.hok,fl.wish⟩⟩
 ·exact fl.keep b o (I.base.keep b o q n hb (noA b)) (I.base.free b o q n (noA b)) (out b o q hb)
 ·obtain⟨o',q'⟩:=I.base.there b o q (noA b)
  exact fl.there b o' q' (out b o q hb)
 ·obtain⟨sl,q'⟩:=I.base.slot b o q n hb (noA b)
  obtain⟨sl2,q2⟩:=fl.slot b _ q' (sub b hb) (I.base.free b o q n (noA b));obtain⟨_,o2,q3,hd⟩:=fly.2.2.1.mem (sub b hb);rw[q2]at q3;cases q3;obtain⟨sl3,q4⟩:=sm b _ q2 hd;exact⟨sl3,q4⟩
 ·obtain⟨o',q'⟩:=I.base.there b o q (noA b)
  exact fl.free b o' q' (I.base.free b o q n (noA b))
 ·obtain⟨m1,z1⟩:=I.base.jP b ps q
  obtain⟨m2,z2⟩:=fl.jP b _ z1;exact⟨m1++m2,by rw[z2];simp⟩
theorem G2{sp:Sp}{p pos:Pos}{e:Expr}{es:List Expr}{t:TA}{E:XK}(D:Def X.prog X.w X.K X.mg X.base (CXW X.prog X.w) k x ps sp)(hr:gw k X.A)(hx:Passes (CXW X.prog X.w) X E)(ha:PA X (e::es) t)(hg:Gl X x:=by rfl)
  (hdb:(x==("__debug__":Str))=false:=by decide) (he:starEach (e::es) X.env=(false,eval e X.env)::starEach es X.env:=by rfl) (hpl:(backTo pos (starEach es X.env)).any (·.1)=false:=by rfl) :
  PE X (.Call (.Name x p) (e::es) [] pos) (jc sp [] E t):=by
 obtain⟨f,fd,F,m,kp,b⟩:=D.ex;exact AJ F hr hg m kp b .nil hx ha hdb he hpl
end L2
namespace Mir
open PySem L2
section
variable [Zc]
theorem LR{T:TE->TS}{f:List D->Option ((D×Bool) ⊕ Str)}{t:TA}{m:Rho->Option (List RV×Rho)}(hT:∀(te:TE) D σ H,(∀Q,te σ H Q)->T te D σ H)(hk:∀t m,ME t m->MS (T t) (k m))(h:MA t m) :
  MSE (λc H=>E (cl c) none H) (T (jc (spX cl f) [] E t)) (eX k (nY f m)):=by
 have e0:jc (spX cl f) [] E t=zO (spX cl f) t (λ_ cls H=>E cls none H):=by
  funext σ H Q
  show t σ H (λvs H1=>spX cl f (vs++[]) H1 Q E)=t σ H (λvs H1=>spX cl f vs H1 Q (λcls _ H2=>E cls none H2))
  congr 1
  funext vs H1
  rw[zaR];rfl
 rw[e0];intro F B H σ ρ o D R e q;refine LO (cl:=cl) (T:=T) (te:=zO (spX cl f) t) hT hk (EB h) F B H σ ρ o D _ R e ?_;cases o with
 |ok o=>exact q
 |er c ρ1=>exact λB1 H1 σ1 R1=>q B1 H1 σ1 R1
theorem CI(h:MA t m):MSE (λc H=>E (cl c) none H) (xr (jc (spX cl f) [] E t)) (eX gk (nY f m)):=LR (T:=xr) (λte D σ H q=>q _) (λt m h=>g8 h) h
end
end Mir
namespace L2
open PySem PySem.Spec PyProof.Rows PySem.W
def excAt(e:Addr)(cls:Value):Heap->Prop:=λh=>∃oe,h.get? e=some oe/\oe.cls=cls
end L2
namespace Mir
open PySem L2
end Mir
namespace L2
open PySem
def Ni(e:Addr)(cls:Value)(dx:Addr):Heap->Prop:=λh=>∃oe vs,h.get? e=some oe/\oe.cls=cls/\oe.dict=some dx/\oe.data=.fields vs
end L2
namespace Mir
open PySem L2
class Zl where
 cl:Str->Value
instance (priority:=10) zl0:Zl:=⟨λ_=>.none⟩
section
variable [Zc] [Zl]
inductive SV where
 |pl (d:D)|lc (k:Nat)|tp (xs:List SV)
inductive Cl where
 |dat (d:D)|obj (C:Addr) (fs:List (Str×SV))|lst (xs:List SV)|dct (es:List (Key×SV))|exc (c:Str) (n:Option Int)
structure SS where
 S:List (Option Cl)
 t:List (Option SV)
mutual
inductive d7(A:List Addr)(B:Hp):V->SV->Prop
 |pl {v:V} {d:D}:Rep B v d->d7 A B v (.pl d)
 |lc {k:Nat} {a:Addr}:A[k]?=some a->d7 A B (.ref a) (.lc k)
 |tp {t:Addr} {vs:List V} {xs:List SV}:B t=some (.tup vs)->b9 A B vs xs->d7 A B (.ref t) (.tp xs)
inductive b9(A:List Addr)(B:Hp):List V->List SV->Prop
 |nil:b9 A B [] []
 |cons {v:V} {x:SV} {vs:List V} {xs:List SV}:d7 A B v x->b9 A B vs xs->b9 A B (v::vs) (x::xs)
end
def Gro(A A':List Addr):Prop:=∀(k:Nat) (a:Addr),A[k]?=some a->A'[k]?=some a
theorem Gro.refl(A:List Addr):Gro A A:=λ_ _ h=>h
theorem Gro.trans(a:Gro A A1)(b:Gro A1 A2):Gro A A2:=λk x h=>b k x (a k x h)
theorem Gro.app(A N:List Addr):Gro A (A++N):=λk a h=>by rw[zax (zac h).1];exact h
mutual
theorem d7.mono(g:Gro A A')(e:aG B B'):∀{v:V} {x:SV},d7 A B v x->d7 A' B' v x
 |_,_,.pl r=>.pl (r.mono e)
 |_,_,.lc h=>.lc (g _ _ h)
 |_,_,.tp h r=>.tp (e _ _ h) (b9.mono g e r)
theorem b9.mono(g:Gro A A')(e:aG B B'):∀{v:List V} {x:List SV},b9 A B v x->b9 A' B' v x
 |_,_,.nil=>.nil
 |_,_,.cons a b=>.cons (d7.mono g e a) (b9.mono g e b)
end
theorem b9.length:∀{v:List V} {x:List SV},b9 A B v x->v.length=x.length
 |_,_,.nil=>rfl
 |_,_,.cons _ b=>by rw[zaw,zaw,b9.length b]
theorem b9.get:∀{v:List V} {x:List SV} (i:Nat),b9 A B v x->∀c,x[i]?=some c->∃y,v[i]?=some y/\d7 A B y c
 |_,_,i,.nil,c,h=>by simp at h
 |_,_,0,.cons a _,c,h=>by simp at h;subst h;exact⟨_,rfl,a⟩
 |_,_,i+1,.cons _ b,c,h=>by
  rw[zat]at h;rw[zat];exact b9.get i b c h
inductive eU(A:List Addr)(B:Hp):List (Str×V)->List (Str×SV)->Prop
 |nil:eU A B [] []
 |cons {f:Str} {v:V} {x:SV} {gs:List (Str×V)} {fs:List (Str×SV)}:d7 A B v x->eU A B gs fs->eU A B ((f,v)::gs) ((f,x)::fs)
theorem eU.mono(g:Gro A A')(e:aG B B'):∀{v:List (Str×V)} {x:List (Str×SV)},eU A B v x->eU A' B' v x
 |_,_,.nil=>.nil
 |_,_,.cons a b=>.cons (a.mono g e) (eU.mono g e b)
inductive lS(A:List Addr)(B:Hp):List (Key×V)->List (Key×SV)->Prop
 |nil:lS A B [] []
 |cons {f:Key} {v:V} {x:SV} {gs:List (Key×V)} {fs:List (Key×SV)}:d7 A B v x->lS A B gs fs->lS A B ((f,v)::gs) ((f,x)::fs)
theorem lS.mono(g:Gro A A')(e:aG B B'):∀{v:List (Key×V)} {x:List (Key×SV)},lS A B v x->lS A' B' v x
 |_,_,.nil=>.nil
 |_,_,.cons a b=>.cons (a.mono g e) (lS.mono g e b)
theorem eU.look:∀{gs:List (Str×V)} {fs:List (Str×SV)} {x:SV},eU A B gs fs->fs.lookup f=some x->∃v,gs.lookup f=some v/\d7 A B v x
 |_,_,x,.nil,h=>by cases h
 |_,_,x,.cons (f:=k) (v:=v) a b,h=>by
  by_cases e:f=k
  ·have hb:(f==k)=true:=beq_iff_eq.mpr e
   simp only[List.lookup,hb]at h⊢;cases h;exact⟨v,rfl,a⟩
  ·have hb:(f==k)=false:=beq_eq_false_iff_ne.mpr e
   simp only[List.lookup,hb]at h⊢;exact eU.look b h
theorem eU.length:∀{gs:List (Str×V)} {fs:List (Str×SV)},eU A B gs fs->gs.length=fs.length
 |_,_,.nil=>rfl
 |_,_,.cons _ b=>by rw[zaw,zaw,eU.length b]
def EC(f:Str)(x:SV):List (Str×SV)->List (Str×SV)
 | []=>[(f,x)]
 |(k,y)::r=>if k=f then(k,x)::r else(k,y)::EC f x r
theorem eU.put(rv:d7 A B v x):∀{gs:List (Str×V)} {fs:List (Str×SV)},eU A B gs fs->eU A B (JI f v gs) (EC f x fs)
 |_,_,.nil=>.cons rv .nil
 |_,_,.cons (f:=k) (v:=u) (x:=y) (gs:=gs) (fs:=fs) a b=>by
  show eU A B (if k=f then(k,v)::gs else(k,u)::JI f v gs) (if k=f then(k,x)::fs else(k,y)::EC f x fs)
  by_cases e:k=f
  ·rw[if_pos e,if_pos e];exact .cons rv b
  ·rw[if_neg e,if_neg e];exact .cons a (eU.put rv b)
def Mx:HO->Prop
 | .lst _=>True
 | .dK _=>True
 | .ins _ _ _=>True
 | .ext _=>True
 |_=>False
def MxF(o:HO):Prop:=Mx o\/∃ob φ,o=.frz ob (.ext φ)
def CJ(H:Hp)(a:Addr)(φ:Heap->Prop):Prop:=H a=some (.ext φ)\/∃o,H a=some (.frz o (.ext φ))
theorem CJ.mono(h:CJ H a φ)(k:∀o,H a=some o->H' a=some o):CJ H' a φ:=h.elim (λh=>.inl (k _ h)) λ⟨o,h⟩=>.inr ⟨o,k _ h⟩
theorem CJ.ok(x:CJ H a φ)(k:HOk P w H h) : φ h:=by
 rcases x with x|⟨o,x⟩
 ·exact(k a _ x).1
 ·exact(k a _ x).2.1
theorem G3 : ¬MxF (.own x):=λz=>by rcases z with z|⟨_,_,z⟩;exact z;cases z
theorem Kp : ¬MxF (.xd fs):=λz=>by rcases z with z|⟨_,_,z⟩;exact z;cases z
inductive fM(A:List Addr)(B H:Hp)(a:Addr):Cl->Prop
 |dat {d:D}:Own B H a d->fM A B H a (.dat d)
 |obj {C dx:Addr} {gs:List (Str×V)} {fs:List (Str×SV)}:H a=some (.ins C dx gs)->H dx=some (.own a)->eU A B gs fs->fM A B H a (.obj C fs)
 |lst {vs:List V} {xs:List SV}:H a=some (.lst vs)->b9 A B vs xs->fM A B H a (.lst xs)
 |dct {kvs:List (Key×V)} {es:List (Key×SV)}:H a=some (.dK kvs)->lS A B kvs es->fM A B H a (.dct es)
 |exc {c:Str} {n:Option Int} {φ:Heap->Prop}:CJ H a φ->(∀h,φ h->excAt a (Zl.cl c) h)->(∀k,n=some k->∃dx,(∀h,φ h->Ni a (Zl.cl c) dx h)/\H dx=some (.xd [("by",.int k)]))->fM A B H a (.exc c n)
theorem fM.mono(h:fM A B H a c)(g:Gro A A')(e:aG B B')(k:∀o,H a=some o->H' a=some o)(ko:∀q o,H q=some o->¬MxF o->H' q=some o):fM A' B' H' a c:=by
 cases h with
 |dat h=>exact .dat (h.mono e k)
 |obj h1 h2 h3=>exact .obj (k _ h1) (ko _ _ h2 G3) (h3.mono g e)
 |lst h1 h2=>exact .lst (k _ h1) (h2.mono g e)
 |dct h1 h2=>exact .dct (k _ h1) (h2.mono g e)
 |exc h1 h2 h3=>exact .exc (h1.mono k) h2 λn e=>(let⟨dx,p1,p2⟩:=h3 n e;⟨dx,p1,ko _ _ p2 Kp⟩)
structure StO(A:List Addr)(B H:Hp)(S:List (Option Cl)):Prop where
 len:A.length=S.length
 nd:A.Nodup
 dis:∀a∈A,B a=none
 mx:∀a∈A,∃o,H a=some o/\MxF o
 cell:∀(k:Nat) (c:Cl) (a:Addr),S[k]?=some (some c)->A[k]?=some a->fM A B H a c
structure FrN where
 B:Hp
 H:Hp
 io:List Addr
 Z:Addr->Prop
structure bz(G:FrN)(A:List Addr)(B H:Hp)(σ:St)(s:SS):Prop where
 sub:aG B H
 sB:aG G.B B
 cW:∀q xs,H q=some (.tup xs)->B q=some (.tup xs)
 kept:∀q o,G.H q=some o->q∉G.io->H q=some o
 nB:∀q,G.H q≠none->G.B q=none->B q=none
 pre:Gro G.io A
 fresh:∀a∈A,a∈G.io\/G.H a=none
 st:StO A B H s.S
 len:s.t.length=σ.length
 slot:∀(i:Nat) (x:SV),s.t[i]?=some (some x)->∃v,σ[i]?=some (some v)/\d7 A B v x
 nz:∀q o u,H q=some (.frz o u)->G.Z q
section
variable{G:FrN}{A A':List Addr}{B H B' H':Hp}{σ:St}{s:SS}
theorem StO.mono(O:StO A B H s.S)(eB:aG B B')(eH:aG H H')(nb:∀q,H q≠none->B q=none->B' q=none):StO A B' H' s.S where
 len:=O.len
 nd:=O.nd
 dis:=λa ha=>by obtain⟨o,h,_⟩:=O.mx a ha;exact nb a (by rw[h];simp) (O.dis a ha)
 mx:=λa ha=>by obtain⟨o,h,m⟩:=O.mx a ha;exact⟨o,eH _ _ h,m⟩
 cell:=λk c a h1 h2=>(O.cell k c a h1 h2).mono (Gro.refl _) eB (λo h=>eH _ _ h) λq o h _=>eH _ _ h
theorem bz.grow(R:bz G A B H σ s)(eB:aG B B')(eH:aG H H')(sub:aG B' H')(nb:∀q,H q≠none->B q=none->B' q=none)(tB:∀q xs,H' q=some (.tup xs)->B' q=some (.tup xs))(nz:∀q o u,H' q=some (.frz o u)->G.Z q):bz G A B' H' σ s where
 sub:=sub
 sB:=R.sB.trans eB
 cW:=tB
 kept:=λq o h n=>eH _ _ (R.kept q o h n)
 nB:=λq h z=>by
  have z1:=R.nB q h z
  by_cases hq:H q=none
  ·by_cases hi:q∈G.io
   ·obtain⟨k,hk⟩:=List.mem_iff_getElem?.mp hi
    obtain⟨o,h2,_⟩:=R.st.mx q (zaj (R.pre k q hk));rw[hq]at h2;cases h2
   ·cases h3:G.H q with
    |none=>exact absurd h3 h
    |some o=>rw[R.kept q o h3 hi]at hq;cases hq
  ·exact nb q hq z1
 pre:=R.pre
 fresh:=R.fresh
 st:=R.st.mono eB eH nb
 len:=R.len
 slot:=λi x h=>by obtain⟨v,h1,h2⟩:=R.slot i x h;exact⟨v,h1,h2.mono (Gro.refl _) eB⟩
 nz:=nz
theorem bz.se(R:bz G A B H σ s)(h:H p=none):G.H p=none/\p∉A/\B p=none:=by
 have hA:p∉A:=λz=>by obtain⟨o,h2,_⟩:=R.st.mx p z;rw[h]at h2;cases h2
 refine⟨?_,hA,?_⟩
 ·cases h3:G.H p with
  |none=>rfl
  |some o=>
   have:p∉G.io:=λz=>by
    obtain⟨k,hk⟩:=List.mem_iff_getElem?.mp z;exact hA (zaj (R.pre k p hk))
   rw[R.kept p o h3 this]at h;cases h
 ·cases h3:B p with
  |none=>rfl
  |some o=>rw[R.sub p o h3]at h;cases h
theorem bz.write(R:bz G A B H σ s)(hk:A[k]?=some a)(mo:Mx o)(ok:fM A B (upd H a o) a c):bz G A B (upd H a o) σ ⟨s.S.set k (some c),s.t⟩:=by
 have ha:a∈A:=zaj hk;have hB:=R.st.dis a ha;obtain⟨o0,h0,m0⟩:=R.st.mx a ha;have kl:=(zac hk).1;refine⟨λq u h=>?_,R.sB,λq xs h=>?_,λq u h n=>?_,R.nB,R.pre,R.fresh,⟨?_,R.st.nd,R.st.dis,λb hb=>?_,λj d b h1 h2=>?_⟩,R.len,R.slot,λq u w h=>?_⟩
 ·rw[ax (λz=>by rw[z,hB]at h;cases h)];exact R.sub q u h
 ·by_cases z:q=a
  ·subst z;rw[aB]at h;cases h;cases mo
  ·rw[ax z]at h;exact R.cW q xs h
 ·have z:q≠a:=λz=>by
   subst z;rcases R.fresh q ha with g|g
   ·exact n g
   ·rw[g]at h;cases h
  rw[ax z];exact R.kept q u h n
 ·show A.length=(s.S.set k (some c)).length
  rw[zaM];exact R.st.len
 ·by_cases z:b=a
  ·subst z;exact⟨o,aB,.inl mo⟩
  ·rw[ax z];exact R.st.mx b hb
 ·have h1':(s.S.set k (some c))[j]?=some (some d):=h1
  by_cases z:j=k
  ·subst z
   rw[hk]at h2;cases h2
   rw[zav (by rw[<-R.st.len];exact kl)]at h1'
   cases h1';exact ok
  ·rw[zaA λe=>z e.symm]at h1'
   have nb:b≠a:=λe=>by
    subst e;exact z ((List.getElem?_inj (zac h2).1 R.st.nd).mp (h2.trans hk.symm))
   refine(R.st.cell j d b h1' h2).mono (Gro.refl _) (aG.refl _) (λu h=>by rw[ax nb];exact h) λq o h hm=>?_
   rw[ax (λe=>by subst e;rw[h0]at h;cases h;exact hm m0)];exact h
 ·by_cases z:q=a
  ·subst z;rw[aB]at h;cases h;cases mo
  ·rw[ax z]at h;exact R.nz q u w h
theorem bz.take(R:bz G A B H σ s)(hG:G.H p=none)(hA:p∉A)(hB:B p=none)(hp:H p=some o)(mo:Mx o)(ok:fM (A++[p]) B H p c):bz G (A++[p]) B H σ ⟨s.S++[some c],s.t⟩:=by
 refine⟨R.sub,R.sB,R.cW,R.kept,R.nB,R.pre.trans (Gro.app _ _),λb hb=>?_,⟨?_,?_,λb hb=>?_,λb hb=>?_,λj d b h1 h2=>?_⟩,R.len,λi x h=>?_,R.nz⟩
 ·rcases zae hb with h|h
  ·exact R.fresh b h
  ·simp only[List.mem_singleton]at h;subst h;exact .inr hG
 ·show(A++[p]).length=(s.S++[some c]).length
  rw[zau,zau,R.st.len];rfl
 ·rw[List.nodup_append]
  refine⟨R.st.nd,by simp,λx hx y hy=>?_⟩
  simp only[List.mem_singleton]at hy;subst hy
  exact λz=>hA (z▸hx)
 ·rcases zae hb with h|h
  ·exact R.st.dis b h
  ·simp only[List.mem_singleton]at h;subst h;exact hB
 ·rcases zae hb with h|h
  ·exact R.st.mx b h
  ·simp only[List.mem_singleton]at h;subst h;exact⟨o,hp,.inl mo⟩
 ·have h1':(s.S++[some c])[j]?=some (some d):=h1
  by_cases z:j<s.S.length
  ·rw[zax z]at h1'
   rw[zax (by rw[R.st.len];exact z)]at h2
   exact(R.st.cell j d b h1' h2).mono (Gro.app _ _) (aG.refl _) (λ_ h=>h) λ_ _ h _=>h
  ·rw[zaN (zba z)]at h1'
   rw[zaN (by rw[R.st.len];exact zba z),R.st.len]at h2
   cases hz:j-s.S.length with
   |zero=>
    rw[hz]at h1' h2;simp at h1' h2;subst h1' h2;exact ok
   |succ n=>rw[hz]at h1';simp at h1'
 ·obtain⟨v,h1,h2⟩:=R.slot i x h
  exact⟨v,h1,h2.mono (Gro.app _ _) (aG.refl _)⟩
theorem bz.tP(R:bz G A B H σ s)(hp:H p=none):bz G A (upd B p (.tup xs)) (upd H p (.tup xs)) σ s/\aG B (upd B p (.tup xs)):=by
 obtain⟨_,_,hB⟩:=R.se hp;have eB:aG B (upd B p (.tup xs)):=λq u h=>by rw[ax (λz=>by rw[z,hB]at h;cases h)];exact h
 refine⟨R.grow eB (λq u h=>by rw[ax (λz=>by rw[z,hp]at h;cases h)];exact h) (λq u h=>?_) (λq h z=>?_) (λq ys h=>?_) λq u w h=>?_,eB⟩
 ·by_cases z:q=p
  ·subst z;rw[aB]at h⊢;exact h
  ·rw[ax z]at h⊢;exact R.sub q u h
 ·rw[ax (λe=>by rw[e]at h;exact h hp)];exact z
 ·by_cases z:q=p
  ·subst z;rw[aB]at h⊢;exact h
  ·rw[ax z]at h⊢;exact R.cW q ys h
 ·by_cases z:q=p
  ·subst z;rw[aB]at h;cases h
  ·rw[ax z]at h;exact R.nz q u w h
theorem bz.set(R:bz G A B H σ s)(h:i<s.t.length)(rv:d7 A B v x):bz G A B H (σ.set i (some v)) ⟨s.S,s.t.set i (some x)⟩:=by
 refine⟨R.sub,R.sB,R.cW,R.kept,R.nB,R.pre,R.fresh,R.st,?_,λj y hj=>?_,R.nz⟩
 ·show(s.t.set i (some x)).length=_
  rw[zaM,zaM];exact R.len
 ·have hj':(s.t.set i (some x))[j]?=some (some y):=hj
  by_cases z:j=i
  ·subst z
   rw[zav h]at hj';cases hj';exact⟨v,zav (R.len▸h),rv⟩
  ·rw[zaA λe=>z e.symm]at hj'
   rw[zaA λe=>z e.symm]
   exact R.slot j y hj'
mutual
def blV(n:Nat):SV->Bool
 | .pl _=>true
 | .lc k=>decide (k<n)
 | .tp xs=>nZ n xs
def nZ(n:Nat):List SV->Bool
 | []=>true
 |x::xs=>blV n x&&nZ n xs
end
theorem yc(h:A[k]?=some a)(hk:k<n):(A.take n)[k]?=some a:=by rw[List.getElem?_take,if_pos hk];exact h
mutual
theorem d7.take(n:Nat):∀{v:V} {x:SV},d7 A B v x->blV n x=true->d7 (A.take n) B v x
 |_,_,.pl r,_=>.pl r
 |_,_,.lc h,e=>.lc (yc h (by simpa[blV]using e))
 |_,_,.tp h r,e=>.tp h (b9.take n r (by simpa[blV]using e))
theorem b9.take(n:Nat):∀{v:List V} {x:List SV},b9 A B v x->nZ n x=true->b9 (A.take n) B v x
 |_,_,.nil,_=>.nil
 |_,_,.cons a b,e=>by
  simp only[nZ,Bool.and_eq_true]at e;exact .cons (d7.take n a e.1) (b9.take n b e.2)
end
def zQ{α:Type}(n:Nat):List (α×SV)->Bool
 | []=>true
 |x::xs=>blV n x.2&&zQ n xs
theorem eU.take(n:Nat):∀{v:List (Str×V)} {x:List (Str×SV)},eU A B v x->zQ n x=true->eU (A.take n) B v x
 |_,_,.nil,_=>.nil
 |_,_,.cons a b,e=>by
  simp only[zQ,Bool.and_eq_true]at e;exact .cons (a.take n e.1) (eU.take n b e.2)
theorem lS.take(n:Nat):∀{v:List (Key×V)} {x:List (Key×SV)},lS A B v x->zQ n x=true->lS (A.take n) B v x
 |_,_,.nil,_=>.nil
 |_,_,.cons a b,e=>by
  simp only[zQ,Bool.and_eq_true]at e;exact .cons (a.take n e.1) (lS.take n b e.2)
def blC(n:Nat):Cl->Bool
 | .dat _=>true
 | .obj _ fs=>zQ n fs
 | .lst xs=>nZ n xs
 | .dct es=>zQ n es
 | .exc _ _=>true
theorem fM.take(n:Nat)(h:fM A B H a c)(e:blC n c=true):fM (A.take n) B H a c:=by
 cases h with
 |dat h=>exact .dat h
 |obj h1 h2 h3=>exact .obj h1 h2 (h3.take n e)
 |lst h1 h2=>exact .lst h1 (h2.take n e)
 |dct h1 h2=>exact .dct h1 (h2.take n e)
 |exc h1 h2 h3=>exact .exc h1 h2 h3
def gcC(n:Nat)(c:Option Cl):Option Cl:=match c with
 |some c=>if blC n c=true then some c else none
 |none=>none
def gcV(n:Nat)(x:Option SV):Option SV:=match x with
 |some x=>if blV n x=true then some x else none
 |none=>none
def gcS(n:Nat)(S:List (Option Cl)):List (Option Cl):=(S.take n).map (gcC n)
def gcT(n:Nat)(t:List (Option SV)):List (Option SV):=t.map (gcV n)
def gc(n:Nat)(s:SS):SS:=⟨gcS n s.S,gcT n s.t⟩
theorem Kq(h:gcC n c=some d):c=some d/\blC n d=true:=by
 cases c with
 |none=>cases h
 |some c=>
  simp only[gcC]at h;split at h
  ·rename_i e;cases h;exact⟨rfl,e⟩
  ·cases h
theorem Kr(h:gcV n c=some d):c=some d/\blV n d=true:=by
 cases c with
 |none=>cases h
 |some c=>
  simp only[gcV]at h;split at h
  ·rename_i e;cases h;exact⟨rfl,e⟩
  ·cases h
theorem StO.gc(O:StO A B H S)(n:Nat):StO (A.take n) B H (gcS n S):=by
 refine⟨?_,O.nd.sublist (List.take_sublist _ _),λa ha=>O.dis a (List.mem_of_mem_take ha),λa ha=>O.mx a (List.mem_of_mem_take ha),λk c a h1 h2=>?_⟩
 ·unfold gcS;rw[zal,List.length_take,List.length_take,O.len]
 ·unfold gcS at h1
  rw[zao]at h1;obtain⟨c',h3,h4⟩:=zab h1;obtain⟨rfl,h5⟩:=Kq h4;rw[List.getElem?_take]at h3 h2;split at h2
  ·rename_i hk
   rw[if_pos hk]at h3;exact(O.cell k c a h3 h2).take n h5
  ·cases h2
theorem bz.gc(R:bz G A B H σ s)(hn:G.io.length<=n):bz G (A.take n) B H σ (gc n s):=by
 refine⟨R.sub,R.sB,R.cW,R.kept,R.nB,λk a h=>?_,λa ha=>R.fresh a (List.mem_of_mem_take ha),R.st.gc n,?_,λi x h=>?_,R.nz⟩
 ·exact yc (R.pre k a h) (zaF (zac h).1 hn)
 ·show(gcT n s.t).length=_
  unfold gcT;rw[zal];exact R.len
 ·have h':(gcT n s.t)[i]?=some (some x):=h
  unfold gcT at h';rw[zao]at h';obtain⟨c',h3,h4⟩:=zab h';obtain⟨rfl,h5⟩:=Kr h4;obtain⟨v,h6,h7⟩:=R.slot i x h3;exact⟨v,h6,h7.take n h5⟩
def Be(n:Nat)(S:List (Option Cl)):Bool:=(S.take n).all λc=>match c with
 |some c=>blC n c
 |none=>true
def LS(n:Nat)(t:List (Option SV))(i:Nat):Bool:=match t[i]? with
 |some (some x)=>blV n x
 |_=>true
def gcE(n:Nat)(kp:List Nat)(s:SS):SS:=if(Be n s.S&&kp.all (LS n s.t))=true then gc n s else s
theorem bz.gcE(R:bz G A B H σ s)(hn:G.io.length<=n):∃A',bz G A' B H σ (gcE n kp s):=by
 unfold Mir.gcE;split
 ·exact⟨_,R.gc hn⟩
 ·exact⟨_,R⟩
theorem Gro.len(g:Gro A A'):A.length<=A'.length:=by
 cases h:A.length with
 |zero=>omega
 |succ k=>
  have hk:k<A.length:=by omega
  have:=g k A[k] (zaC hk);exact(zac this).1
end
mutual
def rdV(S:List (Option Cl)):SV->Option D
 | .pl d=>some d
 | .lc k=>match S[k]? with
  |some (some (.dat d))=>some d
  |_=>none
 | .tp xs=>(qO S xs).map .tuple
def qO(S:List (Option Cl)):List SV->Option (List D)
 | []=>some []
 |x::xs=>(rdV S x).bind λd=>(qO S xs).map λds=>d::ds
end
section
variable{G:FrN}{A:List Addr}{B H:Hp}{σ:St}{s:SS}
mutual
theorem Bf(O:StO A B H s.S)(sub:aG B H):∀{v:V} {x:SV} {d:D},d7 A B v x->rdV s.S x=some d->Rep H v d
 |_,_,d,.pl r,e=>by
  simp only[rdV]at e;cases e;exact r.mono sub
 |_,_,d,.lc (k:=k) h,e=>by
  simp only[rdV]at e;split at e
  ·rename_i d' hc
   cases e;cases O.cell k _ _ hc h with
   |dat o=>exact o.rep sub
  ·cases e
 |_,_,d,.tp h r,e=>by
  simp only[rdV]at e;obtain⟨ds,e1,rfl⟩:=zab e;exact .tup (sub _ _ h) (sf O sub r e1)
theorem sf(O:StO A B H s.S)(sub:aG B H):∀{v:List V} {x:List SV} {d:List D},b9 A B v x->qO s.S x=some d->aY H v d
 |_,_,d,.nil,e=>by
  simp only[qO]at e;cases e;exact .nil
 |_,_,d,.cons a b,e=>by
  simp only[qO]at e;obtain⟨c,e1,e⟩:=zaa e;obtain⟨ds,e2,rfl⟩:=zab e;exact .cons (Bf O sub a e1) (sf O sub b e2)
end
def CK(S:List (Option Cl)):Option SV->Sl
 |none=>.no
 |some x=>match rdV S x with
  |some d=>.fz d
  |none=>.no
def vw(s:SS):Rho:=s.t.map (CK s.S)
def slC:Option SV->Sl
 |some (.pl d)=>.fz d
 |_=>.no
def vwC(s:SS):Rho:=s.t.map slC
theorem CL(S:List (Option Cl))(y:Option SV):CK S y=.no\/∃d x,CK S y=.fz d/\y=some x/\rdV S x=some d:=by
 cases y with
 |none=>exact .inl rfl
 |some x=>
  cases h:rdV S x with
  |none=>exact .inl (by simp only[CK,h])
  |some d=>exact .inr ⟨d,x,by simp only[CK,h],rfl,h⟩
theorem ED(y:Option SV):slC y=.no\/∃d,slC y=.fz d/\y=some (.pl d):=by
 cases y with
 |none=>exact .inl rfl
 |some x=>cases x with
  |pl d=>exact .inr ⟨d,rfl,rfl⟩
  |lc _=>exact .inl rfl
  |tp _=>exact .inl rfl
theorem zR{i:Nat}(h:(vw s)[i]?=some x):x=.no\/∃d y,x=.fz d/\s.t[i]?=some (some y)/\rdV s.S y=some d:=by
 unfold vw at h;rw[zao]at h;obtain⟨y,h1,rfl⟩:=zab h;rcases CL s.S y with e|⟨d,z,e,rfl,e2⟩
 ·exact .inl e
 ·exact .inr ⟨d,z,e,h1,e2⟩
theorem v9{i:Nat}(h:(vwC s)[i]?=some x):x=.no\/∃d,x=.fz d/\s.t[i]?=some (some (.pl d)):=by
 unfold vwC at h;rw[zao]at h;obtain⟨y,h1,rfl⟩:=zab h;rcases ED y with e|⟨d,e,rfl⟩
 ·exact .inl e
 ·exact .inr ⟨d,e,h1⟩
theorem bz.opn(R:bz G A B H σ s):Rel ⟨H,H,[],G.Z⟩ H H σ (vw s):=by
 have nk:∀(i:Nat) (x:Sl),(vw s)[i]?=some x->x.isRef=true->False:=λi x h e=>by
  rcases zR h with rfl|⟨d,y,rfl,_⟩<;>cases e
 refine⟨aG.refl _,aG.refl _,λ_ _ h _=>h,λ_ h z=>absurd z h,?_,λi x h=>?_,λi j x t p h1 h2=>(nk i x h1 (Sl.kS h2)).elim,λi d p h=>(nk i _ h rfl).elim,(λx hx=>by cases hx),λi d h=>(nk i _ h rfl).elim,λ_ _ h=>h,λi h=>?_,R.nz⟩
 ·unfold vw;rw[zal];exact R.len
 ·rcases zR h with rfl|⟨d,y,rfl,h1,h2⟩
  ·trivial
  ·obtain⟨v,h3,h4⟩:=R.slot i y h1
   exact⟨v,h3,Bf R.st R.sub h4 h2⟩
 ·rcases zR h with z|⟨d,y,z,_⟩<;>cases z
theorem bz.cls(R:bz G A B H σ s):Rel ⟨B,H,[],G.Z⟩ B H σ (vwC s):=by
 have nk:∀(i:Nat) (x:Sl),(vwC s)[i]?=some x->x.isRef=true->False:=λi x h e=>by
  rcases v9 h with rfl|⟨d,rfl,_⟩<;>cases e
 refine⟨R.sub,aG.refl _,λ_ _ h _=>h,λ_ _ z=>z,?_,λi x h=>?_,λi j x t p h1 h2=>(nk i x h1 (Sl.kS h2)).elim,λi d p h=>(nk i _ h rfl).elim,(λx hx=>by cases hx),λi d h=>(nk i _ h rfl).elim,R.cW,λi h=>?_,R.nz⟩
 ·unfold vwC;rw[zal];exact R.len
 ·rcases v9 h with rfl|⟨d,rfl,h1⟩
  ·trivial
  ·obtain⟨v,h3,h4⟩:=R.slot i _ h1
   cases h4 with
   |pl r=>exact⟨v,h3,r⟩
 ·rcases v9 h with z|⟨d,z,_⟩<;>cases z
def tbu(B H:Hp):Hp:=λq=>match B q with
 |some o=>some o
 |none=>match H q with
  |some (.tup xs)=>some (.tup xs)
  |_=>none
theorem oK:aG B (tbu B H):=λq o h=>by unfold tbu;rw[h]
theorem oM(sub:aG B H)(h:H q=some (.tup xs)):tbu B H q=some (.tup xs):=by
 unfold tbu;cases hb:B q with
 |none=>rw[h]
 |some o=>
  have:=sub q o hb;rw[h]at this;exact this.symm
theorem pJ(h:tbu B H q=some o):B q=some o\/(B q=none/\∃xs,o=.tup xs/\H q=some (.tup xs)):=by
 unfold tbu at h;cases hb:B q with
 |some o'=>rw[hb]at h;exact .inl h
 |none=>
  rw[hb]at h;refine .inr ⟨rfl,?_⟩;dsimp only at h;split at h
  ·rename_i xs hx;cases h;exact⟨xs,rfl,hx⟩
  ·cases h
theorem bz.back(R:bz G A B H σ s)(R1:Rel ⟨H,H,[],G.Z⟩ B1 H1 σ ρ):bz G A (tbu B H1) H1 σ s/\aG B (tbu B H1)/\aG H H1/\∀q xs,B1 q=some (.tup xs)->tbu B H1 q=some (.tup xs):=by
 have eH:aG H H1:=λq o h=>R1.sH q o h λx hx=>by cases hx
 have wa:aG B H1:=R.sub.trans eH;refine⟨R.grow oK eH (λq o h=>?_) (λq h z=>?_) (λq xs h=>oM wa h) R1.nz,oK,eH,λq xs h=>oM wa (R1.sub _ _ h)⟩
 ·rcases pJ h with h|⟨_,xs,rfl,h'⟩
  ·exact wa q o h
  ·exact h'
 ·cases h2:tbu B H1 q with
  |none=>rfl
  |some o=>
   rcases pJ h2 with h3|⟨_,xs,rfl,h3⟩
   ·rw[z]at h3;cases h3
   ·cases h4:H q with
    |none=>exact absurd h4 h
    |some u=>
     have:=eH q u h4;rw[h3]at this;cases this;rw[R.cW q xs h4]at z;cases z
theorem bz.LU(R:bz G A B H σ s)(R1:Rel ⟨B,H,[],G.Z⟩ B1 H1 σ ρ):bz G A B1 H1 σ s/\aG B B1/\aG H H1:=by
 have eH:aG H H1:=λq o h=>R1.sH q o h λx hx=>by cases hx
 exact⟨R.grow R1.sB eH R1.sub (λq h z=>R1.nB q h z) R1.cW R1.nz,R1.sB,eH⟩
end
theorem Own.d4(k:∀q xs,B q=some (.tup xs)->B' q=some (.tup xs))(h:Own B H p d)(e:fB d true=true):Own B' H p d:=by
 cases h with
 |lst h r=>exact .lst h (r.d4 k e)
 |dct h r=>exact .dct h (r.d4 k e)
theorem Own.mx(h:Own B H p d):∃o,H p=some o/\Mx o:=by
 cases h with
 |lst h r=>exact⟨_,h,trivial⟩
 |dct h r=>exact⟨_,h,trivial⟩
structure Xc where
 c:Str
 by_:Option Int
inductive RR(α:Type) where
 |ok (v : α) (s:SS)|er (x:Xc) (s:SS)
abbrev MN(α:Type):=SS->Option (RR α)
abbrev EN:=MN SV
def bN{α β:Type}(m:MN α)(k : α->MN β):MN β:=λs=>match m s with
 |some (.ok v s')=>k v s'
 |some (.er x s')=>some (.er x s')
 |none=>none
abbrev WX:=Xc->St->Hp->Prop
abbrev RL(β α:Type):=List Addr->Hp->β->α->Prop
def ROk{α β:Type}(G:FrN)(A:List Addr)(B:Hp)(σ:St)(W:WX)(Rl:RL β α)(Q : β->Hp->Prop):RR α->Prop
 | .ok v s'=>∀x A' B' H',Gro A A'->aG B B'->bz G A' B' H' σ s'->Rl A' B' x v->Q x H'
 | .er y s'=>∀A' B' H',bz G A' B' H' σ s'->W y σ H'
def NM{α β:Type}(W:WX)(Rl:RL β α)(t:St->Hp->(β->Hp->Prop)->Prop)(m:MN α):Prop :=
 ∀(G:FrN) (A:List Addr) (B H:Hp) (σ:St) (s:SS) (r:RR α) (Q : β->Hp->Prop),bz G A B H σ s->m s=some r->ROk G A B σ W Rl Q r->t σ H Q
abbrev NE(W:WX)(t:TE)(m:EN):Prop:=NM W d7 t m
abbrev NT(W:WX)(t:TT)(m:MN Bool):Prop:=NM W (λ_ _ (b c:Bool)=>b=c) t m
abbrev NA(W:WX)(t:TA)(m:MN (List SV)):Prop:=NM W b9 t m
section
variable{W:WX}{G:FrN}{A:List Addr}{B H:Hp}{σ:St}{s:SS}
theorem ROk.up(q:ROk G A B σ W Rl Q r)(g:Gro A A1)(e:aG B B1):ROk G A1 B1 σ W Rl Q r:=by
 cases r with
 |ok v s'=>exact λx A' B' H' g' e'=>q x A' B' H' (g.trans g') (e.trans e')
 |er y s'=>exact q
theorem eE(h:NM W Rl t m)(R:bz G A B H σ s)(e:bN m k s=some r)(q:ROk G A B σ W Rl' Q r)
  (c:∀x v A' B' H' s',Gro A A'->aG B B'->bz G A' B' H' σ s'->Rl A' B' x v->k v s'=some r->ROk G A' B' σ W Rl' Q r->C x H'):t σ H C:=by
 unfold bN at e;split at e
 ·rename_i v s' h1
  exact h G A B H σ s _ C R h1 λx A' B' H' g eB R' V=>c x v A' B' H' s' g eB R' V e (q.up g eB)
 ·rename_i y s' h1
  cases e;exact h G A B H σ s _ C R h1 q
 ·cases e
def newD(d:D)(s:SS):RR SV:=.ok (.lc s.S.length) ⟨s.S++[some (.dat d)],s.t⟩
def Ks(w:D×Bool)(s:SS):Option (RR SV):=match w with
 |(d,false)=>some (.ok (.pl d) s)
 |(.tuple ds,true)=>some (.ok (.pl (.tuple ds)) s)
 |(d,true)=>some (newD d s)
end
section
variable{W:WX}
def nO(m:PM):EN:=λs=>(m (vw s)).bind λx=>match x.1 with
 |(d,.fz)=>if eQ d=true then some (.ok (.pl d) s)else none
 |(d,.new)=>if fB d true=true then some (newD d s)else none
 |_=>none
theorem eF(h:ME t m):NE W t (nO m):=by
 intro G A B H σ s r Q R e q;obtain⟨x,e1,e⟩:=zaa e;refine h _ H H σ (vw s) x.1 x.2 _ R.opn e1 λv B1 H1 E1 R1 V1 N1=>?_
 obtain⟨R2,eB,eH,kt⟩:=R.back R1;obtain⟨⟨d,k⟩,ρ1⟩:=x;cases k with
 |fz=>
  dsimp only at e;split at e
  ·rename_i hp
   cases e;have V1':Rep B1 v d:=V1;exact q v A _ H1 (Gro.refl _) eB R2 (.pl (V1'.d4 kt hp))
  ·cases e
 |new=>
  dsimp only at e;split at e
  ·rename_i hp
   cases e;obtain⟨p,rfl,hB,hF,ow,_⟩:=V1;have hF':H p=none:=hF;obtain⟨g1,g2,g3⟩:=R.se hF';have ow':=ow.d4 kt hp;obtain⟨o,ho,mo⟩:=ow'.mx;have hB2:tbu B H1 p=none:=by
    cases h2:tbu B H1 p with
    |none=>rfl
    |some o'=>
     rcases pJ h2 with h3|⟨_,xs,rfl,h3⟩
     ·rw[g3]at h3;cases h3
     ·exact absurd h3 (ow.md xs)
   have R3:=R2.take (c:=.dat d) g1 g2 hB2 ho mo (.dat ow');refine q _ _ _ H1 (Gro.app _ _) eB R3 (.lc ?_);rw[<-R.st.len];exact List.getElem?_concat_length
  ·cases e
 |ro=>cases e
 | «at» j=>cases e
def nTo(m:Rho->Option (Bool×Rho)):MN Bool:=λs=>(m (vw s)).map λx=>.ok x.1 s
theorem oN(h:MT t m):NT W t (nTo m):=by
 intro G A B H σ s r Q R e q;obtain⟨x,e1,e⟩:=zab e;cases e;refine h _ H H σ (vw s) x.1 x.2 _ R.opn e1 λB1 H1 E1 R1=>?_
 obtain⟨R2,eB,eH,kt⟩:=R.back R1;exact q _ A _ H1 (Gro.refl _) eB R2 rfl
def bw(i:Nat):EN:=λs=>match s.t[i]? with
 |some (some x)=>some (.ok x s)
 |_=>none
theorem aL:NE W (nW i) (bw i):=by
 intro G A B H σ s r Q R e q;unfold bw at e;split at e
 ·rename_i x hx
  cases e;obtain⟨v,h1,h2⟩:=R.slot i _ hx;exact⟨v,h1,q v A B H (Gro.refl _) (aG.refl _) R h2⟩
 ·cases e
def nLit(d:D):EN:=λs=>some (.ok (.pl d) s)
theorem bW(h:∀B,Rep B v d):NE W (tC v) (nLit d):=by
 intro G A B H σ s r Q R e q;cases e;exact q v A B H (Gro.refl _) (aG.refl _) R (.pl (h B))
def ye(a:EN):MN Bool:=bN a λx s=>match x with
 | .pl (.bool b)=>some (.ok b s)
 |_=>none
theorem G4(ha:NE W ta a):NT W (DF ta) (ye a):=by
 intro G A B H σ s r0 Q R e q;refine eE (t:=ta) ha R e q λx v A1 B1 H1 s1 g1 eB1 R1 V1 e1 q1=>?_
 split at e1
 ·cases e1
  cases V1 with
  |pl r=>cases r;exact⟨_,rfl,q1 _ A1 B1 H1 (Gro.refl _) (aG.refl _) R1 rfl⟩
 ·cases e1
theorem LV(ha:NE W ta a):NT W (tB ta) (ye a):=G4 ha
def okB(b:Bool):MN Bool:=λs=>some (.ok b s)
theorem Bg(R:bz G A B H σ s)(e:okB b s=some r)(q:ROk G A B σ W (λ_ _ (b c:Bool)=>b=c) Q r):Q b H:=by
 cases e;exact q b A B H (Gro.refl _) (aG.refl _) R rfl
def nOr(a b:MN Bool):MN Bool:=bN a λx=>if x=true then okB true else b
theorem LW(ha:NT W ta a)(hb:NT W tb b):NT W (tOr ta tb) (nOr a b):=by
 intro G A B H σ s r0 Q R e q;refine eE (t:=ta) ha R e q λx v A1 B1 H1 s1 g1 eB1 R1 V1 e1 q1=>?_
 subst V1
 by_cases h:x=true
 ·rw[if_pos h]at e1⊢;exact Bg R1 e1 q1
 ·rw[if_neg h]at e1⊢;exact hb G A1 B1 H1 σ s1 r0 Q R1 e1 q1
def G5(a:MN Bool):MN Bool:=bN a λx=>okB (!x)
theorem Kt(ha:NT W ta a):NT W (Jw ta) (G5 a):=by
 intro G A B H σ s r0 Q R e q;refine eE (t:=ta) ha R e q λx v A1 B1 H1 s1 g1 eB1 R1 V1 e1 q1=>?_
 subst V1;exact Bg R1 e1 q1
def ixV(S:List (Option Cl))(x:SV)(i:Int):Option SV:=match x with
 | .tp xs=>L2.atI xs i
 | .pl (.tuple ds)=>(L2.atI ds i).map .pl
 | .pl (.list ds)=>(L2.atI ds i).map .pl
 | .lc k=>match S[k]? with
  |some (some (.dat (.list ds)))=>(L2.atI ds i).map .pl
  |some (some (.lst xs))=>L2.atI xs i
  |_=>none
 |_=>none
theorem oO{P : α->β->Prop}(hl:xs.length=ys.length)(h:∀(n:Nat) (y : β),ys[n]?=some y->∃x,xs[n]?=some x/\P x y){i:Int}{y : β}(e:L2.atI ys i=some y):∃x,L2.atI xs i=some x/\P x y:=by
 unfold L2.atI at e⊢;rw[hl];obtain⟨j,e1,e2⟩:=zaa e;obtain⟨x,h1,h2⟩:=h j y e2;exact⟨x,by rw[e1,zai];exact h1,h2⟩
theorem Ku(R:bz G A B H σ s)(hV:d7 A B v x)(e:ixV s.S x i=some y):∃u,d7 A B u y/\∀Q:VK,Q u H->rIx K v (.int i) H Q:=by
 have lst:∀{a:Addr} {xs:List V} {u:V},H a=some (.lst xs)\/Rd H a (.lst xs)->L2.atI xs i=some u->∀Q:VK,Q u H->rIx K (.ref a) (.int i) H Q:=λh h1 Q q=>
  .inl ⟨_,_,_,_,rfl,rfl,.inl (h.elim .inl id),h1,q⟩
 cases x with
 |tp xs=>
  cases hV with
  |tp ht rs=>
   obtain⟨u,h1,h2⟩:=oO rs.length (λn y hy=>rs.get n y hy) e
   exact⟨u,h2,λQ q=>.inr (.inl ⟨_,_,_,_,rfl,rfl,.inl (.inl (R.sub _ _ ht)),h1,q⟩)⟩
 |pl d=>
  cases d with
  |tuple ds=>
   obtain⟨c,e1,rfl⟩:=zab e;cases hV with
   |pl rp=>
    cases rp with
    |tup ht rs=>
     obtain⟨u,h1,h2⟩:=oO rs.length (λn y hy=>rs.get n y hy) e1
     exact⟨u,.pl h2,λQ q=>.inr (.inl ⟨_,_,_,_,rfl,rfl,.inl (.inl (R.sub _ _ ht)),h1,q⟩)⟩
  |list ds=>
   obtain⟨c,e1,rfl⟩:=zab e;cases hV with
   |pl rp=>
    cases rp with
    |lst ht rs=>
     obtain⟨u,h1,h2⟩:=oO rs.length (λn y hy=>rs.get n y hy) e1
     exact⟨u,.pl h2,lst (.inr (fg R.sub ht)) h1⟩
  |_=>cases e
 |lc k=>
  simp only[ixV]at e;cases hV with
  |lc hA=>
   split at e
   ·rename_i ds hk
    obtain⟨c,e1,rfl⟩:=zab e;cases R.st.cell k _ _ hk hA with
    |dat ow=>
     obtain⟨xs,hp,rs⟩:=ow.list;obtain⟨u,h1,h2⟩:=oO rs.length (λn y hy=>rs.get n y hy) e1
     exact⟨u,.pl h2,lst (.inl hp) h1⟩
   ·rename_i xs hk
    cases R.st.cell k _ _ hk hA with
    |lst hp rs=>
     obtain⟨u,h1,h2⟩:=oO rs.length (λn y hy=>rs.get n y hy) e
     exact⟨u,h2,lst (.inl hp) h1⟩
   ·cases e
def nIx(a b:EN):EN:=bN a λx=>bN b λy s=>match y with
 | .pl (.int i)=>(ixV s.S x i).map λz=>.ok z s
 |_=>none
theorem fD(ha:NE W ta a)(hb:NE W tb b):NE W (tOp (rIx K) ta tb) (nIx a b):=by
 intro G A B H σ s r0 Q R e q;refine eE (t:=ta) ha R e q λx v A1 B1 H1 s1 g1 eB1 R1 V1 e1 q1=>?_
 refine eE (t:=tb) hb R1 e1 q1 λy u A2 B2 H2 s2 g2 eB2 R2 V2 e2 q2=>?_
 split at e2
 ·obtain⟨z,e3,e4⟩:=zab e2
  cases e4;cases V2 with
  |pl rp=>
   cases rp;obtain⟨w,h1,h2⟩:=Ku (K:=K) R2 (V1.mono g2 eB2) e3;exact h2 Q (q2 w A2 B2 H2 (Gro.refl _) (aG.refl _) R2 h1)
 ·cases e2
def cu:MN (List SV):=λs=>some (.ok [] s)
theorem bT:NA W vy cu:=by
 intro G A B H σ s rs Q R e q;cases e;exact q [] A B H (Gro.refl _) (aG.refl _) R .nil
def aP(a:EN)(m:MN (List SV)):MN (List SV):=bN a λx=>bN m λxs s=>some (.ok (x::xs) s)
theorem aJ(ha:NE W ta a)(hr:NA W tr m):NA W (ie ta tr) (aP a m):=by
 intro G A B H σ s r0 Q R e q;refine eE (t:=ta) ha R e q λx v A1 B1 H1 s1 g1 eB1 R1 V1 e1 q1=>?_
 refine eE (t:=tr) hr R1 e1 q1 λy u A2 B2 H2 s2 g2 eB2 R2 V2 e2 q2=>?_
 cases e2;exact q2 _ A2 B2 H2 (Gro.refl _) (aG.refl _) R2 (.cons (V1.mono g2 eB2) V2)
def iM:List SV->Option (List D)
 | []=>some []
 | .pl d::xs=>(iM xs).map λds=>d::ds
 |_=>none
theorem kj:∀{vs:List V} {xs:List SV} {ds:List D},b9 A B vs xs->iM xs=some ds->aY B vs ds
 |_,_,ds,.nil,e=>by
  simp only[iM]at e;cases e;exact .nil
 |_,_,ds,.cons (x:=x) a b,e=>by
  cases x with
  |pl d=>
   simp only[iM]at e;obtain⟨ds',e1,rfl⟩:=zab e;cases a with
   |pl r=>exact .cons r (kj b e1)
  |lc k=>simp[iM]at e
  |tp k=>simp[iM]at e
def mkT(xs:List SV):SV:=match iM xs with
 |some ds=>.pl (.tuple ds)
 |none=>.tp xs
theorem G6(h:B t=some (.tup vs))(r:b9 A B vs xs):d7 A B (.ref t) (mkT xs):=by
 unfold mkT;split
 ·rename_i ds e;exact .pl (.tup h (kj r e))
 ·exact .tp h r
def kn(m:MN (List SV)):EN:=bN m λxs s=>cIf (xs.length<=sizeLine) (some (.ok (mkT xs) s)) none
theorem f9(h:NA W t m):NE W (Gk t) (kn m):=by
 intro G A B H σ s r0 Q R e q;refine eE (t:=t) h R e q λvs xs A1 B1 H1 s1 g1 eB1 R1 V1 e1 q1=>?_
 obtain⟨hz,e1⟩:=df e1;cases e1;refine⟨by rw[V1.length];exact hz,λp hp=>?_⟩
 obtain⟨R2,eB2⟩:=R1.tP (xs:=vs) hp;exact q1 _ A1 _ _ (Gro.refl _) eB2 R2 (G6 aB (V1.mono (Gro.refl _) eB2))
def mkL(xs:List SV):Cl:=match iM xs with
 |some ds=>.dat (.list ds)
 |none=>.lst xs
def LX(c:Cl)(s:SS):RR SV:=.ok (.lc s.S.length) ⟨s.S++[some c],s.t⟩
theorem EF{s:SS}{c:Cl}{p:Addr}{o:HO}{Q:VK}(R:bz G A B H σ s)(hp:H p=none)(mo:Mx o)(ok:∀H',H' p=some o->fM (A++[p]) B H' p c)(q:ROk G A B σ W d7 Q (LX c s)):Q (.ref p) (upd H p o):=by
 obtain⟨g1,g2,g3⟩:=R.se hp;have eH:aG H (upd H p o):=λq u h=>by rw[ax (λz=>by rw[z,hp]at h;cases h)];exact h
 have R2:bz G A B (upd H p o) σ s:=R.grow (aG.refl _) eH (R.sub.trans eH) (λ_ _ z=>z) (λq xs h=>by
  by_cases z:q=p
  ·subst z;rw[aB]at h;cases h;cases mo
  ·rw[ax z]at h;exact R.cW q xs h) λq u w h=>by
  by_cases z:q=p
  ·subst z;rw[aB]at h;cases h;cases mo
  ·rw[ax z]at h;exact R.nz q u w h
 have R3:=R2.take (c:=c) g1 g2 g3 aB mo (ok _ aB);exact q _ _ _ _ (Gro.app _ _) (aG.refl _) R3 (.lc (by rw[<-R.st.len];exact List.getElem?_concat_length))
def EG(m:MN (List SV)):EN:=bN m λxs s=>cIf (xs.length<=sizeLine) (some (LX (mkL xs) s)) none
theorem EH(h:NA W t m):NE W (JJ t) (EG m):=by
 intro G A B H σ s r0 Q R e q;refine eE (t:=t) h R e q λvs xs A1 B1 H1 s1 g1 eB1 R1 V1 e1 q1=>?_
 obtain⟨hz,e1⟩:=df e1;cases e1;refine⟨by rw[V1.length];exact hz,λp hp=>EF R1 hp trivial (λH' h'=>?_) q1⟩
 unfold mkL;split
 ·rename_i ds ea;exact .dat (.lst h' (kj V1 ea))
 ·exact .lst h' (V1.mono (Gro.app _ _) (aG.refl _))
structure yf(A:List Addr)(B H:Hp)(A':List Addr)(B' H':Hp)(S':List (Option Cl))(v:V)(r:SV):Prop where
 gro:Gro A A'
 eB:aG B B'
 sub:aG B' H'
 tB:∀q xs,H' q=some (.tup xs)->B' q=some (.tup xs)
 kept:∀q o,H q=some o->q∉A->H' q=some o
 nb:∀q,H q≠none->B q=none->B' q=none
 fresh:∀a∈A',a∈A\/H a=none
 st:StO A' B' H' S'
 nz:∀q o u,H' q=some (.frz o u)->∃o0 u0,H q=some (.frz o0 u0)
 val:d7 A' B' v r
inductive FR where
 |ok (r:SV) (S:List (Option Cl))|er (x:Xc) (S:List (Option Cl))
abbrev FN:=List (Option Cl)->List SV->Option FR
def spS(f:FN):Sp:=λvs H Q E=>∃A B S xs w,aG B H/\(∀q xs,H q=some (.tup xs)->B q=some (.tup xs))/\StO A B H S/\b9 A B vs xs/\f S xs=some w/\
 match w with
 | .ok r S'=>∀v A' B' H',yf A B H A' B' H' S' v r->Q v H'
 | .er x S'=>∀A' B' H',yf A B H A' B' H' S' .non (.pl .none)->E (Zl.cl x.c) none H'
def spQ(f:FN):Sp:=λvs H Q _=>spS f vs H Q E0
theorem bz.post(R:bz G A B H σ s)(P:yf A B H A' B' H' S' v r):bz G A' B' H' σ ⟨S',s.t⟩:=by
 refine⟨P.sub,R.sB.trans P.eB,P.tB,λq o h n=>?_,λq h z=>?_,R.pre.trans P.gro,λa ha=>?_,P.st,R.len,λi x h=>?_,λq o u h=>?_⟩
 ·refine P.kept q o (R.kept q o h n) λhq=>?_
  rcases R.fresh q hq with h1|h1
  ·exact n h1
  ·rw[h1]at h;cases h
 ·refine P.nb q (λhq=>?_) (R.nB q h z)
  have:=(R.se hq).1;exact h this
 ·rcases P.fresh a ha with h|h
  ·exact R.fresh a h
  ·exact .inr (R.se h).1
 ·obtain⟨w,h1,h2⟩:=R.slot i x h
  exact⟨w,h1,h2.mono P.gro P.eB⟩
 ·obtain⟨o0,u0,h0⟩:=P.nz q o u h
  exact R.nz q o0 u0 h0
def frR(w:FR)(t:List (Option SV)):RR SV:=match w with
 | .ok r S=>.ok r ⟨S,t⟩
 | .er x S=>.er x ⟨S,t⟩
def lT(f:FN)(m:MN (List SV)):EN:=bN m λxs s=>(f s.S xs).map λw=>frR w s.t
theorem EI{σ:St}{s:SS}{vs:List V}{xs:List SV}{r0:RR SV}{Q:VK}{E:XK}(R:bz G A B H σ s)(V:b9 A B vs xs)(e:((f s.S xs).map λw=>frR w s.t)=some r0)(q:ROk G A B σ W d7 Q r0)
  (hw:∀x H',W x σ H'->E (Zl.cl x.c) none H'):spS f vs H Q E:=by
 obtain⟨w,e2,e3⟩:=zab e;refine⟨A,B,s.S,xs,w,R.sub,R.cW,R.st,V,e2,?_⟩;cases w with
 |ok r S'=>
  cases e3;exact λv A' B' H' P=>q v A' B' H' P.gro P.eB (R.post P) P.val
 |er x S'=>
  cases e3;exact λA' B' H' P=>hw x H' (q A' B' H' (R.post P))
theorem G7(hw:∀x σ H',W x σ H'->E (Zl.cl x.c) none H')(h:NA W t m):NE W (jc (spS f) [] E t) (lT f m):=by
 intro G A B H σ s r0 Q R e q;refine eE (t:=t) h R e q λvs xs A1 B1 H1 s1 g1 eB1 R1 V1 e1 q1=>?_
 rw[zaR];exact EI R1 V1 e1 q1 λx H'=>hw x σ H'
def W0:WX:=λ_ _ _=>False
theorem il(h:NA W0 t m):NE W0 (jc (spQ f) [] E0 t) (lT f m):=G7 (λ_ _ _ z=>z.elim) h
end
inductive iF where
 |nx (s:SS)|rt (r:SV) (s:SS)|bk (s:SS)|ct (s:SS)|er (x:Xc) (s:SS)
abbrev SN:=SS->Option iF
def NOk(G:FrN)(W:WX)(D:Ends):iF->Prop
 | .nx s=>∀A B H σ,bz G A B H σ s->D.nx σ H
 | .rt r s=>∀v A B H σ,bz G A B H σ s->d7 A B v r->D.rt v H
 | .bk s=>∀A B H σ,bz G A B H σ s->D.bk σ H
 | .ct s=>∀A B H σ,bz G A B H σ s->D.ct σ H
 | .er x s=>∀A B H σ,bz G A B H σ s->W x σ H
def NS(W:WX)(t:TS)(m:SN):Prop:=∀(G:FrN) (A:List Addr) (B H:Hp) (σ:St) (s:SS) (o:iF) (D:Ends),bz G A B H σ s->m s=some o->NOk G W D o->t D σ H
def bS{α:Type}(m:MN α)(k : α->SN):SN:=λs=>match m s with
 |some (.ok v s')=>k v s'
 |some (.er x s')=>some (.er x s')
 |none=>none
section
variable{W:WX}
theorem pK{k : α->SN}{G:FrN}{A:List Addr}{B H:Hp}{σ:St}{s:SS}{o:iF}{D:Ends}{C : β->Hp->Prop}(h:NM W Rl t m)(R:bz G A B H σ s)(e:bS m k s=some o)(q:NOk G W D o)
  (c:∀x v A' B' H' s',bz G A' B' H' σ s'->Rl A' B' x v->k v s'=some o->C x H'):t σ H C:=by
 unfold bS at e;split at e
 ·rename_i v s' h1
  exact h G A B H σ s _ C R h1 λx A' B' H' g eB R' V=>c x v A' B' H' s' R' V e
 ·rename_i y s' h1
  cases e;exact h G A B H σ s _ C R h1 λA' B' H' R'=>q A' B' H' σ R'
 ·cases e
def bX(a b:SN):SN:=λs=>match a s with
 |some (.nx s')=>b s'
 |o=>o
theorem aZ(ha:NS W t a)(hb:NS W u b):NS W (Cb t u) (bX a b):=by
 intro G A B H σ s o D R e q;unfold bX at e;split at e
 ·rename_i s' e1
  exact ha G A B H σ s _ _ R e1 λA' B' H' σ' R'=>hb G A' B' H' σ' s' o D R' e q
 ·rename_i o' hn
  refine ha G A B H σ s o _ R e ?_;cases o with
  |nx s'=>exact absurd e (hn s')
  |rt r s'=>exact q
  |bk s'=>exact q
  |ct s'=>exact q
  |er x s'=>exact q
def iN:SN:=λs=>some (.nx s)
theorem fk:NS W AG iN:=by
 intro G A B H σ s o D R e q;cases e;exact q A B H σ R
def jW(a:EN):SN:=bS a λx s=>some (.rt x s)
theorem eV(ha:NE W t a):NS W (Dw t) (jW a):=by
 intro G A B H σ s o D R e q;refine pK (t:=t) ha R e q λx v A' B' H' s' R' V' e1=>?_
 cases e1;exact q x A' B' H' σ R' V'
def iO(a:EN):SN:=bS a λ_ s=>some (.nx s)
theorem fU(ha:NE W t a):NS W (xr t) (iO a):=by
 intro G A B H σ s o D R e q;refine pK (t:=t) ha R e q λx v A' B' H' s' R' V' e1=>?_
 cases e1;exact q A' B' H' σ R'
def kq(c:MN Bool)(a b:SN):SN:=bS c λx=>if x=true then a else b
theorem ku(hc:NT W tc c)(ha:NS W t a)(hb:NS W u b):NS W (Dx tc t u) (kq c a b):=by
 intro G A B H σ s o D R e q;refine pK (t:=tc) hc R e q λx v A' B' H' s' R' V' e1=>?_
 subst V'
 by_cases h:x=true
 ·rw[if_pos h]at e1⊢;exact ha G A' B' H' σ s' o D R' e1 q
 ·rw[if_neg h]at e1⊢;exact hb G A' B' H' σ s' o D R' e1 q
def NG(W:WX)(g:TG)(mg:SV->SN):Prop:=∀(G:FrN) (A:List Addr) (B H:Hp) (σ:St) (s:SS) (v:V) (x:SV) (o:iF) (D:Ends),bz G A B H σ s->d7 A B v x->mg x s=some o->NOk G W D o->g v σ H D.nx
def ngN(i:Nat):SV->SN:=λx s=>if i<s.t.length then some (.nx ⟨s.S,s.t.set i (some x)⟩)else none
theorem bx:NG W (rF i) (ngN i):=λG A B H σ s v x o D R rv e q=>by
 unfold ngN at e;split at e
 ·rename_i h;cases e;exact q A B H _ (R.set h rv)
 ·cases e
def NGs(g:TGs)(mg:List SV->SS->Option SS):Prop:=∀(G:FrN) (A:List Addr) (B H:Hp) (σ:St) (s:SS) (vs:List V) (xs:List SV) (s':SS) (Q:St->Hp->Prop),bz G A B H σ s->b9 A B vs xs->mg xs s=some s'->(∀σ',bz G A B H σ' s'->Q σ' H)->g vs σ H Q
def zS:List SV->SS->Option SS:=λxs s=>match xs with
 | []=>some s
 |_=>none
def jD(i:Nat)(gs:List SV->SS->Option SS):List SV->SS->Option SS:=λxs s=>match xs with
 |x::xs=>if i<s.t.length then gs xs ⟨s.S,s.t.set i (some x)⟩else none
 |_=>none
theorem Bh:NGs Jx zS:=λG A B H σ s vs xs s' Q R rv e q=>by
 cases rv with
 |nil=>cases e;exact⟨rfl,q σ R⟩
 |cons _ _=>cases e
theorem kz(hs:NGs gs ms):NGs (Dz (rF i) gs) (jD i ms):=λG A B H σ s vs xs s' Q R rv e q=>by
 cases rv with
 |nil=>cases e
 |cons r rs=>
  simp only[jD]at e;split at e
  ·rename_i h
   exact⟨_,_,rfl,hs G A B H _ _ _ _ s' Q (R.set h r) rs e fun σ2 R2=>q σ2 R2⟩
  ·cases e
theorem aY.plV:∀{vs:List V} {ds:List D},aY B vs ds->b9 A B vs (ds.map .pl)
 |_,_,.nil=>.nil
 |_,_,.cons a b=>.cons (.pl a) (aY.plV b)
def tS(S:List (Option Cl)):SV->Option (List SV)
 | .tp xs=>some xs
 | .pl (.tuple ds)=>some (ds.map .pl)
 | .pl (.list ds)=>some (ds.map .pl)
 | .lc k=>match S[k]? with
  |some (some (.dat (.list ds)))=>some (ds.map .pl)
  |some (some (.lst xs))=>some xs
  |_=>none
 |_=>none
theorem EJ(R:bz G A B H σ s)(h:d7 A B v x)(e:tS s.S x=some xs):∃t vs,v=.ref t/\(SqT K H t vs\/SqL K H t vs)/\b9 A B vs xs:=by
 cases x with
 |lc k=>
  simp only[tS]at e;cases h with
  |lc hA=>
   split at e
   ·rename_i ds hk
    cases e;cases R.st.cell k _ _ hk hA with
    |dat ow=>
     obtain⟨ys,hp,rs⟩:=ow.list;exact⟨_,_,rfl,.inr (SqL.of hp),rs.plV⟩
   ·rename_i ys hk
    cases e;cases R.st.cell k _ _ hk hA with
    |lst hp rs=>exact⟨_,_,rfl,.inr (SqL.of hp),rs⟩
   ·cases e
 |tp ys=>cases e;cases h with|tp h1 h2=>exact⟨_,_,rfl,.inl (.inl (.inl (R.sub _ _ h1))),h2⟩
 |pl d=>
  cases d with
  |tuple ds=>cases e;cases h with|pl r=>cases r with|tup h1 h2=>exact⟨_,_,rfl,.inl (.inl (.inl (R.sub _ _ h1))),h2.plV⟩
  |list ds=>cases e;cases h with|pl r=>cases r with|lst h1 h2=>exact⟨_,_,rfl,.inr (.inl (fg R.sub h1)),h2.plV⟩
  |_=>cases e
def ngT(n:Nat)(ms:List SV->SS->Option SS):SV->SN:=λx s=>(tS s.S x).bind λxs=>if xs.length=n then(ms xs s).map .nx else none
theorem Bi(h:NGs gs ms):NG W (DT K n gs) (ngT n ms):=λG A B H σ s v x o D R rv e q=>by
 obtain⟨xs,e1,e⟩:=zaa e;obtain⟨t,vs,rfl,h1,h2⟩:=EJ (K:=K) R rv e1;split at e
 ·rename_i hn
  obtain⟨s2,e2,e3⟩:=zab e;cases e3;exact⟨_,_,rfl,h1,by rw[h2.length];exact hn,h G A B H σ s _ _ s2 _ R h2 e2 fun σ' R'=>q A B H σ' R'⟩
 ·cases e
def dO(a:EN)(g:SV->SN):SN:=bS a g
theorem cn(ha:NE W t a)(hg:NG W tg g):NS W (Cc t tg) (dO a g):=by
 intro G A B H σ s o D R e q;exact pK (t:=t) ha R e q λx v A' B' H' s' R' V' e1=>hg G A' B' H' σ s' x v o D R' V' e1 q
theorem b9.set(r:d7 A B x c):∀{v:List V} {d:List SV} (i:Nat),b9 A B v d->b9 A B (v.set i x) (d.set i c)
 |_,_,_,.nil=>.nil
 |_,_,0,.cons _ b=>.cons r b
 |_,_,i+1,.cons a b=>.cons a (b9.set r i b)
def iG(kp:List Nat)(c:MN Bool)(b:SN):Nat->SN
 |0=>λ_=>none
 |n+1=>bS c λx s=>if x=true then(match b s with
   |some (.nx s')=>iG kp c b n (gcE s.S.length kp s')
   |some (.ct s')=>iG kp c b n (gcE s.S.length kp s')
   |some (.bk s')=>some (.nx s')
   |some (.rt r s')=>some (.rt r s')
   |some (.er x s')=>some (.er x s')
   |none=>none)
  else some (.nx s)
theorem IK(R:bz G A B H σ s):G.io.length<=s.S.length:=by rw[<-R.st.len];exact R.pre.len
theorem EK(hc:NT W tc c)(hb:NS W tb b):NS W (zr tc tb) (iG kp c b n):=by
 intro G A B H σ s o D R e q;refine⟨λm σ H=>∃A B s,bz G A B H σ s/\iG kp c b m s=some o,⟨n,A,B,s,R,e⟩,?_⟩
 rintro m σ1 H1 ⟨A1,B1,s1,R1,e1⟩
 cases m with
 |zero=>cases e1
 |succ m=>
  refine pK (t:=tc) hc R1 e1 q λx v A2 B2 H2 s2 R2 V2 e2=>?_
  subst V2
  by_cases h:x=true
  ·rw[if_pos h]at e2⊢
   refine⟨fun σ' H'=>∃A' B' s',bz G A' B' H' σ' s'/\iG kp c b m s'=some o,fun σ' H' h'=>⟨m,Nat.lt_succ_self _,h'⟩,?_⟩
   split at e2
   ·rename_i s' e4;exact hb G A2 B2 H2 σ1 s2 _ _ R2 e4 λA' B' H' σ' R'=>(let⟨A3,R3⟩:=R'.gcE (IK R2);⟨A3,B',_,R3,e2⟩)
   ·rename_i s' e4;exact hb G A2 B2 H2 σ1 s2 _ _ R2 e4 λA' B' H' σ' R'=>(let⟨A3,R3⟩:=R'.gcE (IK R2);⟨A3,B',_,R3,e2⟩)
   ·rename_i s' e4;cases e2;exact hb G A2 B2 H2 σ1 s2 _ _ R2 e4 q
   ·rename_i r s' e4;cases e2;exact hb G A2 B2 H2 σ1 s2 _ _ R2 e4 q
   ·rename_i r s' e4;cases e2;exact hb G A2 B2 H2 σ1 s2 _ _ R2 e4 q
   ·cases e2
  ·rw[if_neg h]at e2⊢
   cases e2;exact q A2 B2 H2 σ1 R2
def gu(n:Nat)(kp:List Nat)(ok:SS->Prop)(g:SV->SN)(b:SN):List SV->SN
 | []=>λs=>cIf (ok s) (some (.nx s)) none
 |d::ds=>λs=>cIf (ok s) (match g d s with
   |some (.nx s1)=>(match b s1 with
    |some (.nx s')=>gu n kp ok g b ds (gcE n kp s')
    |some (.ct s')=>gu n kp ok g b ds (gcE n kp s')
    |some (.bk s')=>some (.nx s')
    |some (.rt r s')=>some (.rt r s')
    |some (.er x s')=>some (.er x s')
    |none=>none)
   |_=>none) none
theorem bz.down(R1:bz G A1 B1 H1 σ1 s1)(R:bz ⟨B1,H1,A1,G.Z⟩ A B H σ s):bz G A B H σ s:=by
 refine⟨R.sub,R1.sB.trans R.sB,R.cW,λq o h n=>R.kept q o (R1.kept q o h n) λhq=>?_,λq h z=>R.nB q (λhq=>h (R1.se hq).1) (R1.nB q h z),R1.pre.trans R.pre,λa ha=>?_,R.st,R.len,R.slot,R.nz⟩
 ·rcases R1.fresh q hq with h1|h1
  ·exact n h1
  ·rw[h1]at h;cases h
 ·rcases R.fresh a ha with h|h
  ·exact R1.fresh a h
  ·exact .inr (R1.se h).1
theorem bz.up(R1:bz G A1 B1 H1 σ1 s1):bz ⟨B1,H1,A1,G.Z⟩ A1 B1 H1 σ1 s1 :=
 ⟨R1.sub,aG.refl _,R1.cW,λ_ _ h _=>h,λ_ _ z=>z,Gro.refl _,λ_ h=>.inl h,R1.st,R1.len,R1.slot,R1.nz⟩
theorem NOk.up{s1:SS}(R1:bz G A1 B1 H1 σ1 s1){D:Ends}{o:iF}(h:NOk G W D o):NOk ⟨B1,H1,A1,G.Z⟩ W D o:=by
 cases o with
 |nx s=>exact λA B H σ R=>h A B H σ (R1.down R)
 |bk s=>exact λA B H σ R=>h A B H σ (R1.down R)
 |ct s=>exact λA B H σ R=>h A B H σ (R1.down R)
 |rt r s=>exact λv A B H σ R V=>h v A B H σ (R1.down R) V
 |er x s=>exact λA B H σ R=>h A B H σ (R1.down R)
def Kv(A:List Addr)(B H:Hp)(x:V)(H':Hp)(y:SV):Prop:=(H'=H/\d7 A B x y)\/∃p xs cs,y=.pl (.tuple cs)/\x=.ref p/\H p=none/\H'=upd H p (.tup xs)/\aY B xs cs
theorem wb{b:SN}{ok:SS->Prop}{G:FrN}{J:It}{ds:List SV}{A1:List Addr}{B1 H1:Hp}{σ1:St}{s1:SS}{W0:Ends}{o:iF}
  (hg:NG W tg g) (hb:NS W tb b) (R1:bz G A1 B1 H1 σ1 s1) (e:gu s1.S.length kp ok g b ds s1=some o) (q:NOk G W W0 o)
  (I:∀A B H σ s,bz ⟨B1,H1,A1,G.Z⟩ A B H σ s->ok s->J.stop ds.length H/\∀(i:Nat) (d:SV),ds[i]?=some d->J.go i H/\∀x H',J.yld i H x H'->Kv A B H x H' d) :
  ∃W:Nat->Nat->St->Hp->Prop,(∃m,W 0 m σ1 H1)/\∀i m σ H,W i m σ H->
   (J.stop i H/\W0.nx σ H)\/(J.go i H/\∃N:St->Hp->Prop,(∀σ' H',N σ' H'->∃m',m'<m/\W (i+1) m' σ' H')/\∀x H',J.yld i H x H'->tg x σ H' fun σ2 H2=>tb {W0 with nx:=N,ct:=N,bk:=W0.nx} σ2 H2):=by
 have q':=q.up R1;have hio:(FrN.mk B1 H1 A1 G.Z).io.length<=s1.S.length:=Nat.le_of_eq R1.st.len;refine⟨λi m σ H=>m=ds.length-i/\i<=ds.length/\∃A B s,bz ⟨B1,H1,A1,G.Z⟩ A B H σ s/\gu s1.S.length kp ok g b (ds.drop i) s=some o,⟨ds.length,rfl,Nat.zero_le _,A1,B1,s1,R1.up,e⟩,?_⟩
 rintro i m σ2 H2 ⟨rfl,hil,A2,B2,s2,R2,e2⟩
 by_cases hlt:i<ds.length
 ·refine .inr ?_
  rw[zbb hlt]at e2;obtain⟨hok,e2⟩:=df (show cIf (ok s2) _ none=some o from e2);obtain⟨go,yl⟩:=(I A2 B2 H2 σ2 s2 R2 hok).2 i ds[i] (zaC hlt);refine⟨go,fun σ' H'=>∃A' B' s',bz ⟨B1,H1,A1,G.Z⟩ A' B' H' σ' s'/\gu s1.S.length kp ok g b (ds.drop (i+1)) s'=some o,fun σ' H' h'=>⟨ds.length-(i+1),by omega,rfl,hlt,h'⟩,λy H3 hy=>?_⟩
  have had:∃B3,bz ⟨B1,H1,A1,G.Z⟩ A2 B3 H3 σ2 s2/\d7 A2 B3 y ds[i]:=by
   rcases yl y H3 hy with⟨rfl,h2⟩|⟨p,xs,cs,h1,rfl,h3,rfl,h5⟩
   ·exact⟨B2,R2,h2⟩
   ·obtain⟨R3,e3⟩:=R2.tP (xs:=xs) h3
    exact⟨_,R3,by rw[h1];exact .pl (.tup aB (h5.mono e3))⟩
  obtain⟨B3,R3,rp⟩:=had;split at e2
  ·rename_i s3 e3
   refine hg _ A2 B3 H3 σ2 s2 y ds[i] (.nx s3) ⟨fun σ2 H2=>tb {W0 with nx:=fun σ' H'=>∃A' B' s',bz ⟨B1,H1,A1,G.Z⟩ A' B' H' σ' s'/\gu s1.S.length kp ok g b (ds.drop (i+1)) s'=some o,ct:=fun σ' H'=>∃A' B' s',bz ⟨B1,H1,A1,G.Z⟩ A' B' H' σ' s'/\gu s1.S.length kp ok g b (ds.drop (i+1)) s'=some o,bk:=W0.nx} σ2 H2,W0.rt,W0.bk,W0.ct⟩ R3 rp e3 λA4 B4 H4 σ4 R4=>?_
   split at e2
   ·rename_i s' e5;exact hb _ A4 B4 H4 σ4 s3 _ _ R4 e5 λA' B' H' σ' R'=>(let⟨A3,R3⟩:=R'.gcE hio;⟨A3,B',_,R3,e2⟩)
   ·rename_i s' e5;exact hb _ A4 B4 H4 σ4 s3 _ _ R4 e5 λA' B' H' σ' R'=>(let⟨A3,R3⟩:=R'.gcE hio;⟨A3,B',_,R3,e2⟩)
   ·rename_i s' e5;cases e2;exact hb _ A4 B4 H4 σ4 s3 _ _ R4 e5 q'
   ·rename_i r s' e5;cases e2;exact hb _ A4 B4 H4 σ4 s3 _ _ R4 e5 q'
   ·rename_i r s' e5;cases e2;exact hb _ A4 B4 H4 σ4 s3 _ _ R4 e5 q'
   ·cases e2
  ·cases e2
 ·have hi':i=ds.length:=by omega
  subst hi';rw[List.drop_length]at e2;obtain⟨hok,e2⟩:=df (show cIf (ok s2) _ none=some o from e2);cases e2;exact .inl ⟨(I A2 B2 H2 σ2 s2 R2 hok).1,q' A2 B2 H2 σ2 R2⟩
theorem G8(h:xM B H x H' d):Kv A B H x H' (.pl d):=by
 rcases h with⟨h1,h2⟩|⟨p,xs,cs,h1,h2,h3,h4,h5⟩
 ·exact .inl ⟨h1,.pl h2⟩
 ·exact .inr ⟨p,xs,cs,by rw[h1],h2,h3,h4,h5⟩
theorem xM.mono(h:xM B H x H' d)(e:aG B B'):xM B' H x H' d:=by
 rcases h with⟨h1,h2⟩|⟨p,xs,cs,h1,h2,h3,h4,h5⟩
 ·exact .inl ⟨h1,h2.mono e⟩
 ·exact .inr ⟨p,xs,cs,h1,h2,h3,h4,h5.mono e⟩
theorem zT{ds:List D}{i:Nat}(h:(ds.map SV.pl)[i]?=some x):∃d,ds[i]?=some d/\x=.pl d:=by
 rw[zao]at h;obtain⟨d,h1,h2⟩:=zab h;exact⟨d,h1,h2.symm⟩
def EL(kp:List Nat)(it:Rho->Option (List D×Rho))(g:SV->SN)(b:SN):SN:=λs=>(it (vwC s)).bind λx=>gu s.S.length kp (λ_=>True) g b (x.1.map .pl) s
theorem EO(hi:MF ti it)(hg:NG W tg g)(hb:NS W tb b):NS W (DC ti tg tb) (EL kp it g b):=by
 intro G A B H σ s o D R e q;obtain⟨x,e1,e⟩:=zaa e;refine hi _ B H σ (vwC s) x.1 x.2 _ R.cls e1 λJ B1 H1 E1 R1 I1=>?_
 obtain⟨R2,eB,eH⟩:=R.LU R1;refine wb hg hb R2 e q λA' B' H' σ' s' R' _=>?_
 have I2:=I1 H' (R'.sB.trans R'.sub);rw[zal];refine⟨I2.1,λi d hd=>?_⟩
 obtain⟨c,h1,rfl⟩:=zT hd;exact⟨(I2.2 i c h1).1,λy H2 hy=>G8 (((I2.2 i c h1).2 y H2 hy).mono R'.sB)⟩
def stays(k:SV)(xs:List SV)(s:SS):Prop:=tS s.S k=some xs
def sg(kp:List Nat)(a:EN)(g:SV->SN)(b:SN):SN:=bS a λy s=>match y with
 | .lc k=>(tS s.S (.lc k)).bind λxs=>gu s.S.length kp (stays (.lc k) xs) g b xs s
 | .pl (.list ds)=>gu s.S.length kp (λ_=>True) g b (ds.map .pl) s
 |_=>none
theorem Bj(h:SqL K H p xs)(r:b9 A B xs ys):(Itl K p).stop ys.length H/\∀(i:Nat) (d:SV),ys[i]?=some d->(Itl K p).go i H/\∀x H',(Itl K p).yld i H x H'->Kv A B H x H' d:=by
 refine⟨⟨xs,h,by rw[r.length];exact zap _⟩,λi d hd=>?_⟩
 obtain⟨u,h1,h2⟩:=r.get i d hd;refine⟨⟨xs,u,h,h1⟩,λx H' hy=>.inl ⟨hy.1,?_⟩⟩
 have:=hy.2 xs h;rw[h1]at this;cases this;exact h2
theorem rg(ha:NE W te a)(hg:NG W tg g)(hb:NS W tb b):NS W (DC (xu K te) tg tb) (sg kp a g b):=by
 intro G A B H σ s o D R e q;refine pK (t:=te) ha R e q λx v A1 B1 H1 s1 R1 V1 e1=>?_
 split at e1
 ·rename_i k
  obtain⟨xs,e2,e3⟩:=zaa e1;cases V1 with
  | @lc _ p hA=>
   have lst:∀{A':List Addr} {B' H':Hp} {σ':St} {s':SS} {G':FrN},bz G' A' B' H' σ' s'->A'[k]?=some p->tS s'.S (.lc k)=some xs->∃vs,H' p=some (.lst vs)/\b9 A' B' vs xs:=fun{A' B' H' σ' s' G'} R' hA' e'=>by
    simp only[tS]at e';split at e'
    ·rename_i ds hk
     cases e';cases R'.st.cell k _ _ hk hA' with
     |dat ow=>
      obtain⟨ys,hp,rs⟩:=ow.list;exact⟨_,hp,rs.plV⟩
    ·rename_i ys hk
     cases e';cases R'.st.cell k _ _ hk hA' with
     |lst hp rs=>exact⟨_,hp,rs⟩
    ·cases e'
   obtain⟨vs,hp,rs⟩:=lst R1 hA e2;refine⟨_,rfl,⟨vs,SqL.of hp⟩,?_⟩;refine wb hg hb R1 e3 q λA' B' H' σ' s' R' hok=>?_
   obtain⟨vs',hp',rs'⟩:=lst R' (R'.pre k _ hA) hok;exact Bj (SqL.of hp') rs'
 ·rename_i ds
  cases V1 with
  |pl r=>
   cases r with
   |lst hp rs=>
    refine⟨_,rfl,⟨_,.inl (fg R1.sub hp)⟩,?_⟩;refine wb hg hb R1 e1 q λA' B' H' σ' s' R' hok=>?_
    exact Bj (.inl (fg (R'.sB.trans R'.sub) hp)) (rs.mono R'.sB).plV
 ·cases e1
def sh(S:List (Option Cl))(k:Nat):Bool:=match S[k]? with
 |some (some (.dat (.list _)))=>true
 |some (some (.lst _))=>true
 |_=>false
theorem yg(R:bz G A B H σ s)(hA:A[k]?=some a)(e:sh s.S k=true):tyV K "list" (.ref a) H:=by
 unfold sh at e;split at e
 ·rename_i ds hk
  cases R.st.cell k _ _ hk hA with
  |dat ow=>obtain⟨xs,hp,_⟩:=ow.list;exact .inl ⟨rfl,xs,SqL.of hp⟩
 ·rename_i ds hk
  cases R.st.cell k _ _ hk hA with
  |lst hp _=>exact .inl ⟨rfl,_,SqL.of hp⟩
 ·cases e
def yh(a:EN)(m:MN (List SV))(u:Nat->List SV->SS->Option (RR SV)):EN:=bN a λx s=>match x with
 | .lc k=>if sh s.S k=true then bN m (λxs s2=>u k xs s2) s else none
 |_=>none
theorem Bl(ha:NE W te a)(h:NA W t m)
  (hu:∀(G:FrN) (A:List Addr) (B H:Hp) (σ:St) (s:SS) (p:Addr) (k:Nat) (vs:List V) (xs:List SV) (r0:RR SV) (Q:VK),bz G A B H σ s->A[k]?=some p->b9 A B vs xs->u k xs s=some r0->ROk G A B σ W d7 Q r0->r (.ref p) vs H Q):NE W (tBM K "list" r te t) (yh a m u):=by
 intro G A B H σ s r0 Q R e q;refine eE (t:=te) ha R e q λx v A1 B1 H1 s1 g1 eB1 R1 V1 e1 q1=>?_
 split at e1
 ·rename_i k
  split at e1
  ·rename_i hl
   cases V1 with
   |lc hA=>
    refine⟨yg R1 hA hl,?_⟩;refine eE (t:=t) h R1 e1 q1 λvs xs A2 B2 H2 s2 g2 eB2 R2 V2 e2 q2=>?_
    exact hu G A2 B2 H2 σ s2 _ k vs xs r0 Q R2 (g2 _ _ hA) V2 e2 q2
  ·cases e1
 ·cases e1
def ER(f:List D->List D->Option (List D×D))(k:Nat)(xs:List SV)(s:SS):Option (RR SV):=(iM xs).bind λas=>match s.S[k]? with
  |some (some (.dat (.list ds)))=>(f ds as).map λw=>.ok (.pl w.2) ⟨s.S.set k (some (.dat (.list w.1))),s.t⟩
  |_=>none
theorem Bm(J:vR r f)(G:FrN)(A:List Addr)(B H:Hp)(σ:St)(s:SS)(p:Addr)(k:Nat)(vs:List V)(xs:List SV)(r0:RR SV)(Q:VK)(R:bz G A B H σ s)(hA:A[k]?=some p)(hV:b9 A B vs xs)(e:ER f k xs s=some r0)(q:ROk G A B σ W d7 Q r0):r (.ref p) vs H Q:=by
 obtain⟨as,e1,e⟩:=zaa e;split at e
 ·rename_i ds hk
  obtain⟨w,e2,e3⟩:=zab e;cases e3;cases R.st.cell k _ _ hk hA with
  |dat ow=>
   obtain⟨ys,hp,rx⟩:=ow.list;obtain⟨xs',u,rx',ru,hr⟩:=J B H _ ys ds vs as w hp rx R.sub (kj hV e1) e2;have R3:=R.write (o:=.lst xs') (c:=.dat (.list w.1)) hA trivial (.dat (.lst aB rx'));exact hr Q (q u A B _ (Gro.refl _) (aG.refl _) R3 (.pl ru))
 ·cases e
def G9(k:Nat)(xs:List SV)(s:SS):Option (RR SV):=match xs,s.S[k]? with
 | [.pl d],some (some (.dat (.list ds)))=>cIf (ds.length<sizeLine) (some (.ok (.pl .none) ⟨s.S.set k (some (.dat (.list (ds++[d])))),s.t⟩)) none
 | [x],some (some (.dat (.list ds)))=>cIf (ds.length<sizeLine) (some (.ok (.pl .none) ⟨s.S.set k (some (.lst (ds.map .pl++[x]))),s.t⟩)) none
 | [x],some (some (.lst ys))=>cIf (ys.length<sizeLine) (some (.ok (.pl .none) ⟨s.S.set k (some (.lst (ys++[x]))),s.t⟩)) none
 |_,_=>none
theorem b9.append:∀{v w:List V} {d c:List SV},b9 A B v d->b9 A B w c->b9 A B (v++w) (d++c)
 |_,_,_,_,.nil,r=>r
 |_,_,_,_,.cons a b,r=>.cons a (b9.append b r)
theorem Ha(G:FrN)(A:List Addr)(B H:Hp)(σ:St)(s:SS)(p:Addr)(k:Nat)(vs:List V)(xs:List SV)(r0:RR SV)(Q:VK)(R:bz G A B H σ s)(hA:A[k]?=some p)(hV:b9 A B vs xs)(e:G9 k xs s=some r0)(q:ROk G A B σ W d7 Q r0):oA (.ref p) vs H Q:=by
 have go:∀{x:SV} {y:V} {ys:List V} {c:Cl},vs=[y]->H p=some (.lst ys)->ys.length<sizeLine->fM A B (upd H p (.lst (ys++[y]))) p c->r0=.ok (.pl .none) ⟨s.S.set k (some c),s.t⟩->oA (.ref p) vs H Q:=fun{x y ys c} h1 h2 h3 ok er=>by
  subst er h1;exact⟨p,ys,y,rfl,rfl,h2,h3,q .non A B _ (Gro.refl _) (aG.refl _) (R.write (o:=.lst (ys++[y])) hA trivial ok) (.pl .non)⟩
 unfold G9 at e;split at e
 ·rename_i d ds hk
  obtain⟨hz,e⟩:=df e;cases e;cases hV with
  |cons a b=>
   cases b;cases a with
   |pl r=>
    cases R.st.cell k _ _ hk hA with
    |dat ow=>
     obtain⟨ys,hp,rs⟩:=ow.list;exact go (x:=.pl d) rfl hp (by rw[rs.length];exact hz) (.dat (.lst aB (rs.append (.cons r .nil)))) rfl
 ·rename_i x ds _ hk
  obtain⟨hz,e⟩:=df e;cases e;cases hV with
  |cons a b=>
   cases b;cases R.st.cell k _ _ hk hA with
   |dat ow=>
    obtain⟨ys,hp,rs⟩:=ow.list;exact go (x:=x) rfl hp (by rw[rs.length];exact hz) (.lst aB (rs.plV.append (.cons a .nil))) rfl
 ·rename_i x ys hk
  obtain⟨hz,e⟩:=df e;cases e;cases hV with
  |cons a b=>
   cases b;cases R.st.cell k _ _ hk hA with
   |lst hp rs=>exact go (x:=x) rfl hp (by rw[rs.length];exact hz) (.lst aB (rs.append (.cons a .nil))) rfl
 ·cases e
def wc(a:EN)(m:MN (List SV)):EN:=yh a m G9
theorem pL(ha:NE W te a)(h:NA W t m):NE W (tBM K "list" oA te t) (wc a m):=Bl ha h Ha
def nMt(f:List D->List D->Option (List D×D))(a:EN)(m:MN (List SV)):EN:=yh a m (ER f)
theorem LY(J:vR r f)(ha:NE W te a)(h:NA W t m):NE W (tBM K "list" r te t) (nMt f a m):=Bl ha h (Bm J)
end
def fS(n:Nat)(S:List (Option Cl)):List (Option Cl):=if Be n S=true then gcS n S else S
def retS(n:Nat):iF->Option FR
 | .rt r s=>if blV n r=true then some (.ok r (fS n s.S))else some (.ok r s.S)
 | .nx s=>some (.ok (.pl .none) (fS n s.S))
 | .er x s=>some (.er x (fS n s.S))
 |_=>none
def fnS(n k:Nat)(b:SN):FN:=λS xs=>if xs.length=n then(b ⟨S,xs.map some++List.replicate k none⟩).bind (retS S.length)else none
theorem uJ(sub:aG B H)(tB:∀q xs,H q=some (.tup xs)->B q=some (.tup xs))(O:StO A B H S)(rv:b9 A B vs xs)(hl:xs.length=n)(hN:N.length=n+k) :
  bz ⟨B,H,A,λq=>∃o u,H q=some (.frz o u)⟩ A B H (L2.start N vs) ⟨S,xs.map some++List.replicate k none⟩:=by
 have hvl:vs.length=n:=rv.length.trans hl;refine⟨sub,aG.refl _,tB,λ_ _ h _=>h,λ_ _ z=>z,Gro.refl _,λ_ h=>.inl h,O,?_,λi x h=>?_,λq o u h=>⟨o,u,h⟩⟩
 ·simp[L2.start,hl,hvl,hN]
 ·have h':(xs.map some++List.replicate k none)[i]?=some (some x):=h
  by_cases hi:i<n
  ·rw[zax (by simpa[hl]using hi),zao]at h'
   obtain⟨c,h1,h2⟩:=zab h';cases h2;obtain⟨y,h3,h4⟩:=rv.get i _ h1;refine⟨y,?_,h4⟩;unfold L2.start;rw[zax (by simpa[hvl]using hi),zao,h3]
   rfl
  ·rw[zaN (by simpa[hl]using zba hi)]at h'
   have:=zaG (zaj h');cases this
theorem post_of(R':bz ⟨B,H,A,λq=>∃o u,H q=some (.frz o u)⟩ A' B' H' σ' s')(V':d7 A' B' v r):yf A B H A' B' H' s'.S v r:=⟨R'.pre,R'.sB,R'.sub,R'.cW,R'.kept,R'.nB,R'.fresh,R'.st,R'.nz,V'⟩
theorem sk(hn:A.length<=n)(R':bz ⟨B,H,A,λq=>∃o u,H q=some (.frz o u)⟩ A' B' H' σ' s')(V':d7 A' B' v r)(hb:blV n r=true):∃A'',yf A B H A'' B' H' (fS n s'.S) v r:=by
 unfold fS;split
 ·exact⟨_,post_of (R'.gc hn) (V'.take _ hb)⟩
 ·exact⟨_,post_of R' V'⟩
theorem Hb(hb:NS (λx _ H=>E (Zl.cl x.c) none H) t b)(hN:N.length=n+k)(h:spS (fnS n k b) vs H Q E):t {nx:=λ_ H'=>Q .non H',rt:=Q} (L2.start N vs) H:=by
 obtain⟨A,B,S,xs,w0,sub,tB,O,rv,e,q⟩:=h;unfold fnS at e;split at e
 case isFalse=>cases e
 rename_i hl
 obtain⟨w,e1,e2⟩:=zaa e;have R:=uJ (k:=k) sub tB O rv hl hN;refine hb _ A B H _ _ w _ R e1 ?_;have hn:A.length<=S.length:=Nat.le_of_eq O.len;cases w with
 |nx s'=>cases e2;exact λA' B' H' σ' R'=>(let⟨A2,p⟩:=sk hn R' (.pl .non) rfl;q _ A2 B' H' p)
 |bk s'=>cases e2
 |ct s'=>cases e2
 |er x s'=>cases e2;exact λA' B' H' σ' R'=>(let⟨A2,p⟩:=sk hn R' (.pl .non) rfl;q A2 B' H' p)
 |rt r' s'=>
  simp only[retS]at e2;split at e2
  ·rename_i hbl
   cases e2;exact λv A' B' H' σ' R' V'=>(let⟨A2,p⟩:=sk hn R' V' hbl;q v A2 B' H' p)
  ·cases e2
   exact λv A' B' H' σ' R' V'=>q v A' B' H' (post_of R' V')
theorem k6(hb:NS W0 t b)(hN:N.length=n+k)(h:spQ (fnS n k b) vs H Q E):t {nx:=λ_ H'=>Q .non H',rt:=Q} (L2.start N vs) H:=Hb (E:=E0) hb hN h
theorem Hc(h:spS (fnS n k b) vs H Q E):vs.length=n:=by
 obtain⟨A,B,S,xs,w,sub,tB,O,rv,e,q⟩:=h;unfold fnS at e;split at e
 ·rename_i hl;exact rv.length.trans hl
 ·cases e
theorem k7(h:spQ (fnS n k b) vs H Q E):vs.length=n:=Hc (E:=E0) h
def LZ:iF->Option (D×Bool)
 | .rt (.pl d) _=>some (d,false)
 | .rt (.lc k) s=>match s.S[k]? with
  |some (some (.dat d))=>some (d,true)
  |_=>none
 | .nx _=>some (.none,false)
 |_=>none
def fnO(n k:Nat)(b:SN)(ds:List D):Option (D×Bool):=if ds.length=n then(b ⟨[],ds.map (λd=>some (.pl d))++List.replicate k none⟩).bind LZ else none
theorem Hd(hb:NS W0 t b)(hN:N.length=n+k)(h:spM (fnO n k b) vs H Q E):t {nx:=λ_ H'=>Q .non H',rt:=Q} (L2.start N vs) H:=by
 obtain⟨B,ds,d,o,sub,tB,rp,e,q⟩:=h;unfold fnO at e;split at e
 case isFalse=>cases e
 rename_i hl
 obtain⟨w,e1,e2⟩:=zaa e;have O:StO [] B H ([]:List (Option Cl)):=⟨rfl,List.nodup_nil,(λa h=>by cases h),(λa h=>by cases h),λk c a h=>by simp at h⟩
 have R:=uJ (k:=k) (xs:=ds.map .pl) sub tB O (aY.plV rp) (by simpa using hl) hN
 rw[List.map_map]at R;refine hb _ [] B H _ _ w _ R e1 ?_;have post:∀{A':List Addr} {B' H':Hp} {σ':St} {s':SS},bz ⟨B,H,[],λq=>∃o u,H q=some (.frz o u)⟩ A' B' H' σ' s'->aG H H'/\aG B B'/\aG B' H'/\(∀q,H q≠none->B q=none->B' q=none)/\(∀q xs,H' q=some (.tup xs)->B' q=some (.tup xs))/\∀q o u,H' q=some (.frz o u)->H q≠none:=λR'=>
  ⟨λq u z=>R'.kept q u z (by simp),R'.sB,R'.sub,R'.nB,R'.cW,λq o u z=>(let⟨_,_,y⟩:=R'.nz q o u z;by rw[y];simp)⟩
 cases w with
 |nx s'=>
  cases e2;intro A' B' H' σ' R';obtain⟨p1,p2,p3,p4,p5,p6⟩:=post R';exact q _ B' H' ⟨p1,p2,p3,p4,p5,p6,.non⟩
 |bk s'=>cases e2
 |ct s'=>cases e2
 |er x s'=>cases e2
 |rt r s'=>
  intro v A' B' H' σ' R' V';obtain⟨p1,p2,p3,p4,p5,p6⟩:=post R';cases r with
  |pl c=>
   cases e2;cases V' with
   |pl rv=>exact q v B' H' ⟨p1,p2,p3,p4,p5,p6,rv⟩
  |tp xs=>cases e2
  |lc j=>
   have e2':(match s'.S[j]? with
    |some (some (.dat d))=>some (d,true)
    |_=>none)=some (d,o):=e2
   split at e2'
   ·rename_i d' hj
    cases e2';obtain⟨a,rfl,hA⟩:∃a,v=.ref a/\A'[j]?=some a:=by cases V' with|lc h=>exact⟨_,rfl,h⟩
    ·have ha:=zaj hA
     cases R'.st.cell j _ _ hj hA with
     |dat ow=>
      have hn:H a=none:=by
       rcases R'.fresh a ha with z|z
       ·cases z
       ·exact z
      exact q _ B' H' ⟨p1,p2,p3,p4,p5,p6,⟨_,rfl,hn,R'.st.dis _ ha,ow⟩⟩
   ·cases e2'
theorem He(h:spM (fnO n k b) vs H Q E):vs.length=n:=by
 obtain⟨B,ds,d,o,sub,tB,rp,e,q⟩:=h;unfold fnO at e;split at e
 ·rename_i hl;exact rp.length.trans hl
 ·cases e
end
end Mir
namespace L2
open PySem PySem.Spec PyProof.Rows
section
variable{κ:Type} [DecidableEq κ]
def jq(kvs:List (κ×V))(k : κ):Option V:=(kvs.find? λkv=>decide (kv.1=k)).map (·.2)
def putK(kvs:List (κ×V))(k : κ)(v:V):List (κ×V) :=
 if(kvs.any λkv=>decide (kv.1=k))=true then kvs.map (λkv=>if kv.1=k then(kv.1,v)else kv)else kvs++[(k,v)]
def qx(kvs:List (κ×V))(k : κ):List (κ×V):=kvs.filter λkv=>decide (kv.1≠k)
theorem mv{k : κ}(e:p.1=k):jq (p::r) k=some p.2:=by simp[jq,List.find?_cons,e]
theorem mw{k : κ}(e : ¬p.1=k):jq (p::r) k=jq r k:=by simp[jq,List.find?_cons,e]
theorem sq(k : κ):∀kvs:List (κ×V),(kvs.any λkv=>decide (kv.1=k))=(jq kvs k).isSome
 | []=>rfl
 |p::r=>by
  rw[List.any_cons]
  by_cases e:p.1=k
  ·simp only[mv e,decide_eq_true e,Bool.true_or,Option.isSome_some]
  ·rw[mw e,zaO e,Bool.false_or];exact sq k r
theorem qy(kvs:List (κ×V))(k : κ)(v:V):(putK kvs k v).length<=kvs.length+1:=by
 unfold putK;split
 ·rw[zal];omega
 ·rw[zau,zaw,List.length_nil];omega
theorem ES{k : κ}(v:V)(h:jq kvs k=none):putK kvs k v=kvs++[(k,v)]:=by
 unfold putK;rw[sq,h];exact if_neg (by decide)
theorem nM.kA(r:nM o u):o.isSome=u.isSome:=by
 cases o with
 |none=>cases u with
  |none=>rfl
  |some _=>exact(show False from r).elim
 |some _=>cases u with
  |none=>exact(show False from r).elim
  |some _=>rfl
theorem nM.getD(r:nM o u)(rd:RelV d d'):RelV (o.getD d) (u.getD d'):=by
 cases o with
 |none=>cases u with
  |none=>exact rd
  |some _=>exact(show False from r).elim
 |some _=>cases u with
  |none=>exact(show False from r).elim
  |some _=>exact r
theorem KV.val(r:KV kvs vs)(k : κ):nM (jq kvs k) (valueAt vs k):=by
 unfold KV at r
 induction r with
 |nil=>exact True.intro
 | @cons p q ps qs h t ih=>
  obtain⟨h1,h2⟩:=h
  by_cases e:p.1=k
  ·have e':q.1=k:=h1.symm.trans e
   have b:valueAt (q::qs) k=some q.2:=by simp[valueAt,List.find?_cons,e']
   rw[mv e,b];exact h2
  ·have e' : ¬q.1=k:=λz=>e (h1.trans z)
   have b:valueAt (q::qs) k=valueAt qs k:=by simp[valueAt,List.find?_cons,e']
   rw[mw e,b];exact ih
theorem KV.any(r:KV kvs vs)(k : κ):(kvs.any λkv=>decide (kv.1=k))=vs.any λkv=>decide (kv.1=k):=by
 unfold KV at r
 induction r with
 |nil=>rfl
 |cons h t ih=>rw[List.any_cons,List.any_cons,ih,h.1]
theorem KV.repl(r:KV kvs vs)(k : κ)(ry:RelV y u) :
  KV (kvs.map λkv=>if kv.1=k then(kv.1,y)else kv) (vs.map λkv=>if kv.1=k then(kv.1,u)else kv):=by
 unfold KV at r⊢
 induction r with
 |nil=>exact .nil
 | @cons p q ps qs h t ih=>
  rw[zaz,zaz];refine .cons ?_ ih;obtain⟨h1,h2⟩:=h
  by_cases e:p.1=k
  ·rw[if_pos e,if_pos (h1.symm.trans e)];exact⟨h1,ry⟩
  ·rw[if_neg e,if_neg (λz=>e (h1.trans z))];exact⟨h1,h2⟩
theorem KV.put(r:KV kvs vs)(k : κ)(ry:RelV y u):KV (putK kvs k y) (stored vs k u):=by
 unfold putK stored;rw[r.any k]
 by_cases e:(vs.any λkv=>decide (kv.1=k))=true
 ·rw[if_pos e,if_pos e];exact r.repl k ry
 ·rw[if_neg e,if_neg e];exact Paired.snoc r ⟨rfl,ry⟩
theorem KV.drop(r:KV kvs vs)(k : κ):KV (qx kvs k) (without vs k):=by
 unfold KV at r⊢;unfold qx without
 induction r with
 |nil=>exact .nil
 | @cons p q ps qs h t ih=>
  obtain⟨h1,h2⟩:=h;rw[List.filter_cons,List.filter_cons]
  by_cases e:p.1=k
  ·have a : ¬decide (p.1≠k)=true:=by simp[e]
   have b : ¬decide (q.1≠k)=true:=by simp[h1.symm.trans e]
   rw[if_neg a,if_neg b];exact ih
  ·have e' : ¬q.1=k:=λz=>e (h1.trans z)
   have a:decide (p.1≠k)=true:=by simp[e]
   have b:decide (q.1≠k)=true:=by simp[e']
   rw[if_pos a,if_pos b];exact .cons ⟨h1,h2⟩ ih
theorem KV.keys{vs:List (κ×Value)}(r:KV kvs vs):kvs.map (·.1)=vs.map (·.1):=by
 unfold KV at r
 induction r with
 |nil=>rfl
 |cons h t ih=>rw[zaz,zaz,ih,h.1]
theorem KV.length{vs:List (κ×Value)}(r:KV kvs vs):kvs.length=vs.length:=Paired.length r
theorem ET(kvs:List (κ×V))(k : κ):(qx kvs k).length<=kvs.length:=zaY _ _
end
theorem uK(r:RelV (kV k) u):(b6 P w).is k u=true:=by
 cases k with
 |inl i=>obtain⟨t,e⟩:=(show∃t,u=Value.int i t from r);subst e;exact xm P w i t
 |inr x=>obtain⟨t,e⟩:=(show∃t,u=Value.str x t from r);subst e;exact xn P w x t
theorem uL:∀{ks:List Key} {us:List Value},Vals (ks.map kV) us->ItemsAre (b6 P w) ks us
 | [],_,r=>by rw[List.map_nil]at r;cases r;exact .nil
 |k::ks,_,r=>by
  rw[zaz]at r;cases r with
  |cons h t=>exact .cons (uK h) (uL t)
abbrev KT(H:Hp):List (List Key×V)->List (List Key×Addr×Value)->Prop:=Paired λp q=>p.1=q.1/\H q.2.1=some (.tup (p.1.map kV))/\RelV p.2 q.2.2
theorem KT.val(r:KT H kvs xs)(k:List Key):nM (jq kvs k) ((atKey xs k).map (·.2)):=by
 induction r with
 |nil=>exact True.intro
 | @cons p q ps qs h t ih=>
  obtain⟨h1,_,h2⟩:=h
  by_cases e:p.1=k
  ·have e':q.1=k:=h1.symm.trans e
   have b:atKey (q::qs) k=some q.2:=by simp[atKey,List.find?_cons,e']
   rw[mv e,b];exact h2
  ·have e' : ¬q.1=k:=λz=>e (h1.trans z)
   have b:atKey (q::qs) k=atKey qs k:=by simp[atKey,List.find?_cons,e']
   rw[mw e,b];exact ih
theorem KT.repl(r:KT H kvs xs)(k:List Key)(ry:RelV y u) :
  KT H (kvs.map λkv=>if kv.1=k then(kv.1,y)else kv) (xs.map (putAt k u)):=by
 induction r with
 |nil=>exact .nil
 | @cons p q ps qs h t ih=>
  rw[zaz,zaz];refine .cons ?_ ih;obtain⟨h1,h2,h3⟩:=h;unfold putAt
  by_cases e:p.1=k
  ·rw[if_pos e,if_pos (h1.symm.trans e)];exact⟨h1,h2,ry⟩
  ·rw[if_neg e,if_neg (λz=>e (h1.trans z))];exact⟨h1,h2,h3⟩
theorem KT.put(r:KT H kvs xs)(k:List Key)(hb:H b=some (.tup (k.map kV)))(ry:RelV y u) :
  KT H (putK kvs k y) (storedH xs k b u):=by
 have e:(kvs.any λkv=>decide (kv.1=k))=(atKey xs k).isSome:=by
  rw[sq,(r.val k).kA,Option.isSome_map]
 unfold putK storedH;rw[e]
 by_cases q:(atKey xs k).isSome=true
 ·rw[if_pos q,if_pos q];exact r.repl k ry
 ·rw[if_neg q,if_neg q];exact Paired.snoc r ⟨rfl,hb,ry⟩
theorem KT.keeps(r:KT H kvs xs)(ht:∀b ys,H b=some (.tup ys)->H' b=some (.tup ys)):KT H' kvs xs :=
 Paired.Ju r λ_ _ z=>⟨z.1,ht _ _ z.2.1,z.2.2⟩
section
variable{P:Program}{w:World}{H:Hp}{h:Heap}{a:Addr}
theorem IL(ok:HOk P w H h)(e:Rd H a u):cG P w H h a u:=e.ok ok
theorem qz(ok:HOk P w H h)(e:Rd H a (.dK kvs)):kvs.length<=sizeLine/\(a==sysModules)=false/\∃vs,KV kvs vs/\h.DictOf (b6 P w) a vs :=
 show cG P w H h a (.dK kvs)from IL ok e
theorem Bo(ok:HOk P w H h)(e:H a=some (.dK kvs)):kvs.length<=sizeLine/\(a==sysModules)=false/\∃vs,KV kvs vs/\h.DictOf (b6 P w) a vs:=qz ok (.inl e)
theorem sr(ok:HOk P w H h)(e:H a=some (.tup (ks.map kV))):(tupleKind (b6 P w)).is h ks a:=by
 obtain⟨_,its,r,o,h1,h2,n,h3⟩:=cG.IC (P:=P) (w:=w) (H:=H) (ok a _ e);exact⟨o,its.toArray,n,h1,h2,h3,by simpa using uL r⟩
theorem yi(ok:HOk P w H h)(e:Rd H a (.dT kvs)):kvs.length<=sizeLine/\(a==sysModules)=false/\
  ∃xs,KT H kvs xs/\h.DictOfH (tupleKind (b6 P w)) a xs:=by
 obtain⟨z,y,xs,r,o,es,ep,h1,h2,h3,h4,h5⟩:=(show cG P w H h a (.dT kvs)from IL ok e);refine⟨z,y,xs,r,o,es,ep,h1,h2,h3,h4,λx hx=>?_,h5⟩
 have all:∀{l:List (List Key×V)} {m:List (List Key×Addr×Value)},KT H l m->∀x∈m,(tupleKind (b6 P w)).is h x.1 x.2.1:=by
  intro l m q
  induction q with
  |nil=>intro x hx;exact nomatch hx
  | @cons p q ps qs hq t ih=>
   intro x hx;rcases zaf hx with e|hx
   ·subst e
    exact sr ok (by rw[<-hq.1];exact hq.2.1)
   ·exact ih x hx
 exact all r x hx
theorem L6(ok:HOk P w H h)(e:H a=some (.dT kvs)):kvs.length<=sizeLine/\(a==sysModules)=false/\
  ∃xs,KT H kvs xs/\h.DictOfH (tupleKind (b6 P w)) a xs:=yi ok (.inl e)
end
def oP(H:Hp)(a:Addr)(y:V)(r:Option V):Prop :=
 (∃kvs k,Rd H a (.dK kvs)/\y=kV k/\r=jq kvs k)\/∃kvs k b,Rd H a (.dT kvs)/\y=.ref b/\H b=some (.tup (k.map kV))/\r=jq kvs k
def CM(H:Hp)(a:Addr)(y v:V)(H':Hp):Prop :=
 (∃kvs k,H a=some (.dK kvs)/\y=kV k/\kvs.length<sizeLine/\H'=upd H a (.dK (putK kvs k v)))\/
 ∃kvs k b,H a=some (.dT kvs)/\y=.ref b/\H b=some (.tup (k.map kV))/\kvs.length<sizeLine/\H'=upd H a (.dT (putK kvs k v))
theorem oP.k{k:Key}(e:H a=some (.dK kvs)):oP H a (kV k) (jq kvs k):=.inl ⟨kvs,k,.inl e,rfl,rfl⟩
theorem oP.t{k:List Key}(e:H a=some (.dT kvs))(eb:H b=some (.tup (k.map kV))):oP H a (.ref b) (jq kvs k):=.inr ⟨kvs,k,b,.inl e,rfl,eb,rfl⟩
theorem CM.k{k:Key}{v:V}(e:H a=some (.dK kvs))(hl:kvs.length<sizeLine):CM H a (kV k) v (upd H a (.dK (putK kvs k v))):=.inl ⟨kvs,k,e,rfl,hl,rfl⟩
theorem CM.t{k:List Key}{v:V}(e:H a=some (.dT kvs))(eb:H b=some (.tup (k.map kV)))(hl:kvs.length<sizeLine) :
  CM H a (.ref b) v (upd H a (.dT (putK kvs k v))):=.inr ⟨kvs,k,b,e,rfl,eb,hl,rfl⟩
section
variable{X:Cx}{pins:List (Addr×Obj)}{σ:St}{H:Hp}{s:Shared}{a:Addr}{y v:V}{u r:Value}{o:Option V}{A:Around}{E:Value->Shared->Prop}
theorem Inv.big(I:Inv X pins σ H s):sysModules<s.heap.objs.size:=by
 have h:mainGlobals<s.heap.objs.size:=(I.mod.glob.keeps I.bk).lt;exact Nat.lt_trans (by decide) h
theorem CN(hu:A.units+1<cLine)(I:Inv X pins σ H s)(g:oP H a y (some v))(ry:RelV y u)(h:∀w' s',Inv X pins σ H s'->RelV v w'->Q w' s') :
  wpAny (model X.prog X.w) A (getItem (.ref a) u) Q E s:=by
 rcases g with⟨kvs,k,e,ey,l⟩|⟨kvs,k,b,e,ey,eb,l⟩
 ·subst ey
  obtain⟨z,hd,vs,rel,dd⟩:=qz I.hok e;obtain⟨w',hw,rw'⟩:=nM.some_of (v:=v) (o:=valueAt vs k) (by rw[l];exact rel.val k)
  exact wpAny_getItem_of (uK ry) dd.mapOf hw (h w' _ (I.tok _) rw')
 ·subst ey
  cases(show u=Value.ref b from ry);obtain⟨z,hd,xs,rel,dd⟩:=yi I.hok e;obtain⟨w',hw,rw'⟩:=nM.some_of (v:=v) (o:=(atKey xs k).map (·.2)) (by rw[l];exact rel.val k)
  obtain⟨p,hp,hp2⟩:=zab hw;refine wpAny_getItem_heap (tupleKind_room_in1 hu) (sr I.hok eb) dd hp ?_;rw[hp2];exact h w' _ (I.tok _) rw'
theorem Nj(hu:A.units+1<cLine)(I:Inv X pins σ H s)(g:oP H a y o)(ry:RelV y u)(h:∀s',Inv X pins σ H s'->Q (.bool o.isSome) s') :
  wpAny (model X.prog X.w) A (compareOp .In u (.ref a)) Q E s:=by
 rcases g with⟨kvs,k,e,ey,l⟩|⟨kvs,k,b,e,ey,eb,l⟩
 ·subst ey
  obtain⟨z,hd,vs,rel,dd⟩:=qz I.hok e;refine wpAny_in_of (uK ry) hd dd.mapOf ?_;rw[<-(rel.val k).kA,<-l];exact h _ (I.tok _)
 ·subst ey
  cases(show u=Value.ref b from ry);obtain⟨z,hd,xs,rel,dd⟩:=yi I.hok e;refine wpAny_in_heap (tupleKind_room_in1 hu) (sr I.hok eb) hd dd ?_;have q:=(rel.val k).kA;rw[Option.isSome_map]at q;rw[<-q,<-l];exact h _ (I.tok _)
theorem Hf(hu:A.units+1<cLine)(I:Inv X pins σ H s)(g:oP H a y o)(ry:RelV y u)(h:∀s',Inv X pins σ H s'->Q (.bool (!o.isSome)) s') :
  wpAny (model X.prog X.w) A (compareOp .NotIn u (.ref a)) Q E s:=by
 rcases g with⟨kvs,k,e,ey,l⟩|⟨kvs,k,b,e,ey,eb,l⟩
 ·subst ey
  obtain⟨z,hd,vs,rel,dd⟩:=qz I.hok e;refine wpAny_notIn_of (uK ry) hd dd.mapOf ?_;rw[<-(rel.val k).kA,<-l];exact h _ (I.tok _)
 ·subst ey
  cases(show u=Value.ref b from ry);obtain⟨z,hd,xs,rel,dd⟩:=yi I.hok e;refine wpAny_notIn_heap (tupleKind_room_in1 hu) (sr I.hok eb) hd dd ?_;have q:=(rel.val k).kA;rw[Option.isSome_map]at q;rw[<-q,<-l];exact h _ (I.tok _)
theorem ri(I:Inv X pins σ H s)(mu:Mut (H a))(hs:Heap.SameBut a s.heap h')(he:∃q,h'.get? a=some q)(new:cG X.prog X.w (upd H a ob) h' a ob) :
  Inv X pins σ (upd H a ob) {s with heap:=h',toks:=t'} :=
 I.write (x:=a) (e:=a) mu (.inl rfl) (λb q hb z=>(hs.2 b hb).trans z) he new
theorem wd(z:kvs.length<=sizeLine)(hd:(a==sysModules)=false)(rel:KV kvs vs)(dd:h'.DictOf (b6 P w) a vs) :
  cG P w H' h' a (.dK kvs):=⟨z,hd,vs,rel,dd⟩
theorem CO(hu:A.units+1<cLine)(I:Inv X pins σ H s)(g:CM H a y v H')(ry:RelV y u)(rv:RelV v r)(h:∀s',Inv X pins σ H' s'->Q () s') :
  wpAny (model X.prog X.w) A (setItem (.ref a) u r) Q E s:=by
 rcases g with⟨kvs,k,e,ey,l,eH⟩|⟨kvs,k,b,e,ey,eb,l,eH⟩
 ·subst ey eH
  obtain⟨z,hd,vs,rel,dd⟩:=Bo I.hok e;have hz:vs.length<=sizeLine:=by rw[<-rel.length];exact z
  have hl:(putK kvs k v).length<=sizeLine:=by have:=qy kvs k v;omega
  refine wpAny_setItem_pairs (hsz:=hz) (uK ry) dd λh' dd' hs=>h _ ?_
  have he:∃q,h'.get? a=some q:=let⟨q,_,_,hq,_⟩:=dd';⟨q,hq⟩
  exact ri I (by rw[e];exact True.intro) hs he (wd hl hd (rel.put k rv) dd')
 ·subst ey eH
  cases(show u=Value.ref b from ry);obtain⟨z,hd,xs,rel,dd⟩:=L6 I.hok e;have hz:xs.length<=sizeLine:=by rw[<-Paired.length rel];exact z
  have hl:(putK kvs k v).length<=sizeLine:=by have:=qy kvs k v;omega
  refine wpAny_setItem_heap (hsz:=hz) (tupleKind_room_in1 hu) (sr I.hok eb) dd λh' dd' hs=>h _ ?_
  obtain⟨q,es,ep,hq,h2,h3,h4,_,h5⟩:=dd';refine ri I (by rw[e];exact True.intro) hs ⟨q,hq⟩ ⟨hl,hd,_,(rel.put k eb rv).keeps λc ys ec=>?_,q,es,ep,hq,h2,h3,h4,h5⟩
  rw[ax (Lc ec e (λz=>nomatch z))]
  exact ec
end
section
variable{X:Cx}{pins:List (Addr×Obj)}{σ:St}{H:Hp}{s:Shared}{a:Addr}{kvs:List (Key×V)}{k:Key}{u:Value}{A:Around}{E:Value->Shared->Prop}
theorem L7(I:Inv X pins σ H s)(e:H a=some (.dK kvs))(ry:RelV (kV k) u)(l:jq kvs k=some v)(hm:more=[]\/∃x,more=[x])
  (h:∀w' s',Inv X pins σ (upd H a (.dK (qx kvs k))) s'->RelV v w'->Q w' s'):wpAny (model X.prog X.w) A (call (.builtin "dict.pop") (.ref a::u::more)) Q E s:=by
 obtain⟨z,hd,vs,rel,dd⟩:=Bo I.hok e;obtain⟨w',hw,rw'⟩:=nM.some_of (v:=v) (o:=valueAt vs k) (by rw[<-l];exact rel.val k)
 have hp:(keyPart u).isSome=true:=by
  cases k with
  |inl i=>obtain⟨t,q⟩:=(show∃t,u=Value.int i t from ry);subst q;rfl
  |inr x=>obtain⟨t,q⟩:=(show∃t,u=Value.str x t from ry);subst q;rfl
 have ha:argsOk "dict.pop" ⟨.ref a::u::more,[]⟩:=by
  rcases hm with q|⟨x,q⟩
  ·subst q;exact PySem.F.args_dict_pop_2 _ _
  ·subst q;exact PySem.F.args_dict_pop_3 _ _ _
 refine call_meetsIn PySem.F.slot_dict_pop dd.typeIs PySem.F.entry_dict_pop ha (meets_dict_pop_there (b6 X.prog X.w) a (uK ry) more hm hp)
  ⟨vs,w',dd,by rw[<-rel.length];exact z,hw,λh' dd' hs=>h w' _ ?_ rw'⟩
 have he:∃q,h'.get? a=some q:=let⟨q,_,_,hq,_⟩:=dd';⟨q,hq⟩
 exact ri I (by rw[e];exact True.intro) hs he (wd (zaX (ET kvs k) z) hd (rel.drop k) dd')
theorem L8(I:Inv X pins σ H s)(e:Rd H a (.dK kvs))(h:∀t s',Inv X pins σ H s'->Q (.int kvs.length t) s'):wpAny (model X.prog X.w) A (call (.builtin "len") [.ref a]) Q E s:=by
 obtain⟨z,hd,vs,rel,dd⟩:=qz I.hok e;refine call_len_dict hd dd (by rw[<-rel.length];rw[sizeLine_eq]at z;omega) ?_
 rw[<-rel.length];exact h _ _ (I.tok _)
end
def L9(i:Expr):Prop:=∀ov iv,subscripted i false ov iv=operate [ov,iv] (getItem ov iv)
theorem Hg{s:Shared}{env:Env}{value slice:Expr}{pos:Pos}{T id:String}{Q:Value->Shared->Prop}
  (hl:typeLookup (.type T) "__getitem__"=pure (some (.builtin id))) (hs:L9 slice)
  (h:wpAny (model prog w) A (eval value env) (λo s₁=>wpAny (model prog w) A (eval slice env) (λi s₂=>s₂.TypeIs o T/\wpAny (model prog w) A (getItem o i) Q E s₂) E s₁) E s) :
  wpAny (model prog w) A (eval (.Subscript value slice pos) env) Q E s:=by
 refine Subscript_ (za6 h (λo s₁ h₁=>za6 h₁ (λi s₂ h₂=>?_) λ_ _ x=>x) λ_ _ x=>x)
 obtain⟨hT,h₂⟩:=h₂;unfold subscriptTail;refine zaI ?_;rw[getitemInPython_of_ne hT.not_modules];refine zaI (wpAny_specialOf hT hl ?_);have fin:wpAny (model prog w) A (subscripted slice false o i) (λr s₃=>wpAny (model prog w) A (letTemporaryGo value o r>>=λ_=>pure r) Q E s₃) E s₂:=by
  rw[hs o i];exact wpAny_operating (za6 h₂ (λr s₃ h₃=>zaI (wpAny_letTemporaryGo (zaZ h₃))) λ_ _ x=>x)
 first
  |exact zaZ (zaI fin)
  |exact zaI (zaZ (zaI fin))
  |exact zaI fin
theorem yj{σ:St}{s:Shared}{a:Addr}{y:V}{o:Option V}(I:Inv X pins σ H s)(g:oP H a y o):s.TypeIs (.ref a) "dict":=by
 rcases g with⟨kvs,k,e,_,_⟩|⟨kvs,k,b,e,_,_,_⟩
 ·obtain⟨_,_,vs,_,dd⟩:=qz I.hok e
  exact dd.typeIs
 ·obtain⟨_,_,xs,_,dd⟩:=yi I.hok e
  exact dd.typeIs
def Ma(td ty:TE):TE:=fun σ H Q=>td σ H λx H1=>ty σ H1 λy H2=>∃a v,x=.ref a/\oP H2 a y (some v)/\Q v H2
def Nk(ty td:TE):TE:=fun σ H Q=>ty σ H λy H1=>td σ H1 λx H2=>∃a o,x=.ref a/\oP H2 a y o/\Q (.bl o.isSome) H2
def Hh(ty td:TE):TE:=fun σ H Q=>ty σ H λy H1=>td σ H1 λx H2=>∃a o,x=.ref a/\oP H2 a y o/\Q (.bl (!o.isSome)) H2
def EU(td ty tv:TE):TS:=λD σ H=>tv σ H λv H1=>td σ H1 λx H2=>ty σ H2 λy H3=>∃a H4,x=.ref a/\CM H3 a y v H4/\D.nx σ H4
section
variable{X:Cx}{o i e value:Expr}{pos pos' tpos:Pos}{td ty tv:TE}
theorem bH(hu:X.A.units+1<cLine)(ho:PE X o td)(hi:PE X i ty)(hs:L9 i):PE X (.Subscript o i pos) (Ma td ty):=by
 intro pins s σ H Q I h;refine Hg PySem.F.slot_dict_getitem.lookup hs (thn (ho pins s σ H _ I h) λu s1 ⟨x,H1,I1,rx,q1⟩=>thn (hi pins s1 σ H1 _ I1 q1) λiv s2 ⟨y,H2,I2,ry,a,v,ex,g,q2⟩=>?_)
 subst ex;obtain rfl:u=Value.ref a:=rx;exact⟨yj I2 g,CN hu I2 g ry λw' s3 I3 rw'=>⟨v,H2,I3,rw',q2⟩⟩
theorem Kw(hu:X.A.units+1<cLine)(hi:PE X i ty)(ho:PE X o td):PC X .In i o (Nk ty td):=by
 intro pins s σ H Q I h;refine thn (hi pins s σ H _ I h) λiv s1 ⟨y,H1,I1,ry,q1⟩=>thn (ho pins s1 σ H1 _ I1 q1) λu s2 ⟨x,H2,I2,rx,a,ov,ex,g,q2⟩=>?_
 subst ex;obtain rfl:u=Value.ref a:=rx;exact Nj hu I2 g ry λs3 I3=>⟨.bl ov.isSome,H2,I3,rfl,q2⟩
theorem pM(hu:X.A.units+1<cLine)(hi:PE X i ty)(ho:PE X o td):PC X .NotIn i o (Hh ty td):=by
 intro pins s σ H Q I h;refine thn (hi pins s σ H _ I h) λiv s1 ⟨y,H1,I1,ry,q1⟩=>thn (ho pins s1 σ H1 _ I1 q1) λu s2 ⟨x,H2,I2,rx,a,ov,ex,g,q2⟩=>?_
 subst ex;obtain rfl:u=Value.ref a:=rx;exact Hf hu I2 g ry λs3 I3=>⟨.bl (!ov.isSome),H2,I3,rfl,q2⟩
theorem dW(hu:X.A.units+1<cLine)(ho:PE X o td)(hi:PE X i ty)(hv:PE X value tv)(hs:swapsWith value (some (.Subscript o i pos')) pos.line X.env=pure false) :
  PS X (.Assign [.Subscript o i pos'] value pos) (EU td ty tv):=by
 intro pins s σ H D I h;refine wpAny_Assign_Subscript (thn (hv pins s σ H _ I h) λr s1 ⟨v,H1,I1,rv,q1⟩=>thn (ho pins s1 σ H1 _ I1 q1) λu s2 ⟨x,H2,I2,rx,q2⟩=>thn (hi pins s2 σ H2 _ I2 q2) λiv s3 ⟨y,H3,I3,ry,a,H4,ex,g,q3⟩=>?_) hs
 subst ex;obtain rfl:u=Value.ref a:=rx;exact CO hu I3 g ry rv λs4 I4=>⟨σ,H4,I4,q3⟩
end
theorem EV(h:Heap)(hb:sysModules<h.objs.size):cG P w H (h.push {cls:=.type "dict",data:=.dict #[]}) h.objs.size (.dK []) :=
 ⟨Nat.zero_le _,beq_eq_false_iff_ne.mpr (Ne.symm (zaS hb)),[],.nil,Heap.DictOf.new h⟩
def EW:TE:=λ_ H Q=>∀p,H p=none->Q (.ref p) (upd H p (.dK []))
section
variable{X:Cx}{pos:Pos}
theorem sx:PE X (.Dict [] [] pos) EW:=λpins s σ H Q I h=>
 wpAny_Dict_empty ⟨.ref s.heap.objs.size,_,I.laid (a:=s.heap.objs.size) (o:=.dK []) (t':=s.toks) (λ_ _ q=>zar _ q) (zap _) (EV s.heap I.big),rfl,h _ (I.hok.fresh (zap _))⟩
end
structure M1(X:Cx)(o:Expr)(m:Str)(apos:Pos)(e:Expr)(cpos:Pos):Prop where
 base:attributeBase o m X.env (eval o X.env)=eval o X.env
 few:((backTo cpos (starEach [e] X.env)).all (λx=>!x.1)&&(backToKw cpos (keywordEach [] X.env)).all (λx=>x.1.isSome)
  &&decide (([e]:List Expr).length+([]:List Keyword).length+(if([]:List Keyword).isEmpty then 0 else 1)<30))=true
 line:(apos.endLine==cpos.line)=true
 trees:backTo cpos (starEach [e] X.env)=[(false,eval e X.env)]
structure M2(X:Cx)(o:Expr)(m:Str)(apos:Pos)(e f:Expr)(cpos:Pos):Prop where
 base:attributeBase o m X.env (eval o X.env)=eval o X.env
 few:((backTo cpos (starEach [e,f] X.env)).all (λx=>!x.1)&&(backToKw cpos (keywordEach [] X.env)).all (λx=>x.1.isSome)
  &&decide (([e,f]:List Expr).length+([]:List Keyword).length+(if([]:List Keyword).isEmpty then 0 else 1)<30))=true
 line:(apos.endLine==cpos.line)=true
 trees:backTo cpos (starEach [e,f] X.env)=[(false,eval e X.env),(false,eval f X.env)]
section
variable{X:Cx}{pins:List (Addr×Obj)}{σ:St}{H:Hp}{s:Shared}{a:Addr}{kvs:List (Key×V)}{A:Around}{E:Value->Shared->Prop}
theorem EX(I:Inv X pins σ H s)(e:Rd H a (.dK kvs))(h:∀p s',H p=none->Inv X pins σ (upd H p (.dK kvs)) s'->Q (.ref p) s'):wpAny (model X.prog X.w) A (call (.type "dict") [.ref a]) Q E s:=by
 obtain⟨z,hd,vs,rel,dd⟩:=qz I.hok e;refine kt_call_dict hd dd (by rw[<-rel.length];exact z) λh' dd' hs=>?_
 refine h _ _ (I.hok.fresh (zap _)) (I.laid (a:=s.heap.objs.size) (o:=.dK kvs) (t':=s.toks) (λb q hq=>?_) (zap _) (wd z (beq_eq_false_iff_ne.mpr (Ne.symm (zaS I.big))) rel dd'))
 exact(hs.2 b (zaS (zaq hq))).trans (zar _ hq)
end
section
variable{X:Cx}
def diff(ns:List Int):Nat:=(firstMet (λi=>ns.getD i 0) ns.length).length
def IM:List V->Hp->VK->Prop:=λxs H Q=>∃l ns,xs=[V.ref l]/\H l=some (.lst (ns.map .int))/\ns.length+1<4096/\∀p S,H p=none->Q (.ref p) (upd H p (.set S (diff ns)))
theorem ng:∀{ns:List Int} {us:List Value},Vals (ns.map V.int) us->IntsAre us ns
 | [],us,h=>by cases h;first|exact .nil|trivial
 |n::ns,us,h=>by
  cases h with
  |cons r t=>
   obtain⟨tk,rfl⟩:=r;exact .cons _ _ (ng t)
theorem CP(hc:X.calm=true):eG X (.type "set") IM:=by
 intro pins s σ H xs us Q I r h;obtain⟨l,ns,rfl,hl,hz,q⟩:=h;cases r with
 |cons r1 r=>
  cases r;obtain rfl:=r1;obtain⟨z,its,n,rv,hg⟩:=I.hok l _ hl;have hlen:its.length=ns.length:=by rw[<-rv.length,zal]
  refine PySem.call_set_list (items:=its.toArray) (ns:=ns) (I.ok.hd hc) ⟨_,hg,rfl,_,rfl⟩ (by simpa using ng rv) (by rw[zaK,hlen];exact hz) λh' tk hS hk=>?_
  have hsz:its.toArray.size=ns.length:=by rw[zaK,hlen]
  rw[hsz]at hS;exact⟨.ref s.heap.objs.size,_,I.laid (a:=s.heap.objs.size) (o:=.set _ _) (t':=tk) (λb o e=>hk b o (zaq e) e) (zap _) hS,rfl,q _ _ (I.hok.fresh (zap _))⟩
def IP:List V->Hp->VK->Prop:=λxs H Q=>∃a S n,xs=[V.ref a]/\H a=some (.set S n)/\n<4096/\Q (.int n) H
theorem CQ:eG X (.builtin "len") IP:=by
 intro pins s σ H xs us Q I r h;obtain⟨a,S,n,rfl,ha,hz,q⟩:=h;cases r with
 |cons r1 r=>
  cases r;obtain rfl:=r1;have hS:s.heap.SetOf (intKind X.prog X.w) a S n:=I.hok a _ ha;obtain⟨o,ho,hso⟩:=hS.objOf;obtain⟨hex,es,ep,t,hd,_,_,hn,hf⟩:=hso;subst hn;exact call_len_set ho hex hd hf (by omega) ⟨.int es.size,H,I.tok _,⟨_,rfl⟩,q⟩
end
end L2
namespace Mir
open PySem L2
variable [Zc]
def Bp:PM:=fun ρ=>some ((.dict [],.new),ρ)
theorem we:ME EW Bp:=by
 intro F B H σ ρ r ρ' Q R e q;cases e;exact g7 (res:=(.dict [],true)) (k:=λQ=>∀p,H p=none->Q (.ref p) (upd H p (.dK []))) (Q:=Q) R ⟨[],.nil,λQ h=>h⟩ λv B' H' E R' V' N=>q v B' H' E R' V' N
def EY:Option Sl->Option (List (D×D))
 |some (.own (.dict es))=>some es
 |some (.io (.dict es))=>some es
 |_=>none
theorem Bq(h:EY s=some es):∃t,s=some t/\t.et=true/\slD t=.dict es:=by
 unfold EY at h;split at h
 ·cases h;exact⟨_,rfl,rfl,rfl⟩
 ·cases h;exact⟨_,rfl,rfl,rfl⟩
 ·cases h
theorem Own.dict{es:List (D×D)}(h:Own B H p (.dict es)):∃kvs,H p=some (.dK kvs)/\bD B kvs es:=by
 cases h with
 |dct h r=>exact⟨_,h,r⟩
theorem bD.snoc(hk:vK k c)(hx:Rep B x d):∀{kvs:List (Key×V)} {es:List (D×D)},bD B kvs es->bD B (kvs++[(k,x)]) (es++[(c,d)])
 |_,_,.nil=>.cons hk hx .nil
 |_,_,.cons h1 h2 r=>.cons h1 h2 (bD.snoc hk hx r)
theorem bD.length:∀{kvs:List (Key×V)} {es:List (D×D)},bD B kvs es->kvs.length=es.length
 |_,_,.nil=>rfl
 |_,_,.cons _ _ r=>by rw[zaw,zaw,bD.length r]
theorem ES{k:Key}(h:jq kvs k=none):putK kvs k v=kvs++[(k,v)]:=by
 unfold putK;rw[if_neg];intro z;rw[List.any_eq_true]at z;obtain⟨p,hp,e⟩:=z;have e':=of_decide_eq_true e;unfold jq at h;rw[Option.map_eq_none_iff,List.find?_eq_none]at h;exact h p hp (by simpa using e')
def EZ:List (D×D)->Option (List Int)
 | []=>some []
 |(_,.int i)::r=>(EZ r).map (i::·)
 |_=>none
theorem ng:∀{kvs:List (Key×V)} {es:List (D×D)} {ns:List Int},bD B kvs es->EZ es=some ns->kvs.map (·.2)=ns.map V.int
 |_,_,_,.nil,h=>by cases h;rfl
 |_,_,ns,.cons (d:=d) hk hx r,h=>by
  cases d with
  |int i=>
   obtain⟨ms,h1,h2⟩:=zab (show(EZ _).map (i::·)=some ns from h)
   subst h2;cases hx;rw[zaz,zaz,ng r h1]
  |_=>cases h
theorem Rel.fresh(R:Rel F B H σ ρ)(hp:H p=none)(n1:∀xs,o≠.tup xs)(n2:∀a u,o≠.frz a u):Rel F B (upd H p o) σ ρ/\Ext σ ρ B H ρ B (upd H p o):=by
 refine⟨R.grow (λ_ _ z=>z) (fO hp) (λq u z=>fO hp q u (R.sub q u z)) (λ_ _ z=>z) (λq xs z=>?_) λq a u z y=>?_,Ext.grow (λ_ _ z=>z) (fO hp) λ_ _ z=>z⟩
 ·by_cases w:q=p
  ·subst w;rw[aB]at z;cases z;exact absurd rfl (n1 xs)
  ·rw[ax w]at z;exact R.cW q xs z
 ·by_cases w:q=p
  ·subst w;rw[aB]at z;cases z;exact absurd rfl (n2 a u)
  ·rw[ax w,y]at z;cases z
theorem yk(f:Nat->Int)(n:Nat):(PyProof.Rows.firstMet f n).length<=n:=PyProof.Rows.firstMet_length_le f n
end Mir
namespace L2
open PySem PySem.Spec PyProof.Rows
section
variable{X:Cx}
def IQ:List V->Hp->VK->Prop:=λxs H Q=>∃a kvs,xs=[V.ref a]/\Rd H a (.dK kvs)/\Q (.int kvs.length) H
theorem kB:eG X (.builtin "len") IQ:=by
 intro pins s σ H xs us Q I r h;obtain⟨a,kvs,rfl,ha,q⟩:=h;cases r with
 |cons r1 r=>
  cases r;obtain rfl:=r1;exact L8 I ha λt s' I'=>⟨.int kvs.length,H,I',⟨t,rfl⟩,q⟩
def E6:List V->Hp->VK->Prop:=λxs H Q=>∃a kvs,xs=[V.ref a]/\Rd H a (.dK kvs)/\∀p,H p=none->Q (.ref p) (upd H p (.dK kvs))
theorem jr:eG X (.type "dict") E6:=by
 intro pins s σ H xs us Q I r h;obtain⟨a,kvs,rfl,ha,q⟩:=h;cases r with
 |cons r1 r=>
  cases r;obtain rfl:=r1;exact EX I ha λp s' hp I'=>⟨.ref p,_,I',rfl,q p hp⟩
def E7:List V->Hp->VK->Prop:=λxs H Q=>∃a kvs,xs=[V.ref a]/\Rd H a (.dK kvs)/\∀p,H p=none->Q (.ref p) (upd H p (.lst (kvs.map λq=>kV q.1)))
theorem E8(h:(b6 P w).is k u=true):RelV (kV k) u:=by
 rw[zo]at h;rcases dj h with⟨i,t,rfl,rfl⟩|⟨x,t,rfl,rfl⟩
 ·exact⟨t,rfl⟩
 ·exact⟨t,rfl⟩
theorem CS(us:List Value)(r:KV kvs vs)(hl:us.length=vs.length)(hv:∀(j:Nat) (v:Value),us[j]?=some v->∃k x,vs[j]?=some (k,x)/\(b6 P w).is k v=true):Vals (kvs.map λq=>kV q.1) us:=by
 induction r generalizing us with
 |nil=>
  cases us with
  |nil=>exact .nil
  |cons u us=>cases hl
 | @cons a b l1 l2 h t ih=>
  cases us with
  |nil=>cases hl
  |cons u us=>
   obtain⟨k,x,e1,e2⟩:=hv 0 u rfl;have e3:b=(k,x):=by simpa using e1
   subst e3;have e4:a.1=k:=h.1;refine .cons ?_ (ih us (by simpa using hl) λj v e=>hv (j+1) v (by simpa using e))
   show RelV (kV a.1) u;rw[e4];exact E8 e2
theorem qA(hc:X.calm=true):eG X (.type "list") E7:=by
 intro pins s σ H xs us Q I r h;obtain⟨a,kvs,rfl,ha,q⟩:=h;cases r with
 |cons r1 r=>
  cases r;obtain rfl:=r1;obtain⟨z,hd,vs,rel,dd⟩:=qz I.hok ha;obtain⟨ep,hat⟩:=dd.dictAt;refine PySem.W.kdl_call (PySem.W.kdl_dict (knd:=b6 X.prog X.w) (kvs:=vs) (ep:=ep) hd) (I.ok.hd hc) hat (by rw[<-rel.length];exact z) λh' tk acc' c' hk hD hacc=>?_
  have kv:Vals (kvs.map λq=>kV q.1) acc'.toList:=CS acc'.toList rel (by rw[Array.length_toList];exact hacc.1) λj u e=>hacc.2 j u (by rw[<-Array.getElem?_toList];exact e)
  refine⟨.ref s.heap.objs.size,_,I.laid (a:=s.heap.objs.size) (o:=.lst (kvs.map λq=>kV q.1)) (t':=tk) hk (zap _) ⟨by rw[zal];exact z,acc'.toList,c',kv,?_⟩,rfl,q _ (I.hok.fresh (zap _))⟩
  rw[hD,Array.toArray_toList]
end
end L2
namespace Mir
open PySem L2
variable [Zc]
def keyOf:D->Option Key
 | .int i=>some (.inl i)
 | .str x=>some (.inr x)
 |_=>none
theorem vK.of(h:vK k c):keyOf c=some k:=by
 cases k with
 |inl i=>obtain rfl:=(show c=.int i from h);rfl
 |inr x=>obtain rfl:=(show c=.str x from h);rfl
theorem Br(h:keyOf c=some k):vK k c:=by
 unfold keyOf at h;split at h
 ·cases h;exact rfl
 ·cases h;exact rfl
 ·cases h
def gm:List (D×D)->Key->Option D
 | [],_=>none
 |(c,d)::r,k=>if keyOf c=some k then some d else gm r k
theorem kC:∀{kvs:List (Key×V)} {es:List (D×D)},bD B kvs es->(∀d,gm es k=some d->∃u,jq kvs k=some u/\Rep B u d)/\(gm es k=none->jq kvs k=none)
 |_,_,.nil=>⟨λd h=>(by cases h),λ_=>rfl⟩
 |_,_,.cons (k:=k') (x:=x) (c:=c) (d:=d) (kvs:=kvs) (es:=es) hk hx r=>by
  have ih:=kC (k:=k) r
  by_cases e:k'=k
  ·subst e
   have hl:gm ((c,d)::es) k'=some d:=if_pos hk.of;refine⟨λd' h=>?_,λh=>?_⟩
   ·rw[hl]at h;cases h
    exact⟨x,mv rfl,hx⟩
   ·rw[hl]at h;cases h
  ·have hv:jq ((k',x)::kvs) k=jq kvs k:=mw e
   have hl:gm ((c,d)::es) k=gm es k:=if_neg λz=>e (by rw[hk.of]at z;exact zaQ z)
   rw[hv,hl];exact ih
theorem View.key(h:View B H y d)(e:keyOf d=some k):y=kV k:=by
 unfold keyOf at e;split at e
 ·cases e
  rcases h with h|⟨p,_,h⟩
  ·cases h;rfl
  ·cases h
 ·cases e
  rcases h with h|⟨p,_,h⟩
  ·cases h;rfl
  ·cases h
 ·cases e
def Mb:R2:=λx y H Q=>∃a v,x=.ref a/\oP H a y (some v)/\Q v H
def Nl:R2:=λy x H Q=>∃a o,x=.ref a/\oP H a y o/\Q (.bl o.isSome) H
def Hi:R2:=λy x H Q=>∃a o,x=.ref a/\oP H a y o/\Q (.bl (!o.isSome)) H
def dh:D->D->Option (D×Bool)
 | .dict es,c=>(keyOf c).bind λk=>(gm es k).map λd=>(d,false)
 |_,_=>none
theorem cY:OpJ Mb dh:=by
 intro B H x y c d res s hx hy e;unfold dh at e;split at e
 ·obtain⟨k,h1,e⟩:=zaa e
  obtain⟨v,h2,e⟩:=zab e;cases e;obtain rfl:=hy.key h1;obtain⟨a,kvs,rfl,r1,rk⟩:=hx.dict s;obtain⟨u,h3,h4⟩:=(kC rk).1 v h2;exact⟨u,h4,λQ q=>⟨a,u,rfl,.inl ⟨kvs,k,r1,rfl,h3.symm⟩,q⟩⟩
 ·cases e
def E9:D->D->Option (D×Bool)
 |c,.dict es=>(keyOf c).map λk=>(.bool (gm es k).isSome,false)
 |_,_=>none
def k8:D->D->Option (D×Bool)
 |c,.dict es=>(keyOf c).map λk=>(.bool (!(gm es k).isSome),false)
 |_,_=>none
theorem wg(r:bD B kvs es):(jq kvs k).isSome=(gm es k).isSome:=by
 cases h:gm es k with
 |none=>rw[(kC r).2 h];rfl
 |some d=>obtain⟨u,h1,_⟩:=(kC r).1 d h;rw[h1];rfl
theorem Mc:OpJ Nl E9:=by
 intro B H y x c d res s hy hx e;unfold E9 at e;split at e
 ·obtain⟨k,h1,e⟩:=zab e
  cases e;obtain rfl:=hy.key h1;obtain⟨a,kvs,rfl,r1,rk⟩:=hx.dict s;exact⟨.bl _,.bl _,λQ q=>⟨a,_,rfl,.inl ⟨kvs,k,r1,rfl,rfl⟩,by rw[wg rk];exact q⟩⟩
 ·cases e
theorem sy:OpJ Hi k8:=by
 intro B H y x c d res s hy hx e;unfold k8 at e;split at e
 ·obtain⟨k,h1,e⟩:=zab e
  cases e;obtain rfl:=hy.key h1;obtain⟨a,kvs,rfl,r1,rk⟩:=hx.dict s;exact⟨.bl _,.bl _,λQ q=>⟨a,_,rfl,.inl ⟨kvs,k,r1,rfl,rfl⟩,by rw[wg rk];exact q⟩⟩
 ·cases e
def my:List D->Option (D×Bool)
 | [.dict es]=>some (.int es.length,false)
 |_=>none
theorem sA:qq IQ my:=by
 intro B H vs ds res s h e;unfold my at e;split at e
 ·cases e
  obtain⟨v,rfl,hh⟩:=jS h;obtain⟨a,kvs,rfl,r1,rk⟩:=hh.dict s;exact g9 λQ q=>⟨a,kvs,rfl,r1,by rw[rk.length];exact q⟩
 ·cases e
def n0:List D->Option (D×Bool)
 | [.dict es]=>some (.dict es,true)
 |_=>none
theorem oQ:qq E6 n0:=by
 intro B H vs ds res s h e;unfold n0 at e;split at e
 ·cases e
  obtain⟨v,rfl,hh⟩:=jS h;obtain⟨a,kvs,rfl,r1,rk⟩:=hh.dict s;exact⟨kvs,rk,λQ q=>⟨a,kvs,rfl,r1,q⟩⟩
 ·cases e
def pN:List D->Option (D×Bool)
 | [.dict es]=>some (.list (es.map (·.1)),true)
 |_=>none
theorem sC:∀{kvs:List (Key×V)} {es:List (D×D)},bD B kvs es->aY B (kvs.map λq=>kV q.1) (es.map (·.1))
 |_,_,.nil=>.nil
 |_,_,.cons (k:=k) (c:=c) hk hx r=>by
  refine .cons ?_ (sC r);cases k with
  |inl i=>obtain rfl:=(show c=.int i from hk);exact .int i
  |inr x=>obtain rfl:=(show c=.str x from hk);exact .str x
theorem Bu:qq E7 pN:=by
 intro B H vs ds res s h e;unfold pN at e;split at e
 ·cases e
  obtain⟨v,rfl,hh⟩:=jS h;obtain⟨a,kvs,rfl,r1,rk⟩:=hh.dict s;exact⟨_,sC rk,λQ q=>⟨a,kvs,rfl,r1,q⟩⟩
 ·cases e
def putD(es:List (D×D))(c d:D)(k:Key):List (D×D):=if(gm es k).isSome then es.map λp=>if keyOf p.1=some k then(p.1,d)else p else es++[(c,d)]
theorem Bv(k:Key):∀kvs:List (Key×V),(kvs.any λkv=>decide (kv.1=k))=(jq kvs k).isSome
 | []=>rfl
 |p::l=>by
  rw[List.any_cons,Bv k l]
  by_cases h:p.1=k
  ·rw[mv h,zaH h];rfl
  ·rw[mw h,zaO h];rfl
theorem bD.map(hv:Rep B v d):∀{kvs:List (Key×V)} {es:List (D×D)},bD B kvs es->bD B (kvs.map λp=>if p.1=k then(p.1,v)else p) (es.map λp=>if keyOf p.1=some k then(p.1,d)else p)
 |_,_,.nil=>.nil
 |_,_,.cons (k:=k') h1 h2 t=>by
  rw[zaz,zaz]
  by_cases e:k'=k
  ·subst e
   rw[if_pos rfl,if_pos h1.of];exact .cons h1 hv (bD.map hv t)
  ·rw[if_neg e,if_neg λz=>e (by rw[h1.of]at z;exact zaQ z)]
   exact .cons h1 h2 (bD.map hv t)
theorem bD.put(hk:vK k c)(hv:Rep B v d)(r:bD B kvs es):bD B (putK kvs k v) (putD es c d k):=by
 unfold putK putD;rw[Bv,wg r];split
 ·exact bD.map hv r
 ·exact bD.snoc hk hv r
def lU(i:Nat)(a b:PM):SM:=fun ρ=>(sv a ρ).bind λx=>(me x.1 x.2).bind λy=>(EY y.2[i]?).bind λ_=>(sv b y.2).bind λz=>(keyOf z.1.1).bind λk=>(EY z.2[i]?).bind λes=>cIf (es.length<100000) (some (.nx (Mir.putAt z.2 i (.dict (putD es z.1.1 y.1 k))))) none
theorem jE(ha:ME tv a)(hb:ME ty b):MS (EU (nW i) ty tv) (lU i a b):=by
 intro F B H σ ρ o D R e q;obtain⟨x,e1,e⟩:=zaa e;obtain⟨y,e2,e⟩:=zaa e;obtain⟨es0,e3,e⟩:=zaa e;obtain⟨z,e4,e⟩:=zaa e;obtain⟨k,e5,e⟩:=zaa e;obtain⟨es,e6,e⟩:=zaa e;obtain⟨hz,e⟩:=df e;cases e;refine ha.sv F B H σ ρ x.1 x.2 _ R e1 λv B1 H1 E1 R1 V1 N1=>?_
 have w:Cp B1 σ v x.1:=(Vl.weak (F:=F) (H:=H1) (ρ:=x.2) (vs:=[v]) (rs:=[x.1]) ⟨⟨V1,mZ e1⟩,trivial⟩).1;obtain⟨B2,R2,rp,E2⟩:=R1.frz w e2;obtain⟨s0,hs0,ho0,hd0⟩:=Bq e3;obtain⟨p,hv,hB,ow⟩:=R2.ownAt hs0 ho0;refine⟨_,hv,?_⟩;refine hb.sv F B2 H1 σ y.2 z.1 z.2 _ R2 e4 λu B3 H3 E3 R3 V3 N3=>?_
 obtain rfl:=(V3.view R3).key e5;obtain⟨s,hs,ho,hd⟩:=Bq e6;obtain⟨p',hv',hB',ow'⟩:=R3.ownAt hs ho;rw[hv]at hv';cases hv';rw[hd]at ow';obtain⟨kvs,hp,rk⟩:=ow'.dict;obtain⟨R4,E4⟩:=R3.write (o:=.dK (putK kvs k v)) (d:=.dict (putD es z.1.1 y.1 k)) hs ho hv ⟨(λ_ z=>by cases z),λ_ _ z=>by cases z⟩ (.dct aB (bD.put (Br e5) (rp.mono E3.sB) rk))
 have ep:Mir.putAt z.2 i (.dict (putD es z.1.1 y.1 k))=z.2.set i (s.put (.dict (putD es z.1.1 y.1 k))):=by unfold Mir.putAt;rw[hs]
 rw[ep]at q;exact⟨p,_,rfl,.inl ⟨kvs,k,hp,rfl,by rw[rk.length,sizeLine_eq];omega,rfl⟩,q B3 _ σ R4⟩
end Mir
namespace L2
open PySem PySem.Spec PyProof.Rows
section
variable{X:Cx}{pins:List (Addr×Obj)}{σ:St}{H:Hp}{s:Shared}{a:Addr}{kvs:List (Key×V)}
theorem Inv.view(I:Inv X pins σ H s)(e:H a=some u)(nt:∀xs,u≠.tup xs)(no:∀x,u≠.own x)(nz:∀o v,X.H₀ a≠some (.frz o v))(nb:∀ps,u≠.tbl ps)(new:cG X.prog X.w (upd H a u') s.heap a u'):Inv X pins σ (upd H a u') s:=by
 have nn:∀b,H b=none->b≠a:=λb z y=>by rw[y,e]at z;cases z
 refine⟨I.ok,I.os,I.bare,⟨I.base.keep,I.base.slot,λb o q n hx=>?_,I.base.there,λb xs q=>?_,λb o v q=>?_,λb ps q=>?_⟩,I.loc,I.cell,?_,λx c hc=>?_,λp hp=>?_,λb v q=>?_,I.len⟩
 ·have:=I.base.free b o q n hx
  rw[ax (nn b this)];exact this
 ·have z:=I.base.tups b xs q
  rw[ax (λy=>by rw[y,e]at z;exact nt xs (zaQ z))];exact z
 ·have z:=I.base.ja b o v q
  rw[ax (λy=>nz o v (by rw[<-y];exact q))];exact z
 ·obtain⟨m,z⟩:=I.base.jP b ps q
  exact⟨m,by rw[ax (λy=>by rw[y,e]at z;exact nb _ (zaQ z))];exact z⟩
 ·rw[ax (nn _ I.free)];exact I.free
 ·have z:=I.ic x c hc
  rw[ax (nn _ z)];exact z
 ·obtain⟨a1,a2,a3,a4,a5⟩:=I.pin p hp
  exact⟨a1,by rw[ax (nn _ a2)];exact a2,a3,a4,a5⟩
 ·by_cases z:b=a
  ·subst z
   rw[aB]at q;cases q;exact new
  ·rw[ax z]at q
   refine(I.hok b v q).stay (λ_ _ _ r=>r) (λc r=>?_) λc xs r=>?_
   ·rw[ax (λy=>by rw[y,e]at r;exact no b (zaQ r))];exact r
   ·rw[ax (λy=>by rw[y,e]at r;exact nt xs (zaQ r))];exact r
theorem Inv.Fb(I:Inv X pins σ H s)(e:H a=some (.dK kvs)):∀o v,X.H₀ a≠some (.frz o v):=λo v z=>by
 have:=I.base.ja a o v z;rw[e]at this;cases this
theorem Inv.Md(I:Inv X pins σ H s)(e:H a=some (.dK kvs)):∃o,Inv X pins σ (upd H a (.frz o (.dK kvs))) s:=by
 obtain⟨z,hd,vs,rel,dd⟩:=Bo I.hok e;obtain⟨o,es,ep,ho,r⟩:=id dd;exact⟨o,I.view e (λ_ z=>by cases z) (λ_ z=>by cases z) (I.Fb e) (λ_ z=>by cases z) ⟨ho,z,hd,vs,rel,dd⟩⟩
theorem Inv.sD(I:Inv X pins σ H s)(e:H a=some (.frz o (.dK kvs)))(nz:∀o v,X.H₀ a≠some (.frz o v)):Inv X pins σ (upd H a (.dK kvs)) s:=by
 obtain⟨_,z,hd,vs,rel,dd⟩:=I.hok a _ e;exact I.view e (λ_ z=>by cases z) (λ_ z=>by cases z) nz (λ_ z=>by cases z) ⟨z,hd,vs,rel,dd⟩
def Me(a:Addr)(o:Obj)(kvs:List (Key×V))(D:Ends):Ends where
 nx:=fun σ H=>H a=some (.frz o (.dK kvs))/\D.nx σ (upd H a (.dK kvs))
 rt:=λv H=>H a=some (.frz o (.dK kvs))/\D.rt v (upd H a (.dK kvs))
 bk:=fun σ H=>H a=some (.frz o (.dK kvs))/\D.bk σ (upd H a (.dK kvs))
 ct:=fun σ H=>H a=some (.frz o (.dK kvs))/\D.ct σ (upd H a (.dK kvs))
def IS(t:TS):TS:=λD σ H=>∃a kvs,H a=some (.dK kvs)/\∀o,t (Me a o kvs D) σ (upd H a (.frz o (.dK kvs)))
theorem Kx{st:Stmt}(h:PS X st t):PS X st (IS t):=by
 intro pins s σ H D I hw;obtain⟨a,kvs,e,q⟩:=hw;obtain⟨o,I1⟩:=I.Md e;have nz:=I.Fb e;refine za6 (h pins s σ _ _ I1 (q o)) (λf s1 z=>?_) λ_ _ z=>z
 cases f with
 |next=>obtain⟨σ',H',I',e',z⟩:=z;exact⟨σ',_,I'.sD e' nz,z⟩
 |brk=>obtain⟨σ',H',I',e',z⟩:=z;exact⟨σ',_,I'.sD e' nz,z⟩
 |cont=>obtain⟨σ',H',I',e',z⟩:=z;exact⟨σ',_,I'.sD e' nz,z⟩
 |ret u=>obtain⟨v,σ',H',I',r,e',z⟩:=z;exact⟨v,σ',_,I'.sD e' nz,r,z⟩
def IT(t:TE):TE:=fun σ H Q=>∃a kvs,H a=some (.dK kvs)/\∀o,t σ (upd H a (.frz o (.dK kvs))) λv H'=>H' a=some (.frz o (.dK kvs))/\Q v (upd H' a (.dK kvs))
theorem Ky(h:PE X ex t):PE X ex (IT t):=by
 intro pins s σ H Q I hw;obtain⟨a,kvs,e,q⟩:=hw;obtain⟨o,I1⟩:=I.Md e;have nz:=I.Fb e;refine za6 (h pins s σ _ _ I1 (q o)) (λu s1 z=>?_) λ_ _ z=>z
 obtain⟨v,H',I',r,e',z⟩:=z;exact⟨v,_,I'.sD e' nz,r,z⟩
def ItD(a:Addr)(o:Obj)(kvs:List (Key×V)):It where
 go:=λi H=>H a=some (.frz o (.dK kvs))/\i<kvs.length
 yld:=λi H x H'=>H'=H/\∃k v,kvs[i]?=some (k,v)/\x=kV k
 stop:=λi H=>H a=some (.frz o (.dK kvs))/\kvs.length<=i
theorem Mf(r:KV kvs vs)(i:Nat)(h:vs[i]?=some (k,x)):∃v,kvs[i]?=some (k,v):=by
 induction r generalizing i with
 |nil=>simp at h
 |cons h1 t ih=>
  cases i with
  |zero=>
   rename_i p q l l'
   have e:q=(k,x):=by simpa using h
   subst e;exact⟨p.2,by show some p=_;exact congrArg some (Prod.ext h1.1 rfl)⟩
  |succ i=>simpa using ih i (by simpa using h)
theorem CT{K:zag}{a it:Addr}{o:Obj}{kvs:List (Key×V)}{vs:List (Key×Value)}{ep:Nat}{h₁:Heap}(rel:KV kvs vs)(ho:h₁.get? a=some o)(hat:h₁.DictAt (b6 P w) a vs ep) :
  Turn P w K tg (ItD a o kvs) [it] it (λi h=>h.IsKeyIter it a i vs.length ep) where
 mem:=by simp
 obj:=λi h st b hb=>by
  have e:b=it:=by simpa using hb
  subst e;obtain⟨o,e,c,d⟩:=st;exact⟨o,e,λv z=>by rw[d]at z;cases z⟩
 keep:=λi h h' st k=>st.at λo e=>k it (by simp) o e
 item:=by
  intro X hP hw hK hc i pins s σ H E I hf st hg;subst hP hw hK;obtain⟨hH,hi⟩:=hg;obtain⟨hg,_⟩:=I.hok a _ hH;have hd:s.heap.DictAt (b6 X.prog X.w) a vs ep:=hat.at' λo' e=>by rw[ho]at e;cases e;exact hg
  obtain⟨f0,f1,f2,f3,f4,f5⟩:=hf it (by simp)
  have hl:=rel.length;obtain⟨⟨k,x⟩,hx⟩:∃p,vs[i]?=some p:=⟨vs[i]'(by omega),by simp⟩
  refine wpAny_pyNext_dict_item st hd hx λkey h' hkey st' sb=>?_
  have I1:Inv X pins σ H {s with heap:=h'}:=I.turned (t':=s.toks) (λb o hb e=>(sb.2 b hb).trans e) f0 f1 f3 f4 f5
  obtain⟨oi,e,c,d⟩:=id st';obtain⟨v,hv⟩:=Mf rel i hx;exact⟨key,rfl,AH (s:={s with heap:=h'}) e c d (by decide) ⟨kV k,H,I1,E8 hkey,⟨rfl,k,v,hv,rfl⟩,st',λb hb=>(hf b hb).1⟩⟩
 done:=by
  intro X hP hw hK hc i pins s σ H E I hf st hg;subst hP hw hK;obtain⟨hH,hi⟩:=hg;obtain⟨hg,_⟩:=I.hok a _ hH;have hd:s.heap.DictAt (b6 X.prog X.w) a vs ep:=hat.at' λo' e=>by rw[ho]at e;cases e;exact hg
  obtain⟨f0,f1,f2,f3,f4,f5⟩:=hf it (by simp)
  have hl:=rel.length;exact wpAny_pyNext_dict_end (I.ok.hd hc) st hd (by simp;omega) λh' eb=>⟨rfl,I.turned (t':=s.toks) (λb o hb e=>eb b o hb e) f0 f1 f3 f4 f5⟩
 self:=λA i s Q E st q=>wpAny_pyIter_keyiter st q
def Mg(tl:TE):TI:=fun σ H R=>tl σ H λx H1=>∃a o kvs,x=.ref a/\H1 a=some (.frz o (.dK kvs))/\R (ItD a o kvs) H1
theorem Hj(hl:PE X l tl):PI X tg l (Mg tl):=by
 intro pins s σ H R I h;refine thn (hl pins s σ H _ I h) λv s1 ⟨x,H1,I1,r1,q1⟩=>?_
 obtain⟨a,o,kvs,e,hH,q⟩:=q1;subst e;cases r1;obtain⟨ho,z,hd,vs,rel,dd⟩:=I1.hok a _ hH;obtain⟨ep,hat⟩:=dd.dictAt;refine wpAny_pyIter_dict hd hat ?_;refine⟨s1.heap.objs.size,[s1.heap.objs.size],_,_,H1,rfl,I1.kept (t':=s1.toks) λb o e=>zar _ e,CT rel ho hat,⟨_,zaL _ rfl,rfl,rfl⟩,λb hb=>?_,q⟩
 have e:b=s1.heap.objs.size:=by simpa using hb
 subst e;exact I1.zt (zap _) (I1.hok.fresh (zap _))
end
end L2
namespace Mir
open PySem L2
variable [Zc]
mutual
theorem Rep.map(hL:∀p xs,Rd B p (.lst xs)->Rd B' p (.lst xs))(hT:∀p xs,B p=some (.tup xs)->B' p=some (.tup xs))(hD:∀p kvs,Rd B p (.dK kvs)->Rd B' p (.dK kvs)):∀{v:V} {d:D},Rep B v d->Rep B' v d
 |_,_,.non=>.non
 |_,_,.bl b=>.bl b
 |_,_,.int i=>.int i
 |_,_,.str x=>.str x
 |_,_,.lst h r=>.lst (hL _ _ h) (aY.map hL hT hD r)
 |_,_,.tup h r=>.tup (hT _ _ h) (aY.map hL hT hD r)
 |_,_,.dct h r=>.dct (hD _ _ h) (bD.map' hL hT hD r)
theorem aY.map(hL:∀p xs,Rd B p (.lst xs)->Rd B' p (.lst xs))(hT:∀p xs,B p=some (.tup xs)->B' p=some (.tup xs))(hD:∀p kvs,Rd B p (.dK kvs)->Rd B' p (.dK kvs)):∀{vs:List V} {ds:List D},aY B vs ds->aY B' vs ds
 |_,_,.nil=>.nil
 |_,_,.cons h r=>.cons (Rep.map hL hT hD h) (aY.map hL hT hD r)
theorem bD.map'(hL:∀p xs,Rd B p (.lst xs)->Rd B' p (.lst xs))(hT:∀p xs,B p=some (.tup xs)->B' p=some (.tup xs))(hD:∀p kvs,Rd B p (.dK kvs)->Rd B' p (.dK kvs)):∀{kvs:List (Key×V)} {es:List (D×D)},bD B kvs es->bD B' kvs es
 |_,_,.nil=>.nil
 |_,_,.cons hk h r=>.cons hk (Rep.map hL hT hD h) (bD.map' hL hT hD r)
end
section
variable{B:Hp}{a:Addr}{o:Obj}{kvs:List (Key×V)}
theorem sE(hB:B a=some (.dK kvs)):∀p xs,Rd B p (.lst xs)->Rd (upd B a (.frz o (.dK kvs))) p (.lst xs):=λp xs h=>by
 by_cases z:p=a
 ·subst z
  rcases h with h|⟨o',h⟩<;>(rw[hB]at h;cases h)
 ·rcases h with h|⟨o',h⟩
  ·exact .inl (by rw[ax z];exact h)
  ·exact .inr ⟨o',by rw[ax z];exact h⟩
theorem sF(hB:B a=some (.dK kvs)):∀p xs,B p=some (.tup xs)->upd B a (.frz o (.dK kvs)) p=some (.tup xs):=λp xs h=>by
 rw[ax (λz=>by rw[z,hB]at h;cases h)];exact h
theorem sG(hB:B a=some (.dK kvs)):∀p kvs',Rd B p (.dK kvs')->Rd (upd B a (.frz o (.dK kvs))) p (.dK kvs'):=λp xs h=>by
 by_cases z:p=a
 ·subst z
  rcases h with h|⟨o',h⟩
  ·rw[hB]at h;cases h
   exact .inr ⟨o,aB⟩
  ·rw[hB]at h;cases h
 ·rcases h with h|⟨o',h⟩
  ·exact .inl (by rw[ax z];exact h)
  ·exact .inr ⟨o',by rw[ax z];exact h⟩
theorem pP(hB:B a=some (.frz o (.dK kvs))):∀p xs,Rd B p (.lst xs)->Rd (upd B a (.dK kvs)) p (.lst xs):=λp xs h=>by
 by_cases z:p=a
 ·subst z
  rcases h with h|⟨o',h⟩<;>(rw[hB]at h;cases h)
 ·rcases h with h|⟨o',h⟩
  ·exact .inl (by rw[ax z];exact h)
  ·exact .inr ⟨o',by rw[ax z];exact h⟩
theorem pQ(hB:B a=some (.frz o (.dK kvs))):∀p xs,B p=some (.tup xs)->upd B a (.dK kvs) p=some (.tup xs):=λp xs h=>by
 rw[ax (λz=>by rw[z,hB]at h;cases h)];exact h
theorem pR(hB:B a=some (.frz o (.dK kvs))):∀p kvs',Rd B p (.dK kvs')->Rd (upd B a (.dK kvs)) p (.dK kvs'):=λp xs h=>by
 by_cases z:p=a
 ·subst z
  rcases h with h|⟨o',h⟩
  ·rw[hB]at h;cases h
  ·rw[hB]at h;cases h
   exact .inl aB
 ·rcases h with h|⟨o',h⟩
  ·exact .inl (by rw[ax z];exact h)
  ·exact .inr ⟨o',by rw[ax z];exact h⟩
end
def qP(ρ:Rho):Bool:=ρ.all λs=>match s with
 | .ro _=>false
 |_=>true
theorem Bw(h:qP ρ=true){i:Nat}(z : ρ[i]?=some (.ro d)):False:=by
 have:=(List.all_eq_true.mp h) _ (zaj z);cases this
def Fr.hide(F:Fr)(a:Addr)(u:HO):Fr:=⟨λq=>if q=a then(F.B a).map λ_=>u else F.B q,λq=>if q=a then(F.H a).map λ_=>u else F.H q,F.io,λq=>F.Z q\/q=a⟩
section
variable{F:Fr}{B H:Hp}{σ:St}{ρ:Rho}{a:Addr}{o:Obj}{kvs:List (Key×V)}
theorem Own.ne(hp:B p=none)(hB:B a=some u):p≠a:=λz=>by rw[z,hB]at hp;cases hp
theorem Rel.hide(R:Rel F B H σ ρ)(hB:B a=some (.dK kvs))(nr:qP ρ=true):Rel (F.hide a (.frz o (.dK kvs))) (upd B a (.frz o (.dK kvs))) (upd H a (.frz o (.dK kvs))) σ ρ:=by
 have own:∀{p:Addr} {d:D},B p=none->Own B H p d->Own (upd B a (.frz o (.dK kvs))) (upd H a (.frz o (.dK kvs))) p d:=fun{p d} hp h=>by
  have z:=Own.ne hp hB;cases h with
  |lst h r=>exact .lst (by rw[ax z];exact h) (aY.map (sE hB) (sF hB) (sG hB) r)
  |dct h r=>exact .dct (by rw[ax z];exact h) (bD.map' (sE hB) (sF hB) (sG hB) r)
 refine⟨λq u h=>?_,λq u h=>?_,λq u h n=>?_,λq h1 h2=>?_,R.len,λi s hs=>?_,R.dist,λi d p h1 h2=>?_,R.fx,R.ioN,λq xs h=>?_,R.exv,λq o' u h=>?_⟩
 ·by_cases z:q=a
  ·subst z;rw[aB]at h⊢;exact h
  ·rw[ax z]at h⊢;exact R.sub q u h
 ·by_cases z:q=a
  ·subst z
   have e:(∃x,F.B q=some x)/\HO.frz o (HO.dK kvs)=u:=by simpa[Fr.hide]using h
   rw[aB,e.2]
  ·rw[ax z];exact R.sB q u (by simpa[Fr.hide,z]using h)
 ·by_cases z:q=a
  ·subst z
   have e:(∃x,F.H q=some x)/\HO.frz o (HO.dK kvs)=u:=by simpa[Fr.hide]using h
   rw[aB,e.2]
  ·rw[ax z];exact R.sH q u (by simpa[Fr.hide,z]using h) n
 ·by_cases z:q=a
  ·subst z
   have g1:F.H q≠none:=λy=>h1 (by simp[Fr.hide,y])
   have g2:F.B q=none:=by simpa[Fr.hide]using h2
   have:=R.nB q g1 g2;rw[hB]at this;cases this
  ·rw[ax z];exact R.nB q (by simpa[Fr.hide,z]using h1) (by simpa[Fr.hide,z]using h2)
 ·have:=R.slot i s hs
  cases s with
  |no=>trivial
  |ex=>trivial
  |fz d=>obtain⟨v,h1,h2⟩:=this;exact⟨v,h1,Rep.map (sE hB) (sF hB) (sG hB) h2⟩
  |own d=>obtain⟨p,h1,h2,h3⟩:=this;exact⟨p,h1,by rw[ax (Own.ne h2 hB)];exact h2,own h2 h3⟩
  |io d=>obtain⟨p,h1,h2,h3⟩:=this;exact⟨p,h1,by rw[ax (Own.ne h2 hB)];exact h2,own h2 h3⟩
  |ro d=>exact(Bw nr hs).elim
 ·have h3:=R.kc i d p h1 h2
  obtain⟨p',g1,g2,_⟩:=R.slot i _ h1;rw[h2]at g1;cases g1
  have z:=Own.ne g2 hB;show(if p=a then _ else F.H p)=none
  rw[if_neg z];exact h3
 ·have z:q≠a:=λz=>by rw[z,aB]at h;cases h
  rw[ax z]at h⊢;exact R.cW q xs h
 ·by_cases z:q=a
  ·exact .inr z
  ·rw[ax z]at h;exact .inl (R.nz q o' u h)
theorem Rel.show(R0:∃B0 H0 σ0 ρ0,Rel F B0 H0 σ0 ρ0/\B0 a=some (.dK kvs))(R:Rel (F.hide a (.frz o (.dK kvs))) B H σ ρ)(hB:B a=some (.frz o (.dK kvs)))(nr:qP ρ=true):Rel F (upd B a (.dK kvs)) (upd H a (.dK kvs)) σ ρ:=by
 obtain⟨B0,H0,σ0,ρ0,R0,hB0⟩:=R0;have own:∀{p:Addr} {d:D},B p=none->Own B H p d->Own (upd B a (.dK kvs)) (upd H a (.dK kvs)) p d:=fun{p d} hp h=>by
  have z:=Own.ne hp hB;cases h with
  |lst h r=>exact .lst (by rw[ax z];exact h) (aY.map (pP hB) (pQ hB) (pR hB) r)
  |dct h r=>exact .dct (by rw[ax z];exact h) (bD.map' (pP hB) (pQ hB) (pR hB) r)
 refine⟨λq u h=>?_,λq u h=>?_,λq u h n=>?_,λq h1 h2=>?_,R.len,λi s hs=>?_,R.dist,λi d p h1 h2=>?_,R.fx,R.ioN,λq xs h=>?_,R.exv,λq o' u h=>?_⟩
 ·by_cases z:q=a
  ·subst z;rw[aB]at h⊢;exact h
  ·rw[ax z]at h⊢;exact R.sub q u h
 ·by_cases z:q=a
  ·subst z
   have:=R0.sB q u h;rw[hB0]at this;rw[aB];exact this
  ·rw[ax z];exact R.sB q u (by simpa[Fr.hide,z]using h)
 ·by_cases z:q=a
  ·subst z
   have:=R0.sH q u h n;rw[R0.sub q _ hB0]at this;rw[aB];exact this
  ·rw[ax z];exact R.sH q u (by simpa[Fr.hide,z]using h) n
 ·by_cases z:q=a
  ·subst z
   have:=R0.nB q h1 h2;rw[hB0]at this;cases this
  ·rw[ax z];exact R.nB q (by simpa[Fr.hide,z]using h1) (by simpa[Fr.hide,z]using h2)
 ·have:=R.slot i s hs
  cases s with
  |no=>trivial
  |ex=>trivial
  |fz d=>obtain⟨v,h1,h2⟩:=this;exact⟨v,h1,Rep.map (pP hB) (pQ hB) (pR hB) h2⟩
  |own d=>obtain⟨p,h1,h2,h3⟩:=this;exact⟨p,h1,by rw[ax (Own.ne h2 hB)];exact h2,own h2 h3⟩
  |io d=>obtain⟨p,h1,h2,h3⟩:=this;exact⟨p,h1,by rw[ax (Own.ne h2 hB)];exact h2,own h2 h3⟩
  |ro d=>exact(Bw nr hs).elim
 ·have h3:=R.kc i d p h1 h2
  obtain⟨p',g1,g2,_⟩:=R.slot i _ h1;rw[h2]at g1;cases g1
  have z:=Own.ne g2 hB;have:(if p=a then(F.H a).map λ_=>HO.frz o (.dK kvs)else F.H p)=none:=h3
  rw[if_neg z]at this;exact this
 ·have z:q≠a:=λz=>by rw[z,aB]at h;cases h
  rw[ax z]at h⊢;exact R.cW q xs h
 ·have z:q≠a:=λz=>by rw[z,aB]at h;cases h
  rw[ax z]at h;rcases R.nz q o' u h with w|w
  ·exact w
  ·exact absurd w z
end
theorem Fc(h:G a=some (.frz o (.dK kvs)))(r:bD B kvs es):oE G B (ItD a o kvs) (es.map (·.1)):=λH s=>by
 have h':=s _ _ h;have hl:=r.length;refine⟨⟨h',by rw[zal];omega⟩,λi d hd=>?_⟩
 have hi:i<es.length:=by have:=(zac hd).1;rwa[zal]at this
 refine⟨⟨h',by omega⟩,λx H' hy=>?_⟩
 obtain⟨rfl,k,v,hk,rfl⟩:=hy;refine .inl ⟨rfl,?_⟩;have kr:=sC r;obtain⟨w,h1,h2⟩:=kr.get i d hd;have e:(kvs.map λq=>kV q.1)[i]?=some (kV k):=by rw[zao,hk];rfl
 rw[e]at h1;cases h1;exact h2
theorem Fd(hg:MG tg g)(hb:MS tb b){F:Fr}{B1 H1:Hp}{σ:St}{ρ1:Rho}{J:It}{ds:List D}{o:Out}{D:Ends}(R1:Rel F B1 H1 σ ρ1)(I1:oE B1 B1 J ds)(e:forL g b ds ρ1=some o)(q:nR F D o) :
  ∃W:Nat->Nat->St->Hp->Prop,(∃m,W 0 m σ H1)/\∀i m σ H,W i m σ H->(J.stop i H/\D.nx σ H)\/(J.go i H/\∃N:St->Hp->Prop,(∀σ' H',N σ' H'->∃m',m'<m/\W (i+1) m' σ' H')/\∀x H',J.yld i H x H'->tg x σ H' fun σ2 H2=>tb {D with nx:=N,ct:=N,bk:=D.nx} σ2 H2):=by
 have q':=q.down R1;refine⟨λi m σ H=>m=ds.length-i/\i<=ds.length/\∃B ρ,Rel ⟨B1,F.H,F.io,F.Z⟩ B H σ ρ/\forL g b (ds.drop i) ρ=some o,⟨ds.length,rfl,Nat.zero_le _,B1,ρ1,R1.down,e⟩,?_⟩
 rintro i m σ2 H2 ⟨rfl,hil,B2,ρ2,R2,e2⟩
 have sH:aG B1 H2:=R2.sB.trans R2.sub
 by_cases hlt:i<ds.length
 ·refine .inr ?_
  obtain⟨go,yl⟩:=(I1 H2 sH).2 i ds[i] (zaC hlt);rw[zbb hlt]at e2;obtain⟨ρ3,e3,e4⟩:=zaa (show(g ds[i] ρ2).bind _=some o from e2);obtain⟨w,e5,e6⟩:=zaa e4;refine⟨go,fun σ' H'=>∃B' ρ',Rel ⟨B1,F.H,F.io,F.Z⟩ B' H' σ' ρ'/\forL g b (ds.drop (i+1)) ρ'=some o,fun σ' H' h'=>⟨ds.length-(i+1),by omega,rfl,hlt,h'⟩,λy H3 hy=>?_⟩
  have had:∃B3,Rel ⟨B1,F.H,F.io,F.Z⟩ B3 H3 σ2 ρ2/\Rep B3 y ds[i]:=by
   rcases yl y H3 hy with⟨rfl,h2⟩|⟨p,xs,cs,h1,rfl,h3,rfl,h5⟩
   ·exact⟨B2,R2,h2.mono R2.sB⟩
   ·obtain⟨R3,E3,e3⟩:=R2.tP (xs:=xs) h3
    exact⟨_,R3,by rw[h1];exact .tup aB (h5.mono (R2.sB.trans e3))⟩
  obtain⟨B3,R3,rp⟩:=had;refine hg _ B3 H3 σ2 ρ2 y ds[i] ρ3 _ R3 rp e3 λB4 H4 σ4 R4 _=>?_
  refine hb _ B4 H4 σ4 ρ3 w _ R4 e5 ?_;cases w with
  |nx ρ'=>exact λB' H' σ' R'=>⟨B',ρ',R',e6⟩
  |ct ρ'=>exact λB' H' σ' R'=>⟨B',ρ',R',e6⟩
  |bk ρ'=>cases e6;exact q'
  |rt r ρ'=>cases e6;exact q'
 ·have hi':i=ds.length:=by omega
  subst hi';rw[List.drop_length]at e2;cases e2;exact .inl ⟨(I1 H2 sH).1,q' B2 H2 σ2 R2⟩
def Kz:Out->Rho
 | .nx ρ=>ρ
 | .rt _ ρ=>ρ
 | .bk ρ=>ρ
 | .ct ρ=>ρ
def uM:RV->Option (List (D×D))
 |(.dict es,.fz)=>some es
 |_=>none
theorem ym(h:uM r=some es):r=(.dict es,.fz):=by
 unfold uM at h;split at h
 ·cases h;rfl
 ·cases h
def Calm(tl:TE)(dv:PM):Prop:=∀(F:Fr) (B H:Hp) (σ:St) (ρ:Rho) (r:RV) (ρ':Rho),Rel F B H σ ρ->dv ρ=some (r,ρ')->ρ'=ρ/\∃v,Rep B v r.1/\(∀Q:VK,Q v H->tl σ H Q)/\∀a o kvs,B a=some (.dK kvs)->∀Q:VK,Q v (upd H a (.frz o (.dK kvs)))->tl σ (upd H a (.frz o (.dK kvs))) Q
def yn(i:Nat):PM:=fun ρ=>match ρ[i]? with
 |some (.fz d)=>some ((d,.fz),ρ)
 |_=>none
theorem yo:Calm (nW i) (yn i):=by
 intro F B H σ ρ r ρ' R e;unfold yn at e;split at e
 ·rename_i d h
  cases e;obtain⟨v,h1,h2⟩:=R.slot i _ h;exact⟨rfl,v,h2,λQ q=>⟨v,h1,q⟩,λa o kvs _ Q q=>⟨v,h1,q⟩⟩
 ·cases e
def KA(dv:PM)(j:Nat):PM:=fun ρ=>(dv ρ).bind λx=>match x.1.1 with
 | .tuple ds=>(ds[j]?).map λd=>((d,.fz),x.2)
 |_=>none
theorem Hk{j:Nat}(h:Calm tl dv):Calm (tOp (rIx K) tl (tC (.int (j:Int)))) (KA dv j):=by
 intro F B H σ ρ r ρ' R e;obtain⟨x,e1,e⟩:=zaa e;obtain⟨⟨c,k⟩,ρ1⟩:=x;cases c with
 |tuple ds=>
  obtain⟨d,e2,e⟩:=zab (show(ds[j]?).map _=some (r,ρ')from e);cases e;obtain⟨rfl,v,rv,h1,h2⟩:=h F B H σ ρ _ _ R e1;refine⟨rfl,?_⟩;cases rv with
  | @tup p xs _ hp rp=>
   obtain⟨w,g1,g2⟩:=rp.get j d e2;have at1:atI xs (j:Int)=some w:=by
    have hl:j<xs.length:=(zac g1).1;unfold atI;have:ixN xs.length (j:Int)=some j:=GQ hl;rw[this];exact g1
   refine⟨w,g2,λQ q=>h1 _ (.inr (.inl ⟨p,xs,(j:Int),w,rfl,rfl,.inl (.inl (R.sub _ _ hp)),at1,q⟩)),λa o kvs ha Q q=>h2 a o kvs ha _ (.inr (.inl ⟨p,xs,(j:Int),w,rfl,rfl,.inl (.inl ?_),at1,q⟩))⟩
   rw[ax (λz=>by rw[z,ha]at hp;cases hp)]
   exact R.sub _ _ hp
 |_=>cases e
theorem Own.show(hB:B a=some (.frz o (.dK kvs)))(z:p≠a)(h:Own B H p d):Own (upd B a (.dK kvs)) (upd H a (.dK kvs)) p d:=by
 cases h with
 |lst h r=>exact .lst (by rw[ax z];exact h) (aY.map (pP hB) (pQ hB) (pR hB) r)
 |dct h r=>exact .dct (by rw[ax z];exact h) (bD.map' (pP hB) (pQ hB) (pR hB) r)
theorem yp(hB:B a=some (.frz o (.dK kvs)))(hH:H a=some (.frz o (.dK kvs)))(V:Val (F.hide a (.frz o (.dK kvs))) B H σ ρ v r):Val F (upd B a (.dK kvs)) (upd H a (.dK kvs)) σ ρ v r:=by
 obtain⟨c,k⟩:=r;cases k with
 |fz=>exact Rep.map (pP hB) (pQ hB) (pR hB) V
 |new=>
  obtain⟨p,rfl,h1,h2,h3,h4⟩:=V;have z:=Own.ne h1 hB;refine⟨p,rfl,by rw[ax z];exact h1,?_,Own.show hB z h3,h4⟩
  have:(if p=a then(F.H a).map λ_=>HO.frz o (.dK kvs)else F.H p)=none:=h2
  rw[if_neg z]at this;exact this
 | «at» i=>exact V
 |ro=>
  obtain⟨p,rfl,h1,h2⟩:=V;have z:p≠a:=λz=>by
   subst z;cases h1 with
   |lst h _=>rw[hH]at h;cases h
   |dct h _=>rw[hH]at h;cases h
  exact⟨p,rfl,Own.show hB z h1,h2⟩
theorem Fe{a:Addr}{ob:Obj}{kvs:List (Key×V)}(R0:Rel F B0 H0 σ0 ρ0)(hB:B0 a=some (.dK kvs)){o:Out}{D:Ends}(nr:qP (Kz o)=true)(q:nR F D o):nR ⟨upd B0 a (.frz ob (.dK kvs)),(F.hide a (.frz ob (.dK kvs))).H,F.io,(F.hide a (.frz ob (.dK kvs))).Z⟩ (Me a ob kvs D) o:=by
 have up:∀{B H σ ρ},Rel ⟨upd B0 a (.frz ob (.dK kvs)),(F.hide a (.frz ob (.dK kvs))).H,F.io,(F.hide a (.frz ob (.dK kvs))).Z⟩ B H σ ρ->Rel (F.hide a (.frz ob (.dK kvs))) B H σ ρ/\B a=some (.frz ob (.dK kvs)):=fun{B H σ ρ} R=>by
  refine⟨⟨R.sub,λq u h=>R.sB q u ?_,R.sH,λq h z=>R.nB q h ?_,R.len,R.slot,R.dist,R.kc,R.fx,R.ioN,R.cW,R.exv,R.nz⟩,R.sB a _ aB⟩
  ·show upd B0 a _ q=some u
   by_cases w:q=a
   ·subst w
    have e:(∃x,F.B q=some x)/\HO.frz ob (HO.dK kvs)=u:=by simpa[Fr.hide]using h
    rw[aB,e.2]
   ·rw[ax w];exact R0.sB q u (by simpa[Fr.hide,w]using h)
  ·show upd B0 a _ q=none
   by_cases w:q=a
   ·subst w
    have g1:F.H q≠none:=λy=>h (by simp[Fr.hide,y])
    have g2:F.B q=none:=by simpa[Fr.hide]using z
    have:=R0.nB q g1 g2;rw[hB]at this;cases this
   ·rw[ax w];exact R0.nB q (by simpa[Fr.hide,w]using h) (by simpa[Fr.hide,w]using z)
 cases o with
 |nx ρ=>exact λB H σ R=>⟨R.sub a _ (up R).2,q _ _ _ (Rel.show ⟨_,_,_,_,R0,hB⟩ (up R).1 (up R).2 nr)⟩
 |bk ρ=>exact λB H σ R=>⟨R.sub a _ (up R).2,q _ _ _ (Rel.show ⟨_,_,_,_,R0,hB⟩ (up R).1 (up R).2 nr)⟩
 |ct ρ=>exact λB H σ R=>⟨R.sub a _ (up R).2,q _ _ _ (Rel.show ⟨_,_,_,_,R0,hB⟩ (up R).1 (up R).2 nr)⟩
 |rt r ρ=>exact λv B H σ R V=>⟨R.sub a _ (up R).2,q _ _ _ _ (Rel.show ⟨_,_,_,_,R0,hB⟩ (up R).1 (up R).2 nr) (yp (up R).2 (R.sub a _ (up R).2) V)⟩
def Fg(t:TS):TS:=λD σ H=>IS t D σ H\/t D σ H
theorem _root_.L2.Bx{X:Cx}{st:Stmt}{t:TS}(h:PS X st t):PS X st (Fg t):=by
 intro pins s σ H D I hw;rcases hw with hw|hw
 ·exact Kx h pins s σ H D I hw
 ·exact h pins s σ H D I hw
end Mir
namespace Mir
open PySem L2
variable [Zc]
theorem IU{e:PM}(hc:MT tc c)(he:ME te e){F:Fr}{B1 H1:Hp}{σ:St}{ρ1:Rho}{J:It}{ds out:List D}{Q:VK}(R1:Rel F B1 H1 σ ρ1)(I1:oE H1 B1 J ds)(e2:kf c e (fr.map λp=>cb ρ1 p.2) ds=some out)(hz:out.length<sizeLine)
  (q:∀v B' H',Ext σ ρ1 B1 H1 ρ1 B' H'->Rel F B' H' σ ρ1->Val F B' H' σ ρ1 v (.list out,.new)->(∀p,Kd.new=Kd.new->v=.ref p->H1 p=none)->Q v H') :
  ∃W:Nat->Nat->List V->Hp->Prop,(∃m,W 0 m [] H1)/\∀i m ys H2,W i m ys H2->ys.length<sizeLine/\
 ((J.stop i H2/\∀D,H2 D=none->Q (.ref D) (upd H2 D (.lst ys)))\/
  (J.go i H2/\∀v H3,J.yld i H2 v H3->tc (some v::bQ σ fr) H3 λb H4=>
   if b=true then te (some v::bQ σ fr) H4 λy H5=>∃m',m'<m/\W (i+1) m' (ys++[y]) H5 else∃m',m'<m/\W (i+1) m' ys H4)):=by
 refine⟨λi m ys H2=>m=ds.length-i/\i<=ds.length/\∃B2 done rest,aG B1 B2/\aG H1 H2/\(∀q,H1 q≠none->B1 q=none->B2 q=none)/\Rel F B2 H2 σ ρ1/\aY B2 ys done/\kf c e (fr.map λp=>cb ρ1 p.2) (ds.drop i)=some rest/\done++rest=out,
  ⟨ds.length,rfl,Nat.zero_le _,B1,[],out,aG.refl _,aG.refl _,λ_ _ z=>z,R1,.nil,e2,rfl⟩,?_⟩
 rintro i m ys H2 ⟨rfl,hil,B2,done,rest,eB,eH,nb,R2,rp,hcl,hdr⟩
 have hlen:ys.length<=out.length:=by rw[<-hdr,zau,rp.length];omega
 refine⟨by omega,?_⟩
 by_cases hlt:i<ds.length
 ·refine .inr ?_
  obtain⟨go,yl⟩:=(I1 H2 eH).2 i ds[i] (zaC hlt);refine⟨go,λv H3 hy=>?_⟩
  rw[zbb hlt]at hcl;obtain⟨b,c1,c2⟩:=zaa (show(c (.fz ds[i]::fr.map λp=>cb ρ1 p.2)).bind _=some rest from hcl)
  have had:∃B3,aG B2 B3/\aG H2 H3/\(∀q,H2 q≠none->B2 q=none->B3 q=none)/\Rel F B3 H3 σ ρ1/\Rep B3 v ds[i]:=by
   rcases yl v H3 hy with⟨rfl,h2⟩|⟨p,xs,cs,h1,rfl,h3,rfl,h5⟩
   ·exact⟨B2,aG.refl _,aG.refl _,λ_ _ z=>z,R2,h2.mono eB⟩
   ·obtain⟨R3,E3,e3⟩:=R2.tP (xs:=xs) h3
    refine⟨_,e3,fO h3,λq h z=>?_,R3,?_⟩
    ·rw[ax (show q≠p from λy=>h (by rw[y];exact h3))];exact z
    ·rw[h1];exact .tup aB (h5.mono (eB.trans e3))
  obtain⟨B3,eB3,eH3,nb3,R3,rv⟩:=had;have Ri:=R3.inner fr rv;refine hc (F0 H3) B3 H3 _ _ b.1 b.2 _ Ri c1 λB4 H4 E4 R4=>?_
  obtain⟨eH4,nb4⟩:=kg ji E4;have R4o:Rel F B4 H4 σ ρ1:=R3.grow E4.sB eH4 R4.sub nb4 R4.cW R4.nz;have nbA:∀q,H1 q≠none->B1 q=none->B4 q=none:=λq h z=>by
   have h2:H2 q≠none:=λy=>h (eH.free y)
   have h3:H3 q≠none:=λy=>h2 (eH3.free y)
   exact nb4 q h3 (nb3 q h2 (nb q h z))
  cases hb:b.1 with
  |false=>
   rw[hb,if_neg zam]at c2;rw[if_neg zam];exact⟨ds.length-(i+1),by omega,rfl,hlt,B4,done,rest,eB.trans (eB3.trans E4.sB),eH.trans (eH3.trans eH4),nbA,R4o,rp.mono (eB3.trans E4.sB),c2,hdr⟩
  |true=>
   rw[hb,if_pos rfl]at c2;rw[if_pos rfl];obtain⟨y,c3,c2⟩:=zaa c2;obtain⟨z,c4,c2⟩:=zaa c2;obtain⟨rest',c5,c6⟩:=zab c2;subst c6;have Ri4:=R4o.inner fr (rv.mono E4.sB);refine he.sv (F0 H4) B4 H4 _ _ y.1 y.2 _ Ri4 c3 λu B5 H5 E5 R5 V5 N5=>?_
   obtain⟨eH5,nb5⟩:=kg ji E5;have R5o:Rel F B5 H5 σ ρ1:=R4o.grow E5.sB eH5 R5.sub nb5 R5.cW R5.nz;rw[Ed c4]at V5;refine⟨ds.length-(i+1),by omega,rfl,hlt,B5,done++[z],rest',eB.trans (eB3.trans (E4.sB.trans E5.sB)),eH.trans (eH3.trans (eH4.trans eH5)),λq h w=>?_,R5o,(rp.mono (eB3.trans (E4.sB.trans E5.sB))).append (.cons V5 .nil),c5,by rw[zaD];exact hdr⟩
   have h2:H2 q≠none:=λy=>h (eH.free y)
   have h3:H3 q≠none:=λy=>h2 (eH3.free y)
   have h4:H4 q≠none:=λy=>h3 (eH4.free y)
   exact nb5 q h4 (nbA q h w)
 ·have hi':i=ds.length:=by omega
  subst hi';refine .inl ⟨(I1 H2 eH).1,λp hp=>?_⟩
  rw[List.drop_length]at hcl;cases hcl;rw[zaR]at hdr;subst hdr;have E2:Ext σ ρ1 B1 H1 ρ1 B2 H2:=Ext.grow eB eH nb;have:=g7 (res:=(.list done,true)) (k:=λQ=>∀p,H2 p=none->Q (.ref p) (upd H2 p (.lst ys))) (Q:=Q) R2 ⟨ys,rp,λQ h=>h⟩ λv B' H' E R' V' N=>q v B' H' (E2.trans E) R' V' λp z1 z2=>E2.live p (N p z1 z2)
  exact this p hp
def Fh(fr:List (Str×Nat))(dv:PM)(c:Rho->Option (Bool×Rho))(e:PM):PM:=fun ρ=>(dv ρ).bind λx=>(uM x.1).bind λes=>if qP ρ=true then(kf c e (fr.map λp=>cb ρ p.2) (es.map (·.1))).bind λout=>cIf (out.length<sizeLine) (some ((.list out,.new),ρ)) none else none
def Fi(t:TE):TE:=fun σ H Q=>IT t σ H Q\/t σ H Q
theorem _root_.L2.MP{X:Cx}{ex:Expr}{t:TE}(h:PE X ex t):PE X ex (Fi t):=by
 intro pins s σ H Q I hw;rcases hw with hw|hw
 ·exact Ky h pins s σ H Q I hw
 ·exact h pins s σ H Q I hw
theorem KC(hd:Calm tl dv)(hc:MT tc c)(he:ME te e):ME (Fi (tLC fr (Mg tl) tc te)) (Fh fr dv c e):=by
 intro F B H σ ρ r0 ρ' Q R e0 q;obtain⟨x,e1,e0⟩:=zaa e0;obtain⟨es,e2,e0⟩:=zaa e0;split at e0
 rotate_left
 ·cases e0
 rename_i nr
 obtain⟨out,e3,e0⟩:=zaa e0;obtain⟨hz,e0⟩:=df e0;cases e0;obtain⟨r,ρ1⟩:=x;obtain⟨_,v,rv,h1,h2⟩:=hd F B H σ ρ r ρ1 R e1;obtain rfl:=ym e2;cases rv with
 | @dct a kvs _ hdd rk=>
  rcases hdd with hdd|⟨ob,hdd⟩
  ·refine .inl ⟨a,kvs,R.sub a _ hdd,λob=>?_⟩
   have R':=R.hide (o:=ob) hdd nr;refine h2 a ob kvs hdd _ ⟨a,ob,kvs,rfl,aB,?_⟩;refine IU (Q:=λv H'=>H' a=some (.frz ob (.dK kvs))/\Q v (upd H' a (.dK kvs))) hc he R' (Fc aB (bD.map' (sE hdd) (sF hdd) (sG hdd) rk)) e3 hz λw B' H' E' RR V' N'=>?_
   have hB':B' a=some (.frz ob (.dK kvs)):=E'.sB a _ aB;have hH':=RR.sub a _ hB';refine⟨hH',q w _ _ ?_ (Rel.show ⟨_,_,_,_,R,hdd⟩ RR hB' nr) (yp hB' hH' V') λp z1 z2=>?_⟩
   ·refine⟨λp u h=>?_,λp u h n=>?_,E'.own,E'.ref,λp h=>?_⟩
    ·by_cases z:p=a
     ·subst z;rw[aB,<-hdd];exact h
     ·rw[ax z];exact E'.sB p u (by rw[ax z];exact h)
    ·by_cases z:p=a
     ·subst z
      rw[R.sub p _ hdd]at h;exact⟨by rw[aB];exact h,λy=>by rw[hdd]at y;cases y⟩
     ·obtain⟨k1,k2⟩:=E'.keep p u (by rw[ax z];exact h) n
      exact⟨by rw[ax z];exact k1,λy=>by rw[ax z];exact k2 (by rw[ax z];exact y)⟩
    ·have z:p≠a:=λz=>by rw[z,aB]at h;cases h
     rw[ax z]at h;have:=E'.live p h;rw[ax z]at this;exact this
   ·have:=N' p rfl z2
    have z:p≠a:=λz=>by rw[z,aB]at this;cases this
    rw[ax z]at this;exact this
  ·exact .inr (h1 _ ⟨a,ob,kvs,rfl,R.sub a _ hdd,IU hc he R (Fc (R.sub a _ hdd) rk) e3 hz q⟩)
end Mir
namespace L2
open PySem PySem.Spec PyProof.Rows
section
variable{X:Cx}{K:zag}
def IV(K:zag):List V->Hp->VK->Prop:=λxs H Q=>∃p ys,xs=[V.ref p]/\((SqL K H p ys/\∀l,H l=none->Q (.ref l) (upd H l (.tup ys)))\/(SqT K H p ys/\Q (.ref p) H))
theorem mz(h:X.K=K):eG X (.type "tuple") (IV K):=h▸tM
def IW:V->List V->Hp->VK->Prop:=λx vs H Q=>∃(l:Addr) (zs:List Str) (z:Str) (j:Nat),x=.ref l/\vs=[.str z]/\H l=some (.lst (zs.map V.str))/\zs[j]?=some z/\(∀m,m<j->zs[m]?≠some z)/\Q .non (upd H l (.lst ((zs.eraseIdx j).map V.str)))
theorem Vals.erase:∀{xs:List V} {us:List Value} (j:Nat),Vals xs us->Vals (xs.eraseIdx j) (us.eraseIdx j)
 |_,_,_,.nil=>.nil
 |_,_,0,.cons _ t=>t
 |_,_,j+1,.cons h t=>.cons h (Vals.erase j t)
theorem wj{α β:Type}(f : α->β):∀(l:List α) (j:Nat),(l.eraseIdx j).map f=(l.map f).eraseIdx j
 | [],_=>rfl
 |_::_,0=>rfl
 |a::l,j+1=>by
  show f a::(l.eraseIdx j).map f=f a::(l.map f).eraseIdx j;rw[wj f l j]
def eqS(z:Str):Value->Bool
 | .str a _=>a==z
 |_=>false
theorem wm:∀{zs:List Str} {us:List Value},Vals (zs.map V.str) us->∀(i:Nat) (u:Value),us[i]?=some u->∃a t,zs[i]?=some a/\u=.str a t
 | [],us,h,i,u,e=>by cases h;simp at e
 |a::zs,us,h,i,u,e=>by
  cases h with
  |cons h1 t=>
   cases i with
   |zero=>
    obtain⟨tk,rfl⟩:=h1;have:u=.str a tk:=by simpa using e.symm
    exact⟨a,tk,rfl,this⟩
   |succ i=>simpa using wm t i u (by simpa using e)
theorem By:MtM X "list.remove" IW:=by
 intro pins s σ H x vs v us Q I rx rv h;obtain⟨l,zs,z,j,rfl,rfl,hH,hj,hno,q⟩:=h;cases rx;obtain⟨u,rfl,ru⟩:=rv.one;obtain⟨tk,rfl⟩:=ru;obtain⟨hz,its,n,r,hl,e⟩:=I.DK hH;have hlen:its.length=zs.length:=by rw[<-r.length,zal]
 have hjz:j<zs.length:=(zac hj).1;refine call_meets F.slot_list_remove ⟨_,e,rfl⟩ F.entry_list_remove (F.args_list_remove_2 _ _) (PySem.MeetsSeq.list_remove l its.toArray n (.str z tk) (eqS z) (λy hy=>?_) j (by rw[zaK];omega) ?_ (λm hm hmj=>?_) (by rw[zaK,hlen];rwa[zal]at hz)) ⟨e,?_⟩
 ·obtain⟨i,hi,rfl⟩:=List.getElem_of_mem (show y∈its by simpa using hy)
  obtain⟨a,t,_,ha⟩:=wm r i its[i] (zaC hi);rw[ha];exact eqGives_str a z t tk
 ·have hji:j<its.length:=by omega
  obtain⟨a,t,h1,ha⟩:=wm r j its[j] (zaC hji);show eqS z (its.toArray[j]'(by simpa using hji))=true
  have:its.toArray[j]'(by simpa using hji)=its[j]:=by simp
  rw[this,ha];rw[hj]at h1;cases h1;simp[eqS]
 ·have hmi:m<its.length:=by simpa using hm
  obtain⟨a,t,h1,ha⟩:=wm r m its[m] (zaC hmi);have:its.toArray[m]'hm=its[m]:=by simp
  rw[this,ha];have ne:a≠z:=λw=>hno m hmj (by rw[h1,w])
  simp[eqS,ne]
 ·refine⟨.non,_,I.Gv (its':=its.eraseIdx j) hH e (by simp) ?_ ?_,rfl,q⟩
  ·have:=Vals.erase j r
   rwa[<-wj]at this
  ·rw[zal]
   have:=List.length_eraseIdx_le zs j;rw[zal]at hz;omega
end
end L2
namespace Mir
open PySem L2
variable [Zc]
def sI:List D->Option (List Str)
 | []=>some []
 | .str z::r=>(sI r).map (z::·)
 |_=>none
def yq:List Str->Str->Option Nat
 | [],_=>none
 |a::l,z=>if a=z then some 0 else(yq l z).map (· +1)
theorem Bz:∀{zs:List Str} {j:Nat},yq zs z=some j->zs[j]?=some z/\∀m,m<j->zs[m]?≠some z
 | [],j,h=>by cases h
 |a::l,j,h=>by
  by_cases e:a=z
  ·have:yq (a::l) z=some 0:=if_pos e
   rw[this]at h;cases h
   exact⟨by rw[e];rfl,λm hm=>by omega⟩
  ·have:yq (a::l) z=(yq l z).map (· +1):=if_neg e
   rw[this]at h;obtain⟨i,h1,rfl⟩:=zab h;obtain⟨g1,g2⟩:=Bz h1;refine⟨g1,λm hm=>?_⟩
   cases m with
   |zero=>exact λw=>e (by simpa using w)
   |succ m=>exact g2 m (by omega)
theorem yr:∀{xs:List V} {ds:List D} {zs:List Str},aY B xs ds->sI ds=some zs->xs=zs.map V.str
 |_,_,_,.nil,h=>by cases h;rfl
 |_,_,zs,.cons (d:=d) hx r,h=>by
  cases d with
  |str z=>
   obtain⟨ms,h1,h2⟩:=zab (show(sI _).map (z::·)=some zs from h)
   subst h2;cases hx;rw[zaz,yr r h1]
  |_=>cases h
def nh(ds:List D):List D->Option (List D×D)
 | [.str z]=>(sI ds).bind λzs=>(yq zs z).map λj=>(ds.eraseIdx j,.none)
 |_=>none
theorem yt:vR IW nh:=by
 intro B H p xs ds vs as w hp rx s rv e;unfold nh at e;split at e
 ·rename_i z
  obtain⟨zs,e1,e⟩:=zaa e;obtain⟨j,e2,e⟩:=zab e;cases e;cases rv with
  |cons a b=>
   cases b;cases a;obtain rfl:=yr rx e1;obtain⟨g1,g2⟩:=Bz e2;refine⟨(zs.eraseIdx j).map V.str,.non,?_,.non,λQ q=>⟨p,zs,z,j,rfl,rfl,hp,g1,g2,q⟩⟩
   have:=aY.eraseIdx j rx
   rwa[<-wj]at this
 ·cases e
def sJ:List D->Option (D×Bool)
 | [.list ds]=>some (.tuple ds,true)
 | [.tuple ds]=>some (.tuple ds,false)
 |_=>none
theorem wo:qq (IV K) sJ:=by
 intro B H vs ds res s h e;unfold sJ at e;split at e
 ·cases e
  obtain⟨v,rfl,hh⟩:=jS h;obtain⟨p,xs,rfl,r1,rp1⟩:=hh.list s;exact⟨xs,rp1,λQ q=>⟨p,xs,rfl,.inl ⟨ke r1,q⟩⟩⟩
 ·cases e
  obtain⟨v,rfl,hh⟩:=jS h;rcases hh with hh|⟨p,rfl,hh⟩
  ·cases hh with
   | @tup p xs _ h1 h2=>exact⟨.ref p,.tup h1 h2,λQ q=>⟨p,xs,rfl,.inr ⟨.inl (.inl (s _ _ h1)),q⟩⟩⟩
  ·cases hh
 ·cases e
def wq:D->D->Option (D×Bool)
 | .str z,.int i=>cIf (z.length<=sizeLine) ((atI z.cps.toList i).map λc=>(.str ⟨#[c]⟩,false)) none
 |c,d=>gIx c d
theorem IX:OpJ (rIx K) wq:=by
 intro B H x y c d res s hx hy e;unfold wq at e;split at e
 ·obtain⟨hz,e⟩:=df e
  obtain⟨w,h1,h2⟩:=zab e;cases h2;rcases hx with hx|⟨p,_,hx⟩
  ·cases hx
   rcases hy with hy|⟨p,_,hy⟩
   ·cases hy
    exact⟨.str ⟨#[w]⟩,.str _,λQ q=>.inr (.inr ⟨_,_,w,rfl,rfl,hz,h1,q⟩)⟩
   ·cases hy
  ·cases hx
 ·exact bJ B H x y _ _ res s hx hy e
end Mir
namespace L2
open PySem PySem.Spec PyProof.Rows
def Ite(K:zag)(a:Addr):It :=
 ⟨λi H=>∃xs x,SqL K H a xs/\xs[i]?=some x,
  λi H v H'=>∃p x,v=.ref p/\H p=none/\H'=upd H p (.tup [.int i,x])/\∀xs,SqL K H a xs->xs[i]?=some x,
  λi H=>∃xs,SqL K H a xs/\xs.length<=i⟩
theorem CU{K:zag}{cx}{pos:Pos}{e it l:Addr}(hei:e≠it) :
  Turn P w K (.Tuple elts cx pos) (Ite K l) [e,it] e (λi h=>(∃old,IsEnum h e it ((i:Nat):Int) old)/\h.IsListIter it l i) where
 mem:=by simp
 obj:=λi h st b hb=>by
  obtain⟨⟨old,he⟩,⟨o1,g1,c1,d1⟩⟩:=st;simp only[List.mem_cons,List.not_mem_nil,or_false]at hb;rcases hb with rfl|rfl
  ·exact⟨_,he,λv e=>by cases e⟩
  ·exact⟨_,g1,λv e=>by rw[d1]at e;cases e⟩
 keep:=λi h h' st k=>by
  obtain⟨⟨old,he⟩,h1⟩:=st;exact⟨⟨old,k e (by simp) _ he⟩,h1.at λo x=>k it (by simp) o x⟩
 item:=by
  intro X hP hw hK hc i pins s σ H E I hf st hg;subst hP hw hK;obtain⟨⟨old,he⟩,h1⟩:=st;obtain⟨xs,x,q1,hx⟩:=hg;obtain⟨us,r1,p1,_⟩:=I.list q1;obtain⟨u,hu,ru⟩:=r1.get hx;have lt:∀b∈[e,it],b<s.heap.objs.size:=λb hb=>by
   obtain⟨o1,g1,_,_⟩:=id h1;simp only[List.mem_cons,List.not_mem_nil,or_false]at hb;rcases hb with rfl|rfl
   ·exact zaq he
   ·exact zaq g1
  refine wpAny_pyNext_enum_item he h1 p1.isList (x:=u) (by simpa using hu) hei λh' heo h1' hT hsz hk=>?_
  refine⟨_,rfl,wpAny_letOwnedTupleGo_enum (s:={s with heap:=h',toks:=s.toks+1}) heo λh3 he3 sb=>?_⟩
  have hfr:H s.heap.objs.size=none:=I.hok.fresh (zap _);have up:∀b o,b≠e->h'.get? b=some o->h3.get? b=some o:=λb o hb x=>(sb.2 b hb).trans x
  have IA:Inv X pins σ (upd H s.heap.objs.size (.tup [.int i,x])) {s with heap:=s.heap.push {cls:=.type "tuple",data:=.seq #[.int i s.toks,u]},toks:=s.toks+1} :=
   I.laid (λb o e=>zar _ e) (zap _) (cG.DW (its:=[.int i s.toks,u]) (by simp only[List.length_cons,List.length_nil,sizeLine];omega) (.cons ⟨_,rfl⟩ (.cons ru .nil)))
  have IB:Inv X pins σ (upd H s.heap.objs.size (.tup [.int i,x])) {s with heap:=h3,toks:=s.toks+1}:=by
   refine Inv.v7 (s:={s with heap:=s.heap.push {cls:=.type "tuple",data:=.seq #[.int i s.toks,u]},toks:=s.toks+1}) (h':=h3) (t':=s.toks+1) (fp:=[e,it]) IA (λb o hb g=>?_) (λb hb=>?_)
   ·simp only[List.mem_cons,List.not_mem_nil,or_false,not_or]at hb
    obtain⟨b1,b2⟩:=hb;refine up b o b1 ?_
    by_cases eb:b=s.heap.objs.size
    ·subst eb
     have e':(s.heap.push {cls:=.type "tuple",data:=.seq #[.int i s.toks,u]}).get? s.heap.objs.size=some {cls:=.type "tuple",data:=.seq #[.int i s.toks,u]}:=zaL _ rfl;rw[e']at g;cases g;exact hT
    ·have e0:(s.heap.push {cls:=.type "tuple",data:=.seq #[.int i s.toks,u]}).get? b=s.heap.get? b:=Heap.get?_push_ne _ _ _ eb
     exact hk b o b1 b2 (e0▸g)
   ·obtain⟨f0,f1⟩:=hf b hb
    exact⟨by rw[ax (λe=>absurd (lt b hb) (by rw[e];exact za3 _))];exact f0,f1⟩
  have ec:((i+1:Nat):Int)=(i:Int)+1:=by push_cast;rfl
  refine⟨.ref s.heap.objs.size,_,IB,rfl,⟨_,x,rfl,hfr,rfl,λxs' h=>by rw[I.xq h q1];exact hx⟩,⟨⟨u,ec▸he3⟩,h1'.at λo x=>up it o (Ne.symm hei) x⟩,λb hb=>?_⟩
  rw[ax (λe=>absurd (lt b hb) (by rw[e];exact za3 _))]
  exact(hf b hb).1
 done:=by
  intro X hP hw hK hc i pins s σ H E I hf st hg;subst hP hw hK;obtain⟨⟨old,he⟩,h1⟩:=st;obtain⟨xs,q1,hl⟩:=hg;obtain⟨us,r1,p1,_⟩:=I.list q1;have l1:=r1.length;refine wpAny_pyNext_enum_end (I.ok.hd hc) he h1 p1.isList (by simp;omega) λh' hk=>⟨rfl,?_⟩
  refine Inv.v7 (t':=s.toks) (fp:=[e,it]) I (λb o hb g=>?_) hf
  simp only[List.mem_cons,List.not_mem_nil,or_false,not_or]at hb;exact hk b o hb.2 g
 self:=λ_ _ _ _ _ st h=>by obtain⟨⟨old,he⟩,_⟩:=st;exact wpAny_pyIter_enum he h
def IY(K:zag)(ta:TA):TI:=fun σ H R=>ta σ H λvs H1=>∃a xs,vs=[.ref a]/\SqL K H1 a xs/\R (Ite K a) H1
section
variable{X:Cx}
theorem Hl(hg:Gl X "enumerate")(hm:X.mg "enumerate"=none)(ha:PA X [a] ta)(hs:starEach [a] X.env=[(false,eval a X.env)]:=by rfl) :
  PI X (.Tuple elts cx tp) (.Call (.Name "enumerate" p) [a] [] pos) (IY X.K ta):=by
 intro pins s σ H R I h;refine Call_ (rE I hg hm boot_enumerate (PyProof.Rows.callWith_type1 (thn (ha pos pins s σ H _ I h) λus s1 ⟨vs,H1,I1,r1,q1⟩=>?_) (by rw[hs];rfl) (by rfl)))
 obtain⟨l1,xs,e,g1,q⟩:=q1;subst e;cases r1 with
 |cons r rr=>
  cases rr;cases r;obtain⟨us,rv1,p1,_⟩:=I1.list g1;have k1:l1<s1.heap.objs.size:=by obtain⟨o,_,e,_⟩:=id p1;exact zaq e
  refine call_enumerate_list p1.isList λh' he h1 hsz hk=>?_
  refine wpAny_pyIter_enum he ?_;refine⟨s1.heap.objs.size+1,[s1.heap.objs.size+1,s1.heap.objs.size],_,_,H1,rfl,I1.kept (t':=s1.toks) hk,CU (Nat.succ_ne_self _),⟨⟨_,he⟩,h1⟩,λb hb=>?_,q⟩
  have hb':s1.heap.objs.size<=b:=by
   simp only[List.mem_cons,List.not_mem_nil,or_false]at hb;rcases hb with rfl|rfl
   ·exact Nat.le_add_right _ _
   ·exact zap _
  exact I1.zt hb' (I1.hok.fresh hb')
end
def ItI(a:Addr)(o:Obj)(kvs:List (Key×V)):It where
 go:=λi H=>H a=some (.frz o (.dK kvs))/\i<kvs.length
 yld:=λi H x H'=>∃p k v,x=.ref p/\H p=none/\H'=upd H p (.tup [kV k,v])/\kvs[i]?=some (k,v)
 stop:=λi H=>H a=some (.frz o (.dK kvs))/\kvs.length<=i
theorem Hm(r:KV kvs vs)(i:Nat){k:Key}(h:vs[i]?=some (k,x)):∃v,kvs[i]?=some (k,v)/\RelV v x:=by
 induction r generalizing i with
 |nil=>simp at h
 |cons h1 t ih=>
  cases i with
  |zero=>
   rename_i p q l l'
   have e:q=(k,x):=by simpa using h
   subst e;exact⟨p.2,congrArg some (Prod.ext h1.1 rfl),h1.2⟩
  |succ i=>simpa using ih i (by simpa using h)
theorem sL:entryFor table "dict_itemiterator.__iter__"=some Builtin.«dict_keyiterator.__iter__»:=entryFor_alias (id':="dict_keyiterator.__iter__") (by kernel_rfl) rfl (by decide+kernel) (by kernel_rfl)
theorem zU{K:zag}{cx}{pos:Pos}{a it:Addr}{o:Obj}{kvs:List (Key×V)}{vs:List (Key×Value)}{ep:Nat}{h₁:Heap}(rel:KV kvs vs)(ho:h₁.get? a=some o)(hat:h₁.DictAt (b6 P w) a vs ep) :
  Turn P w K (.Tuple elts cx pos) (ItI a o kvs) [it] it (λi h=>∃ok ov,IsItemIter h it a i vs.length ep ok ov) where
 mem:=by simp
 obj:=λi h st b hb=>by
  have e:b=it:=by simpa using hb
  subst e;obtain⟨ok,ov,st⟩:=st;exact⟨_,st,λv e=>by cases e⟩
 keep:=λi h h' st k=>by
  obtain⟨ok,ov,st⟩:=st;exact⟨ok,ov,k it (by simp) _ st⟩
 item:=by
  intro X hP hw hK hc i pins s σ H E I hf st hg;subst hP hw hK;obtain⟨ok,ov,st⟩:=st;obtain⟨hH,hi⟩:=hg;obtain⟨hg,_⟩:=I.hok a _ hH;have hd:s.heap.DictAt (b6 X.prog X.w) a vs ep:=hat.at' λo' e=>by rw[ho]at e;cases e;exact hg
  have hl:=rel.length;obtain⟨⟨k,x⟩,hx⟩:∃p,vs[i]?=some p:=⟨vs[i]'(by omega),by simp⟩
  obtain⟨v,hv,rv⟩:=Hm rel i hx;have lt:it<s.heap.objs.size:=zaq st;refine wpAny_pyNext_items_item st hd hx λkey h' hkey heo hT hsz hk=>?_
  refine⟨_,rfl,wpAny_letOwnedTupleGo_items (s:={s with heap:=h'}) heo λh3 he3 sb=>?_⟩
  have hfr:H s.heap.objs.size=none:=I.hok.fresh (zap _);have up:∀b o,b≠it->h'.get? b=some o->h3.get? b=some o:=λb o hb x=>(sb.2 b hb).trans x
  have IA:Inv X pins σ (upd H s.heap.objs.size (.tup [kV k,v])) {s with heap:=s.heap.push {cls:=.type "tuple",data:=.seq #[key,x]},toks:=s.toks} :=
   I.laid (λb o e=>zar _ e) (zap _) (cG.DW (its:=[key,x]) (by simp only[List.length_cons,List.length_nil,sizeLine];omega) (.cons (E8 hkey) (.cons rv .nil)))
  have IB:Inv X pins σ (upd H s.heap.objs.size (.tup [kV k,v])) {s with heap:=h3,toks:=s.toks}:=by
   refine Inv.v7 (s:={s with heap:=s.heap.push {cls:=.type "tuple",data:=.seq #[key,x]},toks:=s.toks}) (h':=h3) (t':=s.toks) (fp:=[it]) IA (λb o hb g=>?_) (λb hb=>?_)
   ·have b1:b≠it:=by simpa using hb
    refine up b o b1 ?_
    by_cases eb:b=s.heap.objs.size
    ·subst eb
     have e':(s.heap.push {cls:=.type "tuple",data:=.seq #[key,x]}).get? s.heap.objs.size=some {cls:=.type "tuple",data:=.seq #[key,x]}:=zaL _ rfl;rw[e']at g;cases g;exact hT
    ·have e0:(s.heap.push {cls:=.type "tuple",data:=.seq #[key,x]}).get? b=s.heap.get? b:=Heap.get?_push_ne _ _ _ eb
     exact hk b o b1 (e0▸g)
   ·have eb:b=it:=by simpa using hb
    subst eb;obtain⟨f0,f1⟩:=hf b hb;exact⟨by rw[ax (zaS lt)];exact f0,f1⟩
  refine⟨.ref s.heap.objs.size,_,IB,rfl,⟨_,k,v,rfl,hfr,rfl,hv⟩,⟨_,_,he3⟩,λb hb=>?_⟩
  have eb:b=it:=by simpa using hb
  subst eb;rw[ax (zaS lt)];exact(hf b hb).1
 done:=by
  intro X hP hw hK hc i pins s σ H E I hf st hg;subst hP hw hK;obtain⟨ok,ov,st⟩:=st;obtain⟨hH,hi⟩:=hg;obtain⟨hg,_⟩:=I.hok a _ hH;have hd:s.heap.DictAt (b6 X.prog X.w) a vs ep:=hat.at' λo' e=>by rw[ho]at e;cases e;exact hg
  obtain⟨f0,f1,f2,f3,f4,f5⟩:=hf it (by simp)
  have hl:=rel.length;exact wpAny_pyNext_items_end (I.ok.hd hc) st hd (by simp;omega) λh' eb=>⟨rfl,I.turned (t':=s.toks) (λb o hb e=>eb b o hb e) f0 f1 f3 f4 f5⟩
 self:=λA i s Q E st q=>by
  obtain⟨ok,ov,st⟩:=st;refine wpAny_pyIter_slot (id:="dict_itemiterator.__iter__") ⟨_,st,rfl⟩ F.slot_dict_itemiterator_iter (wpAny_call_entry F.slot_dict_itemiterator_iter ⟨_,st,rfl⟩ sL ?_ (F.args_dict_itemiterator_iter_1 _));show wpAny _ _ (ret (.ref it)) _ _ s;exact zaZ ⟨_,rfl,"dict_itemiterator",_,⟨_,st,rfl⟩,F.slot_dict_itemiterator_next.lookup,q⟩
def Mh(tl:TE):TI:=fun σ H R=>tl σ H λx H1=>∃a o kvs,x=.ref a/\H1 a=some (.frz o (.dK kvs))/\R (ItI a o kvs) H1
section
variable{X:Cx}
theorem Fj{elts:List Expr}{cx}{tp:Pos}{tl:TE}{apos cpos:Pos}(hl:PE X l tl)(hbase:attributeBase l "items" X.env (eval l X.env)=eval l X.env:=by rfl)(hline:(apos.endLine==cpos.line)=true:=by rfl) :
  PI X (.Tuple elts cx tp) (.Call (.Attribute l "items" apos) [] [] cpos) (Mh tl):=by
 intro pins s σ H R I h;refine wpAny_Call_method0_late hbase hline (thn (hl pins s σ H _ I h) λv s1 ⟨x,H1,I1,r1,q1⟩=>?_)
 obtain⟨a,o,kvs,e,hH,q⟩:=q1;subst e;cases r1;obtain⟨ho,z,hd,vs,rel,dd⟩:=I1.hok a _ hH;obtain⟨ob,_,_,g1,g2,_⟩:=id dd;obtain⟨ep,hat⟩:=dd.dictAt;refine⟨"dict","dict.items",PySem.F.plainAttrs_dict,PySem.F.slot_dict_items,PySem.F.type_dict_items,dd.typeIs,λb eb=>by cases eb;exact⟨ob,g1,g2.2.1⟩,Calls.callWith_builtin rfl (PySem.evalArgs_none ?_)⟩
 refine call_meetsIn PySem.F.slot_dict_items dd.typeIs PySem.F.entry_dict_items (PySem.F.args_dict_items_1 _) (meets_dict_items (b6 X.prog X.w) a hd) ⟨⟨vs,dd⟩,?_⟩;have Mi:(s1.heap.push {cls:=.type "dict_items",data:=.fields #[.ref a]}).IsItemsView s1.heap.objs.size a:=⟨_,zaL _ rfl,rfl,rfl⟩;have I2:Inv X pins σ H1 {s1 with heap:=s1.heap.push {cls:=.type "dict_items",data:=.fields #[.ref a]}}:=I1.kept (t':=s1.toks) λb o e=>zar _ e
 refine wpAny_pyIter_items (s:={s1 with heap:=s1.heap.push {cls:=.type "dict_items",data:=.fields #[.ref a]}}) Mi (hat.push _) ?_
 refine⟨_,[_],_,_,H1,rfl,I2.kept (t':=s1.toks) λb o e=>zar _ e,zU rel ho hat,⟨_,_,zaL _ rfl⟩,λb hb=>?_,q⟩
 have e:b=(s1.heap.push {cls:=.type "dict_items",data:=.fields #[.ref a]}).objs.size:=by simpa using hb
 subst e;exact I2.zt (zap _) (I2.hok.fresh (zap _))
end
end L2
namespace Mir
open PySem L2
variable [Zc]
def mB(es:List (D×D)):List D:=es.map λp=>PyData.tuple [p.1,p.2]
theorem IZ:∀{kvs:List (Key×V)} {es:List (D×D)} (_:bD B kvs es) (i:Nat) {k:Key} {v:V} {p:D×D},kvs[i]?=some (k,v)->es[i]?=some p->vK k p.1/\Rep B v p.2
 |_,_,.nil,i,k,v,p,h,_=>by simp at h
 |_,_,.cons hk hx r,0,k,v,p,h1,h2=>by
  simp only[List.getElem?_cons_zero,Option.some.injEq]at h1 h2;subst h2;cases h1;exact⟨hk,hx⟩
 |_,_,.cons hk hx r,i+1,k,v,p,h1,h2=>IZ r i (by simpa using h1) (by simpa using h2)
theorem vK.rep(h:vK k c):Rep B (kV k) c:=by
 cases k with
 |inl i=>obtain rfl:=(show c=.int i from h);exact .int i
 |inr x=>obtain rfl:=(show c=.str x from h);exact .str x
theorem Fl(h:G a=some (.frz o (.dK kvs)))(r:bD B kvs es):oE G B (ItI a o kvs) (mB es):=λH s=>by
 have h':=s _ _ h;have hl:=r.length;have hp:(mB es).length=es.length:=by unfold mB;rw[zal]
 refine⟨⟨h',by omega⟩,λi d hd=>?_⟩
 have hi:i<es.length:=by have:=(zac hd).1;omega
 refine⟨⟨h',by omega⟩,λx H' hy=>?_⟩
 obtain⟨p,k,v,rfl,hn,rfl,hk⟩:=hy;have e:(mB es)[i]?=(es[i]?).map λp=>PyData.tuple [p.1,p.2]:=by unfold mB;rw[zao]
 rw[e]at hd;obtain⟨q,h1,rfl⟩:=zab hd;obtain⟨g1,g2⟩:=IZ r i hk h1;exact .inr ⟨p,[kV k,v],[q.1,q.2],rfl,rfl,hn,rfl,.cons g1.rep (.cons g2 .nil)⟩
def BA(dv:PM)(g:D->Rho->Option Rho)(b:SM):SM:=fun ρ=>(dv ρ).bind λx=>(uM x.1).bind λes=>if qP ρ=true then(forL g b (mB es) x.2).bind λo=>if qP (Kz o)=true then some o else none else none
theorem Hn(hc:Calm tl dv)(hg:MG tg g)(hb:MS tb b):MS (Fg (DC (Mh tl) tg tb)) (BA dv g b):=by
 intro F B H σ ρ o D R e q;obtain⟨x,e1,e⟩:=zaa e;obtain⟨es,e2,e⟩:=zaa e;split at e
 rotate_left
 ·cases e
 rename_i nr
 obtain⟨o',e3,e⟩:=zaa e;split at e
 rotate_left
 ·cases e
 rename_i nr2
 cases e;obtain⟨r,ρ1⟩:=x;obtain⟨rfl,v,rv,h1,h2⟩:=hc F B H σ ρ r ρ1 R e1;obtain rfl:=ym e2;cases rv with
 | @dct a kvs _ hd rk=>
  rcases hd with hd|⟨ob,hd⟩
  ·refine .inl ⟨a,kvs,R.sub a _ hd,λob=>?_⟩
   have R':=R.hide (o:=ob) hd nr;refine h2 a ob kvs hd _ ⟨a,ob,kvs,rfl,aB,?_⟩;exact Fd hg hb R'.down (Fl aB (bD.map' (sE hd) (sF hd) (sG hd) rk)) e3 (Fe R hd nr2 q)
  ·exact .inr (h1 _ ⟨a,ob,kvs,rfl,R.sub a _ hd,Fd hg hb R (Fl hd rk) e3 q⟩)
end Mir
set_option maxHeartbeats 1000000
namespace L2
open PySem PySem.Spec PyProof.Rows
def bU(a:Int)(x:Str)(c:Int)(y:Str):Bool:=if a=c then(if x=y then false else decide (x.cps.toList<y.cps.toList))else decide (a<c)
section
open PySem.SeqAt
open PySem.AutoSeq1 (wpAny_loadPart')
open PySem.MeetsSeq PySem.MeetsSeq2 PySem.MeetsSeq3
theorem yu(l b:Addr)(n n2:Nat)(dd dd2:Option Addr)(sl sl2:Array (Option Value))(a c:Int)(x y:Str)(t t2 u u2:Tok) :
  Meets (Builtin.«tuple.__lt__» ⟨[.ref l,.ref b],[]⟩)
   (λ_ R s=>s.heap.get? l=some {cls:=.type "tuple",dict:=dd,data:=.seq #[.int a t,.str x u] n,slots:=sl}/\s.heap.get? b=some {cls:=.type "tuple",dict:=dd2,data:=.seq #[.int c t2,.str y u2] n2,slots:=sl2}/\
    R (.ok (.ret (.bool (bU a x c y)))) s) :=
 .of_wp λprog w A R s h=>by
  obtain⟨hp,g,d,tk,os⟩:=s;obtain⟨hl,hb,h⟩:=h;have f2:=AutoSeq1.sub_tuple_tuple
  wp_walk using wpAny_loadPart' hl,wpAny_loadPart' hb,wpAny_forIn_list _ (λrest b s'=>b.1=none/\s'=⟨hp,g,d,tk,os⟩/\
   ((rest=[(.int a t,.int c t2),(.str x u,.str y u2)])\/(rest=[(.str x u,.str y u2)]/\a=c)\/(rest=[]/\a=c/\x=y))) _
  case turn=>
   rintro⟨p,q⟩ rest b s' ⟨hb',rfl,hz⟩
   rcases hz with hz|⟨hz,e0⟩|⟨hz,_,_⟩
   ·cases hz
    refine zaI ((EqAt.int_int a t c t2) prog w _ _ ?_);cases hac:(a==c)with
    |true=>
     have e:a=c:=by simpa using hac
     wp_walk
     exact⟨rfl,rfl,.inr (.inl ⟨rfl,e⟩)⟩
    |false=>
     have e:a≠c:=by simpa using hac
     have hri:=HT.DG A.in1 ⟨hp,g,d,tk,os⟩ a t c t2 prog w;have hR:R (.ok (.ret (.bool (decide (a<c))))) ⟨hp,g,d,tk,os⟩:=by
      unfold bU at h
      rwa[if_neg e]at h
     wp_walk using hri
     exact⟨_,rfl,by simpa using hR⟩
   ·cases hz
    refine zaI ((EqAt.str_str x u y u2) prog w _ _ ?_);cases hxy:(x==y)with
    |true=>
     have e:x=y:=by simpa using hxy
     wp_walk
     exact⟨rfl,rfl,.inr (.inr ⟨rfl,e0,e⟩)⟩
    |false=>
     have e:x≠y:=by simpa using hxy
     have hri:∀(E:Value->Shared->Prop) (Q:Value->Shared->Prop),Q (.bool (decide (x.cps.toList<y.cps.toList))) ⟨hp,g,d,tk,os⟩->wpAny (model prog w) A.in1 (richCompare .Lt (.str x u) (.str y u2)) Q E ⟨hp,g,d,tk,os⟩:=λE Q hq=>(PyProof.Rows.lt_str hq:wpAny (model prog w) A.in1 (compareOp .Lt (.str x u) (.str y u2)) Q E ⟨hp,g,d,tk,os⟩)
     have hR:R (.ok (.ret (.bool (decide (x.cps.toList<y.cps.toList))))) ⟨hp,g,d,tk,os⟩:=by
      unfold bU at h
      rwa[if_pos e0,if_neg e]at h
     wp_walk using hri
     exact⟨_,rfl,by simpa using hR⟩
   ·cases hz
  case fin=>
   rintro⟨b1,b2⟩ s' ⟨hb',rfl,hz⟩
   simp only at hb';subst hb';rcases hz with hz|⟨hz,_⟩|⟨_,e1,e2⟩
   ·cases hz
   ·cases hz
   ·have hR:R (.ok (.ret (.bool false))) ⟨hp,g,d,tk,os⟩:=by
     unfold bU at h
     rwa[if_pos e1,if_pos e2]at h
    wp_walk
    exact⟨_,rfl,by simpa[Builtin.Tuple.tupleCompareSizes]using hR⟩
  case h=>exact⟨rfl,rfl,.inl rfl⟩
end
section
variable{prog:Program}{w:World}{A:Around}{E:Value->Shared->Prop}{s:Shared}
theorem Fn(hl:IsTup s.heap l #[.int a t,.str x u])(hb:IsTup s.heap b #[.int c t2,.str y u2])(hu:A.units<cLine)(h:Q (.bool (bU a x c y)) s) :
  wpAny (model prog w) A (compareOp .Lt (.ref l) (.ref b)) Q E s:=by
 obtain⟨⟨cls,dd,data,sl⟩,ho,hc,n,hd⟩:=id hl;obtain⟨⟨cls2,dd2,data2,sl2⟩,ho2,hc2,n2,hd2⟩:=id hb;simp only at hc hd hc2 hd2;subst hc hd hc2 hd2;exact richCompare_meets_room (op:=.Lt) ⟨_,ho,rfl⟩ ⟨_,ho2,rfl⟩ PySem.F.slot_tuple_lt PySem.F.entry_tuple_lt (PySem.F.args_tuple_lt_2 _ _) (yu l b n n2 dd dd2 sl sl2 a c x y t t2 u u2)
  ⟨ho,ho2,show Value.bool (bU a x c y)≠Value.notImplemented/\Q (.bool (bU a x c y)) s from⟨(λx=>nomatch x),h⟩⟩ hu
end
section
variable{X:Cx}{K:zag}
def Mj(K:zag):R2:=λx y H Q=>∃a b i z j v,x=.ref a/\y=.ref b/\SqT K H a [.int i,.str z]/\SqT K H b [.int j,.str v]/\Q (.bl (bU i z j v)) H
theorem Fo(h:X.K=K)(hu:X.A.units<cLine):OpR X (compareOp .Lt) (Mj K):=by
 subst h;intro pins s σ H x y v u Q I rx ry h;obtain⟨a,b,i,z,j,w,rfl,rfl,ha,hb,q⟩:=h;cases rx;cases ry;obtain⟨its,r1,p1,_⟩:=I.tuple ha;obtain⟨its2,r2,p2,_⟩:=I.tuple hb;cases r1 with
 |cons e1 r1=>
  cases r1 with
  |cons e2 r1=>
   cases r1;cases r2 with
   |cons f1 r2=>
    cases r2 with
    |cons f2 r2=>
     cases r2;obtain⟨t1,rfl⟩:=e1;obtain⟨t2,rfl⟩:=e2;obtain⟨t3,rfl⟩:=f1;obtain⟨t4,rfl⟩:=f2;exact Fn p1 p2 hu ⟨.bl _,H,I,rfl,q⟩
end
end L2
namespace Mir
open PySem L2
variable [Zc]
def CV:D->D->Option (D×Bool)
 | .tuple [.int i,.str z],.tuple [.int j,.str w]=>some (.bool (bU i z j w),false)
 |_,_=>none
theorem I0:OpJ (Mj K) CV:=by
 intro B H x y c d res s hx hy e;unfold CV at e;split at e
 ·cases e
  obtain⟨p,xs,rfl,h1,r1⟩:=hx.tuple s;obtain⟨q,ys,rfl,h2,r2⟩:=hy.tuple s;cases r1 with
  |cons a1 r1=>
   cases r1 with
   |cons a2 r1=>
    cases r1;cases r2 with
    |cons b1 r2=>
     cases r2 with
     |cons b2 r2=>
      cases r2;cases a1;cases a2;cases b1;cases b2
      exact⟨.bl _,.bl _,λQ q'=>⟨p,q,_,_,_,_,rfl,rfl,.inl (.inl h1),.inl (.inl h2),q'⟩⟩
 ·cases e
def oR:D->D->Option (D×Bool)
 |x,.tuple ds=>if jl x=true/\ds.all jl=true then some (.bool (!inD x ds),false)else none
 |x,y=>zJ x y
theorem yw:OpJ (rIn K true) oR:=by
 intro B H x y c d res s hx hy e;unfold oR at e;split at e
 ·split at e
  ·rename_i hf
   cases e;obtain⟨p,xs,rfl,r1,rp1⟩:=hy.tuple s;have rx:=hx.rep s;have rp:=rp1.mono s;refine jk λQ q=>⟨_,_,rfl,.inr (.inl (.inl r1)),rx.flat hf.1,rp.vW hf.2,?_⟩
   rw[aY.inV rx hf.1 rp hf.2];exact q
  ·cases e
 ·exact GR B H x y _ _ res s hx hy e
end Mir
set_option maxHeartbeats 1000000
namespace L2
open PySem PySem.Spec PyProof.Rows
section
open PySem.SeqAt
open PySem.AutoSeq1 (wpAny_loadPart')
open PySem.MeetsSeq PySem.MeetsSeq2 PySem.MeetsSeq3
end
end L2
namespace Mir
open PySem L2
variable [Zc]
end Mir
namespace L2
open PySem PySem.Spec PyProof.Rows
section
variable{X:Cx}
def BB:V->List V->Hp->VK->Prop:=λx xs H Q=>∃a kvs,x=.ref a/\xs=[]/\H a=some (.dK kvs)/\Q .non (upd H a (.dK []))
theorem CW:MtR X "dict.clear" BB:=by
 intro pins s σ H x xs v us Q I rx rv h;obtain⟨a,kvs,rfl,rfl,e,h1⟩:=h;cases rx;cases rv;obtain⟨z,hd,vs,rel,dd⟩:=Bo I.hok e;refine call_meetsIn PySem.F.slot_dict_clear dd.typeIs PySem.F.entry_dict_clear (PySem.F.args_dict_clear_1 _) (meets_dict_clear (b6 X.prog X.w) a) ⟨vs,dd,by rw[<-rel.length];exact z,λh' dd' hs=>?_⟩
 have he:∃q,h'.get? a=some q:=let⟨q,_,_,hq,_⟩:=dd';⟨q,hq⟩
 exact⟨.non,_,ri I (by rw[e];exact True.intro) hs he (wd (Nat.zero_le _) hd .nil dd'),rfl,h1⟩
end
end L2
namespace Mir
open PySem L2
section
variable [Zc] [Zl]{W:WX}
def Ho(f:List D->List D->Option (List D×D))(a:EN):EN:=bN a λx s=>match x with
 | .lc k=>if sh s.S k=true then ER f k [] s else none
 |_=>none
theorem KD(J:vR r f)(ha:NE W te a):NE W (DJ K "list" r te) (Ho f a):=by
 intro G A B H σ s r0 Q R e q;refine eE (t:=te) ha R e q λx v A1 B1 H1 s1 g1 eB1 R1 V1 e1 q1=>?_
 split at e1
 ·rename_i k
  split at e1
  ·rename_i hl
   cases V1 with
   |lc hA=>exact⟨yg R1 hA hl,Bm J G A1 B1 H1 σ s1 _ k [] [] r0 Q R1 hA .nil e1 q1⟩
  ·cases e1
 ·cases e1
def BC(a:EN):EN:=bN a λx s=>match x with
 | .lc k=>match s.S[k]? with
  |some (some (.dat (.dict _)))=>some (.ok (.pl .none) ⟨s.S.set k (some (.dat (.dict []))),s.t⟩)
  |_=>none
 |_=>none
theorem Hq(ha:NE W te a):NE W (DJ K "dict" BB te) (BC a):=by
 intro G A B H σ s r0 Q R e q;refine eE (t:=te) ha R e q λx v A1 B1 H1 s1 g1 eB1 R1 V1 e1 q1=>?_
 split at e1
 ·rename_i k
  split at e1
  ·rename_i es hk
   cases e1;cases V1 with
   |lc hA=>
    cases R1.st.cell k _ _ hk hA with
    |dat ow=>
     obtain⟨kvs,hp,rk⟩:=ow.dict;refine⟨.inr (.inr (.inl ⟨rfl,.inl ⟨kvs,hp⟩⟩)),_,kvs,rfl,rfl,hp,?_⟩;exact q1 .non A1 B1 _ (Gro.refl _) (aG.refl _) (R1.write (o:=.dK []) (c:=.dat (.dict [])) hA trivial (.dat (.dct aB .nil))) (.pl .non)
  ·cases e1
 ·cases e1
theorem wu{k : α->SN}{G:FrN}{A:List Addr}{B H:Hp}{σ:St}{s:SS}{o:iF}{D:Ends}{C : β->Hp->Prop}(h:NM W Rl t m)(R:bz G A B H σ s)(e:bS m k s=some o)(q:NOk G W D o)
  (c:∀x v A' B' H' s',Gro A A'->aG B B'->bz G A' B' H' σ s'->Rl A' B' x v->k v s'=some o->C x H'):t σ H C:=by
 unfold bS at e;split at e
 ·rename_i v s' h1
  exact h G A B H σ s _ C R h1 λx A' B' H' g eB R' V=>c x v A' B' H' s' g eB R' V e
 ·rename_i y s' h1
  cases e;exact h G A B H σ s _ C R h1 λA' B' H' R'=>q A' B' H' σ R'
 ·cases e
def Hr(x y k:SV)(s:SS):Option iF:=match x,y,k with
 | .lc j,.pl yd,.pl kd=>(keyOf kd).bind λkey=>match s.S[j]? with
  |some (some (.dat (.dict es)))=>cIf (es.length<100000) (some (.nx ⟨s.S.set j (some (.dat (.dict (putD es kd yd key)))),s.t⟩)) none
  |_=>none
 |_,_,_=>none
def kD(d k v:EN):SN:=bS v λy=>bS d λx=>bS k λz=>Hr x y z
theorem jF(hd:NE W td d)(hk:NE W ty k)(hv:NE W tv v):NS W (EU td ty tv) (kD d k v):=by
 intro G A B H σ s o D R e q;refine wu (t:=tv) hv R e q λy yv A1 B1 H1 s1 g1 eB1 R1 V1 e1=>?_
 refine wu (t:=td) hd R1 e1 q λx xv A2 B2 H2 s2 g2 eB2 R2 V2 e2=>?_
 refine wu (t:=ty) hk R2 e2 q λz zv A3 B3 H3 s3 g3 eB3 R3 V3 e3=>?_
 unfold Hr at e3;split at e3
 ·rename_i j yd kd
  obtain⟨key,e4,e5⟩:=zaa e3;split at e5
  ·rename_i es hj
   obtain⟨hz,e6⟩:=df e5;cases e6;have V2':=V2.mono g3 eB3;cases V1 with
   |pl ry=>
    cases V3 with
    |pl rz=>
     cases V2' with
     |lc hA=>
      cases R3.st.cell j _ _ hj hA with
      |dat ow=>
       obtain⟨kvs,hp,rk⟩:=ow.dict;obtain rfl:z=kV key:=View.key (H:=H3) (.inl rz) e4;have R4:=R3.write (o:=.dK (putK kvs key y)) (c:=.dat (.dict (putD es kd yd key))) hA trivial (.dat (.dct aB (bD.put (Br e4) (ry.mono (eB2.trans eB3)) rk)));exact⟨_,_,rfl,.inl ⟨kvs,key,hp,rfl,by rw[rk.length,sizeLine_eq];omega,rfl⟩,q A3 B3 _ σ R4⟩
  ·cases e5
 ·cases e3
def zV(f:List D->Option (D×D))(m:MN (List SV)):EN:=bN m λxs s=>(qO s.S xs).bind λds=>(f ds).bind λc=>if(fB c.1 true&&fB c.2 true)=true then some (.ok (.tp [.lc s.S.length,.lc (s.S.length+1)]) ⟨s.S++[some (.dat c.1)]++[some (.dat c.2)],s.t⟩)else none
theorem bz.opened{B H B' H':Hp}{s:SS}(R:bz G A B H σ s)(eH:aG H H')(nz:∀q o u,H' q=some (.frz o u)->H q≠none):bz G A (tbu B H') H' σ s:=by
 have wa:aG B H':=R.sub.trans eH;refine R.grow oK eH (λq u h=>?_) (λq h z=>?_) (λq xs h=>oM wa h) λq u w h=>?_
 ·rcases pJ h with h|⟨_,xs,rfl,h'⟩
  ·exact wa q u h
  ·exact h'
 ·cases h2:tbu B H' q with
  |none=>rfl
  |some u=>
   rcases pJ h2 with h3|⟨_,xs,rfl,h3⟩
   ·rw[z]at h3;cases h3
   ·cases h4:H q with
    |none=>exact absurd h4 h
    |some u4=>
     have:=eH q u4 h4;rw[h3]at this;cases this;rw[R.cW q xs h4]at z;cases z
 ·have hq:=nz q u w h
  cases h2:H q with
  |none=>exact absurd h2 hq
  |some o2=>
   have:=eH q o2 h2;rw[h]at this;cases this;exact R.nz q u w h2
theorem yx(h:B p=none)(n:∀xs,H p≠some (.tup xs)):tbu B H p=none:=by
 cases h2:tbu B H p with
 |none=>rfl
 |some o'=>
  rcases pJ h2 with h3|⟨_,xs,rfl,h3⟩
  ·rw[h]at h3;cases h3
  ·exact absurd h3 (n xs)
theorem Fp(h:NA W t m):NE W (jc (spD f) [] E t) (zV f m):=by
 intro G A B H σ s r0 Q R e q;refine eE (t:=t) h R e q λvs xs A1 B1 H1 s1 g1 eB1 R1 V1 e1 q1=>?_
 rw[zaR];obtain⟨ds,h1,e1⟩:=zaa e1;obtain⟨c,h2,e1⟩:=zaa e1;split at e1
 case isFalse=>cases e1
 rename_i hp
 rw[Bool.and_eq_true]at hp;cases e1;refine⟨H1,ds,c,aG.refl _,λ_ _ z=>z,sf R1.st R1.sub V1 h1,h2,λv B' H' P=>?_⟩
 obtain⟨a,p,r,rfl,ha,hpr,hp0,hr0,hBp,hBr,op,or⟩:=P.val;have R2:=R1.opened (B':=B') P.eH P.nz;have wa:aG B1 H':=R1.sub.trans P.eH;have kt:∀q xs,B' q=some (.tup xs)->tbu B1 H' q=some (.tup xs):=λq xs h=>oM wa (P.sub _ _ h)
 have op':=op.d4 kt hp.1;have or':=or.d4 kt hp.2;obtain⟨o1,ho1,mo1⟩:=op'.mx;obtain⟨o2,ho2,mo2⟩:=or'.mx;obtain⟨gp1,gp2,gp3⟩:=R1.se hp0;obtain⟨gr1,gr2,gr3⟩:=R1.se hr0;have R3:=R2.take (c:=.dat c.1) gp1 gp2 (yx gp3 (op.md)) ho1 mo1 (.dat op');have R4:=R3.take (c:=.dat c.2) gr1 (λz=>by
  rcases zae z with z|z
  ·exact gr2 z
  ·exact hpr (zad z).symm) (yx gr3 (or.md)) ho2 mo2 (.dat or')
 refine q1 _ _ _ H' ((Gro.app _ _).trans (Gro.app _ _)) oK R4 (.tp (oM wa ha) (.cons (.lc ?_) (.cons (.lc ?_) .nil)))
 ·rw[<-R1.st.len]
  exact Gro.app _ _ _ _ List.getElem?_concat_length
 ·rw[<-R1.st.len]
  have:(A1++[p]).length=A1.length+1:=by simp
  rw[<-this];exact List.getElem?_concat_length
def oa(f:List D->Option ((D×Bool)×D×D))(m:MN (List SV)):EN:=bN m λxs s=>match xs with
 | .lc i::.lc j::ys=>if i=j then none else(iM ys).bind λds=>match s.S[i]?,s.S[j]? with
  |some (some (.dat d0)),some (some (.dat e0))=>(f (d0::e0::ds)).bind λw=>Ks w.1 ⟨(s.S.set i (some (.dat w.2.1))).set j (some (.dat w.2.2)),s.t⟩
  |_,_=>none
 |_=>none
theorem bz.Ml(R:bz G A B H σ s)(hij:i≠j)(hi:A[i]?=some p)(hj:A[j]?=some p2)(ow:Own B H p d0)(ow2:Own B H p2 e0)(P:IJ B H p p2 v B' H' d o d1 d2):bz G A B' H' σ ⟨(s.S.set i (some (.dat d1))).set j (some (.dat d2)),s.t⟩:=by
 have ip:=zaj hi;have jp:=zaj hj;have li:i<s.S.length:=by rw[<-R.st.len];exact(zac hi).1
 have lj:j<s.S.length:=by rw[<-R.st.len];exact(zac hj).1
 obtain⟨o1,ho1,mo1⟩:=ow.mx;obtain⟨o2,ho2,mo2⟩:=ow2.mx;have mx':∀{q:Addr} {u:HO},H q=some u->¬MxF u->H' q=some u:=fun{q u} h n=>P.eH q u (λz=>by subst z;rw[ho1]at h;cases h;exact n (.inl mo1)) (λz=>by subst z;rw[ho2]at h;cases h;exact n (.inl mo2)) h
 refine⟨P.sub,R.sB.trans P.eB,P.tB,λq u h n=>?_,λq h z=>P.nb q (λhq=>h (R.se hq).1) (R.nB q h z),R.pre,R.fresh,⟨?_,R.st.nd,λa ha=>?_,λa ha=>?_,λk c a h1 h2=>?_⟩,R.len,λk x h=>?_,λq u w h=>?_⟩
 ·have nA:q∉A:=λhq=>by
   rcases R.fresh q hq with h1|h1
   ·exact n h1
   ·rw[h1]at h;cases h
  exact P.eH q u (λz=>nA (z▸ip)) (λz=>nA (z▸jp)) (R.kept q u h n)
 ·show A.length=((s.S.set i (some (.dat d1))).set j (some (.dat d2))).length
  rw[zaM,zaM];exact R.st.len
 ·obtain⟨u,h,_⟩:=R.st.mx a ha
  exact P.nb a (by rw[h];simp) (R.st.dis a ha)
 ·by_cases z:a=p
  ·subst z;obtain⟨u,h,m⟩:=P.own.mx;exact⟨u,h,.inl m⟩
  ·by_cases z2:a=p2
   ·subst z2;obtain⟨u,h,m⟩:=P.zP.mx;exact⟨u,h,.inl m⟩
   ·obtain⟨u,h,m⟩:=R.st.mx a ha
    exact⟨u,P.eH a u z z2 h,m⟩
 ·have h1':((s.S.set i (some (.dat d1))).set j (some (.dat d2)))[k]?=some (some c):=h1
  by_cases zj:k=j
  ·subst zj
   rw[zav (by rw[zaM];exact lj)]at h1'
   cases h1';rw[hj]at h2;cases h2
   exact .dat P.zP
  ·rw[zaA (λe=>zj e.symm)]at h1'
   by_cases zi:k=i
   ·subst zi
    rw[zav li]at h1';cases h1';rw[hi]at h2;cases h2
    exact .dat P.own
   ·rw[zaA (λe=>zi e.symm)]at h1'
    have na:a≠p:=λe=>by
     subst e;exact zi ((List.getElem?_inj (zac h2).1 R.st.nd).mp (h2.trans hi.symm))
    have nb:a≠p2:=λe=>by
     subst e;exact zj ((List.getElem?_inj (zac h2).1 R.st.nd).mp (h2.trans hj.symm))
    exact(R.st.cell k c a h1' h2).mono (Gro.refl _) P.eB (λu h=>P.eH a u na nb h) λq u h n=>mx' h n
 ·obtain⟨w,h1,h2⟩:=R.slot k x h
  exact⟨w,h1,h2.mono (Gro.refl _) P.eB⟩
 ·have hq:=P.nz q u w h
  cases h2:H q with
  |none=>exact absurd h2 hq
  |some o3=>
   by_cases z:q=p
   ·subst z;obtain⟨u',h',m'⟩:=P.own.mx;rw[h]at h';cases h';cases m'
   ·by_cases z2:q=p2
    ·subst z2;obtain⟨u',h',m'⟩:=P.zP.mx;rw[h]at h';cases h';cases m'
    ·have:=P.eH q o3 z z2 h2
     rw[h]at this;cases this;exact R.nz q u w h2
theorem yy(h:NA W t m):NE W (jc (spJ f) [] E t) (oa f m):=by
 intro G A B H σ s r0 Q R e q;refine eE (t:=t) h R e q λvs xs A1 B1 H1 s1 g1 eB1 R1 V1 e1 q1=>?_
 rw[zaR];split at e1
 case h_2=>cases e1
 rename_i i j ys
 split at e1
 ·cases e1
 rename_i hij
 obtain⟨ds,h1,e1⟩:=zaa e1;split at e1
 case h_2=>cases e1
 rename_i d0 e0 hi hj
 obtain⟨⟨⟨d,o⟩,d1,d2⟩,h2,e1⟩:=zaa e1;cases V1 with
 |cons va V1=>
  cases V1 with
  |cons vb V1=>
   cases va with
   |lc hA=>
    cases vb with
    |lc hB=>
     cases R1.st.cell i _ _ hi hA with
     |dat ow=>
      cases R1.st.cell j _ _ hj hB with
      |dat ow2=>
       have hne:∀{p p2:Addr},A1[i]?=some p->A1[j]?=some p2->p≠p2:=fun{p p2} x y z=>by
        subst z;exact hij ((List.getElem?_inj (zac x).1 R1.st.nd).mp (x.trans y.symm))
       refine⟨B1,_,_,_,d0,e0,ds,(d,o),d1,d2,rfl,hne hA hB,R1.sub,R1.cW,R1.st.dis _ (zaj hA),R1.st.dis _ (zaj hB),ow,ow2,kj V1 h1,h2,λv B' H' P=>?_⟩
       have R2:=R1.Ml hij hA hB ow ow2 P;have pv:=P.val;cases o with
       |false=>
        cases e1;exact q1 v A1 B' H' (Gro.refl _) P.eB R2 (.pl pv)
       |true=>
        obtain⟨p,rfl,hn,hB',ow3⟩:=pv;have key:∀r1,r1=newD d ⟨(s1.S.set i (some (.dat d1))).set j (some (.dat d2)),s1.t⟩->ROk G A1 B1 σ W d7 Q r1->Q (.ref p) H':=λr1 er q2=>by
         subst er;obtain⟨g1,g2,g3⟩:=R1.se hn;obtain⟨ob,ho,mo⟩:=ow3.mx;have R3:=R2.take (c:=.dat d) g1 g2 hB' ho mo (.dat ow3);exact q2 _ _ B' H' (Gro.app _ _) P.eB R3 (.lc (by rw[<-R2.st.len];exact List.getElem?_concat_length))
        cases ow3 with
        |lst _ _=>cases e1;exact key _ rfl q1
        |dct _ _=>cases e1;exact key _ rfl q1
end
end Mir
namespace L2
open PySem PySem.Spec PyProof.Rows
section
variable{X:Cx}
def Ja:V->List V->Hp->VK->Prop:=λx xs H Q=>∃a kvs k v,x=.ref a/\xs=[kV k]/\H a=some (.dK kvs)/\jq kvs k=some v/\Q v (upd H a (.dK (qx kvs k)))
theorem wx:MtR X "dict.pop" Ja:=by
 intro pins s σ H x xs v us Q I rx rv h;obtain⟨a,kvs,k,y,rfl,rfl,e,l,q⟩:=h;cases rx;cases rv with
 |cons r1 rv=>
  cases rv;exact L7 I e r1 l (.inl rfl) λw' s' I' rw'=>⟨y,_,I',rw',q⟩
end
end L2
namespace Mir
open PySem L2
section
variable [Zc] [Zl]{W:WX}
def qB(es:List (D×D))(k:Key):List (D×D):=es.filter λp=>decide (keyOf p.1≠some k)
theorem bD.drop:∀{kvs:List (Key×V)} {es:List (D×D)},bD B kvs es->bD B (qx kvs k) (qB es k)
 |_,_,.nil=>.nil
 |_,_,.cons (k:=k') (c:=c') hk hv r=>by
  have ih:=bD.drop (k:=k) r;unfold qx qB at ih⊢;rw[List.filter_cons,List.filter_cons];have e:(decide (keyOf c'≠some k))=decide (k'≠k):=by
   rw[hk.of];simp
  dsimp only;rw[e];split
  ·exact .cons hk hv ih
  ·exact ih
def BD(k:Nat)(xs:List SV)(s:SS):Option (RR SV):=match xs with
 | [.pl kd]=>(keyOf kd).bind λkey=>match s.S[k]? with
  |some (some (.dat (.dict es)))=>(gm es key).map λd=>.ok (.pl d) ⟨s.S.set k (some (.dat (.dict (qB es key)))),s.t⟩
  |_=>none
 |_=>none
def BF(S:List (Option Cl))(k:Nat):Bool:=match S[k]? with
 |some (some (.dat (.dict _)))=>true
 |_=>false
def qC(a:EN)(m:MN (List SV)):EN:=bN a λx s=>match x with
 | .lc k=>if BF s.S k=true then bN m (λxs s2=>BD k xs s2) s else none
 |_=>none
theorem wy(ha:NE W te a)(h:NA W t m):NE W (tBM K "dict" Ja te t) (qC a m):=by
 intro G A B H σ s r0 Q R e q;refine eE (t:=te) ha R e q λx v A1 B1 H1 s1 g1 eB1 R1 V1 e1 q1=>?_
 split at e1
 ·rename_i k
  split at e1
  ·rename_i hl
   cases V1 with
   |lc hA=>
    refine⟨?_,?_⟩
    ·unfold BF at hl
     split at hl
     ·rename_i es hk
      cases R1.st.cell k _ _ hk hA with
      |dat ow=>obtain⟨kvs,hp,_⟩:=ow.dict;exact .inr (.inr (.inl ⟨rfl,.inl ⟨kvs,hp⟩⟩))
     ·cases hl
    ·refine eE (t:=t) h R1 e1 q1 λvs xs A2 B2 H2 s2 g2 eB2 R2 V2 e2 q2=>?_
     unfold BD at e2;split at e2
     ·rename_i kd
      obtain⟨key,e3,e4⟩:=zaa e2;split at e4
      ·rename_i es hk
       obtain⟨d,e5,e6⟩:=zab e4;cases e6;cases V2 with
       |cons va V2=>
        cases V2;cases va with
        |pl rz=>
         cases R2.st.cell k _ _ hk (g2 _ _ hA)with
         |dat ow=>
          obtain⟨kvs,hp,rk⟩:=ow.dict;obtain⟨u,hu,ru⟩:=(kC (k:=key) rk).1 d e5;have ez:=View.key (H:=H2) (.inl rz) e3;subst ez;have R3:=R2.write (o:=.dK (qx kvs key)) (c:=.dat (.dict (qB es key))) (g2 _ _ hA) trivial (.dat (.dct aB (bD.drop rk)));exact⟨_,kvs,key,u,rfl,rfl,hp,hu,q2 u A2 B2 _ (Gro.refl _) (aG.refl _) R3 (.pl ru)⟩
      ·cases e4
     ·cases e2
  ·cases e1
 ·cases e1
end
variable [Zc]
theorem zW(R2:Rel F B2 H1 σ ρ2)(hs : ρ2[i]?=some s)(ho:s.et=true)(hv : σ[i]?=some (some (.ref p)))(rp:aY B2 vs as)(e3:f (slD s::as)=some ((d,false),d1))
  (q:∀v B' H',Ext σ ρ2 B2 H1 (ρ2.set i (s.put d1)) B' H'->Rel F B' H' σ (ρ2.set i (s.put d1))->Rep B' v d->Q v H'):spI f (.ref p::vs) H1 Q E:=by
 obtain⟨p',hv',hB,ow⟩:=R2.ownAt hs ho;rw[hv]at hv';cases hv';obtain⟨oo,hoo⟩:=ow.there;refine⟨B2,p,vs,slD s,as,(d,false),d1,rfl,R2.sub,R2.cW,hB,ow,rp,e3,λv B' H' P=>?_⟩
 obtain⟨o1,ho1⟩:=P.own.there;have hB':B' p=none:=P.nb p (by rw[hoo];simp) hB
 have eH:aG H1 (upd H' p oo):=λc u hc=>by
  by_cases z:c=p
  ·subst z;rw[hoo]at hc;cases hc;exact aB
  ·rw[ax z];exact P.eH c u z hc
 have sub:aG B' (upd H' p oo):=λc u hc=>by
  rw[ax (λz=>by rw[z,hB']at hc;cases hc)];exact P.sub c u hc
 have tB:∀c xs,upd H' p oo c=some (.tup xs)->B' c=some (.tup xs):=λc xs hc=>by
  by_cases z:c=p
  ·subst z;rw[aB]at hc;cases hc;exact absurd hoo (ow.md xs)
  ·rw[ax z]at hc;exact P.tB c xs hc
 have nz:∀c a u,upd H' p oo c=some (.frz a u)->H1 c≠none:=λc a u hc=>by
  by_cases z:c=p
  ·subst z;rw[hoo];simp
  ·rw[ax z]at hc;exact P.nz c a u hc
 have R3:=R2.grow P.eB eH sub P.nb tB nz;have E3:Ext σ ρ2 B2 H1 ρ2 B' (upd H' p oo):=Ext.grow P.eB eH P.nb;have back:upd (upd H' p oo) p o1=H':=by
  funext c
  by_cases z:c=p
  ·subst z;rw[aB,ho1]
  ·rw[ax z,ax z]
 obtain⟨R4,E4⟩:=R3.write (o:=o1) (d:=d1) hs ho hv ⟨(λxs z=>by rw[z]at ho1;exact P.own.md xs ho1),λa u z=>by rw[z]at ho1;exact P.own.v5 a u ho1⟩ (by rw[back];exact P.own)
 rw[back]at R4 E4;exact q v B' H' (E3.trans E4) R4 P.val
def Fq:List RV->Option (List D)
 | []=>some []
 |(d,.fz)::r=>(Fq r).map (d::·)
 |_=>none
theorem Jb:∀{vs:List V} {rs:List RV} {ds:List D},Vl F B H σ ρ vs rs->Fq rs=some ds->aY B vs ds
 | [],[],_,_,h=>by cases h;exact .nil
 |v::vs,(d,k)::rs,ds,V,h=>by
  obtain⟨⟨h1,_⟩,h2⟩:=V;cases k with
  |fz=>
   obtain⟨ds',e1,rfl⟩:=zab (show(Fq rs).map (d::·)=some ds from h)
   exact .cons h1 (Jb h2 e1)
  |_=>cases h
 | [],_::_,_,V,_=>V.elim
 |_::_,[],_,V,_=>V.elim
def goI(f:List D->Option ((D×Bool)×D))(m:Rho->Option (List RV×Rho))(fr:List (Str×Nat))(ρ:Rho)(i:Nat)(s:Sl):List D->D->Option (List D×D)
 | [],d0=>some ([],d0)
 |d::ds,d0=>(m (.fz d::fr.map λp=>cb (ρ.set i (s.put d0)) p.2)).bind λx=>(Fq x.1).bind λas=>(f (d0::as)).bind λw=>if w.1.2=false then(goI f m fr ρ i s ds w.2).map λz=>(w.1.1::z.1,z.2)else none
def KG(fr:List (Str×Nat))(i j:Nat)(it:Rho->Option (List D×Rho))(f:List D->Option ((D×Bool)×D))(m:Rho->Option (List RV×Rho)):PM:=fun ρ=>(it ρ).bind λx=>(ownAt x.2 i).bind λs=>(goI f m fr x.2 i s x.1 (slD s)).bind λw=>cIf (w.1.length<sizeLine) (some ((.list w.1,.new),x.2.set i (s.put w.2))) none
theorem Ht(s:Sl)(d e:D):(s.put d).put e=s.put e:=by cases s<;>rfl
theorem Hu{s:Sl}(h:s.et=true)(d:D):(s.put d).et=true/\slD (s.put d)=d:=by cases s<;>first|exact⟨rfl,rfl⟩|cases h
theorem Fs{s:Sl}(h:s.et=true):s.put (slD s)=s:=by cases s<;>first|rfl|cases h
theorem KH(hj:(fr.map (·.2))[j]?=some i)(hi:MF wi it)(h:MA t m) :
  ME (tLC fr wi Gw (jc (spI f) [] E (ie (nW (j+1)) t))) (KG fr i j it f m):=by
 intro F B H σ ρ r0 ρ' Q R e0 q;obtain⟨x,e1,e0⟩:=zaa e0;obtain⟨s,e2,e0⟩:=zaa e0;obtain⟨w,e3,e0⟩:=zaa e0;obtain⟨hz,e0⟩:=df e0;cases e0;refine hi F B H σ ρ x.1 x.2 _ R e1 λJ B1 H1 E1 R1 I1=>?_
 obtain⟨ds,ρ1⟩:=x;obtain⟨hs,ho⟩:=jo e2;obtain⟨p,hv,_,_⟩:=R1.ownAt hs ho;have hil:i<ρ1.length:=(zac hs).1;have hin:∀v:V,(some v::bQ σ fr)[j+1]?=some (some (.ref p)):=λv=>by
  have:(fr[j]?).map (·.2)=some i:=by rw[<-zao];exact hj
  obtain⟨q,h1,h2⟩:=zab this;have hl:i<σ.length:=(zac hv).1;rw[zat];unfold bQ;rw[zao,h1,zaT,h2];have : σ.getD i none=some (.ref p):=by
   rw[List.getD_eq_getElem?_getD,hv];rfl
  rw[this]
 have self0 : ρ1.set i (s.put (slD s))=ρ1:=by
  rw[Fs ho];obtain⟨hlt,he⟩:=zac hs;rw[<-he];exact List.set_getElem_self hlt
 refine⟨λn m' ys H2=>m'=ds.length-n/\n<=ds.length/\∃B2 dc done rest,aG B1 B2/\Ext σ ρ1 B1 H1 (ρ1.set i (s.put dc)) B2 H2/\Rel F B2 H2 σ (ρ1.set i (s.put dc))/\aY B2 ys done/\goI f m fr ρ1 i s (ds.drop n) dc=some (rest,w.2)/\done++rest=w.1,
  ⟨ds.length,rfl,Nat.zero_le _,B1,slD s,[],w.1,aG.refl _,by rw[self0];exact Ext.refl _ _ _ _,by rw[self0];exact R1,.nil,e3,rfl⟩,?_⟩
 rintro n m' ys H2 ⟨rfl,hnl,B2,dc,done,rest,eB,EE,R2,rp,hgo,hdr⟩
 have hlen:ys.length<=w.1.length:=by rw[<-hdr,zau,rp.length];omega
 refine⟨by omega,?_⟩
 have sH:aG B1 H2:=eB.trans R2.sub
 by_cases hlt:n<ds.length
 ·refine .inr ?_
  obtain⟨go,yl⟩:=(I1 H2 sH).2 n ds[n] (zaC hlt);refine⟨go,λv H3 hy=>?_⟩
  rw[zbb hlt]at hgo;obtain⟨y,c1,c2⟩:=zaa (show(m (.fz ds[n]::fr.map λp=>cb (ρ1.set i (s.put dc)) p.2)).bind _=some (rest,w.2)from hgo)
  obtain⟨as,c3,c2⟩:=zaa c2;obtain⟨g,c4,c2⟩:=zaa c2;split at c2
  rotate_left
  ·cases c2
  rename_i hg0
  obtain⟨z,c5,c6⟩:=zab c2;have had:∃B3,aG B2 B3/\Ext σ (ρ1.set i (s.put dc)) B2 H2 (ρ1.set i (s.put dc)) B3 H3/\Rel F B3 H3 σ (ρ1.set i (s.put dc))/\Rep B3 v ds[n]:=by
   rcases yl v H3 hy with⟨rfl,h2⟩|⟨p,xs,cs,h1,rfl,h3,rfl,h5⟩
   ·exact⟨B2,aG.refl _,Ext.refl _ _ _ _,R2,h2.mono eB⟩
   ·obtain⟨R3,E3,e3⟩:=R2.tP (xs:=xs) h3
    exact⟨_,e3,E3,R3,by rw[h1];exact .tup aB (h5.mono (eB.trans e3))⟩
  obtain⟨B3,eB3,E3,R3,rv⟩:=had;unfold Gw;dsimp only;rw[if_pos rfl];have Ri:=R3.inner fr rv;refine⟨_,hin v,?_⟩;refine h (F0 H3) B3 H3 _ _ y.1 y.2 _ Ri c1 λus B4 H4 E4 R4 V4=>?_
  obtain⟨eH4,nb4⟩:=kg ji E4;have R4o:Rel F B4 H4 σ (ρ1.set i (s.put dc)):=R3.grow E4.sB eH4 R4.sub nb4 R4.cW R4.nz;have E4o:Ext σ (ρ1.set i (s.put dc)) B3 H3 (ρ1.set i (s.put dc)) B4 H4:=Ext.grow E4.sB eH4 nb4;have hs':(ρ1.set i (s.put dc))[i]?=some (s.put dc):=zav hil;obtain⟨po,ps⟩:=Hu ho dc;obtain⟨⟨gd,gb⟩,g1⟩:=g;have Nm:gb=false:=hg0;subst Nm;show spI f (V.ref p::us++[]) H4 _ E;rw[zaR];refine zW R4o hs' po hv (Jb V4 c3) (by rw[ps];exact c4) λu B5 H5 E5 R5 ru=>?_
  rw[Ht,List.set_set]at E5 R5;have EA:=((EE.trans E3).trans E4o).trans E5;have sB5:aG B1 B5:=EA.sB;have e6:gd::z.1=rest:=(Prod.mk.inj c6).1;have e7:z.2=w.2:=(Prod.mk.inj c6).2;refine⟨ds.length-(n+1),by omega,rfl,hlt,B5,g1,done++[gd],z.1,sB5,EA,R5,?_,by rw[c5,<-e7],by rw[<-hdr,<-e6,zaD];rfl⟩
  exact(rp.mono (eB3.trans (E4.sB.trans E5.sB))).append (.cons ru .nil)
 ·have hn':n=ds.length:=by omega
  subst hn';refine .inl ⟨(I1 H2 sH).1,λD hD=>?_⟩
  rw[List.drop_length]at hgo;have Nn:rest=[]/\dc=w.2:=by
   have:=(zaQ (show some (([]:List PyData),dc)=some (rest,w.2)from hgo));exact⟨(congrArg Prod.fst this).symm,congrArg Prod.snd this⟩
  obtain⟨rfl,rfl⟩:=Nn;rw[zaR]at hdr;rw[hdr]at rp;have:=g7 (res:=(.list w.1,true)) (k:=λQ=>∀p,H2 p=none->Q (.ref p) (upd H2 p (.lst ys))) (Q:=Q) R2 ⟨ys,rp,λQ h=>h⟩ λv B' H' E' R' V' N=>q v B' H' ((E1.trans EE).trans E') R' V' λp z1 z2=>(E1.trans EE).live p (N p z1 z2)
  exact this D hD
end Mir
namespace L2
open PySem PySem.W PySem.Calls PySem.Spec PyProof.Rows
open PySem.AutoSeq1 (wpAny_loadPart')
theorem tuple_addW0(l b:Addr)(items items2:Array Value)(n n2:Nat)(dd dd2:Option Addr)(sl sl2:Array (Option Value))(hc0:items.isEmpty=true) :
  Meets (Builtin.«tuple.__add__» ⟨[.ref l,.ref b],[]⟩) (λ_ R s=>s.heap.get? l=some {cls:=.type "tuple",dict:=dd,data:=.seq items n,slots:=sl}/\s.heap.get? b=some {cls:=.type "tuple",dict:=dd2,data:=.seq items2 n2,slots:=sl2}/\R (.ok (.ret (Value.ref b))) s) :=
 .of_wp λprog w A R s h=>by
  obtain⟨hp,g,d,tk,os⟩:=s;obtain⟨hl,hb,h⟩:=h
  have f2:=PySem.AutoSeq1.sub_tuple_tuple
  wp_walk using wpAny_loadPart' hl,wpAny_loadPart' hb
  exact⟨_,rfl,h⟩
section
variable{prog:Program}{w:World}{A:Around}{E:Value->Shared->Prop}{s:Shared}
theorem Ft{ws:List Value}(ht:IsTup s.heap t ([]:List Value).toArray)(hb:IsTup s.heap b ws.toArray)(h1:Q (.ref b) s):wpAny (model prog w) A (binaryOp .Add (.ref t) (.ref b)) Q E s:=by
 obtain⟨⟨cls,dd,data,sl⟩,ho,hc,n,hd⟩:=id ht;obtain⟨⟨cls2,dd2,data2,sl2⟩,ho2,hc2,n2,hd2⟩:=id hb;simp only at hc hd hc2 hd2;subst hc hd hc2 hd2;exact concat_meets ⟨_,ho,rfl⟩ ⟨_,ho2,rfl⟩ noFill_tuple_add seq_tuple_add PySem.F.slot_tuple_add PySem.F.entry_tuple_add (PySem.F.args_tuple_add_2 _ _)
   (tuple_addW0 t b _ ws.toArray n n2 dd dd2 sl sl2 rfl) ⟨ho,ho2,h1⟩
end
def Jc(K:zag):R2:=λx y H Q=>∃a b ys,x=.ref a/\y=.ref b/\SqT K H a []/\SqT K H b ys/\Q (.ref b) H
section
variable{X:Cx}
theorem Hv:OpR X (binaryOp .Add) (Jc X.K):=by
 intro pins s σ H x y v u Q I rx ry h;obtain⟨a,b,ys,rfl,rfl,ha,hb,q⟩:=h;cases rx;cases ry;obtain⟨its,r1,p1,_⟩:=I.tuple ha;obtain⟨its2,r2,p2,_⟩:=I.tuple hb;cases r1;exact Ft p1 p2 ⟨.ref b,H,I,rfl,q⟩
def Fu(K:zag):R2:=λx y H Q=>Mir.vT K x y H Q\/Jc K x y H Q
theorem yz{K:zag}(h:X.K=K):OpR X (binaryOp .Add) (Fu K):=h▸Mir.AU.or Hv
end
end L2
namespace Mir
open PySem L2
variable [Zc]
def qD:D->D->Option (D×Bool)
 | .tuple [],.tuple b=>some (.tuple b,false)
 |x,y=>gr x y
theorem Fv:OpJ (Fu K) qD:=by
 intro B H x y c d res s hx hy e;unfold qD at e;split at e
 ·rename_i b
  cases e;obtain⟨p,xs,rfl,r1,rp1⟩:=hx.tuple s;cases rp1;have hy':Rep B y (.tuple b):=by
   rcases hy with h|⟨p,rfl,h⟩
   ·exact h
   ·cases h
  refine⟨y,hy',λQ q=>.inr ?_⟩
  cases hy' with
  |tup h r=>
   exact⟨_,_,_,rfl,rfl,.inl (.inl r1),.inl (.inl (s _ _ h)),q⟩
 ·have:=iL (K:=K) B H x y c d res s hx hy e
  obtain⟨r0,o⟩:=res;cases o with
  |false=>obtain⟨v,h1,h2⟩:=this;exact⟨v,h1,λQ q=>.inl (h2 Q q)⟩
  |true=>
   cases r0 with
   |list ds=>obtain⟨v,h1,h2⟩:=this;exact⟨v,h1,λQ q=>.inl (h2 Q q)⟩
   |tuple ds=>obtain⟨v,h1,h2⟩:=this;exact⟨v,h1,λQ q=>.inl (h2 Q q)⟩
   |dict ds=>obtain⟨v,h1,h2⟩:=this;exact⟨v,h1,λQ q=>.inl (h2 Q q)⟩
   |_=>exact this
theorem uN(a b:List D)(h:a.length+b.length<=100000)(hb:b≠[]):∃o,qD (.tuple a) (.tuple b)=some (.tuple (a++b),o):=by
 cases a with
 |nil=>exact⟨false,rfl⟩
 |cons c a=>exact⟨true,by show cIf _ _ _=_;rw[b7 ⟨uE h,hb⟩]⟩
end Mir
namespace Mir
open PySem L2
section
variable [Zc]
def Ag(N:List Nat)(σ σ':St):Prop:=σ'.length=σ.length/\∀n,n∉N->σ'[n]?=σ[n]?
theorem Ag.refl(N:List Nat)(σ:St):Ag N σ σ:=⟨rfl,λ_ _=>rfl⟩
theorem Ag.trans(a:Ag N σ σ1)(b:Ag N σ1 σ2):Ag N σ σ2:=⟨b.1.trans a.1,λn h=>(b.2 n h).trans (a.2 n h)⟩
theorem Ag.set(h:i∈N)(v:Option V):Ag N σ (σ.set i v):=⟨zaM,λn hn=>zaA (λe:i=n=>hn (by rw[<-e];exact h))⟩
def pS(N:List Nat)(σ0:St)(F:Fr)(D:Ends):Out->Prop
 | .nx ρ=>∀B H σ,Rel F B H σ ρ->Ag N σ0 σ->D.nx σ H
 | .rt r ρ=>∀v B H σ,Rel F B H σ ρ->Val F B H σ ρ v r->D.rt v H
 | .bk ρ=>∀B H σ,Rel F B H σ ρ->Ag N σ0 σ->D.bk σ H
 | .ct ρ=>∀B H σ,Rel F B H σ ρ->Ag N σ0 σ->D.ct σ H
theorem pS.step{D:Ends}{o:Out}(h:pS N σ F D o)(a:Ag N σ σ1):pS N σ1 F D o:=by
 cases o with
 |nx ρ=>exact λB H σ' R b=>h B H σ' R (a.trans b)
 |bk ρ=>exact λB H σ' R b=>h B H σ' R (a.trans b)
 |ct ρ=>exact λB H σ' R b=>h B H σ' R (a.trans b)
 |rt r ρ=>exact h
theorem pS.down{σ1:St}{ρ1:Rho}(R1:Rel F B1 H1 σ1 ρ1){D:Ends}{o:Out}(h:pS N σ F D o):pS N σ ⟨B1,F.H,F.io,F.Z⟩ D o:=by
 cases o with
 |nx ρ=>exact λB H σ R a=>h B H σ (R1.up R) a
 |bk ρ=>exact λB H σ R a=>h B H σ (R1.up R) a
 |ct ρ=>exact λB H σ R a=>h B H σ (R1.up R) a
 |rt r ρ=>exact λv B H σ R V=>h v B H σ (R1.up R) V
variable{N:List Nat}
theorem Rel.CY(R:Rel F B H σ ρ)(hB:B p=none)(hF:F.H p=none)(hH:H p=some (.lst xs))(hn:∀(n:Nat) (s:Sl),ρ[n]?=some s->s.isRef=true->σ[n]?≠some (some (.ref p)))(ys:List V):Rel F B (upd H p (.lst ys)) σ ρ:=by
 refine⟨λq o h=>?_,R.sB,λq o h hx=>?_,R.nB,R.len,λn s hs=>?_,R.dist,R.kc,R.fx,R.ioN,λq zs h=>?_,R.exv,λq o u h=>?_⟩
 ·rw[ax (λz=>by rw[z,hB]at h;cases h)];exact R.sub q o h
 ·rw[ax (λz=>by rw[z,hF]at h;cases h)];exact R.sH q o h hx
 ·have ok:=R.slot n s hs
  have ne:s.isRef=true->∀q,σ[n]?=some (some (.ref q))->∀o,H q=some o->upd H p (.lst ys) q=some o:=λhr q hq o ho=>by
   rw[ax (λz=>hn n s hs hr (by rw[hq,z]))];exact ho
  cases s with
  |no=>trivial
  |ex=>trivial
  |fz d=>exact ok
  |own d=>obtain⟨q,h1,h2,h3⟩:=ok;exact⟨q,h1,h2,h3.mono (aG.refl _) (ne rfl q h1)⟩
  |io d=>obtain⟨q,h1,h2,h3⟩:=ok;exact⟨q,h1,h2,h3.mono (aG.refl _) (ne rfl q h1)⟩
  |ro d=>obtain⟨q,h1,h3⟩:=ok;exact⟨q,h1,h3.mono (aG.refl _) (ne rfl q h1)⟩
 ·by_cases z:q=p
  ·subst z;rw[aB]at h;cases h
  ·rw[ax z]at h;exact R.cW q zs h
 ·by_cases z:q=p
  ·subst z;rw[aB]at h;cases h
  ·rw[ax z]at h;exact R.nz q o u h
structure KI(F:Fr)(B H:Hp)(σ:St)(ρ:Rho)(i:Nat)(ps:List Addr)(b:Nat):Prop where
 here:∃a,σ[i]?=some (some (.ref a))/\H a=some (.tup (ps.map .ref))
 lst:∀p∈ps,∃xs,H p=some (.lst xs)/\xs.length<=b
 out:∀p∈ps,B p=none/\F.H p=none
 free:∀p∈ps,∀(n:Nat) (s:Sl),ρ[n]?=some s->s.isRef=true->σ[n]?≠some (some (.ref p))
theorem KI.CY(d:KI F B H σ ρ i ps b)(hp:p∈ps)(ys:List V)(b2:Nat)(hb:b<=b2)(hy:ys.length<=b2):KI F B (upd H p (.lst ys)) σ ρ i ps b2:=by
 obtain⟨xs,hx,_⟩:=d.lst p hp;refine⟨?_,λq hq=>?_,d.out,d.free⟩
 ·obtain⟨a,h1,h2⟩:=d.here
  exact⟨a,h1,by rw[ax (λz=>by rw[z,hx]at h2;cases h2)];exact h2⟩
 ·by_cases z:q=p
  ·subst z;exact⟨ys,aB,hy⟩
  ·rw[ax z];obtain⟨zs,h1,h2⟩:=d.lst q hq;exact⟨zs,h1,zaX h2 hb⟩
structure Sv(N:List Nat)(i:Nat)(F:Fr)(Bs:Hp)(σs:St)(ρs:Rho)(ps:List Addr)(b:Nat)(B:Hp)(σ:St):Prop where
 slot:∀(n:Nat) (d:D),n≠i->ρs[n]?=some (.fz d)->∃v,σs[n]?=some (some v)/\Rep Bs v d
 sBs:aG F.B Bs
 nBs:∀q,F.H q≠none->F.B q=none->Bs q=none
 sB:aG Bs B
 ag:Ag N σs σ
 ni:i∉N
 here:∃a,σs[i]?=some (some (.ref a))/\B a=some (.tup (ps.map .ref))
 out:∀p∈ps,Bs p=none/\F.H p=none
 lst:∀p∈ps,∃xs,B p=some (.lst xs)/\xs.length<=b
 len : ρs.length=σs.length
 io:F.io=[]
theorem Sv.go(s:Sv N i F Bs σs ρs ps b B σ)(e:aG B B')(a:Ag N σ σ'):Sv N i F Bs σs ρs ps b B' σ':=by
 refine⟨s.slot,s.sBs,s.nBs,s.sB.trans e,s.ag.trans a,s.ni,?_,s.out,λp hp=>?_,s.len,s.io⟩
 ·obtain⟨c,h1,h2⟩:=s.here;exact⟨c,h1,e _ _ h2⟩
 ·obtain⟨xs,h1,h2⟩:=s.lst p hp;exact⟨xs,e _ _ h1,h2⟩
end
def zX:D->Bool
 | .list _=>false
 | .tuple _=>false
 |_=>true
mutual
inductive Nw(G B:Hp):V->D->Prop
 |lst {p:Addr} {xs:List V} {ds:List D}:G p=none->B p=some (.lst xs)->xs.length=ds.length->Nw G B (.ref p) (.list ds)
 |tup {a:Addr} {xs:List V} {ds:List D}:B a=some (.tup xs)->Nws G B xs ds->Nw G B (.ref a) (.tuple ds)
 |oth {v:V} {d:D}:zX d=true->Nw G B v d
inductive Nws(G B:Hp):List V->List D->Prop
 |nil:Nws G B [] []
 |cons {v:V} {vs:List V} {d:D} {ds:List D}:Nw G B v d->Nws G B vs ds->Nws G B (v::vs) (d::ds)
end
mutual
theorem Nw.mono(e:aG B B'):∀{v:V} {d:D},Nw G B v d->Nw G B' v d
 |_,_,.lst a b c=>.lst a (e _ _ b) c
 |_,_,.tup a b=>.tup (e _ _ a) (Nws.mono e b)
 |_,_,.oth a=>.oth a
theorem Nws.mono(e:aG B B'):∀{v:List V} {d:List D},Nws G B v d->Nws G B' v d
 |_,_,.nil=>.nil
 |_,_,.cons a b=>.cons (Nw.mono e a) (Nws.mono e b)
end
mutual
theorem Nw.pure:∀{v:V} {d:D},Rep B v d->eQ d=true->Nw G B v d
 |_,_,.non,_=>.oth rfl
 |_,_,.bl b,_=>.oth rfl
 |_,_,.int i,_=>.oth rfl
 |_,_,.str x,_=>.oth rfl
 |_,_,.lst _ _,h=>by simp[eQ]at h
 |_,_,.dct _ _,h=>by simp[eQ]at h
 |_,_,.tup h r,e=>.tup h (Nws.pure r (by simpa[eQ]using e))
theorem Nws.pure:∀{v:List V} {d:List D},aY B v d->bc d=true->Nws G B v d
 |_,_,.nil,_=>.nil
 |_,_,.cons a b,e=>by
  simp only[bc,Bool.and_eq_true]at e;exact .cons (Nw.pure a e.1) (Nws.pure b e.2)
end
theorem Nw.own(hG:G p=none)(o:Own B0 H p d)(r:Rep B (.ref p) d)(s:aG B H):Nw G B (.ref p) d:=by
 cases o with
 |dct h _=>exact .oth rfl
 |lst h _=>
  cases r with
  |lst hr rr=>
   rcases hr with e|⟨u,e⟩
   ·exact .lst hG e rr.length
   ·have:=s _ _ e
    rw[h]at this;cases this
section
variable [Zc]
def MEW(t:TE)(m:PM):Prop:=∀(F:Fr) (B H:Hp) (σ:St) (ρ:Rho) (r:RV) (ρ':Rho) (Q:VK),Rel F B H σ ρ->m ρ=some (r,ρ')->
  (∀v B' H',Ext σ ρ B H ρ' B' H'->Rel F B' H' σ ρ'->Val F B' H' σ ρ' v r->(∀p,r.2=.new->v=.ref p->H p=none)->(r.2=.fz->Nw F.H B' v r.1)->Q v H')->t σ H Q
theorem MEW.sv(h:MEW t m):MEW t (sv m):=by
 intro F B H σ ρ r ρ' Q R e q;unfold Mir.sv at e;split at e
 ·rename_i d ρ1 e1
  cases e;refine h F B H σ ρ _ _ Q R e1 λv B' H' E R' V' N W=>?_
  obtain⟨B2,R2,rp,s2,k2⟩:=R'.uA V';obtain⟨p,rfl,hB,hF,o,nn⟩:=V';refine q _ B2 H' ⟨E.sB.trans s2,λq o h1 h2=>?_,E.own,E.ref,E.live⟩ R2 rp (λ_ z=>by cases z) (λ_=>Nw.own hF o rp R2.sub)
  obtain⟨h3,h4⟩:=E.keep q o h1 h2;refine⟨h3,λz=>?_⟩
  by_cases y:q=p
  ·subst y
   exact absurd (N q rfl rfl) (by rw[h1];simp)
  ·rw[k2 q (λz=>y (by cases z;rfl))];exact h4 z
 ·rename_i hx
  exact h F B H σ ρ r ρ' Q R e q
def NwL(G B:Hp):List V->List RV->Prop
 | [],[]=>True
 |v::vs,r::rs=>(r.2=.fz->Nw G B v r.1)/\NwL G B vs rs
 |_,_=>False
theorem NwL.mono(e:aG B B'):∀{vs:List V} {rs:List RV},NwL G B vs rs->NwL G B' vs rs
 | [],[],_=>trivial
 |_::_,_::_,⟨a,b⟩=>⟨λz=>(a z).mono e,NwL.mono e b⟩
 | [],_::_,h=>h.elim
 |_::_,[],h=>h.elim
def nr(m:SM):SM:=fun ρ=>(m ρ).bind λo=>match o with
 | .rt _ _=>none
 |o=>some o
end
mutual
inductive NwB(G Bs B:Hp)(b:Nat):V->D->Prop
 |lst {p:Addr} {xs:List V} {ds:List D}:G p=none->Bs p=none->B p=some (.lst xs)->xs.length<=b->NwB G Bs B b (.ref p) (.list ds)
 |tup {a:Addr} {xs:List V} {ds:List D}:B a=some (.tup xs)->oS G Bs B b xs ds->NwB G Bs B b (.ref a) (.tuple ds)
 |oth {v:V} {d:D}:zX d=true->NwB G Bs B b v d
inductive oS(G Bs B:Hp)(b:Nat):List V->List D->Prop
 |nil:oS G Bs B b [] []
 |cons {v:V} {vs:List V} {d:D} {ds:List D}:NwB G Bs B b v d->oS G Bs B b vs ds->oS G Bs B b (v::vs) (d::ds)
end
mutual
theorem NwB.mono(e:aG B B'):∀{v:V} {d:D},NwB G Bs B b v d->NwB G Bs B' b v d
 |_,_,.lst a b c d=>.lst a b (e _ _ c) d
 |_,_,.tup a b=>.tup (e _ _ a) (oS.mono e b)
 |_,_,.oth a=>.oth a
theorem oS.mono(e:aG B B'):∀{v:List V} {d:List D},oS G Bs B b v d->oS G Bs B' b v d
 |_,_,.nil=>.nil
 |_,_,.cons a b=>.cons (NwB.mono e a) (oS.mono e b)
end
mutual
def wz:D->Bool
 | .list ds=>decide (ds.length<=90000)
 | .tuple ds=>rj ds
 | .none=>true
 | .bool _=>true
 | .int _=>true
 | .str _=>true
 | .dict _=>true
def rj:List D->Bool
 | []=>true
 |d::ds=>wz d&&rj ds
end
mutual
theorem NwB.of(k:∀p,G p=none->G' p=none/\Bs p=none):∀{v:V} {d:D},Nw G B v d->wz d=true->NwB G' Bs B 90000 v d
 |_,_,.lst a b c,h=>.lst (k _ a).1 (k _ a).2 b (by rw[c];simpa[wz]using h)
 |_,_,.tup a b,h=>.tup a (oS.of k b (by simpa[wz]using h))
 |_,_,.oth a,_=>.oth a
theorem oS.of(k:∀p,G p=none->G' p=none/\Bs p=none):∀{v:List V} {d:List D},Nws G B v d->rj d=true->oS G' Bs B 90000 v d
 |_,_,.nil,_=>.nil
 |_,_,.cons a b,h=>by
  simp only[rj,Bool.and_eq_true]at h;exact .cons (NwB.of k a h.1) (oS.of k b h.2)
end
mutual
inductive Dd(G B H:Hp)(b:Nat):V->D->Prop
 |lst {p:Addr} {xs:List V} {ds:List D}:G p=none->B p=none->H p=some (.lst xs)->xs.length<=b->Dd G B H b (.ref p) (.list ds)
 |tup {a:Addr} {xs:List V} {ds:List D}:H a=some (.tup xs)->Dds G B H b xs ds->Dd G B H b (.ref a) (.tuple ds)
 |oth {v:V} {d:D}:zX d=true->Dd G B H b v d
inductive Dds(G B H:Hp)(b:Nat):List V->List D->Prop
 |nil:Dds G B H b [] []
 |cons {v:V} {vs:List V} {d:D} {ds:List D}:Dd G B H b v d->Dds G B H b vs ds->Dds G B H b (v::vs) (d::ds)
end
mutual
theorem Dd.of(s:aG B H)(k:∀p xs,B p=some (.lst xs)->Bs p=none->B5 p=none):∀{v:V} {d:D},NwB G Bs B b v d->Dd G B5 H b v d
 |_,_,.lst a b c d=>.lst a (k _ _ c b) (s _ _ c) d
 |_,_,.tup a b=>.tup (s _ _ a) (Dds.of s k b)
 |_,_,.oth a=>.oth a
theorem Dds.of(s:aG B H)(k:∀p xs,B p=some (.lst xs)->Bs p=none->B5 p=none):∀{v:List V} {d:List D},oS G Bs B b v d->Dds G B5 H b v d
 |_,_,.nil=>.nil
 |_,_,.cons a b=>.cons (Dd.of s k a) (Dds.of s k b)
end
mutual
theorem Dd.CY(hp:∃xs,H p=some (.lst xs))(hb:b<=b2)(hy:ys.length<=b2):∀{v:V} {d:D},Dd G B H b v d->Dd G B (upd H p (.lst ys)) b2 v d
 |_,_,.lst (p:=q) h1 h2 h3 h4=>by
  by_cases z:q=p
  ·subst z;exact .lst h1 h2 aB hy
  ·exact .lst h1 h2 (by rw[ax z];exact h3) (zaX h4 hb)
 |_,_,.tup (a:=q) h1 h2=>by
  refine .tup ?_ (Dds.CY hp hb hy h2);rw[ax (λz=>by obtain⟨xs,hx⟩:=hp;rw[z,hx]at h1;cases h1)];exact h1
 |_,_,.oth a=>.oth a
theorem Dds.CY(hp:∃xs,H p=some (.lst xs))(hb:b<=b2)(hy:ys.length<=b2):∀{v:List V} {d:List D},Dds G B H b v d->Dds G B (upd H p (.lst ys)) b2 v d
 |_,_,.nil=>.nil
 |_,_,.cons a c=>.cons (Dd.CY hp hb hy a) (Dds.CY hp hb hy c)
end
theorem Dds.get:∀{vs:List V} {ds:List D} (j:Nat) {d:D},Dds G B H b vs ds->ds[j]?=some d->∃v,vs[j]?=some v/\Dd G B H b v d
 |_,_,_,_,.nil,e=>by simp at e
 |_,_,0,_,.cons a _,e=>by simp at e;subst e;exact⟨_,rfl,a⟩
 |_,_,j+1,_,.cons _ c,e=>by
  obtain⟨v,h1,h2⟩:=Dds.get j c (by simpa using e)
  exact⟨v,by simpa using h1,h2⟩
section
variable [Zc]
structure Sg(N:List Nat)(i:Nat)(F:Fr)(Bs:Hp)(σs:St)(ρs:Rho)(v:V)(d:D)(b:Nat)(B:Hp)(σ:St):Prop where
 slot:∀(n:Nat) (d:D),n≠i->ρs[n]?=some (.fz d)->∃v,σs[n]?=some (some v)/\Rep Bs v d
 sBs:aG F.B Bs
 nBs:∀q,F.H q≠none->F.B q=none->Bs q=none
 sB:aG Bs B
 ag:Ag N σs σ
 ni:i∉N
 here : σs[i]?=some (some v)
 nw:NwB F.H Bs B b v d
 len : ρs.length=σs.length
 io:F.io=[]
theorem Sg.go(s:Sg N i F Bs σs ρs v d b B σ)(e:aG B B')(a:Ag N σ σ'):Sg N i F Bs σs ρs v d b B' σ' :=
 ⟨s.slot,s.sBs,s.nBs,s.sB.trans e,s.ag.trans a,s.ni,s.here,s.nw.mono e,s.len,s.io⟩
variable{N:List Nat}
end
end Mir
namespace L2
open PySem PySem.Spec PyProof.Rows
theorem Def.imp{K:zag}{base:Heap}{CX:CXT}{k:Nat}{x:Str}{ps:List Str}{sp sp':Sp}(D:Def P w K mg base CX k x ps sp)(h:∀vs H Q E,sp' vs H Q E->sp vs H Q E):Def P w K mg base CX k x ps sp':=by
 obtain⟨f,fd,F,m,kp,b⟩:=D.ex;exact⟨⟨f,fd,l7.imp F h,m,kp,b⟩⟩
end L2
namespace Mir
open PySem L2
section
variable [Zc]
def qE(as:List D):List D:=as.mapIdx λi a=>PyData.tuple [.int i,a]
theorem CZ{i:Nat}(h:(qE as)[i]?=some d):∃a,d=.tuple [.int i,a]/\as[i]?=some a:=by
 unfold qE at h;rw[List.getElem?_mapIdx]at h;obtain⟨a,h1,h2⟩:=zab h;exact⟨a,h2.symm,h1⟩
theorem KJ(h1:Rd G p (.lst xs))(r1:aY B xs as):oE G B (Ite K p) (qE as):=λH s=>by
 have g1:SqL K H p xs:=ke (fg s h1);refine⟨⟨xs,g1,by rw[r1.length];simp[qE]⟩,λi d hd=>?_⟩
 obtain⟨a,rfl,ha⟩:=CZ hd;obtain⟨x,x1,x2⟩:=r1.get i a ha;refine⟨⟨xs,x,g1,x1⟩,λv H' hy=>?_⟩
 obtain⟨p',x',rfl,hp,rfl,e1⟩:=hy;have e1':=e1 xs g1;rw[x1]at e1';cases e1';exact .inr ⟨p',[.int i,x],[.int i,a],rfl,rfl,hp,rfl,.cons (.int _) (.cons x2 .nil)⟩
def Mm(m:Rho->Option (List RV×Rho)):Rho->Option (List D×Rho):=fun ρ=>((m ρ).bind J5).bind λx=>(me x.1 x.2).bind λy=>(asL y.1).map λds=>(qE ds,y.2)
section
variable{K:zag}{ta:TA}{m:Rho->Option (List RV×Rho)}
theorem Hw(h:MA ta m):MF (IY K ta) (Mm m):=by
 intro F B H σ ρ ds ρ' Q R e q;obtain⟨x,e0,e⟩:=zaa e;obtain⟨x0,e1,e3⟩:=zaa e0;obtain⟨y,e4,e⟩:=zaa e;obtain⟨ds',e2,e⟩:=zab e;cases e;rw[GH e3]at e1;refine h F B H σ ρ _ _ _ R e1 λvs B1 H1 E1 R1 V1=>?_
 match vs,V1 with
 | [v],V1=>
  obtain⟨B2,R2,rp,E2⟩:=R1.frz V1.weak.1 e4;rw[zD e2]at rp;cases rp with
  |lst h r=>exact⟨_,_,rfl,ke (fg R2.sub h),q _ B2 H1 (E1.trans E2) R2 (KJ h r)⟩
end
end
end Mir
namespace L2
open PySem
def Jd(xs:List V)(H:Hp)(Q:VK):Prop:=JW xs H Q\/∃a o kvs n,xs=[.ref a,.ty n]/\(H a=some (.dK kvs)\/H a=some (.frz o (.dK kvs)))/\n∈dR/\Q (.bl (oD "dict" n)) H
theorem pT:eG X (.builtin "isinstance") Jd:=by
 intro pins s σ H xs us Q I r h;rcases h with h|⟨a,o,kvs,n,rfl,hd,h2,q⟩
 ·exact gy pins s σ H xs us Q I r h
 ·obtain⟨u,v,rfl,ru,rv⟩:=vals2 r
  cases rv;have fin:∀{vs} {h:Heap},h=s.heap->h.DictOf (b6 X.prog X.w) a vs->wpAny (model X.prog X.w) X.A (call (.builtin "isinstance") [u,.type n]) (EP X pins σ Q) X.xe s:=fun{vs h} eh p=>by
   subst eh;cases(show u=Value.ref a from ru);obtain⟨o,es,ep,h1,h3,_⟩:=p;exact za4 PySem.W.kitx_dict I.kIn ⟨o,h1,h3.1⟩ (uy X.K "dict" (by decide) n h2) (λz=>nomatch z) λtk=>⟨.bl _,H,I.tok tk,rfl,q⟩
  rcases hd with hd|hd
  ·obtain⟨_,_,vs,_,p⟩:=(show cG X.prog X.w H s.heap a (.dK kvs)from I.hok a _ hd)
   exact fin rfl p
  ·obtain⟨_,_,_,vs,_,p⟩:=(show cG X.prog X.w H s.heap a (.frz o (.dK kvs))from I.hok a _ hd)
   exact fin rfl p
end L2
namespace Mir
open PySem L2
section
variable [Zc]
def yA(n:String):D->Option (D×Bool)
 | .dict _=>if n∈dR then some (.bool (oD "dict" n),false)else none
 |d=>mj n d
def oT(n:String)(a:PM):PM:=mUn (yA n) a
theorem wA(ha:ME ta a):ME (tCB Jd (ie ta (ie (tC (.ty n)) vy))) (oT n a):=by
 intro F B H σ ρ r0 ρ' Q R e q;obtain⟨x,e1,e⟩:=zaa e;obtain⟨res,e4,e⟩:=zab e;cases e
 by_cases hd:∃es,x.1.1=.dict es
 ·obtain⟨es,hd⟩:=hd
  refine ha.sv F B H σ ρ x.1 x.2 _ R e1 λv B1 H1 E1 R1 V1 N1=>?_
  rw[hd]at e4;have e4':(if n∈dR then some ((PyData.bool (oD "dict" n),false):D×Bool)else none)=some res:=e4
  by_cases hn:n∈dR
  ·rw[if_pos hn]at e4'
   cases e4';have rp:=(V1.view R1).rep R1.sub;rw[hd]at rp;cases rp with
   |dct h _=>
    rcases h with h|⟨o,h⟩
    ·exact .inr ⟨_,⟨.none,none,.plain,#[]⟩,_,n,rfl,.inl h,hn,q _ B1 H1 E1 R1 (.bl _) λp z=>by cases z⟩
    ·exact .inr ⟨_,o,_,n,rfl,.inr h,hn,q _ B1 H1 E1 R1 (.bl _) λp z=>by cases z⟩
  ·rw[if_neg hn]at e4';cases e4'
 ·have e5:mj n x.1.1=some res:=by
   revert e4 hd
   cases x.1.1 with
   |dict es=>intro _ hd;exact absurd ⟨es,rfl⟩ hd
   |_=>intro e4 _;exact e4
  refine ha.sv F B H σ ρ x.1 x.2 _ R e1 λv B1 H1 E1 R1 V1 N1=>.inl ?_
  unfold mj at e5;split at e5
  ·rename_i hd'
   cases e5;have rp:=(V1.view R1).rep R1.sub;have ht:=rp.ty hd'.1;have hk:tyD x.1.1∈de:=by
    have h2:=hd'.1
    revert h2
    cases x.1.1 with
    |none=>intro _;show "NoneType"∈de;decide
    |bool _=>intro _;show "bool"∈de;decide
    |int _=>intro _;show "int"∈de;decide
    |str _=>intro _;show "str"∈de;decide
    |list _=>intro _;show "list"∈de;decide
    |tuple _=>intro _;show "tuple"∈de;decide
    |dict _=>intro h2;exact absurd rfl h2
   exact⟨v,n,rfl,by rw[ht];exact hk,hd'.2,by rw[ht];exact q _ B1 H1 E1 R1 (.bl _) λp z=>by cases z⟩
  ·cases e5
end
end Mir
namespace L2
open PySem
theorem hv1(h:a+b<c)(hb : 1<=b:=by decide):a+1<c:=by omega
end L2
namespace Mir
open PySem L2
section
variable [Zc]
def uO:List D->Option (List Int)
 | []=>some []
 | .int i::r=>(uO r).map (i::·)
 |_=>none
theorem uP:∀{vs:List V} {ds:List D} {ns:List Int},aY B vs ds->uO ds=some ns->vs=ns.map V.int
 |_,_,_,.nil,h=>by cases h;rfl
 |_,_,ns,.cons (d:=d) hx r,h=>by
  cases d with
  |int i=>
   obtain⟨ms,h1,h2⟩:=zab (show(uO _).map (i::·)=some ns from h)
   subst h2;cases hx;rw[zaz,uP r h1]
  |_=>cases h
def Hx:RV->Option (List D)
 |(.list ds,.new)=>some ds
 |_=>none
theorem Hy(h:Hx r=some ds):r=(.list ds,.new):=by
 unfold Hx at h;split at h
 ·cases h;rfl
 ·cases h
def pU(a:PM):PM:=fun ρ=>(a ρ).bind λx=>(Hx x.1).bind λds=>(uO ds).bind λns=>cIf (ns.length+1<4096) (some ((.int (diff ns:Int),.fz),x.2)) none
theorem Fw(ha:ME ta a):ME (tCB IP (ie (tCB IM (ie ta vy)) vy)) (pU a):=by
 intro F B H σ ρ r0 ρ' Q R e q;obtain⟨⟨r,ρ1⟩,e1,e⟩:=zaa e;obtain⟨ds,e2,e⟩:=zaa e;obtain⟨ns,e3,e⟩:=zaa e;obtain⟨hz,e⟩:=df e;cases e;have er:=Hy e2;dsimp only at er;subst er;refine ha F B H σ ρ _ ρ1 _ R e1 λv B1 H1 E1 R1 V1 N1=>?_
 obtain⟨p,rfl,hB,hF,ow,_⟩:=V1;obtain⟨xs,hp,rs⟩:=ow.list;rw[uP rs e3]at hp;refine⟨p,ns,rfl,hp,hz,λp3 S h3=>?_⟩
 obtain⟨R3,E3⟩:=R1.fresh (o:=.set S (diff ns)) h3 (λ_ z=>by cases z) λ_ _ z=>by cases z
 exact⟨p3,S,diff ns,rfl,aB,Nat.lt_of_le_of_lt (yk _ _) (by omega),q _ B1 _ (E1.trans E3) R3 (.int _) λp z=>by cases z⟩
end
end Mir
namespace aK
open PySem
structure Row where
 key:Int
 above:Option Str
 mark:Bool
 below:List Str
section
variable{α:Type} [DecidableEq α]
theorem js:∀(l k:List α),l.Nodup->(∀x∈l,x∈k)->l.length<=k.length
 | [],_,_,_=>Nat.zero_le _
 |a::l,k,h,hs=>by
  have ha:=hs a zas;have hn:=List.nodup_cons.mp h;have:=js l (k.erase a) hn.2 λx hx=>(List.mem_erase_of_ne (λe=>hn.1 (by rw[<-e];exact hx))).mpr (hs x (zak _ hx))
  rw[List.length_erase_of_mem ha]at this;have : 0<k.length:=List.length_pos_of_mem ha;rw[zaw];omega
end
variable(keys:List Str)(row:Str->Row)
def Je:Nat->Option Str->Option Str
 |0,x=>x
 |_+1,none=>none
 |k+1,some n=>if n∈keys then Je k (row n).above else some n
def reach:Nat->Str->Bool
 |0,_=>false
 |k+1,n=>if n∈keys then(match(row n).above with
  |none=>true
  |some a=>reach k a)else false
variable(lt:Int->Str->Int->Str->Bool)
structure Nt(ak:List Str):Prop where
 ak:ak.Perm (keys.filter λn=>(row n).above.isNone)
 mark:∀n∈keys,(row n).above=none->(row n).mark=false
 up:∀n∈keys,∀a,(row n).above=some a->a∈keys/\(row a).below.count n=1/\lt (row n).key n (row a).key a=false
 down:∀n∈keys,∀(i:Nat) (l:Str),(row n).below[i]?=some l->l∈keys/\(row l).above=some n/\(i:Int)-(if(row l).mark then 1 else 0)<=((row l).below.length:Int)
 come:∀n∈keys,Je keys row keys.length (some n)=none
structure Nu(ak:List Str):Prop where
 Nx:∀n∈ak,ak.count n=1/\n∈keys/\(row n).above=none
 top2:∀n∈keys,(row n).above=none->n∈ak
 mark:∀n∈keys,(row n).above=none->(row n).mark=false
 up:∀n∈keys,∀a,(row n).above=some a->a∈keys/\n∈(row a).below/\lt (row n).key n (row a).key a=false
 down:∀n∈keys,∀(i:Nat) (l:Str),(row n).below[i]?=some l->l∈keys/\l∉(row n).below.take i/\(row l).above=some n/\(i:Int)-(if(row l).mark then 1 else 0)<=((row l).below.length:Int)
 come:∀n∈keys,reach keys row (keys.length+1) n=true
end aK
set_option maxHeartbeats 4000000
namespace K76
open PySem L2 Mir
def iT:SM :=
  (cg (dM 5 (mOp gIx (ai 0) (mOp d5 (mOp gr (ai 2) (ai 3)) (mCB cX (aj (ai 0) aI)))))
  (cg (dM 6 (mOp gIx (ai 0) (mOp d5 (mOp gr (ai 2) (ai 4)) (mCB cX (aj (ai 0) aI)))))
  (iD (aO (mOp gEq (mCB cX (aj (mOp gIx (mOp dh (ai 1) (ai 5)) (mC (.int 3))) aI)) (mCB cX (aj (mOp gIx (mOp dh (ai 1) (ai 6)) (mC (.int 3))) aI))))
  (fQ (f6 (aj (ai 5) (aj (ai 6) aI))))
  gT)))
def oU:SM :=
  (xP (vN (aj (ai 3) aI)) (mgN 4)
  iT)
def zY:SM :=
  (cg (xP (vN (aj (mCB cX (aj (ai 0) aI)) aI)) (mgN 3)
  oU)
  (fQ (f6 aI)))
def k9:List D->Option (D×Bool):=fnM 3 4 zY
def yB:Rho->Option (Bool×Rho) :=
  (aO (mOp gNe (ai 0) (ai 1)))
def yC:PM :=
  (ai 0)
def qF:Rho->Option (Bool×Rho) :=
  (aO (ai 4))
def mD:SM :=
  (cg (qr (mOp dh (ai 1) (ai 2)) (mgU 4 (bV (mgN 5) (bV (mgN 6) (bV (mgN 7) (bV (mgN 8) iE))))))
  (cg (lU 1 (gB (aj (ai 5) (aj (mC .none) (aj (mC (.bool false)) (aj (ai 8) aI))))) (ai 2))
  (cg (gk (rP 0 hI (aj (ai 2) aI)))
  (cg (gk (rP 3 hI (aj (gB (aj (mC (.str "cut")) (aj (ai 2) aI))) aI)))
  (cg (qr (mOp dh (ai 1) (ai 6)) (mgU 4 (bV (mgN 5) (bV (mgN 9) (bV (mgN 10) (bV (mgN 8) iE))))))
  (cg (dM 8 (mCB sJ (aj (mLC [("_law_name",2)] (xN (ai 8)) yB yC) aI)))
  (cg (lU 1 (gB (aj (ai 5) (aj (ai 9) (aj (mOp mi (ai 9) (mC .none)) (aj (ai 8) aI))))) (ai 6))
  (cg (dM 4 (ai 10))
  (dM 2 (ai 6))))))))))
def C0:SM :=
  (cg (dM 3 (f6 aI))
  (cg (dM 4 (mOp mi (mOp gIx (mOp dh (ai 1) (ai 2)) (mC (.int 1))) (mC .none)))
  (cg (fH qF
  mD 1000000)
  (fQ (ai 3)))))
def fo:List D->Option ((D×Bool)×D×D):=fnJ 3 8 C0
def wB:SM :=
  (fQ (mOp CV (gB (aj (mOp gIx (mOp dh (ai 0) (ai 1)) (mC (.int 0))) (aj (ai 1) aI))) (gB (aj (mOp gIx (mOp dh (ai 0) (ai 2)) (mC (.int 0))) (aj (ai 2) aI)))))
def dE:List D->Option (D×Bool):=fnM 3 0 wB
def zZ:SM :=
  (cg (qr (mOp dh (ai 1) (ai 2)) (mgU 4 (bV (mgN 4) (bV (mgN 5) (bV (mgN 6) (bV (mgN 7) iE))))))
  (cg (lU 1 (gB (aj (ai 4) (aj (ai 3) (aj (mC (.bool false)) (aj (ai 7) aI))))) (ai 2))
  (cg (qr (mOp dh (ai 1) (ai 3)) (mgU 4 (bV (mgN 4) (bV (mgN 5) (bV (mgN 6) (bV (mgN 7) iE))))))
  (cg (lU 1 (gB (aj (ai 4) (aj (ai 5) (aj (ai 6) (aj (mOp qD (ai 7) (gB (aj (ai 2) aI))) aI))))) (ai 3))
  (gk (rP 0 nh (aj (ai 2) aI)))))))
def eW:List D->Option ((D×Bool)×D×D):=fnJ 4 4 zZ
def tT:SM :=
  (cg (dM 1 (mC (.str "abcdefghijklmnopqrstuvwxyz")))
  (cg (dM 2 (mOp gr (mOp wq (ai 1) (mOp d5 (mOp nN (ai 0) (mC (.int 52))) (mC (.int 26)))) (mOp wq (ai 1) (mOp d5 (mOp nN (ai 0) (mC (.int 2))) (mC (.int 26))))))
  (cg (iD (aO (mOp gEq (mOp d5 (ai 0) (mC (.int 2))) (mC (.int 1))))
  (dM 2 (mOp gr (ai 2) (mOp gIx (f6 (aj (mC (.str "a")) (aj (mC (.str "zz")) (aj (mC (.str "aaa")) (aj (mC (.str "zzzz")) (aj (mC (.str "bbbbb")) (aj (mC (.str "zzzzzz")) aI))))))) (mOp d5 (mOp nN (ai 0) (mC (.int 2))) (mC (.int 6))))))
  gT)
  (fQ (ai 2)))))
def cS:List D->Option (D×Bool):=fnM 1 2 tT
def wC:SM :=
  (cg (iD (aO (mOp gEq (mOp d5 (ai 0) (mC (.int 3))) (mC (.int 0))))
  (fQ (mOp xt (mOp d5 (mOp nN (ai 0) (mC (.int 3))) (mC (.int 5))) (mC (.int 2))))
  gT)
  (cg (iD (aO (mOp gEq (mOp d5 (ai 0) (mC (.int 3))) (mC (.int 1))))
  (fQ (mOp xt (mOp d5 (mOp nN (ai 0) (mC (.int 3))) (mC (.int 61))) (mC (.int 30))))
  gT)
  (fQ (mOp xt (mOp d5 (mOp nN (ai 0) (mC (.int 3))) (mOp gr (mOp xR (mC (.int 2)) (mOp Eg (mC (.int 10)) (mC (.int 59)))) (mC (.int 1)))) (mOp Eg (mC (.int 10)) (mC (.int 59)))))))
def dF:List D->Option (D×Bool):=fnM 1 0 wC
def hX:SM :=
  (cg (dM 6 (mOp nN (ai 5) (mC (.int 5))))
  (cg (dM 7 (b4 k9 (aj (ai 2) (aj (ai 3) (aj (mOp d5 (ai 6) (mC (.int 97))) aI)))))
  (cg (dM 8 (mCB pN (aj (ai 3) aI)))
  (iD (pA (aO (mOp gEq (mOp d5 (ai 5) (mC (.int 5))) (mC (.int 4)))) (aO (mOp gGt (mCB cX (aj (ai 8) aI)) (mC (.int 0)))))
  (gk (kZ 2 3 fo (aj (mOp gIx (ai 8) (mOp d5 (ai 6) (mCB cX (aj (ai 8) aI)))) aI)))
  (iD (pA (aO (mOp gGt (mOp d5 (ai 5) (mC (.int 5))) (mC (.int 0)))) (aO (mOp gNe (ai 7) (f6 aI))))
  (cg (iD (aO (b4 dE (aj (ai 3) (aj (mOp gIx (ai 7) (mC (.int 0))) (aj (mOp gIx (ai 7) (mC (.int 1))) aI)))))
  (gk (uC 7 oH))
  gT)
  (gk (kZ 2 3 eW (aj (mOp gIx (ai 7) (mC (.int 0))) (aj (mOp gIx (ai 7) (mC (.int 1))) aI)))))
  (cg (dM 9 (b4 cS (aj (mOp gr (ai 1) (ai 4)) aI)))
  (cg (lU 3 (gB (aj (b4 dF (aj (ai 6) aI)) (aj (mC .none) (aj (mC (.bool false)) (aj (gB aI) aI))))) (ai 9))
  (gk (rP 2 hI (aj (ai 9) aI))))))))))
def wD:Rho->Option (D×D) :=
  (oJ (dM 2 (f6 aI))
  (oJ (dM 3 Bp)
  (oJ (xP (Mm (aj (ai 0) aI)) (mgU 2 (bV (mgN 4) (bV (mgN 5) iE)))
  hX)
  (A9 2 3))))
def iq:List D->Option (D×D):=fnD 2 8 wD
def yD(self:List D->Option ((D×Bool)×D)):SM :=
  (cg (dM 5 (b4 cS (aj (mCB my (aj (ai 0) aI)) aI)))
  (cg (lU 0 (gB (aj (ai 4) (aj (ai 2) (aj (ai 3) (aj (gB aI) aI))))) (ai 5))
  (cg (dM 6 (KG [("_law_held",0),("_law_name",5),("_law_key",4)] 0 0 (vN (aj (ai 1) aI)) self (aj (mCB Ct (aj (mC (.int 0)) (aj (mOp xt (ai 0) (mC (.int 1))) aI))) (aj (ai 2) (aj (mOp gGt (ai 0) (mC (.int 0))) (aj (mOp gr (ai 3) (mC (.int 1))) aI))))))
  (cg (lU 0 (gB (aj (ai 4) (aj (ai 2) (aj (ai 3) (aj (mCB sJ (aj (ai 6) aI)) aI))))) (ai 5))
  (fQ (ai 5))))))
def eY:Nat->List D->Option ((D×Bool)×D)
 |0=>λ_=>none
 |n+1=>fnI 5 2 (yD (eY n))
def nT:SM :=
  (cg (dM 4 (b4 cS (aj (mCB my (aj (ai 1) aI)) aI)))
  (cg (lU 1 (gB (aj (b4 dF (aj (ai 3) aI)) (aj (mC .none) (aj (mC (.bool false)) (aj (gB aI) aI))))) (ai 4))
  (gk (rP 2 hI (aj (ai 4) aI)))))
def wF:Rho->Option (D×D) :=
  (CD (mOr (aO (mOp gEq (ai 0) (f6 aI))) (aO (mOp gNe (mOp d5 (mOp gIx (ai 0) (mC (.int 0))) (mC (.int 7))) (mC (.int 6))))) (Ey iq (aj (ai 0) (aj (mC (.int 0)) aI)))
  (oJ (dM 1 Bp)
  (oJ (dM 2 (f6 (aj (v3 1 (eY 12) (aj (mOp d5 (mOp nN (mOp gIx (ai 0) (mC (.int 0))) (mC (.int 7))) (mC (.int 10))) (aj (mC .none) (aj (mC (.bool false)) (aj (b4 dF (aj (mOp nN (mOp gIx (ai 0) (mC (.int 0))) (mC (.int 70))) aI)) aI))))) aI)))
  (oJ (xP (D9 (mSl gSl (ai 0) (gC (mC (.int 1))) (gC (mC (.int 12))))) (mgN 3)
  nT)
  (A9 2 1)))))
def ir:List D->Option (D×D):=fnD 1 4 wF
def sM:SM :=
  (cg (iD (mOr (ig (aO (nP "tuple" (ai 0)))) (mOr (aO (mOp gNe (mCB cX (aj (ai 0) aI)) (mC (.int 4)))) (ig (aO (nP "tuple" (mOp gIx (ai 0) (mC (.int 3))))))))
  (fQ (mC (.bool false)))
  gT)
  (cg (iD (mOr (aO (nP "bool" (mOp gIx (ai 0) (mC (.int 0))))) (ig (aO (nP "bool" (mOp gIx (ai 0) (mC (.int 2)))))))
  (fQ (mC (.bool false)))
  gT)
  (fQ (mOp gEq (ai 0) (ai 1)))))
def gF:List D->Option (D×Bool):=fnM 2 0 sM
def fV:SM :=
  (iD (mOr (aO (mOp k8 (ai 3) (mOp gIx (ai 0) (mC (.int 1))))) (ig (aO (b4 gF (aj (mOp dh (mOp gIx (ai 0) (mC (.int 1))) (ai 3)) (aj (ai 4) aI))))))
  (fQ (mC (.bool false)))
  gT)
def tU:SM :=
  (cg (iD (mOr (ig (aO (oT "tuple" (ai 0)))) (mOr (aO (mOp gNe (mCB cX (aj (ai 0) aI)) (mC (.int 2)))) (mOr (ig (aO (oT "list" (mOp gIx (ai 0) (mC (.int 0)))))) (aO (mOp gNe (mOp gIx (ai 0) (mC (.int 0))) (ai 1))))))
  (fQ (mC (.bool false)))
  gT)
  (cg (iD (mOr (ig (aO (oT "dict" (mOp gIx (ai 0) (mC (.int 1)))))) (aO (mOp gNe (mCB my (aj (mOp gIx (ai 0) (mC (.int 1))) aI)) (mCB my (aj (ai 2) aI)))))
  (fQ (mC (.bool false)))
  gT)
  (cg (BA (yn 2) (mgU 2 (bV (mgN 3) (bV (mgN 4) iE)))
  fV)
  (fQ (mC (.bool true))))))
def cT:List D->Option (D×Bool):=fnM 3 2 tU
def tV:EM :=
  (eIf (aO (mOp k8 (ai 1) (mOp gIx (ai 0) (mC (.int 1)))))
  (Er "Lacking" (aj (mC (.str "the pile has no such name")) aI))
  (uH gT))
def iU:List D->Option ((D×Bool) ⊕ Str):=fnX 2 0 tV
def wG:SM :=
  (iD (aO (mOp k8 (ai 1) (mOp gIx (ai 0) (mC (.int 1)))))
  pE
  gT)
def gG:List D->Option (D×Bool):=fnM 2 0 wG
def kE:Rho->Option (Bool×Rho) :=
  (aO (mOp gIx (mOp dh (ai 0) (ai 3)) (mC (.int 2))))
def kF:SM :=
  (cg (gk (rP 2 hI (aj (ai 3) aI)))
  (dM 3 (mOp gIx (mOp dh (ai 0) (ai 3)) (mC (.int 1)))))
def sN:SM :=
  (cg (dM 2 (f6 (aj (ai 1) aI)))
  (cg (dM 3 (mOp gIx (mOp dh (ai 0) (ai 1)) (mC (.int 1))))
  (cg (fH kE
  kF 1000000)
  (fQ (ai 2)))))
def gH:List D->Option (D×Bool):=fnM 2 2 sN
def yE:Rho->Option (Bool×Rho) :=
  (aO (mOp gNe (ai 0) (ai 1)))
def yF:PM :=
  (ai 0)
def C1:SM :=
  (fQ (gB (aj (mOp gIx (ai 0) (mC (.int 0))) (aj (mOp gIx (ai 0) (mC (.int 1))) (aj (mOp gIx (ai 0) (mC (.int 2))) (aj (mCB sJ (aj (mLC [("name",1)] (xN (mOp gIx (ai 0) (mC (.int 3)))) yE yF) aI)) aI))))))
def nj:List D->Option (D×Bool):=fnM 2 0 C1
def Fx:SM :=
  (fQ (gB (aj (mOp gIx (ai 0) (mC (.int 0))) (aj (mC .none) (aj (mC (.bool false)) (aj (mOp gIx (ai 0) (mC (.int 3))) aI))))))
def kG:List D->Option (D×Bool):=fnM 1 0 Fx
def yG:SM :=
  (fQ (gB (aj (mOp gIx (ai 0) (mC (.int 0))) (aj (mOp gIx (ai 0) (mC (.int 1))) (aj (mC (.bool true)) (aj (mOp gIx (ai 0) (mC (.int 3))) aI))))))
def jG:List D->Option (D×Bool):=fnM 1 0 yG
def yH:PM :=
  (gB (aj (mC (.str "cut")) (aj (ai 0) aI)))
def jH:SN :=
  (bX (dO (nIx (nO (mOp dh (ai 2) (ai 5))) (nLit (.int 1))) (ngN 6))
  (bX (kD (bw 2) (bw 6) (nO (b4 nj (aj (mOp dh (ai 2) (ai 6)) (aj (ai 5) aI)))))
  (kD (bw 2) (bw 5) (nO (b4 kG (aj (mOp dh (ai 2) (ai 5)) aI))))))
def C2:SN :=
  (bX (dO (nO (mCB n0 (aj (mOp gIx (ai 0) (mC (.int 1))) aI))) (ngN 2))
  (bX (dO (nO (b4 gH (aj (ai 2) (aj (ai 1) aI)))) (ngN 3))
  (bX (dO (nIx (nO (mOp dh (ai 2) (mOp gIx (ai 3) (mUn Cs (mC (.int 1)))))) (nLit (.int 1))) (ngN 4))
  (bX (sg [0,1,2,3,4] (bw 3) (ngN 5)
  jH)
  (bX (kq (nTo (aO (mOp mi (mOp gIx (mOp dh (ai 2) (ai 4)) (mC (.int 1))) (mC .none))))
  (kD (bw 2) (bw 4) (nO (b4 jG (aj (mOp dh (ai 2) (ai 4)) aI))))
  iN)
  (jW (kn (aP (kn (aP (nO (mOp gr (mOp gIx (ai 0) (mC (.int 0))) (ai 3))) (aP (bw 2) cu))) (aP (nO (mLC [] (pB (ai 3)) vP yH)) cu)))))))))
def nq:FN:=fnS 2 5 C2
def KL:SN :=
  (bX (dO (nO (mOp dh (ai 0) (ai 1))) (ngN 3))
  (bX (kD (bw 0) (bw 1) (kn (aP (nIx (bw 3) (nLit (.int 0))) (aP (bw 2) (aP (nLit (.bool false)) (aP (nIx (bw 3) (nLit (.int 3))) cu))))))
  (bX (dO (nO (mOp dh (ai 0) (ai 2))) (ngN 3))
  (kD (bw 0) (bw 2) (kn (aP (nIx (bw 3) (nLit (.int 0))) (aP (nIx (bw 3) (nLit (.int 1))) (aP (nIx (bw 3) (nLit (.int 2))) (aP (nO (mOp qD (mOp gIx (ai 3) (mC (.int 3))) (gB (aj (ai 1) aI)))) cu)))))))))
def wH:FN:=fnS 3 1 KL
def z0:SM :=
  (fQ (gB (aj (mOp gIx (mOp dh (ai 0) (ai 1)) (mC (.int 0))) (aj (ai 1) aI))))
def d8:List D->Option (D×Bool):=fnM 2 0 z0
def mE:Rho->Option (Bool×Rho) :=
  (aO (mOp gIs (mOp gIx (mOp dh (ai 1) (ai 0)) (mC (.int 1))) (mC .none)))
def mF:PM :=
  (ai 0)
def mG:MN Bool :=
  (nTo (aO (mOp E9 (mCB cX (aj (mOp gIx (mOp dh (ai 1) (ai 5)) (mC (.int 3))) aI)) (ai 2))))
def mH:SN :=
  (bX (dO (qC (bw 2) (aP (nO (mCB cX (aj (mOp gIx (mOp dh (ai 1) (ai 5)) (mC (.int 3))) aI))) cu)) (ngN 6))
  (bX (kq (nTo (aO (mOp CV (b4 d8 (aj (ai 1) (aj (ai 6) aI))) (b4 d8 (aj (ai 1) (aj (ai 5) aI))))))
  (bX (dO (bw 6) (ngN 7))
  (bX (dO (bw 5) (ngN 6))
  (dO (bw 7) (ngN 5))))
  iN)
  (bX (iO (lT wH (aP (bw 1) (aP (bw 6) (aP (bw 5) cu)))))
  (iO (wc (bw 3) (aP (kn (aP (nLit (.str "hang")) (aP (bw 6) (aP (bw 5) cu)))) cu))))))
def mI:SN :=
  (bX (dO (bw 4) (ngN 5))
  (bX (iG [0,1,2,3,4,5] mG
  mH 1000000)
  (kD (bw 2) (nO (mCB cX (aj (mOp gIx (mOp dh (ai 1) (ai 5)) (mC (.int 3))) aI))) (bw 5))))
def wI:SN :=
  (bX (dO (nO (mCB n0 (aj (mOp gIx (ai 0) (mC (.int 1))) aI))) (ngN 1))
  (bX (dO (nO Bp) (ngN 2))
  (bX (dO (EG cu) (ngN 3))
  (bX (sg [0,1,2,3] (nIx (bw 0) (nLit (.int 0))) (ngN 4)
  mI)
  (jW (kn (aP (kn (aP (nO (mLC [("held",1)] (pB (mOp gIx (ai 0) (mC (.int 0)))) mE mF)) (aP (bw 1) cu))) (aP (bw 3) cu))))))))
def iV:FN:=fnS 1 7 wI
def oV:SN :=
  (bX (kD (bw 2) (bw 6) (nO (b4 kG (aj (mOp dh (ai 2) (ai 6)) aI))))
  (bX (iO (wc (bw 4) (aP (bw 6) cu)))
  (iO (wc (bw 5) (aP (kn (aP (nLit (.str "free")) (aP (bw 6) cu))) cu)))))
def oW:Rho->Option (Bool×Rho) :=
  (aO (mOp gNe (ai 0) (ai 1)))
def oX:PM :=
  (ai 0)
def z4:SN :=
  (bX (dO (nO (mCB n0 (aj (mOp gIx (ai 0) (mC (.int 1))) aI))) (ngN 2))
  (bX (dO (qC (bw 2) (aP (bw 1) cu)) (ngN 3))
  (bX (dO (nO (mLC [("name",1)] (pB (mOp gIx (ai 0) (mC (.int 0)))) oW oX)) (ngN 4))
  (bX (dO (EG cu) (ngN 5))
  (bX (EL [0,1,2,3,4,5,7] (xN (mOp gIx (ai 3) (mC (.int 3)))) (ngN 6)
  oV)
  (bX (dO (lT iV (aP (kn (aP (bw 4) (aP (bw 2) cu))) cu)) (ngN 7))
  (jW (kn (aP (nIx (bw 3) (nLit (.int 0))) (aP (nIx (bw 7) (nLit (.int 0))) (aP (nO (mOp gr (ai 5) (mOp gIx (ai 7) (mC (.int 1))))) cu)))))))))))
def jt:FN:=fnS 2 6 z4
def z5:EM :=
  (zL (eX gk (nY iU (aj (ai 0) (aj (ai 1) aI))))
  (zL (uH pE)
  (zL (uH pE)
  (zL (uH pE)
  (uH pE)))))
def nu:List D->Option ((D×Bool) ⊕ Str):=fnX 2 2 z5
def C3:SN :=
  (bX (iO (nO (b4 gG (aj (ai 0) (aj (ai 1) aI)))))
  (bX (kq (nTo (aO (mOp gIs (mOp gIx (mOp dh (mOp gIx (ai 0) (mC (.int 1))) (ai 1)) (mC (.int 1))) (mC .none))))
  (jW (lT jt (aP (bw 0) (aP (bw 1) cu))))
  iN)
  (bX (dO (lT nq (aP (bw 0) (aP (bw 1) cu))) (ngN 2))
  (bX (dO (lT jt (aP (nIx (bw 2) (nLit (.int 0))) (aP (bw 1) cu))) (ngN 3))
  (jW (kn (aP (nIx (bw 3) (nLit (.int 0))) (aP (nIx (bw 3) (nLit (.int 1))) (aP (nO (mOp gr (mOp gIx (ai 2) (mC (.int 1))) (mOp gIx (ai 3) (mC (.int 2))))) cu)))))))))
def ny:FN:=fnS 2 2 C3
def iH:Str->Option SM :=
  λc=>if c="Lacking"then some ((dM 2 (f6 (aj (rZ 3 true) (aj (rZ 3 true) (aj (rZ 3 false) (aj (rZ 3 false) aI)))))))else none
def tW:SM :=
  (cg (dM 2 (f6 aI))
  (cg (A8 nu (aj (ai 0) (aj (ai 1) aI)) 3 iH)
  (fQ (ai 2))))
def dP:List D->Option (D×Bool):=fnM 2 2 tW
def lX:Rho->Option (Bool×Rho) :=
  (aO (mOp gIx (mOp dh (mOp gIx (ai 1) (mC (.int 1))) (ai 0)) (mC (.int 2))))
def lY:PM :=
  (ai 0)
def tX:SM :=
  (cg (dM 1 (Fh [("pile",0)] (KA (yn 0) 1) lX lY))
  (fQ (mOp gr (mCB cX (aj (mOp gIx (ai 0) (mC (.int 0))) aI)) (mOp xR (mC (.int 2)) (mCB cX (aj (ai 1) aI))))))
def fR:List D->Option (D×Bool):=fnM 1 1 tX
def mJ:Rho->Option (Bool×Rho) :=
  (aO (mOp gLe (ai 3) (ai 0)))
def mK:SM :=
  (cg (dM 4 (mOp gr (ai 2) (ai 3)))
  (cg (dM 2 (ai 3))
  (cg (dM 3 (ai 4))
  (GJ 1 (λi j=>i+j) (mC (.int 1))))))
def wJ:SM :=
  (cg (dM 1 (mC (.int 0)))
  (cg (dM 2 (mC (.int 1)))
  (cg (dM 3 (mC (.int 2)))
  (cg (fH mJ
  mK 1000000)
  (fQ (ai 1))))))
def iW:List D->Option (D×Bool):=fnM 1 4 wJ
def pV:SM :=
  (cg (iD (mOr (ig (aO (nP "tuple" (ai 2)))) (mOr (aO (mOp gNe (mCB cX (aj (ai 2) aI)) (mC (.int 3)))) (mOr (aO (mOp gNe (mOp gIx (ai 2) (mC (.int 0))) (mC (.str "hang")))) (aO (mOp gEq (mOp gIx (ai 2) (mC (.int 1))) (mOp gIx (ai 2) (mC (.int 2))))))))
  (fQ (mC (.bool false)))
  gT)
  (cg (iD (mOr (aO (mOp oR (mOp gIx (ai 2) (mC (.int 1))) (ai 0))) (mOr (aO (mOp oR (mOp gIx (ai 2) (mC (.int 2))) (ai 0))) (ig (aO (b4 dE (aj (ai 1) (aj (mOp gIx (ai 2) (mC (.int 2))) (aj (mOp gIx (ai 2) (mC (.int 1))) aI))))))))
  (fQ (mC (.bool false)))
  gT)
  (fQ (mOp gEq (mCB cX (aj (mOp gIx (mOp dh (ai 1) (mOp gIx (ai 2) (mC (.int 1)))) (mC (.int 3))) aI)) (mCB cX (aj (mOp gIx (mOp dh (ai 1) (mOp gIx (ai 2) (mC (.int 2)))) (mC (.int 3))) aI))))))
def fq:List D->Option (D×Bool):=fnM 3 0 pV
def gJ:PM :=
  (mCB cX (aj (mOp gIx (mOp dh (ai 1) (ai 0)) (mC (.int 3))) aI))
def mL:SN :=
  (bX (kq (nTo (ig (aO (b4 fq (aj (ai 0) (aj (ai 1) (aj (ai 11) aI)))))))
  (jW (nLit (.bool false)))
  iN)
  (iO (oa eW (aP (bw 0) (aP (bw 1) (aP (nIx (bw 11) (nLit (.int 1))) (aP (nIx (bw 11) (nLit (.int 2))) cu)))))))
def mM:SN :=
  (bX (dO (nO (mOp dh (ai 1) (ai 6))) (ngT 4 (jD 7 (jD 8 (jD 9 (jD 10 zS))))))
  (bX (kD (bw 1) (bw 6) (kn (aP (bw 7) (aP (nLit .none) (aP (nLit (.bool false)) (aP (bw 10) cu))))))
  (bX (iO (wc (bw 0) (aP (bw 6) cu)))
  (iO (wc (bw 4) (aP (kn (aP (nLit (.str "free")) (aP (bw 6) cu))) cu))))))
def wK:SN :=
  (bX (dO (oa fo (aP (bw 0) (aP (bw 1) (aP (bw 2) cu)))) (ngN 4))
  (bX (dO (nIx (qC (bw 1) (aP (bw 2) cu)) (nLit (.int 3))) (ngN 5))
  (bX (iO (nMt nh (bw 0) (aP (bw 2) cu)))
  (bX (EL [0,1,2,3,4,5,11] (xN (ai 5)) (ngN 6)
  mM)
  (bX (kq (nTo (aO (mOp gNe (mSl gSl (ai 3) iR (gC (mCB cX (aj (ai 4) aI)))) (ai 4))))
  (jW (nLit (.bool false)))
  iN)
  (bX (sg [0,1,2,3,4,5,6,7,8,9,10] (nO (mSl gSl (ai 3) (gC (mCB cX (aj (ai 4) aI))) iR)) (ngN 11)
  mL)
  (jW (nO (mOp gEq (pU (mLC [("_law_held",1)] (pB (ai 0)) vP gJ)) (mCB cX (aj (ai 0) aI)))))))))))
def iX:FN:=fnS 4 8 wK
def tY:SN :=
  (bX (dO (kn (aP (nO (mCB AW (aj (ai 1) aI))) (aP (nO (mCB n0 (aj (ai 2) aI))) cu))) (ngN 4))
  (bX (dO (nO (mOp gr (mOp gr (b4 fR (aj (ai 0) aI)) (mC (.int 4))) (mOp xR (mC (.int 2)) (b4 iW (aj (mCB my (aj (ai 2) aI)) aI))))) (ngN 5))
  (bX (dO (lT ny (aP (bw 0) (aP (bw 3) cu))) (ngN 6))
  (bX (kq (nTo (mOr (ig (aO (nP "tuple" (ai 6)))) (mOr (aO (mOp gNe (mCB cX (aj (ai 6) aI)) (mC (.int 3)))) (ig (aO (nP "list" (mOp gIx (ai 6) (mC (.int 2)))))))))
  (jW (nLit .none))
  iN)
  (bX (kq (nTo (mOr (aO (mOp gNe (mOp gIx (ai 6) (mC (.int 0))) (mOp gIx (mOp dh (ai 2) (ai 3)) (mC (.int 0))))) (aO (nP "bool" (mOp gIx (ai 6) (mC (.int 0)))))))
  (jW (nLit .none))
  iN)
  (bX (kq (nOr (G5 (ye (lT iX (aP (bw 1) (aP (bw 2) (aP (bw 3) (aP (nIx (bw 6) (nLit (.int 2))) cu))))))) (nTo (ig (aO (b4 cT (aj (mOp gIx (ai 6) (mC (.int 1))) (aj (ai 1) (aj (ai 2) aI))))))))
  (jW (nLit .none))
  iN)
  (bX (kq (nTo (mOr (aO (mOp gGt (mOp gr (mCB cX (aj (mOp gIx (ai 6) (mC (.int 2))) aI)) (b4 fR (aj (mOp gIx (ai 6) (mC (.int 1))) aI))) (ai 5))) (ig (aO (b4 cT (aj (ai 0) (aj (mOp gIx (ai 4) (mC (.int 0))) (aj (mOp gIx (ai 4) (mC (.int 1))) aI))))))))
  (jW (nLit .none))
  iN)
  (bX (iO (wc (nIx (bw 6) (nLit (.int 2))) (aP (nLit (.str "x")) cu)))
  (bX (iO (Ho pF (nIx (bw 0) (nLit (.int 0)))))
  (bX (iO (BC (nIx (bw 0) (nLit (.int 1)))))
  (bX (kq (nTo (ig (aO (b4 cT (aj (mOp gIx (ai 6) (mC (.int 1))) (aj (ai 1) (aj (ai 2) aI)))))))
  (jW (nLit .none))
  iN)
  (jW (nIx (bw 6) (nLit (.int 1)))))))))))))))
def hZ:FN:=fnS 4 3 tY
def wL:SN :=
  (bX (dO (nO (mOp gIx (f6 (aj (mC (.str "notthere")) (aj (mC (.str "")) (aj (mC (.str "P")) (aj (mC (.str "abcdefghi")) (aj (mC (.str "a b")) aI)))))) (mOp d5 (ai 4) (mC (.int 5))))) (ngN 5))
  (bX (kq (nTo (aO (mOp gNe (b4 dP (aj (ai 3) (aj (ai 5) aI))) (f6 (aj (mC (.bool true)) (aj (mC (.bool true)) (aj (mC (.bool false)) (aj (mC (.bool false)) aI))))))))
  (jW (nLit (.bool false)))
  iN)
  (bX (dO (nO (mCB pN (aj (ai 2) aI))) (ngN 6))
  (kq (nTo (aO (mOp gNe (ai 6) (f6 aI))))
  (bX (dO (nIx (bw 6) (nO (mOp d5 (ai 4) (mCB cX (aj (ai 6) aI))))) (ngN 7))
  (bX (dO (lT hZ (aP (bw 3) (aP (bw 1) (aP (bw 2) (aP (bw 7) cu))))) (ngN 3))
  (kq (nTo (mOr (aO (mOp gIs (ai 3) (mC .none))) (aO (mOp gNe (b4 dP (aj (ai 3) (aj (ai 7) aI))) (f6 (aj (mC (.bool true)) (aj (mC (.bool true)) (aj (mC (.bool false)) (aj (mC (.bool false)) aI)))))))))
  (jW (nLit (.bool false)))
  iN)))
  iN))))
def BG:SN :=
  (bX (dO (zV ir (aP (nO (mSl gSl (ai 0) (gC (mC (.int 20))) (gC (mC (.int 80))))) cu)) (ngT 2 (jD 1 (jD 2 zS))))
  (bX (dO (kn (aP (nO (mCB AW (aj (ai 1) aI))) (aP (nO (mCB n0 (aj (ai 2) aI))) cu))) (ngN 3))
  (bX (sg [0,1,2,3] (nO (mSl gSl (ai 0) iR (gC (mC (.int 20))))) (ngN 4)
  wL)
  (jW (nO (b4 cT (aj (ai 3) (aj (ai 1) (aj (ai 2) aI)))))))))
def Jf:List D->Option (D×Bool):=fnO 1 7 BG
local macro_rules | `(tactic| walk_at "mir") => `(tactic| simp only [*, fnM, cg, iD, aO, mOp, sv, ai, mC, mCB, aj, aI, nX, gB0, gI0, gI, gr, xR, Cs, gIx, GP, gSl, cX, Ct, M8, M9, Na, gIs, mi, Ka, Kb, Kc, asB, asI, mUn, nP, AX, AY, xU, Em, Ek, El, xV, kW, nS, eu, isNone,
 pA,mOr,ig,Lv,M3,Lw,M4,gB,f6,gA,me,dM,sto,fC,fQ,Lx,gk,gT,GJ,xQ,b4,Cv,zF,Cw,zG,zH,Cy,Cz,rS,rT,xW,xX,qv,Nc,Nd,vN,M5,rg1,rg2,pB,D9,asL,asT,xP,mgN,mgT,mgU,asS,bV,iE,qr,Ly,rO,Mir.putAt,Sl.put,rP,uC,hI,Nb,pF,
 List.length_cons,List.length_nil,List.map_cons,List.map_nil,List.cons_append,List.nil_append,List.replicate,List.getElem?_cons_zero,List.getElem?_cons_succ,List.getElem?_nil,List.set_cons_zero,List.set_cons_succ,
 Option.bind_some,Option.bind_none,Option.map_some,Option.map_none,if_true,if_false,DZ,Bool.false_eq_true,reduceIte,decide_true,decide_false,Bool.not_true,Bool.not_false,ite_true,ite_false,Nat.reduceAdd,Nat.reduceEqDiff,Bool.and_true,Bool.true_and,Bool.and_false,Bool.not_eq_true,not_true_eq_false,not_false_eq_true,Int.reduceLT,Int.reduceLE,Int.reduceEq,Nat.reduceLeDiff])
local macro_rules | `(tactic| walk_at "st") => `(tactic| (apply aX; · (walk_at "mir"; try exact rfl)))
theorem LL(h1:sv a ρ=some ((x,.ro),ρ1))(h2:sv b ρ1=some (r,ρ2))(h3:g x r.1=some res):mOp g a b ρ=some (lZ res,ρ2):=by
 unfold mOp;rw[h1,zai];dsimp only;rw[h2,zai];dsimp only[nX,Option.bind_some];rw[h3,zaT]
theorem sO(l:List D)(k:Int)(d:D)(h:L2.atI l k=some d):gIx (.list l) (.int k)=some (d,false):=by
 show(L2.atI l k).map _=_;rw[h];rfl
def NIo(s:Sl):Prop:=∀d,s≠.io d
theorem NIo.no:NIo .no:=λd h=>by cases h
theorem NIo.fz(x:D):NIo (.fz x):=λd h=>by cases h
theorem NIo.own(x:D):NIo (.own x):=λd h=>by cases h
theorem iY(q:Sl)(h : ρ[i]?=some s)(hs:NIo s):fC ρ i q=some (ρ.set i q):=by
 unfold fC;rw[h];cases s<;>first|rfl|exact absurd rfl (hs _)
theorem gK(h : ρ[i]?=some s)(hs:NIo s):mgN i d ρ=some (ρ.set i (.fz d)):=iY _ h hs
def LT:Str:="abcdefghijklmnopqrstuvwxyz"
def letter(j:Nat):Str:=⟨#[LT.cps.toList.getD j 97]⟩
theorem Mn:∀j:Nat,j<26->atI LT.cps.toList (j:Int)=some (LT.cps.toList.getD j 97):=by decide
theorem uQ(j:Nat)(h:j<26):wq (.str LT) (.int (j:Int))=some (.str (letter j),false):=by
 show cIf (LT.length<=sizeLine) _ none=_;rw[b7 (by rw[sizeLine_eq];decide),Mn j h];rfl
def sfx(j:Nat):Str:=(["a","zz","aaa","zzzz","bbbbb","zzzzzz"]:List Str).getD j ""
def aC(k:Nat):Str:=if k%2=1 then letter (k/52%26)++letter (k/2%26)++sfx (k/2%6)else letter (k/52%26)++letter (k/2%26)
theorem iu:∀i:Nat,i<130->∀j:Nat,j<i->aC i≠aC j:=by decide+kernel
theorem BH(m:Str):keyOf (.str m)=some (.inr m):=rfl
def bg:Option Str->D
 |none=>.none
 |some a=>.str a
def bf(r:aK.Row):D:=.tuple [.int r.key,bg r.above,.bool r.mark,.tuple (r.below.map .str)]
def cB(keys:List Str)(row:Str->aK.Row):List (D×D):=keys.map λn=>(PyData.str n,bf (row n))
theorem i7(row:Str->aK.Row)(n:Str):∀keys:List Str,gm (cB keys row) (.inr n)=if n∈keys then some (bf (row n))else none
 | []=>rfl
 |m::keys=>by
  show(if keyOf (.str m)=some (.inr n)then some (bf (row m))else gm (cB keys row) (.inr n))=_
  by_cases e:m=n
  ·subst e
   rw[if_pos (BH m),if_pos zas]
  ·have e1 : ¬keyOf (.str m)=some (.inr n):=λz=>e (Sum.inr.inj (zaQ z))
   rw[if_neg e1,i7 row n keys]
   by_cases h:n∈keys
   ·rw[if_pos h,if_pos (zak _ h)]
   ·rw[if_neg h,if_neg λz=>by
     rcases zaf z with z|z
     ·exact e z.symm
     ·exact h z]
def aW(row:Str->aK.Row)(n:Str)(r:aK.Row):Str->aK.Row:=λm=>if m=n then r else row m
theorem wM(keys:List Str)(row:Str->aK.Row)(n:Str)(r:aK.Row)(h:n∈keys):putD (cB keys row) (.str n) (bf r) (.inr n)=cB keys (aW row n r):=by
 unfold putD;rw[i7,if_pos h];show(cB keys row).map _=_;unfold cB;rw[List.map_map];refine List.map_congr_left λm _=>?_
 show(if keyOf (.str m)=some (.inr n)then(PyData.str m,bf r)else(PyData.str m,bf (row m)))=(PyData.str m,bf (aW row n r m))
 unfold aW
 by_cases e:m=n
 ·subst e
  rw[if_pos (BH m),if_pos rfl]
 ·have e1 : ¬keyOf (.str m)=some (.inr n):=λz=>e (Sum.inr.inj (zaQ z))
  rw[if_neg e1,if_neg e]
theorem wN(keys:List Str)(row:Str->aK.Row)(n:Str)(r:aK.Row)(h:n∉keys):putD (cB keys row) (.str n) (bf r) (.inr n)=cB (keys++[n]) (aW row n r):=by
 unfold putD;rw[i7,if_neg h];show cB keys row++[(.str n,bf r)]=_;unfold cB;rw[za1]
 congr 1
 ·refine List.map_congr_left λm hm=>?_
  show _=(PyData.str m,bf (aW row n r m));unfold aW;rw[if_neg λz=>h (by rw[<-z];exact hm)]
 ·show [(PyData.str n,bf r)]=[(PyData.str n,bf (aW row n r n))]
  unfold aW;rw[if_pos rfl]
theorem oY(keys:List Str)(row:Str->aK.Row):(cB keys row).length=keys.length:=by unfold cB;rw[zal]
theorem uR(keys:List Str)(row:Str->aK.Row):(cB keys row).map (·.1)=keys.map .str:=by unfold cB;rw[List.map_map];rfl
theorem BI(keys:List Str)(row:Str->aK.Row)(n:Str)(h:n∈keys):dh (.dict (cB keys row)) (.str n)=some (bf (row n),false):=by
 show(gm (cB keys row) (.inr n)).map _=_;rw[i7,if_pos h];rfl
theorem sP(j:Nat):(letter j).length=1:=rfl
theorem Hz:∀j:Nat,j<6->(sfx j).length<=6:=by decide
theorem add_str(a b:Str)(h:a.length+b.length<=1000):gr (.str a) (.str b)=some (.str (a++b),false):=by
 show cIf (a.length+b.length<=sizeLine) _ none=_;rw[b7 (by rw[sizeLine_eq];omega)]
theorem two_len(i j:Nat):(letter i++letter j).length=2:=rfl
theorem wO(k:Nat):cS [.int (k:Int)]=some (.str (aC k),false):=by
 have hk:∀{ρ:Rho},ρ[0]?=some (.fz (.int (k:Int)))->∀(a b:Nat),0<a->a<1000->0<b->IE (mOp d5 (mOp nN (ai 0) (mC (.int (a:Int)))) (mC (.int (b:Int)))) ρ ((k/a%b:Nat):Int):=fun{ρ} h a b ha ha2 hb=>by
  have:=fL (rX (cD h) (c7 (i:=(a:Int))) ⟨by omega,by omega⟩) (c7 (i:=(b:Int))) (by omega)
  rwa[show((k:Int)/(a:Int)%(b:Int))=((k/a%b:Nat):Int) by rw[Int.natCast_emod,Int.natCast_ediv]]at this
 have l1:∀{ρ:Rho},ρ[0]?=some (.fz (.int (k:Int)))->ρ[1]?=some (.fz (.str LT))->mOp wq (ai 1) (mOp d5 (mOp nN (ai 0) (mC (.int 52))) (mC (.int 26))) ρ=some ((.str (letter (k/52%26)),.fz),ρ):=fun{ρ} h0 h1=>bC (r:=(.int ((k/52%26:Nat):Int),.fz)) (res:=(.str (letter (k/52%26)),false)) (ao (ar h1)) (ao (hk h0 52 26 (by omega) (by omega) (by omega))) (uQ _ (by omega))
 have l2:∀{ρ:Rho},ρ[0]?=some (.fz (.int (k:Int)))->ρ[1]?=some (.fz (.str LT))->mOp wq (ai 1) (mOp d5 (mOp nN (ai 0) (mC (.int 2))) (mC (.int 26))) ρ=some ((.str (letter (k/2%26)),.fz),ρ):=fun{ρ} h0 h1=>bC (r:=(.int ((k/2%26:Nat):Int),.fz)) (res:=(.str (letter (k/2%26)),false)) (ao (ar h1)) (ao (hk h0 2 26 (by omega) (by omega) (by omega))) (uQ _ (by omega))
 have em:∀{ρ:Rho},ρ[0]?=some (.fz (.int (k:Int)))->IE (mOp d5 (ai 0) (mC (.int 2))) ρ ((k:Int)%2):=fun{ρ} h=>fL (cD h) c7 (by decide)
 have two:=add_str (letter (k/52%26)) (letter (k/2%26)) (by rw[sP,sP];omega)
 have hd:∀(u:SM) (o:Option Out),u [.fz (.int (k:Int)),.fz (.str LT),.fz (.str (letter (k/52%26)++letter (k/2%26)))]=o->cg (dM 1 (mC (.str "abcdefghijklmnopqrstuvwxyz"))) (cg (dM 2 (mOp gr (mOp wq (ai 1) (mOp d5 (mOp nN (ai 0) (mC (.int 52))) (mC (.int 26)))) (mOp wq (ai 1) (mOp d5 (mOp nN (ai 0) (mC (.int 2))) (mC (.int 26)))))) u) [.fz (.int (k:Int)),.no,.no]=o:=λu o h=>by
  refine aX (ρ1:=[.fz (.int (k:Int)),.fz (.str LT),.no]) (dw rfl rfl) ?_;exact aX (ρ1:=[.fz (.int (k:Int)),.fz (.str LT),.fz (.str (letter (k/52%26)++letter (k/2%26)))]) (dw (bC (r:=(.str (letter (k/2%26)),.fz)) (res:=(.str (letter (k/52%26)++letter (k/2%26)),false)) (ao (l1 rfl rfl)) (ao (l2 rfl rfl)) two) rfl) h
 by_cases odd:k%2=1
 ·have en:aC k=letter (k/52%26)++letter (k/2%26)++sfx (k/2%6):=if_pos odd
  rw[en];refine eO (o:=.rt (.str (letter (k/52%26)++letter (k/2%26)++sfx (k/2%6)),.fz) [.fz (.int (k:Int)),.fz (.str LT),.fz (.str (letter (k/52%26)++letter (k/2%26)++sfx (k/2%6)))]) rfl (hd _ _ ?_) rfl;have six:∀j:Nat,j<6->gIx (.list [.str "a",.str "zz",.str "aaa",.str "zzzz",.str "bbbbb",.str "zzzzzz"]) (.int (j:Int))=some (.str (sfx j),false):=λj hj=>by
   have:j=0\/j=1\/j=2\/j=3\/j=4\/j=5:=by omega
   rcases this with rfl|rfl|rfl|rfl|rfl|rfl<;>rfl
  refine aX (ρ1:=[.fz (.int (k:Int)),.fz (.str LT),.fz (.str (letter (k/52%26)++letter (k/2%26)++sfx (k/2%6)))]) (xZ (tEq (em rfl) c7 (by omega)) (dw (bC (r:=(.str (sfx (k/2%6)),.fz)) (res:=(.str (letter (k/52%26)++letter (k/2%26)++sfx (k/2%6)),false)) (ao (ar rfl)) (ao (bC (r:=(.int ((k/2%6:Nat):Int),.fz)) (res:=(.str (sfx (k/2%6)),false)) (jm (fK (rs:=[(.str "a",.fz),(.str "zz",.fz),(.str "aaa",.fz),(.str "zzzz",.fz),(.str "bbbbb",.fz),(.str "zzzzzz",.fz)]) rfl rfl (by simp))) (ao (hk rfl 2 6 (by omega) (by omega) (by omega))) (six _ (by omega)))) (add_str _ _ (by have:=Hz (k/2%6) (by omega);rw[two_len];omega))) rfl)) (du (ar rfl))
 ·have en:aC k=letter (k/52%26)++letter (k/2%26):=if_neg odd
  rw[en];exact eO (o:=.rt (.str (letter (k/52%26)++letter (k/2%26)),.fz) [.fz (.int (k:Int)),.fz (.str LT),.fz (.str (letter (k/52%26)++letter (k/2%26)))]) rfl (hd _ _ (aX (ρ1:=[.fz (.int (k:Int)),.fz (.str LT),.fz (.str (letter (k/52%26)++letter (k/2%26)))]) (kX (tNe (em rfl) c7 (by omega)) rfl) (du (ar rfl)))) rfl
theorem key_is(c:Int):∃v:Int,dF [.int c]=some (.int v,false):=by
 have em:∀{ρ:Rho},IE (mOp d5 (ai 0) (mC (.int 3))) (.fz (.int c)::ρ) (c%3):=fun{ρ}=>fL (cD rfl) c7 (by decide)
 have ed:∀{ρ:Rho},IE (mOp nN (ai 0) (mC (.int 3))) (.fz (.int c)::ρ) (c/3):=fun{ρ}=>rX (cD rfl) c7 ⟨by decide,by decide⟩
 by_cases h0:c%3=0
 ·exact⟨c/3%5-2,eO (o:=.rt (.int (c/3%5-2),.fz) [.fz (.int c)]) rfl (zI (xZ (tEq em c7 h0) (du (vZ (fL ed c7 (by decide)) c7)))) rfl⟩
 ·by_cases h1:c%3=1
  ·exact⟨c/3%61-30,eO (o:=.rt (.int (c/3%61-30),.fz) [.fz (.int c)]) rfl (aX (ρ1:=[.fz (.int c)]) (kX (tNe em c7 h0) rfl) (zI (xZ (tEq em c7 h1) (du (vZ (fL ed c7 (by decide)) c7))))) rfl⟩
  ·have ep:∀{ρ:Rho},IE (mOp Eg (mC (.int 10)) (mC (.int 59))) ρ ((10:Int)^(59:Int).toNat):=fun{ρ}=>Kg c7 c7 ⟨by decide,by decide,by decide⟩
   have e2:IE (mOp xR (mC (.int 2)) (mOp Eg (mC (.int 10)) (mC (.int 59)))) [.fz (.int c)] (2*(10:Int)^(59:Int).toNat):=zK c7 ep (IntMulOk.of_left (by decide))
   exact⟨_,eO (o:=.rt (.int (c/3%(2*(10:Int)^(59:Int).toNat+1)-(10:Int)^(59:Int).toNat),.fz) [.fz (.int c)]) rfl (aX (ρ1:=[.fz (.int c)]) (kX (tNe em c7 h0) rfl) (aX (ρ1:=[.fz (.int c)]) (kX (tNe em c7 h1) rfl) (du (vZ (fL ed (jV e2 c7) (by decide)) ep)))) rfl⟩
theorem pW(h:n∈keys){a b:PM}{ρ:Rho}(ha:sv a ρ=some ((.dict (cB keys row),.fz),ρ))(hb:b ρ=some ((.str n,.fz),ρ)):mOp dh a b ρ=some ((bf (row n),.fz),ρ):=bC (r:=(.str n,.fz)) (res:=(bf (row n),false)) ha (ao hb) (BI keys row n h)
theorem jI{a:PM}(h:a ρ=some ((bf r,.fz),ρ)):IE (mOp gIx a (mC (.int 0))) ρ r.key:=bC (r:=(.int 0,.fz)) (res:=(.int r.key,false)) (ao h) (ao rfl) rfl
theorem eD{a:PM}(h:a ρ=some ((bf r,.fz),ρ)):mOp gIx a (mC (.int 1)) ρ=some ((bg r.above,.fz),ρ):=bC (r:=(.int 1,.fz)) (res:=(bg r.above,false)) (ao h) (ao rfl) rfl
theorem mO{a:PM}(h:a ρ=some ((bf r,.fz),ρ)):mOp gIx a (mC (.int 2)) ρ=some ((.bool r.mark,.fz),ρ):=bC (r:=(.int 2,.fz)) (res:=(.bool r.mark,false)) (ao h) (ao rfl) rfl
theorem fu{a:PM}(h:a ρ=some ((bf r,.fz),ρ)):mOp gIx a (mC (.int 3)) ρ=some ((.tuple (r.below.map .str),.fz),ρ):=bC (r:=(.int 3,.fz)) (res:=(.tuple (r.below.map .str),false)) (ao h) (ao rfl) rfl
theorem uS(keys:List Str)(row:Str->aK.Row)(x y:Str)(hx:x∈keys)(hy:y∈keys):dE [.dict (cB keys row),.str x,.str y]=some (.bool (bU (row x).key x (row y).key y),false):=by
 generalize hH:PyData.dict (cB keys row)=X;have rx:mOp dh (ai 0) (ai 1) [.fz X,.fz (.str x),.fz (.str y)]=some ((bf (row x),.fz),[.fz X,.fz (.str x),.fz (.str y)]):=pW hx (by rw[hH];exact ao (ar rfl)) (ar rfl)
 have ry:mOp dh (ai 0) (ai 2) [.fz X,.fz (.str x),.fz (.str y)]=some ((bf (row y),.fz),[.fz X,.fz (.str x),.fz (.str y)]):=pW hy (by rw[hH];exact ao (ar rfl)) (ar rfl)
 have tx:=dN (rs:=[(.int (row x).key,.fz),(.str x,.fz)]) (ik (jI rx) (ay (ao (ar (i:=1) rfl)) aT)) rfl (by simp)
 have ty:=dN (rs:=[(.int (row y).key,.fz),(.str y,.fz)]) (ik (jI ry) (ay (ao (ar (i:=2) rfl)) aT)) rfl (by simp)
 exact eO (o:=.rt (.bool (bU (row x).key x (row y).key y),.fz) [.fz X,.fz (.str x),.fz (.str y)]) rfl (du (bC (r:=(.tuple [.int (row y).key,.str y],.fz)) (res:=(.bool (bU (row x).key x (row y).key y),false)) (ao tx) (ao ty) rfl)) rfl
theorem uT:∀zs:List Str,sI (zs.map PyData.str)=some zs
 | []=>rfl
 |z::zs=>by
  show(sI (zs.map PyData.str)).map (z::·)=_
  rw[uT zs];rfl
def Is(ρ:Rho)(i:Nat)(d:D):Prop:=ρ[i]?=some (.fz d)\/ρ[i]?=some (.own d)\/ρ[i]?=some (.io d)
theorem zN(h : ρ[i]?=some (.io d)):ai i ρ=some ((d,.at i),ρ):=by unfold ai;rw[h]
theorem II(h1:sv a ρ=some ((x,.at i),ρ1))(h2:sv b ρ1=some (r,ρ2))(h4 : ρ2[i]?=some (.io y))(h3:g y r.1=some res):mOp g a b ρ=some (lZ res,ρ2):=by
 unfold mOp;rw[h1,zai];dsimp only;rw[h2,zai];simp only[nX,h4,Option.bind_some,h3,Option.map_some]
theorem sQ(h:Is ρ i x)(h2:sv b ρ=some (r,ρ))(h3:g x r.1=some res):mOp g (ai i) b ρ=some (lZ res,ρ):=by
 rcases h with h|h|h
 ·exact bC (ao (ar h)) h2 h3
 ·exact LD (rW (hU h)) h2 h h3
 ·exact II (rW (zN h)) h2 h h3
theorem HA{rs:List RV}(h:Is ρ i x)(h2:m ρ=some (rs,ρ)):∃k,aj (ai i) m ρ=some ((x,k)::rs,ρ):=by
 rcases h with h|h|h
 ·exact⟨_,ay (ao (ar h)) h2⟩
 ·exact⟨_,q0 (rW (hU h)) h2 h⟩
 ·refine⟨.at i,?_⟩
  unfold aj;rw[rW (zN h),zai];dsimp only
  rw[h2,zai];simp only[nX,h,Option.map_some]
theorem BJ(h:Is ρ i x)(h2:g [x]=some res):mCB g (aj (ai i) aI) ρ=some (lZ res,ρ):=by
 obtain⟨k,e⟩:=HA h aT;exact eS e h2
theorem z6{l:List D}(h:Is ρ i (.list l)):IE (mCB cX (aj (ai i) aI)) ρ (l.length:Int):=BJ (res:=(.int (l.length:Int),false)) h rfl
theorem rl(h:Is ρ i (.dict (cB keys row))):IE (mCB my (aj (ai i) aI)) ρ (keys.length:Int):=BJ (res:=(.int (keys.length:Int),false)) h (by show some (PyData.int ((cB keys row).length:Int),false)=_;rw[oY])
theorem cy{n:Str}{b:PM}(h:Is ρ i (.dict (cB keys row)))(hn:n∈keys)(hb:b ρ=some ((.str n,.fz),ρ)):mOp dh (ai i) b ρ=some ((bf (row n),.fz),ρ):=sQ (r:=(.str n,.fz)) (res:=(bf (row n),false)) h (ao hb) (BI keys row n hn)
theorem rm{a:PM}(h:a ρ=some ((d,.fz),ρ1))(hg:g d ρ1=some ρ2):qr a g ρ=some (.nx ρ2):=by
 unfold qr;rw[ao h,zai];dsimp only[me,Option.bind_some];rw[hg];rfl
def C4(keys:List Str)(n:Str):List Str:=if n∈keys then keys else keys++[n]
theorem fv(h:n∈keys):C4 keys n=keys:=if_pos h
theorem sR(h:n∉keys):C4 keys n=keys++[n]:=if_neg h
theorem yI(keys:List Str)(row:Str->aK.Row)(n:Str)(r:aK.Row):putD (cB keys row) (.str n) (bf r) (.inr n)=cB (C4 keys n) (aW row n r):=by
 by_cases h:n∈keys
 ·rw[fv h,wM _ _ _ _ h]
 ·rw[sR h,wN _ _ _ _ h]
theorem jJ{a b:PM}{row:Str->aK.Row}{n:Str}{r:aK.Row}{s:Sl}(ha:a ρ=some ((bf r,.fz),ρ))(hb:b ρ=some ((.str n,.fz),ρ))(h : ρ[i]?=some s)(hs:s=.own (.dict (cB keys row))\/s=.io (.dict (cB keys row)))(hl:keys.length<=1000):lU i a b ρ=some (.nx (ρ.set i (s.put (.dict (cB (C4 keys n) (aW row n r)))))):=by
 have hl':(cB keys row).length<100000:=by rw[oY];omega
 have ho:EY (some s)=some (cB keys row):=by rcases hs with rfl|rfl<;>rfl
 unfold lU;rw[ao ha,zai];dsimp only[me,Option.bind_some]
 rw[h,ho,zai,ao hb,zai];dsimp only[keyOf,Option.bind_some]
 rw[h,ho,zai,b7 hl',yI];unfold Mir.putAt;rw[h]
theorem pX(h0:rO ρ[i]?=some ds0)(h1:m ρ=some (rs,ρ1))(h2:gA rs ρ1=some (as,ρ2))(h3:rO ρ2[i]?=some ds)(h4:f ds as=some w)(h5:Mir.putAt ρ2 i (.list w.1)=ρ3):rP i f m ρ=some ((w.2,.fz),ρ3):=by
 unfold rP;rw[h0,zai,h1,zai];dsimp only
 rw[h2,zai];dsimp only
 rw[h3,zai,h4,zaT,h5]
theorem sS(d:D)(h:ds.length<=100000):hI ds [d]=some (ds++[d],.none):=by
 show cIf _ _ _=_;rw[b7 (xY h)]
theorem yJ{ρ ρ1 ρ2 ρ3:Rho}{rs:List RV}{ds:List D}{s t s0 t0:Sl}{d d1 d2 dS dT:D}{o:Bool}{r:RV}(hij:i≠j)(a:ownAt ρ i=some s0)(b:ownAt ρ j=some t0)(h1:m ρ=some (rs,ρ1))(h2:gA rs ρ1=some (ds,ρ2))(h3:ownAt ρ2 i=some s)(h4:ownAt ρ2 j=some t)(h5:f (dS::dT::ds)=some ((d,o),d1,d2))(h6:(ρ2.set i (s.put d1)).set j (t.put d2)=ρ3)(e1:slD s=dS:=by rfl)(e2:slD t=dT:=by rfl)(h7:kO d o=r:=by rfl):kZ i j f m ρ=some (r,ρ3):=by
 subst e1 e2 h7;unfold kZ;rw[if_neg hij,a,zai,b,zai,h1,zai];dsimp only
 rw[h2,zai];dsimp only
 rw[h3,zai,h4,zai,h5,zaT,h6]
theorem wQ(h0:ds.length+2=n)(h1:b (.io d0::.io e0::ds.map .fz++List.replicate k .no)=some o)(h2:xQ o=some r)(h3:io2 (pH o)=some d):fnJ n k b (d0::e0::ds)=some (r,d):=by
 show(if ds.length+2=n then _ else _)=_
 rw[if_pos h0,h1,zai,h2,zai,h3,zaT]
abbrev TD(ak:List Str):D:=.list (ak.map .str)
abbrev HD(keys:List Str)(row:Str->aK.Row):D:=.dict (cB keys row)
theorem Fy:∀{zs:List Str},z∈zs->∃j,yq zs z=some j/\zs.eraseIdx j=zs.erase z
 | [],h=>by cases h
 |a::zs,h=>by
  unfold yq
  by_cases e:a=z
  ·subst e
   exact⟨0,if_pos rfl,by simp⟩
  ·obtain⟨j,h1,h2⟩:=Fy (zs:=zs) ((zaf h).resolve_left λq=>e q.symm)
   refine⟨j+1,?_,?_⟩
   ·rw[if_neg e,h1];rfl
   ·rw[List.eraseIdx_cons_succ,h2,List.erase_cons_tail (by simpa using e)]
theorem Fz{zs:List Str}(h:z∈zs):nh (zs.map .str) [.str z]=some ((zs.erase z).map .str,.none):=by
 obtain⟨j,h1,h2⟩:=Fy h;show(sI (zs.map .str)).bind _=_;rw[uT,zai,h1,zaT,<-h2,wj]
def bI(row:Str->aK.Row)(name on:Str):Str->aK.Row :=
 aW (aW row name ⟨(row name).key,some on,false,(row name).below⟩) on ⟨((aW row name ⟨(row name).key,some on,false,(row name).below⟩) on).key,((aW row name ⟨(row name).key,some on,false,(row name).below⟩) on).above,((aW row name ⟨(row name).key,some on,false,(row name).below⟩) on).mark,((aW row name ⟨(row name).key,some on,false,(row name).below⟩) on).below++[name]⟩
theorem BK(hn:name∈keys)(ho:on∈keys)(ht:name∈ak)(hk:keys.length<=1000)(hb:∀n∈keys,(row n).below.length<=1000):eW [TD ak,HD keys row,.str name,.str on]=some ((.none,false),TD (ak.erase name),HD keys (bI row name on)):=by
 have e1:bf (row name)=.tuple [.int (row name).key,bg (row name).above,.bool (row name).mark,.tuple ((row name).below.map .str)]:=rfl
 let cI:=aW row name ⟨(row name).key,some on,false,(row name).below⟩
 have hb1:(cI on).below.length<=1000:=by
  show(aW row name ⟨(row name).key,some on,false,(row name).below⟩ on).below.length<=1000;unfold aW;split
  ·exact hb name hn
  ·exact hb on ho
 refine wQ (o:=.nx [.io (TD (ak.erase name)),.io (HD keys (bI row name on)),.fz (.str name),.fz (.str on),.fz (.int (cI on).key),.fz (bg (cI on).above),.fz (.bool (cI on).mark),.fz (.tuple ((cI on).below.map .str))]) rfl ?_ rfl rfl;refine aX (ρ1:=[.io (TD ak),.io (HD keys row),.fz (.str name),.fz (.str on),.fz (.int (row name).key),.fz (bg (row name).above),.fz (.bool (row name).mark),.fz (.tuple ((row name).below.map .str))]) (rm (cy (.inr (.inr rfl)) hn (ar rfl)) rfl) ?_;refine aX (ρ1:=[.io (TD ak),.io (HD keys cI),.fz (.str name),.fz (.str on),.fz (.int (row name).key),.fz (bg (row name).above),.fz (.bool (row name).mark),.fz (.tuple ((row name).below.map .str))]) ((jJ (i:=1) (r:=⟨(row name).key,some on,false,(row name).below⟩) (dN (rs:=[(.int (row name).key,.fz),(.str on,.fz),(.bool false,.fz),(.tuple ((row name).below.map .str),.fz)]) rfl rfl (by simp)) (ar rfl) rfl (.inr rfl) hk).trans (by rw[fv hn];rfl)) ?_
 refine aX (ρ1:=[.io (TD ak),.io (HD keys cI),.fz (.str name),.fz (.str on),.fz (.int (cI on).key),.fz (bg (cI on).above),.fz (.bool (cI on).mark),.fz (.tuple ((cI on).below.map .str))]) (rm (cy (.inr (.inr rfl)) ho (ar rfl)) rfl) ?_;refine aX (ρ1:=[.io (TD ak),.io (HD keys (bI row name on)),.fz (.str name),.fz (.str on),.fz (.int (cI on).key),.fz (bg (cI on).above),.fz (.bool (cI on).mark),.fz (.tuple ((cI on).below.map .str))]) ?_ ?_
 ·have ea:∃k,sv (mOp qD (ai 7) (gB (aj (ai 2) aI))) [.io (TD ak),.io (HD keys cI),.fz (.str name),.fz (.str on),.fz (.int (cI on).key),.fz (bg (cI on).above),.fz (.bool (cI on).mark),.fz (.tuple ((cI on).below.map .str))]=some ((.tuple (((cI on).below++[name]).map .str),.fz),k)/\k=[.io (TD ak),.io (HD keys cI),.fz (.str name),.fz (.str on),.fz (.int (cI on).key),.fz (bg (cI on).above),.fz (.bool (cI on).mark),.fz (.tuple ((cI on).below.map .str))]:=by
   obtain⟨o,ho⟩:=uN ((cI on).below.map .str) [.str name] (by simp;omega) (by simp)
   refine⟨_,?_,rfl⟩;have h:=bC (a:=ai 7) (b:=gB (aj (ai 2) aI)) (r:=(.tuple [.str name],.fz)) (res:=(.tuple (((cI on).below++[name]).map .str),o)) (ρ:=[.io (TD ak),.io (HD keys cI),.fz (.str name),.fz (.str on),.fz (.int (cI on).key),.fz (bg (cI on).above),.fz (.bool (cI on).mark),.fz (.tuple ((cI on).below.map .str))]) (g:=qD) (ao (ar rfl)) (ao (dN (rs:=[(.str name,.fz)]) rfl rfl (by simp))) (by rw[ho,za1];rfl)
   cases o
   ·exact ao h
   ·exact ao h
  obtain⟨_,ea,rfl⟩:=ea;exact(jJ (i:=1) (r:=⟨(cI on).key,(cI on).above,(cI on).mark,(cI on).below++[name]⟩) (dN (rs:=[(.int (cI on).key,.fz),(bg (cI on).above,.fz),(.bool (cI on).mark,.fz),(.tuple (((cI on).below++[name]).map .str),.fz)]) (ay (ao (ar rfl)) (ay (ao (ar rfl)) (ay (ao (ar rfl)) (ay ea aT)))) rfl (by simp)) (ar rfl) rfl (.inr rfl) hk).trans (by rw[fv ho];rfl)
 ·exact iS (pX (rs:=[(.str name,.fz)]) rfl rfl rfl rfl (Fz ht) rfl)
theorem yK(ne:x≠y)(h:bU a x c y=false):bU c y a x=true:=by
 unfold bU at h⊢
 by_cases e:a=c
 ·subst e
  rw[if_pos rfl,if_neg ne]at h;rw[if_pos rfl,if_neg (λz=>ne z.symm)]
  have h1 : ¬x.cps.toList<y.cps.toList:=of_decide_eq_false h;refine zaH ?_;rcases List.le_iff_lt_or_eq.mp (List.not_lt.mp h1)with h2|h2
  ·exact h2
  ·refine absurd ?_ ne
   cases x;cases y
   congr 1
   exact(Array.toList_inj.mp h2).symm
 ·rw[if_neg e]at h
  rw[if_neg (λz=>e z.symm)]
  have:=of_decide_eq_false h;exact zaH (by omega)
theorem mP(h1:bU a x b y=true)(h2:bU b y c z=true):bU a x c z=true:=by
 unfold bU at h1 h2⊢
 by_cases e1:a=b
 ·subst e1
  rw[if_pos rfl]at h1
  by_cases e2:a=c
  ·subst e2
   rw[if_pos rfl]at h2⊢;split at h1
   ·cases h1
   split at h2
   ·cases h2
   have l1:=of_decide_eq_true h1;have l2:=of_decide_eq_true h2;have l3:x.cps.toList<z.cps.toList:=List.lt_trans l1 l2;rw[if_neg (λq=>by rw[q]at l3;exact List.lt_irrefl _ l3)]
   exact zaH l3
  ·rw[if_neg e2]at h2⊢;exact h2
 ·rw[if_neg e1]at h1
  have l1:=of_decide_eq_true h1
  by_cases e2:b=c
  ·subst e2;rw[if_neg e1];exact h1
  ·rw[if_neg e2]at h2
   have l2:=of_decide_eq_true h2;rw[if_neg (by omega)]
   exact zaH (by omega)
theorem pY:bU a x a x=false:=by
 unfold bU;rw[if_pos rfl,if_pos rfl]
theorem iZ(h:PyData.strOk x=true):SeqAt.shaped (.str x)=true:=by
 unfold SeqAt.shaped;rw[zaH (by simp[PyData.depth]),Bool.and_true]
 simp only[PyData.canLay0,h]
theorem rn(hx:PyData.strOk x=true)(hy:PyData.strOk y=true):gNe (.str x) (.str y)=some (.bool (!decide (x=y)),false):=by
 unfold gNe;rw[if_pos ⟨iZ hx,iZ hy⟩];simp only[PyData.eqv]
 by_cases e:x=y
 ·subst e;simp
 ·simp[e]
theorem fw{ρn:Rho}:∀l:List Str,(∀x∈l,∃ρ,c (.fz (.str x)::ρn)=some (p x,ρ))->(∀x∈l,∃ρ,sv e (.fz (.str x)::ρn)=some ((.str x,.fz),ρ))->kf c e ρn (l.map .str)=some ((l.filter p).map .str)
 | [],_,_=>rfl
 |x::l,h,h2=>by
  have ih:=fw l (λy hy=>h y (zak _ hy)) λy hy=>h2 y (zak _ hy)
  obtain⟨ρ,e1⟩:=h x zas;obtain⟨ρ2,e2⟩:=h2 x zas;show(c (.fz (.str x)::ρn)).bind _=_;rw[e1,zai];dsimp only
  cases hp:p x with
  |false=>rw[if_neg (by simp),ih,List.filter_cons_of_neg (by simp[hp])]
  |true=>rw[if_pos rfl,e2,zai];dsimp only[asF,Option.bind_some];rw[ih,List.filter_cons_of_pos (by simp[hp])];rfl
theorem lg(hx:PyData.strOk x=true)(hy:PyData.strOk y=true):PyData.strOk (x++y)=true:=by
 unfold PyData.strOk at*;show(x.cps++y.cps).all _=true;rw[Array.all_append,hx,hy];rfl
theorem uU:∀j:Nat,j<26->PyData.strOk (letter j)=true:=by decide+kernel
theorem KN:∀j:Nat,j<6->PyData.strOk (sfx j)=true:=by decide+kernel
theorem FA(k:Nat):PyData.strOk (aC k)=true:=by
 unfold aC;have h1:=uU (k/52%26) (by omega)
 have h2:=uU (k/2%26) (by omega)
 split
 ·exact lg (lg h1 h2) (KN _ (by omega))
 ·exact lg h1 h2
structure Bt(K:Str->Int)(c:Nat)(ak keys:List Str)(row:Str->aK.Row):Prop where
 nd:keys.Nodup
 nm:∀n∈keys,∃i,i<c/\n=aC i
 tn:ak.Nodup
 tk:∀t∈ak,t∈keys/\(row t).above=none
 ne:∀n∈keys,(row n).above=none->n∈ak
 mkd:∀n∈keys,(row n).mark=true->(row n).above≠none
 ab:∀n∈keys,∀a,(row n).above=some a->a∈keys
 bl:∀n∈keys,(row n).below.length<=c/\∀b∈(row n).below,b∈keys
 ho:∀n∈keys,∀a,(row n).above=some a->bU (K a) a (K n) n=true
theorem Bt.kl(h:Bt K c ak keys row):keys.length<=c:=by
 have:=aK.js keys ((List.range c).map aC) h.nd λx hx=>by
  obtain⟨i,hi,rfl⟩:=h.nm x hx;exact List.mem_map_of_mem (List.mem_range.mpr hi)
 simpa using this
theorem Bt.tl(h:Bt K c ak keys row):ak.length<=c:=zaX (aK.js ak keys h.tn λx hx=>(h.tk x hx).1) h.kl
theorem Bt.ok(h:Bt K c ak keys row)(hn:n∈keys):PyData.strOk n=true:=by
 obtain⟨i,_,rfl⟩:=h.nm n hn;exact FA i
theorem aM(row:Str->aK.Row)(n:Str)(r:aK.Row):aW row n r n=r:=if_pos rfl
theorem aE(row:Str->aK.Row)(r:aK.Row)(h:m≠n):aW row n r m=row m:=if_neg h
def bE(row:Str->aK.Row)(name:Str):Str->aK.Row:=aW row name ⟨(row name).key,none,false,(row name).below⟩
def c9(row:Str->aK.Row)(name a:Str):Str->aK.Row:=aW (bE row name) a ⟨(bE row name a).key,(bE row name a).above,(bE row name a).above.isSome,(bE row name a).below.filter λx=>!decide (x=name)⟩
theorem lh(row:Str->aK.Row)(name n:Str):(bE row name n).above=if n=name then none else(row n).above:=by
 unfold bE aW;split<;>rfl
theorem eZ(row:Str->aK.Row)(name a n:Str):(c9 row name a n).above=if n=name then none else(row n).above:=by
 rw[<-lh];unfold c9
 by_cases e:n=a
 ·subst e;rw[aM]
 ·rw[aE _ _ e]
theorem sT:(c9 row name a n).below.length<=(row n).below.length/\∀b∈(c9 row name a n).below,b∈(row n).below:=by
 have h1:(bE row name n).below=(row n).below:=by
  unfold bE aW;split
  ·rename_i e;rw[e]
  ·rfl
 unfold c9
 by_cases e:n=a
 ·subst e
  rw[aM];show(List.filter _ (bE row name n).below).length<=_/\∀b∈List.filter _ (bE row name n).below,_;rw[h1];exact⟨zaY _ _,λb hb=>(List.mem_filter.mp hb).1⟩
 ·rw[aE _ _ e,h1]
  exact⟨zap _,λb hb=>hb⟩
theorem C5:(c9 row name a n).mark=true->(c9 row name a n).above.isSome=true\/(n≠name/\(row n).mark=true):=by
 intro h
 by_cases e:n=a
 ·subst e
  left;unfold c9 at h⊢;rw[aM]at h⊢;exact h
 ·unfold c9 at h⊢
  rw[aE _ _ e]at h⊢;unfold bE at h⊢
  by_cases e2:n=name
  ·subst e2;rw[aM]at h;cases h
  ·rw[aE _ _ e2]at h
   exact Or.inr ⟨e2,h⟩
theorem FC(row:Str->aK.Row)(name n:Str):(bE row name n).key=(row n).key:=by
 unfold bE aW;split
 ·rename_i e;rw[e]
 ·rfl
theorem FD(row:Str->aK.Row)(name a n:Str):(c9 row name a n).key=(row n).key:=by
 rw[<-FC row name];unfold c9
 by_cases e:n=a
 ·subst e;rw[aM]
 ·rw[aE _ _ e]
theorem Bt.cut(h:Bt K c ak keys row)(hn:name∈keys)(ha:(row name).above=some a):Bt K c (ak++[name]) keys (c9 row name a):=by
 have hnt:name∉ak:=λz=>by rw[(h.tk name z).2]at ha;cases ha
 refine⟨h.nd,h.nm,?_,λt ht=>?_,λm hm e=>?_,λn hk hm=>?_,λn hk b hb=>?_,λn hk=>?_,λn hk b hb=>?_⟩
 ·rw[List.nodup_append]
  refine⟨h.tn,by simp,λx hx y hy=>?_⟩
  rw[zad hy];exact λe=>hnt (by rw[<-e];exact hx)
 ·rw[eZ]
  rcases zae ht with ht|ht
  ·refine⟨(h.tk t ht).1,?_⟩
   split
   ·rfl
   ·exact(h.tk t ht).2
  ·rw[zad ht]
   exact⟨hn,if_pos rfl⟩
 ·by_cases z:m=name
  ·rw[z];simp
  ·rw[eZ,if_neg z]at e;exact zaW _ (h.ne m hm e)
 ·rcases C5 hm with e|⟨e1,e2⟩
  ·exact λz=>by rw[z]at e;cases e
  ·rw[eZ,if_neg e1]
   exact h.mkd n hk e2
 ·rw[eZ]at hb
  split at hb
  ·cases hb
  ·exact h.ab n hk b hb
 ·exact⟨zaX sT.1 (h.bl n hk).1,λb hb=>(h.bl n hk).2 b (sT.2 b hb)⟩
 ·rw[eZ]at hb
  split at hb
  ·cases hb
  ·exact h.ho n hk b hb
inductive Ch(row:Str->aK.Row):Str->List Str->Str->Prop
 |one {n a:Str}:(row n).above=some a->(row a).mark=false->Ch row n [n] a
 |more {n a L:Str} {C:List Str}:(row n).above=some a->(row a).mark=true->Ch row a C L->Ch row n (n::C) L
theorem uV{α:Type}{p q : α->Bool}:∀l:List α,(∀x∈l,p x=true->q x=true)->(∃x∈l,p x=false/\q x=true)->l.countP p<l.countP q
 | [],_,⟨x,hx,_⟩=>by cases hx
 |y::l,h,⟨x,hx,e1,e2⟩=>by
  rw[List.countP_cons,List.countP_cons];have hle:l.countP p<=l.countP q:=List.countP_mono_left λz hz=>h z (zak _ hz)
  rcases zaf hx with rfl|hx'
  ·rw[e1,e2,if_neg zam,if_pos rfl];omega
  ·have:=uV l (λz hz=>h z (zak _ hz)) ⟨x,hx',e1,e2⟩
   have hy:=h y (zas);cases hp:p y with
   |false=>rw[if_neg zam];omega
   |true=>rw[hy hp,if_pos rfl];omega
section
variable{K:Str->Int}{c:Nat}{ak keys:List Str}{row:Str->aK.Row}
def rank(K:Str->Int)(keys:List Str)(n:Str):Nat:=keys.countP λm=>bU (K m) m (K n) n
theorem BL(h:Bt K c ak keys row)(hn:n∈keys)(ha:(row n).above=some a):rank K keys a<rank K keys n :=
 uV keys (λm _ e=>mP e (h.ho n hn a ha)) ⟨a,h.ab n hn a ha,pY,h.ho n hn a ha⟩
theorem Mo(h:Bt K c ak keys row):∀(m:Nat) (n:Str),n∈keys->rank K keys n<=m->(row n).above≠none->∃C L,Ch row n C L/\C.length<=m:=by
 intro m
 induction m with
 |zero=>
  intro n hn hr ha;cases e:(row n).above with
  |none=>exact absurd e ha
  |some a=>have:=BL h hn e;omega
 |succ m ih=>
  intro n hn hr ha;cases e:(row n).above with
  |none=>exact absurd e ha
  |some a=>
   have hk:=h.ab n hn a e;cases em:(row a).mark with
   |false=>exact⟨[n],a,.one e em,by simp⟩
   |true=>
    obtain⟨C,L,h1,h2⟩:=ih a hk (by have:=BL h hn e;omega) (h.mkd a hk em)
    exact⟨n::C,L,.more e em h1,by rw[zaw];omega⟩
theorem Jg(h:Bt K c ak keys row)(hn:n∈keys)(ha:(row n).above≠none):∃C L,Ch row n C L/\C.length<=c:=by
 obtain⟨C,L,h1,h2⟩:=Mo h keys.length n hn List.countP_le_length ha;exact⟨C,L,h1,zaX h2 h.kl⟩
theorem Ch.mem(h:Bt K c ak keys row):∀{C:List Str} {n L:Str},Ch row n C L->n∈keys->(∀x∈C,x∈keys)/\L∈keys
 |_,n,_,.one ha _,hn=>⟨λx hx=>by rw[zad hx];exact hn,h.ab n hn _ ha⟩
 |_,n,_,.more ha _ hc,hn=>by
  obtain⟨h1,h2⟩:=Ch.mem h hc (h.ab n hn _ ha);exact⟨λx hx=>(zaf hx).elim (λe=>e▸hn) (h1 x),h2⟩
theorem Ch.tr(h:Bt K c ak keys row):∀{C:List Str} {n L:Str},Ch row n C L->n∈keys->(aQ n).above=(row n).above->(∀m∈keys,bU (K m) m (K n) n=true->(aQ m).above=(row m).above/\(aQ m).mark=(row m).mark)->Ch aQ n C L
 |_,n,a,.one ha hm,hn,e,k=>.one (e.trans ha) (((k a (h.ab n hn a ha) (h.ho n hn a ha)).2).trans hm)
 |_,n,_,.more (a:=a) ha hm hc,hn,e,k=>
  .more (e.trans ha) (((k a (h.ab n hn a ha) (h.ho n hn a ha)).2).trans hm) (Ch.tr h hc (h.ab n hn a ha) (k a (h.ab n hn a ha) (h.ho n hn a ha)).1 λm hm l=>k m hm (mP l (h.ho n hn a ha)))
theorem uW(h1:m≠n)(h2:m≠a):c9 row n a m=row m:=by
 unfold c9 bE;rw[aE _ _ h2,aE _ _ h1]
theorem pZ(h:a≠n):(bE row n a).mark=(row a).mark:=by
 unfold bE;rw[aE _ _ h]
theorem Bt.neA(h:Bt K c ak keys row)(hn:n∈keys)(ha:(row n).above=some a):a≠n:=λe=>by
 have:=h.ho n hn a ha;rw[e,pY]at this;cases this
theorem Ch.cut(h:Bt K c ak keys row)(hn:n∈keys)(ha:(row n).above=some a)(hc:Ch row a C L):Ch (c9 row n a) a C L:=by
 have ne:=h.neA hn ha;refine Ch.tr h hc (h.ab n hn a ha) (by rw[eZ,if_neg ne]) λm hm l=>?_
 have e1:m≠n:=λe=>by
  subst e;have:=mP l (h.ho m hn a ha);rw[pY]at this;cases this
 have e2:m≠a:=λe=>by
  subst e;rw[pY]at l;cases l
 rw[uW e1 e2];exact⟨rfl,rfl⟩
end
def cuts:List Str->(Str->aK.Row)->Str->aK.Row
 | [],row=>row
 |n::C,row=>cuts C (c9 row n ((row n).above.getD n))
theorem gp(ha:(row n).above=some a):cuts (n::C) row=cuts C (c9 row n a):=by
 show cuts C (c9 row n ((row n).above.getD n))=_;rw[ha];rfl
theorem oZ:∀(C:List Str) (row:Str->aK.Row) (n:Str),(cuts C row n).key=(row n).key
 | [],_,_=>rfl
 |x::C,row,n=>(oZ C _ n).trans (FD _ _ _ _)
def stp(n:Str):D:=.tuple [.str "cut",.str n]
section
variable{keys:List Str}{row:Str->aK.Row}{ak:List Str}{c:Nat}
def mk(keys:List Str)(row:Str->aK.Row):Nat:=(keys.filter λn=>(row n).mark).length
def b1(b:Bool):Nat:=if b then 1 else 0
theorem rq(y:Str)(l:List Str)(row:Str->aK.Row):mk (y::l) row=b1 (row y).mark+mk l row:=by
 unfold mk b1;rw[List.filter_cons];cases(row y).mark with
 |true=>rw[if_pos rfl,if_pos rfl,zaw,Nat.add_comm]
 |false=>rw[if_neg zam,if_neg zam,Nat.zero_add]
theorem Jh:∀l:List Str,x∉l->mk l (aW row x r)=mk l row
 | [],_=>rfl
 |y::l,h=>by
  rw[rq,rq,Jh l (λz=>h (zak _ z)),aE _ _ (λz=>h (by rw[z];exact zas))]
theorem z7{row:Str->aK.Row}{x:Str}{r:aK.Row}:∀l:List Str,l.Nodup->x∈l->mk l (aW row x r)+b1 (row x).mark=mk l row+b1 r.mark
 | [],_,h=>by cases h
 |y::l,nd,h=>by
  rw[rq,rq];obtain⟨n1,n2⟩:=List.nodup_cons.mp nd
  by_cases e:y=x
  ·subst e
   rw[aM,Jh l n1];omega
  ·have:=z7 (row:=row) (r:=r) l n2 ((zaf h).resolve_left λz=>e z.symm)
   rw[aE _ _ e];omega
theorem FE(nd:keys.Nodup)(hn:n∈keys)(ha:a∈keys)(ne:a≠n):mk keys (c9 row n a)+b1 (row n).mark+b1 (row a).mark=mk keys row+b1 (row a).above.isSome:=by
 have e1:=z7 (row:=row) (x:=n) (r:=⟨(row n).key,none,false,(row n).below⟩) keys nd hn;have e2:=z7 (row:=bE row n) (x:=a) (r:=⟨(bE row n a).key,(bE row n a).above,(bE row n a).above.isSome,(bE row n a).below.filter λx=>!decide (x=n)⟩) keys nd ha
 rw[pZ ne]at e2;dsimp only at e1 e2;have e3:(bE row n a).above=(row a).above:=by rw[lh,if_neg ne]
 rw[e3]at e2;have e4:mk keys (c9 row n a)=mk keys (aW (bE row n) a ⟨(bE row n a).key,(row a).above,(row a).above.isSome,(bE row n a).below.filter λx=>!decide (x=n)⟩):=by
  unfold c9;rw[e3]
 have e5:mk keys (bE row n)=mk keys (aW row n ⟨(row n).key,none,false,(row n).below⟩):=rfl;rw[e4];have:b1 false=0:=rfl;omega
theorem Ji(b:Bool):b1 b<=1:=by unfold b1;split<;>omega
theorem HB:∀(C ak:List Str) (row:Str->aK.Row) (n L:Str),Bt K c ak keys row->n∈keys->Ch row n C L->mk keys (cuts C row)+C.length+b1 (row n).mark<=mk keys row+2:=by
 intro C
 induction C with
 |nil=>intro ak row n L _ _ hch;cases hch
 |cons x C ih=>
  intro ak row n L h hn hch;cases hch with
  |one ha hm=>
   have e:=FE (row:=row) h.nd hn (h.ab x hn _ ha) (h.neA hn ha);rw[gp ha];have:=Ji (row L).above.isSome;rw[za7];show mk keys (c9 row x L)+1+_<=_;omega
  |more ha hm hch=>
   rename_i a
   have hka:=h.ab x hn a ha;have ne:=h.neA hn ha;have e:=FE (row:=row) h.nd hn hka ne;rw[gp ha,zaw];have i:=ih (ak++[x]) (c9 row x a) a L (h.cut hn ha) hka (Ch.cut h hn ha hch);have hs:(row a).above.isSome=true:=by
    cases e:(row a).above with
    |none=>exact absurd e (h.mkd a hka hm)
    |some b=>rfl
   have em:(c9 row x a a).mark=true:=by
    unfold c9;rw[aM];show(bE row x a).above.isSome=true;rw[lh,if_neg ne];exact hs
   rw[em]at i;rw[hm,hs]at e;have:b1 true=1:=rfl;omega
end
theorem nC(c:Int)(n:Nat)(h : 0<n):∃a:Nat,c%(n:Int)=(a:Int)/\a<n:=by
 have h1:=Int.emod_nonneg c (show(n:Int)≠0 by omega)
 have h2:=Int.emod_lt_of_pos c (show(0:Int)<(n:Int) by omega)
 exact⟨(c%(n:Int)).toNat,by omega,by omega⟩
theorem KO(c:Int){n k j:Nat}(hk:k<n)(hj:j<k):(c+(k:Int))%(n:Int)≠(c+(j:Int))%(n:Int):=λe=>by
 have h:=Int.emod_eq_emod_iff_emod_sub_eq_zero.mp e;rw[show c+(k:Int)-(c+(j:Int))=(k:Int)-(j:Int) by omega,Int.emod_eq_of_lt (by omega) (by omega)]at h
 omega
theorem wR{n:Nat}(h:IE a ρ (n:Int))(hn:n<=100000):vN (aj a aI) ρ=some ((List.range n).map (λk:Nat=>PyData.int (k:Int)),ρ):=by
 rw[Ke (j:=(n:Int)) (k:=.fz) (ik h aT) ⟨by omega,by omega⟩,Int.toNat_natCast,En]
theorem wU{α:Type}{f : α->D}(I:Rho->Prop)(R:RV->Prop):∀(l:List α) (ρ:Rho),I ρ->(∀x∈l,∀ρ,I ρ->∃ρ1 o,g (f x) ρ=some ρ1/\b ρ1=some o/\((∃ρ2,o=.nx ρ2/\I ρ2)\/∃r ρ2,o=.rt r ρ2/\R r))->∃o,forL g b (l.map f) ρ=some o/\((∃ρ2,o=.nx ρ2/\I ρ2)\/∃r ρ2,o=.rt r ρ2/\R r)
 | [],ρ,h,_=>⟨_,rfl,.inl ⟨ρ,rfl,h⟩⟩
 |x::l,ρ,h,hb=>by
  obtain⟨ρ1,o,h1,h2,h3⟩:=hb x zas ρ h;rcases h3 with⟨ρ2,rfl,i2⟩|⟨r,ρ2,rfl,i2⟩
  ·obtain⟨o,e1,e2⟩:=wU I R l ρ2 i2 λy hy=>hb y (zak _ hy)
   exact⟨o,ki h1 h2 e1,e2⟩
  ·exact⟨_,GU h1 h2,.inr ⟨r,ρ2,rfl,i2⟩⟩
theorem BM{i:Nat}(h:ak[i]?=some t):gIx (TD ak) (.int (i:Int))=some (.str t,false):=sO _ _ _ (by rw[Mir.qU,zao,h];rfl)
def KP(ak:List Str)(row:Str->aK.Row)(r:RV):Prop:=∃a b,(∃i j:Nat,i≠j/\ak[i]?=some a/\ak[j]?=some b)/\(row a).below.length=(row b).below.length/\r=(.list [.str a,.str b],.new)
theorem kH{a:PM}(h:a ρ=some ((bf r,.fz),ρ)):IE (mCB cX (aj (mOp gIx a (mC (.int 3))) aI)) ρ (r.below.length:Int):=eS (rs:=[(.tuple (r.below.map .str),.fz)]) (res:=(.int (r.below.length:Int),false)) (ay (ao (fu h)) aT) (by show some (PyData.int ((r.below.map PyData.str).length:Int),false)=_;rw[zal])
theorem C6(hk:∀t∈ak,t∈keys)(st:Int){k j:Nat}(hkn:k<ak.length)(hj:j<k)(n5:NIo s5)(n6:NIo s6) :
  ∃o,iT [.fz (TD ak),.fz (HD keys row),.fz (.int st),.fz (.int (k:Int)),.fz (.int (j:Int)),s5,s6]=some o/\((∃x y,o=.nx [.fz (TD ak),.fz (HD keys row),.fz (.int st),.fz (.int (k:Int)),.fz (.int (j:Int)),.fz x,.fz y])\/∃r ρ2,o=.rt r ρ2/\KP ak row r):=by
 obtain⟨i,e1,hi⟩:=nC (st+(k:Int)) ak.length (by omega)
 obtain⟨i',e2,hi'⟩:=nC (st+(j:Int)) ak.length (by omega)
 have ne:i≠i':=λz=>KO st hkn hj (by rw[e1,e2,z])
 have g1:ak[i]?=some ak[i]:=zaC hi;have g2:ak[i']?=some ak[i']:=zaC hi';have m1:=hk _ (List.getElem_mem hi);have m2:=hk _ (List.getElem_mem hi');generalize ak[i]=a at g1 m1;generalize ak[i']=b at g2 m2;have ln:∀{ρ:Rho},ρ[0]?=some (.fz (TD ak))->IE (mCB cX (aj (ai 0) aI)) ρ (ak.length:Int):=fun{ρ} h=>by
  have:=z6 (i:=0) (l:=ak.map .str) (.inl h)
  rwa[zal]at this
 have v1:∀{ρ:Rho},ρ[0]?=some (.fz (TD ak))->ρ[2]?=some (.fz (.int st))->ρ[3]?=some (.fz (.int (k:Int)))->mOp gIx (ai 0) (mOp d5 (mOp gr (ai 2) (ai 3)) (mCB cX (aj (ai 0) aI))) ρ=some ((.str a,.fz),ρ):=fun{ρ} h0 h2 h3=>bC (r:=(.int (i:Int),.fz)) (res:=(.str a,false)) (ao (ar h0)) (ao ((fL (jV (cD h2) (cD h3)) (ln h0) (by omega)).is e1)) (BM g1)
 have v2:∀{ρ:Rho},ρ[0]?=some (.fz (TD ak))->ρ[2]?=some (.fz (.int st))->ρ[4]?=some (.fz (.int (j:Int)))->mOp gIx (ai 0) (mOp d5 (mOp gr (ai 2) (ai 4)) (mCB cX (aj (ai 0) aI))) ρ=some ((.str b,.fz),ρ):=fun{ρ} h0 h2 h3=>bC (r:=(.int (i':Int),.fz)) (res:=(.str b,false)) (ao (ar h0)) (ao ((fL (jV (cD h2) (cD h3)) (ln h0) (by omega)).is e2)) (BM g2)
 have go:∀o,iD (aO (mOp gEq (mCB cX (aj (mOp gIx (mOp dh (ai 1) (ai 5)) (mC (.int 3))) aI)) (mCB cX (aj (mOp gIx (mOp dh (ai 1) (ai 6)) (mC (.int 3))) aI)))) (fQ (f6 (aj (ai 5) (aj (ai 6) aI)))) gT [.fz (TD ak),.fz (HD keys row),.fz (.int st),.fz (.int (k:Int)),.fz (.int (j:Int)),.fz (.str a),.fz (.str b)]=some o->iT [.fz (TD ak),.fz (HD keys row),.fz (.int st),.fz (.int (k:Int)),.fz (.int (j:Int)),s5,s6]=some o:=λo h=>by
  refine aX (ρ1:=[.fz (TD ak),.fz (HD keys row),.fz (.int st),.fz (.int (k:Int)),.fz (.int (j:Int)),.fz (.str a),s6]) (dw (v1 rfl rfl rfl) (iY (s:=s5) _ rfl n5)) ?_;exact aX (ρ1:=[.fz (TD ak),.fz (HD keys row),.fz (.int st),.fz (.int (k:Int)),.fz (.int (j:Int)),.fz (.str a),.fz (.str b)]) (dw (v2 rfl rfl rfl) (iY (s:=s6) _ rfl n6)) h
 have l1:=kH (cy (i:=1) (ρ:=[.fz (TD ak),.fz (HD keys row),.fz (.int st),.fz (.int (k:Int)),.fz (.int (j:Int)),.fz (.str a),.fz (.str b)]) (b:=ai 5) (.inl rfl) m1 (ar rfl));have l2:=kH (cy (i:=1) (ρ:=[.fz (TD ak),.fz (HD keys row),.fz (.int st),.fz (.int (k:Int)),.fz (.int (j:Int)),.fz (.str a),.fz (.str b)]) (b:=ai 6) (.inl rfl) m2 (ar rfl))
 by_cases e:((row a).below.length:Int)=((row b).below.length:Int)
 ·exact⟨_,go _ (xZ (tEq l1 l2 e) (du (fK (rs:=[(.str a,.fz),(.str b,.fz)]) rfl rfl (by simp)))),.inr ⟨_,_,rfl,a,b,⟨i,i',ne,g1,g2⟩,by omega,rfl⟩⟩
 ·exact⟨_,go _ (kX (tNe l1 l2 e) rfl),.inl ⟨_,_,rfl⟩⟩
theorem HC(hk:∀t∈ak,t∈keys)(hl:ak.length<=1000)(st:Int):∃L:List Str,k9 [TD ak,HD keys row,.int st]=some (TD L,true)/\(L=[]\/∃(a b:Str) (i j:Nat),L=[a,b]/\i≠j/\ak[i]?=some a/\ak[j]?=some b/\(row a).below.length=(row b).below.length):=by
 have ln:IE (mCB cX (aj (ai 0) aI)) [.fz (TD ak),.fz (HD keys row),.fz (.int st),.no,.no,.no,.no] (ak.length:Int):=by
  have:=z6 (i:=0) (l:=ak.map .str) (ρ:=[.fz (TD ak),.fz (HD keys row),.fz (.int st),.no,.no,.no,.no]) (.inl rfl)
  rwa[zal]at this
 obtain⟨o,h1,h2⟩:=wU (g:=mgN 3) (b:=oU) (f:=λk:Nat=>PyData.int (k:Int)) (fun ρ=>∃s3 s4 s5 s6,NIo s3/\NIo s4/\NIo s5/\NIo s6/\ρ=[.fz (TD ak),.fz (HD keys row),.fz (.int st),s3,s4,s5,s6]) (KP ak row) (List.range ak.length) [.fz (TD ak),.fz (HD keys row),.fz (.int st),.no,.no,.no,.no] ⟨_,_,_,_,NIo.no,NIo.no,NIo.no,NIo.no,rfl⟩ (λk hkm ρ hρ=>by
  obtain⟨s3,s4,s5,s6,n3,n4,n5,n6,rfl⟩:=hρ;have hkn:=List.mem_range.mp hkm;obtain⟨o,g1,g2⟩:=wU (g:=mgN 4) (b:=iT) (f:=λk:Nat=>PyData.int (k:Int)) (fun ρ=>∃s4 s5 s6,NIo s4/\NIo s5/\NIo s6/\ρ=[.fz (TD ak),.fz (HD keys row),.fz (.int st),.fz (.int (k:Int)),s4,s5,s6]) (KP ak row) (List.range k) [.fz (TD ak),.fz (HD keys row),.fz (.int st),.fz (.int (k:Int)),s4,s5,s6] ⟨_,_,_,n4,n5,n6,rfl⟩ (λj hjm ρ hρ=>by
   obtain⟨s4,s5,s6,n4,n5,n6,rfl⟩:=hρ;obtain⟨o,f1,f2⟩:=C6 (row:=row) hk st hkn (List.mem_range.mp hjm) n5 n6;refine⟨_,o,gK (s:=s4) rfl n4,f1,?_⟩;rcases f2 with⟨x,y,rfl⟩|f2
   ·exact .inl ⟨_,rfl,_,_,_,NIo.fz _,NIo.fz _,NIo.fz _,rfl⟩
   ·exact .inr f2)
  refine⟨_,o,gK (s:=s3) rfl n3,rV (wR (cD rfl) (by omega)) g1,?_⟩
  rcases g2 with⟨ρ2,rfl,s4,s5,s6,n4,n5,n6,rfl⟩|g2
  ·exact .inl ⟨_,rfl,_,_,_,_,NIo.fz _,n4,n5,n6,rfl⟩
  ·exact .inr g2)
 rcases h2 with⟨ρ2,rfl,_⟩|⟨r,ρ2,rfl,a,b,⟨i,j,ne,g1,g2⟩,ed,rfl⟩
 ·exact⟨[],eO (o:=.rt (.list [],.new) ρ2) rfl (aX (rV (wR ln (by omega)) h1) (du (fK (rs:=[]) rfl rfl (by simp)))) rfl,.inl rfl⟩
 ·exact⟨[a,b],eO rfl (zI (rV (wR ln (by omega)) h1)) rfl,.inr ⟨a,b,i,j,rfl,ne,g1,g2,ed⟩⟩
theorem Bt.more(h:Bt K c ak keys row)(hd:c<=d):Bt K d ak keys row :=
 ⟨h.nd,λn hn=>by obtain⟨i,hi,e⟩:=h.nm n hn;exact⟨i,by omega,e⟩,h.tn,h.tk,h.ne,h.mkd,h.ab,λn hn=>⟨by have:=(h.bl n hn).1;omega,(h.bl n hn).2⟩,h.ho⟩
theorem c8(ne:on≠name):bI row name on on=⟨(row on).key,(row on).above,(row on).mark,(row on).below++[name]⟩:=by
 unfold bI;rw[aM,aE _ _ ne]
theorem cJ(ne:on≠name):bI row name on name=⟨(row name).key,some on,false,(row name).below⟩:=by
 unfold bI;rw[aE _ _ (λz=>ne z.symm),aM]
theorem cK(h1:n≠on)(h2:n≠name):bI row name on n=row n:=by
 unfold bI;rw[aE _ _ h1,aE _ _ h2]
theorem mQ(ne:on≠name)(n:Str):(bI row name on n).key=(row n).key:=by
 by_cases e:n=on
 ·subst e;rw[c8 ne]
 ·by_cases e2:n=name
  ·subst e2;rw[cJ ne]
  ·rw[cK e e2]
theorem Bt.hung(h:Bt K c ak keys row)(hn:name∈ak)(ho:on∈ak)(ne:on≠name)(hlt:bU (K on) on (K name) name=true):Bt K (c+1) (ak.erase name) keys (bI row name on):=by
 have hk:=(h.tk name hn).1;have ok:=(h.tk on ho).1;refine⟨h.nd,(h.more (Nat.le_succ c)).nm,h.tn.erase _,λt ht=>?_,λm hm e=>?_,λn hnk hm=>?_,λn hnk a ha=>?_,λn hnk=>?_,λn hnk a ha=>?_⟩
 ·obtain⟨h1,h2⟩:=(za9 h.tn).mp ht
  refine⟨(h.tk t h2).1,?_⟩
  by_cases e:t=on
  ·subst e;rw[c8 ne];exact(h.tk t h2).2
  ·rw[cK e h1];exact(h.tk t h2).2
 ·refine(za9 h.tn).mpr ⟨λz=>?_,h.ne m hm ?_⟩
  ·rw[z,cJ ne]at e;cases e
  ·by_cases z:m=on
   ·rw[z,c8 ne]at e;rw[z];exact e
   ·by_cases w:m=name
    ·rw[w,cJ ne]at e;cases e
    ·rw[cK z w]at e;exact e
 ·by_cases e:n=on
  ·subst e;rw[c8 ne]at hm⊢;exact h.mkd n hnk hm
  ·by_cases e2:n=name
   ·subst e2;rw[cJ ne]at hm;cases hm
   ·rw[cK e e2]at hm⊢;exact h.mkd n hnk hm
 ·by_cases e:n=on
  ·subst e;rw[c8 ne]at ha;exact h.ab n hnk a ha
  ·by_cases e2:n=name
   ·subst e2;rw[cJ ne]at ha;cases ha;exact ok
   ·rw[cK e e2]at ha;exact h.ab n hnk a ha
 ·by_cases e:n=on
  ·subst e
   rw[c8 ne];refine⟨?_,λb hb=>?_⟩
   ·show((row n).below++[name]).length<=c+1
    rw[zau,za7];have:=(h.bl n hnk).1;omega
   ·rcases zae (show b∈(row n).below++[name]from hb)with hb|hb
    ·exact(h.bl n hnk).2 b hb
    ·rw[zad hb];exact hk
  ·by_cases e2:n=name
   ·subst e2;rw[cJ ne];exact⟨Nat.le_succ_of_le (h.bl n hnk).1,(h.bl n hnk).2⟩
   ·rw[cK e e2];exact⟨by have:=(h.bl n hnk).1;omega,(h.bl n hnk).2⟩
 ·by_cases e:n=on
  ·subst e;rw[c8 ne]at ha;exact h.ho n hnk a ha
  ·by_cases e2:n=name
   ·subst e2;rw[cJ ne]at ha;cases ha;exact hlt
   ·rw[cK e e2]at ha;exact h.ho n hnk a ha
theorem Bt.new(hc:c<130)(h:Bt K c ak keys row)(v:Int):aC c∉keys/\Bt (λn=>if n=aC c then v else K n) (c+1) (ak++[aC c]) (keys++[aC c]) (aW row (aC c) ⟨v,none,false,[]⟩):=by
 have hn:aC c∉keys:=λz=>by
  obtain⟨i,hi,e⟩:=h.nm _ z;exact iu c hc i hi e
 refine⟨hn,?_,λn hnk=>?_,?_,λt ht=>?_,λm hm e=>?_,λn hnk hm=>?_,λn hnk a ha=>?_,λn hnk=>?_,λn hnk a ha=>?_⟩
 ·rw[List.nodup_append]
  exact⟨h.nd,by simp,λx hx y hy=>by rw[zad hy];exact λe=>hn (by rw[<-e];exact hx)⟩
 ·rcases zae hnk with hx|hx
  ·obtain⟨i,hi,e⟩:=h.nm n hx;exact⟨i,by omega,e⟩
  ·exact⟨c,by omega,zad hx⟩
 ·rw[List.nodup_append]
  exact⟨h.tn,by simp,λx hx y hy=>by rw[zad hy];exact λe=>hn (by rw[<-e];exact(h.tk x hx).1)⟩
 ·rcases zae ht with hx|hx
  ·refine⟨zaW _ (h.tk t hx).1,?_⟩
   rw[aE _ _ (λz=>hn (by rw[<-z];exact(h.tk t hx).1))]
   exact(h.tk t hx).2
  ·rw[zad hx,aM]
   exact⟨by simp,rfl⟩
 ·by_cases z:m=aC c
  ·rw[z];simp
  ·rw[aE _ _ z]at e
   exact zaW _ (h.ne m ((zae hm).resolve_right λw=>z (zad w)) e)
 ·by_cases e:n=aC c
  ·subst e;rw[aM]at hm;cases hm
  ·rw[aE _ _ e]at hm⊢
   exact h.mkd n ((zae hnk).resolve_right λz=>e (zad z)) hm
 ·by_cases e:n=aC c
  ·subst e;rw[aM]at ha;cases ha
  ·rw[aE _ _ e]at ha
   exact zaW _ (h.ab n ((zae hnk).resolve_right λz=>e (zad z)) a ha)
 ·by_cases e:n=aC c
  ·subst e;rw[aM];exact⟨Nat.zero_le _,λb hb=>by cases hb⟩
  ·rw[aE _ _ e]
   have h1:=h.bl n ((zae hnk).resolve_right λz=>e (zad z))
   exact⟨by have:=h1.1;omega,λb hb=>zaW _ (h1.2 b hb)⟩
 ·by_cases e:n=aC c
  ·subst e;rw[aM]at ha;cases ha
  ·rw[aE _ _ e]at ha
   have hk:=(zae hnk).resolve_right λz=>e (zad z)
   rw[if_neg e,if_neg (λz=>hn (by rw[<-z];exact h.ab n hk a ha))]
   exact h.ho n hk a ha
abbrev Bk(c:Nat)(ak keys:List Str)(row:Str->aK.Row):Prop:=Bt (λn=>(row n).key) c ak keys row
theorem Bt.re(h:Bt K c ak keys row)(e:∀n∈keys,K n=(row n).key):Bk c ak keys row :=
 ⟨h.nd,h.nm,h.tn,h.tk,h.ne,h.mkd,h.ab,h.bl,λn hn a ha=>by rw[<-e n hn,<-e a (h.ab n hn a ha)];exact h.ho n hn a ha⟩
theorem Bk.new(hc:c<130)(h:Bk c ak keys row)(v:Int):aC c∉keys/\Bk (c+1) (ak++[aC c]) (keys++[aC c]) (aW row (aC c) ⟨v,none,false,[]⟩) :=
 ⟨(Bt.new hc h v).1,(Bt.new hc h v).2.re λn _=>by
  by_cases e:n=aC c
  ·subst e;rw[aM,if_pos rfl]
  ·rw[aE _ _ e,if_neg e]⟩
theorem mR{l:List Str}(h:∀x∈l,PyData.strOk x=true):PyData.canLayAll0 (l.map .str)=true/\PyData.depthAll (l.map .str)<=1:=by
 induction l with
 |nil=>exact⟨rfl,by simp[PyData.depthAll]⟩
 |cons x l ih=>
  obtain⟨h1,h2⟩:=ih λy hy=>h y (zak _ hy)
  refine⟨?_,?_⟩
  ·simp only[List.map_cons,PyData.canLayAll0,PyData.canLay0,h x List.mem_cons_self,h1,Bool.and_true]
  ·simp only[List.map_cons,PyData.depthAll,PyData.depth]
   omega
theorem nD(h:∀x∈l,PyData.strOk x=true):SeqAt.shaped (TD l)=true:=by
 obtain⟨h1,h2⟩:=mR h;unfold SeqAt.shaped;rw[zaH (by simp only[PyData.depth];omega),Bool.and_true]
 simp only[PyData.canLay0,h1]
theorem BN(h:∀x∈l,PyData.strOk x=true):gNe (TD l) (.list [])=some (.bool (!l.isEmpty),false):=by
 unfold gNe;rw[if_pos ⟨nD h,nD (l:=[]) λx hx=>by cases hx⟩]
 cases l with
 |nil=>rfl
 |cons x l=>simp[PyData.eqv,PyData.eqvAll]
theorem i8:∀l:List Str,bc (l.map .str)=true
 | []=>rfl
 |x::l=>by
  show(eQ (.str x)&&bc (l.map .str))=true;rw[i8 l];rfl
theorem HE(h0:rO ρ[i]?=some ds)(h4:f ds []=some w)(h5:Mir.putAt ρ i (.list w.1)=ρ1):uC i f ρ=some ((w.2,.fz),ρ1):=by
 unfold uC;rw[h0,zai,h4,zaT,h5]
theorem yL(h:Is ρ i (HD keys row)):mCB pN (aj (ai i) aI) ρ=some ((TD keys,.new),ρ):=BJ (res:=(TD keys,true)) h (by show some (PyData.list ((cB keys row).map (·.1)),true)=_;rw[uR])
theorem rA(h:Is ρ i (TD l)):IE (mCB cX (aj (ai i) aI)) ρ (l.length:Int):=by
 have:=z6 h
 rwa[zal]at this
theorem HF(h:Is ρ i (TD l))(hl : 0<l.length)(ha:IE a ρ v):∃n∈l,mOp gIx (ai i) (mOp d5 a (mCB cX (aj (ai i) aI))) ρ=some ((.str n,.fz),ρ):=by
 obtain⟨k,e,hk⟩:=nC v l.length hl;exact⟨l[k],List.getElem_mem hk,sQ (r:=(.int (k:Int),.fz)) (res:=(.str l[k],false)) h (ao ((fL ha (rA h) (by omega)).is e)) (BM (zaC hk))⟩
def gf:Nat->Nat×Nat
 |0=>(1,1)
 |n+1=>((gf n).2+(gf n).1,(gf n).1)
def gd(d:Nat):Nat:=(gf d).1
theorem o4(d:Nat):gd (d+1)=gd d+gd (d-1):=by
 unfold gd;cases d with
 |zero=>rfl
 |succ d=>show(gf (d+1)).2+(gf (d+1)).1=_;rw[Nat.add_comm];rfl
theorem KQ(d:Nat) : 0<gd d:=by
 induction d with
 |zero=>decide
 |succ d ih=>rw[o4];omega
theorem BO(h:a<=b):gd a<=gd b:=by
 induction h with
 |refl=>exact zap _
 |step h ih=>rw[o4];omega
inductive Up(row:Str->aK.Row):Str->Str->Prop
 |refl (m:Str):Up row m m
 |step {m a n:Str}:(row m).above=some a->Up row a n->Up row m n
theorem Up.lin(h1:Up row m x):∀{y:Str},Up row m y->Up row x y\/Up row y x:=by
 induction h1 with
 |refl m=>exact λh2=>.inl h2
 |step e h ih=>
  intro y h2;cases h2 with
  |refl=>exact .inr (.step e h)
  |step e2 h2=>rw[e]at e2;cases e2;exact ih h2
theorem Up.trans(h1:Up row m x)(h2:Up row x y):Up row m y:=by
 induction h1 with
 |refl m=>exact h2
 |step e h ih=>exact .step e (ih h2)
section
variable{K:Str->Int}{c:Nat}{ak keys:List Str}{row:Str->aK.Row}
theorem Up.ord(h:Bt K c ak keys row)(u:Up row m n):m∈keys->n∈keys/\(m=n\/bU (K n) n (K m) m=true):=by
 induction u with
 |refl m=>exact λhm=>⟨hm,.inl rfl⟩
 | @step m a n e u ih=>
  intro hm;obtain⟨h1,h2⟩:=ih (h.ab m hm a e);refine⟨h1,.inr ?_⟩;have l:=h.ho m hm a e;rcases h2 with rfl|h2
  ·exact l
  ·exact mP h2 l
structure Fm(keys:List Str)(row:Str->aK.Row):Prop where
 nd:∀n∈keys,(row n).below.Nodup
 up:∀n∈keys,∀b∈(row n).below,b∈keys/\(row b).above=some n
 dn:∀m∈keys,∀a,(row m).above=some a->m∈(row a).below
 dg:∀n∈keys,∀(i:Nat) (b:Str),(row n).below[i]?=some b->i<=(row b).below.length+b1 (row b).mark
open Classical in
def cm(keys:List Str)(row:Str->aK.Row)(n:Str):List Str:=keys.filter λm=>decide (Up row m n)
open Classical in
theorem p9:m∈cm keys row n↔m∈keys/\Up row m n:=by
 unfold cm;rw[List.mem_filter];exact⟨λh=>⟨h.1,of_decide_eq_true h.2⟩,λh=>⟨h.1,zaH h.2⟩⟩
theorem FG(h:Bt K c ak keys row)(hb:b∈keys)(hn:n∈keys)(e:(row b).above=some n) : ¬Up row n b:=λu=>by
 have l:=h.ho b hb n e;rcases(u.ord h hn).2 with rfl|l2
 ·rw[pY]at l;cases l
 ·have:=mP l l2
  rw[pY]at this;cases this
theorem sU{f:Str->List Str}:∀l:List Str,l.Nodup->(∀x∈l,(f x).Nodup)->(∀x∈l,∀y∈l,x≠y->∀z,z∈f x->z∈f y->False)->(l.flatMap f).Nodup
 | [],_,_,_=>List.nodup_nil
 |x::l,nd,h1,h2=>by
  obtain⟨n1,n2⟩:=List.nodup_cons.mp nd;rw[List.flatMap_cons,List.nodup_append];refine⟨h1 x zas,sU l n2 (λy hy=>h1 y (zak _ hy)) λy hy z hz=>h2 y (zak _ hy) z (zak _ hz),λa ha b hb e=>?_⟩
  subst e;obtain⟨y,hy,hz⟩:=List.mem_flatMap.mp hb;exact h2 x zas y (zak _ hy) (λe=>n1 (e▸hy)) a ha hz
theorem FH(h:Bt K c ak keys row)(f:Fm keys row)(hn:n∈keys) : 1+((row n).below.map λb=>(cm keys row b).length).sum<=(cm keys row n).length:=by
 have nd:(n::(row n).below.flatMap (cm keys row)).Nodup:=by
  refine List.nodup_cons.mpr ⟨λz=>?_,sU _ (f.nd n hn) (λb _=>h.nd.sublist List.filter_sublist) λb1 hb1 b2 hb2 ne m hm1 hm2=>?_⟩
  ·obtain⟨b,hb,hz⟩:=List.mem_flatMap.mp z
   obtain⟨hk,e⟩:=f.up n hn b hb;exact FG h hk hn e (p9.mp hz).2
  ·obtain⟨k1,e1⟩:=f.up n hn b1 hb1
   obtain⟨k2,e2⟩:=f.up n hn b2 hb2;rcases(p9.mp hm1).2.lin (p9.mp hm2).2 with u|u
   ·cases u with
    |refl=>exact ne rfl
    |step e u=>rw[e1]at e;cases e;exact FG h k2 hn e2 u
   ·cases u with
    |refl=>exact ne rfl
    |step e u=>rw[e2]at e;cases e;exact FG h k1 hn e1 u
 have:=aK.js _ (cm keys row n) nd λx hx=>by
  rcases zaf hx with rfl|hx
  ·exact p9.mpr ⟨hn,.refl _⟩
  ·obtain⟨b,hb,hz⟩:=List.mem_flatMap.mp hx
   obtain⟨hk,e⟩:=f.up n hn b hb;obtain⟨z1,z2⟩:=p9.mp hz;exact p9.mpr ⟨z1,z2.trans (.step e (.refl _))⟩
 rw[zaw,List.length_flatMap]at this;omega
theorem FI:∀(l:List Str) (i:Nat),(∀(j:Nat) (b:Str),l[j]?=some b->gd (i+j-1)<=w b)->gd (i+l.length)<=gd i+(l.map w).sum
 | [],i,_=>by simp
 |b::l,i,h=>by
  have h0:=h 0 b rfl;have h1:=FI l (i+1) λj x e=>by
   have:=h (j+1) x (by simpa using e)
   rw[show i+1+j-1=i+(j+1)-1 by omega];exact this
  rw[zaw,zaz,List.sum_cons,show i+(l.length+1)=i+1+l.length by omega]
  rw[o4]at h1;simp only[Nat.add_zero]at h0;omega
theorem FJ{w:Str->Nat}:∀l:List Str,b∈l->w b<=(l.map w).sum
 |x::l,h=>by
  rw[zaz,List.sum_cons];rcases zaf h with rfl|h
  ·omega
  ·have:=FJ (w:=w) l h;omega
theorem HG(h:Bt K c ak keys row)(f:Fm keys row):∀(m:Nat) (n:Str),n∈keys->(cm keys row n).length<=m->gd (row n).below.length<=(cm keys row n).length:=by
 intro m
 induction m with
 |zero=>
  intro n hn hm;have:=FH h f hn;omega
 |succ m ih=>
  intro n hn hm;have hs:=FH h f hn;have:=FI (w:=λb=>(cm keys row b).length) (row n).below 0 λj b e=>by
   have hb:=f.up n hn b (zaj e);have hle:(cm keys row b).length<=((row n).below.map λb=>(cm keys row b).length).sum:=FJ (w:=λb=>(cm keys row b).length) _ (zaj e)
   have i1:=ih b hb.1 (by omega)
   have d1:=f.dg n hn j b e;have:=Ji (row b).mark;exact zaX (BO (by omega)) i1
  rw[Nat.zero_add]at this;have:gd 0=1:=rfl;omega
theorem KR(h:Bt K c ak keys row)(f:Fm keys row)(hn:n∈keys):gd (row n).below.length<=keys.length :=
 zaX (HG h f _ n hn (zap _)) (zaY _ _)
theorem Fm.zero(row:Str->aK.Row):Fm [] row:=⟨(λn hn=>by cases hn),(λn hn=>by cases hn),(λn hn=>by cases hn),λn hn=>by cases hn⟩
theorem Fm.new(f:Fm keys row)(ab:∀n∈keys,∀a,(row n).above=some a->a∈keys)(hx:x∉keys)(v:Int):Fm (keys++[x]) (aW row x ⟨v,none,false,[]⟩):=by
 have ne:∀{n:Str},n∈keys->n≠x:=fun{n} hn e=>hx (e▸hn)
 have spl:∀{n:Str},n∈keys++[x]->n≠x->n∈keys:=fun{n} hn e=>(zae hn).resolve_right λz=>e (zad z)
 refine⟨λn hn=>?_,λn hn b hb=>?_,λm hm a e=>?_,λn hn i b e=>?_⟩
 ·by_cases e:n=x
  ·subst e;rw[aM];exact List.nodup_nil
  ·rw[aE _ _ e];exact f.nd n (spl hn e)
 ·by_cases e:n=x
  ·subst e;rw[aM]at hb;cases hb
  ·rw[aE _ _ e]at hb
   obtain⟨h1,h2⟩:=f.up n (spl hn e) b hb;rw[aE _ _ (ne h1)];exact⟨zaW _ h1,h2⟩
 ·by_cases z:m=x
  ·subst z;rw[aM]at e;cases e
  ·rw[aE _ _ z]at e
   rw[aE _ _ (ne (ab m (spl hm z) a e))];exact f.dn m (spl hm z) a e
 ·by_cases z:n=x
  ·subst z;rw[aM]at e;simp at e
  ·rw[aE _ _ z]at e
   have hb:=f.up n (spl hn z) b (zaj e);rw[aE _ _ (ne hb.1)];exact f.dg n (spl hn z) i b e
theorem Fm.hung(f:Fm keys row)(hx:x∈keys)(hy:y∈keys)(ne:y≠x)(tx:(row x).above=none)(ed:(row x).below.length=(row y).below.length):Fm keys (bI row x y):=by
 have kb:∀{n:Str},n≠y->(bI row x y n).below=(row n).below:=fun{n} e=>by
  by_cases z:n=x
  ·subst z;rw[cJ ne]
  ·rw[cK e z]
 have ky:(bI row x y y).below=(row y).below++[x]:=by rw[c8 ne]
 have ka:∀{n:Str},n≠x->(bI row x y n).above=(row n).above:=fun{n} e=>by
  by_cases z:n=y
  ·subst z;rw[c8 ne]
  ·rw[cK z e]
 have kx:(bI row x y x).above=some y:=by rw[cJ ne]
 have km:∀{n:Str},n≠x->(bI row x y n).mark=(row n).mark:=fun{n} e=>by
  by_cases z:n=y
  ·subst z;rw[c8 ne]
  ·rw[cK z e]
 have nb:∀n∈keys,x∉(row n).below:=λn hn z=>by
  rw[(f.up n hn x z).2]at tx;cases tx
 have old:∀n∈keys,∀b∈(row n).below,b∈keys/\(bI row x y b).above=some n:=λn hn b hb=>by
  obtain⟨h1,h2⟩:=f.up n hn b hb;exact⟨h1,by rw[ka λe=>nb n hn (e▸hb)];exact h2⟩
 have dl:∀b:Str,(row b).below.length<=(bI row x y b).below.length:=λb=>by
  by_cases z:b=y
  ·subst z;rw[ky,zau];omega
  ·rw[kb z];exact zap _
 have odg:∀n∈keys,∀(i:Nat) (b:Str),(row n).below[i]?=some b->i<=(bI row x y b).below.length+b1 (bI row x y b).mark:=λn hn i b e=>by
  have h1:=f.dg n hn i b e;have h2:=dl b;rw[km λz=>nb n hn (z▸zaj e)]
  omega
 refine⟨λn hn=>?_,λn hn b hb=>?_,λm hm a e=>?_,λn hn i b e=>?_⟩
 ·by_cases z:n=y
  ·subst z
   rw[ky,List.nodup_append];exact⟨f.nd n hn,by simp,λp hp q hq=>by rw[zad hq];exact λe=>nb n hn (e▸hp)⟩
  ·rw[kb z];exact f.nd n hn
 ·by_cases z:n=y
  ·subst z
   rw[ky]at hb;rcases zae hb with hb|hb
   ·exact old n hn b hb
   ·rw[zad hb];exact⟨hx,kx⟩
  ·rw[kb z]at hb;exact old n hn b hb
 ·by_cases z:m=x
  ·subst z
   rw[kx]at e;cases e
   rw[ky];simp
  ·rw[ka z]at e
   have:=f.dn m hm a e
   by_cases w:a=y
   ·subst w;rw[ky];exact zaW _ this
   ·rw[kb w];exact this
 ·by_cases z:n=y
  ·subst z
   rw[ky]at e
   by_cases l:i<(row n).below.length
   ·rw[zax l]at e;exact odg n hn i b e
   ·rw[zaN (by omega)]at e
    cases q:i-(row n).below.length with
    |zero=>
     rw[q]at e;simp at e;subst e;rw[kb λw=>ne w.symm]
     omega
    |succ k=>rw[q]at e;simp at e
  ·rw[kb z]at e;exact odg n hn i b e
structure FmX(keys:List Str)(row:Str->aK.Row)(x:Str):Prop where
 nd:∀n∈keys,(row n).below.Nodup
 up:∀n∈keys,∀b∈(row n).below,b∈keys/\(row b).above=some n
 dn:∀m∈keys,∀a,(row m).above=some a->m∈(row a).below
 dg:∀n∈keys,∀(i:Nat) (b:Str),(row n).below[i]?=some b->b≠x->i<=(row b).below.length+b1 (row b).mark
theorem Fm.x(f:Fm keys row)(x:Str):FmX keys row x:=⟨f.nd,f.up,f.dn,λn hn i b e _=>f.dg n hn i b e⟩
theorem yM:∀l:List Str,l.Nodup->n∈l->(l.filter λx=>!decide (x=n)).length+1=l.length
 |y::l,nd,h=>by
  obtain⟨n1,n2⟩:=List.nodup_cons.mp nd;rw[List.filter_cons]
  by_cases e:y=n
  ·subst e
   rw[if_neg (by simp),zaw,List.filter_eq_self.mpr λx hx=>by
    have:x≠y:=λe=>n1 (e▸hx)
    simpa using this]
  ·rw[if_pos (by simpa using e),zaw,zaw,yM l n2 ((zaf h).resolve_left λz=>e z.symm)]
theorem wV:∀(l:List Str) (i:Nat) (b:Str),(l.filter p)[i]?=some b->∃j,i<=j/\l[j]?=some b
 | [],i,b,h=>by simp at h
 |y::l,i,b,h=>by
  rw[List.filter_cons]at h;split at h
  ·cases i with
   |zero=>exact⟨0,zap _,by simpa using h⟩
   |succ i=>
    obtain⟨j,h1,h2⟩:=wV l i b (by simpa using h)
    exact⟨j+1,by omega,by simpa using h2⟩
  ·obtain⟨j,h1,h2⟩:=wV l i b h
   exact⟨j+1,by omega,by simpa using h2⟩
theorem FmX.cut(f:FmX keys row n)(sa:∀m∈keys,(row m).above≠some m)(hn:n∈keys)(hk:a∈keys)(ha:(row n).above=some a)(ne:a≠n):FmX keys (c9 row n a) a/\((row a).mark=false->Fm keys (c9 row n a)):=by
 have ca:∀{m:Str},m≠n->(c9 row n a m).above=(row m).above:=fun{m} e=>by rw[eZ,if_neg e]
 have ba:(c9 row n a a).below=(row a).below.filter λx=>!decide (x=n):=by
  unfold c9 bE;rw[aM,aE _ _ ne]
 have bo:∀{m:Str},m≠a->(c9 row n a m).below=(row m).below:=fun{m} e=>by
  unfold c9 bE;rw[aE _ _ e]
  by_cases z:m=n
  ·subst z;rw[aM]
  ·rw[aE _ _ z]
 have sub:∀{m b:Str},m∈keys->b∈(c9 row n a m).below->b∈(row m).below/\b≠n:=fun{m b} hm hb=>by
  by_cases e:m=a
  ·subst e
   rw[ba]at hb;obtain⟨h1,h2⟩:=List.mem_filter.mp hb;exact⟨h1,by simpa using h2⟩
  ·rw[bo e]at hb
   refine⟨hb,λz=>?_⟩
   subst z;rw[(f.up m hm b hb).2]at ha;cases ha;exact e rfl
 have dl:=yM (n:=n) (row a).below (f.nd a hk) (f.dn n hn a ha);have o:FmX keys (c9 row n a) a:=by
  refine⟨λm hm=>?_,λm hm b hb=>?_,λm hm x e=>?_,λm hm i b e nb=>?_⟩
  ·by_cases e:m=a
   ·subst e;rw[ba];exact(f.nd m hm).sublist List.filter_sublist
   ·rw[bo e];exact f.nd m hm
  ·obtain⟨h1,h2⟩:=sub hm hb
   rw[ca h2];exact f.up m hm b h1
  ·by_cases z:m=n
   ·subst z;rw[eZ,if_pos rfl]at e;cases e
   ·rw[ca z]at e
    have:=f.dn m hm x e
    by_cases w:x=a
    ·subst w;rw[ba];exact List.mem_filter.mpr ⟨this,by simpa using z⟩
    ·rw[bo w];exact this
  ·have hb:=(sub hm (zaj e)).2
   have key:∀j,i<=j->(row m).below[j]?=some b->i<=(c9 row n a b).below.length+b1 (c9 row n a b).mark:=λj hj ej=>by
    have:=f.dg m hm j b ej hb;rw[bo nb,uW hb nb];omega
   by_cases z:m=a
   ·subst z
    rw[ba]at e;obtain⟨j,h1,h2⟩:=wV _ i b e;exact key j h1 h2
   ·rw[bo z]at e;exact key i (zap _) e
 refine⟨o,λhm=>⟨o.nd,o.up,o.dn,λm hmk i b e=>?_⟩⟩
 by_cases nb:b=a
 ·subst nb
  have hu:=o.up m hmk b (zaj e);have hs:(c9 row n b b).mark=true:=by
   unfold c9;rw[aM];show(bE row n b).above.isSome=true;rw[lh,if_neg ne,<-ca ne,hu.2];rfl
  have mb:m≠b:=λz=>by
   subst z;exact sa m hmk (f.up m hmk m (sub hmk (zaj e)).1).2
  rw[bo mb]at e;have:=f.dg m hmk i b e (λz=>ne z)
  rw[ba,hs];rw[hm]at this;have h1:b1 true=1:=rfl;have h0:b1 false=0:=rfl;omega
 ·exact o.dg m hmk i b e nb
theorem Fm.cuts:∀(C ak:List Str) (row:Str->aK.Row) (n L:Str),Bt K c ak keys row->n∈keys->FmX keys row n->Ch row n C L->Fm keys (cuts C row):=by
 intro C
 induction C with
 |nil=>intro ak row n L _ _ _ hch;cases hch
 |cons x C ih=>
  intro ak row n L h hn f hch;have sa:∀m∈keys,(row m).above≠some m:=λm hm e=>h.neA hm e rfl
  cases hch with
  |one ha hm=>
   rw[gp ha];exact(f.cut sa hn (h.ab x hn _ ha) ha (h.neA hn ha)).2 hm
  |more ha hm hch=>
   rename_i a
   have hka:=h.ab x hn a ha;rw[gp ha];exact ih (ak++[x]) (c9 row x a) a L (h.cut hn ha) hka (f.cut sa hn hka ha (h.neA hn ha)).1 (Ch.cut h hn ha hch)
end
theorem iw(f:Option Str):mi (bg f) .none=some (.bool f.isSome,false):=by cases f<;>rfl
theorem yN(f:Option Str):gIs (bg f) .none=some (.bool f.isNone,false):=by cases f<;>rfl
theorem kI(l:List Str)(x:Str):l.map PyData.str++[.str x]=(l++[x]).map .str:=by rw[za1];rfl
theorem wW{l:List D}(h1:sv a ρ=some ((.tuple l,k),ρ1)):xN a ρ=some (l,ρ1):=by
 unfold xN;rw[h1];rfl
theorem yO(hc:c<=200){K:Str->Int}(h:Bt K c ak keys row)(hn:name∈keys)(ha:(row name).above=some a){sts:List D}(hs:sts.length<=1000){s5 s6 s7 s8 s9 s10:Sl}(n5:NIo s5)(n6:NIo s6)(n7:NIo s7)(n8:NIo s8)(n9:NIo s9)(n10:NIo s10) :
  mD [.io (TD ak),.io (HD keys row),.fz (.str name),.own (.list sts),.fz (.bool true),s5,s6,s7,s8,s9,s10]=some (.nx [.io (TD (ak++[name])),.io (HD keys (c9 row name a)),.fz (.str a),.own (.list (sts++[.tuple [.str "cut",.str name]])),.fz (.bool (bE row name a).mark),.fz (.int (bE row name a).key),.fz (.str a),.fz (.bool (row name).mark),.fz (.tuple (((bE row name a).below.filter λx=>!decide (x=name)).map .str)),.fz (bg (bE row name a).above),.fz (.bool (bE row name a).mark)]):=by
 have hka:=h.ab name hn a ha;have kl:=h.kl;have tl:=h.tl;have okn:=h.ok hn;refine aX (ρ1:=[.io (TD ak),.io (HD keys row),.fz (.str name),.own (.list sts),.fz (.bool true),.fz (.int (row name).key),.fz (.str a),.fz (.bool (row name).mark),.fz (.tuple ((row name).below.map .str)),s9,s10]) (rm (cy (.inr (.inr rfl)) hn (ar rfl)) ?_) ?_
 ·show(mgN 5 (.int (row name).key) _).bind (fun ρ1=>(mgN 6 (bg (row name).above) ρ1).bind fun ρ2=>(mgN 7 (.bool (row name).mark) ρ2).bind fun ρ3=>(mgN 8 (.tuple ((row name).below.map .str)) ρ3).bind fun ρ4=>some ρ4)=_
  rw[gK (s:=s5) rfl n5,zai,gK (s:=s6) rfl n6,zai,gK (s:=s7) rfl n7,zai,gK (s:=s8) rfl n8,zai,ha];rfl
 refine aX (ρ1:=[.io (TD ak),.io (HD keys (bE row name)),.fz (.str name),.own (.list sts),.fz (.bool true),.fz (.int (row name).key),.fz (.str a),.fz (.bool (row name).mark),.fz (.tuple ((row name).below.map .str)),s9,s10]) ((jJ (i:=1) (r:=⟨(row name).key,none,false,(row name).below⟩) (dN (rs:=[(.int (row name).key,.fz),(.none,.fz),(.bool false,.fz),(.tuple ((row name).below.map .str),.fz)]) rfl rfl (by simp)) (ar rfl) rfl (.inr rfl) (by omega)).trans (by rw[fv hn];rfl)) ?_
 refine aX (ρ1:=[.io (TD (ak++[name])),.io (HD keys (bE row name)),.fz (.str name),.own (.list sts),.fz (.bool true),.fz (.int (row name).key),.fz (.str a),.fz (.bool (row name).mark),.fz (.tuple ((row name).below.map .str)),s9,s10]) (iS (pX (rs:=[(.str name,.fz)]) rfl rfl rfl rfl (sS _ (by rw[zal];omega)) (by rw[kI];rfl))) ?_
 refine aX (ρ1:=[.io (TD (ak++[name])),.io (HD keys (bE row name)),.fz (.str name),.own (.list (sts++[.tuple [.str "cut",.str name]])),.fz (.bool true),.fz (.int (row name).key),.fz (.str a),.fz (.bool (row name).mark),.fz (.tuple ((row name).below.map .str)),s9,s10]) (iS (pX (rs:=[(.tuple [.str "cut",.str name],.fz)]) rfl (ay (ao (dN (rs:=[(.str "cut",.fz),(.str name,.fz)]) rfl rfl (by simp))) aT) rfl rfl (sS _ (by omega)) rfl)) ?_
 refine aX (ρ1:=[.io (TD (ak++[name])),.io (HD keys (bE row name)),.fz (.str name),.own (.list (sts++[.tuple [.str "cut",.str name]])),.fz (.bool true),.fz (.int (bE row name a).key),.fz (.str a),.fz (.bool (row name).mark),.fz (.tuple ((bE row name a).below.map .str)),.fz (bg (bE row name a).above),.fz (.bool (bE row name a).mark)]) (rm (cy (.inr (.inr rfl)) hka (ar rfl)) ?_) ?_
 ·show(some ([.io (TD (ak++[name])),.io (HD keys (bE row name)),.fz (.str name),.own (.list (sts++[.tuple [.str "cut",.str name]])),.fz (.bool true),.fz (.int (bE row name a).key),.fz (.str a),.fz (.bool (row name).mark),.fz (.tuple ((row name).below.map .str)),s9,s10]:Rho)).bind (fun ρ1=>(mgN 9 (bg (bE row name a).above) ρ1).bind fun ρ2=>(mgN 10 (.bool (bE row name a).mark) ρ2).bind fun ρ3=>(mgN 8 (.tuple ((bE row name a).below.map .str)) ρ3).bind fun ρ4=>some ρ4)=_
  rw[zai,gK (s:=s9) rfl n9,zai,gK (s:=s10) rfl n10,zai];rfl
 have bk:∀b∈(bE row name a).below,b∈keys:=λb hb=>by
  have e:(bE row name a).below=(row a).below:=by
   unfold bE aW;split
   ·rename_i e;rw[e]
   ·rfl
  rw[e]at hb;exact(h.bl a hka).2 b hb
 have bl:(bE row name a).below.length<=1000:=by
  have e:(bE row name a).below=(row a).below:=by
   unfold bE aW;split
   ·rename_i e;rw[e]
   ·rfl
  rw[e];have:=(h.bl a hka).1;omega
 refine aX (ρ1:=[.io (TD (ak++[name])),.io (HD keys (bE row name)),.fz (.str name),.own (.list (sts++[.tuple [.str "cut",.str name]])),.fz (.bool true),.fz (.int (bE row name a).key),.fz (.str a),.fz (.bool (row name).mark),.fz (.tuple (((bE row name a).below.filter λx=>!decide (x=name)).map .str)),.fz (bg (bE row name a).above),.fz (.bool (bE row name a).mark)]) (dw (eS (rs:=[(.list (((bE row name a).below.filter λx=>!decide (x=name)).map .str),.fz)]) (res:=(.tuple (((bE row name a).below.filter λx=>!decide (x=name)).map .str),true)) (ay (jm (uG (wW (ao (ar rfl))) (fw (p:=λx=>!decide (x=name)) _ (λx hx=>⟨_,test_ev (k:=.fz) (bC (r:=(.str name,.fz)) (res:=(.bool (!decide (x=name)),false)) (ao (ar rfl)) (ao (ar rfl)) (rn (h.ok (bk x hx)) okn))⟩) λx hx=>⟨_,ao (ar rfl)⟩) (by rw[zal];exact zaX (zaY _ _) (by omega)))) aT) rfl) rfl) ?_
 refine aX (ρ1:=[.io (TD (ak++[name])),.io (HD keys (c9 row name a)),.fz (.str name),.own (.list (sts++[.tuple [.str "cut",.str name]])),.fz (.bool true),.fz (.int (bE row name a).key),.fz (.str a),.fz (.bool (row name).mark),.fz (.tuple (((bE row name a).below.filter λx=>!decide (x=name)).map .str)),.fz (bg (bE row name a).above),.fz (.bool (bE row name a).mark)]) ((jJ (i:=1) (r:=⟨(bE row name a).key,(bE row name a).above,(bE row name a).above.isSome,(bE row name a).below.filter λx=>!decide (x=name)⟩) (dN (rs:=[(.int (bE row name a).key,.fz),(bg (bE row name a).above,.fz),(.bool (bE row name a).above.isSome,.fz),(.tuple (((bE row name a).below.filter λx=>!decide (x=name)).map .str),.fz)]) (ay (ao (ar rfl)) (ay (ao (ar rfl)) (ay (ao (bC (r:=(.none,.fz)) (res:=(.bool (bE row name a).above.isSome,false)) (ao (ar rfl)) (ao rfl) (iw _))) (ay (ao (ar rfl)) aT)))) rfl (by simp)) (ar rfl) rfl (.inr rfl) (by omega)).trans (by rw[fv hka];rfl)) ?_
 exact aX (ρ1:=[.io (TD (ak++[name])),.io (HD keys (c9 row name a)),.fz (.str name),.own (.list (sts++[.tuple [.str "cut",.str name]])),.fz (.bool (bE row name a).mark),.fz (.int (bE row name a).key),.fz (.str a),.fz (.bool (row name).mark),.fz (.tuple (((bE row name a).below.filter λx=>!decide (x=name)).map .str)),.fz (bg (bE row name a).above),.fz (.bool (bE row name a).mark)]) (dw (ar rfl) rfl) (dw (ar rfl) rfl)
theorem C7(hc:c<=200):∀(C:List Str) (ak:List Str) (row:Str->aK.Row) (name L:Str) (sts:List D) (s5 s6 s7 s8 s9 s10:Sl) (fuel:Nat),NIo s5->NIo s6->NIo s7->NIo s8->NIo s9->NIo s10->Ch row name C L->Bt K c ak keys row->name∈keys->sts.length+C.length<=1000->C.length<fuel->
  ∃n' tl,fH qF mD fuel [.io (TD ak),.io (HD keys row),.fz (.str name),.own (.list sts),.fz (.bool true),s5,s6,s7,s8,s9,s10]=some (.nx (.io (TD (ak++C))::.io (HD keys (cuts C row))::.fz n'::.own (.list (sts++C.map stp))::tl))/\Bt K c (ak++C) keys (cuts C row):=by
 intro C
 induction C with
 |nil=>intro ak row name L sts s5 s6 s7 s8 s9 s10 fuel _ _ _ _ _ _ hch;cases hch
 |cons x C ih=>
  intro ak row name L sts s5 s6 s7 s8 s9 s10 fuel n5 n6 n7 n8 n9 n10 hch h hn hs hf;rw[zaw]at hs hf;obtain⟨fuel,rfl⟩:∃k,fuel=k+1:=⟨fuel-1,by omega⟩
  cases hch with
  |one ha hm=>
   obtain⟨fuel,rfl⟩:∃k,fuel=k+1:=⟨fuel-1,by omega⟩
   have ne:=h.neA hn ha;rw[gp ha];exact⟨_,_,oI (test_ev (k:=.fz) (ar rfl)) (yO hc h hn ha (by omega) n5 n6 n7 n8 n9 n10) (i6 (test_ev (k:=.fz) (by rw[pZ ne,hm];exact ar rfl))),h.cut hn ha⟩
  |more ha hm hch=>
   rename_i a
   have ne:=h.neA hn ha;rw[gp ha];obtain⟨n',tl,h1,h2⟩:=ih (ak++[x]) (c9 row x a) a L (sts++[.tuple [.str "cut",.str x]]) (.fz (.int (bE row x a).key)) (.fz (.str a)) (.fz (.bool (row x).mark)) (.fz (.tuple (((bE row x a).below.filter λy=>!decide (y=x)).map .str))) (.fz (bg (bE row x a).above)) (.fz (.bool (bE row x a).mark)) fuel (NIo.fz _) (NIo.fz _) (NIo.fz _) (NIo.fz _) (NIo.fz _) (NIo.fz _) (Ch.cut h hn ha hch) (h.cut hn ha) (h.ab x hn a ha) (by rw[zau,za7];omega) (by omega)
   refine⟨n',tl,oI (test_ev (k:=.fz) (ar rfl)) (yO hc h hn ha (by omega) n5 n6 n7 n8 n9 n10) ?_,?_⟩
   ·rw[pZ ne,hm]at h1⊢
    rw[h1,zaD,zaD];rfl
   ·rw[zaD]at h2;exact h2
theorem Jj(hc:c<=200)(h:Bt K c ak keys row)(hn:name∈keys)(hch:Ch row name C L)(hl:C.length<=200):fo [TD ak,HD keys row,.str name]=some ((.list (C.map stp),true),TD (ak++C),HD keys (cuts C row))/\Bt K c (ak++C) keys (cuts C row):=by
 obtain⟨n',tl,h1,h2⟩:=C7 hc C ak row name L [] .no .no .no .no .no .no 1000000 NIo.no NIo.no NIo.no NIo.no NIo.no NIo.no hch h hn (by simp;omega) (by omega)
 refine⟨?_,h2⟩;have ea:(row name).above.isSome=true:=by cases hch with|one ha _=>rw[ha];rfl|more ha _ _=>rw[ha];rfl
 refine wQ (o:=.rt (.list (C.map stp),.at 3) (.io (TD (ak++C))::.io (HD keys (cuts C row))::.fz n'::.own (.list (C.map stp))::tl)) rfl ?_ rfl rfl;refine aX (ρ1:=[.io (TD ak),.io (HD keys row),.fz (.str name),.own (.list []),.no,.no,.no,.no,.no,.no,.no]) (eK (fK (rs:=[]) rfl rfl (by simp)) rfl) ?_
 refine aX (ρ1:=[.io (TD ak),.io (HD keys row),.fz (.str name),.own (.list []),.fz (.bool true),.no,.no,.no,.no,.no,.no]) (dw (bC (r:=(.none,.fz)) (res:=(.bool true,false)) (ao (eD (cy (.inr (.inr rfl)) hn (ar rfl)))) (ao rfl) (by rw[iw,ea])) rfl) ?_
 rw[List.nil_append]at h1;exact aX h1 (du (hU rfl))
theorem KS(hc:c<=200)(h:Bt K c ak keys row)(hF:Fm keys row)(hn:name∈keys):∃e9 aQ sts,fo [TD ak,HD keys row,.str name]=some ((.list sts,true),TD e9,HD keys aQ)/\Bt K c e9 keys aQ/\(∀n,(aQ n).key=(row n).key)/\Fm keys aQ:=by
 cases ea:(row name).above with
 |some a=>
  obtain⟨C,L,h1,h2⟩:=Jg h hn (by rw[ea];simp)
  obtain⟨h3,h4⟩:=Jj hc h hn h1 (by omega)
  exact⟨_,_,_,h3,h4,oZ C row,Fm.cuts C ak row name L h hn (hF.x name) h1⟩
 |none=>
  refine⟨ak,row,[],?_,h,λ_=>rfl,hF⟩
  refine wQ (o:=.rt (.list [],.at 3) [.io (TD ak),.io (HD keys row),.fz (.str name),.own (.list []),.fz (.bool false),.no,.no,.no,.no,.no,.no]) rfl ?_ rfl rfl;refine aX (ρ1:=[.io (TD ak),.io (HD keys row),.fz (.str name),.own (.list []),.no,.no,.no,.no,.no,.no,.no]) (eK (fK (rs:=[]) rfl rfl (by simp)) rfl) ?_
  refine aX (ρ1:=[.io (TD ak),.io (HD keys row),.fz (.str name),.own (.list []),.fz (.bool false),.no,.no,.no,.no,.no,.no]) (dw (bC (r:=(.none,.fz)) (res:=(.bool false,false)) (ao (eD (cy (.inr (.inr rfl)) hn (ar rfl)))) (ao rfl) (by rw[iw,ea];rfl)) rfl) ?_
  exact aX (i6 (n:=999999) (test_ev (k:=.fz) (ar rfl))) (du (hU rfl))
abbrev bst(cs:D)(T H:D)(k cell:Int)(s6 s7 s8 s9:Sl):Rho:=[.fz cs,.fz (.int 0),.own T,.own H,.fz (.int k),.fz (.int cell),s6,s7,s8,s9]
theorem z8(hc:c<100)(h:Bk c ak keys row)(hF:Fm keys row)(cs:D)(cell:Int)(n6:NIo s6)(n7:NIo s7)(n8:NIo s8)(n9:NIo s9) :
  ∃e9 keys' aQ t6 t7 t8 t9,hX (bst cs (TD ak) (HD keys row) (c:Int) cell s6 s7 s8 s9)=some (.nx (bst cs (TD e9) (HD keys' aQ) (c:Int) cell t6 t7 t8 t9))/\Bk (c+1) e9 keys' aQ/\Fm keys' aQ/\NIo t6/\NIo t7/\NIo t8/\NIo t9:=by
 have kl:=h.kl;have tl:=h.tl;obtain⟨L,hL,hL2⟩:=HC (row:=row) (λt ht=>(h.tk t ht).1) (by omega) (cell/5%97)
 have okL:∀x∈L,PyData.strOk x=true:=λx hx=>by
  rcases hL2 with rfl|⟨a,b,i,j,rfl,_,g1,g2,_⟩
  ·cases hx
  ·have:x=a\/x=b:=by simpa using hx
   rcases this with rfl|rfl
   ·exact h.ok (h.tk x (zaj g1)).1
   ·exact h.ok (h.tk x (zaj g2)).1
 have hd:∀o,iD (pA (aO (mOp gEq (mOp d5 (ai 5) (mC (.int 5))) (mC (.int 4)))) (aO (mOp gGt (mCB cX (aj (ai 8) aI)) (mC (.int 0)))))
   (gk (kZ 2 3 fo (aj (mOp gIx (ai 8) (mOp d5 (ai 6) (mCB cX (aj (ai 8) aI)))) aI)))
   (iD (pA (aO (mOp gGt (mOp d5 (ai 5) (mC (.int 5))) (mC (.int 0)))) (aO (mOp gNe (ai 7) (f6 aI))))
   (cg (iD (aO (b4 dE (aj (ai 3) (aj (mOp gIx (ai 7) (mC (.int 0))) (aj (mOp gIx (ai 7) (mC (.int 1))) aI)))))
   (gk (uC 7 oH))
   gT)
   (gk (kZ 2 3 eW (aj (mOp gIx (ai 7) (mC (.int 0))) (aj (mOp gIx (ai 7) (mC (.int 1))) aI)))))
   (cg (dM 9 (b4 cS (aj (mOp gr (ai 1) (ai 4)) aI)))
   (cg (lU 3 (gB (aj (b4 dF (aj (ai 6) aI)) (aj (mC .none) (aj (mC (.bool false)) (aj (gB aI) aI))))) (ai 9))
   (gk (rP 2 hI (aj (ai 9) aI)))))) (bst cs (TD ak) (HD keys row) (c:Int) cell (.fz (.int (cell/5))) (.own (TD L)) (.own (TD keys)) s9)=some o->hX (bst cs (TD ak) (HD keys row) (c:Int) cell s6 s7 s8 s9)=some o:=λo ho=>by
  refine aX (ρ1:=bst cs (TD ak) (HD keys row) (c:Int) cell (.fz (.int (cell/5))) s7 s8 s9) (dw (rX (cD rfl) c7 ⟨by decide,by decide⟩) (iY (s:=s6) _ rfl n6)) ?_
  refine aX (ρ1:=bst cs (TD ak) (HD keys row) (c:Int) cell (.fz (.int (cell/5))) (.own (TD L)) s8 s9) (eK (cQ (rs:=[(TD ak,.at 2),(HD keys row,.at 3),(.int (cell/5%97),.fz)]) (q0 (rW (hU rfl)) (q0 (rW (hU rfl)) (ik (fL (cD rfl) c7 (by decide)) aT) rfl) rfl) hL (i8 L)) (iY (s:=s7) _ rfl n7)) ?_
  exact aX (ρ1:=bst cs (TD ak) (HD keys row) (c:Int) cell (.fz (.int (cell/5))) (.own (TD L)) (.own (TD keys)) s9) (eK (yL (.inr (.inl rfl))) (iY (s:=s8) _ rfl n8)) ho
 have em:IE (mOp d5 (ai 5) (mC (.int 5))) (bst cs (TD ak) (HD keys row) (c:Int) cell (.fz (.int (cell/5))) (.own (TD L)) (.own (TD keys)) s9) (cell%5):=fL (cD rfl) c7 (by decide)
 have el:IE (mCB cX (aj (ai 8) aI)) (bst cs (TD ak) (HD keys row) (c:Int) cell (.fz (.int (cell/5))) (.own (TD L)) (.own (TD keys)) s9) (keys.length:Int):=rA (.inr (.inl rfl))
 by_cases c1:cell%5=4/\0<keys.length
 ·obtain⟨n,hn,en⟩:=HF (ρ:=bst cs (TD ak) (HD keys row) (c:Int) cell (.fz (.int (cell/5))) (.own (TD L)) (.own (TD keys)) s9) (i:=8) (l:=keys) (.inr (.inl rfl)) c1.2 (a:=ai 6) (cD rfl)
  obtain⟨e9,aQ,sts,h1,h2,h2k,h2f⟩:=KS (by omega:c<=200) h hF hn
  refine⟨e9,keys,aQ,_,_,_,_,hd _ (xZ (AZ (tEq em c7 c1.1) (jn (rY el c7) (zaH (by omega)))) (iS (yJ (r:=(.list sts,.new)) (ρ3:=bst cs (TD e9) (HD keys aQ) (c:Int) cell (.fz (.int (cell/5))) (.own (TD L)) (.own (TD keys)) s9) (by decide) rfl rfl (ay (ao en) aT) rfl rfl rfl h1 rfl))),(h2.re λn _=>(h2k n).symm).more (Nat.le_succ c),h2f,NIo.fz _,NIo.own _,NIo.own _,n9⟩
 ·have t1:pA (aO (mOp gEq (mOp d5 (ai 5) (mC (.int 5))) (mC (.int 4)))) (aO (mOp gGt (mCB cX (aj (ai 8) aI)) (mC (.int 0)))) (bst cs (TD ak) (HD keys row) (c:Int) cell (.fz (.int (cell/5))) (.own (TD L)) (.own (TD keys)) s9)=some (false,bst cs (TD ak) (HD keys row) (c:Int) cell (.fz (.int (cell/5))) (.own (TD L)) (.own (TD keys)) s9):=by
   by_cases e:cell%5=4
   ·exact AZ (tEq em c7 e) (jn (rY el c7) (zaO (by omega)))
   ·exact IF (tNe em c7 e)
  have enw:mOp gNe (ai 7) (f6 aI) (bst cs (TD ak) (HD keys row) (c:Int) cell (.fz (.int (cell/5))) (.own (TD L)) (.own (TD keys)) s9)=some ((.bool (!L.isEmpty),.fz),bst cs (TD ak) (HD keys row) (c:Int) cell (.fz (.int (cell/5))) (.own (TD L)) (.own (TD keys)) s9):=sQ (r:=(.list [],.fz)) (res:=(.bool (!L.isEmpty),false)) (.inr (.inl rfl)) (jm (fK (rs:=[]) rfl rfl (by simp))) (BN okL)
  by_cases c2 : 0<cell%5/\L≠[]
  ·obtain⟨a,b,i,j,rfl,ne,g1,g2,ed⟩:=hL2.resolve_left c2.2
   have ma:=zaj g1;have mb:=zaj g2;have ka:=(h.tk a ma).1;have kb:=(h.tk b mb).1;have nab:a≠b:=λe=>by
    subst e;obtain⟨hi,e1⟩:=zac g1;obtain⟨hj,e2⟩:=zac g2;have pw:=List.pairwise_iff_getElem.mp h.tn;rcases Nat.lt_or_gt_of_ne ne with q|q
    ·exact pw i j hi hj q (e1.trans e2.symm)
    ·exact pw j i hj hi q (e2.trans e1.symm)
   have fin:∀x y:Str,x∈ak->y∈ak->y≠x->gk (kZ 2 3 eW (aj (mOp gIx (ai 7) (mC (.int 0))) (aj (mOp gIx (ai 7) (mC (.int 1))) aI))) (bst cs (TD ak) (HD keys row) (c:Int) cell (.fz (.int (cell/5))) (.own (TD [x,y])) (.own (TD keys)) s9)=some (.nx (bst cs (TD (ak.erase x)) (HD keys (bI row x y)) (c:Int) cell (.fz (.int (cell/5))) (.own (TD [x,y])) (.own (TD keys)) s9)):=λx y hx hy hne=>by
    have i0:mOp gIx (ai 7) (mC (.int 0)) (bst cs (TD ak) (HD keys row) (c:Int) cell (.fz (.int (cell/5))) (.own (TD [x,y])) (.own (TD keys)) s9)=some ((.str x,.fz),bst cs (TD ak) (HD keys row) (c:Int) cell (.fz (.int (cell/5))) (.own (TD [x,y])) (.own (TD keys)) s9):=sQ (r:=(.int 0,.fz)) (res:=(.str x,false)) (.inr (.inl rfl)) (ao rfl) rfl;have i1:mOp gIx (ai 7) (mC (.int 1)) (bst cs (TD ak) (HD keys row) (c:Int) cell (.fz (.int (cell/5))) (.own (TD [x,y])) (.own (TD keys)) s9)=some ((.str y,.fz),bst cs (TD ak) (HD keys row) (c:Int) cell (.fz (.int (cell/5))) (.own (TD [x,y])) (.own (TD keys)) s9):=sQ (r:=(.int 1,.fz)) (res:=(.str y,false)) (.inr (.inl rfl)) (ao rfl) rfl;exact iS (yJ (r:=(.none,.fz)) (by decide) rfl rfl (ay (ao i0) (ay (ao i1) aT)) rfl rfl rfl (BK (h.tk x hx).1 (h.tk y hy).1 hx (by omega) λn hn=>by have:=(h.bl n hn).1;omega) rfl)
   have i0:mOp gIx (ai 7) (mC (.int 0)) (bst cs (TD ak) (HD keys row) (c:Int) cell (.fz (.int (cell/5))) (.own (TD [a,b])) (.own (TD keys)) s9)=some ((.str a,.fz),bst cs (TD ak) (HD keys row) (c:Int) cell (.fz (.int (cell/5))) (.own (TD [a,b])) (.own (TD keys)) s9):=sQ (r:=(.int 0,.fz)) (res:=(.str a,false)) (.inr (.inl rfl)) (ao rfl) rfl;have i1:mOp gIx (ai 7) (mC (.int 1)) (bst cs (TD ak) (HD keys row) (c:Int) cell (.fz (.int (cell/5))) (.own (TD [a,b])) (.own (TD keys)) s9)=some ((.str b,.fz),bst cs (TD ak) (HD keys row) (c:Int) cell (.fz (.int (cell/5))) (.own (TD [a,b])) (.own (TD keys)) s9):=sQ (r:=(.int 1,.fz)) (res:=(.str b,false)) (.inr (.inl rfl)) (ao rfl) rfl;have tb:aO (b4 dE (aj (ai 3) (aj (mOp gIx (ai 7) (mC (.int 0))) (aj (mOp gIx (ai 7) (mC (.int 1))) aI)))) (bst cs (TD ak) (HD keys row) (c:Int) cell (.fz (.int (cell/5))) (.own (TD [a,b])) (.own (TD keys)) s9)=some (bU (row a).key a (row b).key b,bst cs (TD ak) (HD keys row) (c:Int) cell (.fz (.int (cell/5))) (.own (TD [a,b])) (.own (TD keys)) s9):=(kY (rs:=[(HD keys row,.at 3),(.str a,.fz),(.str b,.fz)]) (q0 (rW (hU rfl)) (ay (ao i0) (ay (ao i1) aT)) rfl) (uS keys row a b ka kb)).t;have t2:pA (aO (mOp gGt (mOp d5 (ai 5) (mC (.int 5))) (mC (.int 0)))) (aO (mOp gNe (ai 7) (f6 aI))) (bst cs (TD ak) (HD keys row) (c:Int) cell (.fz (.int (cell/5))) (.own (TD [a,b])) (.own (TD keys)) s9)=some (true,bst cs (TD ak) (HD keys row) (c:Int) cell (.fz (.int (cell/5))) (.own (TD [a,b])) (.own (TD keys)) s9):=AZ (jn (rY em c7) (zaH c2.1)) (test_ev (k:=.fz) enw);cases eb:bU (row a).key a (row b).key b with
   |true=>
    rw[eb]at tb;exact⟨ak.erase b,keys,bI row b a,_,_,_,_,hd _ (kX t1 (xZ t2 (aX (ρ1:=bst cs (TD ak) (HD keys row) (c:Int) cell (.fz (.int (cell/5))) (.own (TD [b,a])) (.own (TD keys)) s9) (xZ tb (iS (HE rfl rfl rfl))) (fin b a mb ma nab)))),(h.hung mb ma nab eb).re λn _=>(mQ nab n).symm,hF.hung kb ka nab (h.tk b mb).2 ed.symm,NIo.fz _,NIo.own _,NIo.own _,n9⟩
   |false=>
    rw[eb]at tb;exact⟨ak.erase a,keys,bI row a b,_,_,_,_,hd _ (kX t1 (xZ t2 (aX (ρ1:=bst cs (TD ak) (HD keys row) (c:Int) cell (.fz (.int (cell/5))) (.own (TD [a,b])) (.own (TD keys)) s9) (kX tb rfl) (fin a b ma mb λz=>nab z.symm)))),(h.hung ma mb (λz=>nab z.symm) (yK nab eb)).re λn _=>(mQ (λz=>nab z.symm) n).symm,hF.hung ka kb (λz=>nab z.symm) (h.tk a ma).2 ed,NIo.fz _,NIo.own _,NIo.own _,n9⟩
  ·have t2:pA (aO (mOp gGt (mOp d5 (ai 5) (mC (.int 5))) (mC (.int 0)))) (aO (mOp gNe (ai 7) (f6 aI))) (bst cs (TD ak) (HD keys row) (c:Int) cell (.fz (.int (cell/5))) (.own (TD L)) (.own (TD keys)) s9)=some (false,bst cs (TD ak) (HD keys row) (c:Int) cell (.fz (.int (cell/5))) (.own (TD L)) (.own (TD keys)) s9):=by
    by_cases e : 0<cell%5
    ·have:L=[]:=Classical.byContradiction λz=>c2 ⟨e,z⟩
     subst this;exact AZ (jn (rY em c7) (zaH e)) (test_ev (k:=.fz) enw)
    ·exact IF (jn (rY em c7) (zaO e))
   obtain⟨v,hv⟩:=key_is (cell/5);obtain⟨hnk,hB⟩:=Bk.new (by omega:c<130) h v
   have ea:IE (mOp gr (ai 1) (ai 4)) (bst cs (TD ak) (HD keys row) (c:Int) cell (.fz (.int (cell/5))) (.own (TD L)) (.own (TD keys)) s9) (c:Int):=(jV (cD rfl) (cD rfl)).is (by omega)
   refine⟨_,_,_,_,_,_,_,hd _ (kX t1 (kX t2 ?_)),hB,hF.new h.ab hnk v,NIo.fz (.int (cell/5)),NIo.own (TD L),NIo.own (TD keys),NIo.fz (.str (aC c))⟩;refine aX (ρ1:=bst cs (TD ak) (HD keys row) (c:Int) cell (.fz (.int (cell/5))) (.own (TD L)) (.own (TD keys)) (.fz (.str (aC c)))) (dw (cQ (rs:=[(.int (c:Int),.fz)]) (ik ea aT) (wO c) rfl) (iY (s:=s9) _ rfl n9)) ?_;refine aX (ρ1:=bst cs (TD ak) (HD (keys++[aC c]) (aW row (aC c) ⟨v,none,false,[]⟩)) (c:Int) cell (.fz (.int (cell/5))) (.own (TD L)) (.own (TD keys)) (.fz (.str (aC c)))) ((jJ (i:=3) (r:=⟨v,none,false,[]⟩) (dN (rs:=[(.int v,.fz),(.none,.fz),(.bool false,.fz),(.tuple [],.fz)]) (ik (m4 (rs:=[(.int (cell/5),.fz)]) rfl hv) (ay (ao rfl) (ay (ao rfl) (ay (ao (dN (rs:=[]) rfl rfl (by simp))) aT)))) rfl (by simp)) (ar rfl) rfl (.inl rfl) (by omega)).trans (by rw[sR hnk];rfl)) ?_
   exact iS (pX (rs:=[(.str (aC c),.fz)]) rfl rfl rfl rfl (sS _ (by rw[zal];omega)) (by rw[kI];rfl))
theorem FK(cs:List Int):qE (cs.map .int)=(cs.zipIdx).map λp:Int×Nat=>PyData.tuple [.int (p.2:Int),.int p.1]:=by
 unfold qE;refine List.ext_getElem? λi=>?_
 rw[List.getElem?_mapIdx,zao,zao,List.getElem?_zipIdx];cases cs[i]? <;>simp
theorem z9(csD:D):∀(cs:List Int) (c:Nat) (ak keys:List Str) (row:Str->aK.Row) (s4 s5 s6 s7 s8 s9:Sl),NIo s4->NIo s5->NIo s6->NIo s7->NIo s8->NIo s9->c+cs.length<=100->Bk c ak keys row->Fm keys row->
  ∃e9 keys' aQ tl,forL (mgU 2 (bV (mgN 4) (bV (mgN 5) iE))) hX ((cs.zipIdx c).map λp:Int×Nat=>PyData.tuple [.int (p.2:Int),.int p.1]) [.fz csD,.fz (.int 0),.own (TD ak),.own (HD keys row),s4,s5,s6,s7,s8,s9]=some (.nx (.fz csD::.fz (.int 0)::.own (TD e9)::.own (HD keys' aQ)::tl))/\Bk (c+cs.length) e9 keys' aQ/\Fm keys' aQ:=by
 intro cs
 induction cs with
 |nil=>intro c ak keys row s4 s5 s6 s7 s8 s9 _ _ _ _ _ _ _ h hF;exact⟨ak,keys,row,_,rfl,h,hF⟩
 |cons x cs ih=>
  intro c ak keys row s4 s5 s6 s7 s8 s9 n4 n5 n6 n7 n8 n9 hl h hF;rw[zaw]at hl⊢;obtain⟨Mp,Mq,cI,t6,t7,t8,t9,h1,h2,h2f,m6,m7,m8,m9⟩:=z8 (by omega:c<100) h hF csD x n6 n7 n8 n9
  obtain⟨e9,keys',aQ,tl,h3,h4,h4f⟩:=ih (c+1) Mp Mq cI (.fz (.int (c:Int))) (.fz (.int x)) t6 t7 t8 t9 (NIo.fz _) (NIo.fz _) m6 m7 m8 m9 (by omega) h2 h2f
  refine⟨e9,keys',aQ,tl,?_,by rw[show c+(cs.length+1)=c+1+cs.length by omega];exact h4,h4f⟩
  rw[List.zipIdx_cons,zaz];refine ki (ρ1:=bst csD (TD ak) (HD keys row) (c:Int) x s6 s7 s8 s9) ?_ h1 h3;show(mgN 4 (.int (c:Int)) _).bind (fun ρ1=>(mgN 5 (.int x) ρ1).bind fun ρ2=>some ρ2)=_
  rw[gK (s:=s4) rfl n4,zai,gK (s:=s5) rfl n5,zai];rfl
theorem Bt.zero(row:Str->aK.Row):Bk 0 [] [] row:=⟨by simp,(λn hn=>by cases hn),by simp,(λn hn=>by cases hn),(λn hn=>by cases hn),(λn hn=>by cases hn),(λn hn=>by cases hn),(λn hn=>by cases hn),λn hn=>by cases hn⟩
theorem Aa(h0:ds.length=n)(h1:b (ds.map .fz++List.replicate k .no)=some w):fnD n k b ds=some w:=by unfold fnD;rw[if_pos h0,h1]
theorem kJ(h1:a ρ=some (.nx ρ1))(h2:b ρ1=o):oJ a b ρ=o:=by unfold oJ;rw[h1,zai];exact h2
theorem FL(cs:List Int)(hl:cs.length<=60):∃ak keys row,iq [.list (cs.map .int),.int 0]=some (TD ak,HD keys row)/\Bk 60 ak keys row/\Fm keys row:=by
 obtain⟨ak,keys,row,tl,h1,h2,h2f⟩:=z9 (.list (cs.map .int)) cs 0 [] [] (λ_=>⟨0,none,false,[]⟩) .no .no .no .no .no .no NIo.no NIo.no NIo.no NIo.no NIo.no NIo.no (by omega) (Bt.zero _) (Fm.zero _)
 refine⟨ak,keys,row,?_,h2.more (by omega),h2f⟩
 refine Aa rfl ?_;refine kJ (ρ1:=[.fz (.list (cs.map .int)),.fz (.int 0),.own (TD []),.no,.no,.no,.no,.no,.no,.no]) (eK (fK (rs:=[]) rfl rfl (by simp)) rfl) ?_
 refine kJ (ρ1:=[.fz (.list (cs.map .int)),.fz (.int 0),.own (TD []),.own (HD [] λ_=>⟨0,none,false,[]⟩),.no,.no,.no,.no,.no,.no]) (eK rfl rfl) ?_
 rw[<-FK]at h1;exact kJ (rV (ds:=qE (cs.map .int)) rfl h1) rfl
def names(c:Nat):List Str:=(List.range c).map aC
theorem kK(c:Nat):(names c).length=c:=by unfold names;rw[zal,List.length_range]
theorem gq:n∈names c↔∃i,i<c/\n=aC i:=by
 unfold names;rw[List.mem_map]
 constructor
 ·rintro⟨i,hi,rfl⟩;exact⟨i,List.mem_range.mp hi,rfl⟩
 ·rintro⟨i,hi,rfl⟩;exact⟨i,List.mem_range.mpr hi,rfl⟩
theorem ll(c:Nat):names (c+1)=names c++[aC c]:=by unfold names;rw[List.range_succ,za1];rfl
theorem qa(hc:c<130):aC c∉names c:=λz=>by
 obtain⟨i,hi,e⟩:=gq.mp z;exact iu c hc i hi e
theorem sV(hc:c<130):C4 (names c) (aC c)=names (c+1):=by rw[sR (qa hc),ll]
theorem FO:∀c:Nat,c<=130->(names c).Nodup:=by
 intro c
 induction c with
 |zero=>intro _;exact List.nodup_nil
 |succ c ih=>
  intro hc;rw[ll,List.nodup_append];exact⟨ih (by omega),by simp,λx hx y hy=>by rw[zad hy];exact λe=>qa (c:=c) (by omega) (by rw[<-e];exact hx)⟩
def fb(m:Nat):Nat:=[1,2,3,5,8,13,21,34,55,89].getD m 0
theorem wX:∀q,q<9->fb (q+1)=fb q+fb (q-1):=by decide
theorem uX:∀M,M<10->∀q,q<M+1->fb q<=fb M:=by decide
theorem nE:∀M,M<10->M<=fb M/\0<fb M:=by decide
structure Gp(o:Str->Prop)(c:Nat)(row:Str->aK.Row):Prop where
 ab:∀i,i<c->∀a,(row (aC i)).above=some a->(∃j,j<c/\a=aC j)/\(row a).key<(row (aC i)).key
 mkd:∀i,i<c->(row (aC i)).mark=true->(row (aC i)).above≠none
 bl:∀i,i<c->(row (aC i)).below.length<=c/\∀b∈(row (aC i)).below,(∃j,j<c/\b=aC j)/\(row b).above=some (aC i)
 nd:∀i,i<c->(row (aC i)).below.Nodup
 dg:∀i,i<c->∀(p:Nat) (b:Str),(row (aC i)).below[p]?=some b->p<=(row b).below.length+b1 (row b).mark
 dn:∀i,i<c->∀a,(row (aC i)).above=some a->¬o a->aC i∈(row a).below
theorem kL(hi:i<130)(hj:j<130)(e:aC i=aC j):i=j:=by
 rcases Nat.lt_trichotomy i j with h|h|h
 ·exact absurd e.symm (iu j hj i h)
 ·exact h
 ·exact absurd e (iu i hi j h)
theorem Gp.new(h:Gp o c row)(hc:c<130)(ha:∀a,above=some a->(∃j,j<c/\a=aC j)/\(row a).key<key)(hm:mark=true->above≠none)(ho:∀a,above=some a->o a):Gp o (c+1) (aW row (aC c) ⟨key,above,mark,[]⟩):=by
 have ne:∀i,i<c->aC i≠aC c:=λi hi e=>iu c hc i hi e.symm
 have cs:∀(P:Nat->Prop),P c->(∀i,i<c->P i)->∀i,i<c+1->P i:=λP h1 h2 i hi=>by
  by_cases z:i=c
  ·subst z;exact h1
  ·exact h2 i (by omega)
 refine⟨cs _ (λa e=>?_) λi hi a e=>?_,cs _ (λe=>?_) λi hi e=>?_,cs _ ?_ λi hi=>?_,cs _ ?_ λi hi=>?_,cs _ (λp b e=>?_) λi hi p b e=>?_,cs _ (λa e n=>?_) λi hi a e n=>?_⟩
 ·rw[aM]at e⊢
  obtain⟨⟨j,hj,rfl⟩,h2⟩:=ha a e;rw[aE _ _ (ne j hj)];exact⟨⟨j,by omega,rfl⟩,h2⟩
 ·rw[aE _ _ (ne i hi)]at e⊢
  obtain⟨⟨j,hj,rfl⟩,h2⟩:=h.ab i hi a e;rw[aE _ _ (ne j hj)];exact⟨⟨j,by omega,rfl⟩,h2⟩
 ·rw[aM]at e⊢;exact hm e
 ·rw[aE _ _ (ne i hi)]at e⊢;exact h.mkd i hi e
 ·rw[aM];exact⟨Nat.zero_le _,λb hb=>by cases hb⟩
 ·rw[aE _ _ (ne i hi)]
  obtain⟨h1,h2⟩:=h.bl i hi;refine⟨by omega,λb hb=>?_⟩
  obtain⟨⟨j,hj,rfl⟩,e⟩:=h2 b hb;rw[aE _ _ (ne j hj)];exact⟨⟨j,by omega,rfl⟩,e⟩
 ·rw[aM];exact List.nodup_nil
 ·rw[aE _ _ (ne i hi)];exact h.nd i hi
 ·rw[aM]at e;simp at e
 ·rw[aE _ _ (ne i hi)]at e
  obtain⟨⟨j,hj,rfl⟩,_⟩:=(h.bl i hi).2 b (zaj e);rw[aE _ _ (ne j hj)];exact h.dg i hi p _ e
 ·rw[aM]at e;exact absurd (ho a e) n
 ·rw[aE _ _ (ne i hi)]at e
  obtain⟨⟨j,hj,rfl⟩,_⟩:=h.ab i hi a e;rw[aE _ _ (ne j hj)];exact h.dn i hi _ e n
theorem Gp.upd(h:Gp (λx=>o x\/x=aC c0) c row)(h0:c0<c)(e0:(row (aC c0)).below=[])(hl:ns.length<=c)(hn:ns.Nodup)(hb:∀b∈ns,(∃j,j<c/\b=aC j)/\(row b).above=some (aC c0))(hg:∀(p:Nat) (b:Str),ns[p]?=some b->p<=(row b).below.length+b1 (row b).mark)(hd:∀i,i<c->(row (aC i)).above=some (aC c0)->aC i∈ns):Gp o c (aW row (aC c0) ⟨(row (aC c0)).key,(row (aC c0)).above,(row (aC c0)).mark,ns⟩):=by
 have ek:∀m,(aW row (aC c0) ⟨(row (aC c0)).key,(row (aC c0)).above,(row (aC c0)).mark,ns⟩ m).key=(row m).key/\(aW row (aC c0) ⟨(row (aC c0)).key,(row (aC c0)).above,(row (aC c0)).mark,ns⟩ m).above=(row m).above/\(aW row (aC c0) ⟨(row (aC c0)).key,(row (aC c0)).above,(row (aC c0)).mark,ns⟩ m).mark=(row m).mark/\(row m).below.length<=(aW row (aC c0) ⟨(row (aC c0)).key,(row (aC c0)).above,(row (aC c0)).mark,ns⟩ m).below.length:=λm=>by
  by_cases z:m=aC c0
  ·subst z;rw[aM,e0];exact⟨rfl,rfl,rfl,Nat.zero_le _⟩
  ·rw[aE _ _ z];exact⟨rfl,rfl,rfl,zap _⟩
 refine⟨λi hi a e=>?_,λi hi e=>?_,λi hi=>?_,λi hi=>?_,λi hi p b e=>?_,λi hi a e n=>?_⟩
 ·rw[(ek _).2.1]at e
  rw[(ek _).1,(ek _).1];exact h.ab i hi a e
 ·rw[(ek _).2.2.1]at e
  rw[(ek _).2.1];exact h.mkd i hi e
 ·by_cases z:aC i=aC c0
  ·rw[z,aM]
   exact⟨hl,λb hbn=>⟨(hb b hbn).1,by rw[(ek b).2.1];exact(hb b hbn).2⟩⟩
  ·rw[aE _ _ z]
   exact⟨(h.bl i hi).1,λb hbn=>⟨((h.bl i hi).2 b hbn).1,by rw[(ek b).2.1];exact((h.bl i hi).2 b hbn).2⟩⟩
 ·by_cases z:aC i=aC c0
  ·rw[z,aM];exact hn
  ·rw[aE _ _ z];exact h.nd i hi
 ·have q:=(ek b).2.2
  rw[q.1]
  by_cases z:aC i=aC c0
  ·rw[z,aM]at e
   have:=hg p b e;omega
  ·rw[aE _ _ z]at e
   have:=h.dg i hi p b e;omega
 ·rw[(ek _).2.1]at e
  by_cases z:a=aC c0
  ·subst z;rw[aM];exact hd i hi e
  ·rw[aE _ _ z]
   exact h.dn i hi a e λw=>w.elim n z
theorem Gp.bt(h:Gp o c row)(hc:c<=130)(h0 : 0<c)(ha:(row (aC 0)).above=none)(no:∀x,¬o x)(ht:∀i,0<i->i<c->(row (aC i)).above≠none):Bk c [aC 0] (names c) row/\Fm (names c) row:=by
 refine⟨⟨FO c hc,λn hn=>gq.mp hn,by simp,λt ht=>?_,λn hn e=>?_,λn hn e=>?_,λn hn a e=>?_,λn hn=>?_,λn hn a e=>?_⟩,⟨λn hn=>?_,λn hn b hb=>?_,λn hn a e=>?_,λn hn p b e=>?_⟩⟩
 ·rw[zad ht]
  exact⟨gq.mpr ⟨0,h0,rfl⟩,ha⟩
 all_goals obtain⟨i,hi,rfl⟩:=gq.mp hn
 ·by_cases z:i=0
  ·rw[z];simp
  ·exact absurd e (ht i (by omega) hi)
 ·exact h.mkd i hi e
 ·exact gq.mpr (h.ab i hi a e).1
 ·exact⟨(h.bl i hi).1,λb hb=>gq.mpr ((h.bl i hi).2 b hb).1⟩
 ·have hk:=(h.ab i hi a e).2
  unfold bU;rw[if_neg (by omega)]
  exact zaH hk
 ·exact h.nd i hi
 ·exact⟨gq.mpr ((h.bl i hi).2 b hb).1,((h.bl i hi).2 b hb).2⟩
 ·exact h.dn i hi a e (no a)
 ·exact h.dg i hi p b e
def Grows(f:List D->Option ((D×Bool)×D))(many:Nat):Prop:=∀(o:Str->Prop) (c:Nat) (row:Str->aK.Row) (above:Option Str) (mark:Bool) (key:Int),Gp o c row->c+fb many<=120->(∀a,above=some a->(∃j,j<c/\a=aC j)/\(row a).key<key)->(mark=true->above≠none)->(∀a,above=some a->o a)->
 ∃aQ:Str->aK.Row,f [HD (names c) row,.int (many:Int),bg above,.bool mark,.int key]=some ((.str (aC c),false),HD (names (c+fb many)) aQ)/\Gp o (c+fb many) aQ/\(∀i,i<c->aQ (aC i)=row (aC i))/\((aQ (aC c)).above=above/\(aQ (aC c)).mark=mark/\(aQ (aC c)).below.length=many)/\∀i,c<i->i<c+fb many->(aQ (aC i)).above≠none/\∀a,(aQ (aC i)).above=some a->∃j,c<=j/\j<c+fb many/\a=aC j
theorem HH(hM:M<10)(hf:∀k,k+1<M\/(k=0/\0<M)->Grows f k)(c0:Nat)(hoc:o (aC c0))(k0:Int)(hm:key=.fz (.int k0))(hb:c0+fb M<=120):∀(m q:Nat) (row:Str->aK.Row),q+m=M->Gp o (c0+fb q) row->(row (aC c0)).key=k0->∀d0:D,
  ∃(ns:List Str) (aQ:Str->aK.Row),goI f (aj (mCB Ct (aj (mC (.int 0)) (aj (mOp xt (ai 0) (mC (.int 1))) aI))) (aj (ai 2) (aj (mOp gGt (ai 0) (mC (.int 0))) (aj (mOp gr (ai 3) (mC (.int 1))) aI)))) [("_law_held",0),("_law_name",5),("_law_key",4)] [.io d0,many,above,mark,key,.fz (.str (aC c0)),s6] 0 (.io d0) ((List.range' q m).map λk:Nat=>PyData.int (k:Int)) (HD (names (c0+fb q)) row)=some (ns.map .str,HD (names (c0+fb M)) aQ)/\Gp o (c0+fb M) aQ/\(∀i,i<c0+fb q->aQ (aC i)=row (aC i))/\ns.length=m/\(∀(p:Nat) (x:Str),ns[p]?=some x->q+p<M/\x=aC (c0+fb (q+p))/\(aQ x).above=some (aC c0)/\(aQ x).below.length=q+p-1/\(aQ x).mark=decide (0<((q+p:Nat):Int)))/\(∀i,c0+fb q<=i->i<c0+fb M->(aQ (aC i)).above=some (aC c0)->aC i∈ns)/\∀i,c0+fb q<=i->i<c0+fb M->(aQ (aC i)).above≠none/\∀a,(aQ (aC i)).above=some a->∃j,c0<=j/\j<c0+fb M/\a=aC j:=by
 subst hm;intro m
 induction m with
 |zero=>
  intro q row hq hg hk d0;obtain rfl:q=M:=by omega
  exact⟨[],row,rfl,hg,λ_ _=>rfl,rfl,(λp x hx=>by simp at hx),(λi h1 h2=>by omega),λi h1 h2=>by omega⟩
 |succ m ih=>
  intro q row hq hg hk d0;have p0:=(nE q (by omega)).2
  have p1:=wX q (by omega)
  have p2:=uX M hM (q+1) (by omega)
  obtain⟨cI,e1,g1,s1,r1,t1⟩:=hf (q-1) (by omega) o (c0+fb q) row (some (aC c0)) (decide (0<(q:Int))) (k0+1) hg (by omega) (λa ha=>by cases ha;exact⟨⟨c0,by omega,rfl⟩,by rw[hk];omega⟩) (λ_ z=>by cases z) (λa ha=>by cases ha;exact hoc)
  rw[show c0+fb q+fb (q-1)=c0+fb (q+1) by omega]at e1 g1 t1
  obtain⟨ns,aQ,e2,g2,s2,l2,o2,u2,v2⟩:=ih (q+1) cI (by omega) g1 (by rw[s1 c0 (by omega)];exact hk) d0
  refine⟨aC (c0+fb q)::ns,aQ,?_,g2,λi hi=>(s2 i (by omega)).trans (s1 i hi),by rw[zaw,l2],λp x hx=>?_,λi h1 h2 ea=>?_,λi h1 h2=>?_⟩
  ·rw[List.range'_succ,zaz]
   unfold goI;have ev:aj (mCB Ct (aj (mC (.int 0)) (aj (mOp xt (ai 0) (mC (.int 1))) aI))) (aj (ai 2) (aj (mOp gGt (ai 0) (mC (.int 0))) (aj (mOp gr (ai 3) (mC (.int 1))) aI))) [.fz (.int (q:Int)),.ro (HD (names (c0+fb q)) row),.fz (.str (aC c0)),.fz (.int k0)]=some ([(.int ((q-1:Nat):Int),.fz),(.str (aC c0),.fz),(.bool (decide (0<(q:Int))),.fz),(.int (k0+1),.fz)],[.fz (.int (q:Int)),.ro (HD (names (c0+fb q)) row),.fz (.str (aC c0)),.fz (.int k0)]):=by
    refine ay (ao (eS (rs:=[(.int 0,.fz),(.int ((q:Int)-1),.fz)]) (res:=(.int ((q-1:Nat):Int),false)) (ik c7 (ik (vZ (cD rfl) c7) aT)) ?_)) (ay (ao (ar rfl)) (ay (ao (rY (cD rfl) c7)) (ik (jV (cD rfl) c7) aT)));show some (PyData.int (if(0:Int)<(q:Int)-1 then(q:Int)-1 else 0),false)=_
    rw[show(if(0:Int)<(q:Int)-1 then(q:Int)-1 else 0)=((q-1:Nat):Int) by split<;>omega]
   show(aj _ _ [.fz (.int (q:Int)),.ro (HD (names (c0+fb q)) row),.fz (.str (aC c0)),.fz (.int k0)]).bind _=_;rw[ev,zai];dsimp only[Fq,Option.bind_some,Option.map_some];show(f (HD (names (c0+fb q)) row::[.int ((q-1:Nat):Int),.str (aC c0),.bool (decide (0<(q:Int))),.int (k0+1)])).bind _=_;rw[show f [HD (names (c0+fb q)) row,.int ((q-1:Nat):Int),.str (aC c0),.bool (decide (0<(q:Int))),.int (k0+1)]=some ((.str (aC (c0+fb q)),false),HD (names (c0+fb (q+1))) cI)from e1,zai];dsimp only;rw[if_pos rfl,e2];rfl
  ·cases p with
   |zero=>
    obtain rfl:aC (c0+fb q)=x:=by simpa using hx
    rw[s2 (c0+fb q) (by have:=(nE (q-1) (by omega)).2;omega)]
    exact⟨by omega,rfl,r1.1,r1.2.2,r1.2.1⟩
   |succ p=>
    have:=o2 p x (by simpa using hx)
    rw[show q+1+p=q+(p+1) by omega]at this
    exact this
  ·by_cases z:i<c0+fb (q+1)
   ·by_cases w:i=c0+fb q
    ·subst w;exact zas
    ·rw[s2 i z]at ea
     obtain⟨j,j1,j2,j3⟩:=(t1 i (by omega) z).2 _ ea
     exact absurd (kL (by omega) (by omega) j3) (by omega)
   ·exact zak _ (u2 i (by omega) h2 ea)
  ·by_cases z:i<c0+fb (q+1)
   ·rw[s2 i z]
    by_cases w:i=c0+fb q
    ·subst w;rw[r1.1];exact⟨by simp,λa ea=>by cases ea;exact⟨c0,by omega,by omega,rfl⟩⟩
    ·obtain⟨k1,k2⟩:=t1 i (by omega) z
     exact⟨k1,λa ea=>(let⟨j,j1,j2,j3⟩:=k2 a ea;⟨j,by omega,by omega,j3⟩)⟩
   ·exact v2 i (by omega) h2
theorem FP:∀n many:Nat,many<n->many<10->Grows (eY n) many:=by
 intro n
 induction n with
 |zero=>intro many h;omega
 |succ n ih=>
  intro many hmn h9 o c row above mark key hg hl ha hk hoa;have pm:=nE many h9;have hc:c<130:=by omega
  have g1:=(Gp.new (o:=λx=>o x\/x=aC c) ⟨hg.ab,hg.mkd,hg.bl,hg.nd,hg.dg,λi hi a e n=>hg.dn i hi a e λz=>n (.inl z)⟩ hc ha hk λa e=>.inl (hoa a e))
  obtain⟨ns,aQ,e2,g2,s2,l2,o2,u2,v2⟩:=HH (f:=eY n) (M:=many) (o:=λx=>o x\/x=aC c) h9 (λk hk=>ih k (by omega) (by omega)) (many:=.fz (.int (many:Int))) (above:=.fz (bg above)) (mark:=.fz (.bool mark)) (s6:=.no) c (.inr rfl) key rfl hl many 0 _ (by omega) g1 (by rw[aM]) (HD (names (c+1)) (aW row (aC c) ⟨key,above,mark,[]⟩))
  have er:aQ (aC c)=⟨key,above,mark,[]⟩:=(s2 c (Nat.lt_succ_self c)).trans (aM _ _ _);have f0:fb 0=1:=rfl;have nsx:∀(p:Nat) (x:Str),ns[p]?=some x->p<many/\x=aC (c+fb p)/\(aQ x).above=some (aC c)/\(aQ x).below.length=p-1/\(aQ x).mark=decide (0<(p:Int)):=λp x e=>by
   have:=o2 p x e;rw[Nat.zero_add]at this;exact this
  have nnd:ns.Nodup:=List.pairwise_iff_getElem.mpr λp p' hp hp' hlt e=>by
   have a1:=nsx p _ (zaC hp);have a2:=nsx p' _ (zaC hp');have b1':=uX many h9 p' (by omega)
   have b2:fb p<fb p':=zaF (show fb p<fb (p+1) by rw[wX p (by omega)];have:=(nE (p-1) (by omega)).2;omega) (uX p' (by omega) (p+1) (by omega))
   rw[a1.2.1,a2.2.1]at e;have:=kL (by omega) (by omega) e
   omega
  have g3:=Gp.upd (o:=o) (c0:=c) (ns:=ns) g2 (by omega) (by rw[er]) (by omega) nnd (λb hb=>by
   obtain⟨p,hp⟩:=List.mem_iff_getElem?.mp hb;obtain⟨q1,q2,q3,_⟩:=nsx p b hp;have w1:=uX many h9 (p+1) (by omega)
   rw[wX p (by omega)]at w1
   have w2:=(nE (p-1) (by omega)).2
   exact⟨⟨c+fb p,by omega,q2⟩,q3⟩) (λp b hp=>by
   obtain⟨_,_,_,q4,q5⟩:=nsx p b hp;rw[q4,q5];unfold b1
   by_cases z:p=0
   ·omega
   ·rw[if_pos (zaH (by omega))];omega) λi hi ea=>by
   by_cases z:c+1<=i
   ·exact u2 i (by rw[f0];omega) hi ea
   ·exfalso
    rw[s2 i (by rw[f0];omega)]at ea
    by_cases w:i=c
    ·subst w
     rw[aM]at ea;obtain⟨⟨j,j1,j2⟩,_⟩:=ha _ ea;exact absurd (kL (by omega) (by omega) j2) (by omega)
    ·rw[aE _ _ (λe=>iu c hc i (by omega) e.symm)]at ea
     obtain⟨⟨j,j1,j2⟩,_⟩:=hg.ab i (by omega) _ ea
     exact absurd (kL (by omega) (by omega) j2) (by omega)
  rw[er]at g3;have hin:aC c∈names (c+fb many):=gq.mpr ⟨c,by omega,rfl⟩
  refine⟨aW aQ (aC c) ⟨key,above,mark,ns⟩,?_,g3,λi hi=>?_,by rw[aM];exact⟨rfl,rfl,l2⟩,λi h1 h2=>?_⟩
  ·refine Kl (o:=.rt (.str (aC c),.fz) [.io (HD (names (c+fb many)) (aW aQ (aC c) ⟨key,above,mark,ns⟩)),.fz (.int (many:Int)),.fz (bg above),.fz (.bool mark),.fz (.int key),.fz (.str (aC c)),.own (TD ns)]) rfl ?_ rfl rfl
   refine aX (ρ1:=[.io (HD (names c) row),.fz (.int (many:Int)),.fz (bg above),.fz (.bool mark),.fz (.int key),.fz (.str (aC c)),.no]) (dw (cQ (rs:=[(.int (c:Int),.fz)]) (ik ((rl (.inr (.inr rfl))).is (by rw[kK])) aT) (wO c) rfl) rfl) ?_
   refine aX (ρ1:=[.io (HD (names (c+1)) (aW row (aC c) ⟨key,above,mark,[]⟩)),.fz (.int (many:Int)),.fz (bg above),.fz (.bool mark),.fz (.int key),.fz (.str (aC c)),.no]) ((jJ (i:=0) (r:=⟨key,above,mark,[]⟩) (dN (rs:=[(.int key,.fz),(bg above,.fz),(.bool mark,.fz),(.tuple [],.fz)]) (ay (ao (ar rfl)) (ay (ao (ar rfl)) (ay (ao (ar rfl)) (ay (ao (dN (rs:=[]) rfl rfl (by simp))) aT)))) rfl (by simp)) (ar rfl) rfl (.inr rfl) (by rw[kK];omega)).trans (by rw[sV hc];rfl)) ?_
   refine aX (ρ1:=[.io (HD (names (c+fb many)) aQ),.fz (.int (many:Int)),.fz (bg above),.fz (.bool mark),.fz (.int key),.fz (.str (aC c)),.own (TD ns)]) (eK (ρ1:=[.io (HD (names (c+fb many)) aQ),.fz (.int (many:Int)),.fz (bg above),.fz (.bool mark),.fz (.int key),.fz (.str (aC c)),.no]) ?_ rfl) ?_
   ·unfold KG
    rw[wR (n:=many) (cD rfl) (by omega),zai]
    dsimp only;rw[show ownAt [Sl.io (HD (names (c+1)) (aW row (aC c) ⟨key,above,mark,[]⟩)),.fz (.int (many:Int)),.fz (bg above),.fz (.bool mark),.fz (.int key),.fz (.str (aC c)),.no] 0=some (.io (HD (names (c+1)) (aW row (aC c) ⟨key,above,mark,[]⟩)))from rfl,zai];rw[List.range_eq_range'];show(goI _ _ _ _ _ _ _ (HD (names (c+fb 0)) (aW row (aC c) ⟨key,above,mark,[]⟩))).bind _=_;rw[show c+1=c+fb 0 from rfl]at e2⊢;rw[e2,zai];rw[b7 (xY (by rw[zal];omega))];rfl
   ·exact aX (ρ1:=[.io (HD (names (c+fb many)) (aW aQ (aC c) ⟨key,above,mark,ns⟩)),.fz (.int (many:Int)),.fz (bg above),.fz (.bool mark),.fz (.int key),.fz (.str (aC c)),.own (TD ns)]) ((jJ (i:=0) (r:=⟨key,above,mark,ns⟩) (dN (rs:=[(.int key,.fz),(bg above,.fz),(.bool mark,.fz),(.tuple (ns.map .str),.fz)]) (ay (ao (ar rfl)) (ay (ao (ar rfl)) (ay (ao (ar rfl)) (ay (ao (BJ (i:=6) (x:=TD ns) (res:=(.tuple (ns.map .str),true)) (.inr (.inl rfl)) rfl)) aT)))) rfl (by simp)) (ar rfl) rfl (.inr rfl) (by rw[kK];omega)).trans (by rw[fv hin];rfl)) (du (ar rfl))
  ·rw[aE _ _ (λe=>iu c hc i hi e.symm),s2 i (Nat.lt_succ_of_lt hi),aE _ _ (λe=>iu c hc i hi e.symm)]
  ·rw[aE _ _ (λe=>absurd (kL (by omega) (by omega) e) (by omega))]
   exact v2 i (by rw[f0];omega) h2
theorem Ab(cs0:D):∀(cs:List Int) (c:Nat) (ak:List Str) (row:Str->aK.Row) (s3 s4:Sl),NIo s3->NIo s4->Bk c ak (names c) row->Fm (names c) row->c+cs.length<=120->
  ∃(e9:List Str) (aQ:Str->aK.Row) (tl:Rho),forL (mgN 3) nT (cs.map .int) [.fz cs0,.own (HD (names c) row),.own (TD ak),s3,s4]=some (.nx (.fz cs0::.own (HD (names (c+cs.length)) aQ)::.own (TD e9)::tl))/\Bk (c+cs.length) e9 (names (c+cs.length)) aQ/\Fm (names (c+cs.length)) aQ:=by
 intro cs
 induction cs with
 |nil=>intro c ak row s3 s4 _ _ h hF _;exact⟨ak,row,_,rfl,h,hF⟩
 |cons x cs ih=>
  intro c ak row s3 s4 n3 n4 h hF hl;rw[zaw]at hl⊢;obtain⟨v,hv⟩:=key_is x;have hc:c<130:=by omega
  have hB:=(Bk.new hc h v).2;rw[<-ll]at hB;have hFn:=hF.new h.ab (qa hc) v;rw[<-ll]at hFn;have tl:=h.tl;obtain⟨e9,aQ,tl',h1,h2,h2f⟩:=ih (c+1) (ak++[aC c]) (aW row (aC c) ⟨v,none,false,[]⟩) (.fz (.int x)) (.fz (.str (aC c))) (NIo.fz _) (NIo.fz _) hB hFn (by omega)
  rw[show c+1+cs.length=c+(cs.length+1) by omega]at h1 h2 h2f
  refine⟨e9,aQ,tl',?_,h2,h2f⟩;rw[zaz];refine ki (ρ1:=[.fz cs0,.own (HD (names c) row),.own (TD ak),.fz (.int x),s4]) (gK (s:=s3) rfl n3) ?_ h1;refine aX (ρ1:=[.fz cs0,.own (HD (names c) row),.own (TD ak),.fz (.int x),.fz (.str (aC c))]) (dw (cQ (rs:=[(.int (c:Int),.fz)]) (ik ((rl (.inr (.inl rfl))).is (by rw[kK])) aT) (wO c) rfl) (iY (s:=s4) _ rfl n4)) ?_
  refine aX (ρ1:=[.fz cs0,.own (HD (names (c+1)) (aW row (aC c) ⟨v,none,false,[]⟩)),.own (TD ak),.fz (.int x),.fz (.str (aC c))]) ((jJ (i:=1) (r:=⟨v,none,false,[]⟩) (dN (rs:=[(.int v,.fz),(.none,.fz),(.bool false,.fz),(.tuple [],.fz)]) (ik (m4 (rs:=[(.int x,.fz)]) rfl hv) (ay (ao rfl) (ay (ao rfl) (ay (ao (dN (rs:=[]) rfl rfl (by simp))) aT)))) rfl (by simp)) (ar rfl) rfl (.inl rfl) (by rw[kK];omega)).trans (by rw[sV hc];rfl)) ?_
  exact iS (pX (rs:=[(.str (aC c),.fz)]) rfl rfl rfl rfl (sS _ (by rw[zal];omega)) (by rw[kI];rfl))
theorem sW(ns:List Int)(lo hi:Nat):∃cs:List Int,cutD (ns.map .int) (some (lo:Int)) (some (hi:Int))=cs.map .int/\cs.length<=hi-lo/\∀c∈cs,c∈ns:=by
 unfold cutD;refine⟨(ns.drop (HT.sIx (ns.map PyData.int).length 0 (some (lo:Int)))).take (HT.sIx (ns.map PyData.int).length (ns.map PyData.int).length (some (hi:Int))-HT.sIx (ns.map PyData.int).length 0 (some (lo:Int))),by rw[List.map_take,List.map_drop],?_,λc hc=>List.mem_of_mem_drop (List.mem_of_mem_take hc)⟩
 rw[List.length_take,List.length_drop];simp only[HT.sIx,List.length_map];rw[if_neg (by omega),if_neg (by omega)]
 omega
theorem FQ(cs:List Int)(hl:cs.length<=60):∃(ak keys:List Str) (row:Str->aK.Row),ir [.list (cs.map .int)]=some (TD ak,HD keys row)/\Bk 120 ak keys row/\Fm keys row:=by
 have eq0:mOp gEq (ai 0) (f6 aI) [.fz (.list (cs.map .int)),.no,.no,.no,.no]=some ((.bool (decide (cs=[])),.fz),[.fz (.list (cs.map .int)),.no,.no,.no,.no]):=bC (r:=(.list [],.fz)) (res:=(.bool (decide (cs=[])),false)) (ao (ar rfl)) (jm (fK (rs:=[]) rfl rfl (by simp))) (xU cs [])
 have bt:∀h:mOr (aO (mOp gEq (ai 0) (f6 aI))) (aO (mOp gNe (mOp d5 (mOp gIx (ai 0) (mC (.int 0))) (mC (.int 7))) (mC (.int 6)))) [.fz (.list (cs.map .int)),.no,.no,.no,.no]=some (true,[.fz (.list (cs.map .int)),.no,.no,.no,.no]),∃(ak keys:List Str) (row:Str->aK.Row),ir [.list (cs.map .int)]=some (TD ak,HD keys row)/\Bk 120 ak keys row/\Fm keys row:=λh=>by
  obtain⟨ak,keys,row,h1,h2,h2f⟩:=FL cs hl;refine⟨ak,keys,row,Aa rfl ?_,h2.more (by omega),h2f⟩
  show CD _ _ _ [.fz (.list (cs.map .int)),.no,.no,.no,.no]=_;unfold CD;rw[h,zai];dsimp only
  rw[if_pos rfl];show(iq [.list (cs.map .int),.int 0])=_;exact h1
 cases cs with
 |nil=>exact bt (Nf (test_ev (k:=.fz) eq0))
 |cons c cs=>
  have i0:IE (mOp gIx (ai 0) (mC (.int 0))) [.fz (.list ((c::cs).map .int)),.no,.no,.no,.no] c:=bC (r:=(.int 0,.fz)) (res:=(.int c,false)) (ao (ar rfl)) (ao rfl) (sO _ _ _ (Mir.ya _ _));have ne0:aO (mOp gEq (ai 0) (f6 aI)) [.fz (.list ((c::cs).map .int)),.no,.no,.no,.no]=some (false,[.fz (.list ((c::cs).map .int)),.no,.no,.no,.no]):=test_ev (k:=.fz) (by rw[eq0];rfl)
  by_cases h6:c%7=6
  ·obtain⟨v,hv⟩:=key_is (c/70)
   obtain⟨m,em,hm⟩:∃m:Nat,c/7%10=(m:Int)/\m<10:=nC (c/7) 10 (by omega)
   obtain⟨cI,e1,g1,_,a1,a2⟩:=FP 12 m (by omega) hm (λ_=>False) 0 (λ_=>(⟨0,none,false,[]⟩:aK.Row)) none false v ⟨(λi hi=>by omega),(λi hi=>by omega),(λi hi=>by omega),(λi hi=>by omega),(λi hi=>by omega),λi hi=>by omega⟩ (by have:=uX 9 (by omega) m (by omega);have:fb 9=89:=rfl;omega) (λa ha=>by cases ha) (λz=>by cases z) (λa ha=>by cases ha)
   have hz:=uX 9 (by omega) m (by omega)
   have hz9:fb 9=89:=rfl;rw[Nat.zero_add]at e1 g1;have b1:=g1.bt (by omega) (nE m hm).2 a1.1 (λ_ z=>z) λi h1 h2=>(a2 i h1 (by rw[Nat.zero_add];exact h2)).1
   obtain⟨ds,e2,l2,_⟩:=sW (c::cs) 1 12;obtain⟨e9,aQ,tl,h1,h2,h2f⟩:=Ab (.list ((c::cs).map .int)) ds (fb m) [aC 0] cI .no .no NIo.no NIo.no b1.1 b1.2 (by omega)
   refine⟨e9,_,aQ,Aa rfl ?_,h2.more (by omega),h2f⟩
   show CD _ _ _ [.fz (.list ((c::cs).map .int)),.no,.no,.no,.no]=_;unfold CD;rw[jU ne0 (jn (qw (fL i0 c7 (by decide)) c7) (by rw[h6])),zai];dsimp only
   rw[if_neg (by simp)]
   refine kJ (ρ1:=[.fz (.list ((c::cs).map .int)),.own (HD [] λ_=>⟨0,none,false,[]⟩),.no,.no,.no]) (eK rfl rfl) ?_
   have i1:IE (mOp gIx (ai 0) (mC (.int 0))) [.fz (.list ((c::cs).map .int)),.own (HD [] λ_=>⟨0,none,false,[]⟩),.no,.no,.no] c:=bC (r:=(.int 0,.fz)) (res:=(.int c,false)) (ao (ar rfl)) (ao rfl) (sO _ _ _ (Mir.ya _ _))
   refine kJ (ρ1:=[.fz (.list ((c::cs).map .int)),.own (HD (names (fb m)) cI),.own (TD [aC 0]),.no,.no]) (eK (fK (rs:=[(.str (aC 0),.fz)]) (ρ1:=[.fz (.list ((c::cs).map .int)),.own (HD (names (fb m)) cI),.no,.no,.no]) (ρ2:=[.fz (.list ((c::cs).map .int)),.own (HD (names (fb m)) cI),.no,.no,.no]) (ds:=[.str (aC 0)]) (ay (ρ1:=[.fz (.list ((c::cs).map .int)),.own (HD (names (fb m)) cI),.no,.no,.no]) (ao (Ew (d0:=.none) (i:=1) (f:=eY 12) (d:=.str (aC 0)) (o:=false) (d1:=HD (names (fb m)) cI) (s:=.own (HD [] λ_=>⟨0,none,false,[]⟩)) (s':=.own (HD [] λ_=>⟨0,none,false,[]⟩)) (ds:=[.int (m:Int),.none,.bool false,.int v]) (ρ2:=[.fz (.list ((c::cs).map .int)),.own (HD [] λ_=>⟨0,none,false,[]⟩),.no,.no,.no]) (rs:=[(.int (m:Int),.fz),(.none,.fz),(.bool false,.fz),(.int v,.fz)]) rfl (ik ((fL (rX i1 c7 ⟨by decide,by decide⟩) c7 (by decide)).is em) (ay (ao rfl) (ay (ao rfl) (ik (m4 (rs:=[(.int (c/70),.fz)]) (ik (rX i1 c7 ⟨by decide,by decide⟩) aT) hv) aT)))) rfl rfl e1)) aT) rfl (by simp)) rfl) ?_
   exact kJ (rV (ds:=ds.map .int) (ρ1:=[.fz (.list ((c::cs).map .int)),.own (HD (names (fb m)) cI),.own (TD [aC 0]),.no,.no]) (Kf (jm (show mSl gSl (ai 0) (gC (mC (.int 1))) (gC (mC (.int 12))) [.fz (.list ((c::cs).map .int)),.own (HD (names (fb m)) cI),.own (TD [aC 0]),.no,.no]=some ((.list (ds.map .int),.new),_)from by rw[<-e2];rfl))) h1) rfl
  ·exact bt (jU ne0 (jn (qw (fL i0 c7 (by decide)) c7) (by rw[zaO h6];rfl)))
inductive Hs:List Str->(Str->aK.Row)->List (Str×Str)->List Str->(Str->aK.Row)->Prop
 |nil {T:List Str} {row:Str->aK.Row}:Hs T row [] T row
 |cons {T T':List Str} {row aQ:Str->aK.Row} {x y:Str} {r:List (Str×Str)}:x∈T->y∈T->y≠x->bU (row y).key y (row x).key x=true->(row x).below.length=(row y).below.length->Hs (T.erase x) (bI row x y) r T' aQ->Hs T row ((x,y)::r) T' aQ
theorem Hs.snoc(h:Hs T row r T' aQ)(hx:x∈T')(hy:y∈T')(ne:y≠x)(lt:bU (aQ y).key y (aQ x).key x=true)(ed:(aQ x).below.length=(aQ y).below.length):Hs T row (r++[(x,y)]) (T'.erase x) (bI aQ x y):=by
 induction h with
 |nil=>exact .cons hx hy ne lt ed .nil
 |cons a b c d e _ ih=>exact .cons a b c d e (ih hx hy lt ed)
theorem Hs.len(h:Hs T row r T' aQ):T'.length+r.length=T.length:=by
 induction h with
 |nil=>rfl
 |cons a b c d e _ ih=>
  rw[List.length_erase_of_mem a]at ih;have:=List.length_pos_of_mem a;rw[zaw];omega
theorem Hs.sub(h:Hs T row r T' aQ)(nd:T.Nodup):T'.Nodup/\(∀t∈T',t∈T)/\∀m,m∉T->aQ m=row m:=by
 induction h with
 |nil=>exact⟨nd,λt ht=>ht,λ_ _=>rfl⟩
 | @cons T T' row aQ x y r a b c d e _ ih=>
  obtain⟨h1,h2,h3⟩:=ih (nd.erase _);refine⟨h1,λt ht=>List.mem_of_mem_erase (h2 t ht),λm hm=>?_⟩
  rw[h3 m λz=>hm (List.mem_of_mem_erase z),cK (λz=>hm (by rw[z];exact b)) (λz=>hm (by rw[z];exact a))]
theorem Hs.ak(h:Hs T row r T' aQ)(nd:T.Nodup)(ha:∀t∈T,(row t).above=none):T'=T.filter (λt=>(aQ t).above.isNone):=by
 induction h with
 |nil=>exact(List.filter_eq_self.mpr λt ht=>by rw[ha t ht];rfl).symm
 | @cons T T' row aQ x y r a b c d e hs ih=>
  have nx:x∉T.erase x:=λz=>((za9 nd).mp z).1 rfl
  have hx:(aQ x).above=some y:=by rw[(hs.sub (nd.erase _)).2.2 x nx,cJ c]
  rw[ih (nd.erase _) λt ht=>?_,List.Nodup.erase_eq_filter nd,List.filter_filter]
  ·refine List.filter_congr λt ht=>?_
   by_cases z:t=x
   ·subst z;rw[hx];rfl
   ·simp[z]
  ·obtain⟨z1,z2⟩:=(za9 nd).mp ht
   by_cases w:t=y
   ·subst w;rw[c8 c];exact ha t z2
   ·rw[cK w z1];exact ha t z2
section
variable{c:Nat}{ak keys:List Str}{row:Str->aK.Row}
theorem Bt.Mr(h:Bt K d ak keys row)(f:Fm keys row)(nm:∀n∈keys,∃i,i<c/\n=aC i):Bt K c ak keys row:=by
 have kl:keys.length<=c:=by
  have:=aK.js keys ((List.range c).map aC) h.nd λx hx=>by
   obtain⟨i,hi,rfl⟩:=nm x hx;exact List.mem_map_of_mem (List.mem_range.mpr hi)
  simpa using this
 exact⟨h.nd,nm,h.tn,h.tk,h.ne,h.mkd,h.ab,λn hn=>⟨zaX (aK.js _ keys (f.nd n hn) (h.bl n hn).2) kl,(h.bl n hn).2⟩,h.ho⟩
theorem Bk.hang(h:Bk c ak keys row)(f:Fm keys row)(hx:x∈ak)(hy:y∈ak)(ne:y≠x)(lt:bU (row y).key y (row x).key x=true)(ed:(row x).below.length=(row y).below.length):Bk c (ak.erase x) keys (bI row x y)/\Fm keys (bI row x y):=by
 have f':=f.hung (h.tk x hx).1 (h.tk y hy).1 ne (h.tk x hx).2 ed;exact⟨((Bt.hung h hx hy ne lt).Mr f' h.nm).re λn _=>(mQ ne n).symm,f'⟩
theorem Hs.inv(hs:Hs ak row r T' aQ):Bk c ak keys row->Fm keys row->Bk c T' keys aQ/\Fm keys aQ:=by
 induction hs with
 |nil=>exact λh f=>⟨h,f⟩
 |cons a b c' d e _ ih=>exact λh f=>ih (Bk.hang h f a b c' d e).1 (Bk.hang h f a b c' d e).2
theorem Hs.marks(hs:Hs ak row r T' aQ):Bk c ak keys row->Fm keys row->mk keys aQ=mk keys row:=by
 induction hs with
 |nil=>exact λ_ _=>rfl
 | @cons T T' row aQ x y r a b c' d e _ ih=>
  intro h f;rw[ih (Bk.hang h f a b c' d e).1 (Bk.hang h f a b c' d e).2];unfold mk
  congr 1
  refine List.filter_congr λm hm=>?_
  by_cases z:m=y
  ·subst z;rw[c8 c']
  ·by_cases w:m=x
   ·subst w
    rw[cJ c'];cases em:(row m).mark with
    |false=>rfl
    |true=>exact absurd (h.tk m a).2 (h.mkd m (h.tk m a).1 em)
   ·rw[cK z w]
end
def alL(al:List (Nat×Str)):List (D×D):=al.map λp=>(PyData.int (p.1:Int),PyData.str p.2)
abbrev AL(al:List (Nat×Str)):D:=.dict (alL al)
theorem rB(d:Nat):∀al:List (Nat×Str),gm (alL al) (.inl (d:Int))=(al.lookup d).map .str
 | []=>rfl
 |(e,t)::al=>by
  show(if keyOf (.int (e:Int))=some (.inl (d:Int))then some (.str t)else gm (alL al) (.inl (d:Int)))=_
  by_cases z:d=e
  ·subst z
   rw[if_pos (show keyOf (PyData.int (d:Int))=some (.inl (d:Int))from rfl),za8,beq_self_eq_true];rfl
  ·rw[if_neg (λw=>z (by
    have:(e:Int)=(d:Int):=by injection w with w;injection w
    omega)),za8,beq_eq_false_iff_ne.mpr z,rB d al]
theorem HI(d:Nat)(al:List (Nat×Str)):qB (alL al) (.inl (d:Int))=alL (al.filter λp=>decide (p.1≠d)):=by
 unfold qB alL;rw[List.filter_map]
 congr 1
 refine List.filter_congr λp _=>?_
 have:(keyOf (PyData.int (p.1:Int))≠some (Sum.inl (d:Int)))↔p.1≠d:=by
  refine⟨λh e=>h (by rw[e];rfl),λh w=>h ?_⟩
  have w':some (Sum.inl (p.1:Int):Key)=some (Sum.inl (d:Int)):=w;have:(p.1:Int)=(d:Int):=by injection w' with w;injection w
  omega
 exact decide_eq_decide.mpr this
theorem KU{al:List (Nat×Str)}(h:al.lookup d=none)(t:Str):putD (alL al) (.int (d:Int)) (.str t) (.inl (d:Int))=alL (al++[(d,t)]):=by
 unfold putD;rw[rB,h];show(if false=true then _ else _)=_
 rw[if_neg zam];unfold alL;rw[za1];rfl
theorem Jk(d:Nat)(al:List (Nat×Str)):E9 (.int (d:Int)) (AL al)=some (.bool (al.lookup d).isSome,false):=by
 show some (PyData.bool (gm (alL al) (.inl (d:Int))).isSome,false)=_;rw[rB];cases al.lookup d<;>rfl
theorem HJ(x y:Str):PyData.eqv (.str x) (.str y)=decide (x=y):=by
 simp only[PyData.eqv]
 by_cases e:x=y
 ·subst e;simp
 ·simp[e]
theorem iy:∀a b:List Str,PyData.eqvAll (a.map .str) (b.map .str)=decide (a=b)
 | [],[]=>by simp[PyData.eqvAll]
 | [],_::_=>by simp[PyData.eqvAll]
 |_::_,[]=>by simp[PyData.eqvAll]
 |x::a,y::b=>by
  simp only[List.map_cons,PyData.eqvAll];rw[HJ,iy a b,Bool.eq_iff_iff];simp
theorem KW(ha:∀x∈a,PyData.strOk x=true)(hb:∀x∈b,PyData.strOk x=true):gNe (TD a) (TD b)=some (.bool (!decide (a=b)),false):=by
 unfold gNe;rw[if_pos ⟨nD ha,nD hb⟩];show some (PyData.bool (!PyData.eqvAll (a.map .str) (b.map .str)),false)=_;rw[iy]
variable{keys:List Str}{row:Str->aK.Row}{ak:List Str}{c:Nat}
theorem Ac(keys:List Str)(row:Str->aK.Row)(n:Str):k8 (.str n) (HD keys row)=some (.bool (!decide (n∈keys)),false):=by
 show some (PyData.bool (!(gm (cB keys row) (.inr n)).isSome),false)=_;rw[i7]
 by_cases h:n∈keys
 ·rw[if_pos h,zaH h];rfl
 ·rw[if_neg h,zaO h];rfl
theorem qG(hn:n∈keys):d8 [HD keys row,.str n]=some (.tuple [.int (row n).key,.str n],false) :=
 eO (o:=.rt (.tuple [.int (row n).key,.str n],.fz) [.fz (HD keys row),.fz (.str n)]) rfl (du (dN (rs:=[(.int (row n).key,.fz),(.str n,.fz)]) (ik (jI (cy (.inl rfl) hn (ar rfl))) (ay (ao (ar rfl)) aT)) rfl (by simp))) rfl
theorem KY{dv:PM}{ρ:Rho}{ys:List D}(h1:dv ρ=some ((HD keys row,.fz),ρ))(hr:qP ρ=true)(h2:kf cc e (fr.map λp=>cb ρ p.2) (keys.map .str)=some ys)(h3:ys.length<=100000):Fh fr dv cc e ρ=some ((.list ys,.new),ρ):=by
 unfold Fh;rw[h1,zai];dsimp only[uM,Option.bind_some];rw[if_pos hr,uR,h2,zai,b7 (xY h3)]
theorem uY(hkl:keys.length<=950):fR [.tuple [TD ak,HD keys row]]=some (.int ((ak.length:Int)+2*((keys.filter λn=>(row n).mark).length:Int)),false):=by
 have fl:(keys.filter λn=>(row n).mark).length<=1000:=zaX (zaY _ _) (by omega)
 have f1:Fh [("pile",0)] (KA (yn 0) 1) lX lY [.fz (.tuple [TD ak,HD keys row]),.no]=some ((TD (keys.filter λn=>(row n).mark),.new),[.fz (.tuple [TD ak,HD keys row]),.no]):=by
  refine KY rfl rfl ?_ (by rw[zal];omega)
  refine fw (p:=λn=>(row n).mark) keys (λn hn=>⟨_,test_ev (k:=.fz) (mO (pW hn (ao (bC (r:=(.int 1,.fz)) (res:=(HD keys row,false)) (ao (ar rfl)) (ao rfl) rfl)) (ar rfl)))⟩) λn hn=>⟨_,ao (ar rfl)⟩
 have l0:IE (mCB cX (aj (mOp gIx (ai 0) (mC (.int 0))) aI)) [.fz (.tuple [TD ak,HD keys row]),.own (TD (keys.filter λn=>(row n).mark))] (ak.length:Int):=eS (rs:=[(TD ak,.fz)]) (res:=(.int (ak.length:Int),false)) (ay (ao (bC (r:=(.int 0,.fz)) (res:=(TD ak,false)) (ao (ar rfl)) (ao rfl) rfl)) aT) (by show some (PyData.int ((ak.map PyData.str).length:Int),false)=_;rw[zal])
 have l1:IE (mCB cX (aj (ai 1) aI)) [.fz (.tuple [TD ak,HD keys row]),.own (TD (keys.filter λn=>(row n).mark))] ((keys.filter λn=>(row n).mark).length:Int):=rA (.inr (.inl rfl))
 exact eO (o:=.rt (.int ((ak.length:Int)+2*((keys.filter λn=>(row n).mark).length:Int)),.fz) [.fz (.tuple [TD ak,HD keys row]),.own (TD (keys.filter λn=>(row n).mark))]) rfl (aX (eK f1 rfl) (du (jV l0 (zK c7 l1 (IG (.inl ⟨by omega,by omega⟩)))))) rfl
theorem HK{c:Str}(h1:a ρ=some (.er c ρ1)):zL a b ρ=some (.er c ρ1):=by unfold zL;rw[h1];rfl
theorem Ms{c:Rho->Option (Bool×Rho)}(h1:c ρ=some (true,ρ1))(h2:a ρ1=o):eIf c a b ρ=o:=by unfold eIf;rw[h1,zai];dsimp only;rw[if_pos rfl,h2]
theorem FT{c:Str}{ρ:Rho}(hl:ds.length=n)(h:b (ds.map .fz++List.replicate k .no)=some (.er c ρ)):fnX n k b ds=some (.inr c):=by
 unfold fnX;rw[if_pos hl,h];rfl
theorem KZ{ρ ρ1 ρ2 ρ3 ρ4:Rho}{rs:List RV}{c:Str}{s:SM}(h1:m ρ=some (rs,ρ1))(h2:f (rs.map (·.1))=some (.inr c))(h3:su c=some s)(h4:Et ρ1=true)(h5:fC ρ1 i .ex=some ρ2)(h6:s ρ2=some (.nx ρ3))(h7:fC ρ3 i .no=some ρ4)(h8:Et ρ4=true):A8 f m i su ρ=some (.nx ρ4):=by
 unfold A8;rw[h1,zai];dsimp only
 rw[h2,zai];dsimp only
 rw[h3,zai,if_pos h4,h5,zai,h6,zai];unfold IH;dsimp only;rw[h7,zai,if_pos h8]
theorem FU{ds:List D}{c:Str}(h1:m ρ=some (rs,ρ1))(h2:gA rs ρ1=some (ds,ρ2))(h3:f ds=some (.inr c)):nY f m ρ=some (.inr (c,ρ2)):=by
 unfold nY;rw[h1,zai];dsimp only;rw[h2,zai];dsimp only;rw[h3];rfl
theorem Mt{c:Str}(h:m ρ=some (.inr (c,ρ1))):eX k m ρ=some (.er c ρ1):=by
 unfold eX;rw[h,zai]
abbrev PD(ak keys:List Str)(row:Str->aK.Row):D:=.tuple [TD ak,HD keys row]
theorem nU(h : ρ[i]?=some (.fz (PD ak keys row))):mOp gIx (ai i) (mC (.int 1)) ρ=some ((HD keys row,.fz),ρ):=bC (r:=(.int 1,.fz)) (res:=(HD keys row,false)) (ao (ar h)) (ao rfl) rfl
theorem uZ(h : ρ[i]?=some (.fz (PD ak keys row))):mOp gIx (ai i) (mC (.int 0)) ρ=some ((TD ak,.fz),ρ):=bC (r:=(.int 0,.fz)) (res:=(TD ak,false)) (ao (ar h)) (ao rfl) rfl
theorem o5(h : ρ[i]?=some (.fz (PD ak keys row)))(hj : ρ[j]?=some (.fz (.str n))):BE (mOp k8 (ai j) (mOp gIx (ai i) (mC (.int 1)))) ρ (!decide (n∈keys)):=bC (r:=(HD keys row,.fz)) (res:=(.bool (!decide (n∈keys)),false)) (ao (ar hj)) (ao (nU h)) (Ac keys row n)
theorem HL(hn:n∈keys):gG [PD ak keys row,.str n]=some (.none,false) :=
 eO (o:=.nx [.fz (PD ak keys row),.fz (.str n)]) rfl (kX (jn (o5 (i:=0) (j:=1) rfl rfl) (by rw[zaH hn];rfl)) rfl) rfl
theorem FV(hn:n∉keys):iU [PD ak keys row,.str n]=some (.inr "Lacking") :=
 FT (ρ:=[.fz (PD ak keys row),.fz (.str n)]) rfl (Ms (jn (o5 (i:=0) (j:=1) rfl rfl) (by rw[zaO hn];rfl)) rfl)
def rOk(r:aK.Row):Prop:=(∀a,r.above=some a->PyData.strOk a=true)/\∀b∈r.below,PyData.strOk b=true
theorem sX(h:rOk r):SeqAt.shaped (bf r)=true:=by
 obtain⟨h1,h2⟩:=mR h.2;have ha:PyData.canLay0 (bg r.above)=true/\PyData.depth (bg r.above)=0:=by
  cases e:r.above with
  |none=>exact⟨rfl,by simp[bg,PyData.depth]⟩
  |some a=>exact⟨by simp only[bg,PyData.canLay0,h.1 a e],by simp[bg,PyData.depth]⟩
 unfold SeqAt.shaped bf;rw[zaH (by simp only[PyData.depth,PyData.depthAll,ha.2];omega),Bool.and_true]
 simp only[PyData.canLay0,PyData.canLayAll0,ha.1,h1,Bool.and_true,Bool.true_and]
theorem HM(r:aK.Row):PyData.eqv (bf r) (bf r)=true:=by
 unfold bf;cases r.above with
 |none=>simp[bg,PyData.eqv,PyData.eqvAll,iy]
 |some a=>simp[bg,PyData.eqv,PyData.eqvAll,iy]
theorem entry_is(h:rOk r):gF [bf r,bf r]=some (.bool true,false):=by
 have t1:mOr (ig (aO (nP "tuple" (ai 0)))) (mOr (aO (mOp gNe (mCB cX (aj (ai 0) aI)) (mC (.int 4)))) (ig (aO (nP "tuple" (mOp gIx (ai 0) (mC (.int 3))))))) [.fz (bf r),.fz (bf r)]=some (false,[.fz (bf r),.fz (bf r)]) :=
  jU (gE (test_ev (k:=.fz) (v:=true) (mq (ao (ar rfl)) (eu _)))) (jU (jn (qw (eS (rs:=[(bf r,.fz)]) (res:=(.int 4,false)) (ay (ao (ar rfl)) aT) rfl) c7) rfl) (gE (test_ev (k:=.fz) (v:=true) (mq (ao (fu (ar rfl))) (eu _)))))
 have t2:mOr (aO (nP "bool" (mOp gIx (ai 0) (mC (.int 0))))) (ig (aO (nP "bool" (mOp gIx (ai 0) (mC (.int 2)))))) [.fz (bf r),.fz (bf r)]=some (false,[.fz (bf r),.fz (bf r)]) :=
  jU (test_ev (k:=.fz) (v:=false) (mq (ao (jI (ar rfl))) (kW _))) (gE (test_ev (k:=.fz) (v:=true) (mq (ao (mO (ar rfl))) (by simp[mj,tyD,dR,oD]))))
 refine eO (o:=.rt (.bool true,.fz) [.fz (bf r),.fz (bf r)]) rfl (aX (kX t1 rfl) (aX (kX t2 rfl) (du (bC (r:=(bf r,.fz)) (res:=(.bool true,false)) (ao (ar rfl)) (ao (ar rfl)) ?_)))) rfl;show gEq (bf r) (bf r)=_;unfold gEq;rw[if_pos ⟨sX h,sX h⟩,HM]
theorem wY(h1:sv a ρ=some ((d,k),ρ1))(h2:yA n d=some (.bool v,false)):oT n a ρ=some ((.bool v,.fz),ρ1):=by
 unfold oT mUn;rw[h1,zai];dsimp only;rw[h2];rfl
theorem HN{dv:PM}{o:Out}(h1:dv ρ=some ((HD keys row,.fz),ρ1))(hr:qP ρ=true)(h2:forL g b (keys.map λn=>PyData.tuple [.str n,bf (row n)]) ρ1=some o)(h3:qP (Kz o)=true):BA dv g b ρ=some o:=by
 unfold BA;rw[h1,zai];dsimp only[uM,Option.bind_some];rw[if_pos hr,show mB (cB keys row)=keys.map λn=>PyData.tuple [.str n,bf (row n)]from by unfold mB cB;rw[List.map_map];rfl,h2,zai,if_pos h3]
theorem C8(T:D):∀(l:List Str) (x y:D),(∀n∈l,n∈keys)->(∀n∈keys,rOk (row n))->∃x' y',forL (mgU 2 (bV (mgN 3) (bV (mgN 4) iE))) fV (l.map λn=>PyData.tuple [.str n,bf (row n)]) [.fz (PD ak keys row),.fz T,.fz (HD keys row),.fz x,.fz y]=some (.nx [.fz (PD ak keys row),.fz T,.fz (HD keys row),.fz x',.fz y']):=by
 intro l
 induction l with
 |nil=>intro x y _ _;exact⟨x,y,rfl⟩
 |cons n l ih=>
  intro x y hl hk;obtain⟨x',y',h1⟩:=ih (.str n) (bf (row n)) (λm hm=>hl m (zak _ hm)) hk
  have hn:=hl n zas;refine⟨x',y',?_⟩;rw[zaz];refine ki (ρ1:=[.fz (PD ak keys row),.fz T,.fz (HD keys row),.fz (.str n),.fz (bf (row n))]) rfl ?_ h1;refine kX (jU (jn (o5 (i:=0) (j:=3) rfl rfl) (by rw[zaH hn];rfl)) (gE (v:=true) ?_)) rfl
  exact(kY (rs:=[(bf (row n),.fz),(bf (row n),.fz)]) (ay (ao (pW hn (ao (nU rfl)) (ar rfl))) (ay (ao (ar rfl)) aT)) (entry_is (hk n hn))).t
theorem BP(hk:∀n∈keys,rOk (row n))(ht:∀t∈ak,PyData.strOk t=true):cT [PD ak keys row,TD ak,HD keys row]=some (.bool true,false):=by
 have t1:mOr (ig (aO (oT "tuple" (ai 0)))) (mOr (aO (mOp gNe (mCB cX (aj (ai 0) aI)) (mC (.int 2)))) (mOr (ig (aO (oT "list" (mOp gIx (ai 0) (mC (.int 0)))))) (aO (mOp gNe (mOp gIx (ai 0) (mC (.int 0))) (ai 1))))) [.fz (PD ak keys row),.fz (TD ak),.fz (HD keys row),.no,.no]=some (false,[.fz (PD ak keys row),.fz (TD ak),.fz (HD keys row),.no,.no]) :=
  jU (gE (test_ev (k:=.fz) (v:=true) (wY (ao (ar rfl)) (by simp[yA,mj,tyD,dR,oD])))) (jU (jn (qw (eS (rs:=[(PD ak keys row,.fz)]) (res:=(.int 2,false)) (ay (ao (ar rfl)) aT) rfl) c7) rfl) (jU (gE (test_ev (k:=.fz) (v:=true) (wY (ao (uZ rfl)) (by simp[yA,mj,tyD,dR,oD])))) (test_ev (k:=.fz) (v:=false) (bC (r:=(TD ak,.fz)) (res:=(.bool false,false)) (ao (uZ rfl)) (ao (ar rfl)) (by rw[KW ht ht,zaH rfl];rfl)))))
 have l0:IE (mCB my (aj (mOp gIx (ai 0) (mC (.int 1))) aI)) [.fz (PD ak keys row),.fz (TD ak),.fz (HD keys row),.no,.no] (keys.length:Int):=eS (rs:=[(HD keys row,.fz)]) (res:=(.int (keys.length:Int),false)) (ay (ao (nU rfl)) aT) (by show some (PyData.int ((cB keys row).length:Int),false)=_;rw[oY])
 have t2:mOr (ig (aO (oT "dict" (mOp gIx (ai 0) (mC (.int 1)))))) (aO (mOp gNe (mCB my (aj (mOp gIx (ai 0) (mC (.int 1))) aI)) (mCB my (aj (ai 2) aI)))) [.fz (PD ak keys row),.fz (TD ak),.fz (HD keys row),.no,.no]=some (false,[.fz (PD ak keys row),.fz (TD ak),.fz (HD keys row),.no,.no]) :=
  jU (gE (test_ev (k:=.fz) (v:=true) (wY (ao (nU rfl)) (by simp[yA,dR,oD])))) (jn (qw l0 (rl (.inl rfl))) (by simp))
 have lp:∃s t,forL (mgU 2 (bV (mgN 3) (bV (mgN 4) iE))) fV (keys.map λn=>PyData.tuple [.str n,bf (row n)]) [.fz (PD ak keys row),.fz (TD ak),.fz (HD keys row),.no,.no]=some (.nx [.fz (PD ak keys row),.fz (TD ak),.fz (HD keys row),s,t])/\qP [.fz (PD ak keys row),.fz (TD ak),.fz (HD keys row),s,t]=true:=by
  have gen:∀l:List Str,(∀n∈l,n∈keys)->∃s t,forL (mgU 2 (bV (mgN 3) (bV (mgN 4) iE))) fV (l.map λn=>PyData.tuple [.str n,bf (row n)]) [.fz (PD ak keys row),.fz (TD ak),.fz (HD keys row),.no,.no]=some (.nx [.fz (PD ak keys row),.fz (TD ak),.fz (HD keys row),s,t])/\qP [.fz (PD ak keys row),.fz (TD ak),.fz (HD keys row),s,t]=true:=λl hl=>by
   cases l with
   |nil=>exact⟨.no,.no,rfl,rfl⟩
   |cons n l=>
    have hn:=hl n zas;obtain⟨x',y',h1⟩:=C8 (ak:=ak) (TD ak) l (.str n) (bf (row n)) (λm hm=>hl m (zak _ hm)) hk
    refine⟨.fz x',.fz y',?_,rfl⟩;rw[zaz];refine ki (ρ1:=[.fz (PD ak keys row),.fz (TD ak),.fz (HD keys row),.fz (.str n),.fz (bf (row n))]) rfl ?_ h1;refine kX (jU (jn (o5 (i:=0) (j:=3) rfl rfl) (by rw[zaH hn];rfl)) (gE (v:=true) ?_)) rfl
    exact(kY (rs:=[(bf (row n),.fz),(bf (row n),.fz)]) (ay (ao (pW hn (ao (nU rfl)) (ar rfl))) (ay (ao (ar rfl)) aT)) (entry_is (hk n hn))).t
  exact gen keys λn hn=>hn
 obtain⟨s,t,h1,h2⟩:=lp;exact eO (o:=.rt (.bool true,.fz) [.fz (PD ak keys row),.fz (TD ak),.fz (HD keys row),s,t]) rfl (aX (kX t1 rfl) (aX (kX t2 rfl) (aX (HN (ρ1:=[.fz (PD ak keys row),.fz (TD ak),.fz (HD keys row),.no,.no]) rfl rfl h1 h2) (du rfl)))) rfl
theorem u5(r:aK.Row):kG [bf r]=some (bf ⟨r.key,none,false,r.below⟩,false) :=
 eO (o:=.rt (bf ⟨r.key,none,false,r.below⟩,.fz) [.fz (bf r)]) rfl (du (dN (rs:=[(.int r.key,.fz),(.none,.fz),(.bool false,.fz),(.tuple (r.below.map .str),.fz)]) (ay (ao (jI (ar rfl))) (ay (ao rfl) (ay (ao rfl) (ay (ao (fu (ar rfl))) aT)))) rfl (by simp))) rfl
theorem wZ(r:aK.Row):jG [bf r]=some (bf ⟨r.key,r.above,true,r.below⟩,false) :=
 eO (o:=.rt (bf ⟨r.key,r.above,true,r.below⟩,.fz) [.fz (bf r)]) rfl (du (dN (rs:=[(.int r.key,.fz),(bg r.above,.fz),(.bool true,.fz),(.tuple (r.below.map .str),.fz)]) (ay (ao (jI (ar rfl))) (ay (ao (eD (ar rfl))) (ay (ao rfl) (ay (ao (fu (ar rfl))) aT)))) rfl (by simp))) rfl
theorem Ad(hb:∀b∈r.below,PyData.strOk b=true)(hl:r.below.length<=1000)(hn:PyData.strOk n=true):nj [bf r,.str n]=some (bf ⟨r.key,r.above,r.mark,r.below.filter λx=>!decide (x=n)⟩,false):=by
 refine eO (o:=.rt (bf ⟨r.key,r.above,r.mark,r.below.filter λx=>!decide (x=n)⟩,.fz) [.fz (bf r),.fz (.str n)]) rfl (du (dN (rs:=[(.int r.key,.fz),(bg r.above,.fz),(.bool r.mark,.fz),(.tuple ((r.below.filter λx=>!decide (x=n)).map .str),.fz)]) (ay (ao (jI (ar rfl))) (ay (ao (eD (ar rfl))) (ay (ao (mO (ar rfl))) (ay (ao ?_) aT)))) rfl (by simp))) rfl
 refine eS (rs:=[(.list ((r.below.filter λx=>!decide (x=n)).map .str),.fz)]) (res:=(.tuple ((r.below.filter λx=>!decide (x=n)).map .str),true)) (ay (jm (uG (wW (ao (fu (ar rfl)))) (fw (p:=λx=>!decide (x=n)) _ (λx hx=>⟨_,test_ev (k:=.fz) (bC (r:=(.str n,.fz)) (res:=(.bool (!decide (x=n)),false)) (ao (ar rfl)) (ao (ar rfl)) (rn (hb x hx) hn))⟩) λx hx=>⟨_,ao (ar rfl)⟩) (by rw[zal];exact zaX (zaY _ _) (by omega)))) aT) rfl
theorem Ae(h:Bt K c ak keys row)(x:D):∀(C:List Str) (n L a:Str) (pre:List Str) (fuel:Nat),Ch row n C L->n∈keys->(row n).above=some a->pre.length+C.length<=1000->C.length<=fuel->
  fH kE kF fuel [.fz (HD keys row),.fz x,.own (TD (pre++[n])),.fz (.str a)]=some (.nx [.fz (HD keys row),.fz x,.own (TD (pre++C)),.fz (.str L)]):=by
 intro C
 induction C with
 |nil=>intro n L a pre fuel hch;cases hch
 |cons y C ih=>
  intro n L a pre fuel hch hn ha hl hf;rw[zaw]at hl hf;obtain⟨fuel,rfl⟩:∃k,fuel=k+1:=⟨fuel-1,by omega⟩
  have hk:=h.ab n hn a ha;cases hch with
  |one hb hm=>
   rw[ha]at hb;cases hb;exact i6 (test_ev (k:=.fz) (by rw[<-hm];exact mO (cy (.inl rfl) hk (ar rfl))))
  |more hb hm hch=>
   rw[ha]at hb;cases hb;obtain⟨b,eb⟩:∃b,(row a).above=some b:=by cases hch with|one e _=>exact⟨_,e⟩|more e _ _=>exact⟨_,e⟩
   have h1:=ih a L b (pre++[y]) fuel hch hk eb (by rw[zau,za7];omega) (by omega)
   rw[zaD pre [y] C]at h1;refine oI (ρ1:=[.fz (HD keys row),.fz x,.own (TD (pre++[y])),.fz (.str a)]) (test_ev (k:=.fz) (by rw[<-hm];exact mO (cy (.inl rfl) hk (ar rfl)))) ?_ h1
   refine aX (ρ1:=[.fz (HD keys row),.fz x,.own (TD (pre++[y]++[a])),.fz (.str a)]) (iS (pX (rs:=[(.str a,.fz)]) rfl rfl rfl rfl (sS _ (by rw[zal,zau,za7];omega)) (by rw[kI];rfl))) ?_
   exact dw (eD (cy (.inl rfl) hk (ar rfl))) (by rw[eb];rfl)
theorem FW(h:Bt K c ak keys row)(hn:n∈keys)(hch:Ch row n C L)(hl:C.length<=900):gH [HD keys row,.str n]=some (TD C,true):=by
 obtain⟨a,ea⟩:∃a,(row n).above=some a:=by cases hch with|one e _=>exact⟨_,e⟩|more e _ _=>exact⟨_,e⟩
 have h1:=Ae h (.str n) C n L a [] 1000000 hch hn ea (by simp;omega) (by omega)
 rw[List.nil_append,List.nil_append]at h1;refine eO (o:=.rt (TD C,.at 2) [.fz (HD keys row),.fz (.str n),.own (TD C),.fz (.str L)]) rfl ?_ rfl;refine aX (ρ1:=[.fz (HD keys row),.fz (.str n),.own (TD [n]),.no]) (eK (fK (rs:=[(.str n,.fz)]) (ay (ao (ar rfl)) aT) rfl (by simp)) rfl) ?_
 refine aX (ρ1:=[.fz (HD keys row),.fz (.str n),.own (TD [n]),.fz (.str a)]) (dw (eD (cy (.inl rfl) hn (ar rfl))) (by rw[ea];rfl)) ?_
 exact aX h1 (du (hU rfl))
section
variable{α β:Type}
theorem eL(h:m s=some (.ok v s')):bN m k s=k v s':=by unfold bN;rw[h]
theorem iP(h:m s=some (.ok v s')):bS m k s=k v s':=by unfold bS;rw[h]
theorem aR(h:a s=some (.nx s'))(h2:b s'=o):bX a b s=o:=by unfold bX;rw[h];exact h2
theorem HP(h:a s=some (.rt r s')):bX a b s=some (.rt r s'):=by unfold bX;rw[h]
theorem BQ{c:MN Bool}(h:c s=some (.ok true s'))(h2:a s'=o):kq c a b s=o:=by unfold kq;rw[iP h,if_pos rfl];exact h2
theorem kM{c:MN Bool}(h:c s=some (.ok false s'))(h2:b s'=o):kq c a b s=o:=by unfold kq;rw[iP h,if_neg zam];exact h2
theorem cz(h:a s=some (.ok x s'))(hi:i<s'.t.length):dO a (ngN i) s=some (.nx ⟨s'.S,s'.t.set i (some x)⟩):=by unfold dO;rw[iP h];unfold ngN;rw[if_pos hi]
theorem jK(h:a s=some (.ok x s')):jW a s=some (.rt x s'):=by unfold jW;rw[iP h]
theorem eA(h:a s=some (.ok x s')):iO a s=some (.nx s'):=by unfold iO;rw[iP h]
theorem aF(h:s.t[i]?=some (some x)):bw i s=some (.ok x s):=by unfold bw;rw[h]
theorem aS(h:a s=some (.ok x s1))(h2:m s1=some (.ok xs s2)):aP a m s=some (.ok (x::xs) s2):=by unfold aP;rw[eL h,eL h2]
theorem FX(h:a s=some (.ok (.pl (.bool b)) s')):ye a s=some (.ok b s'):=by unfold ye;rw[eL h]
theorem HQ(h:a s=some (.ok b s')):G5 a s=some (.ok (!b) s'):=by unfold G5;rw[eL h];rfl
theorem Mu(h:a s=some (.ok false s'))(h2:b s'=r):nOr a b s=r:=by unfold nOr;rw[eL h,if_neg zam];exact h2
theorem iA(h:m s=some (.ok xs s1))(h2:f s1.S xs=some (.ok r S')):lT f m s=some (.ok r ⟨S',s1.t⟩):=by unfold lT;rw[eL h,h2];rfl
theorem gS:nLit d s=some (.ok (.pl d) s):=rfl
theorem cR:cu s=some (.ok [] s):=rfl
theorem Af(h0:xs.length=n)(h1:b ⟨S,xs.map some++List.replicate k none⟩=some o)(h2:retS S.length o=some w):fnS n k b S xs=some w:=by
 unfold fnS;rw[if_pos h0,h1];exact h2
end
theorem u9(h:Be n S=true){c:Cl}(hc:some c∈S.take n):blC n c=true:=by
 unfold Be at h;exact(List.all_eq_true.mp h) _ hc
theorem BR{c:Option Cl}(h:∀d,c=some d->blC n d=true):gcC n c=c:=by
 cases c with
 |none=>rfl
 |some d=>simp only[gcC,h d rfl,if_true]
theorem bM{α:Type}{S X:List α}{j:Nat}{c : α}(h:S[j]?=some c):(S++X)[j]?=some c:=by
 rw[zax (zac h).1];exact h
theorem HR(h:∀y,x=some y->blV n y=true):gcV n x=x:=by
 cases x with
 |none=>rfl
 |some y=>simp only[gcV,h y rfl,if_true]
def l4(n:Nat)(t:List (Option SV)):Bool:=t.all λx=>match x with
 |some x=>blV n x
 |none=>true
theorem HS(h:l4 n t=true)(hx:some x∈t):blV n x=true:=(List.all_eq_true.mp h) _ hx
theorem HU(h:l4 n t=true):gcT n t=t:=by
 unfold gcT;refine(List.map_congr_left λc hc=>HR λd e=>?_).trans (List.map_id _)
 subst e;exact HS h hc
theorem b3(h:S[j]?=some (some (.dat d))):rdV S (.lc j)=some d:=by simp only[rdV,h]
theorem Mv:rdV S (.pl d)=some d:=by simp only[rdV]
theorem a8{k:Nat}(h:s.t[k]?=some (some x))(e:rdV s.S x=some d):(vw s)[k]?=some (.fz d):=by
 unfold vw;rw[zao,h];simp only[Option.map_some,CK,e]
theorem dQ{k:Nat}(h:s.t[k]?=some (some (.pl d))):(vw s)[k]?=some (.fz d):=a8 h Mv
theorem FY{k:Nat}(h:s.t[k]?=some (some (.pl d))):(vwC s)[k]?=some (.fz d):=by
 unfold vwC;rw[zao,h];rfl
theorem jL{m:PM}(h:m (vw s)=some ((d,.fz),ρ))(hp:eQ d=true):nO m s=some (.ok (.pl d) s):=by
 unfold nO;rw[h,zai];dsimp only;rw[if_pos hp]
theorem BS(h:IE m (vw s) i):nO m s=some (.ok (.pl (.int i)) s):=jL h rfl
theorem Jl(h:BE m (vw s) b):nO m s=some (.ok (.pl (.bool b)) s):=jL h rfl
theorem iI{m:PM}(h:m (vw s)=some ((d,.new),ρ))(hp:fB d true=true):nO m s=some (.ok (.lc s.S.length) ⟨s.S++[some (.dat d)],s.t⟩):=by
 unfold nO;rw[h,zai];dsimp only;rw[if_pos hp];rfl
theorem gg(h:m (vw s)=some (b,ρ)):nTo m s=some (.ok b s):=by unfold nTo;rw[h];rfl
theorem dB(h1:a s=some (.ok x s1))(h2:b s1=some (.ok (.pl (.int i)) s2))(h3:ixV s2.S x i=some y):nIx a b s=some (.ok y s2):=by
 unfold nIx;rw[eL h1,eL h2];simp only[h3,Option.map_some]
theorem Jm:EG cu s=some (.ok (.lc s.S.length) ⟨s.S++[some (.dat (.list []))],s.t⟩):=by
 unfold EG;rw[eL (show cu s=some (.ok [] s)from rfl),b7 (show([]:List SV).length<=sizeLine from Nat.zero_le _)];rfl
theorem nF(h:m s=some (.ok xs s1))(h1:iM xs=some ds)(h2:xs.length<=100):kn m s=some (.ok (.pl (.tuple ds)) s1):=by
 unfold kn;rw[eL h,b7 (uE (by omega))]
 simp only[mkT,h1]
theorem nG{ds:List D}{d:D}{ds0:List D}(h:a s=some (.ok (.lc k) s1))(h0:s1.S[k]?=some (some (.dat (.list ds0))))(h1:m s1=some (.ok [.pl d] s2))(h2:s2.S[k]?=some (some (.dat (.list ds))))(h3:ds.length<=100000):wc a m s=some (.ok (.pl .none) ⟨s2.S.set k (some (.dat (.list (ds++[d])))),s2.t⟩):=by
 unfold wc yh;rw[eL h];simp only[sh,h0,if_true];rw[eL h1];simp only[G9,h2,b7 (xY h3)]
theorem yP:gu n kp (λ_=>True) g b [] s=some (.nx s):=by unfold gu;rw[b7 trivial]
theorem vc(h1:g d s=some (.nx s1))(h2:b s1=some (.nx s2))(h3:gcE n kp s2=s3)(h4:gu n kp (λ_=>True) g b ds s3=o):gu n kp (λ_=>True) g b (d::ds) s=o:=by
 unfold gu;rw[b7 trivial,h1];dsimp only;rw[h2];dsimp only;rw[h3];exact h4
theorem BU(h1:it (vwC s)=some (ds,ρ))(h2:gu s.S.length kp (λ_=>True) g b (ds.map .pl) s=o):EL kp it g b s=o:=by unfold EL;rw[h1,zai];exact h2
theorem qb(h:i<s.t.length):ngN i x s=some (.nx ⟨s.S,s.t.set i (some x)⟩):=by unfold ngN;rw[if_pos h]
abbrev dt(d:D):Option Cl:=some (.dat d)
section
variable{α:Type}
theorem ap0{a : α}:(S++a::X)[S.length]?=some a:=by rw[zaN (zap _),Nat.sub_self];rfl
theorem apk{S X:List α}(h:X[k]?=some a):(S++X)[S.length+k]?=some a:=by rw[zaN (Nat.le_add_right _ _),Nat.add_sub_cancel_left];exact h
theorem Ah{a b : α}:(S++a::X).set S.length b=S++b::X:=by
 rw[List.set_append_right _ _ (zap _),Nat.sub_self];rfl
theorem dZ{S:List α}(h:S[i]?=some a):i<S.length:=(zac h).1
end
theorem Ai(l:List Str):eQ (.tuple (l.map .str))=true:=by
 show bc (l.map .str)=true;exact i8 l
theorem dG(r:aK.Row):eQ (bf r)=true:=by
 unfold bf;have:eQ (bg r.above)=true:=by cases r.above<;>rfl
 simp only[eQ,bc,this,i8,Bool.and_true]
theorem nH(keys:List Str)(row:Str->aK.Row):fB (HD keys row) true=true:=by
 show bc ((cB keys row).map (·.2))=true
 unfold cB;rw[List.map_map]
 induction keys with
 |nil=>rfl
 |cons n l ih=>simp only[List.map_cons,bc,Function.comp,dG,Bool.true_and];exact ih
theorem jM(l:List Str):fB (TD l) true=true:=i8 l
theorem kN(hn:S.length<=n)(ht:l4 n t=true):gcE n kp ⟨S,t⟩=⟨S,t⟩:=by
 unfold gcE;split
 ·rename_i h
  rw[Bool.and_eq_true]at h;unfold gc;dsimp only;rw[HU ht]
  congr 1
  unfold gcS;rw[List.take_of_length_le hn];refine(List.map_congr_left λc hc=>BR λd e=>?_).trans (List.map_id _)
  subst e;exact u9 h.1 (by rw[List.take_of_length_le hn];exact hc)
 ·rfl
theorem nI(h0:ok s):gu n kp ok g b [] s=some (.nx s):=by unfold gu;rw[b7 h0]
theorem lr(h0:ok s)(h1:g d s=some (.nx s1))(h2:b s1=some (.nx s2))(h3:gcE n kp s2=s3)(h4:gu n kp ok g b ds s3=o):gu n kp ok g b (d::ds) s=o:=by
 unfold gu;rw[b7 h0,h1];dsimp only;rw[h2];dsimp only;rw[h3];exact h4
theorem lu(hv:v s=some (.ok (.pl (bf r)) s1))(hd:d s1=some (.ok (.lc j) s2))(hk:k s2=some (.ok (.pl (.str n)) s3))(hj:s3.S[j]?=some (dt (HD keys row)))(hl:keys.length<=1000):kD d k v s=some (.nx ⟨s3.S.set j (dt (HD (C4 keys n) (aW row n r))),s3.t⟩):=by
 unfold kD;rw[iP hv,iP hd,iP hk];unfold Hr;dsimp only[keyOf,Option.bind_some];rw[hj];dsimp only;rw[b7 (by rw[oY];omega),yI]
theorem o6{s s1:SS}{k:Nat}{ds:List D}{o:Option iF}(h:a s=some (.ok (.lc k) s1))(hk:s1.S[k]?=some (dt (.list ds)))(h2:gu s1.S.length kp (stays (.lc k) (ds.map .pl)) g b (ds.map .pl) s1=o):sg kp a g b s=o:=by
 unfold sg;rw[iP h];simp only[tS,hk,Option.bind_some];exact h2
theorem ju{ds:List D}(h:S[k]?=some (dt (.list ds))):stays (.lc k) (ds.map .pl) ⟨S,t⟩:=by
 show tS S (.lc k)=_;simp only[tS,h]
theorem d9(hp:S[p]?=some (dt (TD ak)))(hq:S[q]?=some (dt (HD keys row))):rdV S (.tp [.lc p,.lc q])=some (PD ak keys row):=by
 simp only[rdV,qO,hp,hq,Option.bind_some,Option.map_some]
theorem i3(h:m s=some (.ok xs s1))(h1:iM xs=none)(h2:xs.length<=100):kn m s=some (.ok (.tp xs) s1):=by
 unfold kn;rw[eL h,b7 (uE (by omega))]
 simp only[mkT,h1]
def off(row:Str->aK.Row)(n a:Str):Str->aK.Row:=aW (aW row a ⟨(row a).key,(row a).above,(row a).mark,(row a).below.filter λx=>!decide (x=n)⟩) n ⟨(row n).key,none,false,(row n).below⟩
theorem w8(ne:a≠n)(hm:(row a).mark=(row a).above.isSome):off row n a=c9 row n a:=by
 funext m
 unfold off c9 bE
 by_cases e1:m=n
 ·subst e1
  rw[aM,aE _ _ (λz=>ne z.symm),aM]
 ·rw[aE _ _ e1]
  by_cases e2:m=a
  ·subst e2
   rw[aM,aM,aE _ _ e1,hm]
  ·rw[aE _ _ e2,aE _ _ e2,aE _ _ e1]
theorem FZ(ne:a≠n)(hm:(row a).mark=false):c9 row n a=if(off row n a a).above.isSome=true then aW (off row n a) a ⟨(off row n a a).key,(off row n a a).above,true,(off row n a a).below⟩else off row n a:=by
 have e:off row n a a=⟨(row a).key,(row a).above,(row a).mark,(row a).below.filter λx=>!decide (x=n)⟩:=by
  unfold off;rw[aE _ _ ne,aM]
 rw[e];dsimp only;cases ea:(row a).above.isSome with
 |false=>
  rw[if_neg zam];exact(w8 ne (by rw[hm,ea])).symm
 |true=>
  rw[if_pos rfl];funext m
  by_cases e2:m=a
  ·subst e2
   unfold c9 bE;rw[aM,aM,aE _ _ ne,ea]
  ·rw[aE _ _ e2]
   unfold c9 bE off;rw[aE _ _ e2]
   by_cases e1:m=n
   ·subst e1;rw[aM,aM]
   ·rw[aE _ _ e1,aE _ _ e1,aE _ _ e2]
theorem BV(h:r.above=some a):ixV S (.pl (bf r)) 1=some (.pl (.str a)):=by
 show some (SV.pl (bg r.above))=_;rw[h];rfl
def offs:List Str->(Str->aK.Row)->Str->aK.Row
 | [],row=>row
 |n::C,row=>offs C (off row n ((row n).above.getD n))
theorem nJ(ha:(row n).above=some a):offs (n::C) row=offs C (off row n a):=by
 show offs C (off row n ((row n).above.getD n))=_;rw[ha];rfl
theorem C9:∀(C ak:List Str) (row:Str->aK.Row) (n L:Str),Bt K c ak keys row->n∈keys->Ch row n C L->cuts C row=if(offs C row L).above.isSome=true then aW (offs C row) L ⟨(offs C row L).key,(offs C row L).above,true,(offs C row L).below⟩else offs C row:=by
 intro C
 induction C with
 |nil=>intro ak row n L _ _ hch;cases hch
 |cons x C ih=>
  intro ak row n L h hn hch;cases hch with
  |one ha hm=>
   rw[gp ha,nJ ha];exact FZ (h.neA hn ha) hm
  |more ha hm hch=>
   rename_i a
   have hka:=h.ab x hn a ha;rw[gp ha,nJ ha,w8 (h.neA hn ha) (by
    rw[hm];cases e:(row a).above with
    |none=>exact absurd e (h.mkd a hka hm)
    |some b=>rfl)]
   exact ih (ak++[x]) (c9 row x a) a L (h.cut hn ha) hka (Ch.cut h hn ha hch)
theorem Ch.above(h:Ch row n C L):∃a,(row n).above=some a:=by cases h with|one e _=>exact⟨_,e⟩|more e _ _=>exact⟨_,e⟩
theorem Ch.last(h:Bt K c ak keys row):∀{C:List Str} {n L:Str},Ch row n C L->n∈keys->∃pre z,C=pre++[z]/\z∈keys/\(row z).above=some L
 |_,n,_,.one ha _,hn=>⟨[],n,rfl,hn,ha⟩
 |_,n,_,.more ha _ hc,hn=>by
  obtain⟨pre,z,h1,h2,h3⟩:=Ch.last h hc (h.ab n hn _ ha);exact⟨n::pre,z,by rw[h1];rfl,h2,h3⟩
theorem F1(hc:c<=200)(h1:blV (B.length+2) pile=true)(h2:blV (B.length+2) nm=true)(h3:blV (B.length+2) last=true):∀(C ak:List Str) (row:Str->aK.Row) (n L:Str) (x y:Option SV),Bt K c ak keys row->n∈keys->Ch row n C L->l4 (B.length+2) [y]=true->
  ∃x' y',gu (B.length+2) [0,1,2,3,4] (stays (.lc (B.length+1)) ((Call.map PyData.str).map .pl)) (ngN 5) jH ((C.map PyData.str).map .pl) ⟨B++[dt (HD keys row),dt (TD Call)],[some pile,some nm,some (.lc B.length),some (.lc (B.length+1)),some last,x,y]⟩=some (.nx ⟨B++[dt (HD keys (offs C row)),dt (TD Call)],[some pile,some nm,some (.lc B.length),some (.lc (B.length+1)),some last,x',y']⟩):=by
 have step:∀(ak:List Str) (row:Str->aK.Row) (n a:Str) (x y:Option SV) (ds:List SV) (o:Option iF),Bt K c ak keys row->n∈keys->(row n).above=some a->gu (B.length+2) [0,1,2,3,4] (stays (.lc (B.length+1)) ((Call.map PyData.str).map .pl)) (ngN 5) jH ds ⟨B++[dt (HD keys (off row n a)),dt (TD Call)],[some pile,some nm,some (.lc B.length),some (.lc (B.length+1)),some last,some (.pl (.str n)),some (.pl (.str a))]⟩=o->
   gu (B.length+2) [0,1,2,3,4] (stays (.lc (B.length+1)) ((Call.map PyData.str).map .pl)) (ngN 5) jH (.pl (.str n)::ds) ⟨B++[dt (HD keys row),dt (TD Call)],[some pile,some nm,some (.lc B.length),some (.lc (B.length+1)),some last,x,y]⟩=o:=λak row n a x y ds o h hn ha ho=>by
  have hka:=h.ab n hn a ha;have ne:=h.neA hn ha;have kl:=h.kl;have bl:=h.bl a hka;refine lr (s1:=⟨B++[dt (HD keys row),dt (TD Call)],[some pile,some nm,some (.lc B.length),some (.lc (B.length+1)),some last,some (.pl (.str n)),y]⟩) (s2:=⟨B++[dt (HD keys (off row n a)),dt (TD Call)],[some pile,some nm,some (.lc B.length),some (.lc (B.length+1)),some last,some (.pl (.str n)),some (.pl (.str a))]⟩) (ju (apk (k:=1) rfl)) (qb (by simp)) ?_ (kN (by simp) (by simp[l4,h1,h2,h3,blV])) ho
  refine aR (s':=⟨B++[dt (HD keys row),dt (TD Call)],[some pile,some nm,some (.lc B.length),some (.lc (B.length+1)),some last,some (.pl (.str n)),some (.pl (.str a))]⟩) (cz (i:=6) (dB (jL (cy (.inl (a8 rfl (b3 ap0))) hn (ar (dQ rfl))) (dG _)) gS (BV ha)) (by simp)) ?_
  refine aR (s':=⟨B++[dt (HD keys (aW row a ⟨(row a).key,(row a).above,(row a).mark,(row a).below.filter λx=>!decide (x=n)⟩)),dt (TD Call)],[some pile,some nm,some (.lc B.length),some (.lc (B.length+1)),some last,some (.pl (.str n)),some (.pl (.str a))]⟩) ((lu (r:=⟨(row a).key,(row a).above,(row a).mark,(row a).below.filter λx=>!decide (x=n)⟩) (jL (cQ (rs:=[(bf (row a),.fz),(.str n,.fz)]) (ay (ao (cy (.inl (a8 rfl (b3 ap0))) hka (ar (dQ rfl)))) (ay (ao (ar (dQ rfl))) aT)) (Ad (λb hb=>h.ok (bl.2 b hb)) (by omega) (h.ok hn)) (dG _)) (dG _)) (aF rfl) (aF rfl) ap0 (by omega)).trans (by rw[fv hka,Ah])) ?_
  have:=cy (keys:=keys) (row:=aW row a ⟨(row a).key,(row a).above,(row a).mark,(row a).below.filter λx=>!decide (x=n)⟩) (n:=n) (i:=2) (b:=ai 5) (ρ:=vw ⟨B++[dt (HD keys (aW row a ⟨(row a).key,(row a).above,(row a).mark,(row a).below.filter λx=>!decide (x=n)⟩)),dt (TD Call)],[some pile,some nm,some (.lc B.length),some (.lc (B.length+1)),some last,some (.pl (.str n)),some (.pl (.str a))]⟩) (.inl (a8 rfl (b3 ap0))) hn (ar (dQ rfl))
  rw[aE _ _ (λz=>ne z.symm)]at this
  exact(lu (row:=aW row a ⟨(row a).key,(row a).above,(row a).mark,(row a).below.filter λx=>!decide (x=n)⟩) (r:=⟨(row n).key,none,false,(row n).below⟩) (jL (cQ (rs:=[(bf (row n),.fz)]) (ay (ao this) aT) (u5 (row n)) (dG _)) (dG _)) (aF rfl) (aF rfl) ap0 (by omega)).trans (by rw[fv hn,Ah];rfl)
 intro C
 induction C with
 |nil=>intro ak row n L x y _ _ hch;cases hch
 |cons z C ih=>
  intro ak row n L x y h hn hch hy;cases hch with
  |one ha hm=>
   rw[nJ ha];exact⟨_,_,step ak row z _ x y [] _ h hn ha (nI (ju (apk (k:=1) rfl)))⟩
  |more ha hm hch=>
   rename_i a
   have hka:=h.ab z hn a ha;have e:=w8 (row:=row) (h.neA hn ha) (by
    rw[hm];cases e:(row a).above with
    |none=>exact absurd e (h.mkd a hka hm)
    |some b=>rfl)
   obtain⟨x',y',h4⟩:=ih (ak++[z]) (c9 row z a) a L (some (.pl (.str z))) (some (.pl (.str a))) (h.cut hn ha) hka (Ch.cut h hn ha hch) rfl;refine⟨x',y',?_⟩;rw[<-e]at h4;rw[nJ ha];exact step ak row z a x y _ _ h hn ha h4
theorem HV(ds:List D)(d:D):gIx (.list (ds++[d])) (.int (-1))=some (d,false):=by
 show(L2.atI (ds++[d]) (-1)).map (λd=>(d,false))=_
 rw[Mir.xB];simp
theorem vd(C:List Str):fB (.list (C.map stp)) true=true:=by
 show bc (C.map stp)=true
 induction C with
 |nil=>rfl
 |cons x C ih=>simp only[List.map_cons,bc,ih,Bool.and_true];rfl
theorem De{α:Type}{S:List α}{a : α}:(S++[a]).length=S.length+1:=by simp
theorem HW{α:Type}{S:List α}{a b : α}:(S++[a,b]).length=S.length+2:=by simp
theorem qH{m:PM}{ρ:Rho}{X:List (Option Cl)}{k:Nat}(h:m (vw ⟨S++X,t⟩)=some ((d,.new),ρ))(hp:fB d true=true)(hk:X.length=k):nO m ⟨S++X,t⟩=some (.ok (.lc (S.length+k)) ⟨S++(X++[dt d]),t⟩):=by
 rw[iI h hp];dsimp only;rw[zau,hk,zaD]
theorem qc(h0:xs.length=n)(h1:b ⟨S,xs.map some++List.replicate k none⟩=some (.rt r ⟨S',t'⟩))(h2:blV S.length r=false):fnS n k b S xs=some (.ok r S') :=
 Af h0 h1 (show(if blV S.length r=true then _ else _)=_ from if_neg (by rw[h2];simp))
theorem Aj(hc:c<=200)(h:Bt K c ak keys row)(hn:n∈keys)(hch:Ch row n C L)(hl:C.length<=c)(hp:S[p]?=some (dt (TD ak)))(hq:S[q]?=some (dt (HD keys row))) :
  nq S [.tp [.lc p,.lc q],.pl (.str n)]=some (.ok (.tp [.tp [.lc (S.length+2),.lc S.length],.lc (S.length+3)]) (S++[dt (HD keys (cuts C row)),dt (TD C),dt (TD (ak++C)),dt (.list (C.map stp))])):=by
 have kl:=h.kl;have tl:=h.tl;obtain⟨memC,Mw⟩:=Ch.mem h hch hn;obtain⟨pre,z,rfl,hz,hza⟩:=Ch.last h hch hn;have lp:=dZ hp;have lq:=dZ hq;have rp:∀X:List (Option Cl),rdV (S++X) (.tp [.lc p,.lc q])=some (PD ak keys row):=λX=>d9 (bM hp) (bM hq)
 obtain⟨x',y',lo⟩:=F1 (c:=c) (keys:=keys) hc (Call:=pre++[z]) (B:=S) (pile:=.tp [.lc p,.lc q]) (nm:=.pl (.str n)) (last:=.pl (.str L)) (by simp[blV,nZ];omega) rfl rfl (pre++[z]) ak row n L none none h hn hch rfl
 refine qc (t':=[some (.tp [.lc p,.lc q]),some (.pl (.str n)),some (.lc S.length),some (.lc (S.length+1)),some (.pl (.str L)),x',y']) rfl ?_ (by simp[blV,nZ])
 refine aR (s':=⟨S++[dt (HD keys row)],[some (.tp [.lc p,.lc q]),some (.pl (.str n)),some (.lc S.length),none,none,none,none]⟩) (cz (i:=2) (s':=⟨S++[dt (HD keys row)],[some (.tp [.lc p,.lc q]),some (.pl (.str n)),none,none,none,none,none]⟩) (iI (eS (rs:=[(HD keys row,.fz)]) (res:=(HD keys row,true)) (ay (ao (nU (a8 rfl (d9 hp hq)))) aT) rfl) (nH keys row)) (by simp)) ?_
 refine aR (s':=⟨S++[dt (HD keys row),dt (TD (pre++[z]))],[some (.tp [.lc p,.lc q]),some (.pl (.str n)),some (.lc S.length),some (.lc (S.length+1)),none,none,none]⟩) (cz (i:=3) (qH (k:=1) (cQ (rs:=[(HD keys row,.fz),(.str n,.fz)]) (ay (ao (ar (a8 rfl (b3 ap0)))) (ay (ao (ar (dQ rfl))) aT)) (FW h hn hch (by omega)) (i8 _)) (jM _) rfl) (by simp)) ?_
 have ixz:mOp dh (ai 2) (mOp gIx (ai 3) (mUn Cs (mC (.int 1)))) (vw ⟨S++[dt (HD keys row),dt (TD (pre++[z]))],[some (.tp [.lc p,.lc q]),some (.pl (.str n)),some (.lc S.length),some (.lc (S.length+1)),none,none,none]⟩)=some ((bf (row z),.fz),vw ⟨S++[dt (HD keys row),dt (TD (pre++[z]))],[some (.tp [.lc p,.lc q]),some (.pl (.str n)),some (.lc S.length),some (.lc (S.length+1)),none,none,none]⟩) :=
  cy (.inl (a8 rfl (b3 ap0))) hz (bC (r:=(.int (-1),.fz)) (res:=(.str z,false)) (ao (ar (a8 rfl (b3 (apk (k:=1) rfl))))) (ao (Kh c7)) (by show gIx (.list ((pre++[z]).map .str)) (.int (-1))=_;rw[za1];exact HV _ _))
 refine aR (s':=⟨S++[dt (HD keys row),dt (TD (pre++[z]))],[some (.tp [.lc p,.lc q]),some (.pl (.str n)),some (.lc S.length),some (.lc (S.length+1)),some (.pl (.str L)),none,none]⟩) (cz (i:=4) (dB (jL ixz (dG _)) gS (BV hza)) (by simp)) ?_
 refine aR (s':=⟨S++[dt (HD keys (offs (pre++[z]) row)),dt (TD (pre++[z]))],[some (.tp [.lc p,.lc q]),some (.pl (.str n)),some (.lc S.length),some (.lc (S.length+1)),some (.pl (.str L)),x',y']⟩) (o6 (aF rfl) (apk (k:=1) rfl) (by dsimp only;rw[HW];exact lo)) ?_
 have rL:mOp dh (ai 2) (ai 4) (vw ⟨S++[dt (HD keys (offs (pre++[z]) row)),dt (TD (pre++[z]))],[some (.tp [.lc p,.lc q]),some (.pl (.str n)),some (.lc S.length),some (.lc (S.length+1)),some (.pl (.str L)),x',y']⟩)=some ((bf (offs (pre++[z]) row L),.fz),vw ⟨S++[dt (HD keys (offs (pre++[z]) row)),dt (TD (pre++[z]))],[some (.tp [.lc p,.lc q]),some (.pl (.str n)),some (.lc S.length),some (.lc (S.length+1)),some (.pl (.str L)),x',y']⟩):=cy (.inl (a8 rfl (b3 ap0))) Mw (ar (dQ rfl));have tI:nTo (aO (mOp mi (mOp gIx (mOp dh (ai 2) (ai 4)) (mC (.int 1))) (mC .none))) ⟨S++[dt (HD keys (offs (pre++[z]) row)),dt (TD (pre++[z]))],[some (.tp [.lc p,.lc q]),some (.pl (.str n)),some (.lc S.length),some (.lc (S.length+1)),some (.pl (.str L)),x',y']⟩=some (.ok (offs (pre++[z]) row L).above.isSome ⟨S++[dt (HD keys (offs (pre++[z]) row)),dt (TD (pre++[z]))],[some (.tp [.lc p,.lc q]),some (.pl (.str n)),some (.lc S.length),some (.lc (S.length+1)),some (.pl (.str L)),x',y']⟩):=gg (test_ev (k:=.fz) (bC (r:=(.none,.fz)) (res:=(.bool (offs (pre++[z]) row L).above.isSome,false)) (ao (eD rL)) (ao rfl) (iw _)));have e:=C9 (pre++[z]) ak row n L h hn hch;refine aR (s':=⟨S++[dt (HD keys (cuts (pre++[z]) row)),dt (TD (pre++[z]))],[some (.tp [.lc p,.lc q]),some (.pl (.str n)),some (.lc S.length),some (.lc (S.length+1)),some (.pl (.str L)),x',y']⟩) ?_ ?_
 ·cases ei:(offs (pre++[z]) row L).above.isSome with
  |true=>
   rw[ei,if_pos rfl]at e;rw[ei]at tI;refine BQ tI ((lu (r:=⟨(offs (pre++[z]) row L).key,(offs (pre++[z]) row L).above,true,(offs (pre++[z]) row L).below⟩) (jL (cQ (rs:=[(bf (offs (pre++[z]) row L),.fz)]) (ay (ao rL) aT) (wZ _) (dG _)) (dG _)) (aF rfl) (aF rfl) ap0 (by omega)).trans ?_)
   rw[fv Mw,Ah,e]
  |false=>
   rw[ei,if_neg zam]at e;rw[ei]at tI;rw[e];exact kM tI rfl
 refine jK (i3 (xs:=[.tp [.lc (S.length+2),.lc S.length],.lc (S.length+3)]) (aS (s1:=⟨S++[dt (HD keys (cuts (pre++[z]) row)),dt (TD (pre++[z])),dt (TD (ak++(pre++[z])))],[some (.tp [.lc p,.lc q]),some (.pl (.str n)),some (.lc S.length),some (.lc (S.length+1)),some (.pl (.str L)),x',y']⟩) (i3 (xs:=[.lc (S.length+2),.lc S.length]) (aS (qH (k:=2) (bC (r:=(TD (pre++[z]),.fz)) (res:=(TD (ak++(pre++[z])),true)) (ao (uZ (a8 rfl (rp _)))) (ao (ar (a8 rfl (b3 (apk (k:=1) rfl))))) ?_) (jM _) rfl) (aS (aF rfl) cR)) rfl (by simp)) (aS (qH (k:=3) (uG (vY (ao (ar (a8 rfl (b3 (apk (k:=1) rfl)))))) (kh (f:=PyData.str) (g:=stp) _ λx hx=>⟨[.fz (.str x)],ao (dN (rs:=[(.str "cut",.fz),(.str x,.fz)]) rfl rfl (by simp))⟩) (by rw[zal];omega)) (vd _) rfl) cR)) rfl (by simp))
 show gr (.list (ak.map .str)) (.list ((pre++[z]).map .str))=some (.list ((ak++(pre++[z])).map .str),true);rw[za1 (l₁:=ak)];exact pG _ _ (by simp only[List.length_map];omega)
theorem HX(h:S.length<=n):fS n S=S:=by
 unfold fS;split
 ·rename_i hc
  unfold gcS;rw[List.take_of_length_le h];refine(List.map_congr_left λc hc'=>BR λd e=>?_).trans (List.map_id _)
  subst e;exact u9 hc (by rw[List.take_of_length_le h];exact hc')
 ·rfl
def stH(p:Str×Str):D:=.tuple [.str "hang",.str p.1,.str p.2]
theorem HY(hl:r.below.length<=1000){a b:PM}(h:a ρ=some ((bf r,.fz),ρ))(hb:b ρ=some ((.tuple [.str x],.fz),ρ)):mOp qD (mOp gIx a (mC (.int 3))) b ρ=some ((.tuple ((r.below++[x]).map .str),.fz),ρ):=by
 obtain⟨o,ho⟩:=uN (r.below.map .str) [.str x] (by simp;omega) (by simp)
 have e:=bC (r:=(.tuple [.str x],.fz)) (res:=(.tuple ((r.below++[x]).map .str),o)) (ao (fu h)) (ao hb) (by rw[za1];exact ho)
 cases o<;>exact e
theorem HZ(hx:x∈keys)(hy:y∈keys)(ne:y≠x)(hk:keys.length<=1000)(hb:(row y).below.length<=1000)(hj:S[j]?=some (dt (HD keys row))):wH S [.lc j,.pl (.str x),.pl (.str y)]=some (.ok (.pl .none) (S.set j (dt (HD keys (bI row x y))))):=by
 have lj:=dZ hj;refine Af (o:=.nx ⟨S.set j (dt (HD keys (bI row x y))),[some (.lc j),some (.pl (.str x)),some (.pl (.str y)),some (.pl (bf (row y)))]⟩) rfl ?_ (by show some (FR.ok (.pl .none) (fS S.length (S.set j _)))=_;rw[HX (by rw[zaM];exact zap _)])
 refine aR (s':=⟨S,[some (.lc j),some (.pl (.str x)),some (.pl (.str y)),some (.pl (bf (row x)))]⟩) (cz (i:=3) (jL (cy (.inl (a8 rfl (b3 hj))) hx (ar (dQ rfl))) (dG _)) (by simp)) ?_
 have h1:(S.set j (dt (HD keys (aW row x ⟨(row x).key,some y,false,(row x).below⟩))))[j]?=some (dt (HD keys (aW row x ⟨(row x).key,some y,false,(row x).below⟩))):=zav lj;refine aR (s':=⟨S.set j (dt (HD keys (aW row x ⟨(row x).key,some y,false,(row x).below⟩))),[some (.lc j),some (.pl (.str x)),some (.pl (.str y)),some (.pl (bf (row x)))]⟩) ((lu (r:=⟨(row x).key,some y,false,(row x).below⟩) (nF (xs:=[.pl (.int (row x).key),.pl (.str y),.pl (.bool false),.pl (.tuple ((row x).below.map .str))]) (aS (dB (aF rfl) gS rfl) (aS (aF rfl) (aS gS (aS (dB (aF rfl) gS rfl) cR)))) rfl (by simp)) (aF rfl) (aF rfl) hj hk).trans (by rw[fv hx])) ?_
 have ry:=cy (keys:=keys) (row:=aW row x ⟨(row x).key,some y,false,(row x).below⟩) (n:=y) (i:=0) (b:=ai 2) (ρ:=vw ⟨S.set j (dt (HD keys (aW row x ⟨(row x).key,some y,false,(row x).below⟩))),[some (.lc j),some (.pl (.str x)),some (.pl (.str y)),some (.pl (bf (row x)))]⟩) (.inl (a8 rfl (b3 h1))) hy (ar (dQ rfl));rw[aE _ _ ne]at ry;refine aR (s':=⟨S.set j (dt (HD keys (aW row x ⟨(row x).key,some y,false,(row x).below⟩))),[some (.lc j),some (.pl (.str x)),some (.pl (.str y)),some (.pl (bf (row y)))]⟩) (cz (i:=3) (jL ry (dG _)) (by simp)) ?_
 refine(lu (row:=aW row x ⟨(row x).key,some y,false,(row x).below⟩) (r:=⟨(row y).key,(row y).above,(row y).mark,(row y).below++[x]⟩) (nF (xs:=[.pl (.int (row y).key),.pl (bg (row y).above),.pl (.bool (row y).mark),.pl (.tuple (((row y).below++[x]).map .str))]) (aS (dB (aF rfl) gS rfl) (aS (dB (aF rfl) gS rfl) (aS (dB (aF rfl) gS rfl) (aS (jL (HY hb (ar (dQ rfl)) (dN (rs:=[(.str x,.fz)]) (ay (ao (ar (dQ rfl))) aT) rfl (by simp))) (Ai _)) cR)))) rfl (by simp)) (aF rfl) (aF rfl) h1 hk).trans ?_
 rw[fv hy,List.set_set];unfold bI;rw[aE _ _ ne]
theorem BW(h:cc s=some (.ok false s')):iG kp cc b (n+1) s=some (.nx s'):=by
 unfold iG;rw[iP h,if_neg zam]
theorem K0(h1:cc s=some (.ok true s1))(h2:b s1=some (.nx s2))(h3:gcE s1.S.length kp s2=s3)(h4:iG kp cc b n s3=o):iG kp cc b (n+1) s=o:=by
 unfold iG;rw[iP h1,if_pos rfl,h2];dsimp only;rw[h3];exact h4
theorem Ia(h:a s=some (.ok (.lc k) s1))(h0:s1.S[k]?=some (dt (AL al)))(h1:m s1=some (.ok [.pl (.int (d:Int))] s2))(h2:s2.S[k]?=some (dt (AL al)))(hl:al.lookup d=some t):qC a m s=some (.ok (.pl (.str t)) ⟨s2.S.set k (dt (AL (al.filter λp=>decide (p.1≠d)))),s2.t⟩):=by
 unfold qC;rw[eL h];simp only[BF,h0,if_true];rw[eL h1];unfold BD;dsimp only[keyOf,Option.bind_some];rw[h2];dsimp only;rw[rB,hl,HI];rfl
section
variable{α:Type}
theorem K1{a b x : α}:(S++a::b::X).set (S.length+1) x=S++a::x::X:=by
 rw[List.set_append_right _ _ (by omega),Nat.add_sub_cancel_left];rfl
theorem My{a b e x : α}:(S++a::b::e::X).set (S.length+2) x=S++a::b::x::X:=by
 rw[List.set_append_right _ _ (by omega),Nat.add_sub_cancel_left];rfl
end
abbrev Sa(B:List (Option Cl))(keys:List Str)(row:Str->aK.Row)(al:List (Nat×Str))(sts:List (Str×Str)):List (Option Cl):=B++[dt (HD keys row),dt (AL al),dt (.list (sts.map stH))]
abbrev fh(pile:SV)(N:Nat)(x4 x5 x6 x7:Option SV):List (Option SV):=[some pile,some (.lc N),some (.lc (N+1)),some (.lc (N+2)),x4,x5,x6,x7]
structure Al(T0:List Str)(fc:Str->aK.Row)(sts:List (Str×Str))(T:List Str)(row:Str->aK.Row)(al:List (Nat×Str))(on:Str)(rest:List Str):Prop where
 hs:Hs T0 fc sts T row
 nk:(al.map Prod.fst).Nodup
 ae:∀p∈al,p.2∈T/\(row p.2).below.length=p.1/\p.2≠on/\p.2∉rest
 oo:on∈T/\on∉rest
 rs:∀t∈rest,t∈T
 cov:∀t∈T,t=on\/(∃p∈al,p.2=t)\/t∈rest
theorem w9:∀{al:List (Nat×Str)},al.lookup d=some t->(d,t)∈al
 |(e,u)::al,h=>by
  by_cases z:d=e
  ·subst z;rw[za8,beq_self_eq_true]at h;cases h;exact zas
  ·rw[za8,beq_eq_false_iff_ne.mpr z]at h;exact zak _ (w9 h)
theorem xa:∀{al:List (Nat×Str)},(al.map Prod.fst).Nodup->∀{p q:Nat×Str},p∈al->q∈al->p.1=q.1->p=q
 |x::al,nd,p,q,hp,hq,e=>by
  rw[zaz,List.nodup_cons]at nd;rcases zaf hp with rfl|hp'<;>rcases zaf hq with rfl|hq'
  ·rfl
  ·exact absurd (e▸List.mem_map_of_mem hq') nd.1
  ·exact absurd (e▸List.mem_map_of_mem hp') nd.1
  ·exact xa nd.2 hp' hq' e
theorem Al.turn{al:List (Nat×Str)}{on:Str}{rest:List Str}(A:Al T0 fc sts T row al on rest)(ndT:T.Nodup){t x y:Str}(hl:al.lookup (row on).below.length=some t)(xy:(x=on/\y=t)\/(x=t/\y=on))(lt:bU (row y).key y (row x).key x=true) :
  y≠x/\x∈T/\y∈T/\Al T0 fc (sts++[(x,y)]) (T.erase x) (bI row x y) (al.filter λp=>decide (p.1≠(row on).below.length)) y rest:=by
 have mt:=w9 hl;obtain⟨t1,t2,t3,t4⟩:=A.ae _ mt;dsimp only at t1 t2 t3 t4;have ne:y≠x:=by rcases xy with⟨rfl,rfl⟩|⟨rfl,rfl⟩<;>first|exact t3|exact λe=>t3 e.symm
 have hx:x∈T/\x∉rest:=by rcases xy with⟨rfl,rfl⟩|⟨rfl,rfl⟩<;>first|exact A.oo|exact⟨t1,t4⟩
 have hy:y∈T/\y∉rest:=by rcases xy with⟨rfl,rfl⟩|⟨rfl,rfl⟩<;>first|exact A.oo|exact⟨t1,t4⟩
 have ed:(row x).below.length=(row y).below.length:=by rcases xy with⟨rfl,rfl⟩|⟨rfl,rfl⟩<;>omega
 have er:∀{u:Str},u∈T->u≠x->u∈T.erase x:=fun{u} h1 h2=>(za9 ndT).mpr ⟨h2,h1⟩
 have oth:∀p∈al,p.1≠(row on).below.length->p.2≠x/\p.2≠y:=λp hp hd=>by
  obtain⟨p1,p2,p3,p4⟩:=A.ae p hp;have pt:p.2≠t:=λe=>hd (by rw[<-p2,e];exact t2)
  rcases xy with⟨rfl,rfl⟩|⟨rfl,rfl⟩
  ·exact⟨p3,pt⟩
  ·exact⟨pt,p3⟩
 refine⟨ne,hx.1,hy.1,A.hs.snoc hx.1 hy.1 ne lt ed,A.nk.sublist (List.filter_sublist.map _),λp hp=>?_,⟨er hy.1 ne,hy.2⟩,λu hu=>er (A.rs u hu) λe=>hx.2 (e▸hu),λu hu=>?_⟩
 ·obtain⟨h1,h2⟩:=List.mem_filter.mp hp
  have hd:p.1≠(row on).below.length:=of_decide_eq_true h2;obtain⟨p1,p2,p3,p4⟩:=A.ae p h1;obtain⟨q1,q2⟩:=oth p h1 hd;exact⟨er p1 q1,by rw[cK q2 q1];exact p2,q2,p4⟩
 ·obtain⟨u1,u2⟩:=(za9 ndT).mp hu
  rcases A.cov u u2 with rfl|⟨p,hp,rfl⟩|h
  ·rcases xy with⟨rfl,rfl⟩|⟨rfl,rfl⟩
   ·exact absurd rfl u1
   ·exact .inl rfl
  ·by_cases hd:p.1=(row on).below.length
   ·have:=xa A.nk hp mt hd
    subst this;rcases xy with⟨rfl,rfl⟩|⟨rfl,rfl⟩
    ·exact .inl rfl
    ·exact absurd rfl u1
   ·exact .inr (.inl ⟨p,List.mem_filter.mpr ⟨hp,zaH hd⟩,rfl⟩)
  ·exact .inr (.inr h)
theorem Ib(hc:c<=200)(h0:Bk c T0 keys fc)(f0:Fm keys fc)(hpl:blV (B.length+3) pile=true){rest:List Str}{x4:SV}(h4:blV (B.length+3) x4=true):∀(m:Nat) (al:List (Nat×Str)) (sts:List (Str×Str)) (T:List Str) (row:Str->aK.Row) (on:Str) (x6 x7:Option SV) (fuel:Nat),al.length<=m->m<fuel->l4 (B.length+3) [x6,x7]=true->Al T0 fc sts T row al on rest->
  ∃al' sY T' aQ on' x6' x7',iG [0,1,2,3,4,5] mG mH fuel ⟨Sa B keys row al sts,fh pile B.length (some x4) (some (.pl (.str on))) x6 x7⟩=some (.nx ⟨Sa B keys aQ al' sY,fh pile B.length (some x4) (some (.pl (.str on'))) x6' x7'⟩)/\Al T0 fc sY T' aQ al' on' rest/\al'.lookup (aQ on').below.length=none/\l4 (B.length+3) [x6',x7']=true:=by
 intro m
 induction m with
 |zero=>
  intro al sts T row on x6 x7 fuel hm hf hx A;obtain⟨fuel,rfl⟩:∃k,fuel=k+1:=⟨fuel-1,by omega⟩
  obtain rfl:al=[]:=List.eq_nil_of_length_eq_zero (by omega)
  obtain⟨hB,hF⟩:=A.hs.inv h0 f0;have hon:=(hB.tk on A.oo.1).1;refine⟨[],sts,T,row,on,x6,x7,BW (gg (test_ev (k:=.fz) (bC (r:=(AL [],.fz)) (res:=(.bool false,false)) (ao (kH (cy (.inl (a8 rfl (b3 ap0))) hon (ar (dQ rfl))))) (ao (ar (a8 rfl (b3 (apk (k:=1) rfl))))) (Jk _ _)))),A,rfl,hx⟩
 |succ m ih=>
  intro al sts T row on x6 x7 fuel hm hf hx A;obtain⟨fuel,rfl⟩:∃k,fuel=k+1:=⟨fuel-1,by omega⟩
  obtain⟨hB,hF⟩:=A.hs.inv h0 f0;have hon:=(hB.tk on A.oo.1).1;have kl:=hB.kl;have sl:=A.hs.len;have tl0:=h0.tl;have tst:nTo (aO (mOp E9 (mCB cX (aj (mOp gIx (mOp dh (ai 1) (ai 5)) (mC (.int 3))) aI)) (ai 2))) ⟨Sa B keys row al sts,fh pile B.length (some x4) (some (.pl (.str on))) x6 x7⟩=some (.ok (al.lookup (row on).below.length).isSome ⟨Sa B keys row al sts,fh pile B.length (some x4) (some (.pl (.str on))) x6 x7⟩):=gg (test_ev (k:=.fz) (bC (r:=(AL al,.fz)) (res:=(.bool (al.lookup (row on).below.length).isSome,false)) (ao (kH (cy (.inl (a8 rfl (b3 ap0))) hon (ar (dQ rfl))))) (ao (ar (a8 rfl (b3 (apk (k:=1) rfl))))) (Jk _ _)));cases el:al.lookup (row on).below.length with
  |none=>
   rw[el]at tst;exact⟨al,sts,T,row,on,x6,x7,BW tst,A,el,hx⟩
  |some t=>
   rw[el]at tst;have mt:=w9 el;obtain⟨t1,t2,t3,_⟩:=A.ae _ mt;have htk:=(hB.tk t t1).1;obtain⟨x,y,xy,lt,hsw⟩:∃x y,((x=on/\y=t)\/(x=t/\y=on))/\bU (row y).key y (row x).key x=true/\∃x7',l4 (B.length+3) [x7']=true/\kq (nTo (aO (mOp CV (b4 d8 (aj (ai 1) (aj (ai 6) aI))) (b4 d8 (aj (ai 1) (aj (ai 5) aI)))))) (bX (dO (bw 6) (ngN 7)) (bX (dO (bw 5) (ngN 6)) (dO (bw 7) (ngN 5)))) iN ⟨Sa B keys row (al.filter λp=>decide (p.1≠(row on).below.length)) sts,fh pile B.length (some x4) (some (.pl (.str on))) (some (.pl (.str t))) x7⟩=some (.nx ⟨Sa B keys row (al.filter λp=>decide (p.1≠(row on).below.length)) sts,fh pile B.length (some x4) (some (.pl (.str y))) (some (.pl (.str x))) x7'⟩):=by
    have tl:nTo (aO (mOp CV (b4 d8 (aj (ai 1) (aj (ai 6) aI))) (b4 d8 (aj (ai 1) (aj (ai 5) aI))))) ⟨Sa B keys row (al.filter λp=>decide (p.1≠(row on).below.length)) sts,fh pile B.length (some x4) (some (.pl (.str on))) (some (.pl (.str t))) x7⟩=some (.ok (bU (row t).key t (row on).key on) ⟨Sa B keys row (al.filter λp=>decide (p.1≠(row on).below.length)) sts,fh pile B.length (some x4) (some (.pl (.str on))) (some (.pl (.str t))) x7⟩):=gg (test_ev (k:=.fz) (bC (r:=(.tuple [.int (row on).key,.str on],.fz)) (res:=(.bool (bU (row t).key t (row on).key on),false)) (ao (cQ (rs:=[(HD keys row,.fz),(.str t,.fz)]) (ay (ao (ar (a8 rfl (b3 ap0)))) (ay (ao (ar (dQ rfl))) aT)) (qG htk) rfl)) (ao (cQ (rs:=[(HD keys row,.fz),(.str on,.fz)]) (ay (ao (ar (a8 rfl (b3 ap0)))) (ay (ao (ar (dQ rfl))) aT)) (qG hon) rfl)) rfl))
    cases eb:bU (row t).key t (row on).key on with
    |true=>
     rw[eb]at tl;exact⟨on,t,.inl ⟨rfl,rfl⟩,eb,some (.pl (.str t)),rfl,BQ tl (aR (cz (i:=7) (aF rfl) (by simp)) (aR (cz (i:=6) (aF rfl) (by simp)) (cz (i:=5) (aF rfl) (by simp))))⟩
    |false=>
     rw[eb]at tl;exact⟨t,on,.inr ⟨rfl,rfl⟩,yK t3 eb,x7,(by simp[l4]at hx⊢;exact hx.2),kM tl rfl⟩
   obtain⟨x7',h7,hsw⟩:=hsw;obtain⟨ne,hxT,hyT,A'⟩:=A.turn hB.tn el xy lt;have hxk:=(hB.tk x hxT).1;have hyk:=(hB.tk y hyT).1;have hfl:(al.filter λp=>decide (p.1≠(row on).below.length)).length<al.length:=List.length_filter_lt_length_iff_exists.mpr ⟨_,mt,by simp⟩
   obtain⟨al',sY,T',aQ,on',y6,y7,e1,e2,e3,e4⟩:=ih (al.filter λp=>decide (p.1≠(row on).below.length)) (sts++[(x,y)]) (T.erase x) (bI row x y) y (some (.pl (.str x))) x7' fuel (by omega) (by omega) (by simp[l4,blV]at h7⊢;exact h7) A'
   refine⟨al',sY,T',aQ,on',y6,y7,K0 tst ?_ (kN (by simp) (by simp[l4,hpl,h4,blV]at h7⊢;exact h7)) e1,e2,e3,e4⟩
   refine aR (s':=⟨Sa B keys row (al.filter λp=>decide (p.1≠(row on).below.length)) sts,fh pile B.length (some x4) (some (.pl (.str on))) (some (.pl (.str t))) x7⟩) ((cz (i:=6) (Ia (aF rfl) (apk (k:=1) rfl) (aS (BS (kH (cy (.inl (a8 rfl (b3 ap0))) hon (ar (dQ rfl))))) cR) (apk (k:=1) rfl) el) (by simp)).trans (by dsimp only;rw[K1];rfl)) ?_
   refine aR hsw ?_;have hh:=HZ hxk hyk ne (row:=row) (by omega) (by have:=(hB.bl y hyk).1;omega) (S:=Sa B keys row (al.filter λp=>decide (p.1≠(row on).below.length)) sts) (j:=B.length) ap0
   rw[Ah]at hh;refine aR (s':=⟨Sa B keys (bI row x y) (al.filter λp=>decide (p.1≠(row on).below.length)) sts,fh pile B.length (some x4) (some (.pl (.str y))) (some (.pl (.str x))) x7'⟩) (eA (iA (aS (aF rfl) (aS (aF rfl) (aS (aF rfl) cR))) hh)) ?_
   refine(eA (nG (aF rfl) (apk (k:=2) rfl) (aS (nF (xs:=[.pl (.str "hang"),.pl (.str x),.pl (.str y)]) (aS gS (aS (aF rfl) (aS (aF rfl) cR))) rfl (by simp)) cR) (apk (k:=2) rfl) (by rw[zal];omega))).trans ?_
   dsimp only;rw[My];show _=some (iF.nx ⟨B++[_,_,dt (.list ((sts++[(x,y)]).map stH))],_⟩);rw[za1];rfl
structure Am(T0:List Str)(fc:Str->aK.Row)(sts:List (Str×Str))(T:List Str)(row:Str->aK.Row)(al:List (Nat×Str))(rest:List Str):Prop where
 hs:Hs T0 fc sts T row
 nk:(al.map Prod.fst).Nodup
 ae:∀p∈al,p.2∈T/\(row p.2).below.length=p.1/\p.2∉rest
 rs:∀t∈rest,t∈T
 cov:∀t∈T,(∃p∈al,p.2=t)\/t∈rest
 nd:rest.Nodup
theorem BX:∀{al:List (Nat×Str)},al.lookup d=none->∀p∈al,p.1≠d
 |(e,u)::al,h,p,hp=>by
  by_cases z:d=e
  ·subst z;rw[za8,beq_self_eq_true]at h;cases h
  ·rw[za8,beq_eq_false_iff_ne.mpr z]at h
   rcases zaf hp with rfl|hp
   ·exact λw=>z w.symm
   ·exact BX h p hp
theorem F2(hv:v s=some (.ok (.pl (.str t)) s1))(hd:d s1=some (.ok (.lc j) s2))(hk:k s2=some (.ok (.pl (.int (n:Int))) s3))(hj:s3.S[j]?=some (dt (AL al)))(hl:al.length<=1000)(hn:al.lookup n=none):kD d k v s=some (.nx ⟨s3.S.set j (dt (AL (al++[(n,t)]))),s3.t⟩):=by
 unfold kD;rw[iP hv,iP hd,iP hk];unfold Hr;dsimp only[keyOf,Option.bind_some];rw[hj];dsimp only;rw[b7 (by unfold alL;rw[zal];omega),KU hn]
theorem Ic(hc:c<=200)(h0:Bk c T0 keys fc)(f0:Fm keys fc)(hpl:blV (B.length+3) pile=true)(hp:B[p]?=some (dt (TD T0))):∀(rest:List Str) (al:List (Nat×Str)) (sts:List (Str×Str)) (T:List Str) (row:Str->aK.Row) (x4 x5 x6 x7:Option SV),l4 (B.length+3) [x6,x7]=true->Am T0 fc sts T row al rest->
  ∃al' sY T' aQ y4 y5 y6 y7,gu (B.length+3) [0,1,2,3] (stays (.lc p) ((T0.map PyData.str).map .pl)) (ngN 4) mI ((rest.map PyData.str).map .pl) ⟨Sa B keys row al sts,fh pile B.length x4 x5 x6 x7⟩=some (.nx ⟨Sa B keys aQ al' sY,fh pile B.length y4 y5 y6 y7⟩)/\Am T0 fc sY T' aQ al' []:=by
 intro rest
 induction rest with
 |nil=>intro al sts T row x4 x5 x6 x7 _ A;exact⟨al,sts,T,row,x4,x5,x6,x7,nI (ju (bM hp)),A⟩
 |cons t rest ih=>
  intro al sts T row x4 x5 x6 x7 hx A;obtain⟨nt,ndr⟩:=List.nodup_cons.mp A.nd;have A1:Al T0 fc sts T row al t rest:=⟨A.hs,A.nk,λq hq=>(let⟨a1,a2,a3⟩:=A.ae q hq;⟨a1,a2,λe=>a3 (by rw[e];exact zas),λz=>a3 (zak _ z)⟩),⟨A.rs t zas,nt⟩,λu hu=>A.rs u (zak _ hu),λu hu=>by
   rcases A.cov u hu with h|h
   ·exact .inr (.inl h)
   ·rcases zaf h with h|h
    ·exact .inl h
    ·exact .inr (.inr h)⟩
  have all:∀{al:List (Nat×Str)} {sts:List (Str×Str)} {T:List Str} {row:Str->aK.Row},Hs T0 fc sts T row->(al.map Prod.fst).Nodup->(∀q∈al,q.2∈T/\(row q.2).below.length=q.1)->al.length<=201:=fun{al sts T row} hs nk ae=>by
   obtain⟨hB,_⟩:=hs.inv h0 f0;have:=aK.js (al.map Prod.fst) (List.range 201) nk λd hd=>by
    obtain⟨q,hq,rfl⟩:=List.mem_map.mp hd;obtain⟨a1,a2⟩:=ae q hq;have:=(hB.bl q.2 (hB.tk q.2 a1).1).1;exact List.mem_range.mpr (by omega)
   simpa using this
  obtain⟨al',sY,T',aQ,on',x6',x7',w1,A2,w3,w4⟩:=Ib hc h0 f0 hpl (x4:=.pl (.str t)) rfl (rest:=rest) al.length al sts T row t x6 x7 1000000 (zap _) (by have:=all A.hs A.nk λq hq=>⟨(A.ae q hq).1,(A.ae q hq).2.1⟩;omega) hx A1
  obtain⟨hB,_⟩:=A2.hs.inv h0 f0;have hon:=(hB.tk on' A2.oo.1).1;have A3:Am T0 fc sY T' aQ (al'++[((aQ on').below.length,on')]) rest:=by
   refine⟨A2.hs,?_,λq hq=>?_,A2.rs,λu hu=>?_,ndr⟩
   ·rw[za1,List.nodup_append]
    refine⟨A2.nk,by simp,λa ha b hb e=>?_⟩
    obtain⟨q,hq,rfl⟩:=List.mem_map.mp ha;rw[List.map_singleton,List.mem_singleton]at hb;exact BX w3 q hq (e.trans hb)
   ·rcases zae hq with hq|hq
    ·obtain⟨a1,a2,_,a4⟩:=A2.ae q hq
     exact⟨a1,a2,a4⟩
    ·rw[zad hq];exact⟨A2.oo.1,rfl,A2.oo.2⟩
   ·rcases A2.cov u hu with rfl|⟨q,hq,e⟩|h
    ·exact .inl ⟨_,zan _ (List.mem_singleton.mpr rfl),rfl⟩
    ·exact .inl ⟨q,zaW _ hq,e⟩
    ·exact .inr h
  obtain⟨al2,Np,T2,row2,y4,y5,y6,y7,i1,i2⟩:=ih (al'++[((aQ on').below.length,on')]) sY T' aQ (some (.pl (.str t))) (some (.pl (.str on'))) x6' x7' w4 A3;refine⟨al2,Np,T2,row2,y4,y5,y6,y7,?_,i2⟩;refine lr (s1:=⟨Sa B keys row al sts,fh pile B.length (some (.pl (.str t))) x5 x6 x7⟩) (s2:=⟨Sa B keys aQ (al'++[((aQ on').below.length,on')]) sY,fh pile B.length (some (.pl (.str t))) (some (.pl (.str on'))) x6' x7'⟩) (ju (bM hp)) (qb (by simp)) ?_ (kN (by simp) (by simp[l4,hpl,blV]at w4⊢;exact w4)) i1
  refine aR (s':=⟨Sa B keys row al sts,fh pile B.length (some (.pl (.str t))) (some (.pl (.str t))) x6 x7⟩) (cz (i:=5) (aF rfl) (by simp)) ?_
  refine aR w1 ((F2 (aF rfl) (aF rfl) (BS (kH (cy (.inl (a8 rfl (b3 ap0))) hon (ar (dQ rfl))))) (apk (k:=1) rfl) (by have:=all A2.hs A2.nk λq hq=>⟨(A2.ae q hq).1,(A2.ae q hq).2.1⟩;omega) w3).trans ?_)
  dsimp only;rw[K1]
theorem F3(hc:c<=200)(h0:Bk c T0 keys fc)(f0:Fm keys fc)(hp:S[p]?=some (dt (TD T0)))(hq:S[q]?=some (dt (HD keys fc))) :
  ∃(sts:List (Str×Str)) (T:List Str) (row:Str->aK.Row) (al:List (Nat×Str)),iV S [.tp [.lc p,.lc q]]=some (.ok (.tp [.tp [.lc (S.length+3),.lc S.length],.lc (S.length+2)]) (S++[dt (HD keys row),dt (AL al),dt (.list (sts.map stH)),dt (TD T)]))/\Hs T0 fc sts T row/\∀t∈T,∀u∈T,(row t).below.length=(row u).below.length->t=u:=by
 have lp:=dZ hp;have lq:=dZ hq;have tl0:=h0.tl;obtain⟨al,sts,T,row,y4,y5,y6,y7,lo,A⟩:=Ic hc h0 f0 (B:=S) (pile:=.tp [.lc p,.lc q]) (by simp[blV,nZ];omega) hp T0 [] [] T0 fc none none none none rfl ⟨.nil,List.nodup_nil,(λq hq=>by cases hq),λt ht=>ht,λt ht=>.inr ht,h0.tn⟩
 obtain⟨hB,_⟩:=A.hs.inv h0 f0;refine⟨sts,T,row,al,?_,A.hs,λt ht u hu e=>?_⟩
 ·refine qc (t':=fh (.tp [.lc p,.lc q]) S.length y4 y5 y6 y7) rfl ?_ (by simp[blV,nZ])
  refine aR (s':=⟨S++[dt (HD keys fc)],[some (.tp [.lc p,.lc q]),some (.lc S.length),none,none,none,none,none,none]⟩) (cz (i:=1) (s':=⟨S++[dt (HD keys fc)],[some (.tp [.lc p,.lc q]),none,none,none,none,none,none,none]⟩) (iI (eS (rs:=[(HD keys fc,.fz)]) (res:=(HD keys fc,true)) (ay (ao (nU (a8 rfl (d9 hp hq)))) aT) rfl) (nH keys fc)) (by simp)) ?_
  refine aR (s':=⟨S++[dt (HD keys fc),dt (AL [])],[some (.tp [.lc p,.lc q]),some (.lc S.length),some (.lc (S.length+1)),none,none,none,none,none]⟩) (cz (i:=2) (qH (k:=1) (d:=.dict []) rfl rfl rfl) (by simp)) ?_
  refine aR (s':=⟨Sa S keys fc [] [],fh (.tp [.lc p,.lc q]) S.length none none none none⟩) ((cz (i:=3) Jm (by simp)).trans (by dsimp only;rw[HW,zaD];rfl)) ?_
  refine aR (s':=⟨Sa S keys row al sts,fh (.tp [.lc p,.lc q]) S.length y4 y5 y6 y7⟩) (o6 (ds:=T0.map .str) (s1:=⟨Sa S keys fc [] [],fh (.tp [.lc p,.lc q]) S.length none none none none⟩) (dB (aF rfl) gS rfl) (bM hp) (by dsimp only;rw[show(Sa S keys fc [] []).length=S.length+3 by simp];exact lo)) ?_
  have dm:([("held",1)]:List (Str×Nat)).map (λz=>cb (vw ⟨Sa S keys row al sts,fh (.tp [.lc p,.lc q]) S.length y4 y5 y6 y7⟩) z.2)=[.fz (HD keys row)]:=by
   show [cb (vw ⟨Sa S keys row al sts,fh (.tp [.lc p,.lc q]) S.length y4 y5 y6 y7⟩) 1]=_;unfold cb;rw[a8 (d:=HD keys row) rfl (b3 ap0)]
  have eT:=A.hs.ak h0.tn λt ht=>(h0.tk t ht).2
  have cmp:mLC [("held",1)] (pB (mOp gIx (ai 0) (mC (.int 0)))) mE mF (vw ⟨Sa S keys row al sts,fh (.tp [.lc p,.lc q]) S.length y4 y5 y6 y7⟩)=some ((TD T,.new),vw ⟨Sa S keys row al sts,fh (.tp [.lc p,.lc q]) S.length y4 y5 y6 y7⟩):=by
   refine uG (vY (ao (uZ (ak:=T0) (keys:=keys) (row:=fc) (a8 rfl (d9 (bM hp) (bM hq)))))) ?_ (by rw[zal];have:=hB.tl;omega)
   rw[dm,eT];exact fw (p:=λn=>(row n).above.isNone) T0 (λn hn=>⟨_,test_ev (k:=.fz) (bC (r:=(.none,.fz)) (res:=(.bool (row n).above.isNone,false)) (ao (eD (cy (i:=1) (.inl rfl) (h0.tk n hn).1 (ar rfl)))) (ao rfl) (yN _))⟩) λn hn=>⟨_,ao (ar rfl)⟩
  exact jK (i3 (xs:=[.tp [.lc (S.length+3),.lc S.length],.lc (S.length+2)]) (aS (i3 (xs:=[.lc (S.length+3),.lc S.length]) (aS (qH (k:=3) cmp (jM _) rfl) (aS (aF rfl) cR)) rfl (by simp)) (aS (aF rfl) cR)) rfl (by simp))
 ·rcases A.cov t ht with⟨q1,hq1,rfl⟩|h
  ·rcases A.cov u hu with⟨q2,hq2,rfl⟩|h
   ·rw[(A.ae q1 hq1).2.1,(A.ae q2 hq2).2.1]at e
    rw[xa A.nk hq1 hq2 e]
   ·cases h
  ·cases h
def bK(keys:List Str)(n:Str):List Str:=keys.filter λx=>!decide (x=n)
theorem cC:m∈bK keys n↔m∈keys/\m≠n:=by
 unfold bK;rw[List.mem_filter];simp
def free(row:Str->aK.Row)(l:List Str):Str->aK.Row:=λm=>if m∈l then⟨(row m).key,none,false,(row m).below⟩else row m
theorem jN(h:m∈l):free row l m=⟨(row m).key,none,false,(row m).below⟩:=if_pos h
theorem eC(h:m∉l):free row l m=row m:=if_neg h
theorem jO(l:List Str)(m:Str):(free row l m).key=(row m).key/\(free row l m).below=(row m).below:=by
 by_cases h:m∈l
 ·rw[jN h];exact⟨rfl,rfl⟩
 ·rw[eC h];exact⟨rfl,rfl⟩
theorem ve(l:List Str)(b:Str):free row (l++[b])=aW (free row l) b ⟨(free row l b).key,none,false,(free row l b).below⟩:=by
 funext m
 by_cases e:m=b
 ·subst e
  rw[aM,jN (by simp),(jO l m).1,(jO l m).2]
 ·rw[aE _ _ e]
  by_cases h:m∈l
  ·rw[jN h,jN (zaW _ h)]
  ·rw[eC h,eC λz=>(zae z).elim h λw=>e (zad w)]
theorem vf{row:Str->aK.Row}(n:Str):∀keys:List Str,qB (cB keys row) (.inr n)=cB (bK keys n) row
 | []=>rfl
 |m::l=>by
  have ih:=vf (row:=row) n l;unfold qB cB bK at ih⊢;rw[zaz,List.filter_cons,List.filter_cons];have e:(decide (keyOf (PyData.str m)≠some (Sum.inr n)))= !decide (m=n):=by
   by_cases z:m=n
   ·subst z;rw[zaH rfl];exact zaO λw=>w rfl
   ·rw[zaO z]
    refine zaH λw=>z ?_
    have w':some (Sum.inr m:Key)=some (Sum.inr n):=w;injection w' with w;injection w
  dsimp only;rw[e];split
  ·rw[zaz,ih]
  ·exact ih
theorem sZ(h:Bk c ak keys row)(f:Fm keys row)(hn:n∈ak):Bk c (bK ak n++(row n).below) (bK keys n) (free row (row n).below)/\Fm (bK keys n) (free row (row n).below)/\mk (bK keys n) (free row (row n).below)<=mk keys row:=by
 have hk:=(h.tk n hn).1;have bu:=f.up n hk;have bn:∀b∈(row n).below,b≠n/\b∉ak:=λb hb=>by
  have q:=(bu b hb).2;refine⟨λe=>?_,λz=>?_⟩
  ·rw[e,(h.tk n hn).2]at q;cases q
  ·rw[(h.tk b z).2]at q;cases q
 have ab:∀m,m∈bK keys n->∀a,(free row (row n).below m).above=some a->m∉(row n).below/\(row m).above=some a/\a≠n:=λm hm a e=>by
  by_cases z:m∈(row n).below
  ·rw[jN z]at e;cases e
  ·rw[eC z]at e
   refine⟨z,e,λw=>z ?_⟩
   subst w;exact f.dn m (cC.mp hm).1 a e
 have un:∀m,m∈bK keys n->∀b∈(row m).below,b∈bK keys n/\b∉(row n).below/\(row b).above=some m:=λm hm b hb=>by
  obtain⟨m1,m2⟩:=cC.mp hm;obtain⟨u1,u2⟩:=f.up m m1 b hb;refine⟨cC.mpr ⟨u1,λe=>?_⟩,λz=>?_,u2⟩
  ·rw[e,(h.tk n hn).2]at u2;cases u2
  ·rw[(bu b z).2]at u2;cases u2;exact m2 rfl
 have hb:Bt (λm=>(row m).key) c (bK ak n++(row n).below) (bK keys n) (free row (row n).below):=by
  refine⟨h.nd.sublist List.filter_sublist,λm hm=>h.nm m (cC.mp hm).1,?_,λt ht=>?_,λm hm e=>?_,λm hm e=>?_,λm hm a e=>?_,λm hm=>?_,λm hm a e=>?_⟩
  ·rw[List.nodup_append]
   exact⟨h.tn.sublist List.filter_sublist,f.nd n hk,λx hx y hy e=>(bn y hy).2 (e▸(cC.mp hx).1)⟩
  ·rcases zae ht with ht|ht
   ·obtain⟨t1,t2⟩:=cC.mp ht
    rw[eC λz=>(bn t z).2 t1]
    exact⟨cC.mpr ⟨(h.tk t t1).1,t2⟩,(h.tk t t1).2⟩
   ·rw[jN ht];exact⟨cC.mpr ⟨(bu t ht).1,(bn t ht).1⟩,rfl⟩
  ·by_cases z:m∈(row n).below
   ·exact zan _ z
   ·rw[eC z]at e
    exact zaW _ (cC.mpr ⟨h.ne m (cC.mp hm).1 e,(cC.mp hm).2⟩)
  ·by_cases z:m∈(row n).below
   ·rw[jN z]at e;cases e
   ·rw[eC z]at e⊢;exact h.mkd m (cC.mp hm).1 e
  ·obtain⟨a1,a2,a3⟩:=ab m hm a e
   exact cC.mpr ⟨h.ab m (cC.mp hm).1 a a2,a3⟩
  ·rw[(jO _ m).2]
   exact⟨(h.bl m (cC.mp hm).1).1,λb hb=>(un m hm b hb).1⟩
  ·exact h.ho m (cC.mp hm).1 a (ab m hm a e).2.1
 refine⟨hb.re λm _=>(jO _ m).1.symm,⟨λm hm=>?_,λm hm b hb=>?_,λm hm a e=>?_,λm hm i b e=>?_⟩,?_⟩
 ·rw[(jO _ m).2];exact f.nd m (cC.mp hm).1
 ·rw[(jO _ m).2]at hb
  obtain⟨u1,u2,u3⟩:=un m hm b hb;rw[eC u2];exact⟨u1,u3⟩
 ·obtain⟨a1,a2,a3⟩:=ab m hm a e
  rw[(jO _ a).2];exact f.dn m (cC.mp hm).1 a a2
 ·rw[(jO _ m).2]at e
  obtain⟨u1,u2,u3⟩:=un m hm b (zaj e);rw[eC u2];exact f.dg m (cC.mp hm).1 i b e
 ·unfold mk bK
  rw[List.filter_filter,<-List.countP_eq_length_filter,<-List.countP_eq_length_filter];refine List.countP_mono_left λm _ e=>?_
  rw[Bool.and_eq_true]at e
  by_cases z:m∈(row n).below
  ·rw[jN z]at e;cases e.1
  ·rw[eC z]at e;exact e.1
def stF(b:Str):D:=.tuple [.str "free",.str b]
theorem mS{α:Type}{f : α->D}(h:∀x,eQ (f x)=true)(l:List α):fB (.list (l.map f)) true=true:=by
 show bc (l.map f)=true
 induction l with
 |nil=>rfl
 |cons x l ih=>simp only[List.map_cons,bc,ih,Bool.and_true];exact h x
abbrev St(B:List (Option Cl))(keys:List Str)(row:Str->aK.Row)(ts:List Str)(sts:List Str):List (Option Cl):=B++[dt (HD keys row),dt (TD ts),dt (.list (sts.map stF))]
abbrev ft(pile nm:SV)(N:Nat)(x3:SV)(x6 x7:Option SV):List (Option SV):=[some pile,some nm,some (.lc N),some x3,some (.lc (N+1)),some (.lc (N+2)),x6,x7]
theorem Dg(hpl:blV (B.length+3) pile=true)(hnm:blV (B.length+3) nm=true)(h3:blV (B.length+3) x3=true)(hk:keys.length<=1000)(hts:ts.length<=1000):∀(l pre:List Str) (x6:Option SV),(∀b∈l,b∈keys)->pre.length+l.length<=1000->
  ∃x6',gu (B.length+3) [0,1,2,3,4,5,7] (λ_=>True) (ngN 6) oV ((l.map PyData.str).map .pl) ⟨St B keys (free row pre) (ts++pre) pre,ft pile nm B.length x3 x6 none⟩=some (.nx ⟨St B keys (free row (pre++l)) (ts++(pre++l)) (pre++l),ft pile nm B.length x3 x6' none⟩):=by
 intro l
 induction l with
 |nil=>intro pre x6 _ _;rw[zaR];exact⟨x6,yP⟩
 |cons b l ih=>
  intro pre x6 hl hz;rw[zaw]at hz;have hb:=hl b zas;obtain⟨x6',h1⟩:=ih (pre++[b]) (some (.pl (.str b))) (λy hy=>hl y (zak _ hy)) (by rw[zau,za7];omega)
  rw[zaD]at h1;refine⟨x6',vc (s1:=⟨St B keys (free row pre) (ts++pre) pre,ft pile nm B.length x3 (some (.pl (.str b))) none⟩) (s2:=⟨St B keys (free row (pre++[b])) (ts++(pre++[b])) (pre++[b]),ft pile nm B.length x3 (some (.pl (.str b))) none⟩) (qb (by simp)) ?_ (kN (by simp) (by simp[l4,hpl,hnm,h3,blV])) h1⟩
  refine aR (s':=⟨St B keys (free row (pre++[b])) (ts++pre) pre,ft pile nm B.length x3 (some (.pl (.str b))) none⟩) ((lu (r:=⟨(free row pre b).key,none,false,(free row pre b).below⟩) (jL (cQ (rs:=[(bf (free row pre b),.fz)]) (ay (ao (cy (.inl (a8 rfl (b3 ap0))) hb (ar (dQ rfl)))) aT) (u5 _) (dG _)) (dG _)) (aF rfl) (aF rfl) ap0 hk).trans (by rw[fv hb,Ah,ve])) ?_
  refine aR (s':=⟨St B keys (free row (pre++[b])) (ts++(pre++[b])) pre,ft pile nm B.length x3 (some (.pl (.str b))) none⟩) ((eA (nG (aF rfl) (apk (k:=1) rfl) (aS (aF rfl) cR) (apk (k:=1) rfl) (by rw[zal,zau];omega))).trans (by dsimp only;rw[K1,kI,zaD])) ?_
  refine(eA (nG (aF rfl) (apk (k:=2) rfl) (aS (nF (xs:=[.pl (.str "free"),.pl (.str b)]) (aS gS (aS (aF rfl) cR)) rfl (by simp)) cR) (apk (k:=2) rfl) (by rw[zal];omega))).trans ?_
  dsimp only;rw[My];show _=some (iF.nx ⟨B++[_,_,dt (.list ((pre++[b]).map stF))],_⟩);rw[za1];rfl
theorem ly:∀a b:List D,bc (a++b)=(bc a&&bc b)
 | [],b=>by simp[bc]
 |x::a,b=>by simp only[List.cons_append,bc,ly a b,Bool.and_assoc]
theorem yQ(h:a s=some (.ok (.lc k) s1))(h0:s1.S[k]?=some (dt (HD keys row)))(h1:m s1=some (.ok [.pl (.str n)] s2))(h2:s2.S[k]?=some (dt (HD keys row)))(hn:n∈keys):qC a m s=some (.ok (.pl (bf (row n))) ⟨s2.S.set k (dt (HD (bK keys n) row)),s2.t⟩):=by
 unfold qC;rw[eL h];simp only[BF,h0,if_true];rw[eL h1];unfold BD;dsimp only[keyOf,Option.bind_some];rw[h2];dsimp only;rw[i7,if_pos hn,vf];rfl
def lz(fs:List Str)(hs:List (Str×Str)):List D:=fs.map stF++hs.map stH
theorem BY(hc:c<=200)(h:Bk c ak keys row)(f:Fm keys row)(hn:n∈ak)(hp:S[p]?=some (dt (TD ak)))(hq:S[q]?=some (dt (HD keys row))) :
  ∃(sts:List (Str×Str)) (T:List Str) (aQ:Str->aK.Row) (X:List (Option Cl)),jt S [.tp [.lc p,.lc q],.pl (.str n)]=some (.ok (.tp [.pl (.int (row n).key),.tp [.lc (S.length+6),.lc (S.length+3)],.lc (S.length+7)]) (S++X))/\(S++X)[S.length+6]?=some (dt (TD T))/\(S++X)[S.length+3]?=some (dt (HD (bK keys n) aQ))/\(S++X)[S.length+7]?=some (dt (.list (lz (row n).below sts)))/\Hs (bK ak n++(row n).below) (free row (row n).below) sts T aQ/\∀t∈T,∀u∈T,(aQ t).below.length=(aQ u).below.length->t=u:=by
 have lp:=dZ hp;have lq:=dZ hq;have kl:=h.kl;have tl:=h.tl;have hk:=(h.tk n hn).1;have bb:=h.bl n hk;have ol:(bK ak n).length<=ak.length:=zaY _ _;have okl:(bK keys n).length<=keys.length:=zaY _ _;have rp:∀X:List (Option Cl),rdV (S++X) (.tp [.lc p,.lc q])=some (PD ak keys row):=λX=>d9 (bM hp) (bM hq)
 obtain⟨hB',hF',_⟩:=sZ h f hn;have bo:∀b∈(row n).below,b∈bK keys n:=λb hb=>(hB'.tk b (zan _ hb)).1
 obtain⟨x6,fl⟩:=Dg (keys:=bK keys n) (B:=S) (pile:=.tp [.lc p,.lc q]) (nm:=.pl (.str n)) (x3:=.pl (bf (row n))) (by simp[blV,nZ];omega) rfl rfl (by omega) (ts:=bK ak n) (by omega) (row:=row) (row n).below [] none bo (by simp;omega)
 rw[List.nil_append,zaR,show free row []=row from funext λm=>eC (by simp)]at fl
 obtain⟨sts,T,aQ,al,e1,e2,e3⟩:=F3 hc hB' hF' (S:=St S (bK keys n) (free row (row n).below) (bK ak n++(row n).below) (row n).below) (p:=S.length+1) (q:=S.length) (apk (k:=1) rfl) ap0;rw[show(St S (bK keys n) (free row (row n).below) (bK ak n++(row n).below) (row n).below).length=S.length+3 by simp,zaD]at e1
 have sl:=e2.len;rw[zau]at sl;have cmp:mLC [("name",1)] (pB (mOp gIx (ai 0) (mC (.int 0)))) oW oX (vw ⟨S++[dt (HD (bK keys n) row)],[some (.tp [.lc p,.lc q]),some (.pl (.str n)),some (.lc S.length),some (.pl (bf (row n))),none,none,none,none]⟩)=some ((TD (bK ak n),.new),vw ⟨S++[dt (HD (bK keys n) row)],[some (.tp [.lc p,.lc q]),some (.pl (.str n)),some (.lc S.length),some (.pl (bf (row n))),none,none,none,none]⟩):=by
  refine uG (vY (ao (uZ (ak:=ak) (keys:=keys) (row:=row) (a8 rfl (rp _))))) ?_ (by rw[zal];omega)
  have dm:([("name",1)]:List (Str×Nat)).map (λz=>cb (vw ⟨S++[dt (HD (bK keys n) row)],[some (.tp [.lc p,.lc q]),some (.pl (.str n)),some (.lc S.length),some (.pl (bf (row n))),none,none,none,none]⟩) z.2)=[.fz (.str n)]:=by
   show [cb (vw _) 1]=_;unfold cb;rw[dQ (d:=.str n) rfl]
  rw[dm];exact fw (p:=λx=>!decide (x=n)) ak (λx hx=>⟨_,test_ev (k:=.fz) (bC (r:=(.str n,.fz)) (res:=(.bool (!decide (x=n)),false)) (ao (ar rfl)) (ao (ar rfl)) (rn (h.ok (h.tk x hx).1) (h.ok hk)))⟩) λx hx=>⟨_,ao (ar rfl)⟩
 refine⟨sts,T,aQ,[dt (HD (bK keys n) (free row (row n).below)),dt (TD (bK ak n++(row n).below)),dt (.list ((row n).below.map stF)),dt (HD (bK keys n) aQ),dt (AL al),dt (.list (sts.map stH)),dt (TD T),dt (.list (lz (row n).below sts))],?_,apk (k:=6) rfl,apk (k:=3) rfl,apk (k:=7) rfl,e2,e3⟩;refine qc (t':=ft (.tp [.lc p,.lc q]) (.pl (.str n)) S.length (.pl (bf (row n))) x6 (some (.tp [.tp [.lc (S.length+6),.lc (S.length+3)],.lc (S.length+5)]))) rfl ?_ (by simp[blV,nZ])
 refine aR (s':=⟨S++[dt (HD keys row)],[some (.tp [.lc p,.lc q]),some (.pl (.str n)),some (.lc S.length),none,none,none,none,none]⟩) (cz (i:=2) (s':=⟨S++[dt (HD keys row)],[some (.tp [.lc p,.lc q]),some (.pl (.str n)),none,none,none,none,none,none]⟩) (iI (eS (rs:=[(HD keys row,.fz)]) (res:=(HD keys row,true)) (ay (ao (nU (a8 rfl (d9 hp hq)))) aT) rfl) (nH keys row)) (by simp)) ?_
 refine aR (s':=⟨S++[dt (HD (bK keys n) row)],[some (.tp [.lc p,.lc q]),some (.pl (.str n)),some (.lc S.length),some (.pl (bf (row n))),none,none,none,none]⟩) ((cz (i:=3) (yQ (aF rfl) ap0 (aS (aF rfl) cR) ap0 hk) (by simp)).trans (by dsimp only;rw[Ah];rfl)) ?_
 refine aR (s':=⟨S++[dt (HD (bK keys n) row),dt (TD (bK ak n))],[some (.tp [.lc p,.lc q]),some (.pl (.str n)),some (.lc S.length),some (.pl (bf (row n))),some (.lc (S.length+1)),none,none,none]⟩) (cz (i:=4) (qH (k:=1) cmp (jM _) rfl) (by simp)) ?_
 refine aR (s':=⟨St S (bK keys n) row (bK ak n) [],ft (.tp [.lc p,.lc q]) (.pl (.str n)) S.length (.pl (bf (row n))) none none⟩) ((cz (i:=5) Jm (by simp)).trans (by dsimp only;rw[HW,zaD];rfl)) ?_
 refine aR (s':=⟨St S (bK keys n) (free row (row n).below) (bK ak n++(row n).below) (row n).below,ft (.tp [.lc p,.lc q]) (.pl (.str n)) S.length (.pl (bf (row n))) x6 none⟩) (BU (ds:=(row n).below.map .str) (wW (ao (fu (ar (FY rfl))))) (by dsimp only;rw[show(St S (bK keys n) row (bK ak n) []).length=S.length+3 by simp];exact fl)) ?_
 refine aR (s':=⟨S++[dt (HD (bK keys n) (free row (row n).below)),dt (TD (bK ak n++(row n).below)),dt (.list ((row n).below.map stF)),dt (HD (bK keys n) aQ),dt (AL al),dt (.list (sts.map stH)),dt (TD T)],ft (.tp [.lc p,.lc q]) (.pl (.str n)) S.length (.pl (bf (row n))) x6 (some (.tp [.tp [.lc (S.length+6),.lc (S.length+3)],.lc (S.length+5)]))⟩) (cz (i:=7) (iA (aS (i3 (xs:=[.lc (S.length+1),.lc S.length]) (aS (aF rfl) (aS (aF rfl) cR)) rfl (by simp)) cR) e1) (by simp)) ?_
 have rh:rdV (S++[dt (HD (bK keys n) (free row (row n).below)),dt (TD (bK ak n++(row n).below)),dt (.list ((row n).below.map stF)),dt (HD (bK keys n) aQ),dt (AL al),dt (.list (sts.map stH)),dt (TD T)]) (.tp [.tp [.lc (S.length+6),.lc (S.length+3)],.lc (S.length+5)])=some (.tuple [PD T (bK keys n) aQ,.list (sts.map stH)]):=by
  simp only[rdV,qO,apk (k:=6) (show([dt (HD (bK keys n) (free row (row n).below)),dt (TD (bK ak n++(row n).below)),dt (.list ((row n).below.map stF)),dt (HD (bK keys n) aQ),dt (AL al),dt (.list (sts.map stH)),dt (TD T)]:List (Option Cl))[6]?=some (dt (TD T))from rfl),apk (k:=3) (show([dt (HD (bK keys n) (free row (row n).below)),dt (TD (bK ak n++(row n).below)),dt (.list ((row n).below.map stF)),dt (HD (bK keys n) aQ),dt (AL al),dt (.list (sts.map stH)),dt (TD T)]:List (Option Cl))[3]?=some (dt (HD (bK keys n) aQ))from rfl),apk (k:=5) (show([dt (HD (bK keys n) (free row (row n).below)),dt (TD (bK ak n++(row n).below)),dt (.list ((row n).below.map stF)),dt (HD (bK keys n) aQ),dt (AL al),dt (.list (sts.map stH)),dt (TD T)]:List (Option Cl))[5]?=some (dt (.list (sts.map stH)))from rfl),zai,zaT]
 refine jK (i3 (xs:=[.pl (.int (row n).key),.tp [.lc (S.length+6),.lc (S.length+3)],.lc (S.length+7)]) (aS (dB (aF rfl) gS rfl) (aS (dB (aF rfl) gS rfl) (aS (qH (k:=7) (bC (r:=(.list (sts.map stH),.fz)) (res:=(.list (lz (row n).below sts),true)) (ao (ar (a8 rfl (b3 (apk (k:=2) rfl))))) (ao (bC (r:=(.int 1,.fz)) (res:=(.list (sts.map stH),false)) (ao (ar (a8 rfl rh))) (ao rfl) rfl)) (pG _ _ (by simp only[List.length_map];omega))) ?_ rfl) cR))) rfl (by simp))
 show bc (lz (row n).below sts)=true;unfold lz;rw[ly,show bc ((row n).below.map stF)=true from mS (λx=>rfl) _,show bc (sts.map stH)=true from mS (λx=>rfl) _];rfl
structure Po(c:Nat)(ak keys:List Str)(row:Str->aK.Row)(n:Str)(S X:List (Option Cl))(p q f0 f1 f2:Nat)(C:List Str)(fE:List Str)(dy:Str->aK.Row)(sts:List (Str×Str))(T:List Str)(aQ:Str->aK.Row):Prop where
 run:ny S [.tp [.lc p,.lc q],.pl (.str n)]=some (.ok (.tp [.pl (.int (row n).key),.tp [.lc f0,.lc f1],.lc f2]) (S++X))
 g0:(S++X)[f0]?=some (dt (TD T))
 g1:(S++X)[f1]?=some (dt (HD (bK keys n) aQ))
 g2:(S++X)[f2]?=some (dt (.list (C.map stp++lz (dy n).below sts)))
 n02:f0≠f2
 l0:S.length<=f0
 l1:S.length<=f1
 l2:S.length<=f2
 law:fo [TD ak,HD keys row,.str n]=some ((.list (C.map stp),true),TD fE,HD keys dy)
 bk:Bk c fE keys dy
 fm:Fm keys dy
 nt:n∈fE
 ck:C.length<=c/\∀x∈C,x∈keys
 cr:C.length+(fE.length+2*mk keys dy)<=ak.length+2*mk keys row+4
 hs:Hs (bK fE n++(dy n).below) (free dy (dy n).below) sts T aQ
 dd:∀t∈T,∀u∈T,(aQ t).below.length=(aQ u).below.length->t=u
theorem og{S:List (Option Cl)}{i j:Nat}(h1:S[i]?=some (dt x))(h2:S[j]?=some (dt y))(ne:x≠y):i≠j:=λe=>by
 subst e;rw[h1]at h2;cases h2;exact ne rfl
theorem K2(hc:c<=200)(h:Bk c ak keys row)(f:Fm keys row)(hn:n∈keys)(hp:S[p]?=some (dt (TD ak)))(hq:S[q]?=some (dt (HD keys row))) :
  ∃X f0 f1 f2 C fE dy sts T aQ,Po c ak keys row n S X p q f0 f1 f2 C fE dy sts T aQ:=by
 have rp:=d9 hp hq;have hd:∀{u:SN} {o:Option iF},u ⟨S,[some (.tp [.lc p,.lc q]),some (.pl (.str n)),none,none]⟩=o->bX (iO (nO (b4 gG (aj (ai 0) (aj (ai 1) aI))))) u ⟨S,[some (.tp [.lc p,.lc q]),some (.pl (.str n)),none,none]⟩=o:=fun{u o} hu=>
  aR (eA (jL (cQ (rs:=[(PD ak keys row,.fz),(.str n,.fz)]) (ay (ao (ar (a8 rfl rp))) (ay (ao (ar (dQ rfl))) aT)) (HL hn) rfl) rfl)) hu
 have tI:nTo (aO (mOp gIs (mOp gIx (mOp dh (mOp gIx (ai 0) (mC (.int 1))) (ai 1)) (mC (.int 1))) (mC .none))) ⟨S,[some (.tp [.lc p,.lc q]),some (.pl (.str n)),none,none]⟩=some (.ok (row n).above.isNone ⟨S,[some (.tp [.lc p,.lc q]),some (.pl (.str n)),none,none]⟩):=gg (test_ev (k:=.fz) (bC (r:=(.none,.fz)) (res:=(.bool (row n).above.isNone,false)) (ao (eD (pW hn (ao (nU (a8 rfl rp))) (ar (dQ rfl))))) (ao rfl) (yN _)));cases ea:(row n).above with
 |none=>
  rw[ea]at tI;have nt:=h.ne n hn ea;obtain⟨sts,T,aQ,X,e1,e2,e3,e4,e5,e6⟩:=BY hc h f nt hp hq;refine⟨X,_,_,_,[],ak,row,sts,T,aQ,?_,e2,e3,e4,by omega,by omega,by omega,by omega,?_,h,f,nt,⟨Nat.zero_le _,λx hx=>by cases hx⟩,by simp,e5,e6⟩
  ·exact qc (t':=[some (.tp [.lc p,.lc q]),some (.pl (.str n)),none,none]) rfl (hd (HP (BQ tI (jK (iA (aS (aF rfl) (aS (aF rfl) cR)) e1))))) (by simp[blV,nZ])
  ·refine wQ (o:=.rt (.list [],.at 3) [.io (TD ak),.io (HD keys row),.fz (.str n),.own (.list []),.fz (.bool false),.no,.no,.no,.no,.no,.no]) rfl ?_ rfl rfl
   refine aX (ρ1:=[.io (TD ak),.io (HD keys row),.fz (.str n),.own (.list []),.no,.no,.no,.no,.no,.no,.no]) (eK (fK (rs:=[]) rfl rfl (by simp)) rfl) ?_
   refine aX (ρ1:=[.io (TD ak),.io (HD keys row),.fz (.str n),.own (.list []),.fz (.bool false),.no,.no,.no,.no,.no,.no]) (dw (bC (r:=(.none,.fz)) (res:=(.bool false,false)) (ao (eD (cy (.inr (.inr rfl)) hn (ar rfl)))) (ao rfl) (by rw[iw,ea];rfl)) rfl) ?_
   exact aX (i6 (n:=999999) (test_ev (k:=.fz) (ar rfl))) (du (hU rfl))
 |some a=>
  rw[ea]at tI;obtain⟨C,L,hch,hcl⟩:=Jg h hn (by rw[ea];simp)
  obtain⟨x1,x2⟩:=Jj hc h hn hch (by omega)
  have hbc:Bk c (ak++C) keys (cuts C row):=x2.re λm _=>(oZ C row m).symm
  have hfc:=Fm.cuts C ak row n L h hn (f.x n) hch;have hm:=HB C ak row n L h hn hch;have nt:n∈ak++C:=zan _ (by cases hch<;>exact zas)
  have co:=Aj hc h hn hch hcl hp hq;obtain⟨Y,hY⟩:∃Y,Y=[dt (HD keys (cuts C row)),dt (TD C),dt (TD (ak++C)),dt (.list (C.map stp))]:=⟨_,rfl⟩;rw[<-hY]at co;have k0:(S++Y)[S.length]?=some (dt (HD keys (cuts C row))):=by rw[hY];exact ap0
  have k2:(S++Y)[S.length+2]?=some (dt (TD (ak++C))):=by rw[hY];exact apk (k:=2) rfl
  have k3:(S++Y)[S.length+3]?=some (dt (.list (C.map stp))):=by rw[hY];exact apk (k:=3) rfl
  obtain⟨sts,T,aQ,X,e1,e2,e3,e4,e5,e6⟩:=BY hc hbc hfc nt k2 k0;rw[oZ]at e1;have sl:=e5.len;have bb:=(hbc.bl n hn).1;have ol:(bK (ak++C) n).length<=(ak++C).length:=zaY _ _;have tlc:=hbc.tl;rw[zau]at sl;refine⟨Y++(X++[dt (.list (C.map stp++lz (cuts C row n).below sts))]),(S++Y).length+6,(S++Y).length+3,(S++Y++X).length,C,ak++C,cuts C row,sts,T,aQ,?_,?_,?_,?_,zaS (dZ e2),?_,?_,?_,x1,hbc,hfc,nt,⟨hcl,(Ch.mem h hch hn).1⟩,by rw[zau];omega,e5,e6⟩
  ·refine qc (t':=[some (.tp [.lc p,.lc q]),some (.pl (.str n)),some (.tp [.tp [.lc (S.length+2),.lc S.length],.lc (S.length+3)]),some (.tp [.pl (.int (row n).key),.tp [.lc ((S++Y).length+6),.lc ((S++Y).length+3)],.lc ((S++Y).length+7)])]) rfl (hd ?_) (by simp[blV,nZ])
   refine aR (kM tI rfl) ?_;refine aR (cz (i:=2) (iA (aS (aF rfl) (aS (aF rfl) cR)) co) (by simp)) ?_
   refine aR (cz (i:=3) (iA (aS (dB (aF rfl) gS rfl) (aS (aF rfl) cR)) e1) (by simp)) ?_
   have r2:rdV (S++Y++X) (.tp [.tp [.lc (S.length+2),.lc S.length],.lc (S.length+3)])=some (.tuple [PD (ak++C) keys (cuts C row),.list (C.map stp)]):=by
    simp only[rdV,qO,bM (X:=X) k2,bM (X:=X) k0,bM (X:=X) k3,Option.bind_some,Option.map_some]
   have r3:rdV (S++Y++X) (.tp [.pl (.int (row n).key),.tp [.lc ((S++Y).length+6),.lc ((S++Y).length+3)],.lc ((S++Y).length+7)])=some (.tuple [.int (row n).key,PD T (bK keys n) aQ,.list (lz (cuts C row n).below sts)]):=by
    simp only[rdV,qO,e2,e3,e4,Option.bind_some,Option.map_some]
   refine(jK (i3 (aS (dB (aF rfl) gS rfl) (aS (dB (aF rfl) gS rfl) (aS (iI (bC (r:=(.list (lz (cuts C row n).below sts),.fz)) (res:=(.list (C.map stp++lz (cuts C row n).below sts),true)) (ao (bC (r:=(.int 1,.fz)) (res:=(.list (C.map stp),false)) (ao (ar (a8 rfl r2))) (ao rfl) rfl)) (ao (bC (r:=(.int 2,.fz)) (res:=(.list (lz (cuts C row n).below sts),false)) (ao (ar (a8 rfl r3))) (ao rfl) rfl)) (pG _ _ (by unfold lz;simp only[List.length_map,List.length_append];omega))) ?_) cR))) rfl (by simp))).trans ?_
   ·show bc (C.map stp++lz (cuts C row n).below sts)=true
    unfold lz;rw[ly,ly,show bc (C.map stp)=true from vd C,show bc ((cuts C row n).below.map stF)=true from mS (λx=>rfl) _,show bc (sts.map stH)=true from mS (λx=>rfl) _];rfl
   ·dsimp only
    simp only[List.append_assoc];rfl
  ·rw[<-zaD,<-zaD];exact bM e2
  ·rw[<-zaD,<-zaD];exact bM e3
  ·rw[<-zaD,<-zaD];exact ap0
  ·simp;omega
  ·simp;omega
  ·simp
theorem Ie(hn:n∉keys):nu [PD ak keys row,.str n]=some (.inr "Lacking") :=
 FT (ρ:=[.fz (PD ak keys row),.fz (.str n),.no,.no]) rfl (HK (Mt (FU (rs:=[(PD ak keys row,.fz),(.str n,.fz)]) (ay (ao (ar rfl)) (ay (ao (ar rfl)) aT)) rfl (FV hn))))
def vg:D:=.list [.bool true,.bool true,.bool false,.bool false]
theorem Ak(hn:n∉keys):dP [PD ak keys row,.str n]=some (vg,true):=by
 refine eO (o:=.rt (vg,.at 2) [.fz (PD ak keys row),.fz (.str n),.own vg,.no]) rfl ?_ rfl;refine aX (ρ1:=[.fz (PD ak keys row),.fz (.str n),.own (.list []),.no]) (eK (fK (rs:=[]) rfl rfl (by simp)) rfl) ?_
 refine aX (ρ1:=[.fz (PD ak keys row),.fz (.str n),.own vg,.no]) (KZ (rs:=[(PD ak keys row,.fz),(.str n,.fz)]) (ρ2:=[.fz (PD ak keys row),.fz (.str n),.own (.list []),.ex]) (ρ3:=[.fz (PD ak keys row),.fz (.str n),.own vg,.ex]) (ay (ao (ar rfl)) (ay (ao (ar rfl)) aT)) (Ie hn) rfl rfl rfl ?_ rfl rfl) (du (hU rfl));exact eK (fK (rs:=[(.bool true,.fz),(.bool true,.fz),(.bool false,.fz),(.bool false,.fz)]) rfl rfl (by simp)) rfl
theorem yR{m:Rho->Option (List RV×Rho)}(h1:m ρ=some ([(PD ak keys row,.fz),(.str n,.fz)],ρ))(hn:n∉keys):aO (mOp gNe (b4 dP m) (f6 (aj (mC (.bool true)) (aj (mC (.bool true)) (aj (mC (.bool false)) (aj (mC (.bool false)) aI)))))) ρ=some (false,ρ) :=
 test_ev (k:=.fz) (bC (r:=(vg,.fz)) (res:=(.bool false,false)) (jm (cQ h1 (Ak hn) rfl)) (jm (fK (rs:=[(.bool true,.fz),(.bool true,.fz),(.bool false,.fz),(.bool false,.fz)]) rfl rfl (by simp))) rfl)
theorem Dh(l:List Str):(l.map PyData.str).all jl=true:=by
 rw[List.all_map,List.all_eq_true];exact λ_ _=>rfl
theorem tf(h:x∈l):oR (.str x) (TD l)=some (.bool false,false):=by
 show(if jl (.str x)=true/\(l.map PyData.str).all jl=true then some (PyData.bool (!(l.map PyData.str).any λc=>PyData.eqv c (.str x)),false)else none)=_
 rw[if_pos ⟨rfl,Dh l⟩,List.any_map,List.any_eq_true.mpr ⟨x,h,by simp[PyData.eqv]⟩];rfl
theorem F4(x y:Str)(hx:PyData.strOk x=true)(hy:PyData.strOk y=true):gEq (.str x) (.str y)=some (.bool (x==y),false):=by
 unfold gEq;rw[if_pos ⟨iZ hx,iZ hy⟩];simp only[PyData.eqv]
theorem Ig(hT:∀t∈T,t∈keys)(ok:∀t∈keys,PyData.strOk t=true)(hx:x∈T)(hy:y∈T)(ne:y≠x)(lt:bU (row y).key y (row x).key x=true)(ed:(row x).below.length=(row y).below.length):fq [TD T,HD keys row,stH (x,y)]=some (.bool true,false):=by
 have ixn:∀(k:Nat) (d:D),[PyData.str "hang",.str x,.str y][k]?=some d->mOp gIx (ai 2) (mC (.int (k:Int))) [.fz (TD T),.fz (HD keys row),.fz (stH (x,y))]=some ((d,.fz),[.fz (TD T),.fz (HD keys row),.fz (stH (x,y))]):=λk d h=>
  bC (r:=(.int (k:Int),.fz)) (res:=(d,false)) (ao (ar rfl)) (ao rfl) (by
   match k,h with
   |0,h=>cases h;rfl
   |1,h=>cases h;rfl
   |2,h=>cases h;rfl
   |n+3,h=>cases h)
 have i1:=ixn 1 _ rfl;have i2:=ixn 2 _ rfl;have lb:∀(k:Nat) (z:Str),z∈keys->mOp gIx (ai 2) (mC (.int (k:Int))) [.fz (TD T),.fz (HD keys row),.fz (stH (x,y))]=some ((.str z,.fz),[.fz (TD T),.fz (HD keys row),.fz (stH (x,y))])->IE (mCB cX (aj (mOp gIx (mOp dh (ai 1) (mOp gIx (ai 2) (mC (.int (k:Int))))) (mC (.int 3))) aI)) [.fz (TD T),.fz (HD keys row),.fz (stH (x,y))] ((row z).below.length:Int):=λk z hz h=>
  eS (rs:=[(.tuple ((row z).below.map .str),.fz)]) (res:=(.int ((row z).below.length:Int),false)) (ay (ao (fu (cy (.inl rfl) hz h))) aT) (by show some (PyData.int (((row z).below.map PyData.str).length:Int),false)=_;rw[zal])
 have b0:PyData.strOk "hang"=true:=by decide+kernel
 refine eO (o:=.rt (.bool true,.fz) [.fz (TD T),.fz (HD keys row),.fz (stH (x,y))]) rfl ?_ rfl;refine aX (kX (jU (gE (test_ev (k:=.fz) (v:=true) (mq (ao (ar rfl)) (eu _)))) (jU (jn (qw (eS (rs:=[(stH (x,y),.fz)]) (res:=(.int 3,false)) (ay (ao (ar rfl)) aT) rfl) c7) rfl) (jU (test_ev (k:=.fz) (v:=false) (bC (r:=(.str "hang",.fz)) (res:=(.bool false,false)) (ao (ixn 0 _ rfl)) (ao rfl) (by rw[rn b0 b0];simp))) (test_ev (k:=.fz) (v:=false) (bC (r:=(.str y,.fz)) (res:=(.bool false,false)) (ao i1) (ao i2) (by rw[F4 _ _ (ok x (hT x hx)) (ok y (hT y hy))];simp;exact λe=>ne e.symm)))))) rfl) ?_
 refine aX (kX (jU (test_ev (k:=.fz) (v:=false) (bC (r:=(TD T,.fz)) (res:=(.bool false,false)) (ao i1) (ao (ar rfl)) (tf hx))) (jU (test_ev (k:=.fz) (v:=false) (bC (r:=(TD T,.fz)) (res:=(.bool false,false)) (ao i2) (ao (ar rfl)) (tf hy))) (gE (v:=true) ((kY (rs:=[(HD keys row,.fz),(.str y,.fz),(.str x,.fz)]) (ay (ao (ar rfl)) (ay (ao i2) (ay (ao i1) aT))) (by rw[<-lt];exact uS keys row y x (hT y hy) (hT x hx))).t)))) rfl) ?_
 exact du ((A0 (lb 1 x (hT x hx) i1) (lb 2 y (hT y hy) i2)).is (zaH (by rw[ed])))
theorem gL{α:Type}{S:List α}{u : α}(h:x≠i):(S.set i u)[x]?=S[x]?:=zaA λe=>h e.symm
def Wk(W:List (Option Cl))(i j d:Nat)(T keys:List Str)(row:Str->aK.Row)(L:List D):List (Option Cl):=((W.set i (dt (TD T))).set j (dt (HD keys row))).set d (dt (.list L))
structure Wx(W:List (Option Cl))(i j d:Nat):Prop where
 li:i<W.length
 lj:j<W.length
 ld:d<W.length
 ij:i≠j
 id:i≠d
 jd:j≠d
section
variable{W:List (Option Cl)}{i j d:Nat}{T T' keys':List Str}{aQ:Str->aK.Row}{L L':List D}
theorem Wx.gi(h:Wx W i j d):(Wk W i j d T keys row L)[i]?=some (dt (TD T)):=by unfold Wk;rw[gL h.id,gL h.ij];exact zav h.li
theorem Wx.gj(h:Wx W i j d):(Wk W i j d T keys row L)[j]?=some (dt (HD keys row)):=by unfold Wk;rw[gL h.jd];exact zav (by rw[zaM];exact h.lj)
theorem Wx.gd(h:Wx W i j d):(Wk W i j d T keys row L)[d]?=some (dt (.list L)):=by unfold Wk;exact zav (by rw[zaM,zaM];exact h.ld)
theorem Wx.si(h:Wx W i j d):(Wk W i j d T keys row L).set i (dt (TD T'))=Wk W i j d T' keys row L:=by
 unfold Wk;rw[List.set_comm _ _ (λe=>h.id e.symm),List.set_comm _ _ (λe=>h.ij e.symm),List.set_set]
theorem Wx.sj(h:Wx W i j d):(Wk W i j d T keys row L).set j (dt (HD keys' aQ))=Wk W i j d T keys' aQ L:=by
 unfold Wk;rw[List.set_comm _ _ (λe=>h.jd e.symm),List.set_set]
theorem Wx.sd:(Wk W i j d T keys row L).set d (dt (.list L'))=Wk W i j d T keys row L':=by
 unfold Wk;rw[List.set_set]
theorem Wx.go(e1:x≠i)(e2:x≠j)(e3:x≠d):(Wk W i j d T keys row L)[x]?=W[x]?:=by
 unfold Wk;rw[gL e3,gL e2,gL e1]
theorem Wx.len:(Wk W i j d T keys row L).length=W.length:=by unfold Wk;simp
theorem Wx.app(h:Wx W i j d)(c:Option Cl):Wk W i j d T keys row L++[c]=Wk (W++[c]) i j d T keys row L:=by
 unfold Wk;rw[List.set_append_left _ _ h.li,List.set_append_left _ _ (by rw[zaM];exact h.lj),List.set_append_left _ _ (by rw[zaM,zaM];exact h.ld)]
theorem Wx.more(h:Wx W i j d)(c:Option Cl):Wx (W++[c]) i j d:=⟨by rw[De];exact Nat.lt_succ_of_lt h.li,by rw[De];exact Nat.lt_succ_of_lt h.lj,by rw[De];exact Nat.lt_succ_of_lt h.ld,h.ij,h.id,h.jd⟩
end
theorem Di{ys:List SV}{ds sts:List D}{d0 e0 d1 e1:D}(h:m s=some (.ok (.lc i::.lc j::ys) s1))(hij:i≠j)(h1:iM ys=some ds)(hi:s1.S[i]?=some (dt d0))(hj:s1.S[j]?=some (dt e0))(hf:f (d0::e0::ds)=some ((.list sts,true),d1,e1)):oa f m s=some (.ok (.lc s1.S.length) ⟨(s1.S.set i (dt d1)).set j (dt e1)++[dt (.list sts)],s1.t⟩):=by
 unfold oa;rw[eL h];simp only[if_neg hij,h1,hi,hj,Option.bind_some,hf,Ks,newD,List.length_set]
theorem Dj(h:m s=some (.ok (.lc i::.lc j::ys) s1))(hij:i≠j)(h1:iM ys=some ds)(hi:s1.S[i]?=some (dt d0))(hj:s1.S[j]?=some (dt e0))(hf:f (d0::e0::ds)=some ((.none,false),d1,e1)):oa f m s=some (.ok (.pl .none) ⟨(s1.S.set i (dt d1)).set j (dt e1),s1.t⟩):=by
 unfold oa;rw[eL h];simp only[if_neg hij,h1,hi,hj,Option.bind_some,hf,Ks]
theorem Ih(h:a s=some (.ok (.lc k) s1))(h0:s1.S[k]?=some (dt (TD T)))(h1:m s1=some (.ok [.pl (.str n)] s2))(h2:s2.S[k]?=some (dt (TD T)))(hn:n∈T):nMt nh a m s=some (.ok (.pl .none) ⟨s2.S.set k (dt (TD (T.erase n))),s2.t⟩):=by
 unfold nMt yh;rw[eL h];simp only[sh,h0,if_true];rw[eL h1];simp only[ER,iM,Option.bind_some,h2,Fz hn,Option.map_some]
abbrev wt(n:Str)(i j f d:Nat)(B:D)(x6 x7 x8 x9 x10 x11:Option SV):List (Option SV):=[some (.lc i),some (.lc j),some (.pl (.str n)),some (.lc f),some (.lc d),some (.pl B),x6,x7,x8,x9,x10,x11]
def lw(l:List (Option SV)):Prop:=∀m,l4 m l=true
theorem F5(hi:i<N)(hj:j<N)(hf:f<N)(hd:d<N)(h:lw [x6,x7,x8,x9,x10,x11]):l4 N (wt n i j f d B x6 x7 x8 x9 x10 x11)=true:=by
 have:=h N;simp only[l4,List.all_cons,List.all_nil,Bool.and_true,blV,decide_eq_true hi,decide_eq_true hj,decide_eq_true hf,decide_eq_true hd,Bool.true_and]at this⊢;exact this
theorem Mz(hx:Wx W i j d)(hf:f<W.length)(hk:keys.length<=1000)(hts:ts.length<=1000)(hE:E.length<=1000):∀(l pre:List Str) (x6 x7 x8 x9 x10:Option SV),lw [x6,x7,x8,x9,x10,none]->(∀b∈l,b∈keys)->pre.length+l.length<=1000->
  ∃y6 y7 y8 y9 y10,lw [y6,y7,y8,y9,y10,none]/\gu W.length [0,1,2,3,4,5,11] (λ_=>True) (ngN 6) mM ((l.map PyData.str).map .pl) ⟨Wk W i j d (ts++pre) keys (free row pre) (E++pre.map stF),wt n i j f d B x6 x7 x8 x9 x10 none⟩=some (.nx ⟨Wk W i j d (ts++(pre++l)) keys (free row (pre++l)) (E++(pre++l).map stF),wt n i j f d B y6 y7 y8 y9 y10 none⟩):=by
 intro l
 induction l with
 |nil=>intro pre x6 x7 x8 x9 x10 h _ _;rw[zaR];exact⟨x6,x7,x8,x9,x10,h,yP⟩
 |cons b l ih=>
  intro pre x6 x7 x8 x9 x10 h hl hz;rw[zaw]at hz;have hb:=hl b zas;have hlw:lw [some (.pl (.str b)),some (.pl (.int (free row pre b).key)),some (.pl (bg (free row pre b).above)),some (.pl (.bool (free row pre b).mark)),some (.pl (.tuple ((free row pre b).below.map .str))),none]:=λm=>rfl
  obtain⟨y6,y7,y8,y9,y10,hy,h1⟩:=ih (pre++[b]) _ _ _ _ _ hlw (λy hy=>hl y (zak _ hy)) (by rw[zau,za7];omega)
  rw[zaD pre]at h1;refine⟨y6,y7,y8,y9,y10,hy,vc (s1:=⟨Wk W i j d (ts++pre) keys (free row pre) (E++pre.map stF),wt n i j f d B (some (.pl (.str b))) x7 x8 x9 x10 none⟩) (qb (by simp)) ?_ (kN (by rw[Wx.len];exact zap _) (F5 hx.li hx.lj hf hx.ld hlw)) h1⟩
  refine aR (s':=⟨Wk W i j d (ts++pre) keys (free row pre) (E++pre.map stF),wt n i j f d B (some (.pl (.str b))) (some (.pl (.int (free row pre b).key))) (some (.pl (bg (free row pre b).above))) (some (.pl (.bool (free row pre b).mark))) (some (.pl (.tuple ((free row pre b).below.map .str)))) none⟩) ?_ ?_
  ·unfold dO
   rw[iP (jL (cy (.inl (a8 rfl (b3 hx.gj))) hb (ar (dQ rfl))) (dG _))];rfl
  refine aR (s':=⟨Wk W i j d (ts++pre) keys (free row (pre++[b])) (E++pre.map stF),_⟩) ((lu (r:=⟨(free row pre b).key,none,false,(free row pre b).below⟩) (nF (xs:=[.pl (.int (free row pre b).key),.pl .none,.pl (.bool false),.pl (.tuple ((free row pre b).below.map .str))]) (aS (aF rfl) (aS gS (aS gS (aS (aF rfl) cR)))) rfl (by simp)) (aF rfl) (aF rfl) hx.gj hk).trans (by rw[fv hb,hx.sj,ve])) ?_
  refine aR (s':=⟨Wk W i j d (ts++(pre++[b])) keys (free row (pre++[b])) (E++pre.map stF),_⟩) ((eA (nG (aF rfl) hx.gi (aS (aF rfl) cR) hx.gi (by rw[zal,zau];omega))).trans (by dsimp only;rw[kI,hx.si,zaD])) ?_
  refine(eA (nG (aF rfl) hx.gd (aS (nF (xs:=[.pl (.str "free"),.pl (.str b)]) (aS gS (aS (aF rfl) cR)) rfl (by simp)) cR) hx.gd (by rw[zau,zal];omega))).trans ?_
  dsimp only;rw[Wx.sd,za1,zaD];rfl
theorem MB(hc:c<=200){V:List (Option Cl)}{L ds:List D}{x6 x7 x8 x9 x10:Option SV}(hx:Wx V i j d)(hf:f<V.length)(hk:V[k]?=some (dt (.list ds)))(k1:k≠i)(k2:k≠j)(k3:k≠d){ak T':List Str}{row aQ:Str->aK.Row}{r:List (Str×Str)}(hs:Hs ak row r T' aQ):Bk c ak keys row->Fm keys row->∀x11,lw [x6,x7,x8,x9,x10,x11]->
  ∃y11,gu V.length [0,1,2,3,4,5,6,7,8,9,10] (stays (.lc k) (ds.map .pl)) (ngN 11) mL ((r.map stH).map .pl) ⟨Wk V i j d ak keys row L,wt n i j f d B x6 x7 x8 x9 x10 x11⟩=some (.nx ⟨Wk V i j d T' keys aQ L,wt n i j f d B x6 x7 x8 x9 x10 y11⟩):=by
 have st:∀{T:List Str} {row:Str->aK.Row} {t:List (Option SV)},stays (.lc k) (ds.map .pl) ⟨Wk V i j d T keys row L,t⟩:=fun{T row t}=>ju ((Wx.go k1 k2 k3).trans hk)
 induction hs with
 |nil=>exact λ_ _ x11 _=>⟨x11,nI st⟩
 | @cons T T' row aQ x y r a b ne lt ed _ ih=>
  intro h fm x11 hl;obtain⟨h',f'⟩:=Bk.hang h fm a b ne lt ed;have kl:=h.kl;have hlw:lw [x6,x7,x8,x9,x10,some (.pl (stH (x,y)))]:=λm=>by
   have:=hl m;simp only[l4,List.all_cons,List.all_nil,Bool.and_true,Bool.and_eq_true]at this⊢;exact⟨this.1,this.2.1,this.2.2.1,this.2.2.2.1,this.2.2.2.2.1,rfl⟩
  obtain⟨y11,e⟩:=ih h' f' _ hlw;refine⟨y11,lr (s1:=⟨Wk V i j d T keys row L,wt n i j f d B x6 x7 x8 x9 x10 (some (.pl (stH (x,y))))⟩) st (qb (by simp)) ?_ (kN (by rw[Wx.len];exact zap _) (F5 hx.li hx.lj hf hx.ld hlw)) e⟩
  refine aR (kM (gg (gE (v:=true) ((kY (rs:=[(TD T,.fz),(HD keys row,.fz),(stH (x,y),.fz)]) (ay (ao (ar (a8 rfl (b3 hx.gi)))) (ay (ao (ar (a8 rfl (b3 hx.gj)))) (ay (ao (ar (dQ rfl))) aT))) (Ig (λt ht=>(h.tk t ht).1) (λt ht=>h.ok ht) a b ne lt ed)).t))) rfl) ?_
  refine(eA (Dj (aS (aF rfl) (aS (aF rfl) (aS (dB (aF rfl) gS rfl) (aS (dB (aF rfl) gS rfl) cR)))) hx.ij rfl hx.gi hx.gj (BK (h.tk x a).1 (h.tk y b).1 a (by omega) λm hm=>by have:=(h.bl m hm).1;omega))).trans ?_
  dsimp only;rw[hx.si,hx.sj]
theorem K3(d:Nat):d<gd d:=by
 induction d with
 |zero=>decide
 |succ d ih=>rw[o4];have:=KQ (d-1);omega
theorem Dk(n:Nat):∀(k m fuel:Nat) (s4:Sl),NIo s4->n<m+k->k<fuel->∃d s4',n<gd (d+1)/\fH mJ mK fuel [.fz (.int (n:Int)),.fz (.int (m:Int)),.fz (.int (gd m:Int)),.fz (.int (gd (m+1):Int)),s4]=some (.nx [.fz (.int (n:Int)),.fz (.int (d:Int)),.fz (.int (gd d:Int)),.fz (.int (gd (d+1):Int)),s4']):=by
 intro k
 induction k with
 |zero=>
  intro m fuel s4 n4 hm hf;obtain⟨fuel,rfl⟩:∃f,fuel=f+1:=⟨fuel-1,by omega⟩
  have:=K3 (m+1);exact⟨m,s4,by omega,i6 (jn (Ep (cD rfl) (cD rfl)) (zaO (by omega)))⟩
 |succ k ih=>
  intro m fuel s4 n4 hm hf;obtain⟨fuel,rfl⟩:∃f,fuel=f+1:=⟨fuel-1,by omega⟩
  by_cases hb:n<gd (m+1)
  ·exact⟨m,s4,hb,i6 (jn (Ep (cD rfl) (cD rfl)) (zaO (by omega)))⟩
  ·obtain⟨d,s4',g,e⟩:=ih (m+1) fuel (.fz (.int (gd (m+2):Int))) (NIo.fz _) (by omega) (by omega)
   refine⟨d,s4',g,oI (jn (Ep (cD rfl) (cD rfl)) (zaH (by omega))) ?_ e⟩
   have ef:((gd m:Int)+(gd (m+1):Int))=(gd (m+2):Int):=by
    have:gd (m+2)=gd (m+1)+gd m:=o4 (m+1);omega
   refine aX (ρ1:=[.fz (.int (n:Int)),.fz (.int (m:Int)),.fz (.int (gd m:Int)),.fz (.int (gd (m+1):Int)),.fz (.int (gd (m+2):Int))]) (Ng ((jV (cD rfl) (cD rfl)).is ef) (iY (s:=s4) _ rfl n4)) ?_;refine aX (ρ1:=[.fz (.int (n:Int)),.fz (.int (m:Int)),.fz (.int (gd (m+1):Int)),.fz (.int (gd (m+1):Int)),.fz (.int (gd (m+2):Int))]) (dw (ar rfl) rfl) ?_;refine aX (ρ1:=[.fz (.int (n:Int)),.fz (.int (m:Int)),.fz (.int (gd (m+1):Int)),.fz (.int (gd (m+2):Int)),.fz (.int (gd (m+2):Int))]) (dw (ar rfl) rfl) ?_;rfl
theorem Ii(hn:n<=1000):∃d,n<gd (d+1)/\iW [.int (n:Int)]=some (.int (d:Int),false):=by
 obtain⟨d,s4',g,e⟩:=Dk n (n+1) 0 1000000 .no NIo.no (by omega) (by omega)
 refine⟨d,g,eO (o:=.rt (.int (d:Int),.fz) [.fz (.int (n:Int)),.fz (.int (d:Int)),.fz (.int (gd d:Int)),.fz (.int (gd (d+1):Int)),s4']) rfl ?_ rfl⟩;refine aX (ρ1:=[.fz (.int (n:Int)),.fz (.int 0),.no,.no,.no]) (dw rfl rfl) ?_;refine aX (ρ1:=[.fz (.int (n:Int)),.fz (.int 0),.fz (.int 1),.no,.no]) (dw rfl rfl) ?_;refine aX (ρ1:=[.fz (.int (n:Int)),.fz (.int 0),.fz (.int 1),.fz (.int 2),.no]) (dw rfl rfl) ?_;exact aX e (du (ar rfl))
abbrev tp(l:List Str):D:=.tuple (l.map .str)
theorem An{C:List (List Str)}(h:∀l∈C,∀x∈l,PyData.strOk x=true):PyData.canLayAll0 (C.map tp)=true/\PyData.depthAll (C.map tp)<=3/\PyData.eqvAll (C.map tp) (C.map tp)=true:=by
 induction C with
 |nil=>exact⟨rfl,by simp[PyData.depthAll],rfl⟩
 |cons x C ih=>
  obtain⟨h1,h2,h3⟩:=ih λy hy=>h y (zak _ hy)
  obtain⟨q1,q2⟩:=mR (h x zas);refine⟨?_,?_,?_⟩
  ·simp only[List.map_cons,PyData.canLayAll0,PyData.canLay0,h1,q1,Bool.and_true]
  ·simp only[List.map_cons,PyData.depthAll,PyData.depth]
   omega
  ·simp only[List.map_cons,PyData.eqvAll,PyData.eqv,h3,iy,Bool.and_true,decide_true]
theorem Ij{C:List (List Str)}(h:∀l∈C,∀x∈l,PyData.strOk x=true):gNe (.list (C.map tp)) (.list (C.map tp))=some (.bool false,false):=by
 obtain⟨h1,h2,h3⟩:=An h;have hs:SeqAt.shaped (.list (C.map tp))=true:=by
  unfold SeqAt.shaped;rw[zaH (by simp only[PyData.depth];omega),Bool.and_true]
  simp only[PyData.canLay0,h1]
 unfold gNe;rw[if_pos ⟨hs,hs⟩];show some (PyData.bool (!PyData.eqvAll (C.map tp) (C.map tp)),false)=_;rw[h3];rfl
def stL(C B:List Str):List (List Str):=C.map (λx=>([("cut":Str),x]:List Str))++B.map λx=>([("free":Str),x]:List Str)
theorem K4(C B:List Str):(stL C B).map tp=C.map stp++B.map stF:=by
 unfold stL;rw[za1,List.map_map,List.map_map];rfl
theorem K5(h1:∀x∈C,PyData.strOk x=true)(h2:∀x∈B,PyData.strOk x=true):∀l∈stL C B,∀x∈l,PyData.strOk x=true:=λl hl x hx=>by
 have k1:PyData.strOk "cut"=true:=by decide+kernel
 have k2:PyData.strOk "free"=true:=by decide+kernel
 rcases zae (show l∈_++_ from hl)with hl|hl
 ·obtain⟨y,hy,rfl⟩:=List.mem_map.mp hl
  rcases zaf hx with rfl|hx
  ·exact k1
  ·rw[zad hx];exact h1 y hy
 ·obtain⟨y,hy,rfl⟩:=List.mem_map.mp hl
  rcases zaf hx with rfl|hx
  ·exact k2
  ·rw[zad hx];exact h2 y hy
theorem Ik(A B:List D):cutD (A++B) none (some (A.length:Int))=A:=by
 unfold cutD;rw[HT.xx,HT.AK,zau,List.drop_zero,Nat.sub_zero,Nat.min_eq_left (by omega),List.take_left]
theorem Il(A B:List D):cutD (A++B) (some (A.length:Int)) none=B:=by
 unfold cutD;rw[HT.xx,HT.AK,zau,Nat.min_eq_left (by omega),List.drop_left,Nat.add_sub_cancel_left,List.take_length]
theorem qI:∀(ns acc:List Int),(acc++ns).Nodup->ns.foldl PyProof.Rows.step_dedup acc=acc++ns
 | [],acc,_=>by simp
 |a::ns,acc,h=>by
  have hn:(acc.any (· ==a))=false:=by
   rw[List.any_eq_false];intro b hb z;have:b=a:=by simpa using z
   subst this;have:=(List.nodup_append.mp h).2.2 b hb b zas;exact this rfl
  have:PyProof.Rows.step_dedup acc a=acc++[a]:=by unfold PyProof.Rows.step_dedup;rw[hn];rfl
  rw[List.foldl_cons,this,qI ns (acc++[a]) (by simpa using h)]
  simp
theorem Ao(h:ns.Nodup):diff ns=ns.length:=by
 have e:(List.range ns.length).map (λi=>ns.getD i 0)=ns:=by
  apply List.ext_getElem
  ·simp
  ·intro i h1 h2
   simp at h1;simp[h1]
 unfold diff PyProof.Rows.firstMet;rw[e,qI ns [] (by simpa using h),List.nil_append]
theorem vh:∀l:List Int,uO (l.map .int)=some l
 | []=>rfl
 |x::l=>by show(uO (l.map .int)).map (x::·)=_;rw[vh l];rfl
theorem kh{ρn:Rho}:∀l:List Str,(∀x∈l,∃ρ,sv e (.fz (.str x)::ρn)=some ((.int (g x),.fz),ρ))->kf vP e ρn (l.map .str)=some ((l.map g).map .int)
 | [],_=>rfl
 |x::l,h=>by
  have ih:=kh l λy hy=>h y (zak _ hy)
  obtain⟨ρ,e1⟩:=h x zas;show(sv e (.fz (.str x)::ρn)).bind _=_;rw[e1,zai];dsimp only[asF,Option.bind_some];rw[ih];rfl
theorem F6(h0:(vw s)[0]?=some (.fz (TD T)))(h1:(vw s)[1]?=some (.fz (HD keys row)))(hT:∀t∈T,t∈keys)(hl:T.length<=1000)(nd:T.Nodup)(hd:∀t∈T,∀u∈T,(row t).below.length=(row u).below.length->t=u):BE (mOp gEq (pU (mLC [("_law_held",1)] (pB (ai 0)) vP gJ)) (mCB cX (aj (ai 0) aI))) (vw s) true:=by
 have e:mLC [("_law_held",1)] (pB (ai 0)) vP gJ (vw s)=some ((.list ((T.map λt=>((row t).below.length:Int)).map .int),.new),vw s):=by
  refine uG (vY (ao (ar h0))) ?_ (by rw[zal,zal];omega)
  have dm:([("_law_held",1)]:List (Str×Nat)).map (λz=>cb (vw s) z.2)=[.fz (HD keys row)]:=by
   show [cb (vw s) 1]=_;unfold cb;rw[h1]
  rw[dm];exact kh T λx hx=>⟨_,ao (eS (rs:=[(.tuple ((row x).below.map .str),.fz)]) (res:=(.int ((row x).below.length:Int),false)) (ay (ao (fu (cy (.inl rfl) (hT x hx) (ar rfl)))) aT) (by show some (PyData.int (((row x).below.map PyData.str).length:Int),false)=_;rw[zal]))⟩
 have nd':(T.map λt=>((row t).below.length:Int)).Nodup:=by
  unfold List.Nodup;rw[List.pairwise_map];exact nd.imp_of_mem fun{t u} ht hu ne z=>ne (hd t ht u hu (by omega))
 have e2:IE (pU (mLC [("_law_held",1)] (pB (ai 0)) vP gJ)) (vw s) (T.length:Int):=by
  show pU _ _=_;unfold pU;rw[e,zai];dsimp only[Hx,Option.bind_some];rw[vh,zai,b7 (by rw[zal];omega),Ao nd',zal]
 exact(A0 e2 (eS (rs:=[(TD T,.fz)]) (res:=(.int (T.length:Int),false)) (ay (ao (ar h0)) aT) (by show some (PyData.int ((T.map PyData.str).length:Int),false)=_;rw[zal]))).is (zaH rfl)
theorem nK(hx:x<n)(h:S[x]?=some (dt d)):(gcS n S)[x]?=some (dt d):=by
 unfold gcS;rw[zao,List.getElem?_take,if_pos hx,h];rfl
theorem Ap(hx:x<n)(h:S[x]?=some (dt d)):(fS n S)[x]?=some (dt d):=by
 unfold fS;split
 ·exact nK hx h
 ·exact h
theorem vm(nd:T.Nodup):T.erase n=bK T n:=by
 rw[List.Nodup.erase_eq_filter nd];unfold bK;exact List.filter_congr λt _=>by by_cases e:t=n<;>simp[e]
section
variable{ρ:Rho}{A B:List D}(h3 : ρ[3]?=some (.fz (.list (A++B))))(h4 : ρ[4]?=some (.fz (.list A)))
include h4
theorem part4:gC (mCB cX (aj (ai 4) aI)) ρ=some (some (A.length:Int),ρ):=by
 unfold gC;rw[ao (show mCB cX (aj (ai 4) aI) ρ=some ((.int (A.length:Int),.fz),ρ)from eS (rs:=[(.list A,.fz)]) (res:=(.int (A.length:Int),false)) (ay (ao (ar h4)) aT) rfl)];rfl
include h3
theorem K6:mSl gSl (ai 3) iR (gC (mCB cX (aj (ai 4) aI))) ρ=some ((.list A,.new),ρ):=by
 unfold mSl;rw[ao (ar h3),zai,show iR ρ=some (none,ρ)from rfl,zai,part4 h4,zai];dsimp only[nX,Option.bind_some,gSl];rw[Ik];rfl
theorem K7:mSl gSl (ai 3) (gC (mCB cX (aj (ai 4) aI))) iR ρ=some ((.list B,.new),ρ):=by
 unfold mSl;rw[ao (ar h3),zai,part4 h4,zai,show iR ρ=some (none,ρ)from rfl,zai];dsimp only[nX,Option.bind_some,gSl];rw[Il];rfl
end
theorem walked_is(hc:c<=200)(h:Bk c ak keys row)(P:Po c ak keys row n S0 X p q f0 f1 f2 C fE dy sts T aQ)(hi:S[i]?=some (dt (TD ak)))(hj:S[j]?=some (dt (HD keys row)))(hf:S[f]?=some (dt (.list (C.map stp++lz (dy n).below sts))))(fi:f≠i)(fj:f≠j) :
  ∃S',iX S [.lc i,.lc j,.pl (.str n),.lc f]=some (.ok (.pl (.bool true)) S')/\S'[i]?=some (dt (TD T))/\S'[j]?=some (dt (HD (bK keys n) aQ))/\∀(x:Nat) (d':D),x≠i->x≠j->S[x]?=some (dt d')->S'[x]?=some (dt d'):=by
 have li:=dZ hi;have lj:=dZ hj;have lf:=dZ hf;have nij:i≠j:=og hi hj (λe=>by cases e)
 have hn:=(P.bk.tk n P.nt).1;have tl:=P.bk.tl;have kl:=P.bk.kl;have bb:=(P.bk.bl n hn).1;have ol:(bK fE n).length<=fE.length:=zaY _ _;have okl:(bK keys n).length<=keys.length:=zaY _ _;have cl:=P.ck.1;obtain⟨hB',hF',_⟩:=sZ P.bk P.fm P.nt;have bo:∀b∈(dy n).below,b∈bK keys n:=λb hb=>(hB'.tk b (zan _ hb)).1
 obtain⟨W,hW⟩:∃W,W=S++[dt (.list (C.map stp))]:=⟨_,rfl⟩;have lW:W.length=S.length+1:=by rw[hW,De]
 have hx:Wx W i j S.length:=⟨by omega,by omega,by omega,nij,by omega,by omega⟩
 have gf:∀{T keys:List Str} {row:Str->aK.Row} {L:List D},(Wk W i j S.length T keys row L)[f]?=some (dt (.list ((C.map stp++(dy n).below.map stF)++sts.map stH))):=fun{T keys row L}=>by
  rw[Wx.go fi fj (by omega),hW,bM hf];unfold lz;rw[zaD]
 have w0:(S.set i (dt (TD fE))).set j (dt (HD keys dy))++[dt (.list (C.map stp))]=Wk W i j S.length fE keys dy (C.map stp):=by
  unfold Wk;rw[hW,List.set_append_left _ _ li,List.set_append_left _ _ (by rw[zaM];exact lj)]
  generalize hA:(S.set i (dt (TD fE))).set j (dt (HD keys dy))=A;have:A.length=S.length:=by rw[<-hA];simp
  rw[<-this,Ah]
 obtain⟨y6,y7,y8,y9,y10,hy,fl⟩:=Mz (n:=n) (B:=.tuple ((dy n).below.map .str)) (f:=f) (keys:=bK keys n) (ts:=bK fE n) (E:=C.map stp) (row:=dy) hx (by omega) (by omega) (by omega) (by rw[zal];omega) (dy n).below [] none none none none none (λm=>rfl) bo (by simp;omega)
 rw[List.nil_append,zaR,List.map_nil,zaR,show free dy []=dy from funext λm=>eC (by simp)]at fl
 obtain⟨V,hV⟩:∃V,V=W++[dt (.list (sts.map stH))]:=⟨_,rfl⟩;have lV:V.length=S.length+2:=by rw[hV,De];omega
 have hxV:Wx V i j S.length:=by rw[hV];exact hx.more _
 have vk:V[W.length]?=some (dt (.list (sts.map stH))):=by rw[hV];exact ap0
 obtain⟨y11,hl⟩:=MB (n:=n) (B:=.tuple ((dy n).below.map .str)) (f:=f) (L:=C.map stp++(dy n).below.map stF) hc hxV (by omega) vk (by omega) (by omega) (by omega) P.hs hB' hF' none hy
 obtain⟨hT,_⟩:=P.hs.inv hB' hF';refine⟨_,Af (o:=.rt (.pl (.bool true)) ⟨Wk V i j S.length T (bK keys n) aQ (C.map stp++(dy n).below.map stF),wt n i j f S.length (.tuple ((dy n).below.map .str)) y6 y7 y8 y9 y10 y11⟩) rfl ?_ rfl,Ap li hxV.gi,Ap lj hxV.gj,λx d' e1 e2 e=>Ap (dZ e) ((Wx.go e1 e2 (by have:=dZ e;omega)).trans (by rw[hV,hW];exact bM (bM e)))⟩
 refine aR (s':=⟨Wk W i j S.length fE keys dy (C.map stp),[some (.lc i),some (.lc j),some (.pl (.str n)),some (.lc f),some (.lc S.length),none,none,none,none,none,none,none]⟩) ((cz (i:=4) (Di (aS (aF rfl) (aS (aF rfl) (aS (aF rfl) cR))) nij rfl hi hj P.law) (by simp)).trans (by dsimp only;rw[w0];rfl)) ?_
 refine aR (s':=⟨Wk W i j S.length fE (bK keys n) dy (C.map stp),wt n i j f S.length (.tuple ((dy n).below.map .str)) none none none none none none⟩) ((cz (i:=5) (dB (yQ (aF rfl) hx.gj (aS (aF rfl) cR) hx.gj hn) gS rfl) (by simp)).trans (by dsimp only;rw[hx.sj];rfl)) ?_
 refine aR (s':=⟨Wk W i j S.length (bK fE n) (bK keys n) dy (C.map stp),wt n i j f S.length (.tuple ((dy n).below.map .str)) none none none none none none⟩) ((eA (Ih (aF rfl) hx.gi (aS (aF rfl) cR) hx.gi P.nt)).trans (by dsimp only;rw[hx.si,vm P.bk.tn])) ?_
 refine aR (BU (ds:=(dy n).below.map .str) (wW (ao (ar (FY rfl)))) (by dsimp only;rw[Wx.len];exact fl)) ?_
 refine aR (kM (gg (test_ev (k:=.fz) (v:=false) (bC (r:=(.list (C.map stp++(dy n).below.map stF),.fz)) (res:=(.bool false,false)) (jm (K6 (a8 rfl (b3 gf)) (a8 rfl (b3 hx.gd)))) (ao (ar (a8 rfl (b3 hx.gd)))) (by rw[<-K4];exact Ij (K5 (λx hx=>h.ok (P.ck.2 x hx)) λx hx=>hB'.ok (bo x hx)))))) rfl) ?_
 refine aR (o6 (k:=W.length) (ds:=sts.map stH) (s1:=⟨Wk V i j S.length (bK fE n++(dy n).below) (bK keys n) (free dy (dy n).below) (C.map stp++(dy n).below.map stF),wt n i j f S.length (.tuple ((dy n).below.map .str)) y6 y7 y8 y9 y10 none⟩) ((iI (K7 (a8 rfl (b3 gf)) (a8 rfl (b3 hx.gd))) (mS (λx=>rfl) _)).trans (by dsimp only;rw[Wx.len,hx.app,<-hV])) ((Wx.go (by omega) (by omega) (by omega)).trans vk) (by dsimp only;rw[Wx.len];exact hl)) ?_
 exact jK (Jl (F6 (a8 rfl (b3 hxV.gi)) (a8 rfl (b3 hxV.gj)) (λt ht=>(hT.tk t ht).1) (by have:=hT.tl;omega) hT.tn P.dd))
theorem Bt.rok(h:Bt K c ak keys row):∀n∈keys,rOk (row n):=λn hn=>⟨λa ha=>h.ok (h.ab n hn a ha),λb hb=>h.ok ((h.bl n hn).2 b hb)⟩
theorem Bt.tok(h:Bt K c ak keys row):∀t∈ak,PyData.strOk t=true:=λt ht=>h.ok (h.tk t ht).1
theorem Im{ds:List D}(h:a s=some (.ok (.lc k) s1))(hk:s1.S[k]?=some (dt (.list ds))):Ho pF a s=some (.ok (.pl .none) ⟨s1.S.set k (dt (.list [])),s1.t⟩):=by
 unfold Ho;rw[eL h];simp only[sh,hk,if_true,ER,iM,Option.bind_some,pF,Option.map_some]
theorem F7{es:List (D×D)}(h:a s=some (.ok (.lc k) s1))(hk:s1.S[k]?=some (dt (.dict es))):BC a s=some (.ok (.pl .none) ⟨s1.S.set k (dt (.dict [])),s1.t⟩):=by
 unfold BC;rw[eL h];simp only[hk]
theorem Aq{a b d:PM}(hB:Bk c ak keys row)(h1:a (vw s)=some ((PD ak keys row,.fz),vw s))(h2:b (vw s)=some ((TD ak,.fz),vw s))(h3:d (vw s)=some ((HD keys row,.fz),vw s)):ig (aO (b4 cT (aj a (aj b (aj d aI))))) (vw s)=some (false,vw s) :=
 gE (v:=true) (kY (rs:=[(PD ak keys row,.fz),(TD ak,.fz),(HD keys row,.fz)]) (ay (ao h1) (ay (ao h2) (ay (ao h3) aT))) (BP hB.rok hB.tok)).t
abbrev fr(a b i j:Nat)(n:Str)(s4 s5 s6:Option SV):List (Option SV):=[some (.tp [.lc a,.lc b]),some (.lc i),some (.lc j),some (.pl (.str n)),s4,s5,s6]
theorem yS(hc:c<=200)(h:Bk c ak keys row)(fm:Fm keys row)(hn:n∈keys)(ha:S[a]?=some (dt (TD ak)))(hb:S[b]?=some (dt (HD keys row)))(hi:S[i]?=some (dt (TD ak)))(hj:S[j]?=some (dt (HD keys row)))(nai:a≠i)(nbj:b≠j) :
  ∃S' f0 f1 T aQ,hZ S [.tp [.lc a,.lc b],.lc i,.lc j,.pl (.str n)]=some (.ok (.tp [.lc f0,.lc f1]) S')/\S'[f0]?=some (dt (TD T))/\S'[f1]?=some (dt (HD (bK keys n) aQ))/\S'[i]?=some (dt (TD T))/\S'[j]?=some (dt (HD (bK keys n) aQ))/\S.length<=f0/\S.length<=f1/\Bk c T (bK keys n) aQ/\Fm (bK keys n) aQ/\∀(x:Nat) (d:D),x≠i->x≠j->x≠a->x≠b->S[x]?=some (dt d)->S'[x]?=some (dt d):=by
 have kl:=h.kl;have tl:=h.tl;have la:=dZ ha;have lb:=dZ hb;have li:=dZ hi;have lj:=dZ hj;have naj:a≠j:=og ha hj (λe=>by cases e)
 have nbi:b≠i:=og hb hi (λe=>by cases e)
 have nij:i≠j:=og hi hj (λe=>by cases e)
 have nab:a≠b:=og ha hb (λe=>by cases e)
 obtain⟨S1,hS1⟩:∃S1,S1=S++[dt (TD ak),dt (HD keys row)]:=⟨_,rfl⟩;have Dl:∀{x:Nat} {d:Option Cl},S[x]?=some d->S1[x]?=some d:=fun{x d} e=>by rw[hS1];exact bM e
 obtain⟨X,f0,f1,f2,C,fE,dy,sts,T,aQ,P⟩:=K2 hc h fm hn (Dl ha) (Dl hb);have l1S:S1.length=S.length+2:=by rw[hS1,HW]
 have l0:=P.l0;have l1:=P.l1;have l2:=P.l2;have n01:f0≠f1:=og P.g0 P.g1 (λe=>by cases e)
 have n12:f1≠f2:=og P.g1 P.g2 (λe=>by cases e)
 have low:∀{x:Nat} {d:Option Cl},S[x]?=some d->(S1++X)[x]?=some d:=fun{x d} e=>bM (Dl e)
 have k0:(S1++X)[S.length]?=some (dt (TD ak)):=bM (by rw[hS1];exact ap0)
 have k1:(S1++X)[S.length+1]?=some (dt (HD keys row)):=bM (by rw[hS1];exact apk (k:=1) rfl)
 obtain⟨S3,wk,g_i,g_j,g_o⟩:=walked_is hc h P (low hi) (low hj) P.g2 (by omega) (by omega)
 have q_a:=g_o a _ nai naj (low ha);have q_b:=g_o b _ nbi nbj (low hb);have q_0:=g_o _ _ (by omega) (by omega) k0
 have q_1:=g_o _ _ (by omega) (by omega) k1
 have MC:=g_o _ _ (by omega) (by omega) P.g0
 have MH:=g_o _ _ (by omega) (by omega) P.g1
 have F8:=g_o _ _ (by omega) (by omega) P.g2
 obtain⟨hB',hF',hmk⟩:=sZ P.bk P.fm P.nt;obtain⟨hT,hFT⟩:=P.hs.inv hB' hF';have Ny:=P.hs.marks hB' hF';have kl':=hT.kl;obtain⟨m,hm,em⟩:=Ii (n:=keys.length) (by omega)
 have bm:(dy n).below.length<=m:=by
  have:=KR P.bk P.fm hn;rcases Nat.lt_or_ge m (dy n).below.length with z|z
  ·have:=BO (show m+1<=(dy n).below.length from z);omega
  ·exact z
 have hsl:=P.hs.len;have ol:(bK fE n).length+1<=fE.length:=by
  rw[<-vm P.bk.tn,List.length_erase_of_mem P.nt];have:=List.length_pos_of_mem P.nt;omega
 rw[zau]at hsl;have cr:=P.cr;have cl:=P.ck.1;obtain⟨L,hL⟩:∃L,L=C.map stp++lz (dy n).below sts:=⟨_,rfl⟩;have lL:L.length=C.length+((dy n).below.length+sts.length):=by rw[hL];unfold lz;simp
 have bb:=(P.bk.bl n hn).1;have tlc:=P.bk.tl;rw[<-hL]at F8;obtain⟨M,hM⟩:∃M:Int,M=(ak.length:Int)+2*(mk keys row:Int)+4+2*(m:Int):=⟨_,rfl⟩;obtain⟨S4,hS4⟩:∃S4,S4=((S3.set f2 (dt (.list (L++[.str "x"])))).set a (dt (.list []))).set b (dt (.dict [])):=⟨_,rfl⟩;have up:∀{x:Nat} {d:Option Cl},x≠f2->x≠a->x≠b->S3[x]?=some d->S4[x]?=some d:=fun{x d} e1 e2 e3 e=>by rw[hS4,gL e3,gL e2,gL e1];exact e
 have MJ:=up P.n02 (by omega) (by omega) MC
 have MK:=up n12 (by omega) (by omega) MH
 have e_i:=up (by omega) (λe=>nai e.symm) (λe=>nbi e.symm) g_i
 have e_j:=up (by omega) (λe=>naj e.symm) (λe=>nbj e.symm) g_j
 have Nq:S4[f2]?=some (dt (.list (L++[.str "x"]))):=by rw[hS4,gL (by omega),gL (by omega)];exact zav (dZ F8)
 refine⟨S4,f0,f1,T,aQ,?_,MJ,MK,e_i,e_j,by omega,by omega,hT,hFT,λx d e1 e2 e3 e4 e=>?_⟩
 ·refine qc (t':=fr a b i j n (some (.tp [.lc S.length,.lc (S.length+1)])) (some (.pl (.int M))) (some (.tp [.pl (.int (row n).key),.tp [.lc f0,.lc f1],.lc f2]))) rfl ?_ (by simp[blV,nZ];omega)
  refine aR (s':=⟨S1,fr a b i j n (some (.tp [.lc S.length,.lc (S.length+1)])) none none⟩) (cz (i:=4) (s':=⟨S1,fr a b i j n none none none⟩) (i3 (xs:=[.lc S.length,.lc (S.length+1)]) (aS (s1:=⟨S++[dt (TD ak)],fr a b i j n none none none⟩) (iI (eS (rs:=[(TD ak,.fz)]) (res:=(TD ak,true)) (ay (ao (ar (a8 rfl (b3 hi)))) aT) rfl) (jM _)) (aS ((qH (k:=1) (eS (rs:=[(HD keys row,.fz)]) (res:=(HD keys row,true)) (ay (ao (ar (a8 rfl (b3 (bM hj))))) aT) rfl) (nH _ _) rfl).trans (by rw[hS1];rfl)) cR)) rfl (by simp)) (by simp)) ?_
  refine aR (s':=⟨S1,fr a b i j n (some (.tp [.lc S.length,.lc (S.length+1)])) (some (.pl (.int M))) none⟩) (cz (i:=5) (BS (IE.is (jV (jV (m4 (rs:=[(PD ak keys row,.fz)]) (ay (ao (ar (a8 rfl (d9 (Dl ha) (Dl hb))))) aT) (uY (by omega))) c7) (zK c7 (m4 (rs:=[(.int (keys.length:Int),.fz)]) (ik (rl (i:=2) (.inl (a8 rfl (b3 (Dl hj))))) aT) em) (IG (.inl ⟨by decide,by decide⟩)))) hM.symm)) (by simp)) ?_
  refine aR (s':=⟨S1++X,fr a b i j n (some (.tp [.lc S.length,.lc (S.length+1)])) (some (.pl (.int M))) (some (.tp [.pl (.int (row n).key),.tp [.lc f0,.lc f1],.lc f2]))⟩) (cz (i:=6) (iA (aS (aF rfl) (aS (aF rfl) cR)) P.run) (by simp)) ?_
  have fd:∀{Z:List (Option Cl)} {L:List D} {T keys:List Str} {cI:Str->aK.Row},Z[f0]?=some (dt (TD T))->Z[f1]?=some (dt (HD keys cI))->Z[f2]?=some (dt (.list L))->(vw ⟨Z,fr a b i j n (some (.tp [.lc S.length,.lc (S.length+1)])) (some (.pl (.int M))) (some (.tp [.pl (.int (row n).key),.tp [.lc f0,.lc f1],.lc f2]))⟩)[6]?=some (.fz (.tuple [.int (row n).key,PD T keys cI,.list L])):=fun{Z L T keys cI} z1 z2 z3=>a8 rfl (by simp only[rdV,qO,z1,z2,z3,Option.bind_some,Option.map_some])
  have ix:∀{k:Nat} {x y z d:D} {ρ:Rho},ρ[6]?=some (.fz (.tuple [x,y,z]))->[x,y,z][k]?=some d->mOp gIx (ai 6) (mC (.int (k:Int))) ρ=some ((d,.fz),ρ):=fun{k x y z d ρ} z1 z2=>bC (r:=(.int (k:Int),.fz)) (res:=(d,false)) (ao (ar z1)) (ao rfl) (by
   match k,z2 with
   |0,z2=>cases z2;rfl
   |1,z2=>cases z2;rfl
   |2,z2=>cases z2;rfl
   |k+3,z2=>cases z2)
  have v6:=fd P.g0 P.g1 P.g2;refine aR (kM (gg (jU (gE (test_ev (k:=.fz) (v:=true) (mq (ao (ar v6)) (eu _)))) (jU (jn (qw (eS (rs:=[(.tuple [.int (row n).key,PD T (bK keys n) aQ,.list (C.map stp++lz (dy n).below sts)],.fz)]) (res:=(.int 3,false)) (ay (ao (ar v6)) aT) rfl) c7) rfl) (gE (test_ev (k:=.fz) (v:=true) (mq (ao (ix (k:=2) v6 rfl)) (nS _))))))) rfl) ?_;refine aR (kM (gg (jU (jn (qw (ix (k:=0) v6 rfl) (jI (cy (.inl (a8 rfl (b3 (low hj)))) hn (ar (dQ rfl))))) (by simp)) (test_ev (k:=.fz) (v:=false) (mq (ao (ix (k:=0) v6 rfl)) (kW _))))) rfl) ?_
  have w6:=fd MC MH F8;refine aR (kM (s':=⟨S3,fr a b i j n (some (.tp [.lc S.length,.lc (S.length+1)])) (some (.pl (.int M))) (some (.tp [.pl (.int (row n).key),.tp [.lc f0,.lc f1],.lc f2]))⟩) (Mu (HQ (b:=true) (FX (iA (aS (aF rfl) (aS (aF rfl) (aS (aF rfl) (aS (dB (aF rfl) gS rfl) cR)))) wk))) (gg (Aq hT (ix (k:=1) w6 rfl) (ar (a8 rfl (b3 g_i))) (ar (a8 rfl (b3 g_j)))))) rfl) ?_;refine aR (kM (gg (jU (jn (rY (jV (eS (rs:=[(.list L,.fz)]) (res:=(.int (L.length:Int),false)) (ay (ao (ix (k:=2) w6 rfl)) aT) rfl) (m4 (rs:=[(PD T (bK keys n) aQ,.fz)]) (ay (ao (ix (k:=1) w6 rfl)) aT) (uY (by omega)))) (cD (dQ rfl))) (zaO (by
    show¬(M<(L.length:Int)+((T.length:Int)+2*(mk (bK keys n) aQ:Int)));omega))) (Aq h (ar (a8 rfl (d9 q_a q_b))) (uZ (a8 rfl (d9 q_0 q_1))) (nU (a8 rfl (d9 q_0 q_1)))))) rfl) ?_
  refine aR (s':=⟨S3.set f2 (dt (.list (L++[.str "x"]))),_⟩) (eA (nG (dB (aF rfl) gS rfl) F8 (aS gS cR) F8 (by omega))) ?_
  refine aR (s':=⟨(S3.set f2 (dt (.list (L++[.str "x"])))).set a (dt (.list [])),_⟩) (eA (Im (ds:=ak.map .str) (dB (aF rfl) gS rfl) (by dsimp only;rw[gL (by omega)];exact q_a))) ?_
  refine aR (s':=⟨S4,_⟩) ((eA (F7 (es:=cB keys row) (dB (aF rfl) gS rfl) (by dsimp only;rw[gL (λe=>nab e.symm),gL (by omega)];exact q_b))).trans (by dsimp only;rw[<-hS4])) ?_
  refine aR (kM (gg (Aq hT (ix (k:=1) (fd MJ MK Nq) rfl) (ar (a8 rfl (b3 e_i))) (ar (a8 rfl (b3 e_j))))) rfl) ?_;exact jK (dB (aF rfl) gS rfl)
 ·have lx:=dZ e
  exact up (by omega) e3 e4 (g_o x d e1 e2 (low e))
def yT:List Str:=["notthere","","P","abcdefghi","a b"]
theorem K8:∀a,a<26->∀b,b<26->(∀o∈yT,letter a++letter b≠o)/\∀c,c<6->∀o∈yT,letter a++letter b++sfx c≠o:=by decide+kernel
theorem F9(i:Nat)(h:o∈yT):aC i≠o:=by
 have k:=K8 (i/52%26) (Nat.mod_lt _ (by omega)) (i/2%26) (Nat.mod_lt _ (by omega))
 unfold aC;split
 ·exact k.2 (i/2%6) (Nat.mod_lt _ (by omega)) o h
 ·exact k.1 o h
theorem Io(h:Bt K c ak keys row)(ho:o∈yT):o∉keys:=λz=>by
 obtain⟨i,_,e⟩:=h.nm o z;exact F9 i ho e.symm
theorem K9(cell:Int):∃o∈yT,gIx (.list (yT.map .str)) (.int (cell%5))=some (.str o,false):=by
 obtain⟨m,em,hm⟩:=nC cell 5 (by omega)
 have em':cell%5=(m:Int):=em;rw[em'];have hm':m<yT.length:=hm;exact⟨yT[m],List.getElem_mem hm',BM (zaC hm')⟩
theorem Ip{k m:Nat}(h:S[k]?=some (dt (TD l)))(hn:l[m]?=some n):ixV S (.lc k) (m:Int)=some (.pl (.str n)):=by
 simp only[ixV,h];rw[Mir.qU,zao,hn];rfl
theorem Jn(l:List Int):fB (.list (l.map .int)) true=true:=by
 show bc (l.map .int)=true
 induction l with
 |nil=>rfl
 |cons x l ih=>simp only[List.map_cons,bc,eQ,ih,Bool.and_true]
def Iv(scr:D)(cs:List Int)(s:SS):Prop:=∃S a b ak keys row x4 x5 x6 x7,s=⟨S,[some (.pl scr),some (.lc 1),some (.lc 2),some (.tp [.lc a,.lc b]),x4,x5,x6,x7]⟩/\S[1]?=some (dt (TD ak))/\S[2]?=some (dt (HD keys row))/\S[a]?=some (dt (TD ak))/\S[b]?=some (dt (HD keys row))/\a≠1/\b≠2/\a≠5/\S[5]?=some (dt (.list (cs.map .int)))/\Bk 120 ak keys row/\Fm keys row
theorem ML(h:Iv scr cs s):Iv scr cs (gcE 6 [0,1,2,3] s):=by
 unfold gcE;split
 ·rename_i hc
  obtain⟨S,a,b,ak,keys,row,x4,x5,x6,x7,rfl,h1,h2,h3,h4,n1,n2,n5,h5,hB,hF⟩:=h;rw[Bool.and_eq_true]at hc;have hl:blV 6 (.tp [.lc a,.lc b])=true:=by
   have:=(List.all_eq_true.mp hc.2) 3 (by simp)
   exact this
  have hab:a<6/\b<6:=by simpa[blV,nZ]using hl
  refine⟨gcS 6 S,a,b,ak,keys,row,gcV 6 x4,gcV 6 x5,gcV 6 x6,gcV 6 x7,?_,nK (by omega) h1,nK (by omega) h2,nK hab.1 h3,nK hab.2 h4,n1,n2,n5,nK (by omega) h5,hB,hF⟩
  show(⟨gcS 6 S,[gcV 6 (some (.pl scr)),gcV 6 (some (.lc 1)),gcV 6 (some (.lc 2)),gcV 6 (some (.tp [.lc a,.lc b])),gcV 6 x4,gcV 6 x5,gcV 6 x6,gcV 6 x7]⟩:SS)=_;have e:gcV 6 (some (.tp [.lc a,.lc b]))=some (.tp [.lc a,.lc b]):=by simp only[gcV,hl,if_true]
  rw[e];rfl
 ·exact h
abbrev lt(scr:D)(a b:Nat)(cell:Int)(x5 x6 x7:Option SV):List (Option SV):=[some (.pl scr),some (.lc 1),some (.lc 2),some (.tp [.lc a,.lc b]),some (.pl (.int cell)),x5,x6,x7]
theorem Iq(cell:Int)(h1:S[1]?=some (dt (TD ak)))(h2:S[2]?=some (dt (HD keys row)))(h3:S[a]?=some (dt (TD ak)))(h4:S[b]?=some (dt (HD keys row)))(n1:a≠1)(n2:b≠2)(n5:a≠5)(h5:S[5]?=some (dt (.list (cs.map .int))))(hB:Bk 120 ak keys row)(hF:Fm keys row) :
  ∃s',wL ⟨S,lt scr a b cell x5 x6 x7⟩=some (.nx s')/\Iv scr cs s':=by
 have kl:=hB.kl;obtain⟨o,ho,eo⟩:=K9 cell;have hd:∀{u:SN} {r:Option iF},u ⟨S++[dt (TD keys)],lt scr a b cell (some (.pl (.str o))) (some (.lc S.length)) x7⟩=r->
   bX (dO (nO (mOp gIx (f6 (aj (mC (.str "notthere")) (aj (mC (.str "")) (aj (mC (.str "P")) (aj (mC (.str "abcdefghi")) (aj (mC (.str "a b")) aI)))))) (mOp d5 (ai 4) (mC (.int 5))))) (ngN 5)) (bX (kq (nTo (aO (mOp gNe (b4 dP (aj (ai 3) (aj (ai 5) aI))) (f6 (aj (mC (.bool true)) (aj (mC (.bool true)) (aj (mC (.bool false)) (aj (mC (.bool false)) aI)))))))) (jW (nLit (.bool false))) iN) (bX (dO (nO (mCB pN (aj (ai 2) aI))) (ngN 6)) u)) ⟨S,lt scr a b cell x5 x6 x7⟩=r:=fun{u r} hu=>by
  refine aR (s':=⟨S,lt scr a b cell (some (.pl (.str o))) x6 x7⟩) (cz (i:=5) (jL (bC (r:=(.int (cell%5),.fz)) (res:=(.str o,false)) (jm (fK (rs:=[(.str "notthere",.fz),(.str "",.fz),(.str "P",.fz),(.str "abcdefghi",.fz),(.str "a b",.fz)]) rfl rfl (by simp))) (ao (fL (cD (dQ rfl)) c7 (by decide))) eo) rfl) (by simp)) ?_
  refine aR (kM (gg (yR (ay (ao (ar (a8 rfl (d9 h3 h4)))) (ay (ao (ar (dQ rfl))) aT)) (Io hB ho))) rfl) ?_;exact aR (cz (i:=6) (s':=⟨S++[dt (TD keys)],lt scr a b cell (some (.pl (.str o))) x6 x7⟩) (iI (yL (.inl (a8 rfl (b3 h2)))) (jM _)) (by simp)) hu
 have tn:nTo (aO (mOp gNe (ai 6) (f6 aI))) ⟨S++[dt (TD keys)],lt scr a b cell (some (.pl (.str o))) (some (.lc S.length)) x7⟩=some (.ok (!keys.isEmpty) ⟨S++[dt (TD keys)],lt scr a b cell (some (.pl (.str o))) (some (.lc S.length)) x7⟩):=gg (test_ev (k:=.fz) (bC (r:=(.list [],.fz)) (res:=(.bool (!keys.isEmpty),false)) (ao (ar (a8 rfl (b3 ap0)))) (jm (fK (rs:=[]) rfl rfl (by simp))) (BN λx hx=>hB.ok hx)))
 cases ek:keys.isEmpty with
 |true=>
  rw[ek]at tn;exact⟨_,hd (kM tn rfl),S++[dt (TD keys)],a,b,ak,keys,row,_,_,_,_,rfl,bM h1,bM h2,bM h3,bM h4,n1,n2,n5,bM h5,hB,hF⟩
 |false=>
  rw[ek]at tn;have kpos : 0<keys.length:=by
   cases keys with
   |nil=>cases ek
   |cons x l=>simp
  obtain⟨m,em,hm⟩:=nC cell keys.length kpos;obtain⟨n,hn⟩:∃n,keys[m]?=some n:=⟨_,zaC hm⟩;have hnk:n∈keys:=zaj hn;obtain⟨S',f0,f1,T,aQ,r1,r2,r3,r4,r5,r6,r7,r8,r8f,r9⟩:=yS (c:=120) (by omega) hB hF hnk (S:=S++[dt (TD keys)]) (a:=a) (b:=b) (i:=1) (j:=2) (bM h3) (bM h4) (bM h1) (bM h2) n1 n2
  have l5:=dZ h5;have b5:b≠5:=λe=>by rw[e,h5]at h4;cases h4
  rw[De]at r6 r7;refine⟨⟨S',lt scr f0 f1 cell (some (.pl (.str o))) (some (.lc S.length)) (some (.pl (.str n)))⟩,hd (BQ tn ?_),S',f0,f1,T,bK keys n,aQ,_,_,_,_,rfl,r4,r5,r2,r3,by omega,by omega,by omega,r9 5 _ (by omega) (by omega) (λe=>n5 e.symm) (λe=>b5 e.symm) (bM h5),r8,r8f⟩
  refine aR (s':=⟨S++[dt (TD keys)],lt scr a b cell (some (.pl (.str o))) (some (.lc S.length)) (some (.pl (.str n)))⟩) (cz (i:=7) (dB (aF rfl) (BS ((fL (cD (dQ rfl)) (rA (.inl (a8 rfl (b3 ap0)))) (by omega)).is em)) (Ip ap0 hn)) (by simp)) ?_
  refine aR (s':=⟨S',lt scr f0 f1 cell (some (.pl (.str o))) (some (.lc S.length)) (some (.pl (.str n)))⟩) (cz (i:=3) (iA (aS (aF rfl) (aS (aF rfl) (aS (aF rfl) (aS (aF rfl) cR)))) r1) (by simp)) ?_
  exact kM (gg (jU (test_ev (k:=.fz) (bC (r:=(.none,.fz)) (res:=(.bool false,false)) (ao (ar (a8 rfl (d9 r2 r3)))) (ao rfl) rfl)) (yR (ay (ao (ar (a8 rfl (d9 r2 r3)))) (ay (ao (ar (dQ rfl))) aT)) λz=>(cC.mp z).2 rfl))) rfl
theorem Ga:∀(l:List Int) (s:SS),Iv scr cs s->∃s',gu 6 [0,1,2,3] (stays (.lc 5) ((cs.map PyData.int).map .pl)) (ngN 4) wL ((l.map PyData.int).map .pl) s=some (.nx s')/\Iv scr cs s':=by
 intro l
 induction l with
 |nil=>
  intro s h;refine⟨s,?_,h⟩;obtain⟨S,a,b,ak,keys,row,x4,x5,x6,x7,rfl,h1,h2,h3,h4,n1,n2,n5,h5,hB,hF⟩:=h;exact nI (ju h5)
 |cons x l ih=>
  intro s h;obtain⟨S,a,b,ak,keys,row,x4,x5,x6,x7,rfl,h1,h2,h3,h4,n1,n2,n5,h5,hB,hF⟩:=h;obtain⟨s1,e1,i1⟩:=Iq (scr:=scr) (x5:=x5) (x6:=x6) (x7:=x7) x h1 h2 h3 h4 n1 n2 n5 h5 hB hF;obtain⟨s2,e2,i2⟩:=ih _ (ML i1);exact⟨s2,lr (ju h5) (qb (by simp)) e1 rfl e2,i2⟩
theorem Gb(ns:List Int)(hl:ns.length<=63)(hb:∀k∈ns,Builtin.Int.intBits k<=1048576):Jf [.list (ns.map .int)]=some (.bool true,false):=by
 obtain⟨cs,e1,l1,_⟩:=sW ns 20 80;obtain⟨cs2,e2,l2,_⟩:∃cs:List Int,cutD (ns.map .int) none (some (20:Int))=cs.map .int/\cs.length<=20/\True:=by
  obtain⟨cs,e,h1,_⟩:=sW ns 0 20;exact⟨cs,e,h1,trivial⟩
 obtain⟨ak,keys,row,eb,hB,hF⟩:=FQ cs (by omega)
 have i0:Iv (.list (ns.map .int)) cs2 ⟨[dt (.list (cs.map .int)),dt (TD ak),dt (HD keys row),dt (TD ak),dt (HD keys row),dt (.list (cs2.map .int))],[some (.pl (.list (ns.map .int))),some (.lc 1),some (.lc 2),some (.tp [.lc 3,.lc 4]),none,none,none,none]⟩ :=
  ⟨_,3,4,ak,keys,row,none,none,none,none,rfl,rfl,rfl,rfl,rfl,by omega,by omega,by omega,rfl,hB,hF⟩
 obtain⟨s',lo,iv⟩:=Ga cs2 _ i0;obtain⟨S,a,b,e9,keys',aQ,x4,x5,x6,x7,rfl,h1,h2,h3,h4,n1,n2,n5,h5,hB',_⟩:=iv;have body:BG ⟨[],[some (.pl (.list (ns.map .int))),none,none,none,none,none,none,none]⟩=some (.rt (.pl (.bool true)) ⟨S,[some (.pl (.list (ns.map .int))),some (.lc 1),some (.lc 2),some (.tp [.lc a,.lc b]),x4,x5,x6,x7]⟩):=by
  refine aR (s':=⟨[dt (.list (cs.map .int)),dt (TD ak),dt (HD keys row)],[some (.pl (.list (ns.map .int))),some (.lc 1),some (.lc 2),none,none,none,none,none]⟩) ?_ ?_
  ·have en:nO (mSl gSl (ai 0) (gC (mC (.int 20))) (gC (mC (.int 80)))) ⟨[],[some (.pl (.list (ns.map .int))),none,none,none,none,none,none,none]⟩=some (.ok (.lc 0) ⟨[dt (.list (cs.map .int))],[some (.pl (.list (ns.map .int))),none,none,none,none,none,none,none]⟩):=iI (show mSl gSl (ai 0) (gC (mC (.int 20))) (gC (mC (.int 80))) _=some ((.list (cs.map .int),.new),_)from by rw[<-e1];rfl) (Jn cs)
   unfold dO;rw[iP (v:=.tp [.lc 1,.lc 2]) (s':=⟨[dt (.list (cs.map .int)),dt (TD ak),dt (HD keys row)],[some (.pl (.list (ns.map .int))),none,none,none,none,none,none,none]⟩)]
   ·rfl
   ·unfold zV
    rw[eL (aS en cR)];simp only[qO,rdV,List.getElem?_cons_zero,Option.bind_some,Option.map_some,eb,jM,nH,Bool.and_true,if_true];rfl
  refine aR (s':=⟨[dt (.list (cs.map .int)),dt (TD ak),dt (HD keys row),dt (TD ak),dt (HD keys row)],[some (.pl (.list (ns.map .int))),some (.lc 1),some (.lc 2),some (.tp [.lc 3,.lc 4]),none,none,none,none]⟩) (cz (i:=3) (s':=⟨[dt (.list (cs.map .int)),dt (TD ak),dt (HD keys row),dt (TD ak),dt (HD keys row)],[some (.pl (.list (ns.map .int))),some (.lc 1),some (.lc 2),none,none,none,none,none]⟩) (i3 (xs:=[.lc 3,.lc 4]) (aS (iI (eS (rs:=[(TD ak,.fz)]) (res:=(TD ak,true)) (ay (ao (ar (a8 rfl (b3 rfl)))) aT) rfl) (jM _)) (aS (iI (eS (rs:=[(HD keys row,.fz)]) (res:=(HD keys row,true)) (ay (ao (ar (a8 rfl (b3 rfl)))) aT) rfl) (nH _ _)) cR)) rfl (by simp)) (by simp)) ?_
  refine aR (o6 (k:=5) (ds:=cs2.map .int) (s1:=⟨[dt (.list (cs.map .int)),dt (TD ak),dt (HD keys row),dt (TD ak),dt (HD keys row),dt (.list (cs2.map .int))],[some (.pl (.list (ns.map .int))),some (.lc 1),some (.lc 2),some (.tp [.lc 3,.lc 4]),none,none,none,none]⟩) (iI (show mSl gSl (ai 0) iR (gC (mC (.int 20))) _=some ((.list (cs2.map .int),.new),_)from by rw[<-e2];rfl) (Jn cs2)) rfl lo) ?_
  exact jK (Jl (kY (rs:=[(PD e9 keys' aQ,.fz),(TD e9,.fz),(HD keys' aQ,.fz)]) (ay (ao (ar (a8 rfl (d9 h3 h4)))) (ay (ao (ar (a8 rfl (b3 h1)))) (ay (ao (ar (a8 rfl (b3 h2)))) aT))) (BP hB'.rok hB'.tok)))
 show fnO 1 7 BG [.list (ns.map .int)]=_;unfold fnO;rw[if_pos (show([PyData.list (ns.map .int)]:List D).length=1 from rfl)];show(BG ⟨[],[some (.pl (.list (ns.map .int))),none,none,none,none,none,none,none]⟩).bind LZ=_;rw[body];rfl
end K76
set_option maxHeartbeats 4000000
def PySem.W.Fast.tw12316497108058626238:Nat:=0
def PySem.W.Fast.tw9724947693410175187:Nat:=0
def PySem.W.Fast.tw15818387129470709059:Nat:=0
def PySem.W.Fast.tw1913669671747348548:Nat:=0
def PySem.W.Fast.tw4683086123616104548:Nat:=0
def PySem.W.Fast.tw6673021403704571305:Nat:=0
def PySem.W.Fast.tw18387225070995046553:Nat:=0
def PySem.W.Fast.tw5895574670315094949:Nat:=0
def PySem.W.Fast.tw17334707175327726821:Nat:=0
namespace K76
open PySem L2 Mir
def top(i:Nat):Stmt:=PySem.Challenge.pw_creditworks_k76_names_put_out.main.body.getD i (.Pass ⟨0,0,0,0⟩)
abbrev oh:Stmt:=top 27
theorem iB:bF ["_law_tops","_law_held","_law_start","_law_k","_law_j","_law_one","_law_other"] ["_law_tops","_law_held","_law_start"] (aV oh):=⟨rfl,rfl,rfl,by decide+kernel,rfl,by decide+kernel,by decide+kernel⟩
abbrev qd:Stmt:=top 25
theorem cL:bF ["_law_tops","_law_held","_law_name","_law_steps","_law_going","_law_key","_law_above","_law_mark","_law_below","_law_further","_law_marked"] ["_law_tops","_law_held","_law_name"] (aV qd):=⟨rfl,rfl,rfl,by decide+kernel,rfl,by decide+kernel,by decide+kernel⟩
abbrev lA:Stmt:=top 26
theorem tZ:bF ["_law_held","_law_one","_law_other"] ["_law_held","_law_one","_law_other"] (aV lA):=⟨rfl,rfl,rfl,by decide+kernel,rfl,by decide+kernel,by decide+kernel⟩
abbrev om:Stmt:=top 24
theorem dH:bF ["_law_tops","_law_held","_law_name","_law_on","_law_key","_law_above","_law_mark","_law_below"] ["_law_tops","_law_held","_law_name","_law_on"] (aV om):=⟨rfl,rfl,rfl,by decide+kernel,rfl,by decide+kernel,by decide+kernel⟩
abbrev jX:Stmt:=top 22
theorem gM:bF ["_law_k","_law_letters","_law_name"] ["_law_k"] (aV jX):=⟨rfl,rfl,rfl,by decide+kernel,rfl,by decide+kernel,by decide+kernel⟩
abbrev lB:Stmt:=top 23
theorem t5:bF ["_law_number"] ["_law_number"] (aV lB):=⟨rfl,rfl,rfl,by decide+kernel,rfl,by decide+kernel,by decide+kernel⟩
abbrev mT:Stmt:=top 28
theorem di:bF ["_law_cells","_law_first","_law_tops","_law_held","_law_k","_law_cell","_law_number","_law_like_here","_law_names","_law_name"] ["_law_cells","_law_first"] (aV mT):=⟨rfl,rfl,rfl,by decide+kernel,rfl,by decide+kernel,by decide+kernel⟩
abbrev mU:Stmt:=top 29
theorem i4:bF ["_law_held","_law_many","_law_above","_law_mark","_law_key","_law_name","_law_below"] ["_law_held","_law_many","_law_above","_law_mark","_law_key"] (aV mU):=⟨rfl,rfl,rfl,by decide+kernel,rfl,by decide+kernel,by decide+kernel⟩
abbrev mV:Stmt:=top 30
theorem gN:bF ["_law_cells","_law_held","_law_tops","_law_cell","_law_name"] ["_law_cells"] (aV mV):=⟨rfl,rfl,rfl,by decide+kernel,rfl,by decide+kernel,by decide+kernel⟩
abbrev jv:Stmt:=top 31
theorem qQ:bF ["_law_found","_law_due"] ["_law_found","_law_due"] (aV jv):=⟨rfl,rfl,rfl,by decide+kernel,rfl,by decide+kernel,by decide+kernel⟩
abbrev jY:Stmt:=top 32
theorem jw:bF ["_law_found","_law_tops","_law_held","_law_name","_law_entry"] ["_law_found","_law_tops","_law_held"] (aV jY):=⟨rfl,rfl,rfl,by decide+kernel,rfl,by decide+kernel,by decide+kernel⟩
abbrev i5:Stmt:=top 16
theorem jZ:bF ["pile","name"] ["pile","name"] (aV i5):=⟨rfl,rfl,rfl,by decide+kernel,rfl,by decide+kernel,by decide+kernel⟩
abbrev jx:Stmt:=top 18
theorem fW:bF ["held","name","names","above"] ["held","name"] (aV jx):=⟨rfl,rfl,rfl,by decide+kernel,rfl,by decide+kernel,by decide+kernel⟩
abbrev qe:Stmt:=top 19
theorem Ar:bF ["row","name"] ["row","name"] (aV qe):=⟨rfl,rfl,rfl,by decide+kernel,rfl,by decide+kernel,by decide+kernel⟩
abbrev tj:Stmt:=top 7
theorem Dm:bF ["row"] ["row"] (aV tj):=⟨rfl,rfl,rfl,by decide+kernel,rfl,by decide+kernel,by decide+kernel⟩
abbrev mW:Stmt:=top 20
theorem xb:bF ["row"] ["row"] (aV mW):=⟨rfl,rfl,rfl,by decide+kernel,rfl,by decide+kernel,by decide+kernel⟩
abbrev qf:Stmt:=top 17
theorem gW:bF ["pile","name","held","names","last","cut","above"] ["pile","name"] (aV qf):=⟨rfl,rfl,rfl,by decide+kernel,rfl,by decide+kernel,by decide+kernel⟩
abbrev As:Stmt:=top 13
theorem xc:bF ["held","name","on","row"] ["held","name","on"] (aV As):=⟨rfl,rfl,rfl,by decide+kernel,rfl,by decide+kernel,by decide+kernel⟩
abbrev oq:Stmt:=top 6
theorem yU:bF ["held","name"] ["held","name"] (aV oq):=⟨rfl,rfl,rfl,by decide+kernel,rfl,by decide+kernel,by decide+kernel⟩
abbrev lC:Stmt:=top 12
theorem cE:bF ["pile","held","alone","steps","top","on","name","lesser"] ["pile"] (aV lC):=⟨rfl,rfl,rfl,by decide+kernel,rfl,by decide+kernel,by decide+kernel⟩
abbrev ot:Stmt:=top 11
theorem fe:bF ["pile","name","held","row","tops","steps","lower","hung"] ["pile","name"] (aV ot):=⟨rfl,rfl,rfl,by decide+kernel,rfl,by decide+kernel,by decide+kernel⟩
abbrev nL:Stmt:=top 15
theorem lD:bF ["pile","name","cut","taken"] ["pile","name"] (aV nL):=⟨rfl,rfl,rfl,by decide+kernel,rfl,by decide+kernel,by decide+kernel⟩
abbrev j0:Stmt:=top 33
theorem gO:bF ["_law_pile","_law_name","_law_told","e"] ["_law_pile","_law_name"] (aV j0):=⟨rfl,rfl,rfl,by decide+kernel,rfl,by decide+kernel,by decide+kernel⟩
abbrev j4:Stmt:=top 8
theorem mX:bF ["pile","marked"] ["pile"] (aV j4):=⟨rfl,rfl,rfl,by decide+kernel,rfl,by decide+kernel,by decide+kernel⟩
abbrev lE:Stmt:=top 9
theorem dk:bF ["n","most","lesser","greater","total"] ["n"] (aV lE):=⟨rfl,rfl,rfl,by decide+kernel,rfl,by decide+kernel,by decide+kernel⟩
abbrev gX:Stmt:=top 34
theorem o7:bF ["_law_tops","_law_held","_law_step"] ["_law_tops","_law_held","_law_step"] (aV gX):=⟨rfl,rfl,rfl,by decide+kernel,rfl,by decide+kernel,by decide+kernel⟩
abbrev lF:Stmt:=top 35
theorem cU:bF ["_law_tops","_law_held","_law_name","_law_steps","_law_due","_law_below","_law_one","_law_key","_law_above","_law_mark","_law_under","_law_step"] ["_law_tops","_law_held","_law_name","_law_steps"] (aV lF):=⟨rfl,rfl,rfl,by decide+kernel,rfl,by decide+kernel,by decide+kernel⟩
abbrev j5:Stmt:=top 36
theorem gP:bF ["_law_pile","_law_tops","_law_held","_law_name","_law_kept","_law_most","_law_found"] ["_law_pile","_law_tops","_law_held","_law_name"] (aV j5):=⟨rfl,rfl,rfl,by decide+kernel,rfl,by decide+kernel,by decide+kernel⟩
abbrev BZ:Stmt:=top 37
theorem lG:bF ["_law_script","_law_tops","_law_held","_law_pile","_law_cell","_law_odd","_law_names","_law_name"] ["_law_script"] (aV BZ):=⟨rfl,rfl,rfl,by decide+kernel,rfl,by decide+kernel,by decide+kernel⟩
structure CF(K:zag)(mg:Str->Option Value)(b8 cV fX dC:Addr):Prop where
 qg:PySem.W.excIn K b8 [.type "ValueError",.type "Exception",.type "BaseException",.type "object"] "ValueError.__new__"=true
 gY:mg "Lacking"=some (.ref b8)
 j6:mg "CreditError"=some (.ref cV)
 Dn:zC K b8
 xf:mg "Empty"=some (.ref fX)
 iJ:PySem.W.kitOne K (.ref b8) (.ref fX)=some false
 qh:mg "NotLess"=some (.ref dC)
 gQ:PySem.W.kitOne K (.ref b8) (.ref dC)=some false
 gR:PySem.W.kitOne K (.ref b8) (.ref b8)=some true
 ff:PySem.W.kitOne K (.ref b8) (.type "ValueError")=some true
 h_Lacking_CreditError:PySem.W.exmOne K (.ref b8) (.ref cV)=some true
local macro_rules | `(tactic| walk_at "l") => `(tactic| first | exact Or.inl rfl | exact Or.inr rfl)
section
variable{P:Program}{w:World}{K:zag}{mg:Str->Option Value}{base:Heap}
def fT(mg:Str->Option Value):Prop:=∀x∈(["ValueError","bool","dict","enumerate","isinstance","len","list","max","range","set","tuple"]:List Str),mg x=none
variable{b8 cV fX dC:Addr}
theorem yV(Z:fT mg)(T:Top K mg "_law_like" oh) :Def P w K mg base CX0 1 "_law_like" ["_law_tops","_law_held","_law_start"] (spM k9):=by
 have cw:mg "len"=none:=Z _ (by decide+kernel)
 have o8:mg "range"=none:=Z _ (by decide+kernel)
 refine T.def iB (λvs H Q E h=>dU h) (λ_ _ _ _ _ _ us hl=>match us,hl with| [_,_,_],_=>rfl) λf cdv A outer s H vs Q E hr h=>?_
 have hu:=hr.units;exact⟨_,(aq (jb PassesOwn.never rfl (ph rfl o8 (aa (aU (bG (K:=K) rfl) rfl cw zaE (aa (pv 0) au)) au)) (bh (i:=3) iB.nd rfl (by walk_at "l"))
   (aH (jb PassesOwn.never rfl (ph rfl o8 (aa (pv 3) au)) (bh (i:=4) iB.nd rfl (by walk_at "l"))
   (aq (a0 (i:=5) iB.nd rfl (by walk_at "l") (aN (aA (K:=K) rfl) (pv 0) (bL d3 (bL (d6 (K:=K) rfl) (pv 2) (pv 3)) (aU (bG (K:=K) rfl) rfl cw zaE (aa (pv 0) au))) (λ_ _=>rfl)))
   (aq (a0 (i:=6) iB.nd rfl (by walk_at "l") (aN (aA (K:=K) rfl) (pv 0) (bL d3 (bL (d6 (K:=K) rfl) (pv 2) (pv 4)) (aU (bG (K:=K) rfl) rfl cw zaE (aa (pv 0) au))) (λ_ _=>rfl)))
   (aH (dz (bA (jT (K:=K) rfl hu) (aU (bG (K:=K) rfl) rfl cw zaE (aa (aN (aA (K:=K) rfl) (bH (hv1 hu) (pv 1) (pv 5) (λ_ _=>rfl)) aw (λ_ _=>rfl)) au)) (aU (bG (K:=K) rfl) rfl cw zaE (aa (aN (aA (K:=K) rfl) (bH (hv1 hu) (pv 1) (pv 6) (λ_ _=>rfl)) aw (λ_ _=>rfl)) au)) (bO _))
   (aH (bq (eN (aa (pv 5) (aa (pv 6) au)))))
   bY)))))))
   (aH (bq (eN au)))),
   fI (n:=3) (k:=4) (a6 (vS (vO (ah (cq eJ (ah af aD)) aD)) cH
   (vS (vO (ah af aD)) cH
   (a6 (cj (av bJ af (av J_I (av iL af af) (cq eJ (ah af aD)))))
   (a6 (cj (av bJ af (av J_I (av iL af af) (cq eJ (ah af aD)))))
   (jj (a9 (av tR (cq eJ (ah (av bJ (av cY af af) az) aD)) (cq eJ (ah (av bJ (av cY af af) az) aD))))
   (cP (f7 (ah af (ah af aD))))
   eI)))))
   (cP (f7 aD))) rfl h⟩
theorem Au(Z:fT mg)(T:Top K mg "_law_cut" qd) :Def P w K mg base CX0 1 "_law_cut" ["_law_tops","_law_held","_law_name"] (spJ fo):=by
 have ee:mg "tuple"=none:=Z _ (by decide+kernel)
 refine T.def cL (λvs H Q E h=>Bd h) (λ_ _ _ _ _ _ us hl=>match us,hl with| [_,_,_],_=>rfl) λf cdv A outer s H vs Q E hr h=>?_
 have hu:=hr.units;exact⟨_,(aq (a0 (i:=3) cL.nd rfl (by walk_at "l") (eN au))
   (aq (a0 (i:=4) cL.nd rfl (by walk_at "l") (kQ vx (aN (aA (K:=K) rfl) (bH (hv1 hu) (pv 1) (pv 2) (λ_ _=>rfl)) aw (λ_ _=>rfl)) eM (bO _)))
   (aq (oz PassesOwn.never (dA (pv 4))
   (aq (pf (bH (hv1 hu) (pv 1) (pv 2) (λ_ _=>rfl)) (jC rfl (bP (bh (i:=5) cL.nd rfl (by walk_at "l")) (bP (bh (i:=6) cL.nd rfl (by walk_at "l")) (bP (bh (i:=7) cL.nd rfl (by walk_at "l")) (bP (bh (i:=8) cL.nd rfl (by walk_at "l")) jA))))))
   (aq (dW (hv1 hu) (pv 1) (pv 2) (bR (aa (pv 5) (aa eM (aa dD (aa (pv 8) au))))) rfl)
   (aq (cN (fJ (K:=K) rfl zaJ zaV zaU dY (pv 0) (aa (pv 2) au)))
   (aq (cN (fJ (K:=K) rfl zaJ zaV zaU dY (pv 3) (aa (bR (aa dX (aa (pv 2) au))) au)))
   (aq (pf (bH (hv1 hu) (pv 1) (pv 6) (λ_ _=>rfl)) (jC rfl (bP (bh (i:=5) cL.nd rfl (by walk_at "l")) (bP (bh (i:=9) cL.nd rfl (by walk_at "l")) (bP (bh (i:=10) cL.nd rfl (by walk_at "l")) (bP (bh (i:=8) cL.nd rfl (by walk_at "l")) jA))))))
   (aq (a0 (i:=8) cL.nd rfl (by walk_at "l") (dr (mz (K:=K) rfl) rfl ee za2 (aa (xG (fr:=[("_law_name",2)]) rfl ⟨rfl,rfl,rfl,rfl,rfl,rfl,by decide+kernel⟩ (qY (K:=K) rfl (pv 8)) (λ_ _ _ _=>(oB (bA (eR (K:=K) rfl hu) (pv 0) (pv 1) (bO _)))) (λ_ _ _ _=>(pv 0))) au)))
   (aq (dW (hv1 hu) (pv 1) (pv 6) (bR (aa (pv 5) (aa (pv 9) (aa (kQ vx (pv 9) eM (bO _)) (aa (pv 8) au))))) rfl)
   (aq (a0 (i:=4) cL.nd rfl (by walk_at "l") (pv 10))
   (aH (a0 (i:=2) cL.nd rfl (by walk_at "l") (pv 6))))))))))))
   (aH (bq (pv 3)))))),
   Bc (n:=3) (k:=8) (a6 (cj (f7 aD))
   (a6 (cj (av vV (av bJ (av cY af af) az) jh))
   (a6 (rQ (fP af)
   (a6 (qX (av cY af af) (m5 (cA cH (cA cH (cA cH (cA cH m3))))))
   (a6 (jE (i:=1) (dJ (ah af (ah jh (ah eP (ah af aD))))) af)
   (a6 (g8 (pC mm (ah af aD)))
   (a6 (g8 (pC mm (ah (dJ (ah fG (ah af aD))) aD)))
   (a6 (qX (av cY af af) (m5 (cA cH (cA cH (cA cH (cA cH m3))))))
   (a6 (cj (cq wo (ah (uB (Ea af) (a9 (av mh af af)) af) aD)))
   (a6 (jE (i:=1) (dJ (ah af (ah af (ah (av vV af jh) (ah af aD))))) af)
   (a6 (cj af)
   (cj af))))))))))
   (cP af)))) rfl h⟩
theorem ua(Z:fT mg)(T:Top K mg "_law_before" lA) :Def P w K mg base CX0 1 "_law_before" ["_law_held","_law_one","_law_other"] (spM dE):=by
 refine T.def tZ (λvs H Q E h=>dU h) (λ_ _ _ _ _ _ us hl=>match us,hl with| [_,_,_],_=>rfl) λf cdv A outer s H vs Q E hr h=>?_
 have hu:=hr.units;exact⟨_,(aH (bq (kQ (Fo (K:=K) rfl (Nat.lt_of_le_of_lt (Nat.le_add_right _ _) hu)) (bR (aa (aN (aA (K:=K) rfl) (bH (hv1 hu) (pv 0) (pv 1) (λ_ _=>rfl)) aw (λ_ _=>rfl)) (aa (pv 1) au))) (bR (aa (aN (aA (K:=K) rfl) (bH (hv1 hu) (pv 0) (pv 2) (λ_ _=>rfl)) aw (λ_ _=>rfl)) (aa (pv 2) au))) (bO _)))),
   fI (n:=3) (k:=0) (cP (av I0 (dJ (ah (av bJ (av cY af af) az) (ah af aD))) (dJ (ah (av bJ (av cY af af) az) (ah af aD))))) rfl h⟩
theorem yW(Z:fT mg)(T:Top K mg "_law_hung" om) :Def P w K mg base CX0 1 "_law_hung" ["_law_tops","_law_held","_law_name","_law_on"] (spJ eW):=by
 refine T.def dH (λvs H Q E h=>Bd h) (λ_ _ _ _ _ _ us hl=>match us,hl with| [_,_,_,_],_=>rfl) λf cdv A outer s H vs Q E hr h=>?_
 have hu:=hr.units;exact⟨_,(aq (pf (bH (hv1 hu) (pv 1) (pv 2) (λ_ _=>rfl)) (jC rfl (bP (bh (i:=4) dH.nd rfl (by walk_at "l")) (bP (bh (i:=5) dH.nd rfl (by walk_at "l")) (bP (bh (i:=6) dH.nd rfl (by walk_at "l")) (bP (bh (i:=7) dH.nd rfl (by walk_at "l")) jA))))))
   (aq (dW (hv1 hu) (pv 1) (pv 2) (bR (aa (pv 4) (aa (pv 3) (aa dD (aa (pv 7) au))))) rfl)
   (aq (pf (bH (hv1 hu) (pv 1) (pv 3) (λ_ _=>rfl)) (jC rfl (bP (bh (i:=4) dH.nd rfl (by walk_at "l")) (bP (bh (i:=5) dH.nd rfl (by walk_at "l")) (bP (bh (i:=6) dH.nd rfl (by walk_at "l")) (bP (bh (i:=7) dH.nd rfl (by walk_at "l")) jA))))))
   (aq (dW (hv1 hu) (pv 1) (pv 3) (bR (aa (pv 4) (aa (pv 5) (aa (pv 6) (aa (bL (yz (K:=K) rfl) (pv 7) (bR (aa (pv 2) au))) au))))) rfl)
   (aH (cN (fJ (K:=K) rfl zaJ PySem.F.slot_list_remove PySem.F.type_list_remove By (pv 0) (aa (pv 2) au)))))))),
   Bc (n:=4) (k:=4) (a6 (qX (av cY af af) (m5 (cA cH (cA cH (cA cH (cA cH m3))))))
   (a6 (jE (i:=1) (dJ (ah af (ah af (ah eP (ah af aD))))) af)
   (a6 (qX (av cY af af) (m5 (cA cH (cA cH (cA cH (cA cH m3))))))
   (a6 (jE (i:=1) (dJ (ah af (ah af (ah af (ah (av Fv af (dJ (ah af aD))) aD))))) af)
   (g8 (pC yt (ah af aD))))))) rfl h⟩
theorem tm(Z:fT mg)(T:Top K mg "_law_name_by" jX) :Def P w K mg base CX0 1 "_law_name_by" ["_law_k"] (spM cS):=by
 refine T.def gM (λvs H Q E h=>dU h) (λ_ _ _ _ _ _ us hl=>match us,hl with| [_],_=>rfl) λf cdv A outer s H vs Q E hr h=>?_
 have hu:=hr.units;exact⟨_,(aq (a0 (i:=1) gM.nd rfl (by walk_at "l") dX)
   (aq (a0 (i:=2) gM.nd rfl (by walk_at "l") (bL (d6 (K:=K) rfl) (aN (aA (K:=K) rfl) (pv 1) (bL d3 (bL iQ (pv 0) aw) aw) (λ_ _=>rfl)) (aN (aA (K:=K) rfl) (pv 1) (bL d3 (bL iQ (pv 0) aw) aw) (λ_ _=>rfl))))
   (aq (dz (bA (jT (K:=K) rfl hu) (bL d3 (pv 0) aw) aw (bO _))
   (aH (a0 (i:=2) gM.nd rfl (by walk_at "l") (bL (d6 (K:=K) rfl) (pv 2) (aN (aA (K:=K) rfl) (eN (aa dX (aa dX (aa dX (aa dX (aa dX (aa dX au))))))) (bL d3 (bL iQ (pv 0) aw) aw) (λ_ _=>rfl)))))
   bY)
   (aH (bq (pv 2)))))),
   fI (n:=1) (k:=2) (a6 (cj fG)
   (a6 (cj (av iL (av IX af (av J_I (av J_I af az) az)) (av IX af (av J_I (av J_I af az) az))))
   (a6 (jj (a9 (av tR (av J_I af az) az))
   (cj (av iL af (av bJ (f7 (ah fG (ah fG (ah fG (ah fG (ah fG (ah fG aD))))))) (av J_I (av J_I af az) az))))
   eI)
   (cP af)))) rfl h⟩
theorem ub(Z:fT mg)(T:Top K mg "_law_key_by" lB) :Def P w K mg base CX0 1 "_law_key_by" ["_law_number"] (spM dF):=by
 refine T.def t5 (λvs H Q E h=>dU h) (λ_ _ _ _ _ _ us hl=>match us,hl with| [_],_=>rfl) λf cdv A outer s H vs Q E hr h=>?_
 have hu:=hr.units;exact⟨_,(aq (dz (bA (jT (K:=K) rfl hu) (bL d3 (pv 0) aw) aw (bO _))
   (aH (bq (bL vt (bL d3 (bL iQ (pv 0) aw) aw) aw)))
   bY)
   (aq (dz (bA (jT (K:=K) rfl hu) (bL d3 (pv 0) aw) aw (bO _))
   (aH (bq (bL vt (bL d3 (bL iQ (pv 0) aw) aw) aw)))
   bY)
   (aH (bq (bL vt (bL d3 (bL iQ (pv 0) aw) (bL (d6 (K:=K) rfl) (bL vU aw (bL DD aw aw)) aw)) (bL DD aw aw)))))),
   fI (n:=1) (k:=0) (a6 (jj (a9 (av tR (av J_I af az) az))
   (cP (av GN (av J_I (av J_I af az) az) az))
   eI)
   (a6 (jj (a9 (av tR (av J_I af az) az))
   (cP (av GN (av J_I (av J_I af az) az) az))
   eI)
   (cP (av GN (av J_I (av J_I af az) (av iL (av Eh az (av J_I az az)) az)) (av J_I az az))))) rfl h⟩
theorem uc(Z:fT mg)(T:Top K mg "_law_built" mT)(i9:Def P w K mg base CX0 1 "_law_cut" ["_law_tops","_law_held","_law_name"] (spJ fo))(gZ:Def P w K mg base CX0 1 "_law_hung" ["_law_tops","_law_held","_law_name","_law_on"] (spJ eW))(fA:Def P w K mg base CX0 1 "_law_before" ["_law_held","_law_one","_law_other"] (spM dE))(eg:Def P w K mg base CX0 1 "_law_key_by" ["_law_number"] (spM dF))(cF:Def P w K mg base CX0 1 "_law_name_by" ["_law_k"] (spM cS))(ou:Def P w K mg base CX0 1 "_law_like" ["_law_tops","_law_held","_law_start"] (spM k9)):Def P w K mg base CX0 2 "_law_built" ["_law_cells","_law_first"] (spD iq):=by
 have qJ:mg "enumerate"=none:=Z _ (by decide+kernel)
 have cw:mg "len"=none:=Z _ (by decide+kernel)
 have j7:mg "list"=none:=Z _ (by decide+kernel)
 refine T.def di (λvs H Q E h=>Bb h) (λ_ _ _ _ _ _ us hl=>match us,hl with| [_,_],_=>rfl) λf cdv A outer s H vs Q E hr h=>?_
 have hu:=hr.units;exact⟨_,(aq (a0 (i:=2) di.nd rfl (by walk_at "l") (eN au))
   (aq (a0 (i:=3) di.nd rfl (by walk_at "l") sx)
   (aq (jb PassesOwn.never rfl (Hl rfl qJ (aa (pv 0) au)) (jC rfl (bP (bh (i:=4) di.nd rfl (by walk_at "l")) (bP (bh (i:=5) di.nd rfl (by walk_at "l")) jA)))
   (aq (a0 (i:=6) di.nd rfl (by walk_at "l") (bL iQ (pv 5) aw))
   (aq (a0 (i:=7) di.nd rfl (by walk_at "l") (bB ou (hr.mono (by omega)) (aa (pv 2) (aa (pv 3) (aa (bL d3 (pv 6) aw) au)))))
   (aq (a0 (i:=8) di.nd rfl (by walk_at "l") (dr (qA rfl) rfl j7 PyProof.Rows.boot_list (aa (pv 3) au)))
   (aH (dz (PW.pt (Dv (bA (jT (K:=K) rfl hu) (bL d3 (pv 5) aw) aw (bO _)) (AF (bA AI (aU (bG (K:=K) rfl) rfl cw zaE (aa (pv 8) au)) aw (bO _)))))
   (aH (cN (bB i9 (hr.mono (by omega)) (aa (pv 2) (aa (pv 3) (aa (aN (aA (K:=K) rfl) (pv 8) (bL d3 (pv 6) (aU (bG (K:=K) rfl) rfl cw zaE (aa (pv 8) au))) (λ_ _=>rfl)) au))))))
   (aH (dz (PW.pt (Dv (bA AI (bL d3 (pv 5) aw) aw (bO _)) (AF (bA (eR (K:=K) rfl hu) (pv 7) (eN au) (bO _)))))
   (aq (dz (dA (bB fA (hr.mono (by omega)) (aa (pv 3) (aa (aN (aA (K:=K) rfl) (pv 7) aw (λ_ _=>rfl)) (aa (aN (aA (K:=K) rfl) (pv 7) aw (λ_ _=>rfl)) au)))))
   (aH (cN (vX (K:=K) rfl zaJ PySem.F.slot_list_reverse PySem.F.type_list_reverse zB (pv 7))))
   bY)
   (aH (cN (bB gZ (hr.mono (by omega)) (aa (pv 2) (aa (pv 3) (aa (aN (aA (K:=K) rfl) (pv 7) aw (λ_ _=>rfl)) (aa (aN (aA (K:=K) rfl) (pv 7) aw (λ_ _=>rfl)) au))))))))
   (aq (a0 (i:=9) di.nd rfl (by walk_at "l") (bB cF (hr.mono (by omega)) (aa (bL (d6 (K:=K) rfl) (pv 1) (pv 4)) au)))
   (aq (dW (hv1 hu) (pv 3) (pv 9) (bR (aa (bB eg (hr.mono (by omega)) (aa (pv 6) au)) (aa eM (aa dD (aa (bR au) au))))) rfl)
   (aH (cN (fJ (K:=K) rfl zaJ zaV zaU dY (pv 2) (aa (pv 9) au))))))))))))))
   (aH (bq (bR (aa (pv 2) (aa (pv 3) au)))))))),
   Ba (n:=2) (k:=8) (pI (cj (f7 aD))
   (pI (cj we)
   (pI (vS (Hw (ah af aD)) (m5 (cA cH (cA cH m3)))
   (a6 (cj (av J_I af az))
   (a6 (cj (bZ (ah af (ah af (ah (av J_I af az) aD)))))
   (a6 (cj (cq Bu (ah af aD)))
   (jj (D2 (a9 (av tR (av J_I af az) az)) (a9 (av Ef (cq eJ (ah af aD)) az)))
   (g8 (yb (i:=2) (j:=3) (ah (av bJ af (av J_I af (cq eJ (ah af aD)))) aD)))
   (jj (D2 (a9 (av Ef (av J_I af az) az)) (a9 (av mh af (f7 aD))))
   (a6 (jj (fP (bZ (ah af (ah (av bJ af az) (ah (av bJ af az) aD)))))
   (g8 (GI Cu))
   eI)
   (g8 (yb (i:=2) (j:=3) (ah (av bJ af az) (ah (av bJ af az) aD)))))
   (a6 (cj (bZ (ah (av iL af af) aD)))
   (a6 (jE (i:=3) (dJ (ah (bZ (ah af aD)) (ah jh (ah eP (ah (dJ aD) aD))))) af)
   (g8 (pC mm (ah af aD)))))))))))
   (Ex (i:=2) (j:=3))))) rfl h⟩
theorem o9(Z:fT mg)(T:Top K mg "_law_grown" mU)(cF:Def P w K mg base CX0 1 "_law_name_by" ["_law_k"] (spM cS)):∀n,Def P w K mg base CX0 (2+n) "_law_grown" ["_law_held","_law_many","_law_above","_law_mark","_law_key"] (spI (eY n))
 |0=>T.def i4 (λvs H Q E h=>by obtain⟨_,_,_,_,_,_,_,_,_,_,_,_,_,e,_⟩:=h;cases e) (λ_ _ _ _ _ _ us hl=>match us,hl with| [_,_,_,_,_],_=>rfl) λf cdv A outer s H vs Q E hr h=>by obtain⟨_,_,_,_,_,_,_,_,_,_,_,_,_,e,_⟩:=h;cases e
 |n+1=>by
  have iC:=o9 Z T cF n;have ee:mg "tuple"=none:=Z _ (by decide+kernel)
  have o8:mg "range"=none:=Z _ (by decide+kernel)
  have Jo:mg "max"=none:=Z _ (by decide+kernel)
  have cw:mg "len"=none:=Z _ (by decide+kernel)
  refine T.def i4 (λvs H Q E h=>GZ h) (λ_ _ _ _ _ _ us hl=>match us,hl with| [_,_,_,_,_],_=>rfl) λf cdv A outer s H vs Q E hr h=>?_
  have hu:=hr.units;exact⟨_,(aq (a0 (i:=5) i4.nd rfl (by walk_at "l") (bB cF (hr.mono (by first|omega|(show _<=_+n;omega))) (aa (aU kB rfl cw zaE (aa (pv 0) au)) au)))
   (aq (dW (hv1 hu) (pv 0) (pv 5) (bR (aa (pv 4) (aa (pv 2) (aa (pv 3) (aa (bR au) au))))) rfl)
   (aq (rJ (i0:=6) (fr:=[("_law_held",0),("_law_name",5),("_law_key",4)]) rfl i4.nd rfl (by walk_at "l") ⟨rfl,rfl,rfl,rfl,rfl,rfl,by decide+kernel⟩ (ph rfl o8 (aa (pv 1) au)) (λ_ _ _ _=>vJ) (λ_ _ _ _=>(bB iC (hr.mono (zap _)) (aa (pv 1) (aa (aU (Ce rfl) rfl Jo PyProof.Rows.boot_max (aa aw (aa (bL vt (pv 0) aw) au))) (aa (pv 2) (aa (kQ AI (pv 0) aw (bO _)) (aa (bL (d6 (K:=K) rfl) (pv 3) aw) au))))))))
   (aq (dW (hv1 hu) (pv 0) (pv 5) (bR (aa (pv 4) (aa (pv 2) (aa (pv 3) (aa (dr (mz (K:=K) rfl) rfl ee za2 (aa (pv 6) au)) au))))) rfl)
   (aH (bq (pv 5))))))),
   GY (n:=5) (k:=2) (a6 (cj (bZ (ah (cq sA (ah af aD)) aD)))
   (a6 (jE (i:=0) (dJ (ah af (ah af (ah af (ah (dJ aD) aD))))) af)
   (a6 (cj (KH (i:=0) (j:=0) rfl (vO (ah af aD)) (ah (cq LA (ah az (ah (av GN af az) aD))) (ah af (ah (av Ef af az) (ah (av iL af az) aD))))))
   (a6 (jE (i:=0) (dJ (ah af (ah af (ah af (ah (cq wo (ah af aD)) aD))))) af)
   (cP af))))) rfl h⟩
theorem ud(Z:fT mg)(T:Top K mg "_law_begun" mV)(eg:Def P w K mg base CX0 1 "_law_key_by" ["_law_number"] (spM dF))(cF:Def P w K mg base CX0 1 "_law_name_by" ["_law_k"] (spM cS))(iC:Def P w K mg base CX0 14 "_law_grown" ["_law_held","_law_many","_law_above","_law_mark","_law_key"] (spI (eY 12)))(lH:Def P w K mg base CX0 2 "_law_built" ["_law_cells","_law_first"] (spD iq)):Def P w K mg base CX0 15 "_law_begun" ["_law_cells"] (spD ir):=by
 have cw:mg "len"=none:=Z _ (by decide+kernel)
 refine T.def gN (λvs H Q E h=>Bb h) (λ_ _ _ _ _ _ us hl=>match us,hl with| [_],_=>rfl) λf cdv A outer s H vs Q E hr h=>?_
 have hu:=hr.units;exact⟨_,(aq (dz (PW.pt (gh (bA (jT (K:=K) rfl hu) (pv 0) (eN au) (bO _)) (gU (bA (eR (K:=K) rfl hu) (bL d3 (aN (aA (K:=K) rfl) (pv 0) aw (λ_ _=>rfl)) aw) aw (bO _))))) (aH (bq (bB lH (hr.mono (by omega)) (aa (pv 0) (aa aw au))))) bY)
   (aq (a0 (i:=1) gN.nd rfl (by walk_at "l") sx)
   (aq (a0 (i:=2) gN.nd rfl (by walk_at "l") (eN (aa (bB iC (hr.mono (by omega)) (aa (pv 1) (aa (bL d3 (bL iQ (aN (aA (K:=K) rfl) (pv 0) aw (λ_ _=>rfl)) aw) aw) (aa eM (aa dD (aa (bB eg (hr.mono (by omega)) (aa (bL iQ (aN (aA (K:=K) rfl) (pv 0) aw (λ_ _=>rfl)) aw) au)) au)))))) au)))
   (aq (jb PassesOwn.never rfl (gD (K:=K) rfl (l8 (mn (K:=K) rfl) (pv 0) (kR aw) (kR aw))) (bh (i:=3) gN.nd rfl (by walk_at "l"))
   (aq (a0 (i:=4) gN.nd rfl (by walk_at "l") (bB cF (hr.mono (by omega)) (aa (aU kB rfl cw zaE (aa (pv 1) au)) au)))
   (aq (dW (hv1 hu) (pv 1) (pv 4) (bR (aa (bB eg (hr.mono (by omega)) (aa (pv 3) au)) (aa eM (aa dD (aa (bR au) au))))) rfl)
   (aH (cN (fJ (K:=K) rfl zaJ zaV zaU dY (pv 2) (aa (pv 4) au)))))))
   (aH (bq (bR (aa (pv 2) (aa (pv 1) au))))))))),
   Ba (n:=1) (k:=4) (LN (gz (a9 (av tR af (f7 aD))) (a9 (av mh (av J_I (av bJ af az) az) az))) (G0 (ah af (ah az aD)))
   (pI (cj we)
   (pI (cj (f7 (ah (Eu (i:=1) (ah (av J_I (av J_I (av bJ af az) az) az) (ah jh (ah eP (ah (bZ (ah (av J_I (av bJ af az) az) aD)) aD))))) aD)))
   (pI (vS (GG (xJ Ei af (kU az) (kU az))) cH
   (a6 (cj (bZ (ah (cq sA (ah af aD)) aD)))
   (a6 (jE (i:=1) (dJ (ah (bZ (ah af aD)) (ah jh (ah eP (ah (dJ aD) aD))))) af)
   (g8 (pC mm (ah af aD))))))
   (Ex (i:=2) (j:=1)))))) rfl h⟩
theorem qR(Z:fT mg)(T:Top K mg "_law_is_entry" jv) :Def P w K mg base CX0 1 "_law_is_entry" ["_law_found","_law_due"] (spM gF):=by
 have tq:mg "bool"=none:=Z _ (by decide+kernel)
 have a7:mg "isinstance"=none:=Z _ (by decide+kernel)
 have ee:mg "tuple"=none:=Z _ (by decide+kernel)
 have cw:mg "len"=none:=Z _ (by decide+kernel)
 refine T.def qQ (λvs H Q E h=>dU h) (λ_ _ _ _ _ _ us hl=>match us,hl with| [_,_],_=>rfl) λf cdv A outer s H vs Q E hr h=>?_
 have hu:=hr.units;exact⟨_,(aq (dz (PW.pt (gh (fF (dA (aU gy rfl a7 zaB (aa (pv 0) (aa (lR ee za2) au))))) (gh (bA (eR (K:=K) rfl hu) (aU (bG (K:=K) rfl) rfl cw zaE (aa (pv 0) au)) aw (bO _)) (gU (fF (dA (aU gy rfl a7 zaB (aa (aN (aA (K:=K) rfl) (pv 0) aw (λ_ _=>rfl)) (aa (lR ee za2) au)))))))))
   (aH (bq dD))
   bY)
   (aq (dz (PW.pt (gh (dA (aU gy rfl a7 zaB (aa (aN (aA (K:=K) rfl) (pv 0) aw (λ_ _=>rfl)) (aa (lR tq PyProof.Rows.boot_bool) au)))) (gU (fF (dA (aU gy rfl a7 zaB (aa (aN (aA (K:=K) rfl) (pv 0) aw (λ_ _=>rfl)) (aa (lR tq PyProof.Rows.boot_bool) au))))))))
   (aH (bq dD))
   bY)
   (aH (bq (kQ (jT (K:=K) rfl hu) (pv 0) (pv 1) (bO _)))))),
   fI (n:=2) (k:=0) (a6 (jj (gz (fZ (fP (ml af))) (gz (a9 (av mh (cq eJ (ah af aD)) az)) (fZ (fP (ml (av bJ af az))))))
   (cP eP)
   eI)
   (a6 (jj (gz (fP (ml (av bJ af az))) (fZ (fP (ml (av bJ af az)))))
   (cP eP)
   eI)
   (cP (av tR af af)))) rfl h⟩
theorem tw(Z:fT mg)(T:Top K mg "_law_is_pile" jY)(jy:Def P w K mg base CX0 1 "_law_is_entry" ["_law_found","_law_due"] (spM gF)):Def P w K mg base CX0 2 "_law_is_pile" ["_law_found","_law_tops","_law_held"] (spM cT):=by
 have cw:mg "len"=none:=Z _ (by decide+kernel)
 have iK:mg "dict"=none:=Z _ (by decide+kernel)
 have a7:mg "isinstance"=none:=Z _ (by decide+kernel)
 have j7:mg "list"=none:=Z _ (by decide+kernel)
 have ee:mg "tuple"=none:=Z _ (by decide+kernel)
 refine T.def jw (λvs H Q E h=>dU h) (λ_ _ _ _ _ _ us hl=>match us,hl with| [_,_,_],_=>rfl) λf cdv A outer s H vs Q E hr h=>?_
 have hu:=hr.units;exact⟨_,(aq (dz (PW.pt (gh (fF (dA (aU pT rfl a7 zaB (aa (pv 0) (aa (lR ee za2) au))))) (gh (bA (eR (K:=K) rfl hu) (aU (bG (K:=K) rfl) rfl cw zaE (aa (pv 0) au)) aw (bO _)) (gh (fF (dA (aU pT rfl a7 zaB (aa (aN (aA (K:=K) rfl) (pv 0) aw (λ_ _=>rfl)) (aa (lR j7 PyProof.Rows.boot_list) au))))) (gU (bA (eR (K:=K) rfl hu) (aN (aA (K:=K) rfl) (pv 0) aw (λ_ _=>rfl)) (pv 1) (bO _)))))))
   (aH (bq dD))
   bY)
   (aq (dz (PW.pt (gh (fF (dA (aU pT rfl a7 zaB (aa (aN (aA (K:=K) rfl) (pv 0) aw (λ_ _=>rfl)) (aa (lR iK PyProof.Rows.boot_dict) au))))) (gU (bA (eR (K:=K) rfl hu) (aU kB rfl cw zaE (aa (aN (aA (K:=K) rfl) (pv 0) aw (λ_ _=>rfl)) au)) (aU kB rfl cw zaE (aa (pv 2) au)) (bO _)))))
   (aH (bq dD))
   bY)
   (aq (Bx (jb PassesOwn.never rfl (Fj (pv 2)) (jC rfl (bP (bh (i:=3) jw.nd rfl (by walk_at "l")) (bP (bh (i:=4) jw.nd rfl (by walk_at "l")) jA)))
   (aH (dz (PW.pt (gh (vq (pM (hv1 hu) (pv 3) (aN (aA (K:=K) rfl) (pv 0) aw (λ_ _=>rfl)))) (gU (fF (dA (bB jy (hr.mono (by omega)) (aa (bH (hv1 hu) (aN (aA (K:=K) rfl) (pv 0) aw (λ_ _=>rfl)) (pv 3) (λ_ _=>rfl)) (aa (pv 4) au))))))))
   (aH (bq dD))
   bY))))
   (aH (bq dD))))),
   fI (n:=3) (k:=2) (a6 (jj (gz (fZ (fP (wA af))) (gz (a9 (av mh (cq eJ (ah af aD)) az)) (gz (fZ (fP (wA (av bJ af az)))) (a9 (av mh (av bJ af az) af)))))
   (cP eP)
   eI)
   (a6 (jj (gz (fZ (fP (wA (av bJ af az)))) (a9 (av mh (cq sA (ah (av bJ af az) aD)) (cq sA (ah af aD)))))
   (cP eP)
   eI)
   (a6 (Hn yo (m5 (cA cH (cA cH m3)))
   (jj (gz (a9 (av sy af (av bJ af az))) (fZ (fP (bZ (ah (av cY (av bJ af az) af) (ah af aD))))))
   (cP eP)
   eI))
   (cP eP)))) rfl h⟩
theorem tD(Z:fT mg)(T:Top K mg "hold_there" i5)(cf:CF K mg b8 cV fX dC) :Def P w K mg base (CXW P w) 1 "hold_there" ["pile","name"] (spX (clM mg) iU):=by
 refine T.LJ jZ (λvs H Q E h=>A6 h) (λ_ _ _ _ _ _ us hl=>match us,hl with| [_,_],_=>rfl) λf cdv A outer s H vs Q E hr h=>?_
 have hu:=hr.units;exact⟨_,(aH (dz (vq (pM (hv1 hu) (pv 1) (aN (aA (K:=K) rfl) (pv 0) aw (λ_ _=>rfl))))
   (aH (DV rfl rfl cf.gY cf.qg PySem.F.excBase_ValueError (tN jZ.kind rfl) (aa dX au)))
   bY)),
   A5 (n:=2) (k:=0) (Kj (a9 (av sy af (av bJ af az)))
   (CC (c:="Lacking") (ah fG aD) (λH h=>zM cf.gY▸h))
   (mr eI)) rfl h⟩
theorem ue(Z:fT mg)(T:Top K mg "hold_there" i5) :Def P w K mg base CX0 1 "hold_there" ["pile","name"] (spM gG):=by
 refine T.def jZ (λvs H Q E h=>dU h) (λ_ _ _ _ _ _ us hl=>match us,hl with| [_,_],_=>rfl) λf cdv A outer s H vs Q E hr h=>?_
 have hu:=hr.units;exact⟨_,(aH (dz (vq (pM (hv1 hu) (pv 1) (aN (aA (K:=K) rfl) (pv 0) aw (λ_ _=>rfl))))
   (aH l6)
   bY)),
   fI (n:=2) (k:=0) (jj (a9 (av sy af (av bJ af az)))
   mf
   eI) rfl h⟩
theorem qS(Z:fT mg)(T:Top K mg "names_to_cut" jx) :Def P w K mg base CX0 1 "names_to_cut" ["held","name"] (spM gH):=by
 refine T.def fW (λvs H Q E h=>dU h) (λ_ _ _ _ _ _ us hl=>match us,hl with| [_,_],_=>rfl) λf cdv A outer s H vs Q E hr h=>?_
 have hu:=hr.units;exact⟨_,(aq (a0 (i:=2) fW.nd rfl (by walk_at "l") (eN (aa (pv 1) au)))
   (aq (a0 (i:=3) fW.nd rfl (by walk_at "l") (aN (aA (K:=K) rfl) (bH (hv1 hu) (pv 0) (pv 1) (λ_ _=>rfl)) aw (λ_ _=>rfl)))
   (aq (oz PassesOwn.never (dA (aN (aA (K:=K) rfl) (bH (hv1 hu) (pv 0) (pv 3) (λ_ _=>rfl)) aw (λ_ _=>rfl)))
   (aq (cN (fJ (K:=K) rfl zaJ zaV zaU dY (pv 2) (aa (pv 3) au)))
   (aH (a0 (i:=3) fW.nd rfl (by walk_at "l") (aN (aA (K:=K) rfl) (bH (hv1 hu) (pv 0) (pv 3) (λ_ _=>rfl)) aw (λ_ _=>rfl))))))
   (aH (bq (pv 2)))))),
   fI (n:=2) (k:=2) (a6 (cj (f7 (ah af aD)))
   (a6 (cj (av bJ (av cY af af) az))
   (a6 (rQ (fP (av bJ (av cY af af) az))
   (a6 (g8 (pC mm (ah af aD)))
   (cj (av bJ (av cY af af) az))))
   (cP af)))) rfl h⟩
theorem Av(Z:fT mg)(T:Top K mg "without" qe) :Def P w K mg base CX0 1 "without" ["row","name"] (spM nj):=by
 have ee:mg "tuple"=none:=Z _ (by decide+kernel)
 refine T.def Ar (λvs H Q E h=>dU h) (λ_ _ _ _ _ _ us hl=>match us,hl with| [_,_],_=>rfl) λf cdv A outer s H vs Q E hr h=>?_
 have hu:=hr.units;exact⟨_,(aH (bq (bR (aa (aN (aA (K:=K) rfl) (pv 0) aw (λ_ _=>rfl)) (aa (aN (aA (K:=K) rfl) (pv 0) aw (λ_ _=>rfl)) (aa (aN (aA (K:=K) rfl) (pv 0) aw (λ_ _=>rfl)) (aa (dr (mz (K:=K) rfl) rfl ee za2 (aa (xG (fr:=[("name",1)]) rfl ⟨rfl,rfl,rfl,rfl,rfl,rfl,by decide+kernel⟩ (qY (K:=K) rfl (aN (aA (K:=K) rfl) (pv 0) aw (λ_ _=>rfl))) (λ_ _ _ _=>(oB (bA (eR (K:=K) rfl hu) (pv 0) (pv 1) (bO _)))) (λ_ _ _ _=>(pv 0))) au)) au))))))),
   fI (n:=2) (k:=0) (cP (dJ (ah (av bJ af az) (ah (av bJ af az) (ah (av bJ af az) (ah (cq wo (ah (uB (Ea (av bJ af az)) (a9 (av mh af af)) af) aD)) aD)))))) rfl h⟩
theorem Dp(Z:fT mg)(T:Top K mg "as_top" tj) :Def P w K mg base CX0 1 "as_top" ["row"] (spM kG):=by
 refine T.def Dm (λvs H Q E h=>dU h) (λ_ _ _ _ _ _ us hl=>match us,hl with| [_],_=>rfl) λf cdv A outer s H vs Q E hr h=>?_
 have hu:=hr.units;exact⟨_,(aH (bq (bR (aa (aN (aA (K:=K) rfl) (pv 0) aw (λ_ _=>rfl)) (aa eM (aa dD (aa (aN (aA (K:=K) rfl) (pv 0) aw (λ_ _=>rfl)) au))))))),
   fI (n:=1) (k:=0) (cP (dJ (ah (av bJ af az) (ah jh (ah eP (ah (av bJ af az) aD)))))) rfl h⟩
theorem xg(Z:fT mg)(T:Top K mg "with_mark" mW) :Def P w K mg base CX0 1 "with_mark" ["row"] (spM jG):=by
 refine T.def xb (λvs H Q E h=>dU h) (λ_ _ _ _ _ _ us hl=>match us,hl with| [_],_=>rfl) λf cdv A outer s H vs Q E hr h=>?_
 have hu:=hr.units;exact⟨_,(aH (bq (bR (aa (aN (aA (K:=K) rfl) (pv 0) aw (λ_ _=>rfl)) (aa (aN (aA (K:=K) rfl) (pv 0) aw (λ_ _=>rfl)) (aa dD (aa (aN (aA (K:=K) rfl) (pv 0) aw (λ_ _=>rfl)) au))))))),
   fI (n:=1) (k:=0) (cP (dJ (ah (av bJ af az) (ah (av bJ af az) (ah eP (ah (av bJ af az) aD)))))) rfl h⟩
theorem Aw(Z:fT mg)(T:Top K mg "cut_off" qf)(mY:Def P w K mg base CX0 1 "with_mark" ["row"] (spM jG))(kP:Def P w K mg base CX0 1 "as_top" ["row"] (spM kG))(qi:Def P w K mg base CX0 1 "without" ["row","name"] (spM nj))(jz:Def P w K mg base CX0 1 "names_to_cut" ["held","name"] (spM gH)):Def P w K mg base CX0 2 "cut_off" ["pile","name"] (spQ nq):=by
 have iK:mg "dict"=none:=Z _ (by decide+kernel)
 refine T.def gW (λvs H Q E h=>k7 h) (λ_ _ _ _ _ _ us hl=>match us,hl with| [_,_],_=>rfl) λf cdv A outer s H vs Q E hr h=>?_
 have hu:=hr.units;exact⟨_,(aq (a0 (i:=2) gW.nd rfl (by walk_at "l") (dr jr rfl iK PyProof.Rows.boot_dict (aa (aN (aA (K:=K) rfl) (pv 0) aw (λ_ _=>rfl)) au)))
   (aq (a0 (i:=3) gW.nd rfl (by walk_at "l") (bB jz (hr.mono (by omega)) (aa (pv 2) (aa (pv 1) au))))
   (aq (a0 (i:=4) gW.nd rfl (by walk_at "l") (aN (aA (K:=K) rfl) (bH (hv1 hu) (pv 2) (aN (aA (K:=K) rfl) (pv 3) (Lf JG aw) (λ_ _=>rfl)) (λ_ _=>rfl)) aw (λ_ _=>rfl)))
   (aq (jb PassesOwn.never rfl (gD (K:=K) rfl (pv 3)) (bh (i:=5) gW.nd rfl (by walk_at "l"))
   (aq (a0 (i:=6) gW.nd rfl (by walk_at "l") (aN (aA (K:=K) rfl) (bH (hv1 hu) (pv 2) (pv 5) (λ_ _=>rfl)) aw (λ_ _=>rfl)))
   (aq (dW (hv1 hu) (pv 2) (pv 6) (bB qi (hr.mono (by omega)) (aa (bH (hv1 hu) (pv 2) (pv 6) (λ_ _=>rfl)) (aa (pv 5) au))) rfl)
   (aH (dW (hv1 hu) (pv 2) (pv 5) (bB kP (hr.mono (by omega)) (aa (bH (hv1 hu) (pv 2) (pv 5) (λ_ _=>rfl)) au)) rfl)))))
   (aq (dz (bA vx (aN (aA (K:=K) rfl) (bH (hv1 hu) (pv 2) (pv 4) (λ_ _=>rfl)) aw (λ_ _=>rfl)) eM (bO _))
   (aH (dW (hv1 hu) (pv 2) (pv 4) (bB mY (hr.mono (by omega)) (aa (bH (hv1 hu) (pv 2) (pv 4) (λ_ _=>rfl)) au)) rfl))
   bY)
   (aH (bq (bR (aa (bR (aa (bL (d6 (K:=K) rfl) (aN (aA (K:=K) rfl) (pv 0) aw (λ_ _=>rfl)) (pv 3)) (aa (pv 2) au))) (aa (xG (fr:=[]) rfl ⟨rfl,rfl,rfl,rfl,rfl,rfl,by decide+kernel⟩ (gD (K:=K) rfl (pv 3)) (λ_ _ _ _=>vJ) (λ_ _ _ _=>(bR (aa dX (aa (pv 0) au))))) au)))))))))),
   k6 (n:=2) (k:=5) (aZ (cn (eF (cq oQ (ah (av bJ af az) aD))) bx)
   (aZ (cn (eF (bZ (ah af (ah af aD)))) bx)
   (aZ (cn (fD (eF (av cY af (av bJ af (Lu Lz az)))) (bW λ_=>.int _)) bx)
   (aZ (rg aL bx
   (aZ (cn (fD (eF (av cY af af)) (bW λ_=>.int _)) bx)
   (aZ (jF aL aL (eF (bZ (ah (av cY af af) (ah af aD)))))
   (jF aL aL (eF (bZ (ah (av cY af af) aD)))))))
   (aZ (ku (oN (a9 (av vV (av bJ (av cY af af) az) jh)))
   (jF aL aL (eF (bZ (ah (av cY af af) aD))))
   fk)
   (eV (f9 (aJ (f9 (aJ (eF (av iL (av bJ af az) af)) (aJ aL bT))) (aJ (eF (uB (qW af) Ee (dJ (ah fG (ah af aD))))) bT))))))))) rfl h⟩
theorem Ir(Z:fT mg)(T:Top K mg "hang" As) :Def P w K mg base CX0 1 "hang" ["held","name","on"] (spQ wH):=by
 refine T.def xc (λvs H Q E h=>k7 h) (λ_ _ _ _ _ _ us hl=>match us,hl with| [_,_,_],_=>rfl) λf cdv A outer s H vs Q E hr h=>?_
 have hu:=hr.units;exact⟨_,(aq (a0 (i:=3) xc.nd rfl (by walk_at "l") (bH (hv1 hu) (pv 0) (pv 1) (λ_ _=>rfl)))
   (aq (dW (hv1 hu) (pv 0) (pv 1) (bR (aa (aN (aA (K:=K) rfl) (pv 3) aw (λ_ _=>rfl)) (aa (pv 2) (aa dD (aa (aN (aA (K:=K) rfl) (pv 3) aw (λ_ _=>rfl)) au))))) rfl)
   (aq (a0 (i:=3) xc.nd rfl (by walk_at "l") (bH (hv1 hu) (pv 0) (pv 2) (λ_ _=>rfl)))
   (aH (dW (hv1 hu) (pv 0) (pv 2) (bR (aa (aN (aA (K:=K) rfl) (pv 3) aw (λ_ _=>rfl)) (aa (aN (aA (K:=K) rfl) (pv 3) aw (λ_ _=>rfl)) (aa (aN (aA (K:=K) rfl) (pv 3) aw (λ_ _=>rfl)) (aa (bL (yz (K:=K) rfl) (aN (aA (K:=K) rfl) (pv 3) aw (λ_ _=>rfl)) (bR (aa (pv 1) au))) au))))) rfl))))),
   k6 (n:=3) (k:=1) (aZ (cn (eF (av cY af af)) bx)
   (aZ (jF aL aL (f9 (aJ (fD aL (bW λ_=>.int _)) (aJ aL (aJ (bW λ_=>.bl _) (aJ (fD aL (bW λ_=>.int _)) bT))))))
   (aZ (cn (eF (av cY af af)) bx)
   (jF aL aL (f9 (aJ (fD aL (bW λ_=>.int _)) (aJ (fD aL (bW λ_=>.int _)) (aJ (fD aL (bW λ_=>.int _)) (aJ (eF (av Fv (av bJ af az) (dJ (ah af aD)))) bT))))))))) rfl h⟩
theorem yX(Z:fT mg)(T:Top K mg "standing" oq) :Def P w K mg base CX0 1 "standing" ["held","name"] (spM d8):=by
 refine T.def yU (λvs H Q E h=>dU h) (λ_ _ _ _ _ _ us hl=>match us,hl with| [_,_],_=>rfl) λf cdv A outer s H vs Q E hr h=>?_
 have hu:=hr.units;exact⟨_,(aH (bq (bR (aa (aN (aA (K:=K) rfl) (bH (hv1 hu) (pv 0) (pv 1) (λ_ _=>rfl)) aw (λ_ _=>rfl)) (aa (pv 1) au))))),
   fI (n:=2) (k:=0) (cP (dJ (ah (av bJ (av cY af af) az) (ah af aD)))) rfl h⟩
theorem uf(Z:fT mg)(T:Top K mg "hang_alike" lC)(Ax:Def P w K mg base CX0 1 "hang" ["held","name","on"] (spQ wH))(lI:Def P w K mg base CX0 1 "standing" ["held","name"] (spM d8)):Def P w K mg base CX0 2 "hang_alike" ["pile"] (spQ iV):=by
 have cw:mg "len"=none:=Z _ (by decide+kernel)
 have iK:mg "dict"=none:=Z _ (by decide+kernel)
 refine T.def cE (λvs H Q E h=>k7 h) (λ_ _ _ _ _ _ us hl=>match us,hl with| [_],_=>rfl) λf cdv A outer s H vs Q E hr h=>?_
 have hu:=hr.units;exact⟨_,(aq (a0 (i:=1) cE.nd rfl (by walk_at "l") (dr jr rfl iK PyProof.Rows.boot_dict (aa (aN (aA (K:=K) rfl) (pv 0) aw (λ_ _=>rfl)) au)))
   (aq (a0 (i:=2) cE.nd rfl (by walk_at "l") sx)
   (aq (a0 (i:=3) cE.nd rfl (by walk_at "l") (eN au))
   (aq (jb PassesOwn.never rfl (gD (K:=K) rfl (aN (aA (K:=K) rfl) (pv 0) aw (λ_ _=>rfl))) (bh (i:=4) cE.nd rfl (by walk_at "l"))
   (aq (a0 (i:=5) cE.nd rfl (by walk_at "l") (pv 4))
   (aq (oz PassesOwn.never (vq (Kw (hv1 hu) (aU (bG (K:=K) rfl) rfl cw zaE (aa (aN (aA (K:=K) rfl) (bH (hv1 hu) (pv 1) (pv 5) (λ_ _=>rfl)) aw (λ_ _=>rfl)) au)) (pv 2)))
   (aq (a0 (i:=6) cE.nd rfl (by walk_at "l") (fJ (K:=K) rfl PySem.F.plainAttrs_dict PySem.F.slot_dict_pop PySem.F.type_dict_pop wx (pv 2) (aa (aU (bG (K:=K) rfl) rfl cw zaE (aa (aN (aA (K:=K) rfl) (bH (hv1 hu) (pv 1) (pv 5) (λ_ _=>rfl)) aw (λ_ _=>rfl)) au)) au)))
   (aq (dz (bA (Fo (K:=K) rfl (Nat.lt_of_le_of_lt (Nat.le_add_right _ _) hu)) (bB lI (hr.mono (by omega)) (aa (pv 1) (aa (pv 6) au))) (bB lI (hr.mono (by omega)) (aa (pv 1) (aa (pv 5) au))) (bO _))
   (aq (a0 (i:=7) cE.nd rfl (by walk_at "l") (pv 6))
   (aq (a0 (i:=6) cE.nd rfl (by walk_at "l") (pv 5))
   (aH (a0 (i:=5) cE.nd rfl (by walk_at "l") (pv 7)))))
   bY)
   (aq (cN (bB Ax (hr.mono (by omega)) (aa (pv 1) (aa (pv 6) (aa (pv 5) au)))))
   (aH (cN (fJ (K:=K) rfl zaJ zaV zaU dY (pv 3) (aa (bR (aa dX (aa (pv 6) (aa (pv 5) au)))) au))))))))
   (aH (dW (hv1 hu) (pv 2) (aU (bG (K:=K) rfl) rfl cw zaE (aa (aN (aA (K:=K) rfl) (bH (hv1 hu) (pv 1) (pv 5) (λ_ _=>rfl)) aw (λ_ _=>rfl)) au)) (pv 5) rfl)))))
   (aH (bq (bR (aa (bR (aa (xG (fr:=[("held",1)]) rfl ⟨rfl,rfl,rfl,rfl,rfl,rfl,by decide+kernel⟩ (gD (K:=K) rfl (aN (aA (K:=K) rfl) (pv 0) aw (λ_ _=>rfl))) (λ_ _ _ _=>(oB (bA zx (aN (aA (K:=K) rfl) (bH (hv1 hu) (pv 1) (pv 0) (λ_ _=>rfl)) aw (λ_ _=>rfl)) eM (bO _)))) (λ_ _ _ _=>(pv 0))) (aa (pv 1) au))) (aa (pv 3) au))))))))),
   k6 (n:=1) (k:=7) (aZ (cn (eF (cq oQ (ah (av bJ af az) aD))) bx)
   (aZ (cn (eF we) bx)
   (aZ (cn (EH bT) bx)
   (aZ (rg (fD aL (bW λ_=>.int _)) bx
   (aZ (cn aL bx)
   (aZ (EK (oN (a9 (av Mc (cq eJ (ah (av bJ (av cY af af) az) aD)) af)))
   (aZ (cn (wy aL (aJ (eF (cq eJ (ah (av bJ (av cY af af) az) aD))) bT)) bx)
   (aZ (ku (oN (a9 (av I0 (bZ (ah af (ah af aD))) (bZ (ah af (ah af aD))))))
   (aZ (cn aL bx)
   (aZ (cn aL bx)
   (cn aL bx)))
   fk)
   (aZ (fU (il (aJ aL (aJ aL (aJ aL bT)))))
   (fU (pL aL (aJ (f9 (aJ (bW λ_=>.str _) (aJ aL (aJ aL bT)))) bT)))))))
   (jF aL (eF (cq eJ (ah (av bJ (av cY af af) az) aD))) aL))))
   (eV (f9 (aJ (f9 (aJ (eF (uB (qW (av bJ af az)) (a9 (av J7 (av bJ (av cY af af) az) jh)) af)) (aJ aL bT))) (aJ aL bT)))))))) rfl h⟩
theorem yY(Z:fT mg)(T:Top K mg "take_top" ot)(lJ:Def P w K mg base CX0 2 "hang_alike" ["pile"] (spQ iV))(kP:Def P w K mg base CX0 1 "as_top" ["row"] (spM kG)):Def P w K mg base CX0 3 "take_top" ["pile","name"] (spQ jt):=by
 have iK:mg "dict"=none:=Z _ (by decide+kernel)
 refine T.def fe (λvs H Q E h=>k7 h) (λ_ _ _ _ _ _ us hl=>match us,hl with| [_,_],_=>rfl) λf cdv A outer s H vs Q E hr h=>?_
 have hu:=hr.units;exact⟨_,(aq (a0 (i:=2) fe.nd rfl (by walk_at "l") (dr jr rfl iK PyProof.Rows.boot_dict (aa (aN (aA (K:=K) rfl) (pv 0) aw (λ_ _=>rfl)) au)))
   (aq (a0 (i:=3) fe.nd rfl (by walk_at "l") (fJ (K:=K) rfl PySem.F.plainAttrs_dict PySem.F.slot_dict_pop PySem.F.type_dict_pop wx (pv 2) (aa (pv 1) au)))
   (aq (rJ (i0:=4) (fr:=[("name",1)]) rfl fe.nd rfl (by walk_at "l") ⟨rfl,rfl,rfl,rfl,rfl,rfl,by decide+kernel⟩ (gD (K:=K) rfl (aN (aA (K:=K) rfl) (pv 0) aw (λ_ _=>rfl))) (λ_ _ _ _=>(oB (bA (eR (K:=K) rfl hu) (pv 0) (pv 1) (bO _)))) (λ_ _ _ _=>(pv 0)))
   (aq (a0 (i:=5) fe.nd rfl (by walk_at "l") (eN au))
   (aq (jb PassesOwn.never rfl (qY (K:=K) rfl (aN (aA (K:=K) rfl) (pv 3) aw (λ_ _=>rfl))) (bh (i:=6) fe.nd rfl (by walk_at "l"))
   (aq (dW (hv1 hu) (pv 2) (pv 6) (bB kP (hr.mono (by omega)) (aa (bH (hv1 hu) (pv 2) (pv 6) (λ_ _=>rfl)) au)) rfl)
   (aq (cN (fJ (K:=K) rfl zaJ zaV zaU dY (pv 4) (aa (pv 6) au)))
   (aH (cN (fJ (K:=K) rfl zaJ zaV zaU dY (pv 5) (aa (bR (aa dX (aa (pv 6) au))) au)))))))
   (aq (a0 (i:=7) fe.nd rfl (by walk_at "l") (bB lJ (hr.mono (by omega)) (aa (bR (aa (pv 4) (aa (pv 2) au))) au)))
   (aH (bq (bR (aa (aN (aA (K:=K) rfl) (pv 3) aw (λ_ _=>rfl)) (aa (aN (aA (K:=K) rfl) (pv 7) aw (λ_ _=>rfl)) (aa (bL (d6 (K:=K) rfl) (pv 5) (aN (aA (K:=K) rfl) (pv 7) aw (λ_ _=>rfl))) au)))))))))))),
   k6 (n:=2) (k:=6) (aZ (cn (eF (cq oQ (ah (av bJ af az) aD))) bx)
   (aZ (cn (wy aL (aJ aL bT)) bx)
   (aZ (cn (eF (uB (qW (av bJ af az)) (a9 (av mh af af)) af)) bx)
   (aZ (cn (EH bT) bx)
   (aZ (EO (Eb (av bJ af az)) bx
   (aZ (jF aL aL (eF (bZ (ah (av cY af af) aD))))
   (aZ (fU (pL aL (aJ aL bT)))
   (fU (pL aL (aJ (f9 (aJ (bW λ_=>.str _) (aJ aL bT))) bT))))))
   (aZ (cn (il (aJ (f9 (aJ aL (aJ aL bT))) bT)) bx)
   (eV (f9 (aJ (fD aL (bW λ_=>.int _)) (aJ (fD aL (bW λ_=>.int _)) (aJ (eF (av iL af (av bJ af az))) bT))))))))))) rfl h⟩
theorem yZ(Z:fT mg)(T:Top K mg "put_out" nL)(cf:CF K mg b8 cV fX dC)(lK:Def P w K mg base (CXW P w) 1 "hold_there" ["pile","name"] (spX (clM mg) iU)):Def P w K mg base (CXW P w) 2 "put_out" ["pile","name"] (spX (clM mg) nu):=by
 refine T.LJ lD (λvs H Q E h=>A6 h) (λ_ _ _ _ _ _ us hl=>match us,hl with| [_,_],_=>rfl) λf cdv A outer s H vs Q E hr h=>?_
 have hu:=hr.units;exact⟨_,(aq (cN (G2 lK (hr.mono (by omega)) (LQ rfl) (aa (pv 0) (aa (pv 1) au))))
   (aq (id l6)
   (aq (id l6)
   (aq (id l6)
   (aH (id l6)))))),
   A5 (n:=2) (k:=2) (q9 (CI (ah af (ah af aD)))
   (q9 (mr mf)
   (q9 (mr mf)
   (q9 (mr mf)
   (mr mf))))) rfl h⟩
theorem Ay(Z:fT mg)(T:Top K mg "put_out" nL)(lM:Def P w K mg base CX0 3 "take_top" ["pile","name"] (spQ jt))(qj:Def P w K mg base CX0 2 "cut_off" ["pile","name"] (spQ nq))(lN:Def P w K mg base CX0 1 "hold_there" ["pile","name"] (spM gG)):Def P w K mg base CX0 4 "put_out" ["pile","name"] (spQ ny):=by
 refine T.def lD (λvs H Q E h=>k7 h) (λ_ _ _ _ _ _ us hl=>match us,hl with| [_,_],_=>rfl) λf cdv A outer s H vs Q E hr h=>?_
 have hu:=hr.units;exact⟨_,(aq (cN (bB lN (hr.mono (by omega)) (aa (pv 0) (aa (pv 1) au))))
   (aq (dz (bA zx (aN (aA (K:=K) rfl) (bH (hv1 hu) (aN (aA (K:=K) rfl) (pv 0) aw (λ_ _=>rfl)) (pv 1) (λ_ _=>rfl)) aw (λ_ _=>rfl)) eM (bO _))
   (aH (bq (bB lM (hr.mono (by omega)) (aa (pv 0) (aa (pv 1) au)))))
   bY)
   (aq (a0 (i:=2) lD.nd rfl (by walk_at "l") (bB qj (hr.mono (by omega)) (aa (pv 0) (aa (pv 1) au))))
   (aq (a0 (i:=3) lD.nd rfl (by walk_at "l") (bB lM (hr.mono (by omega)) (aa (aN (aA (K:=K) rfl) (pv 2) aw (λ_ _=>rfl)) (aa (pv 1) au))))
   (aH (bq (bR (aa (aN (aA (K:=K) rfl) (pv 3) aw (λ_ _=>rfl)) (aa (aN (aA (K:=K) rfl) (pv 3) aw (λ_ _=>rfl)) (aa (bL (d6 (K:=K) rfl) (aN (aA (K:=K) rfl) (pv 2) aw (λ_ _=>rfl)) (aN (aA (K:=K) rfl) (pv 3) aw (λ_ _=>rfl))) au)))))))))),
   k6 (n:=2) (k:=2) (aZ (fU (eF (bZ (ah af (ah af aD)))))
   (aZ (ku (oN (a9 (av J7 (av bJ (av cY (av bJ af az) af) az) jh)))
   (eV (il (aJ aL (aJ aL bT))))
   fk)
   (aZ (cn (il (aJ aL (aJ aL bT))) bx)
   (aZ (cn (il (aJ (fD aL (bW λ_=>.int _)) (aJ aL bT))) bx)
   (eV (f9 (aJ (fD aL (bW λ_=>.int _)) (aJ (fD aL (bW λ_=>.int _)) (aJ (eF (av iL (av bJ af az) (av bJ af az))) bT))))))))) rfl h⟩
theorem tE(Z:fT mg)(T:Top K mg "_law_refused" j0)(cf:CF K mg b8 cV fX dC)(qk:Def P w K mg base (CXW P w) 2 "put_out" ["pile","name"] (spX (clM mg) nu)) :Def P w K mg base CX0 3 "_law_refused" ["_law_pile","_law_name"] (spM dP):=by
 have a7:mg "isinstance"=none:=Z _ (by decide+kernel)
 have pb:mg "ValueError"=none:=Z _ (by decide+kernel)
 refine T.def gO (λvs H Q E h=>dU h) (λ_ _ _ _ _ _ us hl=>match us,hl with| [_,_],_=>rfl) λf cdv A outer s H vs Q E hr h=>?_
 have hu:=hr.units;exact⟨_,(aq (a0 (i:=2) gO.nd rfl (by walk_at "l") (eN au))
   (aq (GX (K:=K) (i:=3) rfl rfl qk (hr.mono (by omega)) (aa (pv 0) (aa (pv 1) au)) rfl rfl rfl rfl cf.j6 gO.nd rfl rfl (λcls e oe hoc hok=>
   (aH (a0 (i:=2) gO.nd rfl (by walk_at "l") (eN (aa (aU (nc (K:=K) rfl hok hoc) rfl a7 zaB (aa (pv 3) (aa (lR pb PyProof.Rows.Boot.«ValueError») au))) (aa (aU (nc (K:=K) rfl hok hoc) rfl a7 zaB (aa (pv 3) (aa (vp (v:=.ref b8) rfl cf.gY rfl) au))) (aa (aU (nc (K:=K) rfl hok hoc) rfl a7 zaB (aa (pv 3) (aa (vp (v:=.ref dC) rfl cf.qh rfl) au))) (aa (aU (nc (K:=K) rfl hok hoc) rfl a7 zaB (aa (pv 3) (aa (vp (v:=.ref fX) rfl cf.xf rfl) au))) au)))))))))
   (aH (bq (pv 2))))),
   fI (n:=2) (k:=2) (a6 (cj (f7 aD))
   (a6 (GV (cl := clM mg) (ah af (ah af aD)) (fun c s h => by
      unfold iH at h;split at h
      ·rename_i z;subst z;cases h;rw[zM cf.gY];exact⟨_,rfl,cf.Dn,cf.h_Lacking_CreditError⟩
      ·
       cases h) (λc s h ea=>by
      unfold iH at h;split at h
      ·rename_i z;subst z;cases h;rw[zM cf.gY];(letI iz:Zc:=⟨ea⟩;exact(cj (f7 (ah (rf (c:=.ty "ValueError") (cv:=.type "ValueError") (λu h=>h) cf.ff) (ah (rf (c:=.ref b8) (cv:=.ref b8) (λu h=>h) cf.gR) (ah (rf (c:=.ref dC) (cv:=.ref dC) (λu h=>h) cf.gQ) (ah (rf (c:=.ref fX) (cv:=.ref fX) (λu h=>h) cf.iJ) aD)))))))
      ·
       cases h))
   (cP af))) rfl h⟩
theorem tF(Z:fT mg)(T:Top K mg "pile_credit" j4) :Def P w K mg base CX0 1 "pile_credit" ["pile"] (spM fR):=by
 have cw:mg "len"=none:=Z _ (by decide+kernel)
 refine T.def mX (λvs H Q E h=>dU h) (λ_ _ _ _ _ _ us hl=>match us,hl with| [_],_=>rfl) λf cdv A outer s H vs Q E hr h=>?_
 have hu:=hr.units;exact⟨_,(aq (Bx (rJ (i0:=1) (fr:=[("pile",0)]) rfl mX.nd rfl (by walk_at "l") ⟨rfl,rfl,rfl,rfl,rfl,rfl,by decide+kernel⟩ (Hj (aN (aA (K:=K) rfl) (pv 0) aw (λ_ _=>rfl))) (λ_ _ _ _=>(oB (dA (aN (aA (K:=K) rfl) (bH (hv1 hu) (aN (aA (K:=K) rfl) (pv 1) aw (λ_ _=>rfl)) (pv 0) (λ_ _=>rfl)) aw (λ_ _=>rfl))))) (λ_ _ _ _=>(pv 0))))
   (aH (bq (bL (d6 (K:=K) rfl) (aU (bG (K:=K) rfl) rfl cw zaE (aa (aN (aA (K:=K) rfl) (pv 0) aw (λ_ _=>rfl)) au)) (bL vU aw (aU (bG (K:=K) rfl) rfl cw zaE (aa (pv 1) au))))))),
   fI (n:=1) (k:=1) (a6 (cj (KC (Hk (j:=1) yo) (fP (av bJ (av cY (av bJ af az) af) az)) af))
   (cP (av iL (cq eJ (ah (av bJ af az) aD)) (av Eh az (cq eJ (ah af aD)))))) rfl h⟩
theorem ug(Z:fT mg)(T:Top K mg "most_below" lE) :Def P w K mg base CX0 1 "most_below" ["n"] (spM iW):=by
 refine T.def dk (λvs H Q E h=>dU h) (λ_ _ _ _ _ _ us hl=>match us,hl with| [_],_=>rfl) λf cdv A outer s H vs Q E hr h=>?_
 have hu:=hr.units;exact⟨_,(aq (a0 (i:=1) dk.nd rfl (by walk_at "l") aw)
   (aq (a0 (i:=2) dk.nd rfl (by walk_at "l") aw)
   (aq (a0 (i:=3) dk.nd rfl (by walk_at "l") aw)
   (aq (oz PassesOwn.never (bA Li (pv 3) (pv 0) (bO _))
   (aq (a0 (i:=4) dk.nd rfl (by walk_at "l") (bL (d6 (K:=K) rfl) (pv 2) (pv 3)))
   (aq (a0 (i:=2) dk.nd rfl (by walk_at "l") (pv 3))
   (aq (a0 (i:=3) dk.nd rfl (by walk_at "l") (pv 4))
   (aH (Jy (i:=1) dk.nd rfl (by walk_at "l") aw Jz))))))
   (aH (bq (pv 1))))))),
   fI (n:=1) (k:=4) (a6 (cj az)
   (a6 (cj az)
   (a6 (cj az)
   (a6 (rQ (a9 (av Ef af af))
   (a6 (cj (av iL af af))
   (a6 (cj af)
   (a6 (cj af)
   (J6 az)))))
   (cP af))))) rfl h⟩
theorem pd(Z:fT mg)(T:Top K mg "_law_hang_right" gX)(fA:Def P w K mg base CX0 1 "_law_before" ["_law_held","_law_one","_law_other"] (spM dE)):Def P w K mg base CX0 2 "_law_hang_right" ["_law_tops","_law_held","_law_step"] (spM fq):=by
 have cw:mg "len"=none:=Z _ (by decide+kernel)
 have ee:mg "tuple"=none:=Z _ (by decide+kernel)
 have a7:mg "isinstance"=none:=Z _ (by decide+kernel)
 refine T.def o7 (λvs H Q E h=>dU h) (λ_ _ _ _ _ _ us hl=>match us,hl with| [_,_,_],_=>rfl) λf cdv A outer s H vs Q E hr h=>?_
 have hu:=hr.units;exact⟨_,(aq (dz (PW.pt (gh (fF (dA (aU gy rfl a7 zaB (aa (pv 2) (aa (lR ee za2) au))))) (gh (bA (eR (K:=K) rfl hu) (aU (bG (K:=K) rfl) rfl cw zaE (aa (pv 2) au)) aw (bO _)) (gh (bA (eR (K:=K) rfl hu) (aN (aA (K:=K) rfl) (pv 2) aw (λ_ _=>rfl)) dX (bO _)) (gU (bA (jT (K:=K) rfl hu) (aN (aA (K:=K) rfl) (pv 2) aw (λ_ _=>rfl)) (aN (aA (K:=K) rfl) (pv 2) aw (λ_ _=>rfl)) (bO _)))))))
   (aH (bq dD))
   bY)
   (aq (dz (PW.pt (gh (bA (uF (K:=K) rfl) (aN (aA (K:=K) rfl) (pv 2) aw (λ_ _=>rfl)) (pv 0) rfl) (gh (bA (uF (K:=K) rfl) (aN (aA (K:=K) rfl) (pv 2) aw (λ_ _=>rfl)) (pv 0) rfl) (gU (fF (dA (bB fA (hr.mono (by omega)) (aa (pv 1) (aa (aN (aA (K:=K) rfl) (pv 2) aw (λ_ _=>rfl)) (aa (aN (aA (K:=K) rfl) (pv 2) aw (λ_ _=>rfl)) au))))))))))
   (aH (bq dD))
   bY)
   (aH (bq (kQ (jT (K:=K) rfl hu) (aU (bG (K:=K) rfl) rfl cw zaE (aa (aN (aA (K:=K) rfl) (bH (hv1 hu) (pv 1) (aN (aA (K:=K) rfl) (pv 2) aw (λ_ _=>rfl)) (λ_ _=>rfl)) aw (λ_ _=>rfl)) au)) (aU (bG (K:=K) rfl) rfl cw zaE (aa (aN (aA (K:=K) rfl) (bH (hv1 hu) (pv 1) (aN (aA (K:=K) rfl) (pv 2) aw (λ_ _=>rfl)) (λ_ _=>rfl)) aw (λ_ _=>rfl)) au)) (bO _)))))),
   fI (n:=3) (k:=0) (a6 (jj (gz (fZ (fP (ml af))) (gz (a9 (av mh (cq eJ (ah af aD)) az)) (gz (a9 (av mh (av bJ af az) fG)) (a9 (av tR (av bJ af az) (av bJ af az))))))
   (cP eP)
   eI)
   (a6 (jj (gz (a9 (av yw (av bJ af az) af)) (gz (a9 (av yw (av bJ af az) af)) (fZ (fP (bZ (ah af (ah (av bJ af az) (ah (av bJ af az) aD))))))))
   (cP eP)
   eI)
   (cP (av tR (cq eJ (ah (av bJ (av cY af (av bJ af az)) az) aD)) (cq eJ (ah (av bJ (av cY af (av bJ af az)) az) aD)))))) rfl h⟩
theorem uh(Z:fT mg)(T:Top K mg "_law_walked" lF)(gZ:Def P w K mg base CX0 1 "_law_hung" ["_law_tops","_law_held","_law_name","_law_on"] (spJ eW))(g6:Def P w K mg base CX0 2 "_law_hang_right" ["_law_tops","_law_held","_law_step"] (spM fq))(i9:Def P w K mg base CX0 1 "_law_cut" ["_law_tops","_law_held","_law_name"] (spJ fo)):Def P w K mg base CX0 3 "_law_walked" ["_law_tops","_law_held","_law_name","_law_steps"] (spQ iX):=by
 have cw:mg "len"=none:=Z _ (by decide+kernel)
 have Jp:mg "set"=none:=Z _ (by decide+kernel)
 refine T.def cU (λvs H Q E h=>k7 h) (λ_ _ _ _ _ _ us hl=>match us,hl with| [_,_,_,_],_=>rfl) λf cdv A outer s H vs Q E hr h=>?_
 have hu:=hr.units;exact⟨_,(aq (a0 (i:=4) cU.nd rfl (by walk_at "l") (bB i9 (hr.mono (by omega)) (aa (pv 0) (aa (pv 1) (aa (pv 2) au)))))
   (aq (a0 (i:=5) cU.nd rfl (by walk_at "l") (aN (aA (K:=K) rfl) (fJ (K:=K) rfl PySem.F.plainAttrs_dict PySem.F.slot_dict_pop PySem.F.type_dict_pop wx (pv 1) (aa (pv 2) au)) aw (λ_ _=>rfl)))
   (aq (cN (fJ (K:=K) rfl zaJ PySem.F.slot_list_remove PySem.F.type_list_remove By (pv 0) (aa (pv 2) au)))
   (aq (jb PassesOwn.never rfl (qY (K:=K) rfl (pv 5)) (bh (i:=6) cU.nd rfl (by walk_at "l"))
   (aq (pf (bH (hv1 hu) (pv 1) (pv 6) (λ_ _=>rfl)) (jC rfl (bP (bh (i:=7) cU.nd rfl (by walk_at "l")) (bP (bh (i:=8) cU.nd rfl (by walk_at "l")) (bP (bh (i:=9) cU.nd rfl (by walk_at "l")) (bP (bh (i:=10) cU.nd rfl (by walk_at "l")) jA))))))
   (aq (dW (hv1 hu) (pv 1) (pv 6) (bR (aa (pv 7) (aa eM (aa dD (aa (pv 10) au))))) rfl)
   (aq (cN (fJ (K:=K) rfl zaJ zaV zaU dY (pv 0) (aa (pv 6) au)))
   (aH (cN (fJ (K:=K) rfl zaJ zaV zaU dY (pv 4) (aa (bR (aa dX (aa (pv 6) au))) au))))))))
   (aq (dz (bA (eR (K:=K) rfl hu) (l8 (mn (K:=K) rfl) (pv 3) vz (kR (aU (bG (K:=K) rfl) rfl cw zaE (aa (pv 4) au)))) (pv 4) (bO _))
   (aH (bq dD))
   bY)
   (aq (jb PassesOwn.never rfl (gD (K:=K) rfl (l8 (mn (K:=K) rfl) (pv 3) (kR (aU (bG (K:=K) rfl) rfl cw zaE (aa (pv 4) au))) vz)) (bh (i:=11) cU.nd rfl (by walk_at "l"))
   (aq (dz (fF (dA (bB g6 (hr.mono (by omega)) (aa (pv 0) (aa (pv 1) (aa (pv 11) au))))))
   (aH (bq dD))
   bY)
   (aH (cN (bB gZ (hr.mono (by omega)) (aa (pv 0) (aa (pv 1) (aa (aN (aA (K:=K) rfl) (pv 11) aw (λ_ _=>rfl)) (aa (aN (aA (K:=K) rfl) (pv 11) aw (λ_ _=>rfl)) au)))))))))
   (aH (bq (kQ (jT (K:=K) rfl hu) (aU CQ rfl cw zaE (aa (dr (CP rfl) rfl Jp PyProof.Rows.boot_set (aa (xG (fr:=[("_law_held",1)]) rfl ⟨rfl,rfl,rfl,rfl,rfl,rfl,by decide+kernel⟩ (gD (K:=K) rfl (pv 0)) (λ_ _ _ _=>vJ) (λ_ _ _ _=>(aU (bG (K:=K) rfl) rfl cw zaE (aa (aN (aA (K:=K) rfl) (bH (hv1 hu) (pv 1) (pv 0) (λ_ _=>rfl)) aw (λ_ _=>rfl)) au)))) au)) au)) (aU (bG (K:=K) rfl) rfl cw zaE (aa (pv 0) au)) (bO _)))))))))),
   k6 (n:=4) (k:=8) (aZ (cn (yy (aJ aL (aJ aL (aJ aL bT)))) bx)
   (aZ (cn (fD (wy aL (aJ aL bT)) (bW λ_=>.int _)) bx)
   (aZ (fU (LY yt aL (aJ aL bT)))
   (aZ (EO (Eb af) bx
   (aZ (cn (eF (av cY af af)) (Bi (kz (kz (kz (kz Bh))))))
   (aZ (jF aL aL (f9 (aJ aL (aJ (bW λ_=>.non) (aJ (bW λ_=>.bl _) (aJ aL bT))))))
   (aZ (fU (pL aL (aJ aL bT)))
   (fU (pL aL (aJ (f9 (aJ (bW λ_=>.str _) (aJ aL bT))) bT)))))))
   (aZ (ku (oN (a9 (av mh (xJ Ei af vM (kU (cq eJ (ah af aD)))) af)))
   (eV (bW λ_=>.bl _))
   fk)
   (aZ (rg (eF (xJ Ei af (kU (cq eJ (ah af aD))) vM)) bx
   (aZ (ku (oN (fZ (fP (bZ (ah af (ah af (ah af aD)))))))
   (eV (bW λ_=>.bl _))
   fk)
   (fU (yy (aJ aL (aJ aL (aJ (fD aL (bW λ_=>.int _)) (aJ (fD aL (bW λ_=>.int _)) bT))))))))
   (eV (eF (av tR (Fw (uB (qW af) Ee (cq eJ (ah (av bJ (av cY af af) az) aD)))) (cq eJ (ah af aD))))))))))) rfl h⟩
theorem tG(Z:fT mg)(T:Top K mg "_law_without" j5)(dq:Def P w K mg base CX0 2 "_law_is_pile" ["_law_found","_law_tops","_law_held"] (spM cT))(ia:Def P w K mg base CX0 1 "pile_credit" ["pile"] (spM fR))(lO:Def P w K mg base CX0 3 "_law_walked" ["_law_tops","_law_held","_law_name","_law_steps"] (spQ iX))(ql:Def P w K mg base CX0 4 "put_out" ["pile","name"] (spQ ny))(lP:Def P w K mg base CX0 1 "most_below" ["n"] (spM iW)):Def P w K mg base CX0 5 "_law_without" ["_law_pile","_law_tops","_law_held","_law_name"] (spQ hZ):=by
 have cw:mg "len"=none:=Z _ (by decide+kernel)
 have tq:mg "bool"=none:=Z _ (by decide+kernel)
 have a7:mg "isinstance"=none:=Z _ (by decide+kernel)
 have j7:mg "list"=none:=Z _ (by decide+kernel)
 have ee:mg "tuple"=none:=Z _ (by decide+kernel)
 have iK:mg "dict"=none:=Z _ (by decide+kernel)
 refine T.def gP (λvs H Q E h=>k7 h) (λ_ _ _ _ _ _ us hl=>match us,hl with| [_,_,_,_],_=>rfl) λf cdv A outer s H vs Q E hr h=>?_
 have hu:=hr.units;exact⟨_,(aq (a0 (i:=4) gP.nd rfl (by walk_at "l") (bR (aa (dr (rR (K:=K) rfl) rfl j7 PyProof.Rows.boot_list (aa (pv 1) au)) (aa (dr jr rfl iK PyProof.Rows.boot_dict (aa (pv 2) au)) au))))
   (aq (a0 (i:=5) gP.nd rfl (by walk_at "l") (bL (d6 (K:=K) rfl) (bL (d6 (K:=K) rfl) (bB ia (hr.mono (by omega)) (aa (pv 0) au)) aw) (bL vU aw (bB lP (hr.mono (by omega)) (aa (aU kB rfl cw zaE (aa (pv 2) au)) au)))))
   (aq (a0 (i:=6) gP.nd rfl (by walk_at "l") (bB ql (hr.mono (by omega)) (aa (pv 0) (aa (pv 3) au))))
   (aq (dz (PW.pt (gh (fF (dA (aU gy rfl a7 zaB (aa (pv 6) (aa (lR ee za2) au))))) (gh (bA (eR (K:=K) rfl hu) (aU (bG (K:=K) rfl) rfl cw zaE (aa (pv 6) au)) aw (bO _)) (gU (fF (dA (aU gy rfl a7 zaB (aa (aN (aA (K:=K) rfl) (pv 6) aw (λ_ _=>rfl)) (aa (lR j7 PyProof.Rows.boot_list) au)))))))))
   (aH (bq eM))
   bY)
   (aq (dz (PW.pt (gh (bA (eR (K:=K) rfl hu) (aN (aA (K:=K) rfl) (pv 6) aw (λ_ _=>rfl)) (aN (aA (K:=K) rfl) (bH (hv1 hu) (pv 2) (pv 3) (λ_ _=>rfl)) aw (λ_ _=>rfl)) (bO _)) (gU (dA (aU gy rfl a7 zaB (aa (aN (aA (K:=K) rfl) (pv 6) aw (λ_ _=>rfl)) (aa (lR tq PyProof.Rows.boot_bool) au)))))))
   (aH (bq eM))
   bY)
   (aq (dz (PW.pt (gh (fF (dA (bB lO (hr.mono (by omega)) (aa (pv 1) (aa (pv 2) (aa (pv 3) (aa (aN (aA (K:=K) rfl) (pv 6) aw (λ_ _=>rfl)) au))))))) (gU (fF (dA (bB dq (hr.mono (by omega)) (aa (aN (aA (K:=K) rfl) (pv 6) aw (λ_ _=>rfl)) (aa (pv 1) (aa (pv 2) au)))))))))
   (aH (bq eM))
   bY)
   (aq (dz (PW.pt (gh (bA AI (bL (d6 (K:=K) rfl) (aU (bG (K:=K) rfl) rfl cw zaE (aa (aN (aA (K:=K) rfl) (pv 6) aw (λ_ _=>rfl)) au)) (bB ia (hr.mono (by omega)) (aa (aN (aA (K:=K) rfl) (pv 6) aw (λ_ _=>rfl)) au))) (pv 5) (bO _)) (gU (fF (dA (bB dq (hr.mono (by omega)) (aa (pv 0) (aa (aN (aA (K:=K) rfl) (pv 4) aw (λ_ _=>rfl)) (aa (aN (aA (K:=K) rfl) (pv 4) aw (λ_ _=>rfl)) au)))))))))
   (aH (bq eM))
   bY)
   (aq (cN (fJ (K:=K) rfl zaJ zaV zaU dY (aN (aA (K:=K) rfl) (pv 6) aw (λ_ _=>rfl)) (aa dX au)))
   (aq (cN (vX (K:=K) rfl zaJ PySem.F.slot_list_clear PySem.F.type_list_clear DO (aN (aA (K:=K) rfl) (pv 0) aw (λ_ _=>rfl))))
   (aq (cN (vX (K:=K) rfl PySem.F.plainAttrs_dict PySem.F.slot_dict_clear PySem.F.type_dict_clear CW (aN (aA (K:=K) rfl) (pv 0) aw (λ_ _=>rfl))))
   (aq (dz (fF (dA (bB dq (hr.mono (by omega)) (aa (aN (aA (K:=K) rfl) (pv 6) aw (λ_ _=>rfl)) (aa (pv 1) (aa (pv 2) au))))))
   (aH (bq eM))
   bY)
   (aH (bq (aN (aA (K:=K) rfl) (pv 6) aw (λ_ _=>rfl))))))))))))))),
   k6 (n:=4) (k:=3) (aZ (cn (f9 (aJ (eF (cq Ej (ah af aD))) (aJ (eF (cq oQ (ah af aD))) bT))) bx)
   (aZ (cn (eF (av iL (av iL (bZ (ah af aD)) az) (av Eh az (bZ (ah (cq sA (ah af aD)) aD))))) bx)
   (aZ (cn (il (aJ aL (aJ aL bT))) bx)
   (aZ (ku (oN (gz (fZ (fP (ml af))) (gz (a9 (av mh (cq eJ (ah af aD)) az)) (fZ (fP (ml (av bJ af az)))))))
   (eV (bW λ_=>.non))
   fk)
   (aZ (ku (oN (gz (a9 (av mh (av bJ af az) (av bJ (av cY af af) az))) (fP (ml (av bJ af az)))))
   (eV (bW λ_=>.non))
   fk)
   (aZ (ku (LW (Kt (LV (il (aJ aL (aJ aL (aJ aL (aJ (fD aL (bW λ_=>.int _)) bT))))))) (oN (fZ (fP (bZ (ah (av bJ af az) (ah af (ah af aD))))))))
   (eV (bW λ_=>.non))
   fk)
   (aZ (ku (oN (gz (a9 (av Ef (av iL (cq eJ (ah (av bJ af az) aD)) (bZ (ah (av bJ af az) aD))) af)) (fZ (fP (bZ (ah af (ah (av bJ af az) (ah (av bJ af az) aD))))))))
   (eV (bW λ_=>.non))
   fk)
   (aZ (fU (pL (fD aL (bW λ_=>.int _)) (aJ (bW λ_=>.str _) bT)))
   (aZ (fU (KD GO (fD aL (bW λ_=>.int _))))
   (aZ (fU (Hq (fD aL (bW λ_=>.int _))))
   (aZ (ku (oN (fZ (fP (bZ (ah (av bJ af az) (ah af (ah af aD)))))))
   (eV (bW λ_=>.non))
   fk)
   (eV (fD aL (bW λ_=>.int _)))))))))))))) rfl h⟩
theorem La(NL:qZ K=true)(Z:fT mg)(F:Fun K "law" "law" BZ f fd)(dq:Def P w K mg base CX0 2 "_law_is_pile" ["_law_found","_law_tops","_law_held"] (spM cT))(ib:Def P w K mg base CX0 3 "_law_refused" ["_law_pile","_law_name"] (spM dP))(j8:Def P w K mg base CX0 5 "_law_without" ["_law_pile","_law_tops","_law_held","_law_name"] (spQ hZ))(lQ:Def P w K mg base CX0 15 "_law_begun" ["_law_cells"] (spD ir)):l7 P w K mg base CX0 16 f fd ["_law_script"] (DR K):=by
 have cw:mg "len"=none:=Z _ (by decide+kernel)
 have j7:mg "list"=none:=Z _ (by decide+kernel)
 have iK:mg "dict"=none:=Z _ (by decide+kernel)
 refine l7.imp (sp:=spM Jf) ?_ (J9 NL Gb);refine F.ok lG (λvs H Q E h=>He h) λcdv A outer s H vs Q E hr h=>?_
 have hu:=hr.units;exact⟨_,(aq (pf (bB lQ (hr.mono (by omega)) (aa (l8 (mn (K:=K) rfl) (pv 0) (kR aw) (kR aw)) au)) (jC rfl (bP (bh (i:=1) lG.nd rfl (by walk_at "l")) (bP (bh (i:=2) lG.nd rfl (by walk_at "l")) jA))))
   (aq (a0 (i:=3) lG.nd rfl (by walk_at "l") (bR (aa (dr (rR (K:=K) rfl) rfl j7 PyProof.Rows.boot_list (aa (pv 1) au)) (aa (dr jr rfl iK PyProof.Rows.boot_dict (aa (pv 2) au)) au))))
   (aq (jb PassesOwn.never rfl (gD (K:=K) rfl (l8 (mn (K:=K) rfl) (pv 0) vz (kR aw))) (bh (i:=4) lG.nd rfl (by walk_at "l"))
   (aq (a0 (i:=5) lG.nd rfl (by walk_at "l") (aN (aA (K:=K) rfl) (eN (aa dX (aa dX (aa dX (aa dX (aa dX au)))))) (bL d3 (pv 4) aw) (λ_ _=>rfl)))
   (aq (dz (bA (eR (K:=K) rfl hu) (bB ib (hr.mono (by omega)) (aa (pv 3) (aa (pv 5) au))) (eN (aa dD (aa dD (aa dD (aa dD au))))) (bO _))
   (aH (bq dD))
   bY)
   (aq (a0 (i:=6) lG.nd rfl (by walk_at "l") (dr (qA rfl) rfl j7 PyProof.Rows.boot_list (aa (pv 2) au)))
   (aH (dz (bA (eR (K:=K) rfl hu) (pv 6) (eN au) (bO _))
   (aq (a0 (i:=7) lG.nd rfl (by walk_at "l") (aN (aA (K:=K) rfl) (pv 6) (bL d3 (pv 4) (aU (bG (K:=K) rfl) rfl cw zaE (aa (pv 6) au))) (λ_ _=>rfl)))
   (aq (a0 (i:=3) lG.nd rfl (by walk_at "l") (bB j8 (hr.mono (by omega)) (aa (pv 3) (aa (pv 1) (aa (pv 2) (aa (pv 7) au))))))
   (aH (dz (PW.pt (gh (bA zx (pv 3) eM (bO _)) (gU (bA (eR (K:=K) rfl hu) (bB ib (hr.mono (by omega)) (aa (pv 3) (aa (pv 7) au))) (eN (aa dD (aa dD (aa dD (aa dD au))))) (bO _)))))
   (aH (bq dD))
   bY))))
   bY))))))
   (aH (bq (bB dq (hr.mono (by omega)) (aa (pv 3) (aa (pv 1) (aa (pv 2) au))))))))),
   Hd (n:=1) (k:=7) (aZ (cn (Fp (aJ (eF (xJ Ei af (kU az) (kU az))) bT)) (Bi (kz (kz Bh))))
   (aZ (cn (f9 (aJ (eF (cq Ej (ah af aD))) (aJ (eF (cq oQ (ah af aD))) bT))) bx)
   (aZ (rg (eF (xJ Ei af vM (kU az))) bx
   (aZ (cn (eF (av bJ (f7 (ah fG (ah fG (ah fG (ah fG (ah fG aD)))))) (av J_I af az))) bx)
   (aZ (ku (oN (a9 (av mh (bZ (ah af (ah af aD))) (f7 (ah eP (ah eP (ah eP (ah eP aD))))))))
   (eV (bW λ_=>.bl _))
   fk)
   (aZ (cn (eF (cq Bu (ah af aD))) bx)
   (ku (oN (a9 (av mh af (f7 aD))))
   (aZ (cn (fD aL (eF (av J_I af (cq eJ (ah af aD))))) bx)
   (aZ (cn (il (aJ aL (aJ aL (aJ aL (aJ aL bT))))) bx)
   (ku (oN (gz (a9 (av J7 af jh)) (a9 (av mh (bZ (ah af (ah af aD))) (f7 (ah eP (ah eP (ah eP (ah eP aD)))))))))
   (eV (bW λ_=>.bl _))
   fk)))
   fk)))))
   (eV (eF (bZ (ah af (ah af (ah af aD))))))))) rfl h⟩
end
end K76
open PySem PySem.W PyProof.Rows
set_option maxRecDepth 100000 in
set_option maxHeartbeats 0 in
theorem PySem.Challenge.cw_creditworks_k76_names_put_out_holds : PySem.Challenge.rw_creditworks_k76_names_put_out.Holds := by
 w_on;o_law;k_head;(case hw=>w_witness2)
 k_fill
 refine L2.DS (l:=PySem.Challenge.rw_creditworks_k76_names_put_out) (k:=16) (x:="_law_script") (st:=K76.BZ) rfl rfl ⟨rfl,by decide,by decide⟩ (λw h Y=>PySem.W.kIn_of Y) (λ_ _ _ _ _ _ _=>rfl) ?F
 case F=>
  intro w mg h KX G;have Az:L2.Top (L2.KOf KX) mg "_law_like" K76.oh:=by
   dsimp only[L2.KOf];refine' L2.Top.mk' KX G ?a ?l ?c ?k
   (case a=>k_is);(case l=>k_is);(case c=>k_is);(case k=>k_is)
  have Dq:L2.Top (L2.KOf KX) mg "_law_cut" K76.qd:=by
   dsimp only[L2.KOf];refine' L2.Top.mk' KX G ?a ?l ?c ?k
   (case a=>k_is);(case l=>k_is);(case c=>k_is);(case k=>k_is)
  have xh:L2.Top (L2.KOf KX) mg "_law_before" K76.lA:=by
   dsimp only[L2.KOf];refine' L2.Top.mk' KX G ?a ?l ?c ?k
   (case a=>k_is);(case l=>k_is);(case c=>k_is);(case k=>k_is)
  have AA:L2.Top (L2.KOf KX) mg "_law_hung" K76.om:=by
   dsimp only[L2.KOf];refine' L2.Top.mk' KX G ?a ?l ?c ?k
   (case a=>k_is);(case l=>k_is);(case c=>k_is);(case k=>k_is)
  have ui:L2.Top (L2.KOf KX) mg "_law_name_by" K76.jX:=by
   dsimp only[L2.KOf];refine' L2.Top.mk' KX G ?a ?l ?c ?k
   (case a=>k_is);(case l=>k_is);(case c=>k_is);(case k=>k_is)
  have xi:L2.Top (L2.KOf KX) mg "_law_key_by" K76.lB:=by
   dsimp only[L2.KOf];refine' L2.Top.mk' KX G ?a ?l ?c ?k
   (case a=>k_is);(case l=>k_is);(case c=>k_is);(case k=>k_is)
  have y0:L2.Top (L2.KOf KX) mg "_law_built" K76.mT:=by
   dsimp only[L2.KOf];refine' L2.Top.mk' KX G ?a ?l ?c ?k
   (case a=>k_is);(case l=>k_is);(case c=>k_is);(case k=>k_is)
  have y3:L2.Top (L2.KOf KX) mg "_law_grown" K76.mU:=by
   dsimp only[L2.KOf];refine' L2.Top.mk' KX G ?a ?l ?c ?k
   (case a=>k_is);(case l=>k_is);(case c=>k_is);(case k=>k_is)
  have za:L2.Top (L2.KOf KX) mg "_law_begun" K76.mV:=by
   dsimp only[L2.KOf];refine' L2.Top.mk' KX G ?a ?l ?c ?k
   (case a=>k_is);(case l=>k_is);(case c=>k_is);(case k=>k_is)
  have tH:L2.Top (L2.KOf KX) mg "_law_is_entry" K76.jv:=by
   dsimp only[L2.KOf];refine' L2.Top.mk' KX G ?a ?l ?c ?k
   (case a=>k_is);(case l=>k_is);(case c=>k_is);(case k=>k_is)
  have uj:L2.Top (L2.KOf KX) mg "_law_is_pile" K76.jY:=by
   dsimp only[L2.KOf];refine' L2.Top.mk' KX G ?a ?l ?c ?k
   (case a=>k_is);(case l=>k_is);(case c=>k_is);(case k=>k_is)
  have pe:L2.Top (L2.KOf KX) mg "hold_there" K76.i5:=by
   dsimp only[L2.KOf];refine' L2.Top.mk' KX G ?a ?l ?c ?k
   (case a=>k_is);(case l=>k_is);(case c=>k_is);(case k=>k_is)
  have tJ:L2.Top (L2.KOf KX) mg "names_to_cut" K76.jx:=by
   dsimp only[L2.KOf];refine' L2.Top.mk' KX G ?a ?l ?c ?k
   (case a=>k_is);(case l=>k_is);(case c=>k_is);(case k=>k_is)
  have Dr:L2.Top (L2.KOf KX) mg "without" K76.qe:=by
   dsimp only[L2.KOf];refine' L2.Top.mk' KX G ?a ?l ?c ?k
   (case a=>k_is);(case l=>k_is);(case c=>k_is);(case k=>k_is)
  have Gd:L2.Top (L2.KOf KX) mg "as_top" K76.tj:=by
   dsimp only[L2.KOf];refine' L2.Top.mk' KX G ?a ?l ?c ?k
   (case a=>k_is);(case l=>k_is);(case c=>k_is);(case k=>k_is)
  have zb:L2.Top (L2.KOf KX) mg "with_mark" K76.mW:=by
   dsimp only[L2.KOf];refine' L2.Top.mk' KX G ?a ?l ?c ?k
   (case a=>k_is);(case l=>k_is);(case c=>k_is);(case k=>k_is)
  have Ds:L2.Top (L2.KOf KX) mg "cut_off" K76.qf:=by
   dsimp only[L2.KOf];refine' L2.Top.mk' KX G ?a ?l ?c ?k
   (case a=>k_is);(case l=>k_is);(case c=>k_is);(case k=>k_is)
  have Lb:L2.Top (L2.KOf KX) mg "hang" K76.As:=by
   dsimp only[L2.KOf];refine' L2.Top.mk' KX G ?a ?l ?c ?k
   (case a=>k_is);(case l=>k_is);(case c=>k_is);(case k=>k_is)
  have AB:L2.Top (L2.KOf KX) mg "standing" K76.oq:=by
   dsimp only[L2.KOf];refine' L2.Top.mk' KX G ?a ?l ?c ?k
   (case a=>k_is);(case l=>k_is);(case c=>k_is);(case k=>k_is)
  have xj:L2.Top (L2.KOf KX) mg "hang_alike" K76.lC:=by
   dsimp only[L2.KOf];refine' L2.Top.mk' KX G ?a ?l ?c ?k
   (case a=>k_is);(case l=>k_is);(case c=>k_is);(case k=>k_is)
  have AD:L2.Top (L2.KOf KX) mg "take_top" K76.ot:=by
   dsimp only[L2.KOf];refine' L2.Top.mk' KX G ?a ?l ?c ?k
   (case a=>k_is);(case l=>k_is);(case c=>k_is);(case k=>k_is)
  have vn:L2.Top (L2.KOf KX) mg "put_out" K76.nL:=by
   dsimp only[L2.KOf];refine' L2.Top.mk' KX G ?a ?l ?c ?k
   (case a=>k_is);(case l=>k_is);(case c=>k_is);(case k=>k_is)
  have uk:L2.Top (L2.KOf KX) mg "_law_refused" K76.j0:=by
   dsimp only[L2.KOf];refine' L2.Top.mk' KX G ?a ?l ?c ?k
   (case a=>k_is);(case l=>k_is);(case c=>k_is);(case k=>k_is)
  have um:L2.Top (L2.KOf KX) mg "pile_credit" K76.j4:=by
   dsimp only[L2.KOf];refine' L2.Top.mk' KX G ?a ?l ?c ?k
   (case a=>k_is);(case l=>k_is);(case c=>k_is);(case k=>k_is)
  have xk:L2.Top (L2.KOf KX) mg "most_below" K76.lE:=by
   dsimp only[L2.KOf];refine' L2.Top.mk' KX G ?a ?l ?c ?k
   (case a=>k_is);(case l=>k_is);(case c=>k_is);(case k=>k_is)
  have qm:L2.Top (L2.KOf KX) mg "_law_hang_right" K76.gX:=by
   dsimp only[L2.KOf];refine' L2.Top.mk' KX G ?a ?l ?c ?k
   (case a=>k_is);(case l=>k_is);(case c=>k_is);(case k=>k_is)
  have xl:L2.Top (L2.KOf KX) mg "_law_walked" K76.lF:=by
   dsimp only[L2.KOf];refine' L2.Top.mk' KX G ?a ?l ?c ?k
   (case a=>k_is);(case l=>k_is);(case c=>k_is);(case k=>k_is)
  have uo:L2.Top (L2.KOf KX) mg "_law_without" K76.j5:=by
   dsimp only[L2.KOf];refine' L2.Top.mk' KX G ?a ?l ?c ?k
   (case a=>k_is);(case l=>k_is);(case c=>k_is);(case k=>k_is)
  have MM:L2.Top (L2.KOf KX) mg "law" K76.BZ:=by
   dsimp only[L2.KOf];refine' L2.Top.mk' KX G ?a ?l ?c ?k
   (case a=>k_is);(case l=>k_is);(case c=>k_is);(case k=>k_is)
  have pb:mg "ValueError"=none:=by
   refine' za0 KX G ?z
   (case z=>k_is)
  have tq:mg "bool"=none:=by
   refine' za0 KX G ?z
   (case z=>k_is)
  have iK:mg "dict"=none:=by
   refine' za0 KX G ?z
   (case z=>k_is)
  have qJ:mg "enumerate"=none:=by
   refine' za0 KX G ?z
   (case z=>k_is)
  have a7:mg "isinstance"=none:=by
   refine' za0 KX G ?z
   (case z=>k_is)
  have cw:mg "len"=none:=by
   refine' za0 KX G ?z
   (case z=>k_is)
  have j7:mg "list"=none:=by
   refine' za0 KX G ?z
   (case z=>k_is)
  have Jo:mg "max"=none:=by
   refine' za0 KX G ?z
   (case z=>k_is)
  have o8:mg "range"=none:=by
   refine' za0 KX G ?z
   (case z=>k_is)
  have Jp:mg "set"=none:=by
   refine' za0 KX G ?z
   (case z=>k_is)
  have ee:mg "tuple"=none:=by
   refine' za0 KX G ?z
   (case z=>k_is)
  have Z:K76.fT mg:=by
   intro x hx;simp only[List.mem_cons,List.not_mem_nil,or_false]at hx;rcases hx with rfl|rfl|rfl|rfl|rfl|rfl|rfl|rfl|rfl|rfl|rfl<;>assumption
  have NL:Mir.qZ (L2.KOf KX)=true:=by
   dsimp only[L2.KOf]
   first|rfl|kernel_rfl|k_is
  have CFF:∃b8 cV fX dC,K76.CF (L2.KOf KX) mg b8 cV fX dC:=by
   dsimp only[L2.KOf];refine' ⟨_,_,_,_,⟨?qg,PySem.W.mg_of KX G ?gY,PySem.W.mg_of KX G ?j6,⟨?zc,?zd,?ze,?zf,?zg,?zk,?zl,?zm⟩,PySem.W.mg_of KX G ?xf,?iJ,PySem.W.mg_of KX G ?qh,?gQ,?gR,?ff,?h_Lacking_CreditError⟩⟩
   (case gY=>k_is)
   (case j6=>k_is)
   (case xf=>k_is)
   (case qh=>k_is)
   (case qg=>first|k_is|k_exc|rfl|kernel_rfl|decide+kernel)
   (case zc=>first|k_is|k_exc|rfl|kernel_rfl|decide+kernel)
   (case zd=>first|k_is|k_exc|rfl|kernel_rfl|decide+kernel)
   (case ze=>first|k_is|k_exc|rfl|kernel_rfl|decide+kernel)
   (case zf=>first|k_is|k_exc|rfl|kernel_rfl|decide+kernel)
   (case zg=>first|k_is|k_exc|rfl|kernel_rfl|decide+kernel)
   (case zk=>first|k_is|k_exc|rfl|kernel_rfl|decide+kernel)
   (case zl=>first|k_is|k_exc|rfl|kernel_rfl|decide+kernel)
   (case zm=>first|k_is|k_exc|rfl|kernel_rfl|decide+kernel)
   (case iJ=>first|k_is|k_exc|rfl|kernel_rfl|decide+kernel)
   (case gQ=>first|k_is|k_exc|rfl|kernel_rfl|decide+kernel)
   (case gR=>first|k_is|k_exc|rfl|kernel_rfl|decide+kernel)
   (case ff=>first|k_is|k_exc|rfl|kernel_rfl|decide+kernel)
   (case h_Lacking_CreditError=>first|k_is|k_exc|rfl|kernel_rfl|decide+kernel)
  obtain⟨b8,cV,fX,dC,cf⟩:=CFF;refine⟨MM,λf fd Ff base kb gb=>?_⟩
  have ou:=K76.yV (P:=zah) (w:=w) (base:=base) Z Az;have i9:=K76.Au (P:=zah) (w:=w) (base:=base) Z Dq;have fA:=K76.ua (P:=zah) (w:=w) (base:=base) Z xh;have gZ:=K76.yW (P:=zah) (w:=w) (base:=base) Z AA;have cF:=K76.tm (P:=zah) (w:=w) (base:=base) Z ui;have eg:=K76.ub (P:=zah) (w:=w) (base:=base) Z xi;have lH:=K76.uc (P:=zah) (w:=w) (base:=base) Z y0 i9 gZ fA eg cF ou;have iC:=K76.o9 (P:=zah) (w:=w) (base:=base) Z y3 cF 12;have lQ:=K76.ud (P:=zah) (w:=w) (base:=base) Z za eg cF iC lH;have jy:=K76.qR (P:=zah) (w:=w) (base:=base) Z tH;have dq:=K76.tw (P:=zah) (w:=w) (base:=base) Z uj jy;have lK:=K76.tD (P:=zah) (w:=w) (base:=base) Z pe cf;have lN:=K76.ue (P:=zah) (w:=w) (base:=base) Z pe;have jz:=K76.qS (P:=zah) (w:=w) (base:=base) Z tJ;have qi:=K76.Av (P:=zah) (w:=w) (base:=base) Z Dr;have kP:=K76.Dp (P:=zah) (w:=w) (base:=base) Z Gd;have mY:=K76.xg (P:=zah) (w:=w) (base:=base) Z zb;have qj:=K76.Aw (P:=zah) (w:=w) (base:=base) Z Ds mY kP qi jz;have Ax:=K76.Ir (P:=zah) (w:=w) (base:=base) Z Lb;have lI:=K76.yX (P:=zah) (w:=w) (base:=base) Z AB
  have lJ:=K76.uf (P:=zah) (w:=w) (base:=base) Z xj Ax lI;have lM:=K76.yY (P:=zah) (w:=w) (base:=base) Z AD lJ kP;have qk:=K76.yZ (P:=zah) (w:=w) (base:=base) Z vn cf lK;have ql:=K76.Ay (P:=zah) (w:=w) (base:=base) Z vn lM qj lN;have ib:=K76.tE (P:=zah) (w:=w) (base:=base) Z uk cf qk;have ia:=K76.tF (P:=zah) (w:=w) (base:=base) Z um;have lP:=K76.ug (P:=zah) (w:=w) (base:=base) Z xk;have g6:=K76.pd (P:=zah) (w:=w) (base:=base) Z qm fA;have lO:=K76.uh (P:=zah) (w:=w) (base:=base) Z xl gZ g6 i9;have j8:=K76.tG (P:=zah) (w:=w) (base:=base) Z uo dq ia lO ql lP;exact K76.La NL Z Ff dq ib j8 lQ

